import PyProof.Rows.All
import Wide.All
import OpenK.AllK
import Wide.FinOn
import HandS.ForMost
import HandS.TupAny
import HandS.IsInst
import HandS.Flow
import HandS.Style
import HandS.Zip
import KE.GoesNew
import PyProof.ReprRoads
import PyProof.Rows.SeqMore
import HandS.Walk
import KE.GoesMore
import PyProof.Rows.IntBool
import HandS.ForExc
import HandS.ExcInit
import HandS.Defaults
import HandS.ExcIs
import HandS.ExcField
import HandS.ExcValue
import KE.KExcIs
import KE.KIsAll
import HandS.FStr
import PyProof.Rows.StrIntSpec
import HandS.Words
import HandS.List
import HandS.Text
import HandS.DeepEq
import KE.GoesEnumKw
import PyProof.Rows.CallKwBuiltin
import KE.GoesEnum
import PyProof.ReprLen
import HandS.SetBool
import HandS.SetFor
import HandS.Strs
import HandS.TupSets
import KE.KTupSum
import HandS.SortInts
import HandS.Conv
import KE.OsArith
import PySem.Challenge.RW_feedreader_k93_whole_least_costs
set_option Elab.async false
set_option linter.all false
set_option maxRecDepth 100000
set_option maxHeartbeats 2000000
/-! Rules that the dates' laws want beside the layer's: repr of data, a list behind the script, zip of a tuple and a list, calls of defs where nothing is being shown by repr. -/
namespace Vz
open PySem PySem.Spec PyProof.Rows L2

/-! ### repr of data -/
def rRepr (K : PySem.W.Frag) : List V → Hp → VK → Prop := fun xs H Q =>
  ∃ (p : Addr) (d : PyData), xs = [.ref p] ∧ Dp K H (.ref p) d ∧ d.showable = true ∧ d.hasDict = false ∧ d.depth ≤ 60 ∧ d.shown.length ≤ sizeLine ∧ Q (.str d.shown) H
theorem repr_data {X : Cx} (gd : X.A.guards = some []) (un : X.A.units + 64 < cLine) : CallR X (.builtin "repr") (rRepr X.K) := by
  intro pins s σ H xs us Q I r h
  obtain ⟨p, d, rfl, hd, sh, nd, dp, sz, q⟩ := h
  obtain ⟨u, rfl, ru⟩ := vals1 r
  obtain ⟨as, rd⟩ := Dp.reads I d _ _ hd ru
  have ru' : u = Value.ref p := ru
  subst ru'
  refine repr_of_reads' rd sh (fun z => ?_) gd (by omega) (fun _ _ e => e) (fun h' tx tk kp => ?_) sz
  · rw [nd] at z; cases z
  · exact ⟨.str d.shown, H, I.kept (t' := tk) kp, ⟨tx, rfl⟩, q⟩

/-! ### a list that is only read, and another one behind it -/
def rCatR (K : PySem.W.Frag) : R2 := fun x y H Q => ∃ (a b : Addr) (xs zs : List V), x = .ref a ∧ y = .ref b ∧ SqL K H a xs ∧ SqL K H b zs ∧ xs.length + zs.length ≤ sizeLine ∧
  ∀ p, H p = none → Q (.ref p) (upd H p (.lst (xs ++ zs)))
theorem op_catR {X : Cx} : OpR X (binaryOp .Add) (rCatR X.K) := by
  intro pins s σ H x y v u Q I rx ry h
  obtain ⟨a, b, xs, zs, rfl, rfl, hA, hB, sz, q⟩ := h
  have ex : v = Value.ref a := rx
  have ey : u = Value.ref b := ry
  subst ex ey
  obtain ⟨its, r1, ⟨o1, n1, g1, c1, d1, e1⟩, _⟩ := I.list hA
  obtain ⟨its2, r2, ⟨o2, n2, g2, c2, d2, e2⟩, _⟩ := I.list hB
  obtain ⟨cl1, dd1, da1, sl1⟩ := o1
  obtain ⟨cl2, dd2, da2, sl2⟩ := o2
  simp only at c1 d1 e1 c2 d2 e2
  subst c1 d1 e1 c2 d2 e2
  have l1 := r1.length
  have l2 := r2.length
  have room : its.toArray.size + its2.toArray.size ≤ sizeLine := by rw [List.size_toArray, List.size_toArray]; omega
  refine concat_meets ⟨_, g1, rfl⟩ ⟨_, g2, rfl⟩ noFill_list_add seq_list_add PySem.F.slot_list_add PySem.F.entry_list_add (PySem.F.args_list_add_2 _ _)
    (list_addW a b its.toArray its2.toArray n1 n2 none none sl1 sl2 room) ⟨g1, g2, ?_⟩
  have ea : its.toArray ++ its2.toArray = (its ++ its2).toArray := by simp
  rw [ea]
  exact ⟨.ref _, _, I.lnew (t' := s.toks) (r1.append r2) (by rw [List.length_append]; omega), rfl, q _ I.fresh⟩

/-! ### calls where no repr is under way -/
structure FnG (P : Program) (w : World) (K : PySem.W.Frag) (mg : Str → Option Value) (base : Heap) (CX : CXT) (k : Nat) (f : Addr) (fd : FuncData) (ps : List Str) (sp : Sp) : Prop where
  many : ∀ vs H Q E, sp vs H Q E → vs.length = ps.length
  goes : ∀ (A : Around) (outer : List Env) (s : Shared) (H : Hp) (args : Args) (us : List Value) (vs : List V) (Q : VK) (E : XK),
    Room k A → A.guards = some [] → Env0 P w K mg base A outer s H → BindsTo s fd args (ps.zip us) → Vals vs us → sp vs H Q E →
    codeAny (model P w) A (.call (.ref f) args) (CR CX outer P w H s Q E) s

section
variable {X : Cx} {CX : CXT} {k : Nat} {f : Addr} {fd : FuncData} {ps : List Str} {sp : Sp} {ds : List Value} {dvs : List V} {E : XK}
theorem pe_callG {x : Str} {p pos : Pos} {e : Expr} {es : List Expr} {t : TA} (G : FnG X.prog X.w X.K X.mg X.base CX k f fd ps sp) (gd : X.A.guards = some []) (hr : Room k X.A) (gl : Gl X x)
    (at_ : X.mg x = some (.ref f)) (kp : PySem.W.keepIn X.K (.ref f) = true) (bd : Binds X.K fd ps ds) (dv : Vals dvs ds) (ps0 : Passes CX X E) (pa : PA X (e :: es) t)
    (nodb : (x == ("__debug__" : Str)) = false := by decide) (st : starEach (e :: es) X.env = (false, eval e X.env) :: starEach es X.env := by rfl)
    (pl : (backTo pos (starEach es X.env)).any (·.1) = false := by rfl) :
    PE X (.Call (.Name x p) (e :: es) [] pos) (tCall sp dvs E t) := by
  constructor
  intro pins s σ H Q I h
  apply wpAny_Call_Name_kw
  refine ld_glob I gl at_ ?_ nodb
  refine PySem.W.callWith_K (h₀ := X.base) I.ok.mod.kin kp (thn (pa.run pos pins s σ H _ I h) ?_) st pl
  rintro us s1 ⟨vs, H1, I1, r, q⟩
  refine ⟨I1.kIn, ?_⟩
  have rr : Vals (vs ++ dvs) (us ++ ds) := r.append dv
  have many : (us ++ ds).length = ps.length := by rw [← rr.length]; exact G.many _ _ _ _ q
  apply wpAny_call
  refine codeAny_mono (G.goes X.A X.stack s1 H1 ⟨us, []⟩ _ _ Q E hr gd I1.env0 (bd s1 us I1.kIn many) rr q) ?_
  rintro (err | fl) s' hq
  · exact ps0 pins σ H1 s1 err s' I1 hq
  · cases fl
    case ret u => exact I1.after hq
    all_goals exact hq.elim
end

/-- the rule for a def of the text, where no repr is under way -/
theorem Fun.okG {P : Program} {w : World} {K : PySem.W.Frag} {mg : Str → Option Value} {base : Heap} {x qual : Str} {st : Stmt} {f : Addr} {fd : FuncData} {N ps : List Str} {k : Nat} {sp : Sp}
    (F : Fun K x qual st f fd) (S : FnScope N ps (defScope st)) (many : ∀ vs H Q E, sp vs H Q E → vs.length = ps.length)
    (body : ∀ (cdv : Value) (A : Around) (outer : List Env) (s : Shared) (H : Hp) (vs : List V) (Q : VK) (E : XK), A.guards = some [] → Room k (A.deeper (envOfC qual (defScope st) s.heap.objs.size f cdv)) → sp vs H Q E →
      ∃ t, PSs (cxOf CX0 P w K mg base N qual (defScope st) f cdv A outer s H E).nox (defBody st) t ∧ t { nx := fun _ H' => Q .non H', rt := Q } (start N vs) H) :
    FnG P w K mg base CX0 (k + 1) f fd ps sp := by
  obtain ⟨oc, od, kV, doc, pm, an, cdv, ct, osl, rfl, lk, hcd⟩ := F.ex
  refine ⟨many, ?_⟩
  intro A outer s H args us vs Q E hr gd e0 hb r hsp
  have nn := many _ _ _ _ hsp
  have inn : K.In s.heap := e0.mod.kin.keeps (fun b o e => (e0.bs b o e).1)
  have li : s.heap.NoLimit := e0.mod.nolimit.keeps (fun b o e => (e0.bs b o e).1)
  have kinds : ∀ y ∈ ps.zip us, (defScope st).names.lookup y.1 = some .local ∨
      ((defScope st).names.lookup y.1 = some .cell ∧ ((cellsFrom (s.heap.objs.size + 1) (defScope st).names []).lookup y.1).isSome = true) := by
    rintro ⟨n, v⟩ hy
    cases S.par n (List.of_mem_zip hy).1 with
    | inl z => exact .inl z
    | inr z => exact .inr ⟨z, PySem.W.cellsFrom_some _ _ _ (.inl z)⟩
  refine codeAny_call_function hr.depth (inn _ _ lk) rfl S.co S.gen rfl (PySem.W.codeRec_of inn hcd) (hb _ _ _ _ ?_)
  refine wpAny_newFunctionEnv_cells S.kind kinds ?_
  intro env he s1 y
  subst he
  refine ⟨li.keeps y.toInCall.keep, ?_⟩
  apply codeAny_func
  obtain ⟨t, pt, qt⟩ := body cdv A outer s H vs Q E gd (hr.deeper _) hsp
  have I : Inv (cxOf CX0 P w K mg base N qual (defScope st) f cdv A outer s H E) [] (start N vs) H s1 := inv_start S hr.hd e0 nn r y
  refine wpAny_mono (pt.nox.run [] s1 (start N vs) H _ I qt) ?_ (fun e s' z => z)
  intro fl s' z
  have close : ∀ {σ' : L2.St} {H' : Hp} {v : V} {u : Value}, Inv (cxOf CX0 P w K mg base N qual (defScope st) f cdv A outer s H E) [] σ' H' s' → RelV v u → Q v H' → CE outer P w H s Q u s' := by
    intro σ' H' v u J rv q
    exact ⟨v, H', J.os, J.bare, J.base, J.hok, rv, q⟩
  match fl, z with
  | .ret u, z => obtain ⟨v, σ', H', J, rv, q⟩ := z; exact close J rv q
  | .next, z => obtain ⟨σ', H', J, q⟩ := z; exact close (v := V.non) (u := Value.none) J rfl q
  | .brk, z => obtain ⟨_, _, _, q⟩ := z; exact q.elim
  | .cont, z => obtain ⟨_, _, _, q⟩ := z; exact q.elim

/-! ### the end of a law, its def shown where no repr is under way -/
theorem end_call {P : Program} {w : World} {K : PySem.W.Frag} {mg mb : Str → Option Value} {k : Nat} {fa a : Addr} {fd : FuncData} {x : Str} {sp : Sp} {s₁ : Shared} {vs : List Value} {ns : List Int}
    (inn : K.In s₁.heap) (gns : s₁.heap.Ns mainGlobals mg) (bns : s₁.heap.Ns builtinsNs mb) (bb : ∀ x : Str, x ≠ "__name__" → mb x = bootBuiltins x) (li : s₁.heap.NoLimit) (nog : s₁.gens = #[])
    (obj : s₁.heap.get? a = some { cls := .type "list", data := .seq vs.toArray }) (areI : IntsAre vs ns) (few : ns.length ≤ sizeLine) (hr : Room k callerA)
    (G : ∀ base : Heap, K.In base → base.Ns mainGlobals mg → FnG P w K mg base CX0 k fa fd [x] sp) (bind : ∀ (s : Shared) (u : Value), BindsTo s fd ⟨[u], []⟩ [(x, u)])
    (hsp : ∀ H : Hp, Only H → SqL K H a (ns.map V.int) → sp [.ref a] H (fun v _ => v = .bl true) E0) :
    codeAny (model P w) callerA (.call (.ref fa) ⟨[.ref a], []⟩) (fun r s' => r = .ok (.ret (.bool true)) ∧ OldK s₁.heap s'.heap ∧ s'.os = s₁.os ∧ AllBare s'.gens) s₁ := by
  have main : ∀ H : Hp, Only H → SqL K H a (ns.map V.int) → HOk P w H s₁.heap → (∀ b, H b ≠ none → b = a) → (H a ≠ none → K.lookup a = none) →
      codeAny (model P w) callerA (.call (.ref fa) ⟨[.ref a], []⟩) (fun r s' => r = .ok (.ret (.bool true)) ∧ OldK s₁.heap s'.heap ∧ s'.os = s₁.os ∧ AllBare s'.gens) s₁ := by
    intro H only hS hok alone apart
    have shown : ∀ {b : Addr} {o : Obj}, s₁.heap.get? b = some o → H b = none → (hidT s₁.heap H).get? b = some o := fun e n => hidT_get e n
    have dicts : ∀ {b : Addr} {o : Obj} {es : Array DictEntry} {ep : Nat}, s₁.heap.get? b = some o → o.data = .dict es ep → H b = none := by
      intro b o es ep e d
      by_cases z : H b = none
      · exact z
      · have eb := alone b z
        rw [eb, obj] at e
        cases e
        cases (show Data.seq vs.toArray _ = Data.dict es ep from d)
    have nsK : ∀ {b : Addr} {m : Str → Option Value}, s₁.heap.Ns b m → (hidT s₁.heap H).Ns b m := by
      rintro b m ⟨o, es, ep, e, d, r⟩
      exact ⟨o, es, ep, shown e (dicts e d), d, r⟩
    have inb : K.In (hidT s₁.heap H) := by
      intro b o e
      refine shown (inn b o e) ?_
      by_cases z : H b = none
      · exact z
      · have eb := alone b z
        subst eb
        rw [apart z] at e
        cases e
    have md : Mod K mg (hidT s₁.heap H) := by
      obtain ⟨mc, l1, l2⟩ := li
      exact ⟨inb, nsK gns, ⟨mb, nsK bns, bb⟩, ⟨mc, nsK l1, l2⟩⟩
    have ev : Env0 P w K mg (hidT s₁.heap H) callerA [] s₁ H :=
      ⟨rfl, md, fun b o e => of_hidT e, Nat.le_of_eq (hidT_size _ _), trivial, fun b hb => absurd (show b ∈ ([] : List Addr) from hb) (by simp), hok, .of_eq nog⟩
    refine codeAny_mono ((G _ inb (nsK gns)).goes callerA [] s₁ H ⟨[.ref a], []⟩ [.ref a] [.ref a] _ _ hr rfl ev (bind s₁ (.ref a)) (.cons rfl .nil) (hsp H only hS)) ?_
    rintro (err | fl) s' z
    · exact (show False from z).elim
    · cases fl
      case ret u =>
        obtain ⟨v, H', os, bare, un, hok', rv, qv⟩ := z
        have qv' : v = .bl true := qv
        subst qv'
        have eu : u = Value.bool true := rv
        subst eu
        refine ⟨rfl, OldK.of_keep ?_, os, bare⟩
        intro b o e
        cases c : H b with
        | none => exact un.keep b o e c (by intro z; exact absurd (show b ∈ ([] : List Addr) from z) (by simp)) (by simp)
        | some ob =>
          rcases only b with z | ⟨o2, xs, z⟩
          · rw [c] at z; cases z
          · obtain ⟨e1, _⟩ := hok b _ z
            obtain ⟨e2, _⟩ := hok' b _ (un.frzs b o2 _ z)
            rw [e] at e1; cases e1
            exact e2
      all_goals exact (show False from z).elim
  have rv := vals_ints areI
  have sz := areI.length
  cases c : K.lookup a with
  | some o =>
    have e := inn a o c
    rw [obj] at e
    cases e
    refine main (fun _ => none) (fun _ => .inl rfl) (.inr ⟨_, vs.toArray, _, c, rfl, rfl, rfl, ?_, ?_⟩) (fun b u z => ?_) (fun b z => absurd rfl z) (fun z => absurd rfl z)
    · rw [List.size_toArray, sz]; exact few
    · simpa using rv
    · cases (show (none : Option HO) = some u from z)
  | none =>
    let H : Hp := fun b => if b = a then some (.frz { cls := .type "list", data := .seq vs.toArray } (.lst (ns.map V.int))) else none
    have there : H a = some (.frz { cls := .type "list", data := .seq vs.toArray } (.lst (ns.map V.int))) := if_pos rfl
    have else_ : ∀ {b}, b ≠ a → H b = none := fun h => if_neg h
    refine main H (fun b => ?_) (.inl (.inr ⟨_, there⟩)) (fun b u z => ?_) (fun b z => ?_) (fun _ => c)
    · by_cases hb : b = a
      · subst hb; exact .inr ⟨_, _, there⟩
      · exact .inl (else_ hb)
    · by_cases hb : b = a
      · subst hb
        rw [there] at z
        cases z
        exact ⟨obj, by rw [List.length_map]; exact few, vs, _, rv, obj⟩
      · rw [else_ hb] at z; cases z
    · by_cases hb : b = a
      · exact hb
      · exact absurd (else_ hb) z
theorem walk_ofG {l : PySem.W.OpenLaw} {n k : Nat} {q : Program} {loose : List Str} {XP : (Str → Option Value) → Heap → Prop} {YP : World → Heap → Prop} {d : DefRec} {K : Params → PySem.W.Frag} {sp : PySem.W.Frag → Sp} {x : Str}
    (hn : l.most = some n) (hn2 : n ≤ sizeLine) (hdf : d.params.defaults = []) (hr : Room k callerA) (hY : ∀ (w : World) (h : Heap), YP w h → (K w.params).In h)
    (F : ∀ (w : World) (mg : Str → Option Value) (fa : Addr) (h : Heap), (K w.params).In h → h.Ns mainGlobals mg → mg d.name = some (.ref fa) →
      ∃ fd : FuncData, (∀ (s : Shared) (u : Value), BindsTo s fd ⟨[u], []⟩ [(x, u)]) ∧
        ∀ base : Heap, (K w.params).In base → base.Ns mainGlobals mg → FnG l.prog w (K w.params) mg base CX0 k fa fd [x] (sp (K w.params)))
    (hsp : ∀ (K : PySem.W.Frag) (H : Hp) (a : Addr) (ns : List Int), ns.length ≤ n → Only H → SqL K H a (ns.map V.int) → sp K [.ref a] H (fun v _ => v = .bl true) E0) :
    PySem.W.WalkO q loose XP YP l.row.toRowW d [] (fun f vs => PySem.call f vs) := by
  apply Att.attach_call hn hdf
  intro w s₀ s₁ mg mb fa o pm cd doc a vs ns G Y ho hd hcd hmg hobj hints hlen hg
  have inn := hY w _ Y
  obtain ⟨fd, hb, hF⟩ := F w mg fa _ inn G.T.g hmg
  exact end_call inn G.T.g G.T.b G.T.builtins G.T.nolimit hg hobj hints (Nat.le_trans hlen hn2) hr hF hb (fun H h1 h2 => hsp (K w.params) H a ns hlen h1 h2)
end Vz
set_option Elab.async false
set_option linter.all false
set_option maxRecDepth 100000
set_option maxHeartbeats 2000000
namespace Vz
open PySem PySem.Spec PyProof.Rows L2

/-! ### a whole number or a truth value, and a whole number -/
def numI : V → Option Int
  | .int i => some i
  | .bl b => some (if b = true then 1 else 0)
  | _ => none
def rNumI (g : Int → Int → Int) : R2 := fun x y H Q => ∃ i j, numI x = some i ∧ y = .int j ∧ Q (.int (g i j)) H
theorem op_addB {X : Cx} : OpR X (binaryOp .Add) (rNumI fun i j => i + j) := by
  intro pins s σ H x y v u Q I rx ry h
  obtain ⟨i, j, e, rfl, q⟩ := h
  obtain ⟨t, rfl⟩ := ry
  cases x <;> simp only [numI, Option.some.injEq, reduceCtorEq] at e
  case bl b =>
    subst e
    have ev : v = Value.bool b := rx
    subst ev
    exact PySem.IntBool.add_bool_int ⟨.int _, H, I.tok _, ⟨_, rfl⟩, q⟩
  case int k =>
    subst e
    obtain ⟨t', rfl⟩ := rx
    exact add_int ⟨.int _, H, I.tok _, ⟨_, rfl⟩, q⟩
theorem op_subB {X : Cx} : OpR X (binaryOp .Sub) (rNumI fun i j => i - j) := by
  intro pins s σ H x y v u Q I rx ry h
  obtain ⟨i, j, e, rfl, q⟩ := h
  obtain ⟨t, rfl⟩ := ry
  cases x <;> simp only [numI, Option.some.injEq, reduceCtorEq] at e
  case bl b =>
    subst e
    have ev : v = Value.bool b := rx
    subst ev
    exact PySem.IntBool.sub_bool_int ⟨.int _, H, I.tok _, ⟨_, rfl⟩, q⟩
  case int k =>
    subst e
    obtain ⟨t', rfl⟩ := rx
    exact sub_int ⟨.int _, H, I.tok _, ⟨_, rfl⟩, q⟩

/-! ### zip of a tuple and a list -/
def ItM (K : PySem.W.Frag) (a b : Addr) : It where
  go := fun i H => ∃ (xs ys : List V) (x y : V), SqT K H a xs ∧ SqL K H b ys ∧ xs[i]? = some x ∧ ys[i]? = some y
  yld := fun i H v H' => ∃ T x y, v = .ref T ∧ H T = none ∧ H' = upd H T (.tup [x, y]) ∧ (∀ xs, SqT K H a xs → xs[i]? = some x) ∧ ∀ ys, SqL K H b ys → ys[i]? = some y
  stop := fun i H => ∃ xs ys : List V, SqT K H a xs ∧ SqL K H b ys ∧ i = min xs.length ys.length
theorem walk_zipM {K : PySem.W.Frag} {a b : Addr} {xs ys : List V} {n : Nat} (hn : n = min xs.length ys.length) :
    Walk (ItM K a b) n (fun H => SqT K H a xs ∧ SqL K H b ys) (YPair (fun i => xs[i]?) (fun i => ys[i]?)) := by
  subst hn
  constructor
  · intro i H hi g
    exact ⟨xs, ys, xs[i]'(by omega), ys[i]'(by omega), g.1, g.2, by simp, by simp⟩
  · intro H g
    exact ⟨xs, ys, g.1, g.2, rfl⟩
  · rintro i H v H' hi g ⟨T, x, y, e, nT, eH, fx, fy⟩
    exact ⟨T, x, y, e, nT, eH, fx xs g.1, fy ys g.2⟩
def MSt (z TI TO i1 i2 a b : Addr) (i : Nat) (h : Heap) : Prop :=
  IsZip h z TI TO .none ∧ IsTupOf2 h TI (.ref i1) (.ref i2) ∧ (∃ c1 c2, IsTupOf2 h TO c1 c2) ∧ h.IsTupleIter i1 a i ∧ h.IsListIter i2 b i
theorem turn_zipM {P : Program} {w : World} {K : PySem.W.Frag} {elts : List Expr} {kk : Nat} {tpos : Pos} {a b z TI TO i1 i2 : Addr} (D : ZipSep2 z TI TO i1 i2 [i1, a] [i2, b]) (n1 : a ≠ i1) (n2 : b ≠ i2) :
    Turn P w K (.Tuple elts kk tpos) (ItM K a b) [z, TI, TO, i1, i2] z (MSt z TI TO i1 i2 a b) where
  mem := by simp
  obj := by
    rintro i h ⟨hz, hTI, ⟨c1, c2, hTO⟩, ⟨o1, e1, _, d1⟩, ⟨o2, e2, _, d2⟩⟩ c hc
    simp only [List.mem_cons, List.not_mem_nil, or_false] at hc
    rcases hc with rfl | rfl | rfl | rfl | rfl
    · exact ⟨_, hz, fun v q => nomatch q⟩
    · exact ⟨_, hTI, fun v q => nomatch q⟩
    · exact ⟨_, hTO, fun v q => nomatch q⟩
    · exact ⟨o1, e1, fun v q => by rw [d1] at q; cases q⟩
    · exact ⟨o2, e2, fun v q => by rw [d2] at q; cases q⟩
  keep := by
    rintro i h h' ⟨hz, hTI, ⟨c1, c2, hTO⟩, h1, h2⟩ k
    refine ⟨k z (by simp) _ hz, k TI (by simp) _ hTI, ⟨c1, c2, k TO (by simp) _ hTO⟩, ?_, ?_⟩
    · exact h1.at (fun o q => k i1 (by simp) o q)
    · exact h2.at (fun o q => k i2 (by simp) o q)
  item := by
    intro X hP hw hK calm i pins s σ H E I free st go
    subst hP hw hK
    obtain ⟨hz, hTI, hTO, h1, h2⟩ := st
    obtain ⟨xs, ys, x, y, gx, gy, ex, ey⟩ := go
    obtain ⟨its, rv, p, _⟩ := I.tuple gx
    obtain ⟨its2, rv2, p2, _⟩ := I.list gy
    have hh : X.A.in1.handled = none := I.ok.hd calm
    have dT := Draws.tuple (prog := X.prog) (w := X.w) (A := X.A.in1) hh i1 a n1 its.toArray
    have dL := Draws.list (prog := X.prog) (w := X.w) (A := X.A.in1) hh i2 b n2 its2.toArray
    have W := GoesN.zip2 (elts := elts) (x1 := kk) (pos := tpos) D dT dL
    have l1 := rv.length
    have l2 := rv2.length
    have m1 := (List.getElem?_eq_some_iff.mp ex).1
    have m2 := (List.getElem?_eq_some_iff.mp ey).1
    have hi : i < min its.toArray.size its2.toArray.size := by rw [List.size_toArray, List.size_toArray]; omega
    refine W.goes i s (fun v s2 => ∃ x H', Inv X pins σ H' s2 ∧ RelV x v ∧ (ItM X.K a b).yld i H x H' ∧ MSt z TI TO i1 i2 a b (i + 1) s2.heap ∧ ∀ b' ∈ [z, TI, TO, i1, i2], H' b' = none) E hi
      ⟨hz, hTI, hTO, ⟨h1, p⟩, ⟨h2, p2.isList⟩⟩ ?_
    rintro v h' tk ⟨T, u1, u2, rfl, nT, e1, e2, hT⟩ ⟨hz', hTI', hTO', ⟨h1', _⟩, ⟨h2', _⟩⟩ kp _
    obtain ⟨w1, hw1, rw1⟩ := rv.get ex
    obtain ⟨w2, hw2, rw2⟩ := rv2.get ey
    have q1 : u1 = w1 := by
      have z := e1
      simp only [List.getElem?_toArray] at z
      rw [hw1] at z
      exact (Option.some.inj z).symm
    have q2 : u2 = w2 := by
      have z := e2
      simp only [List.getElem?_toArray] at z
      rw [hw2] at z
      exact (Option.some.inj z).symm
    subst q1 q2
    have new : ObjOk X.prog X.w (upd H T (.tup [x, y])) h' T (.tup [x, y]) := ⟨by show 2 ≤ sizeLine; decide, [u1, u2], .cons rw1 (.cons rw2 .nil), hT⟩
    have I1 : Inv X pins σ (upd H T (.tup [x, y])) { s with heap := h', toks := tk } := by
      refine I.turnedNew (t' := tk) (ch := [z, TI, TO, i1, i2]) (fun c o hc q => kp c o (fun hm => hc ?_) q) free nT new
      simp only [List.mem_cons, List.not_mem_nil, or_false] at hm ⊢
      rcases hm with q | q | q | q <;> simp [q]
    refine ⟨.ref T, _, I1, rfl, ⟨T, x, y, rfl, I.hok.fresh nT, rfl, fun l hl => ?_, fun l hl => ?_⟩, ⟨hz', hTI', hTO', h1', h2'⟩, fun c hc => ?_⟩
    · rw [I.tuple_inj hl gx]; exact ex
    · rw [I.list_inj hl gy]; exact ey
    · have lt : c < s.heap.objs.size := by
        simp only [List.mem_cons, List.not_mem_nil, or_false] at hc
        rcases hc with rfl | rfl | rfl | rfl | rfl
        · exact Heap.lt_size hz
        · exact Heap.lt_size hTI
        · obtain ⟨_, _, q⟩ := hTO; exact Heap.lt_size q
        · obtain ⟨_, q, _⟩ := h1; exact Heap.lt_size q
        · obtain ⟨_, q, _⟩ := h2; exact Heap.lt_size q
      rw [upd_ne (Nat.ne_of_lt (Nat.lt_of_lt_of_le lt nT))]
      exact (free c hc).1
  done := by
    intro X hP hw hK calm i pins s σ H E I free st stop
    subst hP hw hK
    obtain ⟨hz, hTI, hTO, h1, h2⟩ := st
    obtain ⟨xs, ys, gx, gy, hi⟩ := stop
    obtain ⟨its, rv, p, _⟩ := I.tuple gx
    obtain ⟨its2, rv2, p2, _⟩ := I.list gy
    have hh : X.A.in1.handled = none := I.ok.hd calm
    have dT := Draws.tuple (prog := X.prog) (w := X.w) (A := X.A.in1) hh i1 a n1 its.toArray
    have dL := Draws.list (prog := X.prog) (w := X.w) (A := X.A.in1) hh i2 b n2 its2.toArray
    have W := GoesN.zip2 (elts := elts) (x1 := kk) (pos := tpos) D dT dL
    have l1 := rv.length
    have l2 := rv2.length
    have hi' : i = min its.toArray.size its2.toArray.size := by rw [List.size_toArray, List.size_toArray]; omega
    subst hi'
    refine W.stops s (fun s1 => Inv X pins σ H s1) E ⟨hz, hTI, hTO, ⟨h1, p⟩, ⟨h2, p2.isList⟩⟩ ?_
    intro h' tk kp _
    refine I.turnedL (t' := tk) (ch := [z, TI, TO, i1, i2]) (fun c o hc q => kp c o (fun hm => hc ?_) q) free
    simp only [List.mem_cons, List.not_mem_nil, or_false] at hm ⊢
    rcases hm with q | q | q | q <;> simp [q]
  self := fun A i s Q E st h => wpAny_pyIter_zip st.1 h

def iZipM (K : PySem.W.Frag) (ta : TA) : TI := fun σ H R => ta σ H fun vs H1 => ∃ (a b : Addr) (xs ys : List V), vs = [.ref a, .ref b] ∧ SqT K H1 a xs ∧ SqL K H1 b ys ∧ R (ItM K a b) H1
theorem pi_zipM {X : Cx} {e e2 : Expr} {ta : TA} {p pos tpos : Pos} {elts : List Expr} {kk : Nat} (gl : Gl X "zip") (no : X.mg "zip" = none) (pa : PA X [e, e2] ta)
    (st : starEach [e, e2] X.env = (false, eval e X.env) :: starEach [e2] X.env := by rfl) (pl : (backTo pos (starEach [e2] X.env)).any (·.1) = false := by rfl) :
    PI X (.Tuple elts kk tpos) (.Call (.Name "zip" p) [e, e2] [] pos) (iZipM X.K ta) := by
  constructor
  intro pins s σ H R I h
  refine Call_ (ld_blt I gl no PyProof.Rows.boot_zip (PyProof.Rows.callWith_type1 (thn (pa.run pos pins s σ H _ I h) ?_) st pl))
  rintro us s1 ⟨vs, H1, I1, r1, a, b, xs, ys, ev, gx, gy, q⟩
  subst ev
  obtain ⟨v1, v2, rfl, ra, rb⟩ := vals2 r1
  have e1 : v1 = Value.ref a := ra
  have e2' : v2 = Value.ref b := rb
  subst e1 e2'
  obtain ⟨its, rv, p1, _⟩ := I1.tuple gx
  obtain ⟨its2, rv2, p2, _⟩ := I1.list gy
  have la : a < s1.heap.objs.size := by obtain ⟨o, ho, _⟩ := p1; exact Heap.lt_size ho
  have lb : b < s1.heap.objs.size := p2.lt
  refine zip_begins2 (begins_tuple a its.toArray) (begins_list b its2.toArray) p1 p2.isList ?_
  intro h' hz hTI hTO h1 h2 hsz kp
  refine wpAny_pyIter_zip hz ?_
  have I2 : Inv X pins σ H1 { s1 with heap := h' } := I1.kept (t' := s1.toks) kp
  have sep := zip_sep2 (N := s1.heap.objs.size) (fp1 := [a]) (fp2 := [b]) (fun c hc => by rw [List.mem_singleton] at hc; rw [hc]; exact la) (fun c hc => by rw [List.mem_singleton] at hc; rw [hc]; exact lb)
  refine ⟨_, _, _, _, H1, rfl, I2, turn_zipM sep (Nat.ne_of_lt la) (Nat.ne_of_lt (Nat.lt_succ_of_lt lb)), ?_, ?_, q⟩
  · exact ⟨hz, hTI, ⟨_, _, hTO⟩, ⟨_, h1, rfl, rfl⟩, ⟨_, h2, rfl, rfl⟩⟩
  · intro c hc
    have ge : s1.heap.objs.size ≤ c := by
      simp only [List.mem_cons, List.not_mem_nil, or_false] at hc
      rcases hc with rfl | rfl | rfl | rfl | rfl
      · exact Nat.le_add_right _ _
      · exact Nat.le_add_right _ _
      · exact Nat.le_add_right _ _
      · exact Nat.le_refl _
      · exact Nat.le_add_right _ _
    exact I1.fpOk ge (I1.hok.fresh ge)

/-! ### a call by a keyword alone -/
section
variable {X : Cx} {CX : CXT} {k : Nat} {f : Addr} {fd : FuncData} {ps ks : List Str} {sp : Sp} {E : XK} {g : List Value → List Value → List Value} {gV : List V → List V → List V}
theorem pe_callK0 {x : Str} {p pos : Pos} {kws : List Keyword} {tk : TA} (F : FnOk X.prog X.w X.K X.mg X.base CX k f fd ps sp) (hr : Room k X.A) (gl : Gl X x) (at_ : X.mg x = some (.ref f))
    (kp : PySem.W.keepIn X.K (.ref f) = true) (bd : KBinds X.K fd ps ks g gV) (pas : Passes CX X E) (pk : PK X kws tk)
    (al : (backToKw pos (keywordEach kws X.env)).all (·.1.isSome) = true := by rfl) (nm : (backToKw pos (keywordEach kws X.env)).filterMap (·.1) = ks := by rfl)
    (nodb : (x == ("__debug__" : Str)) = false := by decide)
    (pl : ((backTo pos (starEach [] X.env)).any (·.1) || (backToKw pos (keywordEach kws X.env)).any (·.1.isNone)) = false := by rfl) :
    PE X (.Call (.Name x p) [] kws pos) (tCallK sp gV E tNil tk) := by
  constructor
  intro pins s σ H Q I h
  apply wpAny_Call_Name_kw
  refine ld_glob I gl at_ ?_ nodb
  refine PySem.W.callWith_KW0 (h₀ := X.base) I.ok.mod.kin kp al (thn (pk.run pos pins s σ H _ I h) ?_) pl
  rintro ws s2 ⟨zs, H2, I2, rz, q2⟩
  refine ⟨I2.kIn, ?_⟩
  rw [nm]
  exact run_fnk F hr bd pas I2 .nil rz q2
end
end Vz
namespace Ma
/-- days before a year -/
def days (y : Int) : Int := 365 * (y - 1) + (y - 1) / 4 - (y - 1) / 128
/-- the year of a day -/
def yearOf (d : Int) : Int := 128 * (d / 46751) + 4 * (d % 46751 / 1461) + (if 3 < d % 46751 % 1461 / 365 then 3 else d % 46751 % 1461 / 365) + 1
def begins (y : Int) : Int := days y * 86400 + (y - 1) / 40
def leapY (y : Int) : Bool := decide (y % 4 = 0) && decide (y % 128 ≠ 0)
def dim (y m : Int) : Int := if m < 13 then 28 else if leapY y then 30 else 29
/-- seconds before a date, without leap seconds -/
def plain (y mo d h mi s z : Int) : Int := 86400 * (days y + 28 * (mo - 1) + d - 1) + 3600 * h + 60 * (mi - z) + s
def within (i lo hi : Int) : Bool := decide (lo ≤ i) && decide (i ≤ hi)
def fits (y mo d h mi s z : Int) : Bool :=
  within y 1 9999 && within mo 1 13 && within d 1 (dim y mo) && within z (-840) 840 && within h 0 23 && within mi 0 59 && within s 0 60
def isLeap (b : Int) : Bool := decide (yearOf (b / 86400) % 40 = 0) && decide (b + 1 = 86400 * days (yearOf (b / 86400) + 1))
def before (y mo d h mi s z : Int) : Int := plain y mo d h mi (if 59 < s then 59 else s) z
def isDate (y mo d h mi s z : Int) : Bool :=
  fits y mo d h mi s z && (decide (0 ≤ before y mo d h mi s z) && decide (before y mo d h mi s z < 86400 * days 10000)) && (decide (s < 60) || isLeap (before y mo d h mi s z))

theorem days_step (y : Int) : days y + 365 ≤ days (y + 1) := by unfold days; omega
theorem days_step2 (y : Int) : days (y + 1) ≤ days y + 366 := by unfold days; omega
theorem days_mono {x y : Int} (h : x < y) : days x < days y := by
  have key : ∀ n : Nat, days x + 365 * ((n : Int) + 1) ≤ days (x + 1 + n) := by
    intro n
    induction n with
    | zero => have := days_step x; simp; omega
    | succ n ih =>
      have := days_step (x + 1 + n)
      have e : x + 1 + ((n + 1 : Nat) : Int) = x + 1 + (n : Int) + 1 := by omega
      rw [e]
      have e2 : ((n + 1 : Nat) : Int) = (n : Int) + 1 := by omega
      rw [e2]; omega
  obtain ⟨n, hn⟩ : ∃ n : Nat, y = x + 1 + n := ⟨(y - x - 1).toNat, by omega⟩
  have := key n
  rw [hn]; omega
theorem days_le {x y : Int} (h : x ≤ y) : days x ≤ days y := by
  by_cases e : x = y
  · rw [e]; exact Int.le_refl _
  · have := days_mono (x := x) (y := y) (by omega); omega
theorem days_lt_iff {x y : Int} : days x < days y ↔ x < y := by
  constructor
  · intro h
    by_cases c : x < y
    · exact c
    · have := days_le (x := y) (y := x) (by omega); omega
  · exact days_mono
theorem year_spec (d : Int) : days (yearOf d) ≤ d ∧ d < days (yearOf d + 1) := by
  have key : ∀ R F m e : Int, 0 ≤ F → F ≤ 31 → 0 ≤ m → m ≤ 3 → 365 * m ≤ e → (m < 3 → e < 365 * m + 365) → e ≤ 1460 → 1461 * F + e ≤ 46750 →
      days (128 * R + 4 * F + m + 1) ≤ 46751 * R + 1461 * F + e ∧ 46751 * R + 1461 * F + e < days (128 * R + 4 * F + m + 1 + 1) := by
    intro R F m e h1 h2 h3 h4 h5 h6 h7 h8
    have a1 : (128 * R + 4 * F + m + 1 - 1) / 4 = 32 * R + F := by omega
    have a2 : (128 * R + 4 * F + m + 1 - 1) / 128 = R := by omega
    have hm : m = 0 ∨ m = 1 ∨ m = 2 ∨ m = 3 := by omega
    unfold days
    rw [a1, a2]
    rcases hm with rfl | rfl | rfl | rfl
    · have b1 : (128 * R + 4 * F + 0 + 1 + 1 - 1) / 4 = 32 * R + F := by omega
      have b2 : (128 * R + 4 * F + 0 + 1 + 1 - 1) / 128 = R := by omega
      rw [b1, b2]; omega
    · have b1 : (128 * R + 4 * F + 1 + 1 + 1 - 1) / 4 = 32 * R + F := by omega
      have b2 : (128 * R + 4 * F + 1 + 1 + 1 - 1) / 128 = R := by omega
      rw [b1, b2]; omega
    · have b1 : (128 * R + 4 * F + 2 + 1 + 1 - 1) / 4 = 32 * R + F := by omega
      have b2 : (128 * R + 4 * F + 2 + 1 + 1 - 1) / 128 = R := by omega
      rw [b1, b2]; omega
    · have b1 : (128 * R + 4 * F + 3 + 1 + 1 - 1) / 4 = 32 * R + F + 1 := by omega
      by_cases c : F = 31
      · subst c
        have b2 : (128 * R + 4 * 31 + 3 + 1 + 1 - 1) / 128 = R + 1 := by omega
        rw [b1, b2]; omega
      · have b2 : (128 * R + 4 * F + 3 + 1 + 1 - 1) / 128 = R := by omega
        rw [b1, b2]; omega
  have e0 : d = 46751 * (d / 46751) + 1461 * (d % 46751 / 1461) + d % 46751 % 1461 := by omega
  have r1 : 0 ≤ d % 46751 := by omega
  have r2 : d % 46751 ≤ 46750 := by omega
  have q1 : 0 ≤ d % 46751 % 1461 := by omega
  have q2 : d % 46751 % 1461 ≤ 1460 := by omega
  have f1 : 0 ≤ d % 46751 / 1461 := by omega
  have f2 : d % 46751 / 1461 ≤ 31 := by omega
  have f3 : 1461 * (d % 46751 / 1461) + d % 46751 % 1461 ≤ 46750 := by omega
  unfold yearOf
  split
  · have := key (d / 46751) (d % 46751 / 1461) 3 (d % 46751 % 1461) f1 f2 (by omega) (by omega) (by omega) (by omega) q2 f3
    rw [← e0] at this
    exact this
  · have := key (d / 46751) (d % 46751 / 1461) (d % 46751 % 1461 / 365) (d % 46751 % 1461) f1 f2 (by omega) (by omega) (by omega) (by omega) q2 f3
    rw [← e0] at this
    exact this
theorem year_uniq {d y : Int} (h1 : days y ≤ d) (h2 : d < days (y + 1)) : y = yearOf d := by
  obtain ⟨a, b⟩ := year_spec d
  have l1 : days y < days (yearOf d + 1) := by omega
  have l2 : days (yearOf d) < days (y + 1) := by omega
  rw [days_lt_iff] at l1 l2
  omega
theorem days_366 {n : Int} (h : 0 ≤ n) : days (n + 1) ≤ 366 * n := by unfold days; omega
theorem days_one : days 1 = 0 := rfl
theorem begins_step (y : Int) : begins y + 1 ≤ begins (y + 1) := by unfold begins days; omega

/-- what the law's own reading of a date tells: the leap second's way and the other one -/
theorem leap_way {y mo d h mi z : Int} (f : fits y mo d h mi 60 z = true) {a : Int} (ha : ∀ k, plain y mo d h mi 60 z / 31622400 ≤ k → k < a → days (k + 1) * 86400 < plain y mo d h mi 60 z)
    (h0 : plain y mo d h mi 60 z / 31622400 ≤ a) (hb : ¬ days (a + 1) * 86400 < plain y mo d h mi 60 z) :
    isDate y mo d h mi 60 z = (decide (0 < a) && decide (a % 40 = 0) && decide (days (a + 1) * 86400 = plain y mo d h mi 60 z)) := by
  have eb : before y mo d h mi 60 z = plain y mo d h mi 60 z - 1 := by unfold before plain; simp; omega
  generalize hp : plain y mo d h mi 60 z = p at *
  unfold isDate
  rw [f, eb]
  simp only [Bool.true_and]
  have s60 : decide ((60 : Int) < 60) = false := by decide
  rw [s60, Bool.false_or]
  unfold isLeap
  obtain ⟨ys1, ys2⟩ := year_spec ((p - 1) / 86400)
  generalize hY : yearOf ((p - 1) / 86400) = Y at *
  -- bound of p
  have fp : p ≤ 86400 * days 10000 + 60 * 840 + 60 := by
    unfold fits within at f
    simp only [Bool.and_eq_true, decide_eq_true_eq] at f
    obtain ⟨⟨⟨⟨⟨⟨⟨y1, y2⟩, m1, m2⟩, d1, d2⟩, z1, z2⟩, h1, h2⟩, i1, i2⟩, _⟩ := f
    have hd : days y + 28 * (mo - 1) + d - 1 ≤ days (y + 1) - 1 := by
      have : 28 * (mo - 1) + d ≤ days (y + 1) - days y := by
        unfold dim leapY at d2
        unfold days
        split at d2
        · omega
        · split at d2
          · rename_i _ hh; simp only [Bool.and_eq_true, decide_eq_true_eq] at hh; omega
          · omega
      omega
    have h10 := days_le (x := y + 1) (y := 10000) (by omega)
    rw [← hp]; unfold plain
    omega
  rw [Bool.eq_iff_iff]
  simp only [Bool.and_eq_true, decide_eq_true_eq]
  constructor
  · rintro ⟨⟨b1, b2⟩, l1, l2⟩
    have hYp : 0 < Y := by
      have : days 1 < days (Y + 1) := by rw [days_one]; omega
      rw [days_lt_iff] at this; omega
    have ep : p = 86400 * days (Y + 1) := by omega
    have le : p / 31622400 ≤ Y := by have := days_366 (n := Y) (by omega); omega
    have ea : a = Y := by
      by_cases c1 : a < Y
      · have := days_mono (x := a + 1) (y := Y + 1) (by omega); omega
      · by_cases c2 : Y < a
        · have := ha Y le c2; omega
        · omega
    subst ea
    exact ⟨⟨hYp, l1⟩, by omega⟩
  · rintro ⟨⟨a1, a2⟩, a3⟩
    have d1 := days_mono (x := a) (y := a + 1) (by omega)
    have eY : a = Y := by
      rw [← hY]; exact year_uniq (by omega) (by omega)
    subst eY
    have pos : days 1 < days (a + 1) := days_mono (by omega)
    rw [days_one] at pos
    have lt : a + 1 ≤ 10000 := by
      by_cases c : a + 1 ≤ 10000
      · exact c
      · have q1 := days_le (x := 10001) (y := a + 1) (by omega)
        have q2 : days 10001 = 3652422 := by decide
        have q3 : days 10000 = 3652056 := by decide
        omega
    have := days_le lt
    exact ⟨⟨by omega, by omega⟩, a2, by omega⟩
theorem plain_way {y mo d h mi s z : Int} (hs : ¬ s = 60) (f : fits y mo d h mi s z = true) {a : Int} (h0 : plain y mo d h mi s z / 31622400 + 1 ≤ a)
    (ha : ∀ k, plain y mo d h mi s z / 31622400 + 1 ≤ k → k < a → days (k + 1) * 86400 ≤ plain y mo d h mi s z) (hb : ¬ days (a + 1) * 86400 ≤ plain y mo d h mi s z) :
    isDate y mo d h mi s z = (decide (0 ≤ plain y mo d h mi s z) && decide (a < 10000)) := by
  have hs59 : s ≤ 59 := by
    unfold fits within at f
    simp only [Bool.and_eq_true, decide_eq_true_eq] at f
    omega
  have eb : before y mo d h mi s z = plain y mo d h mi s z := by unfold before; rw [if_neg (by omega)]
  unfold isDate
  rw [f, eb]
  generalize plain y mo d h mi s z = p at *
  rw [show decide (s < 60) = true by simp; omega]
  simp only [Bool.true_and, Bool.true_or, Bool.and_true]
  rw [Bool.eq_iff_iff]
  simp only [Bool.and_eq_true, decide_eq_true_eq]
  constructor
  · rintro ⟨p0, p1⟩
    refine ⟨p0, ?_⟩
    by_cases c : a < 10000
    · exact c
    · by_cases st : p / 31622400 + 1 ≤ 9999
      · have := ha 9999 st (by omega)
        have e1 : (9999 : Int) + 1 = 10000 := by decide
        rw [e1] at this
        omega
      · have e2 : days 10000 = 3652056 := by decide
        omega
  · rintro ⟨p0, p1⟩
    refine ⟨p0, ?_⟩
    have := days_le (x := a + 1) (y := 10000) (by omega)
    omega
end Ma
set_option Elab.async false
set_option linter.all false
set_option maxRecDepth 100000
set_option maxHeartbeats 2000000
namespace Vz
open PySem PySem.Spec PyProof.Rows L2
/-! ### an error of the text with one field -/
def sp_init (C : Addr) (f : Str) : Sp := fun vs H Q _ => ∃ (a : Addr) (v : V), vs = [.ref a, v] ∧ H a = some (exo a C none) ∧
  ∀ dx, H dx = none → dx ≠ a → Q .non (upd (upd H dx (exd dx [(f, v)])) a (exo a C (some dx)))
/-- X(v): what is to be shown is the way out, at the error's own new dict -/
theorem made_end {C : Addr} {f : Str} {v : V} {H : Hp} {Q : XK} (q : ∀ d, H d = none → Q (.ref C) (some d) (upd H d (.xd [(f, v)]))) :
    [v].length ≤ 1000 ∧ ∀ a, H a = none → sp_init C f (.ref a :: ([v] ++ [])) (upd H a (exo a C none))
      (fun z H2 => z = .non ∧ ∃ (d : Addr) (fs : List (Str × V)), H2 a = some (exo a C (some d)) ∧ H2 d = some (exd d fs) ∧ H d = none ∧ Q (.ref C) (some d) (upd (del H2 a) d (.xd fs))) (fun _ _ _ => False) := by
  refine ⟨by show 1 ≤ 1000; decide, fun a na => ⟨a, v, rfl, upd_same, fun dx ndx ne => ⟨rfl, dx, [(f, v)], upd_same, ?_, ?_, ?_⟩⟩⟩
  · rw [upd_ne ne, upd_same]
  · rw [upd_ne ne] at ndx; exact ndx
  · have hd : H dx = none := by rw [upd_ne ne] at ndx; exact ndx
    have e : upd (del (upd (upd (upd H a (exo a C none)) dx (exd dx [(f, v)])) a (exo a C (some dx))) a) dx (.xd [(f, v)]) = upd H dx (.xd [(f, v)]) := by
      funext b
      by_cases h1 : b = dx
      · subst h1; rw [upd_same, upd_same]
      · rw [upd_ne h1, upd_ne h1]
        by_cases h2 : b = a
        · subst h2; rw [del_same, na]
        · rw [del_ne h2, upd_ne h2, upd_ne h1, upd_ne h2]
    rw [e]
    exact q dx hd
theorem repr_bool {X : Cx} : CallR X (.builtin "repr") (fun xs H Q => ∃ b : Bool, xs = [.bl b] ∧ Q (.str (if b then "True" else "False")) H) := by
  intro pins s σ H xs us Q I r h
  obtain ⟨b, rfl, q⟩ := h
  obtain ⟨u, rfl, ru⟩ := vals1 r
  have eu : u = Value.bool b := ru
  subst eu
  exact PySem.P.repr_of_bool ⟨.str _, H, I.tok _, ⟨_, rfl⟩, q⟩
end Vz
set_option Elab.async false
set_option linter.all false
set_option maxRecDepth 100000
set_option maxHeartbeats 4000000
/-! An exception that an except clause names and the program keeps: it is tracked behind the clause. -/
namespace Vz
open PySem PySem.Spec PyProof.Rows L2
/-- an exception of the class cls, its own dict d, at a -/
def exq (a : Addr) (cls : Value) (d : Option Addr) : HO := .ext fun h => ∃ (oe : Obj) (vs : Array Value), h.get? a = some oe ∧ Zc cls d oe ∧ oe.data = .fields vs
theorem exq_ok {P : Program} {w : World} {H : Hp} {h : Heap} {a : Addr} {cls : Value} {d : Option Addr} {oe : Obj} {vs : Array Value} (e : h.get? a = some oe) (z : Zc cls d oe) (f : oe.data = .fields vs) : ObjOk P w H h a (exq a cls d) := by
  refine ⟨⟨oe, vs, e, z, f⟩, ⟨oe, e⟩, ?_⟩
  rintro h1 h2 ⟨o, v, e1, z1, f1⟩ k
  exact ⟨o, v, k _ e1, z1, f1⟩
theorem exq_at {P : Program} {w : World} {H : Hp} {h : Heap} {a : Addr} {cls : Value} {d : Option Addr} (hok : HOk P w H h) (e : H a = some (exq a cls d)) : ∃ (oe : Obj) (vs : Array Value), h.get? a = some oe ∧ Zc cls d oe ∧ oe.data = .fields vs := by
  have x : ObjOk P w H h a (exq a cls d) := hok a _ e
  exact x.1
/-- the wish of a clause «except x as n» whose exception is tracked -/
def wTrk (K : PySem.W.Frag) (c : Value) (i : Nat) (ts : Addr → Value → Option Addr → TS) (Wout : WX) (D : Ends) : WX := fun cls d σ H =>
  ∃ b, PySem.W.exmOne K cls c = some b ∧
    (b = true → ∀ a, H a = none → ts a cls d { nx := fun σ' H' => D.nx (σ'.set i none) H', rt := D.rt, bk := fun σ' H' => D.bk (σ'.set i none) H', ct := fun σ' H' => D.ct (σ'.set i none) H' } (σ.set i (some (.ref a))) (upd H a (exq a cls d))) ∧
    (b = false → Wout cls d σ H)
section
variable {X : Cx} {pins : List (Addr × Obj)} {σ : L2.St} {H : Hp} {s : Shared}
theorem into (I : Inv X pins σ H s) (a : Addr) : Inv (X.suite a (X.pn ++ pins)) [] σ H s :=
  { ok := I.ok.suite _ _, os := I.os, bare := I.bare, base := I.base, loc := I.loc, cell := I.cell, free := I.free, freeC := I.freeC, hok := I.hok, len := I.len,
    pin := fun p hp => I.pin p (by rw [List.append_nil] at hp; exact hp) }
theorem outof {a : Addr} {pn' : List (Addr × Obj)} (I : Inv (X.suite a (X.pn ++ pins)) pn' σ H s) (ok : X.Ok) : Inv X pins σ H s :=
  { ok := ok, os := I.os, bare := I.bare, base := I.base, loc := I.loc, cell := I.cell, free := I.free, freeC := I.freeC, hok := I.hok, len := I.len,
    pin := fun p hp => I.pin p (List.mem_append_left _ hp) }
/-- a caught exception is tracked -/
theorem track {B : Heap} {s' : Shared} {a : Addr} {cls : Value} {d : Option Addr} {oe : Obj} {vs : Array Value} (J : Inv X pins σ H s) (nb : ∀ b o, s.heap.get? b = some o → b ∉ frs X.stack → B.get? b = some o) (na : H a = none) (nfr : a ∉ frs X.stack)
    (Ba : B.get? a = none) (st : B.StaysIn s'.heap) (up : s.heap.UpToSlots s'.heap) (os : s'.os = s.os) (ag : AllBare s'.gens) (he : s'.heap.get? a = some oe) (hz : Zc cls d oe) (hd : oe.data = .fields vs) :
    Inv X pins σ (upd H a (exq a cls d)) s' := by
  obtain ⟨G, g1, g2⟩ := restrict s'.heap (fun b => decide (b ≠ a))
  have keep : ∀ b, b ≠ a → G.get? b = s'.heap.get? b := fun b hb => g1 b (decide_eq_true hb)
  have gone : G.get? a = none := g2 a (by simp)
  have sa : s.heap.get? a = none := by
    cases c : s.heap.get? a with
    | none => rfl
    | some o => rw [nb a o c nfr] at Ba; cases Ba
  obtain ⟨hp, gg, dd, tt, oo⟩ := s'
  have stG : B.StaysIn G := fun b o e => by
    have nba : b ≠ a := fun z => by rw [z, Ba] at e; cases e
    rw [keep b nba]
    exact st b o e
  have upG : s.heap.UpToSlots G := fun b o e nf => by
    have nba : b ≠ a := fun z => by rw [z, sa] at e; cases e
    obtain ⟨sl, q⟩ := up b o e nf
    exact ⟨sl, (keep b nba).trans q⟩
  have JG : Inv X pins σ H ⟨G, gg, dd, tt, oo⟩ := J.landed nb stG upG os ag
  refine Inv.laidN (t' := tt) (h' := hp) JG (fun b o e => ?_) gone na (exq_ok he hz hd)
  have nba : b ≠ a := fun z => by
    have e' : G.get? b = some o := e
    rw [z, gone] at e'
    cases e'
  exact (keep b nba).symm.trans e
end
section
variable {X : Cx} {x n : Str} {c : Value} {i : Nat} {body suite : List Stmt} {b₀ : Stmt} {np pos pos' : Pos} {tb : WX → TS} {ts : Addr → Value → Option Addr → TS} {Wout : WX}
theorem ps_try_trk (hs : X.stack = X.env :: X.outer) (hf : X.env.frame = some X.env.locals) (hN : X.N.Nodup) (hi : X.N[i]? = some n) (hln : X.env.kindOf n = some .local) (hc : Names X x c) (tk : Takes X Wout)
    (hb : ∀ (W : WX) (pn : List (Addr × Obj)) (xe : Value → Shared → Prop), Takes (X.tr pn xe) W → PassesOwn (model X.prog X.w) X.A X.env xe → PSs (X.tr pn xe) body (tb W))
    (hsu : ∀ (a : Addr) (cls : Value) (d : Option Addr) (pn : List (Addr × Obj)), PSs (X.suite a pn) (b₀ :: suite) (ts a cls d)) :
    PS X (.Try body [.ExceptHandler (some (.Name x np)) (some n) (b₀ :: suite) pos'] [] [] pos) (fun D σ H => tb (wTrk X.K c i ts Wout D) D σ H) := by
  constructor
  intro pins s σ H D I h
  have good := I.ok
  have fr : X.A.frames = some (X.env :: X.outer) := by rw [good.frames, hs]
  apply wpAny_Try_except
  refine wpAny_mono ((hb (wTrk X.K c i ts Wout D) (X.pn ++ pins) (fun e t1 => wpAny (model X.prog X.w) X.A (noteFrame e X.env) (fun _ t2 => wpAny (model X.prog X.w) X.A (setFlight e none)
    (fun _ t3 => wpAny (model X.prog X.w) X.A (handleBy e X.env [.ExceptHandler (some (.Name x np)) (some n) (b₀ :: suite) pos']) (SP X pins D) X.xe t3) X.xe t2) X.xe t1) ?air PassesOwn.looking).run [] s σ H D (I.toTry _) h) ?calm (fun _ _ z => z)
  case calm =>
    intro f s1 z
    match f, z with
    | .next, z => obtain ⟨σ', H', J, q⟩ := z; exact wpAny_execs_nil ⟨σ', H', J.ofTry good, q⟩
    | .brk, z => obtain ⟨σ', H', J, q⟩ := z; exact ⟨σ', H', J.ofTry good, q⟩
    | .cont, z => obtain ⟨σ', H', J, q⟩ := z; exact ⟨σ', H', J.ofTry good, q⟩
    | .ret u, z => obtain ⟨v, σ', H', J, r, q⟩ := z; exact ⟨v, σ', H', J.ofTry good, r, q⟩
  case air =>
    rintro u s' ⟨a, B, sI, pins', σ', H', cls, d, rfl, J0, nb, up, sky, na, os, ag, b, hb1, yes, no⟩
    have J : Inv X pins σ' H' sI := J0.ofTry good
    have sky1 : Sky B (X.env :: X.outer) a (Zc cls d) X.env.locals s'.heap := by rw [← hs]; exact sky
    show wpAny (model X.prog X.w) X.A (noteFrame (.ref a) X.env) _ _ _
    refine Sky.land Zc.steady fr hf sky1 ?_
    intro h3 fl3 up3
    have J3 : Inv X pins σ' H' { s' with heap := h3 } := J.landed nb fl3.1 (up.trans up3) os ag
    obtain ⟨oe3, vs3, he3, hz3, hd3⟩ := fl3.there
    have nfr : a ∉ frs (X.env :: X.outer) := by
      intro hm
      obtain ⟨_, o', e', hnf⟩ := fl3.2.2.1.mem hm
      rw [he3] at e'
      cases e'
      exact hnf _ hd3
    have nst : a ∉ frs X.stack := by rw [hs]; exact nfr
    have LT : PySem.W.Looks (model X.prog X.w) h3 (typeOf (.ref a)) cls := fun A Q E s k q => wpAny_typeOf_ref (k _ _ he3) (by rw [hz3.1]; exact q)
    have LM := PySem.W.exm_one (M := model X.prog X.w) J3.kIn LT hb1
    have test : ∀ {Q : Value → Shared → Prop} {E : Value → Shared → Prop}, Q c { s' with heap := h3 } → wpAny (model X.prog X.w) (X.A.mark (some (.ref a))) (eval (.Name x np) X.env) Q E { s' with heap := h3 } := by
      intro Q E q
      obtain ⟨gl, nodb, hm | ⟨hm, hv, hnn⟩⟩ := hc
      · exact ld_glob (X := X.suite a (X.pn ++ pins)) (into J3 a) gl hm q nodb
      · exact ld_blt (X := X.suite a (X.pn ++ pins)) (into J3 a) gl hm hv q hnn nodb
    refine wpAny_handleBy_cons (codeAny_handlers_test ?_) (by intro q; cases q)
    refine test (LM.here ?_)
    cases b with
    | true =>
      apply codeAny_handlers_suite_as
      refine HandSPX.lands_againZ fl3 ?_
      intro h4 fl4 up4
      obtain ⟨oe4, vs4, he4, hz4, hd4⟩ := fl4.there
      have JT : Inv X pins σ' (upd H' a (exq a cls d)) { s' with heap := h4 } := track J nb na nst fl4.2.1 fl4.1 ((up.trans up3).trans up4) os ag he4 hz4 hd4
      refine store_ok (X := X.suite a (X.pn ++ pins)) (v := .ref a) (into JT a) hN hi (.inl hln) rfl (fun s5 S5 => ?_) (.inr hln)
      have fin : ∀ {σ6 : L2.St} {H6 : Hp} {s6 : Shared} {Q : Shared → Prop}, Inv (X.suite a (X.pn ++ pins)) [] σ6 H6 s6 → (∀ s7, Inv X pins (σ6.set i none) H6 s7 → Q s7) →
          wpAny (model X.prog X.w) X.A (do bindName X.env n .none; unbindBehindTheSuite X.env n pos') (fun _ s7 => Q s7) X.xe s6 := by
        intro σ6 H6 s6 Q S6 hq
        exact gone_ok (outof S6 good) hN hi hln hq
      refine wpAny_mono ((hsu a cls d (X.pn ++ pins)).run [] s5 _ _ _ S5 (yes rfl a na)) ?_ (fun _ _ z => z.elim)
      intro f s6 z
      match f, z with
      | .next, z => obtain ⟨σ6, H6, S6, q⟩ := z; exact fin S6 fun s7 J7 => ⟨_, _, J7, q⟩
      | .brk, z => obtain ⟨σ6, H6, S6, q⟩ := z; exact fin S6 fun s7 J7 => ⟨_, _, J7, q⟩
      | .cont, z => obtain ⟨σ6, H6, S6, q⟩ := z; exact fin S6 fun s7 J7 => ⟨_, _, J7, q⟩
      | .ret u, z => obtain ⟨v6, σ6, H6, S6, r6, q⟩ := z; exact fin S6 fun s7 J7 => ⟨_, _, _, J7, r6, q⟩
    | false =>
      show wpAny _ X.A (handleBy (.ref a) X.env []) _ _ _
      apply wpAny_handleBy_nil
      obtain ⟨k1, k2, k3, oe, vs, Tb, oT, tvs, he, hz, hd, h1, hr⟩ := id fl3
      unfold PySem.passOn
      refine wpAny_bind (wpAny_field he hd h1 ?_)
      rw [if_neg (show ¬ ((Value.ref Tb == Value.none) = true) from by simp)]
      have goes : wpAny (model X.prog X.w) X.A (setFlight (.ref a) X.env.frame) (fun _ s4 => wpAny (model X.prog X.w) X.A (throw (.ref a) : Sem Flow) (SP X pins D) X.xe s4) X.xe { s' with heap := h3 } := by
        rw [hf]
        refine HandSPX.setFlight_upZ fl3 ?_
        intro h4 hh4 up4
        refine wpAny_throw (tk _ _ ?_)
        exact ⟨a, B, sI, pins, σ', H', cls, d, rfl, J, nb, (up.trans up3).trans up4, .inr (.inr (by rw [hs]; exact hh4)), na, os, ag, no rfl⟩
      first
        | exact wpAny_bind (wpAny_pure (wpAny_bind goes))
        | exact wpAny_bind goes
end
end Vz
set_option Elab.async false
set_option linter.all false
set_option maxRecDepth 100000
set_option maxHeartbeats 4000000
/-! What a caught exception that is kept is asked behind its clause; a call within try. -/
namespace Vz
open PySem PySem.Spec PyProof.Rows L2
/-- what the class must say -/
structure XcF (K : PySem.W.Frag) (C : Addr) : Prop where
  ga : PySem.W.findIn K (.ref C) "__getattribute__" = some (some (.builtin "BaseException.__getattribute__"))
  gg : PySem.W.findIn K (.ref C) "__getattr__" = some none
  su : PySem.W.subIn K (.ref C) (.type "BaseException") = some true
  hd : PySem.W.hasDictIn K C = true
  ha : PySem.W.findIn K (.ref C) "__class__" = some (some (.builtin "object.__class__"))
  hn : PySem.W.specialIn K (.builtin "object.__class__") "__get__" = some (some (.builtin "getset_descriptor.__get__"))
  ht : PySem.W.takesIn K (.builtin "object.__class__") = some true
  hm : PySem.W.mroIn K C (.type "object") = some true
theorem XcF.cl {K : PySem.W.Frag} {C : Addr} (T : XcF K C) : (PySem.W.clsIn K C).isSome = true := by
  obtain ⟨cd, hc, _⟩ := PySem.W.any_some T.hd
  rw [hc]; rfl
/-- the object at a is an exception of the class C whose own dict is at d -/
def IsX (K : PySem.W.Frag) (H : Hp) (a C d : Addr) (fs : List (Str × V)) : Prop := H a = some (exq a (.ref C) (some d)) ∧ H d = some (.xd fs)
theorem IsX.inst {X : Cx} {pins : List (Addr × Obj)} {σ : L2.St} {H : Hp} {s : Shared} {a C d : Addr} {fs : List (Str × V)} (I : Inv X pins σ H s) (h : IsX X.K H a C d fs) :
    ∃ (oe od : Obj) (mA : Str → Option Value), PySem.W.InstAt s.heap a oe C (some od) ∧ (∀ n, PySem.W.lookIn n od = some (mA n)) ∧ ∀ n, RelO (fs.lookup n) (mA n) := by
  obtain ⟨oe, vs, he, hz, hd⟩ := exq_at I.hok h.1
  have hx : ObjOk X.prog X.w H s.heap d (.xd fs) := I.hok d _ h.2
  obtain ⟨mA, hns, hr⟩ := hx
  obtain ⟨od, ho, hl⟩ := lookIn_ns hns
  refine ⟨oe, od, mA, ⟨he, hz.1, by unfold PySem.W.notCls; rw [hd] <;> rfl, by rw [hz.2]; exact ho⟩, hl, hr⟩
def rIsQ (K : PySem.W.Frag) : List V → Hp → VK → Prop := fun xs H Q => ∃ (a C d : Addr) (fs : List (Str × V)), xs = [.ref a, .ref C] ∧ XcF K C ∧ IsX K H a C d fs ∧ Q (.bl true) H
theorem call_isQ {X : Cx} : CallR X (.builtin "isinstance") (rIsQ X.K) := by
  intro pins s σ H xs us Q I r h
  obtain ⟨a, C, d, fs, rfl, T, ix, q⟩ := h
  cases r with
  | cons rx rr =>
    cases rr with
    | cons rt rr =>
      cases rr
      cases rx
      cases rt
      obtain ⟨oe, od, mA, J, _, _⟩ := ix.inst I
      have e : PySem.W.kitOne X.K (.ref C) (.ref C) = some true := by unfold PySem.W.kitOne; rw [if_pos (by simp)]
      exact PySem.W.kia_one (PySem.W.kitx_exc (od := some od) T.cl T.ga T.gg T.su T.ha T.hn T.ht T.hm) I.kIn J e (fun z => nomatch z) fun tk => ⟨.bl true, H, I.kept (t' := tk) fun _ _ z => z, rfl, q⟩
/-- e.f of a caught exception that is kept -/
def tXq (K : PySem.W.Frag) (f : Str) (te : TE) : TE := fun σ H Q => te σ H fun x H1 => ∃ (a C d : Addr) (fs : List (Str × V)) (v : V), x = .ref a ∧ XcF K C ∧ PySem.W.findIn K (.ref C) f = some none ∧ IsX K H1 a C d fs ∧ fs.lookup f = some v ∧ Q v H1
theorem pe_xq {X : Cx} {e : Expr} {te : TE} {pos : Pos} {n : Str} (he : PE X e te) (hb : attributeBase e n X.env (eval e X.env) = eval e X.env := by rfl) : PE X (.Attribute e n pos) (tXq X.K n te) := by
  refine ⟨fun pins s σ H Q I h => ?_⟩
  refine attr_of hb (thn (he.run pins s σ H _ I h) fun u s1 hh => ?_)
  obtain ⟨x, H1, I1, rx, a, C, d, fs, v, ex, T, hno, ix, l, q⟩ := hh
  subst ex
  obtain rfl : u = Value.ref a := rx
  obtain ⟨oe, od, mA, J, hl, hr⟩ := ix.inst I1
  obtain ⟨u, hu, ru⟩ := RelO.some_of (v := v) (o := mA n) (by rw [← l]; exact hr n)
  exact HandSPX.exc_get I1.kIn J T.ga T.gg T.su (PySem.W.findObj_own T.hd hno rfl (by rw [hl, hu])) (handed_of ru) ⟨v, H1, I1.tok _, ru, q⟩
/-- nothing flies -/
theorem takes_none {X : Cx} : Takes X (fun _ _ _ _ => False) := by
  rintro u s' ⟨_, _, _, _, _, _, _, _, _, _, _, _, _, _, _, _, w⟩
  exact w.elim
/-- a call within try: what flies is asked at the slots of the call -/
def tCallS (sp : Sp) (dvs : List V) (W : WX) (t : TA) : TE := fun σ H Q => t σ H fun vs H1 => sp (vs ++ dvs) H1 Q (fun cls d H' => W cls d σ H')
section
variable {X : Cx} {k : Nat} {f : Addr} {fd : FuncData} {ps : List Str} {sp : Sp} {ds : List Value} {dvs : List V} {W : WX}
theorem pe_callS {x : Str} {p pos : Pos} {e : Expr} {es : List Expr} {t : TA} (F : FnOk X.prog X.w X.K X.mg X.base (L2.CX X.prog X.w) k f fd ps sp) (hr : Room k X.A) (gl : Gl X x)
    (at_ : X.mg x = some (.ref f)) (kp : PySem.W.keepIn X.K (.ref f) = true) (bd : Binds X.K fd ps ds) (dv : Vals dvs ds) (tk : Takes X W) (pa : PA X (e :: es) t)
    (nodb : (x == ("__debug__" : Str)) = false := by decide) (st : starEach (e :: es) X.env = (false, eval e X.env) :: starEach es X.env := by rfl)
    (pl : (backTo pos (starEach es X.env)).any (·.1) = false := by rfl) :
    PE X (.Call (.Name x p) (e :: es) [] pos) (tCallS sp dvs W t) := by
  constructor
  intro pins s σ H Q I h
  apply wpAny_Call_Name_kw
  refine ld_glob I gl at_ ?_ nodb
  refine PySem.W.callWith_K (h₀ := X.base) I.ok.mod.kin kp (thn (pa.run pos pins s σ H _ I h) ?_) st pl
  rintro us s1 ⟨vs, H1, I1, r, q⟩
  refine ⟨I1.kIn, ?_⟩
  have rr : Vals (vs ++ dvs) (us ++ ds) := r.append dv
  have many : (us ++ ds).length = ps.length := by rw [← rr.length]; exact F.len _ _ _ _ q
  refine wpAny_call (codeAny_mono (F.run X.A X.stack s1 H1 ⟨us, []⟩ (us ++ ds) (vs ++ dvs) Q _ hr I1.env0 (bd s1 us I1.kIn many) rr q) ?_)
  rintro (err | fl) s' hq
  · exact tk err s' (XE.of_call I1 (fun _ _ _ z => z) hq)
  · cases fl
    case ret u => exact I1.after hq
    all_goals exact hq.elim
end
theorem vals_rev : ∀ {xs : List V} {us : List Value}, Vals xs us → Vals xs.reverse us.reverse
  | _, _, .nil => .nil
  | _, _, .cons h t => by
    rw [List.reverse_cons, List.reverse_cons]
    exact (vals_rev t).append (.cons h .nil)
theorem FunD.kb0 {K : PySem.W.Frag} {x qual : Str} {params : Arguments} {body : List Stmt} {scope : Scope} {dvs : List V} {kws : List (Str × V)} {f : Addr} {fd : FuncData} {ps : List Str} (F : FunD K x qual params body scope dvs kws f fd) (hd : dvs ≠ []) (ks : List Str) (g : List Value → List Value → List Value) (gV : List V → List V → List V)
    (rel : ∀ {vs : List V} {us : List Value} {zs : List V} {ws : List Value}, Vals vs us → Vals zs ws → Vals (gV vs zs) (g us ws))
    (h : ∀ (T : Addr) (kV doc pm : Value) (an : Option Addr) (cdv ct : Value) (us ws its : List Value), (g us ws).length = ps.length → its.length = dvs.length →
      ∃ k, bindArgs (PySem.W.fnOf x qual params body scope (.ref T) kV doc pm an cdv ct) ⟨us, ks.zip ws⟩ = seqItems? (.ref T) >>= k ∧ k (some its.toArray) = pure (ps.zip (g us ws))) : KBinds K fd ps ks g gV := by
  obtain ⟨oc, od, dV, kV, doc, pm, an, cdv, ct, osl, rfl, lk, hcd, hD, hK⟩ := F.ex
  rcases hD with ⟨e, _⟩ | ⟨_, T, o, its, m, rfl, lT, oT, rT⟩
  · exact absurd e hd
  · refine ⟨fun s us ws X hl => ?_, rel⟩
    obtain ⟨k, e1, e2⟩ := h T kV doc pm an cdv ct us ws its hl rT.length.symm
    refine BindsTo.of_looks fun M => ?_
    rw [e1]
    exact looks_items X lT oT (.of_pure e2)
end Vz
set_option Elab.async false
set_option linter.all false
set_option maxRecDepth 100000
set_option maxHeartbeats 4000000
/-! f-strings: {i:02d}. -/
namespace Vz
open PySem PySem.Spec PyProof.Rows L2
theorem ns_none {K : PySem.W.Frag} {h : Heap} {b : Addr} {mg : Str → Option Value} {n : Str} (X : K.In h) (G : h.Ns b mg) (e : PySem.W.nsIn K b n = some none) : mg n = none := by
  obtain ⟨o, es, ep, ho, hd, _, hf⟩ := G
  unfold PySem.W.nsIn at e
  split at e
  · rename_i c d es' n' sl q
    have := X _ _ q
    rw [ho] at this
    cases this
    cases hd
    split at e
    · cases e
    · rename_i he
      rw [← hf]
      unfold nsFind findBy
      rw [← Array.find?_toList, he]
      rfl
  · cases e
section
variable {X : Cx} {pins : List (Addr × Obj)} {σ : L2.St} {H : Hp} {s : Shared}
theorem noDig (I : Inv X pins σ H s) (z : PySem.W.nsIn X.K cStatics "sys.int_max_str_digits" = some none) : s.heap.NoDigits := by
  have e0 := I.env0
  obtain ⟨mc, l1, l2⟩ := e0.mod.nolimit.keeps (fun b o e => (e0.bs b o e).1)
  exact ⟨mc, l1, ns_none I.kIn l1 z⟩
def tFmtI (sp : Str) (te : TE) : TE := fun σ H Q => te σ H fun x H1 => ∃ i : Int, x = .int i ∧ 0 ≤ i ∧ i < 10 ^ 10 ∧ ((intSpecTextOf sp i).length = max (intSpecWidthOf sp) (Nat.toDigits 10 i.natAbs).length → Q (.str (intSpecTextOf sp i)) H1)
theorem pe_fmtI {e spec : Expr} {te : TE} {pos : Pos} {sp : Str} (z : PySem.W.nsIn X.K cStatics "sys.int_max_str_digits" = some none) (ok : intSpecOk sp = true) (sz : sp.length ≤ sizeLine) (he : PE X e te) (hs : PE X spec (tC (.str sp))) :
    PE X (.FormattedValue e (-1) (some spec) pos) (tFmtI sp te) := by
  refine ⟨fun pins s σ H Q I h => ?_⟩
  refine wpAny_FormattedValue_spec (thn (he.run pins s σ H _ I h) fun v s1 hv => ?_)
  obtain ⟨x, H1, I1, r1, i, rfl, i0, i1, q⟩ := hv
  obtain ⟨t, rfl⟩ := r1
  refine thn (hs.run pins s1 σ H1 (fun y H2 => y = .str sp ∧ H2 = H1) I1 ⟨rfl, rfl⟩) fun u s2 hu => ?_
  obtain ⟨y, H2, I2, r2, rfl, rfl⟩ := hu
  obtain ⟨tk, rfl⟩ := r2
  refine ⟨sp, tk, rfl, ?_⟩
  have hl : i.natAbs < 10 ^ 4300 := by
    have a : i.natAbs < 10 ^ 10 := by
      have e10 : (10 : Int) ^ 10 = 10000000000 := by decide
      have e11 : (10 : Nat) ^ 10 = 10000000000 := by decide
      rw [e10] at i1
      rw [e11]
      omega
    exact Nat.lt_of_lt_of_le a (Nat.pow_le_pow_right (by decide) (by decide))
  refine formatField_int_specOf (noDig I2 z) hl ok (fun W eW F => ?_) sz
  subst eW
  exact ⟨.str _, H2, I2.tok _, ⟨_, rfl⟩, q (F.lenNonneg i0)⟩
end
theorem digits_le {n k : Nat} (hk : 0 < k) (h : n < 10 ^ k) : (Nat.toDigits 10 n).length ≤ k := by
  have e := (Nat.length_repr_le_iff (n := n) hk).mpr h
  rwa [← String.length_toList, Nat.toList_repr] at e
/-- what is not reached -/
theorem pss_dead {X : Cx} {ss : List Stmt} : PSs X ss (fun _ _ _ => False) := ⟨fun _ _ _ _ _ _ h => h.elim⟩
end Vz
set_option Elab.async false
set_option linter.all false
set_option maxRecDepth 100000
set_option maxHeartbeats 4000000
/-! Data that stays; calls by keywords within try; isinstance with both answers of a caught exception that is kept. -/
namespace Vz
open PySem PySem.Spec PyProof.Rows L2
def KeepV (d : Addr) (H H' : Hp) : Prop := ∀ a o, a ≠ d → H a = some o → H' a = some o
section
variable {K : PySem.W.Frag} {H H' : Hp} {d : Addr} {kvs : List (Key × V)}
theorem sqL_keep (hd : H d = some (.dK kvs)) (e : KeepV d H H') {a : Addr} {xs : List V} (h : SqL K H a xs) : SqL K H' a xs := by
  have ne : ∀ {o : HO}, H a = some o → o ≠ .dK kvs → a ≠ d := fun q n z => by rw [z, hd] at q; cases q; exact n rfl
  rcases h with (h | ⟨o, h⟩) | h
  · exact .inl (.inl (e _ _ (ne h (by intro z; cases z)) h))
  · exact .inl (.inr ⟨o, e _ _ (ne h (by intro z; cases z)) h⟩)
  · exact .inr h
theorem sqT_keep (hd : H d = some (.dK kvs)) (e : KeepV d H H') {a : Addr} {xs : List V} (h : SqT K H a xs) : SqT K H' a xs := by
  have ne : ∀ {o : HO}, H a = some o → o ≠ .dK kvs → a ≠ d := fun q n z => by rw [z, hd] at q; cases q; exact n rfl
  rcases h with (h | ⟨o, h⟩) | h
  · exact .inl (.inl (e _ _ (ne h (by intro z; cases z)) h))
  · exact .inl (.inr ⟨o, e _ _ (ne h (by intro z; cases z)) h⟩)
  · exact .inr h
theorem sqT_same (e : Same H H') {a : Addr} {xs : List V} (h : SqT K H a xs) : SqT K H' a xs := by
  rcases h with (h | ⟨o, h⟩) | h
  · exact .inl (.inl (e _ _ h))
  · exact .inl (.inr ⟨o, e _ _ h⟩)
  · exact .inr h
mutual
theorem dp_map (fL : ∀ {a : Addr} {xs : List V}, SqL K H a xs → SqL K H' a xs) (fT : ∀ {a : Addr} {xs : List V}, SqT K H a xs → SqT K H' a xs) : ∀ (d : PyData) (v : V), Dp K H v d → Dp K H' v d
  | .none, _, h => by cases h; exact .non
  | .bool b, _, h => by cases h; exact .bl b
  | .int i, _, h => by cases h; exact .int i
  | .str x, _, h => by cases h; exact .str x
  | .list ds, _, h => by
    cases h with
    | lst q r => exact .lst (fL q) (dpAll_map fL fT ds _ r)
  | .tuple ds, _, h => by
    cases h with
    | tup q r => exact .tup (fT q) (dpAll_map fL fT ds _ r)
  | .dict _, _, h => by cases h
theorem dpAll_map (fL : ∀ {a : Addr} {xs : List V}, SqL K H a xs → SqL K H' a xs) (fT : ∀ {a : Addr} {xs : List V}, SqT K H a xs → SqT K H' a xs) : ∀ (ds : List PyData) (vs : List V), DpAll K H vs ds → DpAll K H' vs ds
  | [], _, h => by cases h; exact .nil
  | d :: ds, _, h => by
    cases h with
    | cons q r => exact .cons (dp_map fL fT d _ q) (dpAll_map fL fT ds _ r)
end
theorem dp_same (e : Same H H') {d : PyData} {v : V} (h : Dp K H v d) : Dp K H' v d := dp_map e.seq (sqT_same e) d v h
theorem dp_keep (hd : H d = some (.dK kvs)) (e : KeepV d H H') {pd : PyData} {v : V} (h : Dp K H v pd) : Dp K H' v pd := dp_map (sqL_keep hd e) (sqT_keep hd e) pd v h
end
/-- isinstance(e, C) of a caught exception that is kept -/
def rIsR (K : PySem.W.Frag) : List V → Hp → VK → Prop := fun xs H Q => ∃ (a C D d : Addr) (fs : List (Str × V)) (b : Bool), xs = [.ref a, .ref D] ∧ XcF K C ∧ IsX K H a C d fs ∧ PySem.W.kitOne K (.ref C) (.ref D) = some b ∧ Q (.bl b) H
theorem call_isR {X : Cx} : CallR X (.builtin "isinstance") (rIsR X.K) := by
  intro pins s σ H xs us Q I r h
  obtain ⟨a, C, D, d, fs, b, rfl, T, ix, e, q⟩ := h
  cases r with
  | cons rx rr =>
    cases rr with
    | cons rt rr =>
      cases rr
      cases rx
      cases rt
      obtain ⟨oe, od, mA, J, _, _⟩ := ix.inst I
      exact PySem.W.kia_one (PySem.W.kitx_exc (od := some od) T.cl T.ga T.gg T.su T.ha T.hn T.ht T.hm) I.kIn J e (fun z => nomatch z) fun tk => ⟨.bl b, H, I.kept (t' := tk) fun _ _ z => z, rfl, q⟩
theorem kit_refl {K : PySem.W.Frag} {C : Addr} : PySem.W.kitOne K (.ref C) (.ref C) = some true := by unfold PySem.W.kitOne; rw [if_pos (by simp)]
/-- a call by keywords within try -/
def tCallKS (sp : Sp) (gV : List V → List V → List V) (W : WX) (t tk : TA) : TE := fun σ H Q => t σ H fun vs H1 => tk σ H1 fun zs H2 => sp (gV vs zs) H2 Q (fun cls d H' => W cls d σ H')
section
variable {X : Cx} {k : Nat} {f : Addr} {fd : FuncData} {ps ks : List Str} {sp : Sp} {W : WX} {g : List Value → List Value → List Value} {gV : List V → List V → List V}
theorem run_fnkS {pins : List (Addr × Obj)} {σ : L2.St} {H : Hp} {s : Shared} {Q : VK} {us ws : List Value} {vs zs : List V} (F : FnOk X.prog X.w X.K X.mg X.base (L2.CX X.prog X.w) k f fd ps sp) (hr : Room k X.A) (hb : KBinds X.K fd ps ks g gV) (tk : Takes X W)
    (I : Inv X pins σ H s) (r : Vals vs us) (rz : Vals zs ws) (h : sp (gV vs zs) H Q (fun cls d H' => W cls d σ H')) : wpAny (model X.prog X.w) X.A (call (.ref f) us (ks.zip ws)) (EP X pins σ Q) X.xe s := by
  have r2 := hb.rel r rz
  have hl : (g us ws).length = ps.length := by rw [← r2.length]; exact F.len _ _ _ _ h
  refine wpAny_call (codeAny_mono (F.run X.A X.stack s H ⟨us, ks.zip ws⟩ (g us ws) (gV vs zs) Q _ hr I.env0 (hb.to s us ws I.kIn hl) r2 h) ?_)
  rintro (err | fl) s' hq
  · exact tk err s' (XE.of_call I (fun _ _ _ z => z) hq)
  · cases fl
    case ret u => exact I.after hq
    all_goals exact hq.elim
theorem pe_callKS0 {x : Str} {p pos : Pos} {kws : List Keyword} {tkw : TA} (F : FnOk X.prog X.w X.K X.mg X.base (L2.CX X.prog X.w) k f fd ps sp) (hr : Room k X.A) (gl : Gl X x) (at_ : X.mg x = some (.ref f))
    (kp : PySem.W.keepIn X.K (.ref f) = true) (bd : KBinds X.K fd ps ks g gV) (tk : Takes X W) (pk : PK X kws tkw)
    (al : (backToKw pos (keywordEach kws X.env)).all (·.1.isSome) = true := by rfl) (nm : (backToKw pos (keywordEach kws X.env)).filterMap (·.1) = ks := by rfl)
    (nodb : (x == ("__debug__" : Str)) = false := by decide)
    (pl : ((backTo pos (starEach [] X.env)).any (·.1) || (backToKw pos (keywordEach kws X.env)).any (·.1.isNone)) = false := by rfl) :
    PE X (.Call (.Name x p) [] kws pos) (tCallKS sp gV W tNil tkw) := by
  constructor
  intro pins s σ H Q I h
  apply wpAny_Call_Name_kw
  refine ld_glob I gl at_ ?_ nodb
  refine PySem.W.callWith_KW0 (h₀ := X.base) I.ok.mod.kin kp al (thn (pk.run pos pins s σ H _ I h) ?_) pl
  rintro ws s2 ⟨zs, H2, I2, rz, q2⟩
  refine ⟨I2.kIn, ?_⟩
  rw [nm]
  exact run_fnkS F hr bd tk I2 .nil rz q2
theorem pe_callKS1 {x : Str} {p pos : Pos} {e : Expr} {es : List Expr} {kws : List Keyword} {t tkw : TA} (F : FnOk X.prog X.w X.K X.mg X.base (L2.CX X.prog X.w) k f fd ps sp) (hr : Room k X.A) (gl : Gl X x) (at_ : X.mg x = some (.ref f))
    (kp : PySem.W.keepIn X.K (.ref f) = true) (bd : KBinds X.K fd ps ks g gV) (tk : Takes X W) (pa : PA X (e :: es) t) (pk : PK X kws tkw)
    (al : (backToKw pos (keywordEach kws X.env)).all (·.1.isSome) = true := by rfl) (nm : (backToKw pos (keywordEach kws X.env)).filterMap (·.1) = ks := by rfl)
    (nodb : (x == ("__debug__" : Str)) = false := by decide) (st : starEach (e :: es) X.env = (false, eval e X.env) :: starEach es X.env := by rfl)
    (pl : ((backTo pos (starEach (e :: es) X.env)).any (·.1) || (backToKw pos (keywordEach kws X.env)).any (·.1.isNone)) = false := by rfl) :
    PE X (.Call (.Name x p) (e :: es) kws pos) (tCallKS sp gV W t tkw) := by
  constructor
  intro pins s σ H Q I h
  apply wpAny_Call_Name_kw
  refine ld_glob I gl at_ ?_ nodb
  refine PySem.W.callWith_KW (h₀ := X.base) I.ok.mod.kin kp al (thn (pa.run pos pins s σ H _ I h) fun us s1 ⟨vs, H1, I1, r, q⟩ => ?_) pl st
  refine thn (pk.run pos pins s1 σ H1 _ I1 q) fun ws s2 ⟨zs, H2, I2, rz, q2⟩ => ⟨I2.kIn, ?_⟩
  rw [nm]
  exact run_fnkS F hr bd tk I2 r rz q2
end
end Vz
set_option Elab.async false
set_option linter.all false
set_option maxRecDepth 100000
set_option maxHeartbeats 2000000
namespace Vz
open PySem PySem.Spec PyProof.Rows L2
/-! ### repr of None or data -/
def rReprN (K : PySem.W.Frag) : List V → Hp → VK → Prop := fun xs H Q => (xs = [.non] ∧ Q (.str "None") H) ∨ rRepr K xs H Q
theorem repr_orNone {X : Cx} (gd : X.A.guards = some []) (un : X.A.units + 64 < cLine) : CallR X (.builtin "repr") (rReprN X.K) := by
  intro pins s σ H xs us Q I r h
  rcases h with ⟨rfl, q⟩ | h
  · obtain ⟨u, rfl, ru⟩ := vals1 r
    have eu : u = Value.none := ru
    subst eu
    exact PySem.P.repr_of_none ⟨.str _, H, I.tok _, ⟨_, rfl⟩, q⟩
  · exact repr_data gd un pins s σ H xs us Q I r h
end Vz
set_option Elab.async false
set_option linter.all false
set_option maxRecDepth 100000
set_option maxHeartbeats 2000000
namespace Vz
open PySem PySem.Spec PyProof.Rows L2
/-! ### a text so many times; lists that are not equal -/
theorem op_repS {X : Cx} : OpR X (binaryOp .Mult) (fun x y H Q => ∃ (a : Str) (n : Int), x = .str a ∧ y = .int n ∧ MulOk a n ∧ Q (.str (Txt.mul a n)) H) := by
  rintro pins s σ H x y v u Q I rv ru ⟨a, n, rfl, rfl, ok, q⟩
  obtain ⟨t1, rfl⟩ := rv
  obtain ⟨t2, rfl⟩ := ru
  exact SB.mul ok fun t' k => ⟨.str _, H, I.tok _, ⟨_, rfl⟩, q⟩
/-- two lists with the same items, each of which is flat or one object -/
def rNeSame (K : PySem.W.Frag) : R2 := fun x y H Q => ∃ p q xs, x = .ref p ∧ y = .ref q ∧ SqL K H p xs ∧ SqL K H q xs ∧ (∀ v ∈ xs, (flatV v = true ∧ eqV v v = true) ∨ ∃ a, v = .ref a) ∧ Q (.bl false) H
theorem op_neSame {X : Cx} (hu : X.A.units + 64 < cLine) : OpR X (compareOp .NotEq) (rNeSame X.K) := by
  rintro pins s σ H x y v u Q I rv ru ⟨p, q, xs, rfl, rfl, h1, h2, hs, k⟩
  have e1 : v = .ref p := rv
  have e2 : u = .ref q := ru
  subst e1 e2
  obtain ⟨i1, r1, p1, _⟩ := I.list h1
  obtain ⟨i2, r2, p2, _⟩ := I.list h2
  have l1 := r1.length
  have l2 := r2.length
  have W := SeqAt.RcNeAt.lists (A := X.A) (s := s) (e := fun _ => true) p1.isList p2.isList (by simp only [List.size_toArray]; omega) (by omega) (fun j a b => ?_)
  · refine W X.prog X.w X.xe _ ?_
    have e : (List.range i1.toArray.size).all (fun _ => true) = true := by simp
    rw [e]
    exact ⟨.bl false, H, I, rfl, k⟩
  · have hj : j < xs.length := by rw [List.size_toArray] at a; omega
    have m := List.getElem_mem hj
    have g : xs[j]? = some xs[j] := by simp
    obtain ⟨u1, g1, w1⟩ := r1.get g
    obtain ⟨u2, g2, w2⟩ := r2.get g
    have q1 : i1.toArray[j] = u1 := by
      have := List.getElem?_eq_some_iff.mp g1
      obtain ⟨_, z⟩ := this
      simpa using z
    have q2 : i2.toArray[j] = u2 := by
      have := List.getElem?_eq_some_iff.mp g2
      obtain ⟨_, z⟩ := this
      simpa using z
    rw [q1, q2]
    rcases hs _ m with ⟨f, e⟩ | ⟨c, e⟩
    · have z := eqAt_V (A := X.A.in1) (s := s) w1 w2 f f
      rw [e] at z
      exact z
    · rw [e] at w1 w2
      have z1 : u1 = .ref c := w1
      have z2 : u2 = .ref c := w2
      rw [z1, z2]
      exact SeqAt.EqAt.same _
/-- a list and the empty list -/
def rNeNil (K : PySem.W.Frag) : R2 := fun x y H Q => ∃ p q xs, x = .ref p ∧ y = .ref q ∧ SqL K H p xs ∧ SqL K H q [] ∧ Q (.bl (!xs.isEmpty)) H
theorem op_neNil {X : Cx} (hu : X.A.units + 64 < cLine) : OpR X (compareOp .NotEq) (rNeNil X.K) := by
  rintro pins s σ H x y v u Q I rv ru ⟨p, q, xs, rfl, rfl, h1, h2, k⟩
  have e1 : v = .ref p := rv
  have e2 : u = .ref q := ru
  subst e1 e2
  obtain ⟨i1, r1, p1, _⟩ := I.list h1
  obtain ⟨i2, r2, p2, _⟩ := I.list h2
  have l1 := r1.length
  have l2 := r2.length
  cases xs with
  | nil =>
    have W := SeqAt.RcNeAt.lists (A := X.A) (s := s) (e := fun _ => true) p1.isList p2.isList (by simp only [List.size_toArray]; omega) (by omega) (fun j a b => by simp only [List.size_toArray] at b; simp at l2; omega)
    refine W X.prog X.w X.xe _ ?_
    have e : (List.range i1.toArray.size).all (fun _ => true) = true := by simp
    rw [e]
    exact ⟨.bl false, H, I, rfl, k⟩
  | cons a r =>
    have W := SeqAt.RcNeAt.lists_lengths (A := X.A) (s := s) p1.isList p2.isList (by simp only [List.size_toArray, bne_iff_ne]; simp at l1 l2; omega) (by omega)
    exact W X.prog X.w X.xe _ ⟨.bl true, H, I, rfl, k⟩
/-- two keywords in the order of the def, nothing by place -/
def kwO {α : Type} (us ws : List α) : List α := match us with
  | [] => ws
  | _ :: _ => []
theorem kb2 {K : PySem.W.Frag} {fd : FuncData} {p q : Str} (h : ∀ (s : Shared) (a b : Value), K.In s.heap → BindsTo s fd ⟨[], [p, q].zip [a, b]⟩ ([p, q].zip [a, b])) : KBinds K fd [p, q] [p, q] kwO kwO where
  to := by
    intro s us ws hk hl
    match us, ws, hl with
    | [], [a, b], _ => exact h s a b hk
    | [], [], z => cases z
    | [], [_], z => cases z
    | [], _ :: _ :: _ :: _, z => simp [kwO] at z
    | _ :: _, _, z => cases z
  rel := by
    intro vs us zs ws r z
    cases r with
    | nil => exact z
    | cons _ _ => exact .nil
end Vz
set_option Elab.async false
set_option linter.all false
set_option maxRecDepth 100000
set_option maxHeartbeats 2000000
namespace Vz
open PySem PySem.Spec PyProof.Rows L2
/-! ### for i, x in enumerate(tuple, start=k) -/
def ItEn (K : PySem.W.Frag) (k0 : Int) (a : Addr) : It where
  go := fun i H => ∃ (xs : List V) (x : V), SqT K H a xs ∧ xs[i]? = some x
  yld := fun i H v H' => ∃ T x, v = .ref T ∧ H T = none ∧ H' = upd H T (.tup [.int (k0 + (i : Nat)), x]) ∧ ∀ xs, SqT K H a xs → xs[i]? = some x
  stop := fun i H => ∃ xs : List V, SqT K H a xs ∧ i = xs.length
theorem walk_en {K : PySem.W.Frag} {k0 : Int} {a : Addr} {xs : List V} :
    Walk (ItEn K k0 a) xs.length (fun H => SqT K H a xs) (YPair (fun i => some (.int (k0 + (i : Nat)))) (fun i => xs[i]?)) := by
  constructor
  · intro i H hi g
    exact ⟨xs, xs[i], g, by simp⟩
  · intro H g
    exact ⟨xs, g, rfl⟩
  · rintro i H v H' hi g ⟨T, x, e, nT, eH, fx⟩
    exact ⟨T, _, x, e, nT, eH, rfl, fx xs g⟩
def EnSt (k0 : Int) (e it a : Addr) (i : Nat) (h : Heap) : Prop := (∃ old, IsEnum h e it (k0 + (i : Int)) old) ∧ h.IsTupleIter it a i
theorem turn_en {P : Program} {w : World} {K : PySem.W.Frag} {elts : List Expr} {kk : Nat} {tpos : Pos} {k0 : Int} {a e it : Addr} (n1 : a ≠ it) (n2 : e ≠ it) (n3 : e ≠ a) :
    Turn P w K (.Tuple elts kk tpos) (ItEn K k0 a) [e, it] e (EnSt k0 e it a) where
  mem := by simp
  obj := by
    rintro i h ⟨⟨old, he⟩, ⟨o1, e1, _, d1⟩⟩ c hc
    simp only [List.mem_cons, List.not_mem_nil, or_false] at hc
    rcases hc with rfl | rfl
    · exact ⟨_, he, fun v q => nomatch q⟩
    · exact ⟨o1, e1, fun v q => by rw [d1] at q; cases q⟩
  keep := by
    rintro i h h' ⟨⟨old, he⟩, h1⟩ k
    exact ⟨⟨old, k e (by simp) _ he⟩, h1.at (fun o q => k it (by simp) o q)⟩
  item := by
    intro X hP hw hK calm i pins s σ H E I free st go
    subst hP hw hK
    obtain ⟨he, h1⟩ := st
    obtain ⟨xs, x, gx, ex⟩ := go
    obtain ⟨its, rv, p, _⟩ := I.tuple gx
    have hh : X.A.in1.handled = none := I.ok.hd calm
    have dT := Draws.tuple (prog := X.prog) (w := X.w) (A := X.A.in1) hh it a n1 its.toArray
    have W := GoesN.enumFrom (elts := elts) (x1 := kk) (pos := tpos) k0 dT e n2 (by simp [n2, n3]) (by simp)
    have l1 := rv.length
    have m1 := (List.getElem?_eq_some_iff.mp ex).1
    have hi : i < its.toArray.size := by rw [List.size_toArray]; omega
    refine W.goes i s (fun v s2 => ∃ x H', Inv X pins σ H' s2 ∧ RelV x v ∧ (ItEn X.K k0 a).yld i H x H' ∧ EnSt k0 e it a (i + 1) s2.heap ∧ ∀ b' ∈ [e, it], H' b' = none) E hi
      ⟨he, h1, p⟩ ?_
    rintro v h' tk ⟨T, t, u1, rfl, nT, e1, hT⟩ ⟨he', h1', _⟩ kp _
    obtain ⟨w1, hw1, rw1⟩ := rv.get ex
    have q1 : u1 = w1 := by
      have z := e1
      simp only [List.getElem?_toArray] at z
      rw [hw1] at z
      exact (Option.some.inj z).symm
    subst q1
    have new : ObjOk X.prog X.w (upd H T (.tup [.int (k0 + (i : Nat)), x])) h' T (.tup [.int (k0 + (i : Nat)), x]) := ⟨by show 2 ≤ sizeLine; decide, [.int (k0 + (i : Nat)) t, u1], .cons ⟨_, rfl⟩ (.cons rw1 .nil), hT⟩
    have I1 : Inv X pins σ (upd H T (.tup [.int (k0 + (i : Nat)), x])) { s with heap := h', toks := tk } := by
      refine I.turnedNew (t' := tk) (ch := [e, it]) (fun c o hc q => kp c o (fun hm => hc ?_) q) free nT new
      simpa using hm
    refine ⟨.ref T, _, I1, rfl, ⟨T, x, rfl, I.hok.fresh nT, rfl, fun l hl => ?_⟩, ⟨he', h1'⟩, fun c hc => ?_⟩
    · rw [I.tuple_inj hl gx]; exact ex
    · have lt : c < s.heap.objs.size := by
        simp only [List.mem_cons, List.not_mem_nil, or_false] at hc
        rcases hc with rfl | rfl
        · obtain ⟨_, q⟩ := he; exact Heap.lt_size q
        · obtain ⟨_, q, _⟩ := h1; exact Heap.lt_size q
      rw [upd_ne (Nat.ne_of_lt (Nat.lt_of_lt_of_le lt nT))]
      exact (free c hc).1
  done := by
    intro X hP hw hK calm i pins s σ H E I free st stop
    subst hP hw hK
    obtain ⟨he, h1⟩ := st
    obtain ⟨xs, gx, hi⟩ := stop
    obtain ⟨its, rv, p, _⟩ := I.tuple gx
    have hh : X.A.in1.handled = none := I.ok.hd calm
    have dT := Draws.tuple (prog := X.prog) (w := X.w) (A := X.A.in1) hh it a n1 its.toArray
    have W := GoesN.enumFrom (elts := elts) (x1 := kk) (pos := tpos) k0 dT e n2 (by simp [n2, n3]) (by simp)
    have l1 := rv.length
    have hi' : i = its.toArray.size := by rw [List.size_toArray]; omega
    subst hi'
    refine W.stops s (fun s1 => Inv X pins σ H s1) E ⟨he, h1, p⟩ ?_
    intro h' tk kp _
    refine I.turnedL (t' := tk) (ch := [e, it]) (fun c o hc q => kp c o (fun hm => hc ?_) q) free
    simpa using hm
  self := fun A i s Q E st h => by
    obtain ⟨⟨_, he⟩, _⟩ := st
    exact wpAny_pyIter_enum he h
section
variable {M : Model} {A : Around} {E : Value → Shared → Prop} {s : Shared} {env : Env}
theorem callWith_type_kwB {pos : Pos} {T : String} {first : List Value} {args : List (Bool × Sem Value)} {keywords : List (Option Str × Sem Value)} {Q : Value → Shared → Prop}
    (hplain : args.any (·.1) = false) (hkw : keywords.any (·.1.isNone) = false)
    (h : wpAny M A (evalArgs (.type T) true args keywords) (fun a s₁ => wpAny M A (call (.type T) (first ++ a.pos) a.kw) Q E s₁) E s) :
    wpAny M A (callWith pos (.type T) first args keywords) Q E s := by
  unfold callWith
  refine wpAny_bind (wpAny_holding (wpAny_mono h (fun a s₁ h₁ => wpAny_bind (wpAny_standAt ?_)) fun _ _ x => x))
  simp only [hplain, hkw, Bool.or_false]
  refine wpAny_bind (wpAny_pure ?_)
  exact wpAny_bind (wpAny_mono h₁ (fun r s₂ hr => wpAny_bind (wpAny_holding (wpAny_point (wpAny_pure hr)))) fun _ _ x => x)
end
def iEn (K : PySem.W.Frag) (ta tk : TA) : TI := fun σ H R => ta σ H fun vs H1 => tk σ H1 fun zs H2 => ∃ (a : Addr) (xs : List V) (k0 : Int), vs = [.ref a] ∧ zs = [.int k0] ∧ -(2 ^ 63) ≤ k0 ∧ k0 < 2 ^ 63 ∧ SqT K H2 a xs ∧ R (ItEn K k0 a) H2
theorem pi_en {X : Cx} {e : Expr} {ta tk : TA} {p pos tpos : Pos} {kws : List Keyword} {elts : List Expr} {kk : Nat} (gl : Gl X "enumerate") (no : X.mg "enumerate" = none) (pa : PA X [e] ta) (pk : PK X kws tk)
    (he : backTo pos (starEach [e] X.env) = (false, eval e X.env) :: backTo pos (starEach [] X.env) := by rfl)
    (hplain : (backTo pos (starEach [e] X.env)).any (·.1) = false := by rfl)
    (hall : (backToKw pos (keywordEach kws X.env)).all (·.1.isSome) = true := by rfl)
    (hkw : (backToKw pos (keywordEach kws X.env)).any (·.1.isNone) = false := by rfl)
    (nm : (backToKw pos (keywordEach kws X.env)).filterMap (·.1) = [Str.ofString "start"] := by rfl) :
    PI X (.Tuple elts kk tpos) (.Call (.Name "enumerate" p) [e] kws pos) (iEn X.K ta tk) := by
  constructor
  intro pins s σ H R I h
  apply wpAny_Call_Name_kw
  refine ld_blt I gl no PyProof.Rows.boot_enumerate ?_
  refine callWith_type_kwB hplain hkw ?_
  have h2 := pa.run pos pins s σ H _ I h
  rw [he] at h2 ⊢
  refine PyProof.Rows.evalArgs_kwB hall (thn h2 ?_)
  rintro us s1 ⟨vs, H1, I1, r1, q1⟩
  refine thn (pk.run pos pins s1 σ H1 _ I1 q1) ?_
  rintro ws s2 ⟨zs, H2, I2, rz, a, xs, k0, ev, ez, k1, k2, gx, q⟩
  subst ev ez
  cases r1 with
  | cons ra rr =>
  cases rr
  cases rz with
  | cons rb rr2 =>
  cases rr2
  obtain ⟨t0, rfl⟩ := rb
  cases ra
  rw [nm]
  obtain ⟨its, rv, p1, _⟩ := I2.tuple gx
  have la : a < s2.heap.objs.size := by obtain ⟨o, ho, _⟩ := p1; exact Heap.lt_size ho
  refine enum_begins_start (begins_tuple a its.toArray) p1 k1 k2 ?_
  intro h' hz h1' hsz kp
  refine wpAny_pyIter_enum hz ?_
  have I3 : Inv X pins σ H2 { s2 with heap := h' } := I2.kept (t' := s2.toks) kp
  refine ⟨s2.heap.objs.size + 1, [s2.heap.objs.size + 1, s2.heap.objs.size], _, _, H2, rfl, I3, turn_en (Nat.ne_of_lt la) (Nat.succ_ne_self _) (Nat.ne_of_gt (Nat.lt_succ_of_lt la)), ?_, ?_, q⟩
  · exact ⟨⟨_, by simpa using hz⟩, ⟨_, h1', rfl, rfl⟩⟩
  · intro c hc
    have ge : s2.heap.objs.size ≤ c := by
      simp only [List.mem_cons, List.not_mem_nil, or_false] at hc
      rcases hc with rfl | rfl
      · exact Nat.le_add_right _ _
      · exact Nat.le_refl _
    exact I2.fpOk ge (I2.hok.fresh ge)
end Vz
set_option Elab.async false
set_option linter.all false
set_option maxRecDepth 100000
set_option maxHeartbeats 2000000
namespace PyProof.Rows
open PySem PySem.Spec
/-- enumerate(v): the two new cells, v told by what its iterator is -/
theorem vz_meets_en1 {v : Value} {o : Obj} {H : Heap → Prop} (B : Begins v o H) :
    Meets (Builtin.«enumerate.__new__» ⟨[.type "enumerate", v], []⟩) (fun _ R s => H s.heap ∧
      R (.ok (.ret (.ref (s.heap.push o).objs.size))) { s with heap := (s.heap.push o).push { cls := .type "enumerate", data := .fields #[.none, .bool false, .ref s.heap.objs.size, rawInt 0, .none, .none] } }) :=
  .of_wp fun prog w A R s h => by
    obtain ⟨hp, g, d, tk, os⟩ := s; obtain ⟨h1, h⟩ := h
    have hsub := sub_enumerate
    have q1 : ∀ {A' : Around} {E : Value → Shared → Prop} {Q : Value → Shared → Prop}, Q (.ref hp.objs.size) ⟨hp.push o, g, d, tk, os⟩ → wpAny (model prog w) A' (pyIter v) Q E ⟨hp, g, d, tk, os⟩ :=
      fun q => B.iter prog w _ _ ⟨hp, g, d, tk, os⟩ _ h1 q
    wp_walk using q1
    refine wpAny_stack_any fun st => wpAny_pure ?_
    split
    · rename_i c _ _ _ _ _
      cases (c == Value.type "enumerate")
      · wp_walk using q1
        exact ⟨_, rfl, h⟩
      · wp_walk using q1
        exact ⟨_, rfl, h⟩
    · wp_walk using q1
      exact ⟨_, rfl, h⟩
theorem vz_en1 {prog : Program} {w : World} {A : Around} {E : Value → Shared → Prop} {s : Shared} {v : Value} {o : Obj} {H : Heap → Prop} {Q : Value → Shared → Prop} (B : Begins v o H) (h1 : H s.heap)
    (h : ∀ h', IsEnum h' (s.heap.objs.size + 1) s.heap.objs.size 0 .none → h'.get? s.heap.objs.size = some o → h'.objs.size = s.heap.objs.size + 2 →
      (∀ b o, s.heap.get? b = some o → h'.get? b = some o) → Q (.ref (s.heap.objs.size + 1)) { s with heap := h' }) :
    wpAny (model prog w) A (call (.type "enumerate") [v]) Q E s := by
  refine callType_new F.called_enumerate (by decide) (F.typeCall_enumerate_1 _) (F.newCall_enumerate_1 _) (fun obj => F.args_object_init_2 obj _) F.entry_enumerate_new
    (vz_meets_en1 B) ⟨h1, ?_⟩
  have hz : (s.heap.push o).objs.size = s.heap.objs.size + 1 := Heap.size_push ..
  show _ ∧ _
  rw [hz]
  have he : IsEnum ((s.heap.push o).push { cls := .type "enumerate", data := .fields #[.none, .bool false, .ref s.heap.objs.size, rawInt 0, .none, .none] }) (s.heap.objs.size + 1) s.heap.objs.size 0 .none := by
    have := Heap.get?_push_size (s.heap.push o) (o := { cls := .type "enumerate", data := .fields #[.none, .bool false, .ref s.heap.objs.size, rawInt 0, .none, .none] }) rfl
    rw [hz] at this; exact this
  exact ⟨⟨_, he, rfl⟩, h _ he (Heap.get?_push_of_some _ (Heap.get?_push_size _ B.free)) (by rw [Heap.size_push, hz]) fun b o x => Heap.get?_push_of_some _ (Heap.get?_push_of_some _ x)⟩
end PyProof.Rows
namespace Vz
open PySem PySem.Spec PyProof.Rows L2
/-! ### for i, x in enumerate(tuple) -/
def iEnT (K : PySem.W.Frag) (ta : TA) : TI := fun σ H R => ta σ H fun vs H1 => ∃ (a : Addr) (xs : List V), vs = [.ref a] ∧ SqT K H1 a xs ∧ R (ItEn K 0 a) H1
theorem pi_enT {X : Cx} {e : Expr} {ta : TA} {p pos tpos : Pos} {elts : List Expr} {kk : Nat} (gl : Gl X "enumerate") (no : X.mg "enumerate" = none) (pa : PA X [e] ta)
    (hs : starEach [e] X.env = [(false, eval e X.env)] := by rfl) :
    PI X (.Tuple elts kk tpos) (.Call (.Name "enumerate" p) [e] [] pos) (iEnT X.K ta) := by
  refine ⟨fun pins s σ H R I h => ?_⟩
  refine Call_ (ld_blt I gl no boot_enumerate (PyProof.Rows.callWith_type1 (thn (pa.run pos pins s σ H _ I h) fun us s2 ⟨vs, H2, I2, r1, q1⟩ => ?_) hs rfl))
  obtain ⟨a, xs, ev, gx, q⟩ := q1
  subst ev
  cases r1 with
  | cons ra rr =>
  cases rr
  cases ra
  obtain ⟨its, rv, p1, _⟩ := I2.tuple gx
  have la : a < s2.heap.objs.size := by obtain ⟨o, ho, _⟩ := p1; exact Heap.lt_size ho
  refine vz_en1 (begins_tuple a its.toArray) p1 ?_
  intro h' hz h1' hsz kp
  refine wpAny_pyIter_enum hz ?_
  have I3 : Inv X pins σ H2 { s2 with heap := h' } := I2.kept (t' := s2.toks) kp
  refine ⟨s2.heap.objs.size + 1, [s2.heap.objs.size + 1, s2.heap.objs.size], _, _, H2, rfl, I3, turn_en (Nat.ne_of_lt la) (Nat.succ_ne_self _) (Nat.ne_of_gt (Nat.lt_succ_of_lt la)), ?_, ?_, q⟩
  · exact ⟨⟨_, by simpa using hz⟩, ⟨_, h1', rfl, rfl⟩⟩
  · intro c hc
    have ge : s2.heap.objs.size ≤ c := by
      simp only [List.mem_cons, List.not_mem_nil, or_false] at hc
      rcases hc with rfl | rfl
      · exact Nat.le_add_right _ _
      · exact Nat.le_refl _
    exact I2.fpOk ge (I2.hok.fresh ge)
end Vz
set_option Elab.async false
set_option linter.all false
set_option maxRecDepth 100000
set_option maxHeartbeats 2000000
namespace Vz
open PySem PySem.Spec PyProof.Rows L2
/-! ### zip of a list and a tuple -/
def ItL0 (K : PySem.W.Frag) (a b : Addr) : It where
  go := fun i H => ∃ (xs ys : List V) (x y : V), SqL K H a xs ∧ SqT K H b ys ∧ xs[i]? = some x ∧ ys[i]? = some y
  yld := fun i H v H' => ∃ T x y, v = .ref T ∧ H T = none ∧ H' = upd H T (.tup [x, y]) ∧ (∀ xs, SqL K H a xs → xs[i]? = some x) ∧ ∀ ys, SqT K H b ys → ys[i]? = some y
  stop := fun i H => ∃ xs ys : List V, SqL K H a xs ∧ SqT K H b ys ∧ i = min xs.length ys.length
theorem walk_zipL0 {K : PySem.W.Frag} {a b : Addr} {xs ys : List V} {n : Nat} (hn : n = min xs.length ys.length) :
    Walk (ItL0 K a b) n (fun H => SqL K H a xs ∧ SqT K H b ys) (YPair (fun i => xs[i]?) (fun i => ys[i]?)) := by
  subst hn
  constructor
  · intro i H hi g
    exact ⟨xs, ys, xs[i]'(by omega), ys[i]'(by omega), g.1, g.2, by simp, by simp⟩
  · intro H g
    exact ⟨xs, ys, g.1, g.2, rfl⟩
  · rintro i H v H' hi g ⟨T, x, y, e, nT, eH, fx, fy⟩
    exact ⟨T, x, y, e, nT, eH, fx xs g.1, fy ys g.2⟩
def LSt0 (z TI TO i1 i2 a b : Addr) (i : Nat) (h : Heap) : Prop :=
  IsZip h z TI TO .none ∧ IsTupOf2 h TI (.ref i1) (.ref i2) ∧ (∃ c1 c2, IsTupOf2 h TO c1 c2) ∧ h.IsListIter i1 a i ∧ h.IsTupleIter i2 b i
theorem turn_zipL0 {P : Program} {w : World} {K : PySem.W.Frag} {elts : List Expr} {kk : Nat} {tpos : Pos} {a b z TI TO i1 i2 : Addr} (D : ZipSep2 z TI TO i1 i2 [i1, a] [i2, b]) (n1 : a ≠ i1) (n2 : b ≠ i2) :
    Turn P w K (.Tuple elts kk tpos) (ItL0 K a b) [z, TI, TO, i1, i2] z (LSt0 z TI TO i1 i2 a b) where
  mem := by simp
  obj := by
    rintro i h ⟨hz, hTI, ⟨c1, c2, hTO⟩, ⟨o1, e1, _, d1⟩, ⟨o2, e2, _, d2⟩⟩ c hc
    simp only [List.mem_cons, List.not_mem_nil, or_false] at hc
    rcases hc with rfl | rfl | rfl | rfl | rfl
    · exact ⟨_, hz, fun v q => nomatch q⟩
    · exact ⟨_, hTI, fun v q => nomatch q⟩
    · exact ⟨_, hTO, fun v q => nomatch q⟩
    · exact ⟨o1, e1, fun v q => by rw [d1] at q; cases q⟩
    · exact ⟨o2, e2, fun v q => by rw [d2] at q; cases q⟩
  keep := by
    rintro i h h' ⟨hz, hTI, ⟨c1, c2, hTO⟩, h1, h2⟩ k
    refine ⟨k z (by simp) _ hz, k TI (by simp) _ hTI, ⟨c1, c2, k TO (by simp) _ hTO⟩, ?_, ?_⟩
    · exact h1.at (fun o q => k i1 (by simp) o q)
    · exact h2.at (fun o q => k i2 (by simp) o q)
  item := by
    intro X hP hw hK calm i pins s σ H E I free st go
    subst hP hw hK
    obtain ⟨hz, hTI, hTO, h1, h2⟩ := st
    obtain ⟨xs, ys, x, y, gx, gy, ex, ey⟩ := go
    obtain ⟨its, rv, p, _⟩ := I.list gx
    obtain ⟨its2, rv2, p2, _⟩ := I.tuple gy
    have hh : X.A.in1.handled = none := I.ok.hd calm
    have dT := Draws.list (prog := X.prog) (w := X.w) (A := X.A.in1) hh i1 a n1 its.toArray
    have dL := Draws.tuple (prog := X.prog) (w := X.w) (A := X.A.in1) hh i2 b n2 its2.toArray
    have W := GoesN.zip2 (elts := elts) (x1 := kk) (pos := tpos) D dT dL
    have l1 := rv.length
    have l2 := rv2.length
    have m1 := (List.getElem?_eq_some_iff.mp ex).1
    have m2 := (List.getElem?_eq_some_iff.mp ey).1
    have hi : i < min its.toArray.size its2.toArray.size := by rw [List.size_toArray, List.size_toArray]; omega
    refine W.goes i s (fun v s2 => ∃ x H', Inv X pins σ H' s2 ∧ RelV x v ∧ (ItL0 X.K a b).yld i H x H' ∧ LSt0 z TI TO i1 i2 a b (i + 1) s2.heap ∧ ∀ b' ∈ [z, TI, TO, i1, i2], H' b' = none) E hi
      ⟨hz, hTI, hTO, ⟨h1, p.isList⟩, ⟨h2, p2⟩⟩ ?_
    rintro v h' tk ⟨T, u1, u2, rfl, nT, e1, e2, hT⟩ ⟨hz', hTI', hTO', ⟨h1', _⟩, ⟨h2', _⟩⟩ kp _
    obtain ⟨w1, hw1, rw1⟩ := rv.get ex
    obtain ⟨w2, hw2, rw2⟩ := rv2.get ey
    have q1 : u1 = w1 := by
      have z := e1
      simp only [List.getElem?_toArray] at z
      rw [hw1] at z
      exact (Option.some.inj z).symm
    have q2 : u2 = w2 := by
      have z := e2
      simp only [List.getElem?_toArray] at z
      rw [hw2] at z
      exact (Option.some.inj z).symm
    subst q1 q2
    have new : ObjOk X.prog X.w (upd H T (.tup [x, y])) h' T (.tup [x, y]) := ⟨by show 2 ≤ sizeLine; decide, [u1, u2], .cons rw1 (.cons rw2 .nil), hT⟩
    have I1 : Inv X pins σ (upd H T (.tup [x, y])) { s with heap := h', toks := tk } := by
      refine I.turnedNew (t' := tk) (ch := [z, TI, TO, i1, i2]) (fun c o hc q => kp c o (fun hm => hc ?_) q) free nT new
      simp only [List.mem_cons, List.not_mem_nil, or_false] at hm ⊢
      rcases hm with q | q | q | q <;> simp [q]
    refine ⟨.ref T, _, I1, rfl, ⟨T, x, y, rfl, I.hok.fresh nT, rfl, fun l hl => ?_, fun l hl => ?_⟩, ⟨hz', hTI', hTO', h1', h2'⟩, fun c hc => ?_⟩
    · rw [I.list_inj hl gx]; exact ex
    · rw [I.tuple_inj hl gy]; exact ey
    · have lt : c < s.heap.objs.size := by
        simp only [List.mem_cons, List.not_mem_nil, or_false] at hc
        rcases hc with rfl | rfl | rfl | rfl | rfl
        · exact Heap.lt_size hz
        · exact Heap.lt_size hTI
        · obtain ⟨_, _, q⟩ := hTO; exact Heap.lt_size q
        · obtain ⟨_, q, _⟩ := h1; exact Heap.lt_size q
        · obtain ⟨_, q, _⟩ := h2; exact Heap.lt_size q
      rw [upd_ne (Nat.ne_of_lt (Nat.lt_of_lt_of_le lt nT))]
      exact (free c hc).1
  done := by
    intro X hP hw hK calm i pins s σ H E I free st stop
    subst hP hw hK
    obtain ⟨hz, hTI, hTO, h1, h2⟩ := st
    obtain ⟨xs, ys, gx, gy, hi⟩ := stop
    obtain ⟨its, rv, p, _⟩ := I.list gx
    obtain ⟨its2, rv2, p2, _⟩ := I.tuple gy
    have hh : X.A.in1.handled = none := I.ok.hd calm
    have dT := Draws.list (prog := X.prog) (w := X.w) (A := X.A.in1) hh i1 a n1 its.toArray
    have dL := Draws.tuple (prog := X.prog) (w := X.w) (A := X.A.in1) hh i2 b n2 its2.toArray
    have W := GoesN.zip2 (elts := elts) (x1 := kk) (pos := tpos) D dT dL
    have l1 := rv.length
    have l2 := rv2.length
    have hi' : i = min its.toArray.size its2.toArray.size := by rw [List.size_toArray, List.size_toArray]; omega
    subst hi'
    refine W.stops s (fun s1 => Inv X pins σ H s1) E ⟨hz, hTI, hTO, ⟨h1, p.isList⟩, ⟨h2, p2⟩⟩ ?_
    intro h' tk kp _
    refine I.turnedL (t' := tk) (ch := [z, TI, TO, i1, i2]) (fun c o hc q => kp c o (fun hm => hc ?_) q) free
    simp only [List.mem_cons, List.not_mem_nil, or_false] at hm ⊢
    rcases hm with q | q | q | q <;> simp [q]
  self := fun A i s Q E st h => wpAny_pyIter_zip st.1 h

def iZipL0 (K : PySem.W.Frag) (ta : TA) : TI := fun σ H R => ta σ H fun vs H1 => ∃ (a b : Addr) (xs ys : List V), vs = [.ref a, .ref b] ∧ SqL K H1 a xs ∧ SqT K H1 b ys ∧ R (ItL0 K a b) H1
theorem pi_zipL0 {X : Cx} {e e2 : Expr} {ta : TA} {p pos tpos : Pos} {elts : List Expr} {kk : Nat} (gl : Gl X "zip") (no : X.mg "zip" = none) (pa : PA X [e, e2] ta)
    (st : starEach [e, e2] X.env = (false, eval e X.env) :: starEach [e2] X.env := by rfl) (pl : (backTo pos (starEach [e2] X.env)).any (·.1) = false := by rfl) :
    PI X (.Tuple elts kk tpos) (.Call (.Name "zip" p) [e, e2] [] pos) (iZipL0 X.K ta) := by
  constructor
  intro pins s σ H R I h
  refine Call_ (ld_blt I gl no PyProof.Rows.boot_zip (PyProof.Rows.callWith_type1 (thn (pa.run pos pins s σ H _ I h) ?_) st pl))
  rintro us s1 ⟨vs, H1, I1, r1, a, b, xs, ys, ev, gx, gy, q⟩
  subst ev
  obtain ⟨v1, v2, rfl, ra, rb⟩ := vals2 r1
  have e1 : v1 = Value.ref a := ra
  have e2' : v2 = Value.ref b := rb
  subst e1 e2'
  obtain ⟨its, rv, p1, _⟩ := I1.list gx
  obtain ⟨its2, rv2, p2, _⟩ := I1.tuple gy
  have la : a < s1.heap.objs.size := p1.lt
  have lb : b < s1.heap.objs.size := by obtain ⟨o, ho, _⟩ := p2; exact Heap.lt_size ho
  refine zip_begins2 (begins_list a its.toArray) (begins_tuple b its2.toArray) p1.isList p2 ?_
  intro h' hz hTI hTO h1 h2 hsz kp
  refine wpAny_pyIter_zip hz ?_
  have I2 : Inv X pins σ H1 { s1 with heap := h' } := I1.kept (t' := s1.toks) kp
  have sep := zip_sep2 (N := s1.heap.objs.size) (fp1 := [a]) (fp2 := [b]) (fun c hc => by rw [List.mem_singleton] at hc; rw [hc]; exact la) (fun c hc => by rw [List.mem_singleton] at hc; rw [hc]; exact lb)
  refine ⟨_, _, _, _, H1, rfl, I2, turn_zipL0 sep (Nat.ne_of_lt la) (Nat.ne_of_lt (Nat.lt_succ_of_lt lb)), ?_, ?_, q⟩
  · exact ⟨hz, hTI, ⟨_, _, hTO⟩, ⟨_, h1, rfl, rfl⟩, ⟨_, h2, rfl, rfl⟩⟩
  · intro c hc
    have ge : s1.heap.objs.size ≤ c := by
      simp only [List.mem_cons, List.not_mem_nil, or_false] at hc
      rcases hc with rfl | rfl | rfl | rfl | rfl
      · exact Nat.le_add_right _ _
      · exact Nat.le_add_right _ _
      · exact Nat.le_add_right _ _
      · exact Nat.le_refl _
      · exact Nat.le_add_right _ _
    exact I1.fpOk ge (I1.hok.fresh ge)
end Vz
set_option Elab.async false
set_option linter.all false
set_option maxRecDepth 100000
set_option maxHeartbeats 2000000
namespace Vz
open PySem PySem.Spec PyProof.Rows L2
/-- what stays behind the first c of them -/
theorem keep_drop : ∀ (l : List Value) (i c : Nat) (f : Nat → Bool), (∀ k, f k = decide (k < i + c)) → (∀ k, k < i → True) →
    ((l.zipIdx i).filterMap fun p => if f p.2 = true then none else some p.1) = l.drop c
  | [], _, _, _, _, _ => by simp
  | x :: l, i, 0, f, h, _ => by
    have ih := keep_drop l (i + 1) 0 f
    have all : ∀ k, k ≥ i → f k = false := fun k hk => by rw [h]; exact decide_eq_false (by omega)
    have z : ∀ (l : List Value) (i0 : Nat), i ≤ i0 → ((l.zipIdx i0).filterMap fun p => if f p.2 = true then none else some p.1) = l := by
      intro l
      induction l with
      | nil => intro i0 _; rfl
      | cons y ys ihy =>
        intro i0 h0
        rw [List.zipIdx_cons, List.filterMap_cons]
        simp only [all i0 h0, Bool.false_eq_true, if_false]
        rw [ihy (i0 + 1) (by omega)]
    rw [z _ _ (Nat.le_refl _)]; rfl
  | x :: l, i, c + 1, f, h, _ => by
    rw [List.zipIdx_cons, List.filterMap_cons]
    have fi : f i = true := by rw [h]; exact decide_eq_true (by omega)
    simp only [fi, if_true]
    rw [keep_drop l (i + 1) c f (fun k => by rw [h]; congr 1; apply propext; constructor <;> intro z <;> omega) (fun _ _ => True.intro)]
    rfl
def goneB (c k : Nat) : Bool := if (1 : Int) > 0 then (decide ((0 : Int) ≤ k) && decide ((k : Int) < c) && ((k : Int) - 0) % 1 == 0) else (decide ((c : Int) < k) && decide ((k : Int) ≤ 0) && ((0 : Int) - k) % (-1) == 0)
theorem goneB_is (c k : Nat) : goneB c k = decide (k < 0 + c) := by
  unfold goneB
  rw [if_pos (by decide)]
  have z : ((k : Int) - 0) % 1 = 0 := Int.emod_one _
  rw [z, decide_eq_true (show (0 : Int) ≤ k by omega)]
  by_cases q : k < c
  · rw [decide_eq_true (show (k : Int) < c by omega), decide_eq_true (show k < 0 + c by omega)]; rfl
  · rw [decide_eq_false (show ¬ (k : Int) < c by omega), decide_eq_false (show ¬ k < 0 + c by omega)]; rfl
section
variable {prog : Program} {w : World} {A : Around} {E : Value → Shared → Prop} {s : Shared}
theorem delItem_cut {l sl : Addr} {its : List Value} {n c : Nat} {vu : Value} {Q : Unit → Shared → Prop}
    (e : s.heap.get? l = some { cls := .type "list", data := .seq its.toArray n })
    (hs : s.heap.IsSliceOf sl .none vu .none) (pu : IsPart vu (some (c : Int))) (hc : c ≤ its.length) (hz : its.length ≤ sizeLine)
    (h : ∀ f : Array Value → Array Value, f its.toArray = (its.drop c).toArray → Q () { s with heap := s.heap.update l (Obj.mapSeq f) }) :
    wpAny (model prog w) A (delItem (.ref l) (.ref sl)) Q E s := by
  have isl : s.heap.IsList l its.toArray := PySem.IsL.isList e
  obtain ⟨ob, g1, g2, g3⟩ := id hs
  have tSl : s.TypeIs (.ref sl) "slice" := ⟨ob, g1, g2⟩
  unfold delItem
  try with_reducible refine wpAny_holding ?_
  refine wpAny_bind (wpAny_sequenceKey isl.typeIs (by decide) ?_)
  refine wpAny_bind (wpAny_callSpecial?_slot (name := Str.ofString "__delitem__") isl.typeIs F.slot_list_delitem
    (wpAny_call_entry F.slot_list_delitem isl.typeIs F.entry_list_delitem ?_ (F.args_list_delitem_2 _ _)))
  show wpAny _ _ (Builtin.List.listSubscript? (.ref sl) >>= _) _ _ s
  refine wpAny_bind ?_
  unfold Builtin.List.listSubscript?
  refine wpAny_bind (wpAny_specialOf tSl slice_no_index ?_)
  simp only [Option.isNone_none, if_true]
  refine wpAny_pure ?_
  show wpAny _ _ (typeOf (.ref sl) >>= _) _ _ s
  refine wpAny_bind (wpAny_typeOf tSl ?_)
  rw [if_neg (by decide)]
  rw [listSliceParts_eq]
  refine wpAny_bind (wpAny_bind (wpAny_field g1 g3 (x := .none) rfl (wpAny_bind (wpAny_listPart .none ?_))))
  rw [if_neg (show ¬ ((rawPart none == rawInt 0) = true) from Bool.false_ne_true)]
  refine wpAny_bind (wpAny_field g1 g3 (x := .none) rfl (wpAny_bind (wpAny_listPart .none ?_)))
  refine wpAny_bind (wpAny_field g1 g3 (x := vu) rfl (wpAny_bind (wpAny_listPart pu (wpAny_pure ?_))))
  unfold Builtin.List.listItems
  refine wpAny_bind (wpAny_bind (wpAny_seqItems e rfl (wpAny_pure ?_)))
  have hb : sliceBounds none (some (c : Int)) none its.toArray.size = (0, (c : Int), 1) := by
    simp only [sliceBounds, Option.getD_none, List.size_toArray]
    have h2 : ¬ ((c : Int) < 0) := by omega
    simp only [h2, if_false, show (1 : Int) > 0 by decide, if_true]
    congr 1
    congr 1
    omega
  refine wpAny_bind (wpAny_of_eq ((sliceIndices_raw none (some (c : Int)) none its.toArray.size (by simp)).trans (congrArg (pure : Int × Int × Int → Sem (Int × Int × Int)) hb)) ?_)
  refine wpAny_bind (wpAny_rule ?_)
  have key : ∀ (f : Array Value → Array Value), f its.toArray = (its.drop c).toArray → ∀ {A' : Around} {E' : Value → Shared → Prop} {R : Unit → Shared → Prop}, R () { s with heap := s.heap.update l (Obj.mapSeq f) } → wpAny (model prog w) A' (updateSeq l f) R E' s := fun f hf A' E' R z =>
    wpAny_updateSeq (hz := by rw [List.size_toArray]; exact hz) (_hz' := by rw [hf, List.size_toArray, List.length_drop]; omega) e rfl z
  have cut : ∀ (g : Nat → Bool), (∀ k, g k = decide (k < 0 + c)) → ((its.toArray.toList.zipIdx 0).filterMap fun p => if g p.2 = true then none else some p.1).toArray = (its.drop c).toArray := fun g hg => by
    rw [keep_drop its 0 c g hg (fun _ _ => True.intro)]
  show wpAny _ _ (updateSeq l _ >>= _) _ _ s
  refine wpAny_bind (key _ (cut (goneB c) (goneB_is c)) ?_)
  refine wpAny_bind (wpAny_letGo ?_)
  exact wpAny_pure ⟨.none, rfl, wpAny_pure (h _ (cut (goneB c) (goneB_is c)))⟩
end
section
variable {X : Cx} {pos : Pos}
/-- del xs[:c] -/
def tDelCut (to th : TE) : TS := fun D σ H => to σ H fun x H1 => th σ H1 fun y H2 => ∃ (l : Addr) (xs : List V) (c : Nat), x = .ref l ∧ y = .int c ∧ H2 l = some (.lst xs) ∧ c ≤ xs.length ∧ xs.length ≤ 1000 ∧ D.nx σ (upd H2 l (.lst (xs.drop c)))
theorem ps_delCut {o hi : Expr} {to th : TE} {p2 tpos : Pos} (ho : PE X o to) (hu : PE X hi th) : PS X (.Delete [.Subscript o (.Slice none (some hi) none p2) tpos] pos) (tDelCut to th) := by
  refine ⟨fun pins s σ H D I h => ?_⟩
  refine wpAny_Delete (wpAny_deleteEach_cons (wpAny_delete_Subscript (thn (ho.run pins s σ H _ I h) fun u s1 ⟨x, H1, I1, rx, q1⟩ => ?_)))
  refine wpAny_Slice ?_
  rw [evalPart_none]
  refine wpAny_pure ?_
  rw [evalPart_some]
  refine thn (hu.run pins s1 σ H1 _ I1 q1) fun iv s2 ⟨y, H2, I2, ry, l, xs, c, ex, ey, hH, hc, hl, q2⟩ => ?_
  subst ex ey
  cases (show u = Value.ref l from rx)
  obtain ⟨t, rfl⟩ := (show ∃ t, iv = Value.int c t from ry)
  refine wpAny_pure ?_
  have I4 : Inv X pins σ H2 { s2 with heap := s2.heap.push { cls := .type "slice", data := .fields #[.none, .int c t, .none] } } := I2.kept (t' := s2.toks) fun b ob q => Heap.get?_push_of_some _ q
  obtain ⟨z, its, n, r, hlen, e⟩ := I4.lstM hH
  refine delItem_cut (c := c) e (Heap.IsSliceOf.new ..) (.int _ _) (by omega) (by rw [← hlen, sizeLine_eq]; omega) fun f hf => ?_
  refine wpAny_deleteEach_nil ⟨σ, _, ?_, q2⟩
  refine I4.lset (its' := its.drop c) (t' := s2.toks) hH e hf (r.drop _) ?_
  rw [List.length_drop, sizeLine_eq]; omega
end
end Vz
set_option Elab.async false
set_option linter.all false
set_option maxRecDepth 100000
set_option maxHeartbeats 2000000
namespace Vz
open PySem PySem.Spec PyProof.Rows L2
/-! ### repr of None or a text -/
def rReprS : List V → Hp → VK → Prop := fun xs H Q => (xs = [.non] ∧ Q (.str "None") H) ∨ ∃ a, xs = [.str a] ∧ (reprText a).length ≤ sizeLine ∧ Q (.str (reprText a)) H
theorem repr_ns {X : Cx} : CallR X (.builtin "repr") rReprS := by
  intro pins s σ H xs us Q I r h
  rcases h with ⟨rfl, q⟩ | ⟨a, rfl, hl, q⟩
  · obtain ⟨u, rfl, ru⟩ := vals1 r
    have eu : u = Value.none := ru
    subst eu
    exact PySem.P.repr_of_none ⟨.str _, H, I.tok _, ⟨_, rfl⟩, q⟩
  · obtain ⟨u, rfl, ru⟩ := vals1 r
    obtain ⟨t, rfl⟩ : ∃ t, u = Value.str a t := ru
    exact PySem.P.repr_of_str ⟨.str _, H, I.tok _, ⟨_, rfl⟩, q⟩ hl
theorem repr_fits {a : Str} (h : a.length ≤ 1000) (k : ∀ c ∈ a.cps.toList, c < 128) : (reprText a).length ≤ sizeLine := by
  have e : (PyData.str a).shown = reprText a := rfl
  rw [← e]
  refine PyData.shown_fits (B := 13) (by decide) (by decide) ?_ ?_
  · simp only [PyData.leavesShort, List.all_eq_true, decide_eq_true_eq]
    intro c hc
    exact Nat.lt_of_lt_of_le (k c hc) (by decide)
  · show a.cps.size ≤ 2 ^ 20
    have : a.cps.size = a.length := rfl
    omega
/-- two keywords in the other order than the def's, nothing by place -/
def kwR {α : Type} (us ws : List α) : List α := match us with
  | [] => ws.reverse
  | _ :: _ => []
theorem kb2r {K : PySem.W.Frag} {fd : FuncData} {p q : Str} (h : ∀ (s : Shared) (a b : Value), K.In s.heap → BindsTo s fd ⟨[], [q, p].zip [a, b]⟩ ([p, q].zip [b, a])) : KBinds K fd [p, q] [q, p] kwR kwR where
  to := by
    intro s us ws hk hl
    match us, ws, hl with
    | [], [a, b], _ => exact h s a b hk
    | [], [], z => cases z
    | [], [_], z => cases z
    | [], _ :: _ :: _ :: _, z => simp [kwR] at z
    | _ :: _, _, z => cases z
  rel := by
    intro vs us zs ws r z
    cases r with
    | nil => exact Vz.vals_rev z
    | cons _ _ => exact .nil
end Vz
set_option Elab.async false
set_option linter.all false
set_option maxRecDepth 100000
set_option maxHeartbeats 2000000
namespace Vz
open PySem PySem.Spec PyProof.Rows L2
section
variable {X : Cx}
/-- set(t) of a tuple of whole numbers -/
def rSetTI (w : World) (K : PySem.W.Frag) : List V → Hp → VK → Prop := fun vs H Q => ∃ (p : Addr) (ns : List Int), vs = [V.ref p] ∧ SqT K H p (ns.map V.int) ∧ ns.length ≤ 1000 ∧
  ∀ q c, H q = none → c ≤ ns.length → Q (.ref q) (upd H q (SetO w q (fun j => decide (j ∈ ns)) c))
theorem cr_setTI (hc : X.calm = true) : CallR X (.type "set") (rSetTI X.w X.K) := by
  intro pins s σ H vs us Q I r h
  obtain ⟨p, ns, rfl, hs, hl, q⟩ := h
  rw [Vals.ref1 r]
  obtain ⟨its, rv, pt, hz⟩ := I.tuple hs
  have hi : IntsAre its.toArray.toList ns := ints_of_vals rv
  refine call_set_tupI ns (I.ok.hd hc) (show s.heap.IsTuple p its.toArray from pt) hi (by unfold scanBound; omega) fun h' tk c R1 hcn k => ?_
  refine ⟨.ref s.heap.objs.size, _, I.laid (t' := tk) k (Nat.le_refl _) (setO_new R1), rfl, q _ c (I.hok.fresh (Nat.le_refl _)) hcn⟩
/-- sum(t) of a tuple of whole numbers -/
def rSumT (K : PySem.W.Frag) : List V → Hp → VK → Prop := fun vs H Q => ∃ (p : Addr) (ns : List Int), vs = [V.ref p] ∧ SqT K H p (ns.map V.int) ∧ Q (.int ns.sum) H
theorem cr_sumT (hc : X.calm = true) : CallR X (.builtin "sum") (rSumT X.K) := by
  intro pins s σ H vs us Q I r h
  obtain ⟨p, ns, rfl, hs, q⟩ := h
  rw [Vals.ref1 r]
  obtain ⟨its, rv, pt, hz⟩ := I.tuple hs
  have hi : IntsAre its ns := rv.ints
  obtain ⟨xs, e⟩ := hi.allInts.items
  have hn : numsOf (intItems xs).toList = ns := by rw [← e]; exact hi.numsOf
  rw [nums_intItems] at hn
  have pt : s.heap.IsTuple p its.toArray := pt
  rw [e] at pt
  refine PySem.W.ktm_sumG (I.ok.hd hc) pt fun h' tk t' hk => ?_
  rw [preSum_eq, List.take_of_length_le (by simp), hn]
  exact ⟨.int _, H, I.kept hk, ⟨_, rfl⟩, q⟩
theorem addI_ok {pins : List (Addr × Obj)} {σ : L2.St} {H : Hp} {s : Shared} {E : Value → Shared → Prop} {D : Addr} {S : Int → Bool} {n : Nat} {y : Int} {t : Tok} {Q : Value → Shared → Prop} (I : Inv X pins σ H s) (hD : H D = some (SetO X.w D S n)) (room : n + 1 < scanBound)
    (h : ∀ s', Inv X pins σ (upd H D (SetO X.w D (fun j => S j || decide (j = y)) (if S y = true then n else n + 1))) s' → Q .none s') : wpAny (model X.prog X.w) X.A (call (.builtin "set.add") [.ref D, .int y t]) Q E s := by
  refine setR_add (setO_get I hD) room fun h' sb new => ?_
  have there : ∃ u, h'.get? D = some u := by
    have ⟨o, _, _, _, ho, _⟩ := new
    exact ⟨o, ho⟩
  exact h _ (I.write (e := D) (t' := s.toks + 1) (by rw [hD]; trivial) (.inl rfl) (fun b u hb hu => (sb.2 b hb).trans hu) there (setO_new new))
/-- {elt for target in iter}, elt a whole number: D the new set -/
def tSi (w : World) (wi : TI) (g : TG) (te : TE) (vs : List Nat) : TE := fun σ H Q => wi σ H fun J H1 => ∀ D, H1 D = none → ∃ W : Nat → Nat → Hp → Prop, (∃ m, W 0 m (upd H1 D (SetO w D (fun _ => false) 0))) ∧
  ∀ i m H, W i m H → (J.stop i H ∧ Q (.ref D) H) ∨ (J.go i H ∧ ∃ Nx : Hp → Prop, (∀ H', Nx H' → ∃ m', m' < m ∧ W (i + 1) m' H') ∧ ∀ x H', J.yld i H x H' → g x (wipe σ vs) H' fun σ2 H2 => wipe σ2 vs = wipe σ vs ∧
    te σ2 H2 fun y H4 => ∃ (c : Int) (S : Int → Bool) (n : Nat), y = .int c ∧ H4 D = some (SetO w D S n) ∧ n + 1 < scanBound ∧ Nx (upd H4 D (SetO w D (fun j => S j || decide (j = c)) (if S c = true then n else n + 1))))
theorem pe_sci {elt tg iter : Expr} {scope : Scope} {own : List (PySem.Str × Nat)} {pos : Pos} {wi : TI} {g : TG} {te : TE} (calm : X.calm = true) (nd : X.N.Nodup) (walk : PI X tg iter wi) (blk : BlkOk X.N X.env.scope scope own)
    (pG : ∀ (s : Shared) (H : Hp) (C : Addr) (cl : List (PySem.Str × Addr)) (fp : List Addr), PG (X.blk s H scope (compEnvC scope cl C X.env) fp) tg g)
    (pE : ∀ (s : Shared) (H : Hp) (C : Addr) (cl : List (PySem.Str × Addr)) (fp : List Addr), PE (X.blk s H scope (compEnvC scope cl C X.env) fp) elt te) (folds : ∀ x, foldedSetIterable iter X.env x = pure x := by intro _; rfl) :
    PE X (.SetComp elt [⟨tg, iter, [], 0⟩] scope pos) (tSi X.w wi g te (own.map (·.2))) := by
  refine ⟨fun pins s0 σ H Q I0 reads => ?_⟩
  rw [PpSet.eval_SetComp]
  have held : ∀ y ∈ scope.names, y.2 = .free → ∃ c, X.env.cells.lookup y.1 = some c := fun y hy e => (blk.free y hy e).elim (fun k => I0.ok.has _ (.inl k)) (fun k => I0.ok.has _ (.inr k))
  refine wpAny_comprehension_free (use := none) rfl folds (closure_ok held) blk.kind (fun y hy e => by rw [blk.uniq y hy, e]) ?_
  refine thn (walk.run pins s0 σ H _ I0 reads) fun _ s1 come => thn come fun _ s2 ⟨it, fp, tn, J, H2, eq, I2, T, t2, fresh2, turns⟩ => ?_
  subst eq
  refine PpSet.newSet_ok (newEnv_comp ?_)
  generalize place : s2.heap.objs.size = D
  obtain ⟨W, ⟨m0, w0⟩, turn⟩ := turns D (I2.hok.fresh (Nat.le_of_eq place))
  generalize made : ({ s2 with heap := s2.heap.push { cls := .type "set", dict := none, data := .set #[] 0 (.fresh 0 0 (!X.w.params.followText "set-order")) } } : Shared) = s3
  have heap3 : s3.heap = s2.heap.push { cls := .type "set", dict := none, data := .set #[] 0 (.fresh 0 0 (!X.w.params.followText "set-order")) } := by rw [← made]
  have I3 : Inv X pins σ (upd H2 D (SetO X.w D (fun _ => false) 0)) s3 := by
    subst made place
    exact I2.laid (t' := s2.toks) (fun b o e => Heap.get?_push_of_some _ e) (Nat.le_refl _) (setO_new (setR_fresh X.w))
  have below : ∀ b ∈ fp, b < s2.heap.objs.size := fun b hb => let ⟨o, e, _⟩ := T.obj _ _ t2 b hb; Heap.lt_size e
  have fresh3 : ∀ b ∈ fp, FpOk X pins (upd H2 D (SetO X.w D (fun _ => false) 0)) b ∧ b < s3.heap.objs.size := fun b hb => by
    have lt := below b hb
    rw [heap3, Heap.size_push]
    refine ⟨⟨?_, (fresh2 b hb).2⟩, Nat.lt_succ_of_lt lt⟩
    rw [upd_ne (fun z => by rw [z, ← place] at lt; exact Nat.lt_irrefl _ lt)]
    exact (fresh2 b hb).1
  have t3 : tn 0 s3.heap := T.keep _ _ _ t2 fun b _ o e => by rw [heap3]; exact Heap.get?_push_of_some _ e
  have I4 := block_start I3 blk nd fresh3
  have qG := pG s3 (upd H2 D (SetO X.w D (fun _ => false) 0)) s3.heap.objs.size (cellsFrom (s3.heap.objs.size + 1) scope.names (cloFrom X.env.cells scope.names [])) fp
  have qE := pE s3 (upd H2 D (SetO X.w D (fun _ => false) 0)) s3.heap.objs.size (cellsFrom (s3.heap.objs.size + 1) scope.names (cloFrom X.env.cells scope.names [])) fp
  show codeAny _ _ (.compStart (.SetComp elt [⟨tg, iter, [], 0⟩] scope pos) 0 (.ref it) (.ref D) (compEnvC scope (cellsFrom (s3.heap.objs.size + 1) scope.names (cloFrom X.env.cells scope.names [])) s3.heap.objs.size X.env)) _ { s3 with heap := pushCells (s3.heap.push { cls := .type "dict", data := .dict #[] }) scope.names }
  generalize env4 : compEnvC scope (cellsFrom (s3.heap.objs.size + 1) scope.names (cloFrom X.env.cells scope.names [])) s3.heap.objs.size X.env = ce at I4 qG qE ⊢
  have loc : ce.locals = s3.heap.objs.size := by rw [← env4]; rfl
  have none3 : ∀ b ∈ fp, (upd H2 D (SetO X.w D (fun _ => false) 0)) b = none := fun b hb => (fresh3 b hb).1.1
  generalize upd H2 D (SetO X.w D (fun _ => false) 0) = H3 at I3 I4 qG qE w0 none3 fresh3
  generalize made4 : ({ s3 with heap := pushCells (s3.heap.push { cls := .type "dict", data := .dict #[] }) scope.names } : Shared) = s4 at I4 ⊢
  have t4 : tn 0 s4.heap := T.keep _ _ _ t3 fun b _ o e => by rw [← made4]; exact pushCells_keeps _ _ _ _ (Heap.get?_push_of_some _ e)
  have free : ∀ {τ : L2.St} {G : Hp} {s : Shared}, Inv (X.blk s3 H3 scope ce fp) [] τ G s → (∀ b ∈ fp, G b = none) → ∀ b ∈ fp, FpOk (X.blk s3 H3 scope ce fp) [] G b := fun {τ G s} J0 none b hb =>
    ⟨none b hb, (J0.ok.exf b hb).1, J0.ok.exfs b hb, .inl hb, fun x c e => (J0.ok.exf b hb).2 x c e, fun p hp => absurd (show p ∈ ([] : List (Addr × Obj)) ++ [] from hp) (by simp)⟩
  have run : codeAny (model X.prog X.w) X.A (.compLoop (.SetComp elt [⟨tg, iter, [], 0⟩] scope pos) 0 (.ref it) (.ref D) ce) (compPost (model X.prog X.w) X.A X.xe none (EP X pins σ Q) (.ref D) s3.heap.objs.size) s4 := by
    refine PpSet.compLoopS_any (fun n s => ∃ i G, Inv (X.blk s3 H3 scope ce fp) [] (wipe σ (own.map (·.2))) G s ∧ tn i s.heap ∧ (∀ b ∈ fp, G b = none) ∧ W i n G) ?_ m0 ⟨0, H3, I4, t4, none3, w0⟩
    rintro n s5 ⟨i, H5, I5, t5, none5, w5⟩
    rcases turn i n H5 w5 with ⟨stop, last⟩ | ⟨go, Nx, less, step⟩
    · refine thnF (T.done (X.blk s3 H3 scope ce fp) rfl rfl rfl calm i [] s5 _ H5 (fun _ _ => False) I5 (free I5 none5) t5 stop) fun r s6 ⟨er, I6⟩ => ?_
      subst er
      have back : Inv X pins σ H5 s6 := I3.call' (ch := fp) I6.os I6.base I6.hok I6.bare fun b hb => ⟨(fresh3 b hb).1.2.2.2.1, (fresh3 b hb).1.2.1, (fresh3 b hb).1.2.2.2.2.1, (fresh3 b hb).1.2.2.2.2.2⟩
      have gone : H5 s3.heap.objs.size = none := by rw [← loc]; exact I6.free
      obtain ⟨m, ns, _⟩ := I6.loc
      have ns : s6.heap.Ns ce.locals m := ns
      rw [loc] at ns
      obtain ⟨f0, f1, f2, f3, f4, f5⟩ := I3.fpOk (Nat.le_refl _) gone
      exact ⟨m, ns, fun h'' sb => ⟨.ref D, H5, back.turned (t' := s6.toks) (fun b o hb e => (sb.2 b hb).trans e) f0 f1 f3 f4 f5, rfl, last⟩⟩
    · refine thnF (T.item (X.blk s3 H3 scope ce fp) rfl rfl rfl calm i [] s5 _ H5 (fun _ _ => False) I5 (free I5 none5) t5 go) fun r s6 ⟨u, er, owned⟩ => ?_
      subst er
      refine thnF owned fun _ s7 ⟨x, H7, I7, rx, yields, t7, none7⟩ => ?_
      refine thnF (qG.run _ s7 _ H7 x u _ (I7.pinned (free I7 none7) (T.obj _ _ t7)) rx (step x H7 yields)) fun _ s8 ⟨σ8, H8, I8, wiped, reads8⟩ => ?_
      refine wpAny_pure ?_
      rw [if_pos rfl]
      refine thnF (qE.run _ s8 σ8 H8 _ I8 reads8) fun z s10 ⟨y, H10, I10, rz, c, S, k, ey, hD, room, nx⟩ => ?_
      subst ey
      obtain ⟨tz, rfl⟩ := (show ∃ t, z = Value.int c t from rz)
      refine addI_ok (X := X.blk s3 H3 scope ce fp) I10 hD room fun s11 I11 => ?_
      obtain ⟨m', lt, w'⟩ := less _ nx
      have stays : ∀ b ∈ fp, ∀ o, s7.heap.get? b = some o → s11.heap.get? b = some o ∧ _ := fun b hb o e => let z := I11.pin (b, o) (List.mem_append_right _ (List.mem_append_right _ (mem_pinsAt hb e))); ⟨z.1, z.2.1⟩
      refine ⟨m', lt, i + 1, _, (I11.unpinned (pins := [])).weak (by rw [← wiped, wipe_length]) (fun j v e => by rw [← wiped] at e; exact (wipe_some e).1), T.keep _ _ _ t7 fun b hb o e => (stays b hb o e).1, fun b hb => ?_, w'⟩
      obtain ⟨o, e, _⟩ := T.obj _ _ t7 b hb
      exact (stays b hb o e).2
  exact PpSet.codeAny_compStart_set run (T.self X.A 0 _ _ _ t4 run)
end
/-- such a comprehension over a walk: Pv by the turn and the heap (the new set at D within) -/
theorem si_it {w : World} {J : It} {n : Nat} {G : Hp → Prop} {Y : Nat → Hp → V → Hp → Prop} (wk : Walk J n G Y) {g : TG} {te : TE} {vs : List Nat} {σ : L2.St} {H1 : Hp} {D : Addr} {Qd : Hp → Prop} (Pv : Nat → Hp → Prop)
    (h0 : Pv 0 (upd H1 D (SetO w D (fun _ => false) 0))) (hG : ∀ i H, i ≤ n → Pv i H → G H)
    (hs : ∀ i x H H', i < n → Pv i H → Y i H x H' → g x (wipe σ vs) H' fun σ2 H2 => wipe σ2 vs = wipe σ vs ∧
      te σ2 H2 fun y H4 => ∃ (c : Int) (S : Int → Bool) (k : Nat), y = .int c ∧ H4 D = some (SetO w D S k) ∧ k + 1 < scanBound ∧ Pv (i + 1) (upd H4 D (SetO w D (fun j => S j || decide (j = c)) (if S c = true then k else k + 1))))
    (hd : ∀ H, Pv n H → Qd H) :
    ∃ W : Nat → Nat → Hp → Prop, (∃ m, W 0 m (upd H1 D (SetO w D (fun _ => false) 0))) ∧
      ∀ i m H, W i m H → (J.stop i H ∧ Qd H) ∨ (J.go i H ∧ ∃ Nx : Hp → Prop, (∀ H', Nx H' → ∃ m', m' < m ∧ W (i + 1) m' H') ∧ ∀ x H', J.yld i H x H' → g x (wipe σ vs) H' fun σ2 H2 => wipe σ2 vs = wipe σ vs ∧
        te σ2 H2 fun y H4 => ∃ (c : Int) (S : Int → Bool) (k : Nat), y = .int c ∧ H4 D = some (SetO w D S k) ∧ k + 1 < scanBound ∧ Nx (upd H4 D (SetO w D (fun j => S j || decide (j = c)) (if S c = true then k else k + 1)))) := by
  refine ⟨fun i m H => i ≤ n ∧ Pv i H ∧ m = n - i, ⟨n, Nat.zero_le _, h0, rfl⟩, fun i m H ⟨hi, p, em⟩ => ?_⟩
  subst em
  rcases Nat.lt_or_ge i n with lt | ge
  · exact .inr ⟨wk.goes i H lt (hG i H hi p), Pv (i + 1), fun H' p' => ⟨n - (i + 1), by omega, lt, p', rfl⟩, fun x H' y => hs i x H H' lt p (wk.yields i H x H' lt (hG i H hi p) y)⟩
  · have e : i = n := Nat.le_antisymm hi ge
    subst e
    exact .inl ⟨wk.stops H (hG i H hi p), hd H p⟩
/-- four keywords in the other order than the def's, nothing by place -/
theorem kb4r {K : PySem.W.Frag} {fd : FuncData} {p q r t : PySem.Str} (h : ∀ (s : Shared) (a b c d : Value), K.In s.heap → BindsTo s fd ⟨[], [t, r, q, p].zip [a, b, c, d]⟩ ([p, q, r, t].zip [d, c, b, a])) :
    KBinds K fd [p, q, r, t] [t, r, q, p] kwR kwR where
  to := by
    intro s us ws hk hl
    match us, ws, hl with
    | [], [a, b, c, d], _ => exact h s a b c d hk
    | [], [], z => cases z
    | [], [_], z => cases z
    | [], [_, _], z => cases z
    | [], [_, _, _], z => cases z
    | [], _ :: _ :: _ :: _ :: _ :: _, z => simp [kwR] at z
    | _ :: _, _, z => cases z
  rel := by
    intro vs us zs ws r z
    cases r with
    | nil => exact Vz.vals_rev z
    | cons _ _ => exact .nil
theorem op_sinW {X : Cx} {w : World} (e : X.w = w) : OpR X (compareOp .In) (rSIn w) := by
  subst e
  exact or_sin
theorem op_eqDK {X : Cx} {K : PySem.W.Frag} (e : X.K = K) (hu : X.A.units + 64 < cLine) : OpR X (compareOp .Eq) (rEqD K) := by
  subst e
  exact op_eqD hu
end Vz
set_option Elab.async false
set_option linter.all false
set_option maxRecDepth 100000
set_option maxHeartbeats 2000000
namespace Vz
open PySem PySem.Spec PyProof.Rows L2
section
variable {X : Cx}
theorem get_list : PGet X (rIxL X.K) := by
  intro pins s σ H o i ov iv Q I ro ri h
  obtain ⟨p, xs, k, z, rfl, rfl, hq, he, q⟩ := h
  cases ro
  obtain ⟨t, rfl⟩ := ri
  obtain ⟨its, r, pl, hz⟩ := I.list hq
  obtain ⟨j, h1, h2, h3, h4, h5⟩ := atI_get he
  obtain ⟨w, ew, rw'⟩ := r.get h2
  have hl := r.length
  have hn := line63
  have fin : EP X pins σ Q w s := ⟨z, H, I, rw', q⟩
  by_cases h0 : 0 ≤ k
  · have hj : k.toNat = j := by
      rw [seqIndex_of h0 h5] at h1
      exact Option.some.inj h1
    exact wpAny_getItem_list pl.isList h0 (by omega) (by rw [hj]; simpa using ew) fin
  · have hj : (k + (its.toArray.size : Int)).toNat = j := by
      rw [seqIndex_neg (by omega) h4] at h1
      rw [List.size_toArray, ← hl]
      exact Option.some.inj h1
    exact wpAny_getItem_list_neg pl.isList (by omega) (by rw [List.size_toArray] <;> omega) (by omega) (by rw [hj]; simpa using ew) fin
end
/-! ### a tuple the other way round -/
theorem back_adjust (n : Nat) : Builtin.Slice.sliceAdjust none none (-1) (n : Int) = ((n : Int) - 1, -1) ∧ Builtin.Slice.slicePlaces ((n : Int) - 1) (-1) (-1) = n := by
  refine ⟨?_, ?_⟩
  · unfold Builtin.Slice.sliceAdjust
    rfl
  · unfold Builtin.Slice.slicePlaces
    simp only [show ¬ ((-1 : Int) > 0) by decide, if_false, show (-(-1 : Int)) = 1 by decide, Int.ediv_one]
    split <;> omega
theorem fm_congr {α β : Type} {f g : α → Option β} : ∀ {l : List α}, (∀ x ∈ l, f x = g x) → l.filterMap f = l.filterMap g
  | [], _ => rfl
  | x :: l, h => by
    rw [List.filterMap_cons, List.filterMap_cons, h x List.mem_cons_self, fm_congr fun y hy => h y (List.mem_cons_of_mem _ hy)]
theorem pick_back (l : List Value) : ((List.range l.length).filterMap fun (k : Nat) => l.toArray[((l.length : Int) - 1 + (k : Int) * (-1)).toNat]?).toArray = l.reverse.toArray := by
  have z := HT.pick_gen l.reverse.toArray 0 l.length
  rw [List.drop_zero, List.take_of_length_le (by rw [List.length_reverse]; exact Nat.le_refl _)] at z
  rw [← z]
  congr 1
  refine fm_congr fun k hk => ?_
  have lk := List.mem_range.mp hk
  have e1 : ((l.length : Int) - 1 + (k : Int) * (-1)).toNat = l.length - 1 - k := by omega
  have e2 : (((0 : Nat) : Int) + (k : Int) * 1).toNat = k := by omega
  rw [e1, e2, List.getElem?_toArray, List.getElem?_toArray, List.getElem?_reverse lk]
section
variable {prog : Program} {w : World} {A : Around} {E : Value → Shared → Prop} {s : Shared}
theorem getItem_back {t sl : Addr} {its : List Value} {vs : Value} {Q : Value → Shared → Prop} (ht : PyProof.Rows.IsTup s.heap t its.toArray) (hs : s.heap.IsSliceOf sl .none .none vs) (ps : IsPart vs (some (-1)))
    (h : Q (.ref s.heap.objs.size) { s with heap := s.heap.push { cls := .type "tuple", data := .seq its.reverse.toArray } }) (hz : its.length ≤ sizeLine) : wpAny (model prog w) A (getItem (.ref t) (.ref sl)) Q E s := by
  have room : sizeOk (.seq its.reverse.toArray) := by
    show its.reverse.toArray.size ≤ sizeLine
    rw [List.size_toArray, List.length_reverse]; exact hz
  obtain ⟨ob, g1, g2, g3⟩ := id hs
  have tS : s.TypeIs (.ref sl) "slice" := ⟨ob, g1, g2⟩
  unfold getItem
  try with_reducible refine wpAny_holding ?_
  first | refine wpAny_bind (wpAny_pure ?_) | skip
  refine wpAny_bind (wpAny_sequenceKey ht.typeIs (by decide) ?_)
  refine wpAny_bind (wpAny_callSpecial?_slot (name := Str.ofString "__getitem__") ht.typeIs PyProof.Rows.slot_tuple_getitem (wpAny_call_entry PyProof.Rows.slot_tuple_getitem ht.typeIs entry_tuple_getitem ?_ (args_tuple_getitem _ _)))
  show wpAny _ _ (Builtin.Tuple.tupleItemsOf (.ref t) >>= _) _ _ s
  refine wpAny_bind (PyProof.Rows.tupleItemsOf_ ht ?_)
  refine wpAny_bind (wpAny_typeOf tS ?_)
  rw [if_pos (by decide)]
  have app : ∀ {A' : Around} {E' : Value → Shared → Prop} {R : Int × Int × Nat → Shared → Prop}, R ((its.length : Int) - 1, -1, its.length) s → wpAny (model prog w) A' (Builtin.Slice.sliceApplied (.ref sl) (pure (its.toArray.size : Int))) R E' s := fun {A' E' R} z => by
    unfold Builtin.Slice.sliceApplied Builtin.Slice.sliceFields
    refine wpAny_bind (wpAny_bind (wpAny_field g1 g3 (x := .none) rfl (wpAny_bind (wpAny_field g1 g3 (x := .none) rfl (wpAny_bind (wpAny_field g1 g3 (x := vs) rfl (wpAny_pure ?_)))))))
    refine wpAny_bind (HT.slicePart_ ps ?_)
    show wpAny _ _ (if ((-1 : Int) == 0) = true then _ else _) _ _ s
    rw [if_neg (by decide)]
    refine wpAny_bind (slicePart_none (wpAny_bind (slicePart_none (wpAny_bind (wpAny_pure ?_)))))
    obtain ⟨b1, b2⟩ := back_adjust its.length
    show wpAny _ _ (match Builtin.Slice.sliceAdjust none none (-1) (its.toArray.size : Int) with | (lo, hi) => pure (lo, (-1 : Int), Builtin.Slice.slicePlaces lo hi (-1))) _ _ s
    rw [List.size_toArray, b1]
    show wpAny _ _ (pure ((its.length : Int) - 1, (-1 : Int), Builtin.Slice.slicePlaces ((its.length : Int) - 1) (-1) (-1))) _ _ s
    rw [b2]
    exact wpAny_pure z
  refine wpAny_bind (app ?_)
  have hno : ¬ ((((its.length : Int) - 1) == 0 && (-1 : Int) == 1 && its.length == its.toArray.size) = true) := by
    intro q
    rw [Bool.and_eq_true, Bool.and_eq_true] at q
    exact absurd q.1.2 (by decide)
  show wpAny _ _ (if (((its.length : Int) - 1) == 0 && (-1 : Int) == 1 && its.length == its.toArray.size) = true then _ else _) _ _ s
  rw [if_neg hno, pick_back]
  first
    | exact wpAny_bind (m := Builtin.Tuple.tupleExact _) (wpAny_newObj_type (wpAny_pure ⟨_, rfl, wpAny_pure h⟩) room)
    | exact wpAny_bind (m := Builtin.Tuple.tupleExact _) (wpAny_newObj_type (wpAny_bind (wpAny_pure (wpAny_pure ⟨_, rfl, wpAny_pure h⟩))) room)
    | exact wpAny_bind (wpAny_bind (m := Builtin.Tuple.tupleExact _) (wpAny_newObj_type (wpAny_pure (wpAny_pure ⟨_, rfl, wpAny_pure h⟩)) room))
    | exact wpAny_bind (wpAny_bind (m := Builtin.Tuple.tupleExact _) (wpAny_newObj_type (wpAny_pure ⟨_, rfl, wpAny_pure h⟩) room))
end
section
variable {X : Cx}
def tRevT (K : PySem.W.Frag) (te : TE) : TE := fun σ H Q => te σ H fun x H1 => ∃ a xs, x = .ref a ∧ SqT K H1 a xs ∧ ∀ p, H1 p = none → Q (.ref p) (upd H1 p (.tup xs.reverse))
theorem pe_revT {e : Expr} {te : TE} {k : Nat} {p1 p2 p3 pos : Pos} (he : PE X e te) : PE X (.Subscript e (.Slice none none (some (.UnaryOp .USub (.Constant (.int 1) k p1) p2)) p3) pos) (tRevT X.K te) := by
  refine ⟨fun pins s σ H Q I h => ?_⟩
  refine Subscript_ (thn (he.run pins s σ H _ I h) fun v s1 ⟨x, H1, I1, r1, a, xs, ex, hx, q⟩ => ?_)
  subst ex
  cases r1
  have minus : PO X (some (.UnaryOp .USub (.Constant (.int 1) k p1) p2)) (tPart (tUn (rU fun i => .int (-i)) (tC (.int 1)))) := po_some (pe_un un_neg pe_int)
  refine wpAny_Slice ?_
  rw [evalPart_none]
  refine wpAny_pure ?_
  refine wpAny_pure ?_
  refine thn (minus.run pins s1 σ H1 (fun o H4 => o = some (-1) ∧ H4 = H1) I1 ⟨1, rfl, -1, rfl, rfl, rfl⟩) fun vs s4 ⟨o, H4, I4, ps, eo, e4⟩ => ?_
  subst eo e4
  have I5 : Inv X pins σ H4 { s4 with heap := s4.heap.push { cls := .type "slice", data := .fields #[.none, .none, vs] } } := I4.kept (t' := s4.toks) fun b ob q => Heap.get?_push_of_some _ q
  obtain ⟨its, r, pt, hz⟩ := I5.tuple hx
  show wpAny (model X.prog X.w) X.A (subscriptTail e (.Slice none none (some (.UnaryOp .USub (.Constant (.int 1) k p1) p2)) p3) (.ref a) (.ref s4.heap.objs.size)) (EP X pins σ Q) X.xe { s4 with heap := s4.heap.push { cls := .type "slice", data := .fields #[.none, .none, vs] } }
  refine tail_any (ops := [.ref a, .ref s4.heap.objs.size]) pt.typeIs (PyProof.Rows.slot_tuple_getitem.lookup) ?_ (by with_unfolding_all rfl)
  refine getItem_back pt (Heap.IsSliceOf.new _ _ _ vs) ps ?_ (by have := r.length; omega)
  exact ⟨.ref _, _, I5.laid (t' := s4.toks) (o := .tup xs.reverse) (fun b ob q => Heap.get?_push_of_some _ q) (Nat.le_refl _) ⟨by rw [List.length_reverse]; exact hz, _, r.reverse, ⟨_, Heap.get?_push_size _ rfl, rfl, 0, rfl⟩⟩, rfl, q _ (I5.hok.fresh (Nat.le_refl _))⟩
end
end Vz
namespace Vz
open PySem PySem.Spec PyProof.Rows L2
theorem op_inK {X : Cx} {K : PySem.W.Frag} (e : X.K = K) : OpR X (compareOp .In) (rIn K false) := by
  subst e
  exact op_in_seq
theorem op_notInK {X : Cx} {K : PySem.W.Frag} (e : X.K = K) : OpR X (compareOp .NotIn) (rIn K true) := by
  subst e
  exact op_notIn_seq
end Vz
set_option Elab.async false
set_option linter.all false
set_option maxRecDepth 100000
set_option maxHeartbeats 2000000
namespace Vz
open PySem PySem.Spec PyProof.Rows L2
section
variable {prog : Program} {w : World} {A : Around} {E : Value → Shared → Prop} {s : Shared}
theorem collect_tup {t : Addr} {vs : List Value} {Q : List Value → Shared → Prop} (it : PyProof.Rows.IsTup s.heap t vs.toArray)
    (q : Q vs { s with heap := (s.heap.push (seqObj "list" #[] 0)).update s.heap.objs.size (Obj.mapSeq (· ++ vs.toArray)) }) (room : vs.length ≤ sizeLine) :
    wpAny (model prog w) A (collect (.ref t)) Q E s := by
  obtain ⟨ob, g1, g2, n, g3⟩ := id it
  unfold collect
  refine wpAny_bind (wpAny_runValue (codeAny_builtin entry_proto_collect' ?_))
  show wpAny _ _ (do again (.builtin "list.__iadd__" ⟨[← newList [], .ref t], []⟩)) _ _ s
  refine wpAny_bind (wpAny_newList (wpAny_pure ⟨Code.quiet_builtin _ (by decide +kernel), codeAny_builtin entry_list_iadd' ?_⟩))
  show wpAny _ _ (Builtin.List.listExtendWith (.ref s.heap.objs.size) (.ref t) (.ref s.heap.objs.size)) _ _ { s with heap := s.heap.push (seqObj "list" #[] 0) }
  unfold Builtin.List.listExtendWith
  have g1' : (s.heap.push (seqObj "list" #[] 0)).get? t = some ob := Heap.get?_push_of_some _ g1
  refine wpAny_bind (wpAny_typeOf (T := "tuple") ⟨ob, g1', g2⟩ ?_)
  rw [if_pos (by rw [show (Value.type "tuple" == Value.type "tuple") = true from by rfl]; simp)]
  refine wpAny_bind (listItems_at g1' g3 ?_)
  refine wpAny_bind (listItems_at (xs := #[]) (n := 0) (Heap.get?_push_size _ rfl) rfl ?_)
  rw [if_neg (by simp)]
  refine wpAny_bind (listUpdate_at (xs := #[]) (n := 0) (Heap.get?_push_size _ rfl) rfl ?_ (Nat.zero_le _) (by show (#[] ++ vs.toArray).size ≤ sizeLine + 1; simp only [Array.size_append, List.size_toArray, List.length_nil]; omega))
  refine wpAny_pure ?_
  show wpAny (model prog w) A (do
      let o ← load s.heap.objs.size
      match o.data with
      | .seq xs _ => pure xs.toList
      | _ => unsupported "internal:collect") Q E { s with heap := (s.heap.push (seqObj "list" #[] 0)).update s.heap.objs.size (Obj.mapSeq (· ++ vs.toArray)) }
  refine wpAny_bind (wpAny_load (get?_update_seq (Heap.get?_push_size _ rfl) _) ?_)
  show wpAny _ _ (pure ((#[] : Array Value) ++ vs.toArray).toList) Q E _
  rw [show ((#[] : Array Value) ++ vs.toArray).toList = vs by simp]
  exact wpAny_pure q
open SrtO in
theorem sorted_tup {t : Addr} {vs : List Value} {ltv : Value → Value → Bool} {Q : Value → Shared → Prop} (O : Swo ltv) (it : PyProof.Rows.IsTup s.heap t vs.toArray) (room : vs.length ≤ sizeLine)
    (able : 2 ≤ vs.length → ∀ (h₁ : Heap) (a : Addr), h₁.get? a = some (seqObj "list" vs.toArray 0) → (∀ b o, s.heap.get? b = some o → b ≠ a ∧ h₁.get? b = some o) → SortableO prog w A.in1.in1 { s with heap := h₁ } a vs ltv)
    (q : ∀ out : List Value, Srtd ltv out → Stb ltv out vs → Q (.ref (s.heap.objs.size + 1)) { s with heap := sortedAll s.heap vs out.toArray }) :
    wpAny (model prog w) A (call (.builtin "sorted") [.ref t]) Q E s := by
  refine Calls.call_function_entry kind_sorted plain_sorted entry_sorted (args_sorted1 _) ?_
  unfold Builtin.«sorted»
  refine wpAny_bind (m := checkCount "sorted" 1 1 _) (wpAny_pure ?_)
  refine wpAny_bind (collect_tup it ?_ room)
  refine wpAny_bind (wpAny_newList ?_ room)
  have big : ((s.heap.push (seqObj "list" #[] 0)).update s.heap.objs.size (Obj.mapSeq (· ++ vs.toArray))).objs.size = s.heap.objs.size + 1 := by rw [Heap.size_update, size_push']
  have new : (((s.heap.push (seqObj "list" #[] 0)).update s.heap.objs.size (Obj.mapSeq (· ++ vs.toArray))).push (seqObj "list" vs.toArray 0)).get? (s.heap.objs.size + 1) = some (seqObj "list" vs.toArray 0) := by
    rw [← big]; exact Heap.get?_push_size _ rfl
  have old : ∀ b o, s.heap.get? b = some o → b ≠ s.heap.objs.size + 1 ∧ (((s.heap.push (seqObj "list" #[] 0)).update s.heap.objs.size (Obj.mapSeq (· ++ vs.toArray))).push (seqObj "list" vs.toArray 0)).get? b = some o := fun b o e => by
    have lt : b < s.heap.objs.size := Heap.lt_size e
    refine ⟨Nat.ne_of_lt (Nat.lt_succ_of_lt lt), Heap.get?_push_of_some _ ?_⟩
    rw [Heap.get?_update_ne _ _ _ _ (Nat.ne_of_lt lt)]
    exact Heap.get?_push_of_some _ e
  show wpAny _ _ _ _ _ { s with heap := ((s.heap.push (seqObj "list" #[] 0)).update s.heap.objs.size (Obj.mapSeq (· ++ vs.toArray))).push (seqObj "list" vs.toArray 0) }
  rw [big]
  refine wpAny_bind (wpAny_holding (wpAny_call_entry slot_list_sort ⟨_, new, rfl⟩ entry_list_sort (list_sort_ord O new room (fun h2 => able h2 _ _ new old) fun out hs hb => ⟨_, rfl, ?_⟩) (args_list_sort _)))
  exact wpAny_pure ⟨_, rfl, q out hs hb⟩
end
section
variable {X : Cx}
/-- sorted(t) of a tuple of whole numbers -/
def rSortedTI (K : PySem.W.Frag) : List V → Hp → VK → Prop := fun vs H Q => ∃ (a : Addr) (ns : List Int), vs = [V.ref a] ∧ SqT K H a (ns.map V.int) ∧
  ∀ (ns' : List Int) (p : Addr), ns'.Perm ns → ns'.Pairwise (· ≤ ·) → H p = none → Q (.ref p) (upd H p (.lst (ns'.map V.int)))
theorem cr_sortedTI : CallR X (.builtin "sorted") (rSortedTI X.K) := by
  intro pins s σ H vs us Q I r h
  obtain ⟨a, ns, rfl, hs, q⟩ := h
  obtain ⟨its, rv, pt, hz⟩ := I.tuple hs
  rw [Vals.ref1 r]
  have hi := rv.ints
  have lr := rv.length
  refine sorted_tup SrtO.swo_int pt (by omega) (fun h2 h₁ a' _ _ => SrtO.ints_sortable hi h2) fun out h1 h2 => ?_
  obtain ⟨k1, k2, k3⟩ := SrtO.ints_out hi h1 h2
  obtain ⟨ep, he'⟩ := PyProof.Rows.sortedAll_at s.heap its out.toArray
  have room : ((out.map SrtO.iv).map V.int).length ≤ sizeLine := by
    rw [List.length_map, k2.length_eq]
    have lr2 : its.length = ns.length := by rw [← lr, List.length_map]
    omega
  exact ⟨.ref _, upd H (s.heap.objs.size + 1) (.lst ((out.map SrtO.iv).map V.int)), I.laid (t' := s.toks) (fun _ _ => PyProof.Rows.sortedAll_old) (Nat.le_succ _) ⟨room, out, ep, vals_of_ints k1, he'⟩, rfl, q _ _ k2 k3 (I.hok.fresh (Nat.le_succ _))⟩
end
section
variable {X : Cx} {CX : CXT} {k : Nat} {f : Addr} {fd : FuncData} {ps : List Str} {sp : Sp} {ds : List Value} {dvs : List V} {E : XK}
theorem pe_callG0 {x : Str} {p pos : Pos} (G : FnG X.prog X.w X.K X.mg X.base CX k f fd ps sp) (gd : X.A.guards = some []) (hr : Room k X.A) (gl : Gl X x)
    (at_ : X.mg x = some (.ref f)) (kp : PySem.W.keepIn X.K (.ref f) = true) (bd : Binds X.K fd ps ds) (dv : Vals dvs ds) (ps0 : Passes CX X E)
    (nodb : (x == ("__debug__" : Str)) = false := by decide) :
    PE X (.Call (.Name x p) [] [] pos) (tCall sp dvs E tNil) := by
  constructor
  intro pins s σ H Q I q
  apply wpAny_Call_Name_kw
  refine ld_glob I gl at_ ?_ nodb
  refine PySem.W.callWith_K0 I.kIn kp ?_
  have rr : Vals ([] ++ dvs) ([] ++ ds) := dv
  have many : ([] ++ ds : List Value).length = ps.length := by rw [← rr.length]; exact G.many _ _ _ _ q
  apply wpAny_call
  refine codeAny_mono (G.goes X.A X.stack s H ⟨[], []⟩ _ _ Q E hr gd I.env0 (bd s [] I.kIn many) rr q) ?_
  rintro (err | fl) s' hq
  · exact ps0 pins σ H s err s' I hq
  · cases fl
    case ret u => exact I.after hq
    all_goals exact hq.elim
end
end Vz
set_option Elab.async false
set_option linter.all false
set_option maxRecDepth 100000
set_option maxHeartbeats 2000000
namespace Toy
open PySem PySem.Spec PyProof.Rows L2
def topS (i : Nat) : Stmt := PySem.Challenge.pw_feedreader_k93_whole_least_costs.main.body.getD i (.Pass ⟨0, 0, 0, 0⟩)
abbrev s_BadWindow : Stmt := inClass (topS 2) 0
theorem sc_BadWindow : FnScope ["self", "number"] ["self", "number"] (defScope s_BadWindow) := ⟨rfl, rfl, rfl, by decide +kernel, rfl, by decide +kernel, by decide +kernel⟩
abbrev s_BadOffer : Stmt := inClass (topS 3) 0
theorem sc_BadOffer : FnScope ["self", "number"] ["self", "number"] (defScope s_BadOffer) := ⟨rfl, rfl, rfl, by decide +kernel, rfl, by decide +kernel, by decide +kernel⟩
abbrev s_is_int : Stmt := topS 5
theorem sc_is_int : FnScope ["value"] ["value"] (defScope s_is_int) := ⟨rfl, rfl, rfl, by decide +kernel, rfl, by decide +kernel, by decide +kernel⟩
abbrev s_is_within : Stmt := topS 6
theorem sc_is_within : FnScope ["value", "low", "high"] ["value", "low", "high"] (defScope s_is_within) := ⟨rfl, rfl, rfl, by decide +kernel, rfl, by decide +kernel, by decide +kernel⟩
abbrev s_lost : Stmt := topS 9
theorem sc_lost : FnScope ["windows", "offers", "number", "first", "behind"] ["windows", "offers"] (defScope s_lost) := ⟨rfl, rfl, rfl, by decide +kernel, rfl, by decide +kernel, by decide +kernel⟩
abbrev s_cheapest : Stmt := topS 10
theorem sc_cheapest : FnScope ["windows", "offers", "pledges", "ends", "chosen", "behind", "used_up", "number"] ["windows", "offers"] (defScope s_cheapest) := ⟨rfl, rfl, rfl, by decide +kernel, rfl, by decide +kernel, by decide +kernel⟩
abbrev s_shows_cheapest : Stmt := topS 11
theorem sc_shows_cheapest : FnScope ["windows", "offers", "plan", "pledges", "spans", "asked", "moment", "cost"] ["windows", "offers", "plan", "pledges"] (defScope s_shows_cheapest) := ⟨rfl, rfl, rfl, by decide +kernel, rfl, by decide +kernel, by decide +kernel⟩
abbrev s__check : Stmt := topS 12
theorem sc__check : FnScope ["windows", "offers", "number", "window", "last", "offer"] ["windows", "offers"] (defScope s__check) := ⟨rfl, rfl, rfl, by decide +kernel, rfl, by decide +kernel, by decide +kernel⟩
abbrev s__is_window : Stmt := topS 13
theorem sc__is_window : FnScope ["value", "begin", "end"] ["value"] (defScope s__is_window) := ⟨rfl, rfl, rfl, by decide +kernel, rfl, by decide +kernel, by decide +kernel⟩
abbrev s__is_offer : Stmt := topS 14
theorem sc__is_offer : FnScope ["value", "moment", "cost"] ["value"] (defScope s__is_offer) := ⟨rfl, rfl, rfl, by decide +kernel, rfl, by decide +kernel, by decide +kernel⟩
abbrev s__spans : Stmt := topS 15
theorem sc__spans : FnScope ["windows", "offers", "moments", "moment", "_", "begin", "end"] ["windows", "offers"] (defScope s__spans) := ⟨rfl, rfl, rfl, by decide +kernel, rfl, by decide +kernel, by decide +kernel⟩
abbrev s__first_from : Stmt := topS 16
theorem sc__first_from : FnScope ["moments", "begin", "low", "high", "middle"] ["moments", "begin"] (defScope s__first_from) := ⟨rfl, rfl, rfl, by decide +kernel, rfl, by decide +kernel, by decide +kernel⟩
abbrev s__pledge : Stmt := topS 17
theorem sc__pledge : FnScope ["spans", "offers", "pledges", "ends", "kept", "begin", "total", "behind", "first", "number", "coming", "limit", "at", "used_up", "span"] ["spans", "offers"] (defScope s__pledge) := ⟨rfl, rfl, rfl, by decide +kernel, rfl, by decide +kernel, by decide +kernel⟩
abbrev s__is_plan : Stmt := topS 18
theorem sc__is_plan : FnScope ["windows", "spans", "offers", "value", "moments", "begin", "end", "first", "behind", "at", "moment", "_", "a", "b"] ["windows", "spans", "offers", "value"] (defScope s__is_plan) := ⟨rfl, rfl, rfl, by decide +kernel, rfl, by decide +kernel, by decide +kernel⟩
abbrev s__are_pledges : Stmt := topS 19
theorem sc__are_pledges : FnScope ["spans", "offers", "value", "steps", "first", "behind", "pledge", "load", "step", "_", "cost"] ["spans", "offers", "value"] (defScope s__are_pledges) := ⟨rfl, rfl, rfl, by decide +kernel, rfl, by decide +kernel, by decide +kernel⟩
abbrev s__law_begin : Stmt := topS 21
theorem sc__law_begin : FnScope ["script"] ["script"] (defScope s__law_begin) := ⟨rfl, rfl, rfl, by decide +kernel, rfl, by decide +kernel, by decide +kernel⟩
abbrev s__law_mixed : Stmt := topS 22
theorem sc__law_mixed : FnScope ["cell", "k", "mixed"] ["cell", "k"] (defScope s__law_mixed) := ⟨rfl, rfl, rfl, by decide +kernel, rfl, by decide +kernel, by decide +kernel⟩
abbrev s__law_next : Stmt := topS 23
theorem sc__law_next : FnScope ["draw", "bound", "found", "every", "cell"] ["draw", "bound"] (defScope s__law_next) := ⟨rfl, rfl, rfl, by decide +kernel, rfl, by decide +kernel, by decide +kernel⟩
abbrev s__law_of : Stmt := topS 24
theorem sc__law_of : FnScope ["draw", "items"] ["draw", "items"] (defScope s__law_of) := ⟨rfl, rfl, rfl, by decide +kernel, rfl, by decide +kernel, by decide +kernel⟩
abbrev s__law_asks : Stmt := topS 25
theorem sc__law_asks : FnScope ["draw", "most", "far", "windows", "offers", "moment", "k", "begin"] ["draw", "most", "far"] (defScope s__law_asks) := ⟨rfl, rfl, rfl, by decide +kernel, rfl, by decide +kernel, by decide +kernel⟩
abbrev s__law_inside : Stmt := topS 26
theorem sc__law_inside : FnScope ["window", "offers", "moment", "cost"] ["window", "offers"] (defScope s__law_inside) := ⟨rfl, rfl, rfl, by decide +kernel, rfl, by decide +kernel, by decide +kernel⟩
abbrev s__law_least : Stmt := topS 27
theorem sc__law_least : FnScope ["windows", "offers", "wanted", "found", "window", "mask", "at", "offer", "choice", "cost"] ["windows", "offers"] (defScope s__law_least) := ⟨rfl, rfl, rfl, by decide +kernel, rfl, by decide +kernel, by decide +kernel⟩
abbrev s__law_cost : Stmt := topS 28
theorem sc__law_cost : FnScope ["windows", "offers", "plan", "pledges", "moments", "total", "moment", "cost", "k", "window", "inside", "one"] ["windows", "offers"] (defScope s__law_cost) := ⟨rfl, rfl, rfl, by decide +kernel, rfl, by decide +kernel, by decide +kernel⟩
abbrev s__law_turned : Stmt := topS 29
theorem sc__law_turned : FnScope ["draw", "items", "rest", "found"] ["draw", "items"] (defScope s__law_turned) := ⟨rfl, rfl, rfl, by decide +kernel, rfl, by decide +kernel, by decide +kernel⟩
abbrev s_law : Stmt := topS 30
theorem sc_law : FnScope ["script", "draw", "turn", "windows", "offers", "least", "times", "most", "more", "gone", "late", "wide", "moment", "cost", "k", "window"] ["script"] (defScope s_law) := ⟨rfl, rfl, rfl, by decide +kernel, rfl, by decide +kernel, by decide +kernel⟩

structure Txt (K : PySem.W.Frag) (mg : Str → Option Value) where
  a_is_int : Addr
  d_is_int : FuncData
  g_is_int : mg "is_int" = some (.ref a_is_int)
  F_is_int : Fun K "is_int" "is_int" s_is_int a_is_int d_is_int
  b_is_int : Binds K d_is_int ["value"] []
  a_is_within : Addr
  d_is_within : FuncData
  g_is_within : mg "is_within" = some (.ref a_is_within)
  F_is_within : Fun K "is_within" "is_within" s_is_within a_is_within d_is_within
  b_is_within : Binds K d_is_within ["value", "low", "high"] []
  a_lost : Addr
  d_lost : FuncData
  g_lost : mg "lost" = some (.ref a_lost)
  F_lost : Fun K "lost" "lost" s_lost a_lost d_lost
  b_lost : Binds K d_lost ["windows", "offers"] []
  a_cheapest : Addr
  d_cheapest : FuncData
  g_cheapest : mg "cheapest" = some (.ref a_cheapest)
  F_cheapest : Fun K "cheapest" "cheapest" s_cheapest a_cheapest d_cheapest
  b_cheapest : Binds K d_cheapest ["windows", "offers"] []
  a_shows_cheapest : Addr
  d_shows_cheapest : FuncData
  g_shows_cheapest : mg "shows_cheapest" = some (.ref a_shows_cheapest)
  F_shows_cheapest : Fun K "shows_cheapest" "shows_cheapest" s_shows_cheapest a_shows_cheapest d_shows_cheapest
  b_shows_cheapest : Binds K d_shows_cheapest ["windows", "offers", "plan", "pledges"] []
  a__check : Addr
  d__check : FuncData
  g__check : mg "_check" = some (.ref a__check)
  F__check : Fun K "_check" "_check" s__check a__check d__check
  b__check : Binds K d__check ["windows", "offers"] []
  a__is_window : Addr
  d__is_window : FuncData
  g__is_window : mg "_is_window" = some (.ref a__is_window)
  F__is_window : Fun K "_is_window" "_is_window" s__is_window a__is_window d__is_window
  b__is_window : Binds K d__is_window ["value"] []
  a__is_offer : Addr
  d__is_offer : FuncData
  g__is_offer : mg "_is_offer" = some (.ref a__is_offer)
  F__is_offer : Fun K "_is_offer" "_is_offer" s__is_offer a__is_offer d__is_offer
  b__is_offer : Binds K d__is_offer ["value"] []
  a__spans : Addr
  d__spans : FuncData
  g__spans : mg "_spans" = some (.ref a__spans)
  F__spans : Fun K "_spans" "_spans" s__spans a__spans d__spans
  b__spans : Binds K d__spans ["windows", "offers"] []
  a__first_from : Addr
  d__first_from : FuncData
  g__first_from : mg "_first_from" = some (.ref a__first_from)
  F__first_from : Fun K "_first_from" "_first_from" s__first_from a__first_from d__first_from
  b__first_from : Binds K d__first_from ["moments", "begin"] []
  a__pledge : Addr
  d__pledge : FuncData
  g__pledge : mg "_pledge" = some (.ref a__pledge)
  F__pledge : Fun K "_pledge" "_pledge" s__pledge a__pledge d__pledge
  b__pledge : Binds K d__pledge ["spans", "offers"] []
  a__is_plan : Addr
  d__is_plan : FuncData
  g__is_plan : mg "_is_plan" = some (.ref a__is_plan)
  F__is_plan : Fun K "_is_plan" "_is_plan" s__is_plan a__is_plan d__is_plan
  b__is_plan : Binds K d__is_plan ["windows", "spans", "offers", "value"] []
  a__are_pledges : Addr
  d__are_pledges : FuncData
  g__are_pledges : mg "_are_pledges" = some (.ref a__are_pledges)
  F__are_pledges : Fun K "_are_pledges" "_are_pledges" s__are_pledges a__are_pledges d__are_pledges
  b__are_pledges : Binds K d__are_pledges ["spans", "offers", "value"] []
  a__law_begin : Addr
  d__law_begin : FuncData
  g__law_begin : mg "_law_begin" = some (.ref a__law_begin)
  F__law_begin : Fun K "_law_begin" "_law_begin" s__law_begin a__law_begin d__law_begin
  b__law_begin : Binds K d__law_begin ["script"] []
  a__law_mixed : Addr
  d__law_mixed : FuncData
  g__law_mixed : mg "_law_mixed" = some (.ref a__law_mixed)
  F__law_mixed : Fun K "_law_mixed" "_law_mixed" s__law_mixed a__law_mixed d__law_mixed
  b__law_mixed : Binds K d__law_mixed ["cell", "k"] []
  a__law_next : Addr
  d__law_next : FuncData
  g__law_next : mg "_law_next" = some (.ref a__law_next)
  F__law_next : Fun K "_law_next" "_law_next" s__law_next a__law_next d__law_next
  b__law_next : Binds K d__law_next ["draw", "bound"] []
  a__law_of : Addr
  d__law_of : FuncData
  g__law_of : mg "_law_of" = some (.ref a__law_of)
  F__law_of : Fun K "_law_of" "_law_of" s__law_of a__law_of d__law_of
  b__law_of : Binds K d__law_of ["draw", "items"] []
  a__law_asks : Addr
  d__law_asks : FuncData
  g__law_asks : mg "_law_asks" = some (.ref a__law_asks)
  F__law_asks : Fun K "_law_asks" "_law_asks" s__law_asks a__law_asks d__law_asks
  b__law_asks : Binds K d__law_asks ["draw", "most", "far"] []
  a__law_inside : Addr
  d__law_inside : FuncData
  g__law_inside : mg "_law_inside" = some (.ref a__law_inside)
  F__law_inside : Fun K "_law_inside" "_law_inside" s__law_inside a__law_inside d__law_inside
  b__law_inside : Binds K d__law_inside ["window", "offers"] []
  a__law_least : Addr
  d__law_least : FuncData
  g__law_least : mg "_law_least" = some (.ref a__law_least)
  F__law_least : Fun K "_law_least" "_law_least" s__law_least a__law_least d__law_least
  b__law_least : Binds K d__law_least ["windows", "offers"] []
  a__law_cost : Addr
  d__law_cost : FuncData
  g__law_cost : mg "_law_cost" = some (.ref a__law_cost)
  F__law_cost : Fun K "_law_cost" "_law_cost" s__law_cost a__law_cost d__law_cost
  b__law_cost : Binds K d__law_cost ["windows", "offers"] []
  a__law_turned : Addr
  d__law_turned : FuncData
  g__law_turned : mg "_law_turned" = some (.ref a__law_turned)
  F__law_turned : Fun K "_law_turned" "_law_turned" s__law_turned a__law_turned d__law_turned
  b__law_turned : Binds K d__law_turned ["draw", "items"] []
  a_law : Addr
  d_law : FuncData
  g_law : mg "law" = some (.ref a_law)
  F_law : Fun K "law" "law" s_law a_law d_law
  b_law : Binds K d_law ["script"] []
  C_FeedError : Addr
  g_FeedError : mg "FeedError" = some (.ref C_FeedError)
  C_BadWindow : Addr
  g_BadWindow : mg "BadWindow" = some (.ref C_BadWindow)
  I_BadWindow : Addr
  i_BadWindow : FuncData
  o_BadWindow : OexC K C_BadWindow
  iC_BadWindow : PySem.W.findIn K (.ref C_BadWindow) "__init__" = some (some (.ref I_BadWindow))
  tI_BadWindow : PySem.W.typeIn K (.ref I_BadWindow) = some (.type "function")
  FI_BadWindow : Fun K "__init__" "BadWindow.__init__" s_BadWindow I_BadWindow i_BadWindow
  bI_BadWindow : Binds K i_BadWindow ["self", "number"] []
  n_BadWindow_number : PySem.W.findIn K (.ref C_BadWindow) "number" = some none
  C_BadOffer : Addr
  g_BadOffer : mg "BadOffer" = some (.ref C_BadOffer)
  I_BadOffer : Addr
  i_BadOffer : FuncData
  o_BadOffer : OexC K C_BadOffer
  iC_BadOffer : PySem.W.findIn K (.ref C_BadOffer) "__init__" = some (some (.ref I_BadOffer))
  tI_BadOffer : PySem.W.typeIn K (.ref I_BadOffer) = some (.type "function")
  FI_BadOffer : Fun K "__init__" "BadOffer.__init__" s_BadOffer I_BadOffer i_BadOffer
  bI_BadOffer : Binds K i_BadOffer ["self", "number"] []
  n_BadOffer_number : PySem.W.findIn K (.ref C_BadOffer) "number" = some none
  z_all : mg "all" = none
  z_any : mg "any" = none
  z_bool : mg "bool" = none
  z_enumerate : mg "enumerate" = none
  z_int : mg "int" = none
  z_isinstance : mg "isinstance" = none
  z_len : mg "len" = none
  z_list : mg "list" = none
  z_max : mg "max" = none
  z_min : mg "min" = none
  z_range : mg "range" = none
  z_reversed : mg "reversed" = none
  z_set : mg "set" = none
  z_sorted : mg "sorted" = none
  z_sum : mg "sum" = none
  z_tuple : mg "tuple" = none
  z_zip : mg "zip" = none
  t_MOST_COST : Tok
  c_MOST_COST : mg "MOST_COST" = some (.int 1000000 t_MOST_COST)
theorem ok_init_BadWindow {P : Program} {w : World} {K : PySem.W.Frag} {mg : Str → Option Value} {base : Heap} (T : Txt K mg) : FnOk P w K mg base CX0 1 T.I_BadWindow T.i_BadWindow ["self", "number"] (Vz.sp_init T.C_BadWindow "number") := by
  refine T.FI_BadWindow.ok sc_BadWindow (fun vs H Q E h => ?_) (fun cdv A outer s H vs Q E hr h => ?_)
  · obtain ⟨a, v, rfl, _⟩ := h; rfl
  · obtain ⟨a, v, rfl, ha, q⟩ := h
    refine ⟨_, pss_one (ps_ost (pv 0) (pv 1)), ?_⟩
    exact ⟨_, rfl, _, rfl, a, T.C_BadWindow, rfl, T.o_BadWindow, T.n_BadWindow_number, .inl ⟨ha, fun dx n ne => q dx n ne⟩⟩
theorem ok_init_BadOffer {P : Program} {w : World} {K : PySem.W.Frag} {mg : Str → Option Value} {base : Heap} (T : Txt K mg) : FnOk P w K mg base CX0 1 T.I_BadOffer T.i_BadOffer ["self", "number"] (Vz.sp_init T.C_BadOffer "number") := by
  refine T.FI_BadOffer.ok sc_BadOffer (fun vs H Q E h => ?_) (fun cdv A outer s H vs Q E hr h => ?_)
  · obtain ⟨a, v, rfl, _⟩ := h; rfl
  · obtain ⟨a, v, rfl, ha, q⟩ := h
    refine ⟨_, pss_one (ps_ost (pv 0) (pv 1)), ?_⟩
    exact ⟨_, rfl, _, rfl, a, T.C_BadOffer, rfl, T.o_BadOffer, T.n_BadOffer_number, .inl ⟨ha, fun dx n ne => q dx n ne⟩⟩

/-! ### the things that are asked about -/
/-- a value of a plain kind, by its type's name; a dict is none that stands at d -/
inductive Thg (d : Addr) (H : Hp) : V → String → Prop where
  | non : Thg d H .non "NoneType"
  | bl (b : Bool) : Thg d H (.bl b) "bool"
  | int (i : Int) : Thg d H (.int i) "int"
  | str (x : Str) : Thg d H (.str x) "str"
  | lst {a : Addr} {xs : List V} (e : H a = some (.lst xs)) : Thg d H (.ref a) "list"
  | tup {a : Addr} {xs : List V} (e : H a = some (.tup xs)) : Thg d H (.ref a) "tuple"
  | dic {a : Addr} {kvs : List (Key × V)} (e : H a = some (.dK kvs)) (ne : a ≠ d) : Thg d H (.ref a) "dict"
/-- all but the object at d stands as it stood -/
def Keep (d : Addr) (H H' : Hp) : Prop := ∀ a o, a ≠ d → H a = some o → H' a = some o
theorem Keep.refl {d : Addr} (H : Hp) : Keep d H H := fun _ _ _ h => h
theorem Keep.trans {d : Addr} {H H1 H2 : Hp} (a : Keep d H H1) (b : Keep d H1 H2) : Keep d H H2 := fun x o n h => b x o n (a x o n h)
theorem Keep.of {d : Addr} {H H' : Hp} (s : Same H H') : Keep d H H' := fun a o _ h => s a o h
theorem same_new {H : Hp} {p : Addr} {o : HO} (h : H p = none) : Same H (upd H p o) := fun b u e => by rw [upd_ne (ne_of_none e h)]; exact e
theorem Thg.ty {d : Addr} {K : PySem.W.Frag} {H : Hp} {v : V} {s : String} (h : Thg d H v s) : TyX K H v (.type s) := by
  cases h with
  | non => exact .base .non
  | bl b => exact .base (.bl b)
  | int i => exact .base (.int i)
  | str x => exact .base (.str x)
  | lst e => exact .base (.lst e)
  | tup e => exact .base (.tup e)
  | dic e _ => exact .base (.dK e)
theorem Thg.same {d : Addr} {H H' : Hp} {v : V} {s : String} (h : Thg d H v s) (e : Same H H') : Thg d H' v s := by
  cases h with
  | non => exact .non
  | bl b => exact .bl b
  | int i => exact .int i
  | str x => exact .str x
  | lst q => exact .lst (e _ _ q)
  | tup q => exact .tup (e _ _ q)
  | dic q n => exact .dic (e _ _ q) n
theorem Thg.keep {d : Addr} {H H' : Hp} {kvs : List (Key × V)} {v : V} {s : String} (h : Thg d H v s) (hd : H d = some (.dK kvs)) (e : Keep d H H') : Thg d H' v s := by
  cases h with
  | non => exact .non
  | bl b => exact .bl b
  | int i => exact .int i
  | str x => exact .str x
  | lst q => exact .lst (e _ _ (ne_of q hd (by intro z; cases z)) q)
  | tup q => exact .tup (e _ _ (ne_of q hd (by intro z; cases z)) q)
  | dic q n => exact .dic (e _ _ n q) n
def isI : V → Bool
  | .int _ => true
  | _ => false
def inR (v : V) (lo hi : Int) : Bool := match v with
  | .int i => Ma.within i lo hi
  | _ => false
def intI : V → Bool
  | .int _ => true
  | .bl _ => true
  | _ => false
def blI : V → Bool
  | .bl _ => true
  | _ => false
def tupS (s : String) : Bool := s == "tuple"
theorem Thg.k_int {d : Addr} {K : PySem.W.Frag} {H : Hp} {v : V} {s : String} (h : Thg d H v s) : PySem.W.kitOne K (.type s) (.type "int") = some (intI v) := by
  cases h <;> first | exact kit_ty (r := true) (by decide +kernel) | exact kit_ty (r := false) (by decide +kernel)
theorem Thg.k_bool {d : Addr} {K : PySem.W.Frag} {H : Hp} {v : V} {s : String} (h : Thg d H v s) : PySem.W.kitOne K (.type s) (.type "bool") = some (blI v) := by
  cases h <;> first | exact kit_ty (r := true) (by decide +kernel) | exact kit_ty (r := false) (by decide +kernel)
theorem Thg.k_tup {d : Addr} {K : PySem.W.Frag} {H : Hp} {v : V} {s : String} (h : Thg d H v s) : PySem.W.kitOne K (.type s) (.type "tuple") = some (tupS s) := by
  cases h <;> first | exact kit_ty (r := true) (by decide +kernel) | exact kit_ty (r := false) (by decide +kernel)
theorem isI_eq (v : V) : (if intI v = true then !blI v else false) = isI v := by cases v <;> rfl

section
variable {P : Program} {w : World} {K : PySem.W.Frag} {mg : Str → Option Value} {base : Heap}

/-! ### the program -/
def sp_is_int : Sp := fun vs H Q _ => ∃ d v s, vs = [v] ∧ Thg d H v s ∧ Q (.bl (isI v)) H
theorem ok_is_int (T : Txt K mg) : FnOk P w K mg base CX0 1 T.a_is_int T.d_is_int ["value"] sp_is_int := by
  refine T.F_is_int.ok sc_is_int (fun vs H Q E h => ?_) (fun cdv A outer s H vs Q E hr h => ?_)
  · obtain ⟨d, v, s, rfl, _⟩ := h; rfl
  · obtain ⟨d, v, s, rfl, ht, q⟩ := h
    refine ⟨_, (pss_one (ps_ret (pe_and (pe_callB call_isi (by rfl) T.z_isinstance (by decide +kernel) (pa_cons (pv 0) (pa_cons (pe_bltn (v := .ty "int") (by rfl) T.z_int (by decide +kernel) rfl) pa_nil))) (pe_one (pe_not (pe_callB call_isi (by rfl) T.z_isinstance (by decide +kernel) (pa_cons (pv 0) (pa_cons (pe_bltn (v := .ty "bool") (by rfl) T.z_bool (by decide +kernel) rfl) pa_nil)))))))), ?_⟩
    refine ⟨_, rfl, v, _, _, _, _, rfl, .ty "int", ht.ty, ht.k_int, _, rfl, ?_⟩
    rw [← isI_eq] at q
    refine ite2 (fun c => ?_) (fun c => ?_)
    · rw [if_pos c] at q
      exact ⟨_, rfl, v, _, _, _, _, rfl, .ty "bool", ht.ty, ht.k_bool, _, rfl, q⟩
    · rw [if_neg c] at q
      exact q
def sp_is_within : Sp := fun vs H Q _ => ∃ d v s lo hi, vs = [v, .int lo, .int hi] ∧ Thg d H v s ∧ Q (.bl (inR v lo hi)) H
theorem ok_is_within (T : Txt K mg) : FnOk P w K mg base CX0 2 T.a_is_within T.d_is_within ["value", "low", "high"] sp_is_within := by
  refine T.F_is_within.ok sc_is_within (fun vs H Q E h => ?_) (fun cdv A outer s H vs Q E hr h => ?_)
  · obtain ⟨d, v, s, lo, hi, rfl, _⟩ := h; rfl
  · obtain ⟨d, v, s, lo, hi, rfl, ht, q⟩ := h
    refine ⟨_, (pss_one (ps_ret (pe_and (pe_call (ok_is_int T) (hr.mono (by decide)) (by rfl) T.g_is_int T.F_is_int.kp T.b_is_int .nil pass0 (pa_cons (pv 0) pa_nil)) (pe_one (pe_chain op_le op_le (pv 1) (pv 0) (pv 2)))))), ?_⟩
    refine ⟨_, rfl, d, v, _, rfl, ht, _, rfl, ?_⟩
    cases v with
    | int i =>
      refine iteT ?_
      refine ⟨_, rfl, _, rfl, lo, i, rfl, rfl, _, rfl, ?_⟩
      have q' : Q (.bl (decide (lo ≤ i) && decide (i ≤ hi))) H := q
      refine ite2 (fun c => ?_) (fun c => ?_)
      · refine ⟨_, rfl, i, hi, rfl, rfl, ?_⟩
        rw [c] at q'
        exact q'
      · have c' : decide (lo ≤ i) = false := by simpa using c
        rw [c'] at q'
        rw [Bool.false_and] at q'
        exact q'
    | _ => exact iteF q
def sp_is_moment : Sp := fun vs H Q _ => ∃ d v s, vs = [v] ∧ Thg d H v s ∧ Q (.bl (inR v 0 315537638648)) H
def sp_is_zone : Sp := fun vs H Q _ => ∃ d v s, vs = [v] ∧ Thg d H v s ∧ Q (.bl (inR v (-840) 840)) H
def sp__days_before : Sp := fun vs H Q _ => ∃ y, vs = [.int y] ∧ Q (.int (Ma.days y)) H
def sp__year_of_day : Sp := fun vs H Q _ => ∃ y, vs = [.int y] ∧ ∀ H', Same H H' → Q (.int (Ma.yearOf y)) H'
end
end Toy
set_option Elab.async false
set_option linter.all false
set_option maxRecDepth 100000
set_option maxHeartbeats 2000000
namespace Toy
open PySem PySem.Spec PyProof.Rows L2
theorem dI (a b : Int) : decide (V.int a = V.int b) = decide (a = b) := by
  rw [Bool.eq_iff_iff]
  simp only [decide_eq_true_eq]
  exact ⟨fun h => V.int.inj h, fun h => by rw [h]⟩
theorem inR_int {v : V} {lo hi : Int} (h : inR v lo hi = true) : ∃ i, v = .int i := by
  cases v <;> first | exact ⟨_, rfl⟩ | cases h
theorem Thg.is_tup {d : Addr} {H : Hp} {v : V} {s : String} (h : Thg d H v s) (e : tupS s = true) : ∃ a xs, v = .ref a ∧ H a = some (.tup xs) := by
  cases h with
  | tup q => exact ⟨_, _, rfl, q⟩
  | _ => exact absurd e (by decide)
def dayV (y mo d : V) : Bool := match y, mo with
  | .int y', .int m' => inR d 1 (Ma.dim y' m')
  | _, _ => false
def fitsV (y mo d h mi s z : V) : Bool := inR y 1 9999 && inR mo 1 13 && dayV y mo d && inR z (-840) 840 && inR h 0 23 && inR mi 0 59 && inR s 0 60
theorem fitsV_int (y mo d h mi s z : Int) : fitsV (.int y) (.int mo) (.int d) (.int h) (.int mi) (.int s) (.int z) = Ma.fits y mo d h mi s z := rfl
theorem fitsV_ints {y mo d h mi s z : V} (f : fitsV y mo d h mi s z = true) : ∃ y' mo' d' h' mi' s' z' : Int, y = .int y' ∧ mo = .int mo' ∧ d = .int d' ∧ h = .int h' ∧ mi = .int mi' ∧ s = .int s' ∧ z = .int z' := by
  unfold fitsV at f
  simp only [Bool.and_eq_true] at f
  obtain ⟨⟨⟨⟨⟨⟨f1, f2⟩, f3⟩, f4⟩, f5⟩, f6⟩, f7⟩ := f
  obtain ⟨y', rfl⟩ := inR_int f1
  obtain ⟨mo', rfl⟩ := inR_int f2
  obtain ⟨d', rfl⟩ := inR_int (v := d) f3
  obtain ⟨z', rfl⟩ := inR_int f4
  obtain ⟨h', rfl⟩ := inR_int f5
  obtain ⟨mi', rfl⟩ := inR_int f6
  obtain ⟨s', rfl⟩ := inR_int f7
  exact ⟨_, _, _, _, _, _, _, rfl, rfl, rfl, rfl, rfl, rfl, rfl⟩
def isDateL : List V → Bool
  | [.int y, .int mo, .int d, .int h, .int mi, .int s, .int z] => Ma.isDate y mo d h mi s z
  | _ => false
def isDateV (H : Hp) (v : V) : Bool := match v with
  | .ref a => match H a with
    | some (.tup xs) => isDateL xs
    | _ => false
  | _ => false
section
variable {P : Program} {w : World} {K : PySem.W.Frag} {mg : Str → Option Value} {base : Heap}
def sp__days_in_month : Sp := fun vs H Q _ => ∃ y m, vs = [.int y, .int m] ∧ Q (.int (Ma.dim y m)) H
def sp__fits_calendar : Sp := fun vs H Q _ => ∃ (dd a : Addr) (y mo d h mi s z : V), vs = [.ref a] ∧ H a = some (.tup [y, mo, d, h, mi, s, z]) ∧ (∀ x ∈ [y, mo, d, h, mi, s, z], ∃ k, Thg dd H x k) ∧ Q (.bl (fitsV y mo d h mi s z)) H
def sp__seconds_before : Sp := fun vs H Q _ => ∃ (a : Addr) (y mo d h mi s z : Int), vs = [.ref a] ∧ H a = some (.tup [.int y, .int mo, .int d, .int h, .int mi, .int s, .int z]) ∧ Q (.int (Ma.before y mo d h mi s z)) H
def sp__is_before_leap_second : Sp := fun vs H Q _ => ∃ b, vs = [.int b] ∧ ∀ H', Same H H' → Q (.bl (Ma.isLeap b)) H'
def sp_is_date : Sp := fun vs H Q _ => ∃ (dd : Addr) (v : V) (k : String), vs = [v] ∧ Thg dd H v k ∧ (∀ a xs, v = .ref a → H a = some (.tup xs) → ∀ x ∈ xs, ∃ k, Thg dd H x k) ∧ ∀ H', Same H H' → Q (.bl (isDateV H v)) H'
end
end Toy
set_option Elab.async false
set_option linter.all false
set_option maxRecDepth 100000
set_option maxHeartbeats 2000000
namespace Toy
open PySem PySem.Spec PyProof.Rows L2
/-! ### the draws -/
theorem s_ca : ¬ (("cells" : Str) = ("at" : Str)) := by decide +kernel
theorem s_ac : ¬ (("at" : Str) = ("cells" : Str)) := by decide +kernel
theorem n_ca : ¬ ((Sum.inr ("cells" : Str) : Key) = Sum.inr ("at" : Str)) := by decide +kernel
theorem s_cl : ¬ (("cells" : Str) = ("left" : Str)) := by decide +kernel
theorem s_lc : ¬ (("left" : Str) = ("cells" : Str)) := by decide +kernel
theorem n_cl : ¬ ((Sum.inr ("cells" : Str) : Key) = Sum.inr ("left" : Str)) := by decide +kernel
theorem s_cu : ¬ (("cells" : Str) = ("used" : Str)) := by decide +kernel
theorem s_uc : ¬ (("used" : Str) = ("cells" : Str)) := by decide +kernel
theorem n_cu : ¬ ((Sum.inr ("cells" : Str) : Key) = Sum.inr ("used" : Str)) := by decide +kernel
theorem s_al : ¬ (("at" : Str) = ("left" : Str)) := by decide +kernel
theorem s_la : ¬ (("left" : Str) = ("at" : Str)) := by decide +kernel
theorem n_al : ¬ ((Sum.inr ("at" : Str) : Key) = Sum.inr ("left" : Str)) := by decide +kernel
theorem s_au : ¬ (("at" : Str) = ("used" : Str)) := by decide +kernel
theorem s_ua : ¬ (("used" : Str) = ("at" : Str)) := by decide +kernel
theorem n_au : ¬ ((Sum.inr ("at" : Str) : Key) = Sum.inr ("used" : Str)) := by decide +kernel
theorem s_lu : ¬ (("left" : Str) = ("used" : Str)) := by decide +kernel
theorem s_ul : ¬ (("used" : Str) = ("left" : Str)) := by decide +kernel
theorem n_lu : ¬ ((Sum.inr ("left" : Str) : Key) = Sum.inr ("used" : Str)) := by decide +kernel
def dkv (c : Addr) (a l u : Int) : List (Key × V) := [(Sum.inr ("cells" : Str), .ref c), (Sum.inr ("at" : Str), .int a), (Sum.inr ("left" : Str), .int l), (Sum.inr ("used" : Str), .int u)]
theorem dkv_merge (c : Addr) (a l u : Int) : mergeK [] [(Sum.inr ("cells" : Str), V.ref c), (Sum.inr ("at" : Str), .int a), (Sum.inr ("left" : Str), .int l), (Sum.inr ("used" : Str), .int u)] = dkv c a l u := by
  simp [mergeK, putK, dkv, s_ca, s_ac, s_cl, s_lc, s_cu, s_uc, s_al, s_la, s_au, s_ua, s_lu, s_ul]
theorem put_at (c : Addr) (a l u x : Int) : putK (dkv c a l u) (Sum.inr ("at" : Str)) (.int x) = dkv c x l u := by
  simp [putK, dkv, s_ca, s_ac, s_cl, s_lc, s_cu, s_uc, s_al, s_la, s_au, s_ua, s_lu, s_ul]
theorem put_left (c : Addr) (a l u x : Int) : putK (dkv c a l u) (Sum.inr ("left" : Str)) (.int x) = dkv c a x u := by
  simp [putK, dkv, s_ca, s_ac, s_cl, s_lc, s_cu, s_uc, s_al, s_la, s_au, s_ua, s_lu, s_ul]
theorem put_used (c : Addr) (a l u x : Int) : putK (dkv c a l u) (Sum.inr ("used" : Str)) (.int x) = dkv c a l x := by
  simp [putK, dkv, s_ca, s_ac, s_cl, s_lc, s_cu, s_uc, s_al, s_la, s_au, s_ua, s_lu, s_ul]
section
variable {H : Hp} {d c : Addr} {a l u : Int}
theorem get_cells (h : H d = some (.dK (dkv c a l u))) : DGet H d (.str "cells") (some (.ref c)) := by
  have g := DGet.k (k := Sum.inr ("cells" : Str)) h
  rw [show valV (dkv c a l u) (Sum.inr ("cells" : Str)) = some (.ref c) from valV_pos rfl] at g
  exact g
theorem get_at (h : H d = some (.dK (dkv c a l u))) : DGet H d (.str "at") (some (.int a)) := by
  have g := DGet.k (k := Sum.inr ("at" : Str)) h
  rw [show valV (dkv c a l u) (Sum.inr ("at" : Str)) = some (.int a) by unfold dkv; rw [valV_neg n_ca, valV_pos rfl]] at g
  exact g
theorem get_left (h : H d = some (.dK (dkv c a l u))) : DGet H d (.str "left") (some (.int l)) := by
  have g := DGet.k (k := Sum.inr ("left" : Str)) h
  rw [show valV (dkv c a l u) (Sum.inr ("left" : Str)) = some (.int l) by unfold dkv; rw [valV_neg n_cl, valV_neg n_al, valV_pos rfl]] at g
  exact g
theorem get_used (h : H d = some (.dK (dkv c a l u))) : DGet H d (.str "used") (some (.int u)) := by
  have g := DGet.k (k := Sum.inr ("used" : Str)) h
  rw [show valV (dkv c a l u) (Sum.inr ("used" : Str)) = some (.int u) by unfold dkv; rw [valV_neg n_cu, valV_neg n_au, valV_neg n_lu, valV_pos rfl]] at g
  exact g
theorem dkv_few : (dkv c a l u).length < sizeLine := Nat.lt_of_lt_of_le (show 4 < 1000 by decide) (by decide)
theorem set_at (x : Int) (h : H d = some (.dK (dkv c a l u))) : DPut H d (.str "at") (.int x) (upd H d (.dK (dkv c x l u))) := by
  have g := DPut.k (k := Sum.inr ("at" : Str)) (v := .int x) h dkv_few
  rw [put_at] at g
  exact g
theorem set_left (x : Int) (h : H d = some (.dK (dkv c a l u))) : DPut H d (.str "left") (.int x) (upd H d (.dK (dkv c a x u))) := by
  have g := DPut.k (k := Sum.inr ("left" : Str)) (v := .int x) h dkv_few
  rw [put_left] at g
  exact g
theorem set_used (x : Int) (h : H d = some (.dK (dkv c a l u))) : DPut H d (.str "used") (.int x) (upd H d (.dK (dkv c a l x))) := by
  have g := DPut.k (k := Sum.inr ("used" : Str)) (v := .int x) h dkv_few
  rw [put_used] at g
  exact g
end
/-- a drawing at d, after at most n draws -/
def Draw (H : Hp) (d : Addr) (n : Int) : Prop := ∃ (c : Addr) (xs : List Int) (a l u : Int), H d = some (.dK (dkv c a l u)) ∧ H c = some (.lst (xs.map V.int)) ∧ xs ≠ [] ∧ 0 ≤ a ∧ a ≤ n ∧ 0 ≤ u ∧ u ≤ n
theorem Draw.same {H H' : Hp} {d : Addr} {n : Int} (h : Draw H d n) (e : Same H H') : Draw H' d n := by
  obtain ⟨c, xs, a, l, u, h1, h2, r⟩ := h
  exact ⟨c, xs, a, l, u, e _ _ h1, e _ _ h2, r⟩
theorem Draw.more {H : Hp} {d : Addr} {n m : Int} (h : Draw H d n) (e : n ≤ m) : Draw H d m := by
  obtain ⟨c, xs, a, l, u, h1, h2, h3, r1, r2, r3, r4⟩ := h
  exact ⟨c, xs, a, l, u, h1, h2, h3, r1, by omega, r3, by omega⟩
theorem Draw.dic {H : Hp} {d : Addr} {n : Int} (h : Draw H d n) : ∃ kvs, H d = some (.dK kvs) := by
  obtain ⟨c, xs, a, l, u, h1, _⟩ := h
  exact ⟨_, h1⟩
theorem at_some {α : Type} {xs : List α} {i : Int} (h0 : 0 ≤ i) (h1 : i < xs.length) : ∃ v, atI xs i = some v ∧ v ∈ xs := by
  have h2 : i.toNat < xs.length := by omega
  refine ⟨xs[i.toNat], ?_, List.getElem_mem _⟩
  have e : i = ((i.toNat : Nat) : Int) := by omega
  have h3 := atI_nat (xs := xs) (j := i.toNat) (v := xs[i.toNat]) (by simp [h2])
  rw [← e] at h3
  exact h3
theorem keep_upd {d : Addr} {H : Hp} {o : HO} : Keep d H (upd H d o) := fun a u n h => by rw [upd_ne n]; exact h
theorem mod_few (x m : Int) (h : 0 < m) (h2 : m < 2 ^ 64) : -(2 ^ 64) < x % m ∧ x % m < 2 ^ 64 := by
  have a := Int.emod_nonneg x (show m ≠ 0 by omega)
  have b := Int.emod_lt_of_pos x h
  omega

section
variable {P : Program} {w : World} {K : PySem.W.Frag} {mg : Str → Option Value} {base : Heap}
def sp__law_begin (K : PySem.W.Frag) : Sp := fun vs H Q _ => ∃ (s : Addr) (ns : List Int), vs = [.ref s] ∧ SqL K H s (ns.map V.int) ∧ ns.length ≤ 63 ∧ ∀ H' d, Same H H' → H d = none → Draw H' d 0 → Q (.ref d) H'
theorem ok__law_begin (T : Txt K mg) : FnOk P w K mg base CX0 1 T.a__law_begin T.d__law_begin ["script"] (sp__law_begin K) := by
  refine T.F__law_begin.ok sc__law_begin (fun vs H Q E h => ?_) (fun cdv A outer s H vs Q E hr h => ?_)
  · obtain ⟨s, ns, rfl, _⟩ := h; rfl
  · obtain ⟨s, ns, rfl, hs, hl, q⟩ := h
    refine ⟨_, (pss_one (ps_ret (pe_disp (pps_cons pe_str (pe_op Vz.op_catR (pv 0) (pe_lst (pa_cons pe_int pa_nil))) (pps_cons pe_str pe_int (pps_cons pe_str pe_int (pps_cons pe_str pe_int pps_nil)))) (by rfl) (by rfl) (fun z => by cases z) (by decide)))), ?_⟩
    refine fun p np => ?_
    have s1 := same_new (o := .dK []) np
    refine ⟨_, rfl, (by show 1 ≤ sizeLine; decide), fun b nb => ?_⟩
    have s2 := same_new (o := .lst [V.int 0]) nb
    refine ⟨s, b, ns.map V.int, [.int 0], rfl, rfl, s2.seq (s1.seq hs), SqL.of upd_same, ?_, fun c nc => ?_⟩
    · rw [List.length_map]; exact Nat.le_trans (Nat.add_le_add_right hl 1) (by decide)
    · have hp : upd (upd (upd H p (.dK [])) b (.lst [V.int 0])) c (.lst (ns.map V.int ++ [V.int 0])) p = some (.dK []) := by
        rw [upd_ne (ne_of_none (o := .dK []) (s2 _ _ upd_same) nc), upd_ne (ne_of_none (o := .dK []) upd_same nb), upd_same]
      refine ⟨hp, [(Sum.inr ("cells" : Str), V.ref c), (Sum.inr ("at" : Str), .int 0), (Sum.inr ("left" : Str), .int 0), (Sum.inr ("used" : Str), .int 0)], rfl, (by show 4 ≤ 15; decide), ?_⟩
      rw [dkv_merge]
      have ncp : c ≠ p := by intro z; subst z; rw [s2 _ _ upd_same] at nc; cases nc
      refine q _ p (fun x o e => ?_) np ⟨c, ns ++ [0], 0, 0, 0, upd_same, ?_, by simp, by omega, by omega, by omega, by omega⟩
      · rw [upd_ne (ne_of_none e np)]
        exact same_new nc _ _ (s2 _ _ (s1 _ _ e))
      · rw [upd_ne ncp, upd_same]; simp
def sp__law_mixed : Sp := fun vs H Q _ => ∃ c k, vs = [.int c, .int k] ∧ 0 ≤ k ∧ k ≤ 1099511627776 ∧ ∀ m, Q (.int m) H
theorem ok__law_mixed (T : Txt K mg) : FnOk P w K mg base CX0 1 T.a__law_mixed T.d__law_mixed ["cell", "k"] sp__law_mixed := by
  refine T.F__law_mixed.ok sc__law_mixed (fun vs H Q E h => ?_) (fun cdv A outer s H vs Q E hr h => ?_)
  · obtain ⟨c, k, rfl, _⟩ := h; rfl
  · obtain ⟨c, k, rfl, k0, k1, q⟩ := h
    refine ⟨_, (pss_cons (ps_set (i := 2) sc__law_mixed.nd rfl (by first | exact Or.inl rfl | exact Or.inr rfl) (pe_op op_mod (pe_callTy call_int1 (by rfl) T.z_int (by decide +kernel) (pa_cons (pe_op op_add (pe_op op_add (pe_op op_add (pe_op op_mod (pe_callTy call_int1 (by rfl) T.z_int (by decide +kernel) (pa_cons (pv 0) pa_nil)) pe_int) (pe_op op_mul (pe_op op_mul pe_int (pv 1)) (pv 1))) (pe_op op_mul pe_int (pv 1))) pe_int) pa_nil)) pe_int))
        (pss_cons (ps_set (i := 2) sc__law_mixed.nd rfl (by first | exact Or.inl rfl | exact Or.inr rfl) (pe_op op_mod (pe_callTy call_int1 (by rfl) T.z_int (by decide +kernel) (pa_cons (pe_op op_mul (pe_op op_mod (pe_callTy call_int1 (by rfl) T.z_int (by decide +kernel) (pa_cons (pe_op op_mul (pv 2) (pv 2)) pa_nil)) pe_int) (pv 2)) pa_nil)) pe_int))
        (pss_one (ps_ret (pe_op op_fdiv (pe_op op_mod (pe_callTy call_int1 (by rfl) T.z_int (by decide +kernel) (pa_cons (pe_op op_mul (pv 2) (pe_op op_add pe_int (pe_op op_mul pe_int (pe_op op_mod (pe_callTy call_int1 (by rfl) T.z_int (by decide +kernel) (pa_cons (pv 1) pa_nil)) pe_int)))) pa_nil)) pe_int) pe_int))))), ?_⟩
    refine ⟨_, rfl, .inl ⟨_, rfl, ?_⟩⟩
    refine ⟨_, _, rfl, rfl, (by show (0 : Int) < 1000000007; decide), _, rfl, _, _, rfl, rfl, .inl ⟨by decide, by decide⟩, _, rfl, _, _, rfl, rfl, .inl ⟨by omega, by omega⟩, _, _, rfl, rfl, _, rfl, _, _, rfl, rfl, .inl ⟨by decide, by decide⟩, _, _, rfl, rfl, _, _, rfl, rfl, .inl ⟨_, rfl, ?_⟩⟩
    refine ⟨_, _, rfl, rfl, (by show (0 : Int) < 2147483647; decide), ?_⟩
    refine ⟨_, rfl, _, rfl, _, _, rfl, rfl, .inl (mod_few _ _ (by decide) (by decide)), .inl ⟨_, rfl, ?_⟩⟩
    refine ⟨_, _, rfl, rfl, (by show (0 : Int) < 2147483647; decide), _, rfl, _, _, rfl, rfl, .inl (mod_few _ _ (by decide) (by decide)), .inl ⟨_, rfl, ?_⟩⟩
    refine ⟨_, _, rfl, rfl, (by show (0 : Int) < 2147483629; decide), ?_⟩
    refine ⟨_, rfl, _, rfl, .inl ⟨_, rfl, ?_⟩⟩
    refine ⟨_, _, rfl, rfl, (by show (0 : Int) < 1000; decide), _, _, rfl, rfl, .inl ⟨by decide, by decide⟩, _, _, rfl, rfl, _, _, rfl, rfl, .inl (mod_few _ _ (by decide) (by decide)), .inl ⟨_, rfl, ?_⟩⟩
    refine ⟨_, _, rfl, rfl, (by show (0 : Int) < 2147483647; decide), _, _, rfl, rfl, ⟨by decide, by decide⟩, ?_⟩
    exact q _
def sp__law_next : Sp := fun vs H Q _ => ∃ (d : Addr) (m n : Int), vs = [.ref d, .int m] ∧ Draw H d n ∧ 0 < m ∧ m < 1073741824 ∧ n ≤ 1000000000 ∧ ∀ H' k, Keep d H H' → Draw H' d (n + 1) → 0 ≤ k → k < m → Q (.int k) H'
theorem ok__law_next (T : Txt K mg) : FnOk P w K mg base CX0 2 T.a__law_next T.d__law_next ["draw", "bound"] sp__law_next := by
  refine T.F__law_next.ok sc__law_next (fun vs H Q E h => ?_) (fun cdv A outer s H vs Q E hr h => ?_)
  · obtain ⟨d, m, n, rfl, _⟩ := h; rfl
  · obtain ⟨d, m, n, rfl, ⟨c, xs, a, l, u, h1, h2, h3, a0, a1, u0, u1⟩, m0, m1, n1, q⟩ := h
    have hu := hu_of hr
    have small : ∀ x : Int, 0 ≤ x % m ∧ x % m < m := fun x => ⟨Int.emod_nonneg x (by omega), Int.emod_lt_of_pos x m0⟩
    have ncd : c ≠ d := ne_of h2 h1 (by intro z; cases z)
    refine ⟨_, (pss_cons (ps_if (pt_cmpR op_gt (pe_dget hu (pv 0) pe_str (fun _ _ => rfl)) pe_int (nomark _)) (pss_cons (ps_set (i := 2) sc__law_next.nd rfl (by first | exact Or.inl rfl | exact Or.inr rfl) (pe_op op_mod (pe_callTy call_int1 (by rfl) T.z_int (by decide +kernel) (pa_cons (pe_dget hu (pv 0) pe_str (fun _ _ => rfl)) pa_nil)) (pv 1)))
        (pss_cons (ps_dput hu (pv 0) pe_str (pe_op op_fdiv (pe_dget hu (pv 0) pe_str (fun _ _ => rfl)) (pv 1)) rfl)
        (pss_one (ps_ret (pv 2))))) pss_nil)
        (pss_cons (ps_set (i := 3) sc__law_next.nd rfl (by first | exact Or.inl rfl | exact Or.inr rfl) (pe_dget hu (pv 0) pe_str (fun _ _ => rfl)))
        (pss_cons (ps_set (i := 4) sc__law_next.nd rfl (by first | exact Or.inl rfl | exact Or.inr rfl) (pe_ix ix_list (pv 3) (pe_op op_mod (pe_callTy call_int1 (by rfl) T.z_int (by decide +kernel) (pa_cons (pe_dget hu (pv 0) pe_str (fun _ _ => rfl)) pa_nil)) (pe_callB call_len_seq (by rfl) T.z_len PySem.boot_len (pa_cons (pv 3) pa_nil))) (fun _ _ => rfl)))
        (pss_cons (ps_dput hu (pv 0) pe_str (pe_op op_add (pe_dget hu (pv 0) pe_str (fun _ _ => rfl)) pe_int) rfl)
        (pss_cons (ps_if (PW.pt (pw_and (pt_cmpR op_ge (pv 4) (pe_op op_pow pe_int pe_int) (nomark _)) (pw_and1 (pt_cmpR op_le (pe_dget hu (pv 0) pe_str (fun _ _ => rfl)) (pe_callB call_len_seq (by rfl) T.z_len PySem.boot_len (pa_cons (pv 3) pa_nil)) (nomark _))))) (pss_cons (ps_dput hu (pv 0) pe_str (pe_op op_fdiv (pv 4) (pv 1)) rfl)
        (pss_one (ps_ret (pe_op op_mod (pe_callTy call_int1 (by rfl) T.z_int (by decide +kernel) (pa_cons (pv 4) pa_nil)) (pv 1))))) pss_nil)
        (pss_cons (ps_dput hu (pv 0) pe_str (pe_op op_add (pe_dget hu (pv 0) pe_str (fun _ _ => rfl)) pe_int) rfl)
        (pss_one (ps_ret (pe_op op_mod (pe_callTy call_int1 (by rfl) T.z_int (by decide +kernel) (pa_cons (pe_call (ok__law_mixed T) (hr.mono (by decide)) (by rfl) T.g__law_mixed T.F__law_mixed.kp T.b__law_mixed .nil pass0 (pa_cons (pe_call (ok__law_mixed T) (hr.mono (by decide)) (by rfl) T.g__law_mixed T.F__law_mixed.kp T.b__law_mixed .nil pass0 (pa_cons (pv 4) (pa_cons (pe_dget hu (pv 0) pe_str (fun _ _ => rfl)) pa_nil))) (pa_cons (pe_dget hu (pv 0) pe_str (fun _ _ => rfl)) pa_nil))) pa_nil)) (pv 1)))))))))), ?_⟩
    refine ⟨_, rfl, _, _, rfl, get_left h1, _, _, rfl, rfl, _, rfl, ?_⟩
    refine ite2 (fun cc => ?_) (fun cc => ?_)
    · refine ⟨_, rfl, _, _, rfl, get_left h1, .inl ⟨_, rfl, _, rfl, _, _, rfl, rfl, m0, ?_⟩⟩
      refine ⟨_, rfl, _, _, rfl, get_left h1, _, rfl, _, _, rfl, rfl, ⟨m0, m1⟩, _, rfl, _, _, rfl, set_left _ h1, ?_⟩
      exact ⟨_, rfl, q _ _ keep_upd ⟨c, xs, a, _, u, upd_same, by rw [upd_ne ncd]; exact h2, h3, a0, by omega, u0, by omega⟩ (small _).1 (small _).2⟩
    · have len0 : 0 < (xs.map V.int).length := by
        cases xs with
        | nil => exact absurd rfl h3
        | cons x r => simp
      have i0 : 0 ≤ a % ((xs.map V.int).length : Int) := Int.emod_nonneg _ (by omega)
      have i1 : a % ((xs.map V.int).length : Int) < ((xs.map V.int).length : Int) := Int.emod_lt_of_pos _ (by omega)
      obtain ⟨v, hv, hm⟩ := at_some i0 i1
      obtain ⟨x, _, rfl⟩ := List.mem_map.mp hm
      refine ⟨_, rfl, _, _, rfl, get_cells h1, ?_⟩
      refine ⟨_, rfl, _, rfl, _, _, rfl, get_at h1, .inl ⟨_, rfl, _, rfl, _, _, rfl, .inl (SqL.of h2), _, _, rfl, rfl, (by show (0 : Int) < ((xs.map V.int).length : Int); omega), _, _, _, _, rfl, rfl, SqL.of h2, hv, ?_⟩⟩
      refine ⟨_, rfl, _, _, rfl, get_at h1, _, _, rfl, rfl, _, rfl, _, _, rfl, set_at _ h1, ?_⟩
      have h1' : upd H d (.dK (dkv c (a + 1) l u)) d = some (.dK (dkv c (a + 1) l u)) := upd_same
      have h2' : upd H d (.dK (dkv c (a + 1) l u)) c = some (.lst (xs.map V.int)) := by rw [upd_ne ncd]; exact h2
      have last : ∀ H2, Keep d H H2 → H2 d = some (.dK (dkv c (a + 1) l u)) → H2 c = some (.lst (xs.map V.int)) → ∀ k, 0 ≤ k → k < m → Q (.int k) (upd H2 d (.dK (dkv c (a + 1) l (u + 1)))) := fun H2 e1 e2 e3 k k0 k1 =>
        q _ _ (e1.trans keep_upd) ⟨c, xs, a + 1, l, u + 1, upd_same, by rw [upd_ne ncd]; exact e3, h3, by omega, by omega, by omega, by omega⟩ k0 k1
      have ending : ∀ z : Prop, z → z := fun _ h => h
      refine ⟨_, rfl, _, _, rfl, rfl, ⟨by decide, by decide, by decide⟩, _, _, rfl, rfl, _, rfl, ?_⟩
      refine ite2 (fun c1 => ?_) (fun c1 => ?_)
      · refine ⟨_, rfl, _, _, rfl, get_at h1', _, rfl, _, _, rfl, .inl (SqL.of h2'), _, _, rfl, rfl, _, rfl, ?_⟩
        refine ite2 (fun c2 => ?_) (fun c2 => ?_)
        · refine ⟨_, rfl, _, rfl, _, _, rfl, rfl, ⟨m0, m1⟩, _, rfl, _, _, rfl, set_left _ h1', ?_⟩
          refine ⟨_, rfl, .inl ⟨_, rfl, _, rfl, _, _, rfl, rfl, m0, ?_⟩⟩
          exact q _ _ (keep_upd.trans keep_upd) ⟨c, xs, a + 1, _, u, upd_same, by rw [upd_ne ncd]; exact h2', h3, by omega, by omega, u0, by omega⟩ (small _).1 (small _).2
        · refine ⟨_, rfl, _, _, rfl, get_used h1', _, _, rfl, rfl, _, rfl, _, _, rfl, set_used _ h1', ?_⟩
          refine ⟨_, rfl, _, rfl, _, _, rfl, get_at upd_same, _, _, rfl, by omega, by omega, fun m1 => ?_⟩
          refine ⟨_, rfl, _, _, rfl, get_used upd_same, _, _, rfl, by omega, by omega, fun m2 => .inl ⟨_, rfl, _, rfl, _, _, rfl, rfl, m0, ?_⟩⟩
          exact last _ keep_upd h1' h2' _ (small _).1 (small _).2
      · refine iteF ?_
        refine ⟨_, rfl, _, _, rfl, get_used h1', _, _, rfl, rfl, _, rfl, _, _, rfl, set_used _ h1', ?_⟩
        refine ⟨_, rfl, _, rfl, _, _, rfl, get_at upd_same, _, _, rfl, by omega, by omega, fun m1 => ?_⟩
        refine ⟨_, rfl, _, _, rfl, get_used upd_same, _, _, rfl, by omega, by omega, fun m2 => .inl ⟨_, rfl, _, rfl, _, _, rfl, rfl, m0, ?_⟩⟩
        exact last _ keep_upd h1' h2' _ (small _).1 (small _).2
end
end Toy
set_option Elab.async false
set_option linter.all false
set_option maxRecDepth 100000
set_option maxHeartbeats 2000000
namespace Toy
open PySem PySem.Spec PyProof.Rows L2
/-- a window: two whole numbers, 0 ≤ begin ≤ end -/
def winL : List V → Bool
  | [.int b, .int e] => decide (0 ≤ b) && decide (b ≤ e)
  | _ => false
/-- an offer: a moment and a cost -/
def offL : List V → Bool
  | [.int m, .int c] => decide (0 ≤ m) && Ma.within c 1 1000000
  | _ => false
def ofV (f : List V → Bool) (H : Hp) (v : V) : Bool := match v with
  | .ref a => match H a with
    | some (.tup xs) => f xs
    | _ => false
  | _ => false
theorem ofV_no {f : List V → Bool} {dd : Addr} {H : Hp} {v : V} {k : String} (e : tupS k = false) (h : Thg dd H v k) : ofV f H v = false := by
  cases h with
  | tup e' => cases (show tupS "tuple" = false from e)
  | lst e' => unfold ofV; simp [e']
  | dic e' _ => unfold ofV; simp [e']
  | _ => rfl
theorem two_of {xs : List V} (h : xs.length = 2) : ∃ x y, xs = [x, y] := by
  match xs, h with
  | [x, y], _ => exact ⟨x, y, rfl⟩
theorem winL_two {x y : V} : winL [x, y] = (if isI x = true then (if isI y = true then winL [x, y] else false) else false) := by
  cases x <;> first | rfl | (cases y <;> rfl)
theorem isI_int {v : V} (h : isI v = true) : ∃ i, v = .int i := by cases v <;> first | exact ⟨_, rfl⟩ | cases h
/-- a thing whose items are things, too -/
def Thg2 (dd : Addr) (H : Hp) (v : V) : Prop := ∃ k, Thg dd H v k ∧ ∀ a xs, v = .ref a → H a = some (.tup xs) → ∀ x ∈ xs, ∃ k, Thg dd H x k
section
variable {P : Program} {w : World} {K : PySem.W.Frag} {mg : Str → Option Value} {base : Heap}
def sp__is_window : Sp := fun vs H Q _ => ∃ (dd : Addr) (v : V), vs = [v] ∧ Thg2 dd H v ∧ Q (.bl (ofV winL H v)) H
theorem ok__is_window (T : Txt K mg) : FnOk P w K mg base CX0 2 T.a__is_window T.d__is_window ["value"] sp__is_window := by
  refine T.F__is_window.ok sc__is_window (fun vs H Q E h => ?_) (fun cdv A outer s H vs Q E hr h => ?_)
  · obtain ⟨dd, v, rfl, _⟩ := h; rfl
  · obtain ⟨dd, v, rfl, ⟨k, ht, hi⟩, q⟩ := h
    refine ⟨_, (pss_cons (ps_if (PW.pt (pw_or (pt_not (pt_val (pe_callB call_isi (by rfl) T.z_isinstance (by decide +kernel) (pa_cons (pv 0) (pa_cons (pe_bltn (v := .ty "tuple") (by rfl) T.z_tuple (by decide +kernel) rfl) pa_nil))))) (pw_or1 (pt_cmpR op_ne (pe_callB call_len_seq (by rfl) T.z_len PySem.boot_len (pa_cons (pv 0) pa_nil)) pe_int (nomark _))))) (pss_one (ps_ret pe_bl)) pss_nil)
        (pss_cons (ps_asg (pv 0) (pg_tup rfl (pgs_cons (pg_name (i := 1) sc__is_window.nd rfl (by first | exact Or.inl rfl | exact Or.inr rfl)) (pgs_cons (pg_name (i := 2) sc__is_window.nd rfl (by first | exact Or.inl rfl | exact Or.inr rfl)) pgs_nil))))
        (pss_one (ps_ret (pe_and (pe_call (ok_is_int T) (hr.mono (by decide)) (by rfl) T.g_is_int T.F_is_int.kp T.b_is_int .nil pass0 (pa_cons (pv 1) pa_nil)) (pe_and (pe_call (ok_is_int T) (hr.mono (by decide)) (by rfl) T.g_is_int T.F_is_int.kp T.b_is_int .nil pass0 (pa_cons (pv 2) pa_nil)) (pe_one (pe_chain op_le op_le pe_int (pv 1) (pv 2))))))))), ?_⟩
    refine ⟨_, rfl, v, _, _, _, _, rfl, .ty "tuple", ht.ty, ht.k_tup, _, rfl, ?_⟩
    cases e : tupS k with
    | false =>
      rw [ofV_no e ht] at q
      exact q
    | true =>
    obtain ⟨a, xs, rfl, ha⟩ := ht.is_tup e
    refine iteF ?_
    have hx := hi a xs rfl ha
    refine ⟨_, rfl, _, _, rfl, .inr (SqT.of ha), rfl, _, rfl, ?_⟩
    have dv : ofV winL H (.ref a) = winL xs := by unfold ofV; simp [ha]
    rw [dv] at q
    refine ite2 (fun c => ?_) (fun c => ?_)
    · have nl : ¬ xs.length = 2 := by
        intro z
        rw [dI] at c
        simp [z] at c
      have e0 : winL xs = false := by
        unfold winL
        split
        · exact absurd rfl nl
        · rfl
      rw [e0] at q
      exact q
    · have l2 : xs.length = 2 := by
        rw [dI] at c
        have c2 : decide ((xs.length : Int) = 2) = true := by
          cases h : decide ((xs.length : Int) = 2) with
          | true => rfl
          | false => exact absurd (show (!decide ((xs.length : Int) = 2)) = true by rw [h]; rfl) c
        have := of_decide_eq_true c2
        omega
      obtain ⟨x, y, rfl⟩ := two_of l2
      obtain ⟨k1, t1⟩ := hx x (by simp)
      obtain ⟨k2, t2⟩ := hx y (by simp)
      refine ⟨_, rfl, a, _, rfl, SqT.of ha, rfl, _, _, rfl, _, _, rfl, rfl, ?_⟩
      refine ⟨_, rfl, dd, x, k1, rfl, t1, _, rfl, ?_⟩
      rw [winL_two] at q
      refine ite2 (fun c1 => ?_) (fun c1 => ?_)
      · rw [if_pos c1] at q
        refine ⟨_, rfl, dd, y, k2, rfl, t2, _, rfl, ?_⟩
        refine ite2 (fun c2 => ?_) (fun c2 => ?_)
        · rw [if_pos c2] at q
          obtain ⟨b, rfl⟩ := isI_int c1
          obtain ⟨e, rfl⟩ := isI_int c2
          refine ⟨_, rfl, 0, b, rfl, rfl, _, rfl, ?_⟩
          have q' : Q (.bl (decide (0 ≤ b) && decide (b ≤ e))) H := q
          refine ite2 (fun c3 => ?_) (fun c3 => ?_)
          · refine ⟨_, rfl, b, e, rfl, rfl, ?_⟩
            rw [c3] at q'
            exact q'
          · have c' : decide (0 ≤ b) = false := by simpa using c3
            rw [c', Bool.false_and] at q'
            exact q'
        · rw [if_neg c2] at q
          exact q
      · rw [if_neg c1] at q
        exact q
end
end Toy
set_option Elab.async false
set_option linter.all false
set_option maxRecDepth 100000
set_option maxHeartbeats 2000000
namespace Toy
open PySem PySem.Spec PyProof.Rows L2
theorem while_ex {c : TT} {tb rest : TS} {D : Ends} {σ : L2.St} {H : Hp} (Pv : L2.St → Hp → Prop) (μ : L2.St → Hp → Nat) (Ex : L2.St → Hp → Prop) (h0 : Pv σ H)
    (hs : ∀ σ H, Pv σ H → ∀ R : Bool → Hp → Prop, (∀ H1, tb { D with nx := fun σ' H' => Pv σ' H' ∧ μ σ' H' < μ σ H, ct := fun σ' H' => Pv σ' H' ∧ μ σ' H' < μ σ H, bk := rest D } σ H1 → R true H1) → (∀ H1, Ex σ H1 → R false H1) → c σ H R)
    (hx : ∀ σ H, Ex σ H → rest D σ H) : tSeq (tWhile c tb) rest D σ H := by
  refine ⟨fun m σ H => m = μ σ H ∧ Pv σ H, ⟨_, rfl, h0⟩, ?_⟩
  rintro m σ H ⟨rfl, p⟩
  refine hs σ H p _ (fun H1 b => ?_) (fun H1 e => ?_)
  · rw [if_pos rfl]
    exact ⟨_, fun σ' H' ⟨p', l⟩ => ⟨_, l, rfl, p'⟩, b⟩
  · rw [if_neg (by decide)]
    exact hx σ H1 e
theorem at_nat {xs : List V} {i : Nat} {x : V} (h : xs[i]? = some x) : atI xs (i : Int) = some x := by
  have hi : i < xs.length := (List.getElem?_eq_some_iff.mp h).1
  have e : ixN xs.length (i : Int) = some i := by unfold ixN; rw [if_pos (by omega)]; simp [hi]
  unfold atI
  rw [e]
  exact h
/-- how many of them come ahead of b -/
def firstN (ms : List Int) (b : Int) : Nat := (ms.takeWhile fun m => decide (m < b)).length
theorem firstN_of : ∀ {ms : List Int} {b : Int} {n : Nat}, n ≤ ms.length → (∀ j x, j < n → ms[j]? = some x → x < b) → (∀ x, ms[n]? = some x → b ≤ x) → firstN ms b = n
  | [], b, n, h, _, _ => by
    have : n = 0 := by simpa using h
    rw [this]; rfl
  | m :: ms, b, 0, _, _, h2 => by
    have : b ≤ m := h2 m rfl
    unfold firstN
    rw [List.takeWhile_cons, if_neg (by simp; omega)]
    rfl
  | m :: ms, b, n + 1, h, h1, h2 => by
    have a : m < b := h1 0 m (by omega) rfl
    have ih := firstN_of (ms := ms) (b := b) (n := n) (by simpa using h) (fun j x hj hx => h1 (j + 1) x (by omega) hx) (fun x hx => h2 x hx)
    unfold firstN at ih ⊢
    rw [List.takeWhile_cons, if_pos (by simpa using a), List.length_cons, ih]
section
variable {P : Program} {w : World} {K : PySem.W.Frag} {mg : Str → Option Value} {base : Heap}
def sp__first_from (K : PySem.W.Frag) : Sp := fun vs H Q _ => ∃ (p : Addr) (ms : List Int) (b : Int), vs = [.ref p, .int b] ∧ (SqL K H p (ms.map V.int) ∨ SqT K H p (ms.map V.int)) ∧ ms.Pairwise (· < ·) ∧ ms.length ≤ 1000 ∧ Q (.int (firstN ms b)) H
theorem ok__first_from (T : Txt K mg) : FnOk P w K mg base CX0 1 T.a__first_from T.d__first_from ["moments", "begin"] (sp__first_from K) := by
  refine T.F__first_from.ok sc__first_from (fun vs H Q E h => ?_) (fun cdv A outer s H vs Q E hr h => ?_)
  · obtain ⟨p, ms, b, rfl, _⟩ := h; rfl
  · obtain ⟨p, ms, b, rfl, hp, so, few, q⟩ := h
    have at_ : ∀ {i j : Nat} {x y : Int}, i ≤ j → ms[i]? = some x → ms[j]? = some y → x ≤ y := by
      intro i j x y hij hx hy
      obtain ⟨i1, rfl⟩ := List.getElem?_eq_some_iff.mp hx
      obtain ⟨j1, rfl⟩ := List.getElem?_eq_some_iff.mp hy
      rcases Nat.lt_or_ge i j with z | z
      · exact Int.le_of_lt (List.pairwise_iff_getElem.mp so i j i1 j1 z)
      · have e : i = j := by omega
        subst e
        exact Int.le_refl _
    refine ⟨_, (pss_cons (ps_set (i := 2) sc__first_from.nd rfl (by first | exact Or.inl rfl | exact Or.inr rfl) pe_int)
        (pss_cons (ps_set (i := 3) sc__first_from.nd rfl (by first | exact Or.inl rfl | exact Or.inr rfl) (pe_callB call_len_seq (by rfl) T.z_len PySem.boot_len (pa_cons (pv 0) pa_nil)))
        (pss_cons (ps_while PassesOwn.never (pt_cmpR op_lt (pv 2) (pv 3) (nomark _)) (pss_cons (ps_set (i := 4) sc__first_from.nd rfl (by first | exact Or.inl rfl | exact Or.inr rfl) (pe_op op_fdiv (pe_op op_add (pv 2) (pv 3)) pe_int))
        (pss_one (ps_if (pt_cmpR op_lt (pe_ix (ix_list.or ix_tup) (pv 0) (pv 4) (fun _ _ => rfl)) (pv 1) (nomark _)) (pss_one (ps_set (i := 2) sc__first_from.nd rfl (by first | exact Or.inl rfl | exact Or.inr rfl) (pe_op op_add (pv 4) pe_int))) (pss_one (ps_set (i := 3) sc__first_from.nd rfl (by first | exact Or.inl rfl | exact Or.inr rfl) (pv 4)))))))
        (pss_one (ps_ret (pv 2)))))), ?_⟩
    refine ⟨_, rfl, p, _, rfl, hp, ?_⟩
    refine while_ex (fun σ H' => ∃ (l h : Nat) (x4 : Option V), σ = [some (.ref p), some (.int b), some (.int l), some (.int h), x4] ∧ H' = H ∧ l ≤ h ∧ h ≤ ms.length ∧ (∀ j x, j < l → ms[j]? = some x → x < b) ∧ (∀ j x, h ≤ j → ms[j]? = some x → b ≤ x))
      (fun (σ : L2.St) (_ : Hp) => match (σ[2]? : Option (Option V)), (σ[3]? : Option (Option V)) with | some (some (V.int l)), some (some (V.int h)) => (h - l).toNat | _, _ => 0)
      (fun σ H' => H' = H ∧ ∃ x3 x4 : Option V, σ = [some (.ref p), some (.int b), some (.int (firstN ms b : Nat)), x3, x4]) ⟨0, ms.length, none, (by rw [List.length_map]; rfl), rfl, Nat.zero_le _, Nat.le_refl _, (fun j x hj => absurd hj (Nat.not_lt_zero _)), (fun j x hj hx => absurd (List.getElem?_eq_some_iff.mp hx).1 (by omega))⟩ ?_ ?_
    · rintro σ H' ⟨l, h, x4, rfl, rfl, lh, hl, h1, h2⟩ R rt rf
      refine ⟨_, rfl, _, rfl, _, _, rfl, rfl, _, rfl, ?_⟩
      show R (decide ((l : Int) < h)) _
      by_cases c : (l : Int) < h
      · rw [decide_eq_true c]
        refine rt _ ?_
        have mid : ((l : Int) + h) / 2 = (((l + h) / 2 : Nat) : Int) := by omega
        have m1 : l ≤ (l + h) / 2 := by omega
        have m2 : (l + h) / 2 < h := by omega
        have m3 : (l + h) / 2 < ms.length := by omega
        have g := List.getElem?_eq_getElem m3
        generalize ms[(l + h) / 2] = y at g
        have ay : atI (ms.map V.int) (((l : Int) + h) / 2) = some (.int y) := by
          rw [mid]
          exact at_nat (by rw [List.getElem?_map, g]; rfl)
        refine ⟨_, rfl, _, rfl, _, _, rfl, rfl, _, _, rfl, rfl, ⟨by decide, by decide⟩, ?_⟩
        refine ⟨_, rfl, _, rfl, ?_⟩
        have fin : ∀ {R' : VK}, R' (.int y) H' → (rIxL K (.ref p) (.int (((l : Int) + h) / 2)) H' R' ∨ rIxT K (.ref p) (.int (((l : Int) + h) / 2)) H' R') := fun {R'} z => by
          rcases hp with g | g
          · exact .inl ⟨p, _, _, _, rfl, rfl, g, ay, z⟩
          · exact .inr ⟨p, _, _, _, rfl, rfl, g, ay, z⟩
        refine fin ?_
        refine ⟨_, rfl, _, _, rfl, rfl, _, rfl, ?_⟩
        refine ite2 (fun cy => ?_) (fun cy => ?_)
        · have cy : y < b := of_decide_eq_true (p := y < b) cy
          refine ⟨_, rfl, _, _, rfl, rfl, ?_⟩
          refine ⟨⟨(l + h) / 2 + 1, h, some (V.int (((l : Int) + h) / 2)), ?_, rfl, by omega, hl, fun j x hj hx => ?_, h2⟩, ?_⟩
          · show [some (V.ref p), some (V.int b), some (V.int (((l : Int) + h) / 2 + 1)), some (V.int h), some (V.int (((l : Int) + h) / 2))] = _
            rw [mid]; rfl
          · have := at_ (by omega) hx g
            omega
          · show ((h : Int) - (((l : Int) + h) / 2 + 1)).toNat < ((h : Int) - l).toNat
            omega
        · have cy : ¬ y < b := fun z => cy (decide_eq_true (p := y < b) z)
          refine ⟨_, rfl, ?_⟩
          refine ⟨⟨l, (l + h) / 2, some (V.int (((l : Int) + h) / 2)), ?_, rfl, m1, by omega, h1, fun j x hj hx => ?_⟩, ?_⟩
          · show [some (V.ref p), some (V.int b), some (V.int l), some (V.int (((l : Int) + h) / 2)), some (V.int (((l : Int) + h) / 2))] = _
            rw [mid]
          · have := at_ hj g hx
            omega
          · show ((((l : Int) + h) / 2) - (l : Int)).toNat < ((h : Int) - l).toNat
            omega
      · rw [decide_eq_false c]
        have e : l = h := by omega
        subst e
        refine rf _ ⟨rfl, some (.int l), x4, ?_⟩
        rw [firstN_of hl h1 (fun x hx => h2 l x (Nat.le_refl _) hx)]
    · rintro σ H' ⟨rfl, x3, x4, rfl⟩
      exact ⟨_, rfl, q⟩
end
end Toy
set_option Elab.async false
set_option linter.all false
set_option maxRecDepth 100000
set_option maxHeartbeats 2000000
namespace Toy
open PySem PySem.Spec PyProof.Rows L2
section
variable {P : Program} {w : World} {K : PySem.W.Frag} {mg : Str → Option Value} {base : Heap}
def sp__is_offer : Sp := fun vs H Q _ => ∃ (dd : Addr) (v : V), vs = [v] ∧ Thg2 dd H v ∧ Q (.bl (ofV offL H v)) H
theorem ok__is_offer (T : Txt K mg) : FnOk P w K mg base CX0 3 T.a__is_offer T.d__is_offer ["value"] sp__is_offer := by
  refine T.F__is_offer.ok sc__is_offer (fun vs H Q E h => ?_) (fun cdv A outer s H vs Q E hr h => ?_)
  · obtain ⟨dd, v, rfl, _⟩ := h; rfl
  · obtain ⟨dd, v, rfl, ⟨k, ht, hi⟩, q⟩ := h
    refine ⟨_, (pss_cons (ps_if (PW.pt (pw_or (pt_not (pt_val (pe_callB call_isi (by rfl) T.z_isinstance (by decide +kernel) (pa_cons (pv 0) (pa_cons (pe_bltn (v := .ty "tuple") (by rfl) T.z_tuple (by decide +kernel) rfl) pa_nil))))) (pw_or1 (pt_cmpR op_ne (pe_callB call_len_seq (by rfl) T.z_len PySem.boot_len (pa_cons (pv 0) pa_nil)) pe_int (nomark _))))) (pss_one (ps_ret pe_bl)) pss_nil)
        (pss_cons (ps_asg (pv 0) (pg_tup rfl (pgs_cons (pg_name (i := 1) sc__is_offer.nd rfl (by first | exact Or.inl rfl | exact Or.inr rfl)) (pgs_cons (pg_name (i := 2) sc__is_offer.nd rfl (by first | exact Or.inl rfl | exact Or.inr rfl)) pgs_nil))))
        (pss_one (ps_ret (pe_and (pe_call (ok_is_int T) (hr.mono (by decide)) (by rfl) T.g_is_int T.F_is_int.kp T.b_is_int .nil pass0 (pa_cons (pv 1) pa_nil)) (pe_and (pe_cmpR op_ge (pv 1) pe_int (nomark _)) (pe_one (pe_call (ok_is_within T) (hr.mono (by decide)) (by rfl) T.g_is_within T.F_is_within.kp T.b_is_within .nil pass0 (pa_cons (pv 2) (pa_cons pe_int (pa_cons (pe_glob (v := .int 1000000) (by rfl) T.c_MOST_COST ⟨_, rfl⟩) pa_nil))))))))))), ?_⟩
    refine ⟨_, rfl, v, _, _, _, _, rfl, .ty "tuple", ht.ty, ht.k_tup, _, rfl, ?_⟩
    cases e : tupS k with
    | false =>
      rw [ofV_no e ht] at q
      exact q
    | true =>
    obtain ⟨a, xs, rfl, ha⟩ := ht.is_tup e
    refine iteF ?_
    have hx := hi a xs rfl ha
    refine ⟨_, rfl, _, _, rfl, .inr (SqT.of ha), rfl, _, rfl, ?_⟩
    have dv : ofV offL H (.ref a) = offL xs := by unfold ofV; simp [ha]
    rw [dv] at q
    refine ite2 (fun c => ?_) (fun c => ?_)
    · have nl : ¬ xs.length = 2 := by
        intro z
        rw [dI] at c
        simp [z] at c
      have e0 : offL xs = false := by
        unfold offL
        split
        · exact absurd rfl nl
        · rfl
      rw [e0] at q
      exact q
    · have l2 : xs.length = 2 := by
        rw [dI] at c
        have c2 : decide ((xs.length : Int) = 2) = true := by
          cases h : decide ((xs.length : Int) = 2) with
          | true => rfl
          | false => exact absurd (show (!decide ((xs.length : Int) = 2)) = true by rw [h]; rfl) c
        have := of_decide_eq_true c2
        omega
      obtain ⟨x, y, rfl⟩ := two_of l2
      obtain ⟨k1, t1⟩ := hx x (by simp)
      obtain ⟨k2, t2⟩ := hx y (by simp)
      refine ⟨_, rfl, a, _, rfl, SqT.of ha, rfl, _, _, rfl, _, _, rfl, rfl, ?_⟩
      refine ⟨_, rfl, dd, x, k1, rfl, t1, _, rfl, ?_⟩
      refine ite2 (fun c1 => ?_) (fun c1 => ?_)
      · obtain ⟨m, rfl⟩ := isI_int c1
        refine ⟨_, rfl, m, 0, rfl, rfl, _, rfl, ?_⟩
        have q' : Q (.bl (decide (0 ≤ m) && inR y 1 1000000)) H := by
          have e : offL [.int m, y] = (decide (0 ≤ m) && inR y 1 1000000) := by cases y <;> first | rfl | (show false = _; exact (Bool.and_false _).symm)
          rw [← e]; exact q
        refine ite2 (fun c3 => ?_) (fun c3 => ?_)
        · have c3 : 0 ≤ m := of_decide_eq_true (p := m ≥ 0) c3
          rw [decide_eq_true c3, Bool.true_and] at q'
          exact ⟨_, rfl, dd, y, k2, 1, 1000000, rfl, t2, q'⟩
        · have c3 : ¬ 0 ≤ m := fun z => c3 (decide_eq_true (p := m ≥ 0) z)
          rw [decide_eq_false c3, Bool.false_and] at q'
          exact q'
      · have e : offL [x, y] = false := by
          cases x with
          | int m => exact absurd rfl c1
          | _ => rfl
        rw [e] at q
        exact q
/-- pairs of whole numbers, each a tuple of its own -/
def Prs (K : PySem.W.Frag) (H : Hp) : List V → List (Int × Int) → Prop
  | [], [] => True
  | x :: xs, p :: ps => (∃ t, x = .ref t ∧ SqT K H t [.int p.1, .int p.2]) ∧ Prs K H xs ps
  | _, _ => False
theorem prs_map {H H' : Hp} (s : Same H H') : ∀ {xs : List V} {ps : List (Int × Int)}, Prs K H xs ps → Prs K H' xs ps
  | [], [], _ => True.intro
  | _ :: _, _ :: _, ⟨⟨t, e, h⟩, r⟩ => ⟨⟨t, e, Vz.sqT_same s h⟩, prs_map s r⟩
theorem prs_mapF {H H' : Hp} (f : ∀ t l, SqT K H t l → SqT K H' t l) : ∀ {xs : List V} {ps : List (Int × Int)}, Prs K H xs ps → Prs K H' xs ps
  | [], [], _ => True.intro
  | _ :: _, _ :: _, ⟨⟨t, e, h⟩, r⟩ => ⟨⟨t, e, f _ _ h⟩, prs_mapF f r⟩
theorem sqT_lst {H H' : Hp} {R : Addr} {zs : List V} (hR : H R = some (.lst zs)) (k : ∀ b u, b ≠ R → H b = some u → H' b = some u) {a : Addr} {xs : List V} (h : SqT K H a xs) : SqT K H' a xs := by
  have ne : ∀ {o : HO}, H a = some o → o ≠ .lst zs → a ≠ R := fun q n z => by rw [z, hR] at q; cases q; exact n rfl
  rcases h with (h | ⟨o, h⟩) | h
  · exact .inl (.inl (k _ _ (ne h (by intro z; cases z)) h))
  · exact .inl (.inr ⟨o, k _ _ (ne h (by intro z; cases z)) h⟩)
  · exact .inr h
theorem prs_at {H : Hp} : ∀ {xs : List V} {ps : List (Int × Int)}, Prs K H xs ps → ∀ {i : Nat} {x : V}, xs[i]? = some x → ∃ p t, ps[i]? = some p ∧ x = .ref t ∧ SqT K H t [.int p.1, .int p.2]
  | _ :: _, p :: _, ⟨⟨t, e, h⟩, _⟩, 0, x, hx => by cases hx; exact ⟨p, t, rfl, e, h⟩
  | _ :: _, _ :: _, ⟨_, r⟩, i + 1, x, hx => prs_at r (i := i) (x := x) hx
  | [], [], _, i, x, hx => by cases hx
theorem prs_len {H : Hp} : ∀ {xs : List V} {ps : List (Int × Int)}, Prs K H xs ps → xs.length = ps.length
  | [], [], _ => rfl
  | _ :: _, _ :: _, ⟨_, r⟩ => by rw [List.length_cons, List.length_cons, prs_len r]
theorem prs_app {H : Hp} : ∀ {xs ys : List V} {ps qs : List (Int × Int)}, Prs K H xs ps → Prs K H ys qs → Prs K H (xs ++ ys) (ps ++ qs)
  | [], _, [], _, _, b => b
  | _ :: _, _, _ :: _, _, ⟨p, r⟩, b => ⟨p, prs_app r b⟩
/-- the spans: for each window the first offer from its begin, and from its end -/
def spanL (ws os : List (Int × Int)) : List (Int × Int) := ws.map fun p => ((firstN (os.map (·.1)) p.1 : Int), (firstN (os.map (·.1)) p.2 : Int))
def sp__spans (K : PySem.W.Frag) : Sp := fun vs H Q _ => ∃ (a o : Addr) (xs ys : List V) (ws os : List (Int × Int)), vs = [.ref a, .ref o] ∧ SqT K H a xs ∧ Prs K H xs ws ∧ SqT K H o ys ∧ Prs K H ys os ∧ (os.map (·.1)).Pairwise (· < ·) ∧ os.length ≤ 1000 ∧ ws.length ≤ 1000 ∧
  ∀ H' r zs, Same H H' → H' r = some (.lst zs) → Prs K H' zs (spanL ws os) → Q (.ref r) H'
theorem ok__spans (T : Txt K mg) : FnOk P w K mg base CX0 2 T.a__spans T.d__spans ["windows", "offers"] (sp__spans K) := by
  refine T.F__spans.ok sc__spans (fun vs H Q E h => ?_) (fun cdv A outer s H vs Q E hr h => ?_)
  · obtain ⟨a, o, xs, ys, ws, os, rfl, _⟩ := h; rfl
  · obtain ⟨a, o, xs, ys, ws, os, rfl, ha, pw, ho, po, so, lo, lw, q⟩ := h
    refine ⟨_, (pss_cons (ps_set (i := 2) sc__spans.nd rfl (by first | exact Or.inl rfl | exact Or.inr rfl) (pe_lc (own := [("moment", 3), ("_", 4)]) (g := gTup K 2 (gCons (gName 3) (gCons (gName 4) gNil))) (by rfl) sc__spans.nd (pi_tup (pv 1)) (blkOk_by (own := [("moment", 3), ("_", 4)]) (N := ["windows", "offers", "moments", "moment", "_", "begin", "end"]) (sc := defScope s__spans) (by decide +kernel)) (fun _ _ _ _ _ => pg_tup rfl (pgs_cons (pg_name (i := 3) sc__spans.nd rfl (Or.inl rfl)) (pgs_cons (pg_name (i := 4) sc__spans.nd rfl (Or.inl rfl)) pgs_nil))) (fun _ _ _ _ _ => pts_nil) (fun _ _ _ _ _ => (pv 3))))
        (pss_one (ps_ret (pe_lc (own := [("begin", 5), ("end", 6)]) (g := gTup K 2 (gCons (gName 5) (gCons (gName 6) gNil))) (by rfl) sc__spans.nd (pi_tup (pv 0)) (blkOk_by (own := [("begin", 5), ("end", 6)]) (N := ["windows", "offers", "moments", "moment", "_", "begin", "end"]) (sc := defScope s__spans) (by decide +kernel)) (fun _ _ _ _ _ => pg_tup rfl (pgs_cons (pg_name (i := 5) sc__spans.nd rfl (Or.inl rfl)) (pgs_cons (pg_name (i := 6) sc__spans.nd rfl (Or.inl rfl)) pgs_nil))) (fun _ _ _ _ _ => pts_nil) (fun _ _ _ _ _ => (pe_tup (pa_cons (pe_call (ok__first_from T) (hr.mono (by decide)) (by rfl) T.g__first_from T.F__first_from.kp T.b__first_from .nil pass0 (pa_cons (pv 2) (pa_cons (pv 5) pa_nil))) (pa_cons (pe_call (ok__first_from T) (hr.mono (by decide)) (by rfl) T.g__first_from T.F__first_from.kp T.b__first_from .nil pass0 (pa_cons (pv 2) (pa_cons (pv 6) pa_nil))) pa_nil)))))))), ?_⟩
    refine ⟨_, rfl, o, rfl, ⟨_, ho⟩, fun D nD => ?_⟩
    refine lc_it (walk_tup (K := K) (a := o) (xs := ys)) (fun i H' => H' = upd H D (.lst (((os.map (·.1)).take i).map V.int))) rfl ?_ ?_ ?_
    · rintro i H' _ rfl
      exact Vz.sqT_same (same_new nD) ho
    · rintro i x H1 H2 hi rfl ⟨rfl, hx⟩
      obtain ⟨p, t, hp, rfl, ht⟩ := prs_at po hx
      have ht2 := Vz.sqT_same (same_new (o := .lst (((os.map (·.1)).take i).map V.int)) nD) ht
      refine ⟨t, _, rfl, ht2, rfl, _, _, rfl, _, _, rfl, rfl, rfl, ?_⟩
      refine ⟨_, rfl, _, upd_same, ?_, ?_⟩
      · rw [List.length_map, List.length_take, List.length_map, sizeLine_eq]; omega
      · rw [upd_upd, List.take_add_one, List.getElem?_map, hp, List.map_append]; rfl
    · rintro H1 rfl
      have ly := prs_len po
      have tk : (os.map (·.1)).take ys.length = os.map (·.1) := List.take_of_length_le (by rw [List.length_map]; omega)
      rw [tk]
      have s1 := same_new (o := .lst ((os.map (·.1)).map V.int)) nD
      have h1 := upd_same (H := H) (a := D) (o := .lst ((os.map (·.1)).map V.int))
      generalize upd H D (.lst ((os.map (·.1)).map V.int)) = H1 at *
      refine ⟨_, rfl, a, rfl, ⟨_, Vz.sqT_same s1 ha⟩, fun R nR => ?_⟩
      refine lc_it (walk_tup (K := K) (a := a) (xs := xs)) (fun i H' => ∃ zs, H' R = some (.lst zs) ∧ zs.length = i ∧ (∀ b u, b ≠ R → H1 b = some u → H' b = some u) ∧ Prs K H' zs ((spanL ws os).take i)) ⟨[], upd_same, rfl, (fun b u n e => by rw [upd_ne n]; exact e), True.intro⟩ ?_ ?_ ?_
      · rintro i H2 _ ⟨zs, hR, lz, kp, pz⟩
        have sS : Same H1 H2 := fun b u e => kp b u (fun z => by rw [z, nR] at e; cases e) e
        exact Vz.sqT_same (s1.trans sS) ha
      · rintro i x H2 H3 hi ⟨zs, hR, lz, kp, pz⟩ ⟨rfl, hx⟩
        have sS : Same H1 H3 := fun b u e => kp b u (fun z => by rw [z, nR] at e; cases e) e
        obtain ⟨p, t, hp, rfl, ht⟩ := prs_at pw hx
        refine ⟨t, _, rfl, Vz.sqT_same (s1.trans sS) ht, rfl, _, _, rfl, _, _, rfl, rfl, rfl, ?_⟩
        refine ⟨_, rfl, _, rfl, D, os.map (·.1), p.1, rfl, .inl (SqL.of (sS _ _ h1)), so, (by rw [List.length_map]; exact lo), ?_⟩
        refine ⟨_, rfl, _, rfl, D, os.map (·.1), p.2, rfl, .inl (SqL.of (sS _ _ h1)), so, (by rw [List.length_map]; exact lo), ?_⟩
        refine ⟨(by show 2 ≤ sizeLine; decide), fun t2 n2 => ?_⟩
        have s4 := same_new (o := .tup [.int (firstN (os.map (·.1)) p.1 : Int), .int (firstN (os.map (·.1)) p.2 : Int)]) n2
        have g2 := upd_same (H := H3) (a := t2) (o := .tup [.int (firstN (os.map (·.1)) p.1 : Int), .int (firstN (os.map (·.1)) p.2 : Int)])
        have l1 := prs_len pw
        refine ⟨zs, s4 _ _ hR, (by rw [lz, sizeLine_eq]; omega), zs ++ [.ref t2], upd_same, by rw [List.length_append, lz]; rfl, fun b u n e => ?_, ?_⟩
        · rw [upd_ne n]; exact s4 _ _ (kp b u n e)
        · have hsp : (spanL ws os)[i]? = some ((firstN (os.map (·.1)) p.1 : Int), (firstN (os.map (·.1)) p.2 : Int)) := by unfold spanL; rw [List.getElem?_map, hp]; rfl
          rw [List.take_add_one, hsp]
          have f5 : ∀ t l, SqT K (upd H3 t2 (.tup [.int (firstN (os.map (·.1)) p.1 : Int), .int (firstN (os.map (·.1)) p.2 : Int)])) t l → SqT K (upd (upd H3 t2 (.tup [.int (firstN (os.map (·.1)) p.1 : Int), .int (firstN (os.map (·.1)) p.2 : Int)])) R (.lst (zs ++ [.ref t2]))) t l :=
            fun t l h => sqT_lst (s4 _ _ hR) (fun b u n e => by rw [upd_ne n]; exact e) h
          exact prs_app (prs_mapF f5 (prs_map s4 pz)) ⟨⟨t2, rfl, f5 _ _ (SqT.of g2)⟩, True.intro⟩
      · rintro H2 ⟨zs, hR, lz, kp, pz⟩
        have sS : Same H1 H2 := fun b u e => kp b u (fun z => by rw [z, nR] at e; cases e) e
        have l1 := prs_len pw
        have tk2 : (spanL ws os).take xs.length = spanL ws os := List.take_of_length_le (by unfold spanL; rw [List.length_map]; omega)
        rw [tk2] at pz
        exact q H2 R zs (s1.trans sS) hR pz
end
end Toy
set_option Elab.async false
set_option linter.all false
set_option maxRecDepth 100000
set_option maxHeartbeats 2000000
namespace Toy
open PySem PySem.Spec PyProof.Rows L2
theorem ofV_same {f : List V → Bool} {dd : Addr} {H H' : Hp} {v : V} {k : String} (h : Thg dd H v k) (s : Same H H') : ofV f H' v = ofV f H v := by
  cases h with
  | tup e => unfold ofV; simp [e, s _ _ e]
  | lst e => unfold ofV; simp [e, s _ _ e]
  | dic e _ => unfold ofV; simp [e, s _ _ e]
  | _ => rfl
/-- the first that is not as f wants -/
def badAt (f : V → Bool) : List V → Nat → Option Nat
  | [], _ => none
  | x :: xs, i => if f x = true then badAt f xs (i + 1) else some i
def momL : List V → Int
  | [.int m, _] => m
  | _ => 0
def momV (H : Hp) (v : V) : Int := match v with
  | .ref a => match H a with
    | some (.tup xs) => momL xs
    | _ => 0
  | _ => 0
/-- the first offer that is none or doesn't come behind the one before -/
def chkO (H : Hp) : List V → Int → Nat → Option Nat
  | [], _, _ => none
  | x :: xs, last, i => if ofV offL H x = true ∧ last < momV H x then chkO H xs (momV H x) (i + 1) else some i
theorem off_two {H : Hp} {v : V} (h : ofV offL H v = true) : ∃ a m c, v = .ref a ∧ H a = some (.tup [.int m, .int c]) ∧ 0 ≤ m ∧ momV H v = m := by
  unfold ofV at h
  split at h
  · rename_i a
    split at h
    · rename_i xs ha
      unfold offL at h
      split at h
      · rename_i m c
        refine ⟨a, m, c, rfl, ha, of_decide_eq_true (Bool.and_eq_true_iff.mp h).1, ?_⟩
        unfold momV
        simp [ha, momL]
      · cases h
    · cases h
  · cases h
theorem Thg2.same {dd : Addr} {H H' : Hp} {v : V} (h : Thg2 dd H v) (s : Same H H') : Thg2 dd H' v := by
  obtain ⟨k, ht, hi⟩ := h
  refine ⟨k, ht.same s, fun a xs e h x hx => ?_⟩
  subst e
  cases ht with
  | lst q => rw [s _ _ q] at h; cases h
  | tup q =>
    rw [s _ _ q] at h
    cases h
    obtain ⟨k', t'⟩ := hi a _ rfl q x hx
    exact ⟨k', t'.same s⟩
  | dic q _ => rw [s _ _ q] at h; cases h
section
variable {P : Program} {w : World} {K : PySem.W.Frag} {mg : Str → Option Value} {base : Heap}
def sp__check (CW CO : Addr) : Sp := fun vs H Q E => ∃ (dd : Addr) (u o : V) (ku ko : String), vs = [u, o] ∧ Thg dd H u ku ∧ Thg dd H o ko ∧
  (∀ a xs, u = .ref a → H a = some (.tup xs) → ∀ x ∈ xs, Thg2 dd H x) ∧ (∀ a xs, o = .ref a → H a = some (.tup xs) → ∀ x ∈ xs, Thg2 dd H x) ∧
  (tupS ku = false → ∀ H' dx, Same H H' → H' dx = none → E (.ref CW) (some dx) (upd H' dx (.xd [("number", .non)]))) ∧
  (∀ a xs, u = .ref a → H a = some (.tup xs) →
    (∀ n, badAt (ofV winL H) xs 0 = some n → ∀ H' dx, Same H H' → H' dx = none → E (.ref CW) (some dx) (upd H' dx (.xd [("number", .int n)]))) ∧
    (badAt (ofV winL H) xs 0 = none →
      (tupS ko = false → ∀ H' dx, Same H H' → H' dx = none → E (.ref CO) (some dx) (upd H' dx (.xd [("number", .non)]))) ∧
      (∀ b ys, o = .ref b → H b = some (.tup ys) →
        (∀ n, chkO H ys (-1) 0 = some n → ∀ H' dx, Same H H' → H' dx = none → E (.ref CO) (some dx) (upd H' dx (.xd [("number", .int n)]))) ∧
        (chkO H ys (-1) 0 = none → ∀ H', Same H H' → Q .non H'))))
theorem ok__check (T : Txt K mg) : FnOk P w K mg base (L2.CX P w) 4 T.a__check T.d__check ["windows", "offers"] (sp__check T.C_BadWindow T.C_BadOffer) := by
  refine T.F__check.okX sc__check (fun vs H Q E h => ?_) (fun cdv A outer s H vs Q E hr h => ?_)
  · obtain ⟨dd, u, o, ku, ko, rfl, _⟩ := h; rfl
  · obtain ⟨dd, u, o, ku, ko, rfl, tu, to, iu, io, q1, q2⟩ := h
    refine ⟨_, (pss_cons (ps_if (pt_not (pt_val (pe_callB call_isi (by rfl) T.z_isinstance (by decide +kernel) (pa_cons (pv 0) (pa_cons (pe_bltn (v := .ty "tuple") (by rfl) T.z_tuple (by decide +kernel) rfl) pa_nil))))) (pss_one (ps_raise rfl (takes_of (E := E) rfl rfl rfl rfl) (pmk_oex T.o_BadWindow T.iC_BadWindow T.tI_BadWindow (ok_init_BadWindow T) (hr.mono (by decide)) T.bI_BadWindow .nil pass0 (by rfl) T.g_BadWindow (by exact (pa_cons pe_non pa_nil))))) pss_nil)
        (pss_cons (ps_for (passes_of rfl) rfl (Vz.pi_enT (by rfl) T.z_enumerate (pa_cons (pv 0) pa_nil)) (pg_tup rfl (pgs_cons (pg_name (i := 2) sc__check.nd rfl (by first | exact Or.inl rfl | exact Or.inr rfl)) (pgs_cons (pg_name (i := 3) sc__check.nd rfl (by first | exact Or.inl rfl | exact Or.inr rfl)) pgs_nil))) (pss_one (ps_if (pt_not (pt_val (pe_call (ok__is_window T) (hr.mono (by decide)) (by rfl) T.g__is_window T.F__is_window.kp T.b__is_window .nil pass0 (pa_cons (pv 3) pa_nil)))) (pss_one (ps_raise rfl (takes_of (E := E) rfl rfl rfl rfl) (pmk_oex T.o_BadWindow T.iC_BadWindow T.tI_BadWindow (ok_init_BadWindow T) (hr.mono (by decide)) T.bI_BadWindow .nil pass0 (by rfl) T.g_BadWindow (by exact (pa_cons (pv 2) pa_nil))))) pss_nil)))
        (pss_cons (ps_if (pt_not (pt_val (pe_callB call_isi (by rfl) T.z_isinstance (by decide +kernel) (pa_cons (pv 1) (pa_cons (pe_bltn (v := .ty "tuple") (by rfl) T.z_tuple (by decide +kernel) rfl) pa_nil))))) (pss_one (ps_raise rfl (takes_of (E := E) rfl rfl rfl rfl) (pmk_oex T.o_BadOffer T.iC_BadOffer T.tI_BadOffer (ok_init_BadOffer T) (hr.mono (by decide)) T.bI_BadOffer .nil pass0 (by rfl) T.g_BadOffer (by exact (pa_cons pe_non pa_nil))))) pss_nil)
        (pss_cons (ps_set (i := 4) sc__check.nd rfl (by first | exact Or.inl rfl | exact Or.inr rfl) (pe_un un_neg pe_int))
        (pss_one (ps_for (passes_of rfl) rfl (Vz.pi_enT (by rfl) T.z_enumerate (pa_cons (pv 1) pa_nil)) (pg_tup rfl (pgs_cons (pg_name (i := 2) sc__check.nd rfl (by first | exact Or.inl rfl | exact Or.inr rfl)) (pgs_cons (pg_name (i := 5) sc__check.nd rfl (by first | exact Or.inl rfl | exact Or.inr rfl)) pgs_nil))) (pss_cons (ps_if (PW.pt (pw_or (pt_not (pt_val (pe_call (ok__is_offer T) (hr.mono (by decide)) (by rfl) T.g__is_offer T.F__is_offer.kp T.b__is_offer .nil pass0 (pa_cons (pv 5) pa_nil)))) (pw_or1 (pt_cmpR op_le (pe_ix ix_tup (pv 5) pe_int (fun _ _ => rfl)) (pv 4) (nomark _))))) (pss_one (ps_raise rfl (takes_of (E := E) rfl rfl rfl rfl) (pmk_oex T.o_BadOffer T.iC_BadOffer T.tI_BadOffer (ok_init_BadOffer T) (hr.mono (by decide)) T.bI_BadOffer .nil pass0 (by rfl) T.g_BadOffer (by exact (pa_cons (pv 2) pa_nil))))) pss_nil)
        (pss_one (ps_set (i := 4) sc__check.nd rfl (by first | exact Or.inl rfl | exact Or.inr rfl) (pe_ix ix_tup (pv 5) pe_int (fun _ _ => rfl))))))))))), ?_⟩
    refine ⟨_, rfl, u, _, _, _, _, rfl, .ty "tuple", tu.ty, tu.k_tup, _, rfl, ?_⟩
    cases e : tupS ku with
    | false =>
      refine iteT ?_
      exact Vz.made_end fun dx nd => q1 e H dx (Same.refl H) nd
    | true =>
    obtain ⟨a, xs, rfl, ha⟩ := tu.is_tup e
    obtain ⟨q3, q4⟩ := q2 a xs rfl ha
    refine iteF ?_
    refine ⟨_, rfl, a, xs, rfl, SqT.of ha, ?_⟩
    refine for_it (Vz.walk_en (K := K) (k0 := 0) (a := a) (xs := xs)) (fun i σ H' => ∃ x2 x3 x4 x5 : Option V, σ = [some (.ref a), some o, x2, x3, x4, x5] ∧ Same H H' ∧ badAt (ofV winL H) xs 0 = badAt (ofV winL H) (xs.drop i) i) ⟨none, none, none, none, rfl, Same.refl H, rfl⟩ ?_ ?_ ?_
    · rintro i σ H' _ ⟨_, _, _, _, rfl, s1, _⟩; exact SqT.of (s1 _ _ ha)
    · rintro i x σ H1 H2 hi ⟨x2, x3, x4, x5, rfl, s1, hb⟩ ⟨t, k, y, rfl, nt, rfl, ek, ey⟩
      cases ek
      have ey : xs[i]? = some y := ey
      have s2 := s1.trans (same_new (o := .tup [.int (0 + (i : Nat)), y]) nt)
      have t2y := iu a xs rfl ha y (List.mem_of_getElem? ey)
      obtain ⟨ky, ty, _⟩ := id t2y
      have ed : xs.drop i = y :: xs.drop (i + 1) := by rw [List.drop_eq_getElem_cons hi]; congr 1; exact (List.getElem?_eq_some_iff.mp ey).2
      rw [ed] at hb
      have e0 : (0 + (i : Int)) = i := by omega
      refine ⟨t, _, rfl, SqT.of upd_same, rfl, _, _, rfl, _, _, rfl, rfl, ?_⟩
      refine ⟨_, rfl, dd, y, rfl, t2y.same s2, ?_⟩
      rw [ofV_same ty s2]
      refine ⟨_, rfl, ?_⟩
      cases c : ofV winL H y with
      | false =>
        refine iteT ?_
        have hb2 : badAt (ofV winL H) xs 0 = some i := by rw [hb]; unfold badAt; rw [c]; rfl
        refine ⟨_, rfl, Vz.made_end fun dx nd => ?_⟩
        have fin := q3 i hb2 _ dx s2 nd
        have any : ∀ v, v = V.int (i : Int) → E (.ref T.C_BadWindow) (some dx) (upd (upd H1 t (.tup [.int (0 + (i : Nat)), y])) dx (.xd [("number", v)])) := fun v hv => by rw [hv]; exact fin
        exact any _ (by rw [e0])
      | true =>
        refine iteF ?_
        have hb2 : badAt (ofV winL H) xs 0 = badAt (ofV winL H) (xs.drop (i + 1)) (i + 1) := by rw [hb]; show (if ofV winL H y = true then _ else _) = _; rw [if_pos c]
        exact ⟨_, _, _, _, rfl, s2, hb2⟩
    · rintro σ H2 ⟨x2, x3, x4, x5, rfl, s2, hb⟩
      rw [List.drop_length] at hb
      obtain ⟨q5, q6⟩ := q4 hb
      have to2 := to.same s2
      refine ⟨_, rfl, o, _, _, _, _, rfl, .ty "tuple", to2.ty, to2.k_tup, _, rfl, ?_⟩
      cases e2 : tupS ko with
      | false =>
        refine iteT ?_
        exact Vz.made_end fun dx nd => q5 e2 H2 dx s2 nd
      | true =>
      obtain ⟨b, ys, rfl, hb0⟩ := to.is_tup e2
      obtain ⟨q7, q8⟩ := q6 b ys rfl hb0
      refine iteF ?_
      refine ⟨1, rfl, ?_⟩
      have hb2 := s2 _ _ hb0
      refine ⟨_, rfl, b, ys, rfl, SqT.of hb2, ?_⟩
      refine for_it (Vz.walk_en (K := K) (k0 := 0) (a := b) (xs := ys)) (fun i σ H' => ∃ (x2 x3 x5 : Option V) (last : Int), σ = [some (.ref a), some (.ref b), x2, x3, some (.int last), x5] ∧ Same H H' ∧ chkO H ys (-1) 0 = chkO H (ys.drop i) last i) ⟨x2, x3, x5, -1, rfl, s2, rfl⟩ ?_ ?_ ?_
      · rintro i σ H' _ ⟨_, _, _, _, rfl, s3, _⟩; exact SqT.of (s3 _ _ hb0)
      · rintro i x σ H3 H4 hi ⟨x2, x3, x5, last, rfl, s3, hc⟩ ⟨t, k, y, rfl, nt, rfl, ek, ey⟩
        cases ek
        have ey : ys[i]? = some y := ey
        have s4 := s3.trans (same_new (o := .tup [.int (0 + (i : Nat)), y]) nt)
        have t2y := io b ys rfl hb0 y (List.mem_of_getElem? ey)
        obtain ⟨ky, ty, _⟩ := id t2y
        have ed : ys.drop i = y :: ys.drop (i + 1) := by rw [List.drop_eq_getElem_cons hi]; congr 1; exact (List.getElem?_eq_some_iff.mp ey).2
        rw [ed] at hc
        have hc : chkO H ys (-1) 0 = (if ofV offL H y = true ∧ last < momV H y then chkO H (ys.drop (i + 1)) (momV H y) (i + 1) else some i) := hc
        have e0 : (0 + (i : Int)) = i := by omega
        have bad : chkO H ys (-1) 0 = some i → ∀ dx, (upd H3 t (.tup [.int (0 + (i : Nat)), y])) dx = none → E (.ref T.C_BadOffer) (some dx) (upd (upd H3 t (.tup [.int (0 + (i : Nat)), y])) dx (.xd [("number", V.int (0 + (i : Int)))])) := fun hz dx nd => by
          have fin := q7 i hz _ dx s4 nd
          have any : ∀ v, v = V.int (i : Int) → E (.ref T.C_BadOffer) (some dx) (upd (upd H3 t (.tup [.int (0 + (i : Nat)), y])) dx (.xd [("number", v)])) := fun v hv => by rw [hv]; exact fin
          exact any _ (by rw [e0])
        refine ⟨t, _, rfl, SqT.of upd_same, rfl, _, _, rfl, _, _, rfl, rfl, ?_⟩
        refine ⟨_, rfl, dd, y, rfl, t2y.same s4, ?_⟩
        rw [ofV_same ty s4]
        refine ⟨_, rfl, ?_⟩
        cases c : ofV offL H y with
        | false =>
          refine iteT ?_
          rw [if_neg (fun z => by rw [c] at z; cases z.1)] at hc
          exact ⟨_, rfl, Vz.made_end fun dx nd => bad hc dx nd⟩
        | true =>
          refine iteF ?_
          obtain ⟨p, m, co, rfl, hp, m0, em⟩ := off_two c
          have hp4 := s4 _ _ hp
          refine ⟨_, rfl, p, _, 0, _, rfl, rfl, SqT.of hp4, rfl, _, rfl, m, last, rfl, rfl, _, rfl, ?_⟩
          rw [em] at hc
          refine ite2 (fun cz => ?_) (fun cz => ?_)
          · have cz : m ≤ last := of_decide_eq_true (p := m ≤ last) cz
            rw [if_neg (fun z => by have := z.2; omega)] at hc
            exact ⟨_, rfl, Vz.made_end fun dx nd => bad hc dx nd⟩
          · have cz : ¬ m ≤ last := fun z => cz (decide_eq_true (p := m ≤ last) z)
            rw [if_pos ⟨c, by omega⟩] at hc
            refine ⟨_, rfl, p, _, 0, _, rfl, rfl, SqT.of hp4, rfl, ?_⟩
            exact ⟨_, _, _, m, rfl, s4, hc⟩
      · rintro σ H3 ⟨x2, x3, x5, last, rfl, s3, hc⟩
        rw [List.drop_length] at hc
        exact q8 hc H3 s3
end
end Toy
set_option Elab.async false
set_option linter.all false
set_option maxRecDepth 100000
set_option maxHeartbeats 2000000
namespace Toy
open PySem PySem.Spec PyProof.Rows L2
/-- the windows that hold no offer -/
def lostFrom : List (Int × Int) → Nat → List Int
  | [], _ => []
  | p :: ps, i => if p.1 = p.2 then (i : Int) :: lostFrom ps (i + 1) else lostFrom ps (i + 1)
theorem lostFrom_app : ∀ (l : List (Int × Int)) (p : Int × Int) (i : Nat), lostFrom (l ++ [p]) i = lostFrom l i ++ (if p.1 = p.2 then [((i + l.length : Nat) : Int)] else [])
  | [], p, i => by
    show (if p.1 = p.2 then (i : Int) :: [] else []) = _
    simp [lostFrom]
  | q :: l, p, i => by
    have ih := lostFrom_app l p (i + 1)
    show (if q.1 = q.2 then (i : Int) :: lostFrom (l ++ [p]) (i + 1) else lostFrom (l ++ [p]) (i + 1)) = (if q.1 = q.2 then (i : Int) :: lostFrom l (i + 1) else lostFrom l (i + 1)) ++ _
    rw [ih, List.length_cons]
    have e : ((i + 1 + l.length : Nat) : Int) = ((i + (l.length + 1) : Nat) : Int) := by omega
    rw [e]
    split <;> rfl
theorem lostFrom_len : ∀ (l : List (Int × Int)) (i : Nat), (lostFrom l i).length ≤ l.length
  | [], _ => Nat.zero_le _
  | p :: l, i => by
    have := lostFrom_len l (i + 1)
    unfold lostFrom
    split
    · rw [List.length_cons, List.length_cons]; omega
    · rw [List.length_cons]; omega
theorem win_two {H : Hp} {v : V} (h : ofV winL H v = true) : ∃ a b e, v = .ref a ∧ H a = some (.tup [.int b, .int e]) ∧ 0 ≤ b ∧ b ≤ e := by
  unfold ofV at h
  split at h
  · rename_i a
    split at h
    · rename_i xs ha
      unfold winL at h
      split at h
      · rename_i b e
        obtain ⟨h1, h2⟩ := Bool.and_eq_true_iff.mp h
        exact ⟨a, b, e, rfl, ha, of_decide_eq_true h1, of_decide_eq_true h2⟩
      · cases h
    · cases h
  · cases h
theorem wins_of {K : PySem.W.Frag} {H : Hp} : ∀ {xs : List V} {i : Nat}, badAt (ofV winL H) xs i = none → ∃ ws, Prs K H xs ws ∧ ∀ p ∈ ws, 0 ≤ p.1 ∧ p.1 ≤ p.2
  | [], _, _ => ⟨[], True.intro, fun p h => nomatch h⟩
  | x :: xs, i, h => by
    unfold badAt at h
    split at h
    · rename_i c
      obtain ⟨a, b, e, rfl, ha, h1, h2⟩ := win_two c
      obtain ⟨ws, pw, hw⟩ := wins_of h
      refine ⟨(b, e) :: ws, ⟨⟨a, rfl, SqT.of ha⟩, pw⟩, fun p hp => ?_⟩
      rcases List.mem_cons.mp hp with z | z
      · rw [z]; exact ⟨h1, h2⟩
      · exact hw p z
    · cases h
theorem off_pos {H : Hp} {a : Addr} {m c : Int} (h : ofV offL H (.ref a) = true) (e : H a = some (.tup [.int m, .int c])) : 0 < c := by
  unfold ofV at h
  simp only [e] at h
  have h : (decide (0 ≤ m) && inR (.int c) 1 1000000) = true := h
  have z := (Bool.and_eq_true_iff.mp h).2
  have z : (decide (1 ≤ c) && decide (c ≤ 1000000)) = true := z
  have := of_decide_eq_true (Bool.and_eq_true_iff.mp z).1
  omega
theorem offs_of {K : PySem.W.Frag} {H : Hp} : ∀ {xs : List V} {i : Nat} {last : Int}, chkO H xs last i = none → ∃ os, Prs K H xs os ∧ (os.map (·.1)).Pairwise (· < ·) ∧ (∀ m ∈ os.map (·.1), last < m) ∧ ∀ p ∈ os, 0 < p.2
  | [], _, _, _ => ⟨[], True.intro, List.Pairwise.nil, (fun p h => nomatch h), (fun p h => nomatch h)⟩
  | x :: xs, i, last, h => by
    unfold chkO at h
    split at h
    · rename_i c
      obtain ⟨a, m, co, rfl, ha, m0, em⟩ := off_two c.1
      have lm := c.2
      rw [em] at h lm
      obtain ⟨os, po, so, ho, hp⟩ := offs_of h
      refine ⟨(m, co) :: os, ⟨⟨a, rfl, SqT.of ha⟩, po⟩, ?_, fun p hp => ?_, fun p h => ?_⟩
      · rw [List.map_cons]
        exact List.pairwise_cons.mpr ⟨fun b hb => ho b hb, so⟩
      · rw [List.map_cons] at hp
        rcases List.mem_cons.mp hp with z | z
        · rw [z]; exact lm
        · have := ho p z; omega
      · rcases List.mem_cons.mp h with z | z
        · rw [z]; exact off_pos c.1 ha
        · exact hp p z
    · cases h
section
variable {P : Program} {w : World} {K : PySem.W.Frag} {mg : Str → Option Value} {base : Heap}
/-- what a def does that checks its two first arguments: good tells what it does with right ones -/
def sp_chk (CW CO : Addr) (good : Hp → List V → List V → Prop) (H : Hp) (u o : V) (E : XK) : Prop := ∃ (dd : Addr) (ku ko : String), Thg dd H u ku ∧ Thg dd H o ko ∧
  (∀ a xs, u = .ref a → H a = some (.tup xs) → ∀ x ∈ xs, Thg2 dd H x) ∧ (∀ a xs, o = .ref a → H a = some (.tup xs) → ∀ x ∈ xs, Thg2 dd H x) ∧
  (tupS ku = false → ∀ H' dx, Same H H' → H' dx = none → E (.ref CW) (some dx) (upd H' dx (.xd [("number", .non)]))) ∧
  (∀ a xs, u = .ref a → H a = some (.tup xs) →
    (∀ n, badAt (ofV winL H) xs 0 = some n → ∀ H' dx, Same H H' → H' dx = none → E (.ref CW) (some dx) (upd H' dx (.xd [("number", .int n)]))) ∧
    (badAt (ofV winL H) xs 0 = none →
      (tupS ko = false → ∀ H' dx, Same H H' → H' dx = none → E (.ref CO) (some dx) (upd H' dx (.xd [("number", .non)]))) ∧
      (∀ b ys, o = .ref b → H b = some (.tup ys) →
        (∀ n, chkO H ys (-1) 0 = some n → ∀ H' dx, Same H H' → H' dx = none → E (.ref CO) (some dx) (upd H' dx (.xd [("number", .int n)]))) ∧
        (chkO H ys (-1) 0 = none → good H xs ys))))
theorem chk_use {CW CO : Addr} {good : Hp → List V → List V → Prop} {H : Hp} {u o : V} {E : XK} {Q : VK} (h : sp_chk CW CO good H u o E)
    (q : ∀ a b xs ys, u = .ref a → o = .ref b → H a = some (.tup xs) → H b = some (.tup ys) → badAt (ofV winL H) xs 0 = none → chkO H ys (-1) 0 = none → good H xs ys → ∀ H', Same H H' → Q .non H') : sp__check CW CO [u, o] H Q E := by
  obtain ⟨dd, ku, ko, tu, to, iu, io, q1, q2⟩ := h
  exact ⟨dd, u, o, ku, ko, rfl, tu, to, iu, io, q1, fun a xs eu ha => ⟨(q2 a xs eu ha).1, fun hb => ⟨((q2 a xs eu ha).2 hb).1, fun b ys eo hy => ⟨(((q2 a xs eu ha).2 hb).2 b ys eo hy).1, fun hc => q a b xs ys eu eo ha hy hb hc ((((q2 a xs eu ha).2 hb).2 b ys eo hy).2 hc)⟩⟩⟩⟩
def sp_lost (K : PySem.W.Frag) (CW CO : Addr) : Sp := fun vs H Q E => ∃ u o, vs = [u, o] ∧ sp_chk CW CO (fun H xs ys => xs.length ≤ 1000 ∧ ys.length ≤ 1000 ∧ ∃ ws os, Prs K H xs ws ∧ Prs K H ys os ∧ (os.map (·.1)).Pairwise (· < ·) ∧ ∀ H' r, Same H H' → H' r = some (.tup ((lostFrom (spanL ws os) 0).map V.int)) → Q (.ref r) H') H u o E
theorem ok_lost (T : Txt K mg) : FnOk P w K mg base (L2.CX P w) 5 T.a_lost T.d_lost ["windows", "offers"] (sp_lost K T.C_BadWindow T.C_BadOffer) := by
  refine T.F_lost.okX sc_lost (fun vs H Q E h => ?_) (fun cdv A outer s H vs Q E hr h => ?_)
  · obtain ⟨u, o, rfl, _⟩ := h; rfl
  · obtain ⟨u, o, rfl, hc⟩ := h
    refine ⟨_, (pss_cons (ps_expr (pe_call (ok__check T) (hr.mono (by decide)) (by rfl) T.g__check T.F__check.kp T.b__check .nil (passes_call (takes_of (E := E) rfl rfl rfl rfl) (fun _ _ _ _ h => h)) (pa_cons (pv 0) (pa_cons (pv 1) pa_nil))))
        (pss_one (ps_ret (pe_tupleOf (by rfl) T.z_tuple (pe_lc (own := [("number", 2), ("first", 3), ("behind", 4)]) (g := gTup K 2 (gCons (gName 2) (gCons (gTup K 2 (gCons (gName 3) (gCons (gName 4) gNil))) gNil))) (by rfl) sc_lost.nd (pi_enum (by rfl) T.z_enumerate (pa_cons (pe_call (ok__spans T) (hr.mono (by decide)) (by rfl) T.g__spans T.F__spans.kp T.b__spans .nil pass0 (pa_cons (pv 0) (pa_cons (pv 1) pa_nil))) pa_nil)) (blkOk_by (own := [("number", 2), ("first", 3), ("behind", 4)]) (N := ["windows", "offers", "number", "first", "behind"]) (sc := defScope s_lost) (by decide +kernel)) (fun _ _ _ _ _ => pg_tup rfl (pgs_cons (pg_name (i := 2) sc_lost.nd rfl (Or.inl rfl)) (pgs_cons (pg_tup rfl (pgs_cons (pg_name (i := 3) sc_lost.nd rfl (Or.inl rfl)) (pgs_cons (pg_name (i := 4) sc_lost.nd rfl (Or.inl rfl)) pgs_nil))) pgs_nil))) (fun _ _ _ _ _ => (pts_one (pt_cmpR op_eq (pv 3) (pv 4) (nomark _)))) (fun _ _ _ _ _ => (pv 2))))))), ?_⟩
    refine ⟨_, rfl, _, rfl, ?_⟩
    dsimp only [tNil, List.cons_append, List.nil_append, List.append_nil]
    refine chk_use hc fun a b xs ys eu eo ha hb bw bo good H1 s1 => ?_
    subst eu eo
    obtain ⟨lx, ly, ws, os, pw, po, so, good⟩ := good
    have l1 := prs_len pw
    have l2 := prs_len po
    have ha1 := s1 _ _ ha
    have hb1 := s1 _ _ hb
    refine ⟨_, rfl, _, rfl, a, b, xs, ys, ws, os, rfl, SqT.of ha1, prs_map s1 pw, SqT.of hb1, prs_map s1 po, so, (by omega), (by omega), fun H2 r zs s2 hr pz => ?_⟩
    refine ⟨r, zs, rfl, SqL.of hr, fun D nD => ?_⟩
    have l3 := prs_len pz
    refine lc_it (walk_enum (K := K) (a := r) (xs := zs)) (fun i H' => H' D = some (.lst ((lostFrom ((spanL ws os).take i) 0).map V.int)) ∧ ∀ b u, b ≠ D → H2 b = some u → H' b = some u) ⟨upd_same, fun b u n e => by rw [upd_ne n]; exact e⟩ ?_ ?_ ?_
    · rintro i H' _ ⟨_, kp⟩
      exact SqL.of (kp _ _ (fun z => by rw [z, nD] at hr; cases hr) hr)
    · rintro i x H3 H4 hi ⟨hD, kp⟩ ⟨t, k, y, rfl, nt, rfl, ek, ey⟩
      cases ek
      have ey : zs[i]? = some y := ey
      obtain ⟨p, t2, hp, rfl, ht⟩ := prs_at pz ey
      have s3 : Same H2 H3 := fun b u e => kp b u (fun z => by rw [z, nD] at e; cases e) e
      have s4 := same_new (o := .tup [.int (i : Nat), .ref t2]) nt
      have ht4 := Vz.sqT_same (s3.trans s4) ht
      have neD : D ≠ t := fun z => by rw [← z, hD] at nt; cases nt
      refine ⟨t, _, rfl, SqT.of upd_same, rfl, _, _, rfl, _, _, rfl, ?_⟩
      refine ⟨t2, _, rfl, ht4, rfl, _, _, rfl, _, _, rfl, rfl, ?_⟩
      refine ⟨rfl, rfl, ?_⟩
      refine ⟨_, rfl, _, rfl, rfl, _, rfl, ?_⟩
      have hD4 := s4 _ _ hD
      have tk : (spanL ws os).take (i + 1) = (spanL ws os).take i ++ [p] := by rw [List.take_add_one, hp]; rfl
      have li : ((spanL ws os).take i).length = i := by rw [List.length_take]; omega
      have ap := lostFrom_app ((spanL ws os).take i) p 0
      rw [li, Nat.zero_add] at ap
      have few := lostFrom_len ((spanL ws os).take i) 0
      have lsp : (spanL ws os).length = ws.length := by unfold spanL; rw [List.length_map]
      rw [tk, ap]
      by_cases c : p.1 = p.2
      · rw [show decide (V.int p.1 = V.int p.2) = true from decide_eq_true (by rw [c])]
        dsimp only
        rw [if_pos rfl]
        refine ⟨_, rfl, _, hD4, (by rw [List.length_map, sizeLine_eq]; omega), ?_, fun b u n e => by rw [upd_ne n]; exact s4 _ _ (kp b u n e)⟩
        rw [upd_same, if_pos c, List.map_append]
        rfl
      · rw [show decide (V.int p.1 = V.int p.2) = false from decide_eq_false (fun z => c (V.int.inj z))]
        dsimp only
        rw [if_neg (by decide)]
        refine ⟨?_, fun b u n e => s4 _ _ (kp b u n e)⟩
        rw [if_neg c, List.append_nil]
        exact hD4
    · rintro H3 ⟨hD, kp⟩
      have tk : (spanL ws os).take zs.length = spanL ws os := List.take_of_length_le (by omega)
      rw [tk] at hD
      have s3 : Same H2 H3 := fun b u e => kp b u (fun z => by rw [z, nD] at e; cases e) e
      have few := lostFrom_len (spanL ws os) 0
      have lsp : (spanL ws os).length = ws.length := by unfold spanL; rw [List.length_map]
      refine .inl ⟨D, _, rfl, SqL.of hD, fun t nt => ?_⟩
      exact good _ t (((s1.trans s2).trans s3).trans (same_new nt)) upd_same
end
end Toy
set_option Elab.async false
set_option linter.all false
set_option maxRecDepth 100000
set_option maxHeartbeats 2000000
namespace Toy
open PySem PySem.Spec PyProof.Rows L2
section
variable {P : Program} {w : World} {K : PySem.W.Frag} {mg : Str → Option Value} {base : Heap}
def sp__law_of : Sp := fun vs H Q _ => ∃ (d p : Addr) (xs : List V) (n : Int), vs = [.ref d, .ref p] ∧ Draw H d n ∧ H p = some (.lst xs) ∧ xs ≠ [] ∧ xs.length ≤ 1000 ∧ n ≤ 1000000000 ∧ ∀ H' x, Keep d H H' → Draw H' d (n + 1) → x ∈ xs → Q x H'
theorem ok__law_of (T : Txt K mg) : FnOk P w K mg base CX0 3 T.a__law_of T.d__law_of ["draw", "items"] sp__law_of := by
  refine T.F__law_of.ok sc__law_of (fun vs H Q E h => ?_) (fun cdv A outer s H vs Q E hr h => ?_)
  · obtain ⟨d, p, xs, n, rfl, _⟩ := h; rfl
  · obtain ⟨d, p, xs, n, rfl, D, hp, hne, hl, hn, q⟩ := h
    have ne : p ≠ d := fun z => by
      obtain ⟨kvs, hd⟩ := D.dic
      rw [z, hd] at hp
      cases hp
    have l0 : 0 < xs.length := List.length_pos_iff.mpr hne
    refine ⟨_, (pss_one (ps_ret (pe_ix ix_list (pv 1) (pe_call (ok__law_next T) (hr.mono (by decide)) (by rfl) T.g__law_next T.F__law_next.kp T.b__law_next .nil pass0 (pa_cons (pv 0) (pa_cons (pe_callB call_len_seq (by rfl) T.z_len PySem.boot_len (pa_cons (pv 1) pa_nil)) pa_nil))) (fun _ _ => rfl)))), ?_⟩
    refine ⟨_, rfl, _, rfl, _, rfl, p, xs, rfl, .inl (SqL.of hp), ?_⟩
    refine ⟨d, xs.length, n, rfl, D, by omega, by omega, by omega, fun H' k kp D' k0 k1 => ?_⟩
    obtain ⟨v, hv, hm⟩ := at_some k0 k1
    exact ⟨p, _, k, v, rfl, rfl, SqL.of (kp _ _ ne hp), hv, q H' v kp D' hm⟩
def insL (b e : Int) (os : List (Int × Int)) : List Int := (os.map (·.1)).filter fun m => decide (b ≤ m) && decide (m < e)
def sp__law_inside (K : PySem.W.Frag) : Sp := fun vs H Q _ => ∃ (t o : Addr) (b e : Int) (ys : List V) (os : List (Int × Int)), vs = [.ref t, .ref o] ∧ SqT K H t [.int b, .int e] ∧ SqT K H o ys ∧ Prs K H ys os ∧ os.length ≤ 1000 ∧
  ∀ H' r, Same H H' → H' r = some (.lst ((insL b e os).map V.int)) → Q (.ref r) H'
theorem ok__law_inside (T : Txt K mg) : FnOk P w K mg base CX0 1 T.a__law_inside T.d__law_inside ["window", "offers"] (sp__law_inside K) := by
  refine T.F__law_inside.ok sc__law_inside (fun vs H Q E h => ?_) (fun cdv A outer s H vs Q E hr h => ?_)
  · obtain ⟨t, o, b, e, ys, os, rfl, _⟩ := h; rfl
  · obtain ⟨t, o, b, e, ys, os, rfl, ht, ho, po, lo, q⟩ := h
    have ly := prs_len po
    refine ⟨_, (pss_one (ps_ret (pe_lc (own := [("moment", 2), ("cost", 3)]) (g := gTup K 2 (gCons (gName 2) (gCons (gName 3) gNil))) (by rfl) sc__law_inside.nd (pi_tup (pv 1)) (blkOk_by (own := [("moment", 2), ("cost", 3)]) (N := ["window", "offers", "moment", "cost"]) (sc := defScope s__law_inside) (by decide +kernel)) (fun _ _ _ _ _ => pg_tup rfl (pgs_cons (pg_name (i := 2) sc__law_inside.nd rfl (Or.inl rfl)) (pgs_cons (pg_name (i := 3) sc__law_inside.nd rfl (Or.inl rfl)) pgs_nil))) (fun _ _ _ _ _ => (pts_one (pt_chain op_le op_lt (pe_ix (r := L2.rIxT K) ix_tup (pv 0) pe_int (fun _ _ => rfl)) (pv 2) (pe_ix (r := L2.rIxT K) ix_tup (pv 0) pe_int (fun _ _ => rfl))))) (fun _ _ _ _ _ => (pv 2))))), ?_⟩
    refine ⟨_, rfl, o, rfl, ⟨_, ho⟩, fun D nD => ?_⟩
    refine lc_it (walk_tup (K := K) (a := o) (xs := ys)) (fun i H' => H' = upd H D (.lst ((insL b e (os.take i)).map V.int))) rfl ?_ ?_ ?_
    · rintro i H' _ rfl
      exact Vz.sqT_same (same_new nD) ho
    · rintro i x H1 H2 hi rfl ⟨rfl, hx⟩
      obtain ⟨p, t2, hp, rfl, hq⟩ := prs_at po hx
      have s1 := same_new (o := .lst ((insL b e (os.take i)).map V.int)) nD
      refine ⟨t2, _, rfl, Vz.sqT_same s1 hq, rfl, _, _, rfl, _, _, rfl, rfl, rfl, ?_⟩
      have st : insL b e (os.take (i + 1)) = insL b e (os.take i) ++ (if (decide (b ≤ p.1) && decide (p.1 < e)) = true then [p.1] else []) := by
        unfold insL
        rw [List.take_add_one, hp, List.map_append, List.filter_append]
        show _ ++ List.filter _ [p.1] = _
        rw [List.filter_cons]
        simp only [List.filter_nil]
      have few : (insL b e (os.take i)).length ≤ 1000 := by
        have := List.length_filter_le (fun m => decide (b ≤ m) && decide (m < e)) ((os.take i).map (·.1))
        rw [List.length_map, List.length_take] at this
        unfold insL
        omega
      refine ⟨_, rfl, t, _, 0, _, rfl, rfl, Vz.sqT_same s1 ht, rfl, _, rfl, b, p.1, rfl, rfl, ?_⟩
      have hD := upd_same (H := H) (a := D) (o := .lst ((insL b e (os.take i)).map V.int))
      refine ⟨_, rfl, ?_⟩
      by_cases c1 : b ≤ p.1
      · rw [show decide (b ≤ p.1) = true from decide_eq_true c1]
        rw [if_pos rfl]
        refine ⟨_, rfl, t, _, 1, _, rfl, rfl, Vz.sqT_same s1 ht, rfl, p.1, e, rfl, rfl, _, rfl, ?_⟩
        dsimp only
        by_cases c2 : p.1 < e
        · rw [decide_eq_true c2, if_pos rfl]
          refine ⟨_, rfl, _, hD, (by rw [List.length_map, sizeLine_eq]; omega), ?_⟩
          rw [st, if_pos (by rw [decide_eq_true c1, decide_eq_true c2]; rfl), List.map_append, upd_upd]
          rfl
        · rw [decide_eq_false c2, if_neg (by decide)]
          rw [st, if_neg (by rw [decide_eq_false c2, Bool.and_false]; decide), List.append_nil]
      · rw [show decide (b ≤ p.1) = false from decide_eq_false c1]
        rw [if_neg (by decide)]
        refine ⟨_, rfl, ?_⟩
        dsimp only
        rw [if_neg (by decide)]
        rw [st, if_neg (by rw [decide_eq_false c1, Bool.false_and]; decide), List.append_nil]
    · rintro H1 rfl
      rw [ly, List.take_length]
      exact q _ D (same_new nD) upd_same
end
end Toy
set_option Elab.async false
set_option linter.all false
set_option maxRecDepth 100000
set_option maxHeartbeats 400000
namespace Toy
open PySem PySem.Spec PyProof.Rows L2
/-! ### the plan, as the program makes it, said of numbers -/
def popK (lim : Int) (L : List (Int × Int)) : List (Int × Int) := (L.reverse.dropWhile fun e => decide (e.2 ≥ lim)).reverse
theorem popK_nil (lim : Int) : popK lim [] = [] := rfl
theorem popK_app (lim : Int) (L : List (Int × Int)) (e : Int × Int) : popK lim (L ++ [e]) = if e.2 ≥ lim then popK lim L else L ++ [e] := by
  unfold popK
  rw [List.reverse_append, List.reverse_singleton, List.singleton_append, List.dropWhile_cons]
  by_cases c : e.2 ≥ lim
  · rw [if_pos (by simpa using c), if_pos c]
  · rw [if_neg (by simpa using c), if_neg c, List.reverse_cons, List.reverse_reverse]
theorem mem_dropW {α : Type} {p : α → Bool} : ∀ {l : List α} {x : α}, x ∈ l.dropWhile p → x ∈ l
  | y :: l, x, h => by
    rw [List.dropWhile_cons] at h
    split at h
    · exact List.mem_cons_of_mem _ (mem_dropW h)
    · exact h
theorem len_dropW {α : Type} {p : α → Bool} : ∀ (l : List α), (l.dropWhile p).length ≤ l.length
  | [] => Nat.le_refl _
  | y :: l => by
    rw [List.dropWhile_cons]
    split
    · have := len_dropW (p := p) l; rw [List.length_cons]; omega
    · exact Nat.le_refl _
theorem popK_mem {lim : Int} {L : List (Int × Int)} {e : Int × Int} (h : e ∈ popK lim L) : e ∈ L := by
  unfold popK at h
  have z := mem_dropW (List.mem_reverse.mp h)
  exact List.mem_reverse.mp z
theorem popK_len (lim : Int) (L : List (Int × Int)) : (popK lim L).length ≤ L.length := by
  unfold popK
  rw [List.length_reverse]
  have := len_dropW (p := fun e : Int × Int => decide (e.2 ≥ lim)) L.reverse
  rw [List.length_reverse] at this
  exact this
def costA (os : List (Int × Int)) (c : Nat) : Int := ((os[c]?).map (·.2)).getD 0
def pushN (os : List (Int × Int)) (tot : Int) (L : List (Int × Int)) (b : Nat) : Nat → List (Int × Int)
  | 0 => L
  | j + 1 => popK (costA os (b + j) + tot) (pushN os tot L b j) ++ [(((b + j : Nat) : Int), costA os (b + j) + tot)]
theorem pushN_mem {os : List (Int × Int)} {tot : Int} {L : List (Int × Int)} {b : Nat} : ∀ {j : Nat} {e : Int × Int}, e ∈ pushN os tot L b j → e ∈ L ∨ ((b : Int) ≤ e.1 ∧ e.1 < b + j)
  | 0, e, h => .inl h
  | j + 1, e, h => by
    rcases List.mem_append.mp h with z | z
    · rcases pushN_mem (popK_mem z) with y | y
      · exact .inl y
      · exact .inr ⟨y.1, by omega⟩
    · rw [List.mem_singleton.mp z]
      refine .inr ⟨?_, ?_⟩
      · show (b : Int) ≤ ((b + j : Nat) : Int); omega
      · show ((b + j : Nat) : Int) < (b : Int) + ((j + 1 : Nat) : Int); omega
theorem pushN_len {os : List (Int × Int)} {tot : Int} {L : List (Int × Int)} {b : Nat} : ∀ (j : Nat), (pushN os tot L b j).length ≤ L.length + j
  | 0 => Nat.le_refl _
  | j + 1 => by
    have ih := pushN_len (os := os) (tot := tot) (L := L) (b := b) j
    have := popK_len (costA os (b + j) + tot) (pushN os tot L b j)
    show (_ ++ [_]).length ≤ _
    rw [List.length_append, List.length_singleton]
    omega
theorem pushN_last {os : List (Int × Int)} {tot : Int} {L : List (Int × Int)} {b j : Nat} (h : 0 < j) : ∃ R l, pushN os tot L b j = R ++ [(((b + j - 1 : Nat) : Int), l)] := by
  cases j with
  | zero => exact absurd h (Nat.lt_irrefl _)
  | succ j => exact ⟨_, _, rfl⟩
structure PSt where
  pl : List Int
  en : List (Int × Int)
  kp : List (Int × Int)
  bg : Nat
  tot : Int
def lastE (en : List (Int × Int)) : Int := ((en.getLast?).map (·.2)).getD 0
def atF (first : Int) (kp : List (Int × Int)) : Nat := (kp.takeWhile fun e => decide (e.1 < first)).length
/-- is the span met already -/
def metB (en : List (Int × Int)) (first : Int) : Bool := !en.isEmpty && decide (first ≤ lastE en)
def stepP (os : List (Int × Int)) (st : PSt) (t : Int × Int × Int) : PSt :=
  if metB st.en t.2.1 = true then { st with kp := pushN os st.tot st.kp st.bg (t.1.toNat - st.bg), bg := t.1.toNat }
  else match (pushN os st.tot st.kp st.bg (t.1.toNat - st.bg))[atF t.2.1 (pushN os st.tot st.kp st.bg (t.1.toNat - st.bg))]? with
  | some e => { pl := st.pl.set t.2.2.toNat (e.2 - st.tot), en := st.en ++ [(t.1, e.1)], kp := (pushN os st.tot st.kp st.bg (t.1.toNat - st.bg)).drop (atF t.2.1 (pushN os st.tot st.kp st.bg (t.1.toNat - st.bg)) + 1), bg := t.1.toNat, tot := e.2 }
  | none => st
structure PInv (n m i : Nat) (st : PSt) : Prop where
  bg : st.bg ≤ n
  kp : ∀ e ∈ st.kp, 0 ≤ e.1 ∧ e.1 < st.bg
  en : ∀ e ∈ st.en, 0 ≤ e.2 ∧ e.2 < n
  kl : st.kp.length ≤ st.bg
  el : st.en.length ≤ i
  pl : st.pl.length = m
  la : st.bg = 0 ∨ (∃ R l, st.kp = R ++ [(((st.bg - 1 : Nat) : Int), l)]) ∨ (∃ R b, st.en = R ++ [(b, ((st.bg - 1 : Nat) : Int))])
theorem tw_lt {p : Int × Int → Bool} : ∀ {L : List (Int × Int)}, (∃ e ∈ L, p e = false) → (L.takeWhile p).length < L.length
  | [], h => by obtain ⟨e, he, _⟩ := h; cases he
  | x :: L, h => by
    rw [List.takeWhile_cons]
    split
    · rename_i c
      rw [List.length_cons, List.length_cons]
      refine Nat.succ_lt_succ (tw_lt ?_)
      obtain ⟨e, he, hp⟩ := h
      rcases List.mem_cons.mp he with z | z
      · rw [z, c] at hp; cases hp
      · exact ⟨e, z, hp⟩
    · exact Nat.succ_pos _
theorem lastE_app (R : List (Int × Int)) (e : Int × Int) : lastE (R ++ [e]) = e.2 := by
  unfold lastE
  rw [List.getLast?_append, List.getLast?_singleton]
  rfl
section
variable {n m i : Nat} {os : List (Int × Int)} {st : PSt} {t : Int × Int × Int}
theorem pushed (I : PInv n m i st) (h1 : st.bg ≤ t.1) (h2 : t.1 ≤ n) (h3 : 0 ≤ t.2.1) (h4 : t.2.1 < t.1) :
    (∀ e ∈ pushN os st.tot st.kp st.bg (t.1.toNat - st.bg), 0 ≤ e.1 ∧ e.1 < t.1) ∧ (pushN os st.tot st.kp st.bg (t.1.toNat - st.bg)).length ≤ t.1.toNat ∧
      ((∃ R l, pushN os st.tot st.kp st.bg (t.1.toNat - st.bg) = R ++ [(((t.1.toNat - 1 : Nat) : Int), l)]) ∨ (∃ R b, st.en = R ++ [(b, ((t.1.toNat - 1 : Nat) : Int))])) := by
  refine ⟨fun e he => ?_, ?_, ?_⟩
  · rcases pushN_mem he with z | z
    · have := I.kp e z; omega
    · omega
  · have := pushN_len (os := os) (tot := st.tot) (L := st.kp) (b := st.bg) (t.1.toNat - st.bg)
    have := I.kl
    omega
  · rcases Nat.eq_zero_or_pos (t.1.toNat - st.bg) with z | z
    · rw [z]
      have e : t.1.toNat = st.bg := by omega
      rw [e]
      rcases I.la with y | y | y
      · omega
      · exact .inl y
      · exact .inr y
    · obtain ⟨R, l, e⟩ := pushN_last (os := os) (tot := st.tot) (L := st.kp) (b := st.bg) z
      have e2 : st.bg + (t.1.toNat - st.bg) - 1 = t.1.toNat - 1 := by omega
      rw [e2] at e
      exact .inl ⟨R, l, e⟩
theorem found (I : PInv n m i st) (h1 : st.bg ≤ t.1) (h2 : t.1 ≤ n) (h3 : 0 ≤ t.2.1) (h4 : t.2.1 < t.1) (hm : metB st.en t.2.1 = false) :
    ∃ R l, pushN os st.tot st.kp st.bg (t.1.toNat - st.bg) = R ++ [(((t.1.toNat - 1 : Nat) : Int), l)] ∧ atF t.2.1 (pushN os st.tot st.kp st.bg (t.1.toNat - st.bg)) ≤ R.length := by
  obtain ⟨_, _, h⟩ := pushed (os := os) I h1 h2 h3 h4
  rcases h with ⟨R, l, e⟩ | ⟨R, b, e⟩
  · refine ⟨R, l, e, ?_⟩
    unfold atF
    rw [e]
    have := tw_lt (p := fun e : Int × Int => decide (e.1 < t.2.1)) (L := R ++ [(((t.1.toNat - 1 : Nat) : Int), l)]) ⟨_, List.mem_append_right _ (List.mem_singleton.mpr rfl), by
      rw [decide_eq_false]
      show ¬ ((t.1.toNat - 1 : Nat) : Int) < t.2.1
      omega⟩
    rw [List.length_append, List.length_singleton] at this
    omega
  · have z : metB st.en t.2.1 = true := by
      unfold metB
      rw [e, lastE_app]
      rw [show (R ++ [(b, ((t.1.toNat - 1 : Nat) : Int))]).isEmpty = false by cases R <;> rfl]
      rw [decide_eq_true (by show t.2.1 ≤ ((t.1.toNat - 1 : Nat) : Int); omega)]
      rfl
    rw [z] at hm
    cases hm
theorem step_inv (I : PInv n m i st) (h1 : st.bg ≤ t.1) (h2 : t.1 ≤ n) (h3 : 0 ≤ t.2.1) (h4 : t.2.1 < t.1) : PInv n m (i + 1) (stepP os st t) := by
  obtain ⟨p1, p2, p3⟩ := pushed (os := os) I h1 h2 h3 h4
  unfold stepP
  split
  · exact ⟨by show t.1.toNat ≤ n; omega, fun e he => by have := p1 e he; show 0 ≤ e.1 ∧ e.1 < ((t.1.toNat : Nat) : Int); omega, I.en, p2, Nat.le_succ_of_le I.el, I.pl, .inr p3⟩
  · rename_i hm
    have hm : metB st.en t.2.1 = false := by cases z : metB st.en t.2.1 <;> first | rfl | exact absurd z hm
    obtain ⟨R, l, e, la⟩ := found (os := os) I h1 h2 h3 h4 hm
    rw [e] at p1 p2 la ⊢
    generalize atF t.2.1 (R ++ [(((t.1.toNat - 1 : Nat) : Int), l)]) = k at la ⊢
    have lt : k < (R ++ [(((t.1.toNat - 1 : Nat) : Int), l)]).length := by rw [List.length_append, List.length_singleton]; omega
    rw [List.getElem?_eq_getElem lt]
    have hmem := List.getElem_mem lt
    have hk := p1 _ hmem
    refine ⟨by show t.1.toNat ≤ n; omega, fun x hx => ?_, fun x hx => ?_, ?_, ?_, ?_, ?_⟩
    · have := p1 x (List.mem_of_mem_drop hx); show 0 ≤ x.1 ∧ x.1 < ((t.1.toNat : Nat) : Int); omega
    · rcases List.mem_append.mp hx with z | z
      · exact I.en x z
      · rw [List.mem_singleton.mp z]; exact ⟨hk.1, by show _ < (n : Int); omega⟩
    · show (List.drop _ _).length ≤ t.1.toNat
      rw [List.length_drop]; omega
    · show (_ ++ [_]).length ≤ _
      rw [List.length_append, List.length_singleton]; have := I.el; omega
    · show (List.set _ _ _).length = m
      rw [List.length_set]; exact I.pl
    · right
      rcases Nat.lt_or_ge k R.length with z | z
      · left
        refine ⟨R.drop (k + 1), l, ?_⟩
        show List.drop (k + 1) (R ++ _) = _
        rw [List.drop_append_of_le_length (by omega)]
      · right
        have ek : k = R.length := by omega
        subst ek
        refine ⟨st.en, t.1, ?_⟩
        show st.en ++ [(t.1, _)] = _
        simp
end
def planT (os : List (Int × Int)) (m : Nat) (ts : List (Int × Int × Int)) : PSt := ts.foldl (stepP os) ⟨List.replicate m 0, [], [], 0, 0⟩
theorem plan_inv {os : List (Int × Int)} {m n : Nat} : ∀ (ts rs : List (Int × Int × Int)) (i : Nat) (st : PSt), PInv n m i st → (∀ t ∈ ts ++ rs, t.1 ≤ n ∧ 0 ≤ t.2.1 ∧ t.2.1 < t.1 ∧ st.bg ≤ t.1) → (ts ++ rs).Pairwise (fun a b => a.1 ≤ b.1) →
    PInv n m (i + ts.length) (ts.foldl (stepP os) st) ∧ ∀ t ∈ rs, ((ts.foldl (stepP os) st).bg : Int) ≤ t.1
  | [], rs, i, st, I, h, _ => ⟨I, fun t ht => (h t ht).2.2.2⟩
  | t :: ts, rs, i, st, I, h, pw => by
    obtain ⟨a, b, c, d⟩ := h t (List.mem_cons_self)
    have I2 := step_inv (os := os) I d a b c
    obtain ⟨w1, w2⟩ := List.pairwise_cons.mp (show (t :: (ts ++ rs)).Pairwise _ from pw)
    have ebg : (stepP os st t).bg = t.1.toNat := by
      unfold stepP
      split
      · rfl
      · rename_i hm
        have hm : metB st.en t.2.1 = false := by cases z : metB st.en t.2.1 <;> first | rfl | exact absurd z hm
        obtain ⟨R, l, e, la⟩ := found (os := os) I d a b c hm
        rw [e] at la ⊢
        generalize atF t.2.1 (R ++ [(((t.1.toNat - 1 : Nat) : Int), l)]) = k at la ⊢
        have lt : k < (R ++ [(((t.1.toNat - 1 : Nat) : Int), l)]).length := by rw [List.length_append, List.length_singleton]; omega
        rw [List.getElem?_eq_getElem lt]
    have r := plan_inv (n := n) (os := os) ts rs (i + 1) (stepP os st t) I2 (fun x hx => by
      obtain ⟨a', b', c', d'⟩ := h x (List.mem_cons_of_mem _ hx)
      have := w1 x hx
      rw [ebg]
      exact ⟨a', b', c', by omega⟩) w2
    have e : i + (t :: ts).length = i + 1 + ts.length := by rw [List.length_cons]; omega
    rw [e]
    exact r
def Trs (K : PySem.W.Frag) (H : Hp) : List V → List (Int × Int × Int) → Prop
  | [], [] => True
  | x :: xs, p :: ps => (∃ t, x = .ref t ∧ SqT K H t [.int p.1, .int p.2.1, .int p.2.2]) ∧ Trs K H xs ps
  | _, _ => False
theorem trs_mapF {K : PySem.W.Frag} {H H' : Hp} (f : ∀ t l, SqT K H t l → SqT K H' t l) : ∀ {xs : List V} {ps : List (Int × Int × Int)}, Trs K H xs ps → Trs K H' xs ps
  | [], [], _ => True.intro
  | _ :: _, _ :: _, ⟨⟨t, e, h⟩, r⟩ => ⟨⟨t, e, f _ _ h⟩, trs_mapF f r⟩
theorem trs_app {K : PySem.W.Frag} {H : Hp} : ∀ {xs ys : List V} {ps qs : List (Int × Int × Int)}, Trs K H xs ps → Trs K H ys qs → Trs K H (xs ++ ys) (ps ++ qs)
  | [], _, [], _, _, b => b
  | _ :: _, _, _ :: _, _, ⟨p, r⟩, b => ⟨p, trs_app r b⟩
theorem trs_at {K : PySem.W.Frag} {H : Hp} : ∀ {xs : List V} {ps : List (Int × Int × Int)}, Trs K H xs ps → ∀ {i : Nat} {x : V}, xs[i]? = some x → ∃ p t, ps[i]? = some p ∧ x = .ref t ∧ SqT K H t [.int p.1, .int p.2.1, .int p.2.2]
  | _ :: _, p :: _, ⟨⟨t, e, h⟩, _⟩, 0, x, hx => by cases hx; exact ⟨p, t, rfl, e, h⟩
  | _ :: _, _ :: _, ⟨_, r⟩, i + 1, x, hx => trs_at r (i := i) (x := x) hx
  | [], [], _, i, x, hx => by cases hx
theorem trs_len {K : PySem.W.Frag} {H : Hp} : ∀ {xs : List V} {ps : List (Int × Int × Int)}, Trs K H xs ps → xs.length = ps.length
  | [], [], _ => rfl
  | _ :: _, _ :: _, ⟨_, r⟩ => by rw [List.length_cons, List.length_cons, trs_len r]
theorem trs_cons {K : PySem.W.Frag} {H : Hp} {x : V} {xs : List V} {ps : List (Int × Int × Int)} (h : Trs K H (x :: xs) ps) : ∃ p qs, ps = p :: qs ∧ (∃ t, x = .ref t ∧ SqT K H t [.int p.1, .int p.2.1, .int p.2.2]) ∧ Trs K H xs qs := by
  cases ps with
  | nil => exact h.elim
  | cons p qs => exact ⟨p, qs, rfl, h.1, h.2⟩
theorem trs_perm {K : PySem.W.Frag} {H : Hp} {xs ys : List V} (h : xs.Perm ys) : ∀ (ps : List (Int × Int × Int)), Trs K H xs ps → ∃ qs, Trs K H ys qs ∧ ps.Perm qs := by
  induction h with
  | nil => intro ps h; exact ⟨ps, h, .refl _⟩
  | cons x _ ih =>
    intro ps h
    obtain ⟨p, rs, e, a, r⟩ := trs_cons h
    subst e
    obtain ⟨qs, hq, pq⟩ := ih rs r
    exact ⟨p :: qs, ⟨a, hq⟩, pq.cons _⟩
  | swap x y l =>
    intro ps h
    obtain ⟨p, rs, e, a, r⟩ := trs_cons h
    obtain ⟨p2, rs2, e2, a2, r2⟩ := trs_cons r
    subst e2
    subst e
    exact ⟨p2 :: p :: rs2, ⟨a2, a, r2⟩, .swap _ _ _⟩
  | trans _ _ ih1 ih2 =>
    intro ps h
    obtain ⟨qs, hq, pq⟩ := ih1 ps h
    obtain ⟨rs, hr, pr⟩ := ih2 qs hq
    exact ⟨rs, hr, pq.trans pr⟩
def BdT (p : Int × Int × Int) : Prop := 0 ≤ p.1 ∧ p.1 ≤ 1000 ∧ 0 ≤ p.2.1 ∧ p.2.1 ≤ 1000 ∧ 0 ≤ p.2.2 ∧ p.2.2 ≤ 1000
theorem trs_tupI {K : PySem.W.Frag} {H : Hp} {x : V} {p : Int × Int × Int} (h : ∃ t, x = .ref t ∧ SqT K H t [.int p.1, .int p.2.1, .int p.2.2]) : TupI K H x [p.1, p.2.1, p.2.2] := h
theorem trs_sorted {K : PySem.W.Frag} {H : Hp} : ∀ {ys : List V} {ps : List (Int × Int × Int)}, Trs K H ys ps → (∀ p ∈ ps, BdT p) → ys.Pairwise (fun x y => ∀ n m, TupI K H x n → TupI K H y m → TS.code 2000 n ≤ TS.code 2000 m) → ps.Pairwise (fun a b => a.1 ≤ b.1)
  | [], [], _, _, _ => .nil
  | y :: ys, p :: ps, ⟨a, r⟩, hb, pw => by
    obtain ⟨w1, w2⟩ := List.pairwise_cons.mp pw
    refine List.pairwise_cons.mpr ⟨fun q hq => ?_, trs_sorted r (fun p hp => hb p (List.mem_cons_of_mem _ hp)) w2⟩
    obtain ⟨j, hj, e⟩ := List.getElem_of_mem hq
    have lj : j < ys.length := by rw [trs_len r]; exact hj
    obtain ⟨q', t, e2, e3, st⟩ := trs_at r (List.getElem?_eq_getElem lj)
    rw [List.getElem?_eq_getElem hj, e] at e2
    cases e2
    have z := w1 _ (List.getElem_mem lj) _ _ (trs_tupI a) (trs_tupI ⟨t, e3, st⟩)
    obtain ⟨b1, b2, b3, b4, b5, b6⟩ := hb p List.mem_cons_self
    obtain ⟨c1, c2, c3, c4, c5, c6⟩ := hb q (List.mem_cons_of_mem _ hq)
    have z : p.1 * 2000 ^ 2 + (p.2.1 * 2000 ^ 1 + (p.2.2 * 2000 ^ 0 + 0)) ≤ q.1 * 2000 ^ 2 + (q.2.1 * 2000 ^ 1 + (q.2.2 * 2000 ^ 0 + 0)) := z
    omega
/-- the spans that hold an offer -/
def tripF : List (Int × Int) → Nat → List (Int × Int × Int)
  | [], _ => []
  | p :: ps, i => if p.1 < p.2 then (p.2, p.1, (i : Int)) :: tripF ps (i + 1) else tripF ps (i + 1)
theorem tripF_app : ∀ (l : List (Int × Int)) (p : Int × Int) (i : Nat), tripF (l ++ [p]) i = tripF l i ++ (if p.1 < p.2 then [(p.2, p.1, ((i + l.length : Nat) : Int))] else [])
  | [], p, i => by
    show (if p.1 < p.2 then _ :: [] else []) = _
    rfl
  | q :: l, p, i => by
    have ih := tripF_app l p (i + 1)
    show (if q.1 < q.2 then _ :: tripF (l ++ [p]) (i + 1) else tripF (l ++ [p]) (i + 1)) = (if q.1 < q.2 then _ :: tripF l (i + 1) else tripF l (i + 1)) ++ _
    rw [ih, List.length_cons]
    have e : ((i + 1 + l.length : Nat) : Int) = ((i + (l.length + 1) : Nat) : Int) := by omega
    rw [e]
    split <;> rfl
theorem tripF_mem : ∀ {l : List (Int × Int)} {i : Nat} {t : Int × Int × Int}, t ∈ tripF l i → ∃ p ∈ l, t.1 = p.2 ∧ t.2.1 = p.1 ∧ p.1 < p.2 ∧ (i : Int) ≤ t.2.2 ∧ t.2.2 < i + l.length
  | p :: l, i, t, h => by
    unfold tripF at h
    have go : t ∈ tripF l (i + 1) → ∃ q ∈ p :: l, t.1 = q.2 ∧ t.2.1 = q.1 ∧ q.1 < q.2 ∧ (i : Int) ≤ t.2.2 ∧ t.2.2 < i + (p :: l).length := fun h => by
      obtain ⟨q, hq, e1, e2, e3, e4, e5⟩ := tripF_mem h
      refine ⟨q, List.mem_cons_of_mem _ hq, e1, e2, e3, by omega, ?_⟩
      rw [List.length_cons]; omega
    split at h
    · rename_i c
      rcases List.mem_cons.mp h with z | z
      · rw [z]
        refine ⟨p, List.mem_cons_self, rfl, rfl, c, Int.le_refl _, ?_⟩
        show (i : Int) < _
        rw [List.length_cons]; omega
      · exact go z
    · exact go h
theorem tripF_len : ∀ (l : List (Int × Int)) (i : Nat), (tripF l i).length ≤ l.length
  | [], _ => Nat.le_refl _
  | p :: l, i => by
    have := tripF_len l (i + 1)
    unfold tripF
    split
    · rw [List.length_cons, List.length_cons]; omega
    · rw [List.length_cons]; omega
theorem at_last (zr : List V) (z : V) : atI (zr ++ [z]) (-1) = some z := by
  unfold atI ixN
  rw [if_neg (by omega), List.length_append, List.length_singleton, if_pos (by omega)]
  show (zr ++ [z])[(-1 + ((zr.length + 1 : Nat) : Int)).toNat]? = some z
  have e : (-1 + ((zr.length + 1 : Nat) : Int)).toNat = zr.length := by omega
  rw [e]
  simp
theorem prs_snoc {K : PySem.W.Frag} {H : Hp} (e : Int × Int) (L : List (Int × Int)) : ∀ (xs : List V), Prs K H xs (L ++ [e]) → ∃ zr t, xs = zr ++ [.ref t] ∧ Prs K H zr L ∧ SqT K H t [.int e.1, .int e.2] := by
  induction L with
  | nil =>
    intro xs h
    cases xs with
    | nil => exact h.elim
    | cons x xs =>
      obtain ⟨⟨t, ex, ht⟩, r⟩ := h
      cases xs with
      | nil => exact ⟨[], t, by rw [ex]; rfl, True.intro, ht⟩
      | cons _ _ => exact r.elim
  | cons p L ih =>
    intro xs h
    cases xs with
    | nil => exact h.elim
    | cons x xs =>
      obtain ⟨zr, t, ex, h1, h2⟩ := ih xs h.2
      exact ⟨x :: zr, t, by rw [ex]; rfl, ⟨h.1, h1⟩, h2⟩
theorem prs_drop {K : PySem.W.Frag} {H : Hp} (n : Nat) : ∀ (xs : List V) (L : List (Int × Int)), Prs K H xs L → Prs K H (xs.drop n) (L.drop n) := by
  induction n with
  | zero => intro xs L h; exact h
  | succ n ih =>
    intro xs L h
    cases xs with
    | nil =>
      cases L with
      | nil => exact True.intro
      | cons _ _ => exact h.elim
    | cons x xs =>
      cases L with
      | nil => exact h.elim
      | cons _ _ => exact ih xs _ h.2
theorem tw_get {p : Int × Int → Bool} : ∀ (L : List (Int × Int)) (a : Nat), a < (L.takeWhile p).length → ∃ e, L[a]? = some e ∧ p e = true
  | [], a, h => absurd h (Nat.not_lt_zero _)
  | x :: L, a, h => by
    rw [List.takeWhile_cons] at h
    split at h
    · rename_i c
      cases a with
      | zero => exact ⟨x, rfl, c⟩
      | succ a => exact tw_get L a (by rw [List.length_cons] at h; omega)
    · exact absurd h (Nat.not_lt_zero _)
theorem tw_stop {p : Int × Int → Bool} : ∀ (L : List (Int × Int)), (L.takeWhile p).length < L.length → ∃ e, L[(L.takeWhile p).length]? = some e ∧ p e = false
  | [], h => absurd h (Nat.not_lt_zero _)
  | x :: L, h => by
    rw [List.takeWhile_cons] at h ⊢
    cases c : p x with
    | true =>
      rw [c] at h
      simp only [if_true] at h ⊢
      exact tw_stop L (by rw [List.length_cons, List.length_cons] at h; omega)
    | false => exact ⟨x, rfl, c⟩
theorem stepP_yes {os : List (Int × Int)} {st : PSt} {t : Int × Int × Int} (h : metB st.en t.2.1 = true) : stepP os st t = { st with kp := pushN os st.tot st.kp st.bg (t.1.toNat - st.bg), bg := t.1.toNat } := by
  unfold stepP
  rw [if_pos h]
theorem stepP_no {os : List (Int × Int)} {st : PSt} {t : Int × Int × Int} {kp : List (Int × Int)} {k : Nat} {e : Int × Int} (h : metB st.en t.2.1 = false) (hk : pushN os st.tot st.kp st.bg (t.1.toNat - st.bg) = kp) (ek : atF t.2.1 kp = k) (he : kp[k]? = some e) :
    stepP os st t = { pl := st.pl.set t.2.2.toNat (e.2 - st.tot), en := st.en ++ [(t.1, e.1)], kp := kp.drop (k + 1), bg := t.1.toNat, tot := e.2 } := by
  subst hk ek
  unfold stepP
  rw [if_neg (by rw [h]; decide), he]
theorem prs_at2 {K : PySem.W.Frag} {H : Hp} {xs : List V} {ps : List (Int × Int)} (h : Prs K H xs ps) {i : Nat} {p : Int × Int} (hp : ps[i]? = some p) : ∃ t, xs[i]? = some (.ref t) ∧ SqT K H t [.int p.1, .int p.2] := by
  have l := prs_len h
  have li : i < xs.length := by rw [l]; exact (List.getElem?_eq_some_iff.mp hp).1
  obtain ⟨p', t, e1, e2, e3⟩ := prs_at h (List.getElem?_eq_getElem li)
  rw [hp] at e1
  cases e1
  exact ⟨t, by rw [List.getElem?_eq_getElem li, e2], e3⟩
end Toy
set_option Elab.async false
set_option linter.all false
set_option maxRecDepth 100000
set_option maxHeartbeats 400000
namespace Toy
open PySem PySem.Spec PyProof.Rows L2
theorem sqT_put {K : PySem.W.Frag} {H : Hp} {R : Addr} {zs ws : List V} (hR : H R = some (.lst zs)) {t : Addr} {l : List V} (h : SqT K H t l) : SqT K (upd H R (.lst ws)) t l :=
  sqT_lst hR (fun b u n e => by rw [upd_ne n]; exact e) h
theorem prs_put {K : PySem.W.Frag} {H : Hp} {R : Addr} {zs ws : List V} (hR : H R = some (.lst zs)) {xs : List V} {ps : List (Int × Int)} (h : Prs K H xs ps) : Prs K (upd H R (.lst ws)) xs ps :=
  prs_mapF (fun _ _ => sqT_put hR) h
theorem trs_put {K : PySem.W.Frag} {H : Hp} {R : Addr} {zs ws : List V} (hR : H R = some (.lst zs)) {xs : List V} {ps : List (Int × Int × Int)} (h : Trs K H xs ps) : Trs K (upd H R (.lst ws)) xs ps :=
  trs_mapF (fun _ _ => sqT_put hR) h
/-- all but three lists stays -/
def Keep3 (a b c : Addr) (H H' : Hp) : Prop := ∀ d u, d ≠ a → d ≠ b → d ≠ c → H d = some u → H' d = some u
theorem same_none {H H' : Hp} (s : Same H H') {d : Addr} (n : H' d = none) : H d = none := by
  cases e : H d with
  | none => rfl
  | some u => rw [s _ _ e] at n; cases n
theorem ne_of {H : Hp} {d e : Addr} {u : HO} (h : H d = some u) (n : H e = none) : e ≠ d := fun z => by rw [z, h] at n; cases n
theorem sqT_k3 {K : PySem.W.Frag} {H H' : Hp} {a b c : Addr} (k : Keep3 a b c H H') {xa xb xc : List V} (ha : H a = some (.lst xa)) (hb : H b = some (.lst xb)) (hc : H c = some (.lst xc)) {t : Addr} {xs : List V} (h : SqT K H t xs) : SqT K H' t xs := by
  have ne : ∀ {d : Addr} {zs : List V} {o : HO}, H d = some (.lst zs) → H t = some o → o ≠ .lst zs → t ≠ d := fun hd q n z => by rw [z, hd] at q; cases q; exact n rfl
  rcases h with (h | ⟨o, h⟩) | h
  · exact .inl (.inl (k _ _ (ne ha h (by intro z; cases z)) (ne hb h (by intro z; cases z)) (ne hc h (by intro z; cases z)) h))
  · exact .inl (.inr ⟨o, k _ _ (ne ha h (by intro z; cases z)) (ne hb h (by intro z; cases z)) (ne hc h (by intro z; cases z)) h⟩)
  · exact .inr h
theorem met_reads {K : PySem.W.Frag} {G : Hp} {σ : L2.St} {p3 : Addr} {zE : List V} {en : List (Int × Int)} {f : Int} {Q : Bool → Hp → Prop} (e3 : σ[3]? = some (some (.ref p3))) (e8 : σ[8]? = some (some (.int f))) (g3 : G p3 = some (.lst zE)) (pE : Prs K G zE en) (q : Q (metB en f) G) :
    tAnd (fun σ H Q => tVar 3 σ H fun x H' => ∃ k, TruV K x H' k ∧ Q k H') (tTest (tOp (rI0 fun i j => V.bl (decide (i ≤ j))) (tVar 8) (tOp (rIxT K) (tOp (rIxL K) (tVar 3) (tUn (rU fun i => V.int (-i)) (tC (V.int 1)))) (tC (V.int 1))))) σ G Q := by
  refine ⟨_, e3, _, .inl ⟨zE, SqL.of g3, rfl⟩, ?_⟩
  rcases List.eq_nil_or_concat en with e | ⟨L0, e, eL⟩
  · subst e
    have ez : zE = [] := by have := prs_len pE; exact List.length_eq_zero_iff.mp this
    subst ez
    rw [if_neg (by decide)]
    exact q
  · rw [List.concat_eq_append] at eL
    subst eL
    obtain ⟨zr, tE, ez, pr, hE⟩ := prs_snoc e L0 zE pE
    subst ez
    rw [show (!(zr ++ [V.ref tE]).isEmpty) = true by cases zr <;> rfl, if_pos rfl]
    refine ⟨_, e8, _, e3, _, rfl, p3, _, _, _, rfl, rfl, SqL.of g3, at_last zr (.ref tE), tE, _, 1, _, rfl, rfl, hE, rfl, _, _, rfl, rfl, _, rfl, ?_⟩
    unfold metB at q
    rw [lastE_app, show (!(L0 ++ [e]).isEmpty) = true by cases L0 <;> rfl, Bool.true_and] at q
    exact q
def codeT (p : Int × Int × Int) : Int := p.1 * 4000000 + p.2.1 * 2000 + p.2.2
theorem trs_code {K : PySem.W.Frag} {H : Hp} : ∀ {ys : List V} {ps : List (Int × Int × Int)}, Trs K H ys ps → ys.Pairwise (fun x y => ∀ n m, TupI K H x n → TupI K H y m → TS.code 2000 n ≤ TS.code 2000 m) → ps.Pairwise (fun a b => codeT a ≤ codeT b)
  | [], [], _, _ => .nil
  | y :: ys, p :: ps, ⟨a, r⟩, pw => by
    obtain ⟨w1, w2⟩ := List.pairwise_cons.mp pw
    refine List.pairwise_cons.mpr ⟨fun q hq => ?_, trs_code r w2⟩
    obtain ⟨j, hj, e⟩ := List.getElem_of_mem hq
    have lj : j < ys.length := by rw [trs_len r]; exact hj
    obtain ⟨q', t, e2, e3, st⟩ := trs_at r (List.getElem?_eq_getElem lj)
    rw [List.getElem?_eq_getElem hj, e] at e2
    cases e2
    have z := w1 _ (List.getElem_mem lj) _ _ (trs_tupI a) (trs_tupI ⟨t, e3, st⟩)
    have z : p.1 * 2000 ^ 2 + (p.2.1 * 2000 ^ 1 + (p.2.2 * 2000 ^ 0 + 0)) ≤ q.1 * 2000 ^ 2 + (q.2.1 * 2000 ^ 1 + (q.2.2 * 2000 ^ 0 + 0)) := z
    unfold codeT
    omega
section
variable {P : Program} {w : World} {K : PySem.W.Frag} {mg : Str → Option Value} {base : Heap}
def sp__pledge (K : PySem.W.Frag) : Sp := fun vs H Q _ => ∃ (sp o : Addr) (zs ys : List V) (ss os : List (Int × Int)), vs = [.ref sp, .ref o] ∧ H sp = some (.lst zs) ∧ Prs K H zs ss ∧ H o = some (.tup ys) ∧ Prs K H ys os ∧ ss.length < 64 ∧ os.length ≤ 1000 ∧
  (∀ p ∈ ss, 0 ≤ p.1 ∧ p.1 ≤ os.length ∧ 0 ≤ p.2 ∧ p.2 ≤ os.length) ∧
  ∀ H' r a b zs' ts, Same H H' → H' r = some (.tup [.ref a, .ref b]) → ts.Perm (tripF ss 0) → ts.Pairwise (fun a b => codeT a ≤ codeT b) → H' a = some (.lst ((planT os ss.length ts).pl.map V.int)) → H' b = some (.lst zs') → Prs K H' zs' (planT os ss.length ts).en →
    PInv os.length ss.length ts.length (planT os ss.length ts) → Q (.ref r) H'
theorem ok__pledge (T : Txt K mg) : FnOk P w K mg base CX0 1 T.a__pledge T.d__pledge ["spans", "offers"] (sp__pledge K) := by
  refine T.F__pledge.ok sc__pledge (fun vs H Q E h => ?_) (fun cdv A outer s H vs Q E hr h => ?_)
  · obtain ⟨sp, o, zs, ys, ss, os, rfl, _⟩ := h; rfl
  · obtain ⟨sp, o, zs, ys, ss, os, rfl, hs, ps, ho, po, ls, lo, bd, q⟩ := h
    have lz := prs_len ps
    have ly := prs_len po
    refine ⟨_, (pss_cons (ps_set (i := 2) sc__pledge.nd rfl (by first | exact Or.inl rfl | exact Or.inr rfl) (pe_op op_rep (pe_lst (pa_cons pe_int pa_nil)) (pe_callB call_len_seq (by rfl) T.z_len PySem.boot_len (pa_cons (pv 0) pa_nil))))
        (pss_cons (ps_set (i := 3) sc__pledge.nd rfl (by first | exact Or.inl rfl | exact Or.inr rfl) (pe_lst pa_nil))
        (pss_cons (ps_set (i := 4) sc__pledge.nd rfl (by first | exact Or.inl rfl | exact Or.inr rfl) (pe_lst pa_nil))
        (pss_cons (ps_set (i := 5) sc__pledge.nd rfl (by first | exact Or.inl rfl | exact Or.inr rfl) pe_int)
        (pss_cons (ps_set (i := 6) sc__pledge.nd rfl (by first | exact Or.inl rfl | exact Or.inr rfl) pe_int)
        (pss_cons (ps_for PassesOwn.never rfl (pi_list (pe_callB (cr_sortT (d := 3) (B := 2000) (by decide)) (by rfl) T.z_sorted (by decide +kernel) (pa_cons (pe_lc (own := [("at", 12), ("span", 14)]) (g := gTup K 2 (gCons (gName 12) (gCons (gName 14) gNil))) (by rfl) sc__pledge.nd (pi_enum (by rfl) T.z_enumerate (pa_cons (pv 0) pa_nil)) (blkOk_by (own := [("at", 12), ("span", 14)]) (N := ["spans", "offers", "pledges", "ends", "kept", "begin", "total", "behind", "first", "number", "coming", "limit", "at", "used_up", "span"]) (sc := defScope s__pledge) (by decide +kernel)) (fun _ _ _ _ _ => pg_tup rfl (pgs_cons (pg_name (i := 12) sc__pledge.nd rfl (Or.inl rfl)) (pgs_cons (pg_name (i := 14) sc__pledge.nd rfl (Or.inl rfl)) pgs_nil))) (fun _ _ _ _ _ => (pts_one (pt_cmpR op_lt (pe_ix (r := L2.rIxT K) ix_tup (pv 14) pe_int (fun _ _ => rfl)) (pe_ix (r := L2.rIxT K) ix_tup (pv 14) pe_int (fun _ _ => rfl)) (nomark _)))) (fun _ _ _ _ _ => (pe_tup (pa_cons (pe_ix (r := L2.rIxT K) ix_tup (pv 14) pe_int (fun _ _ => rfl)) (pa_cons (pe_ix (r := L2.rIxT K) ix_tup (pv 14) pe_int (fun _ _ => rfl)) (pa_cons (pv 12) pa_nil)))))) pa_nil))) (pg_tup rfl (pgs_cons (pg_name (i := 7) sc__pledge.nd rfl (by first | exact Or.inl rfl | exact Or.inr rfl)) (pgs_cons (pg_name (i := 8) sc__pledge.nd rfl (by first | exact Or.inl rfl | exact Or.inr rfl)) (pgs_cons (pg_name (i := 9) sc__pledge.nd rfl (by first | exact Or.inl rfl | exact Or.inr rfl)) pgs_nil)))) (pss_cons (ps_for PassesOwn.never rfl (pi_range2 (by rfl) T.z_range (pa_cons (pv 5) (pa_cons (pv 7) pa_nil))) (pg_name (i := 10) sc__pledge.nd rfl (by first | exact Or.inl rfl | exact Or.inr rfl)) (pss_cons (ps_set (i := 11) sc__pledge.nd rfl (by first | exact Or.inl rfl | exact Or.inr rfl) (pe_op op_add (pe_ix ix_tup (pe_ix ix_tup (pv 1) (pv 10) (fun _ _ => rfl)) pe_int (fun _ _ => rfl)) (pv 6)))
        (pss_cons (ps_while PassesOwn.never (PW.pt (pw_and (pt_truth (pv 4) (by intro _; rfl)) (pw_and1 (pt_cmpR op_ge (pe_ix ix_tup (pe_ix ix_list (pv 4) (pe_un un_neg pe_int) (fun _ _ => rfl)) pe_int (fun _ _ => rfl)) (pv 11) (nomark _))))) (pss_one (ps_expr (pe_bm0 PySem.F.plainAttrs_list PySem.F.slot_list_pop PySem.F.type_list_pop mt_pop (pv 4)))))
        (pss_one (ps_expr (pe_bm PySem.F.plainAttrs_list PySem.F.slot_list_append PySem.F.type_list_append mt_append (pv 4) (pa_cons (pe_tup (pa_cons (pv 10) (pa_cons (pv 11) pa_nil))) pa_nil)))))))
        (pss_cons (ps_set (i := 5) sc__pledge.nd rfl (by first | exact Or.inl rfl | exact Or.inr rfl) (pv 7))
        (pss_cons (ps_if (PW.pt (pw_and (pt_truth (pv 3) (by intro _; rfl)) (pw_and1 (pt_cmpR op_le (pv 8) (pe_ix ix_tup (pe_ix ix_list (pv 3) (pe_un un_neg pe_int) (fun _ _ => rfl)) pe_int (fun _ _ => rfl)) (nomark _))))) (pss_one ps_continue) pss_nil)
        (pss_cons (ps_set (i := 12) sc__pledge.nd rfl (by first | exact Or.inl rfl | exact Or.inr rfl) pe_int)
        (pss_cons (ps_while PassesOwn.never (pt_cmpR op_lt (pe_ix ix_tup (pe_ix ix_list (pv 4) (pv 12) (fun _ _ => rfl)) pe_int (fun _ _ => rfl)) (pv 8) (nomark _)) (pss_one (ps_aug (i := 12) sc__pledge.nd rfl (Or.inl rfl) pe_int ip_add)))
        (pss_cons (ps_asg (pe_ix ix_list (pv 4) (pv 12) (fun _ _ => rfl)) (pg_tup rfl (pgs_cons (pg_name (i := 13) sc__pledge.nd rfl (by first | exact Or.inl rfl | exact Or.inr rfl)) (pgs_cons (pg_name (i := 11) sc__pledge.nd rfl (by first | exact Or.inl rfl | exact Or.inr rfl)) pgs_nil))))
        (pss_cons (Vz.ps_delCut (pv 4) (pe_op op_add (pv 12) pe_int))
        (pss_cons (ps_asg (pe_op op_sub (pv 11) (pv 6)) (pg_sub (pv 2) (pv 9) set_list))
        (pss_cons (ps_set (i := 6) sc__pledge.nd rfl (by first | exact Or.inl rfl | exact Or.inr rfl) (pv 11))
        (pss_one (ps_expr (pe_bm PySem.F.plainAttrs_list PySem.F.slot_list_append PySem.F.type_list_append mt_append (pv 3) (pa_cons (pe_tup (pa_cons (pv 7) (pa_cons (pv 13) pa_nil))) pa_nil))))))))))))))
        (pss_one (ps_ret (pe_tup (pa_cons (pv 2) (pa_cons (pv 3) pa_nil))))))))))), ?_⟩
    refine ⟨(by show 1 ≤ sizeLine; decide), fun p1 n1 => ?_⟩
    have s1 := same_new (o := .lst [.int 0]) n1
    have h1 := upd_same (H := H) (a := p1) (o := .lst [.int 0])
    refine ⟨_, rfl, sp, _, rfl, .inl (SqL.of (s1 _ _ hs)), ?_⟩
    refine ⟨p1, _, [.int 0], rfl, rfl, h1, by omega, by omega, ?_, fun p2 n2 => ?_⟩
    · show 1 * ((zs.length : Int)).toNat ≤ sizeLine
      rw [sizeLine_eq]; omega
    have eR : (List.replicate ((zs.length : Int)).toNat [V.int 0]).flatten = (List.replicate ss.length (0 : Int)).map V.int := by
      have e : ((zs.length : Int)).toNat = ss.length := by omega
      rw [e]
      generalize ss.length = n
      induction n with
      | zero => rfl
      | succ n ih => rw [List.replicate_succ, List.flatten_cons, ih, List.replicate_succ]; rfl
    have s2 := s1.trans (same_new (o := .lst (List.replicate ((zs.length : Int)).toNat [V.int 0]).flatten) n2)
    have h2 := upd_same (H := upd H p1 (.lst [.int 0])) (a := p2) (o := .lst (List.replicate ((zs.length : Int)).toNat [V.int 0]).flatten)
    rw [eR] at s2 h2 ⊢
    have f2 := same_none s1 n2
    generalize upd (upd H p1 (.lst [.int 0])) p2 (.lst ((List.replicate ss.length (0 : Int)).map V.int)) = H2 at s2 h2 ⊢
    refine ⟨(by show 0 ≤ sizeLine; decide), fun p3 n3 => ?_⟩
    have n32 := ne_of h2 n3
    have f3 := same_none s2 n3
    have s3 := s2.trans (same_new (o := .lst []) n3)
    have h3 := upd_same (H := H2) (a := p3) (o := .lst [])
    have h2 := (same_new (o := .lst []) n3) _ _ h2
    generalize upd H2 p3 (.lst []) = H3 at s3 h3 h2 ⊢
    refine ⟨(by show 0 ≤ sizeLine; decide), fun p4 n4 => ?_⟩
    have n42 := ne_of h2 n4
    have n43 := ne_of h3 n4
    have f4 := same_none s3 n4
    have s4 := s3.trans (same_new (o := .lst []) n4)
    have h4 := upd_same (H := H3) (a := p4) (o := .lst [])
    have h2 := (same_new (o := .lst []) n4) _ _ h2
    have h3 := (same_new (o := .lst []) n4) _ _ h3
    generalize upd H3 p4 (.lst []) = H4 at s4 h4 h2 h3 ⊢
    refine ⟨_, rfl, sp, zs, rfl, SqL.of (s4 _ _ hs), fun D nD => ?_⟩
    refine lc_it (walk_enum (K := K) (a := sp) (xs := zs)) (fun i H' => ∃ ws, H' D = some (.lst ws) ∧ Trs K H' ws (tripF (ss.take i) 0) ∧ ∀ b u, b ≠ D → H4 b = some u → H' b = some u) ⟨[], upd_same, True.intro, fun b u n e => by rw [upd_ne n]; exact e⟩ ?_ ?_ ?_
    · rintro i H' _ ⟨ws, _, _, kp⟩
      exact SqL.of (kp _ _ (fun z => by rw [← z, s4 _ _ hs] at nD; cases nD) (s4 _ _ hs))
    · rintro i x H5 H6 hi ⟨ws, hD, tw, kp⟩ ⟨t, k, y, rfl, nt, rfl, ek, ey⟩
      cases ek
      have ey : zs[i]? = some y := ey
      obtain ⟨p, t2, hp, rfl, ht⟩ := prs_at ps ey
      have sA : Same H4 H5 := fun b u e => kp b u (fun z => by rw [z, nD] at e; cases e) e
      have sB := same_new (o := .tup [.int (i : Nat), .ref t2]) nt
      have ht2 := Vz.sqT_same ((s4.trans sA).trans sB) ht
      have hD2 := sB _ _ hD
      have tw2 := trs_mapF (fun _ _ => Vz.sqT_same sB) tw
      have kp2 : ∀ b u, b ≠ D → H4 b = some u → (upd H5 t (.tup [.int (i : Nat), .ref t2])) b = some u := fun b u n e => sB _ _ (kp b u n e)
      refine ⟨t, _, rfl, SqT.of upd_same, rfl, ?_⟩
      generalize upd H5 t (.tup [.int (i : Nat), .ref t2]) = H6 at ht2 hD2 tw2 kp2 ⊢
      refine ⟨_, _, rfl, _, _, rfl, rfl, rfl, ?_⟩
      refine ⟨_, rfl, t2, _, 0, _, rfl, rfl, ht2, rfl, _, rfl, t2, _, 1, _, rfl, rfl, ht2, rfl, p.1, p.2, rfl, rfl, _, rfl, ?_⟩
      have tk : ss.take (i + 1) = ss.take i ++ [p] := by rw [List.take_add_one, hp]; rfl
      have li : (ss.take i).length = i := by rw [List.length_take]; omega
      have ap := tripF_app (ss.take i) p 0
      rw [li, Nat.zero_add] at ap
      by_cases c : p.1 < p.2
      · rw [decide_eq_true c]
        dsimp only
        rw [if_pos rfl]
        refine ⟨_, rfl, t2, _, 1, _, rfl, rfl, ht2, rfl, _, rfl, t2, _, 0, _, rfl, rfl, ht2, rfl, _, rfl, (by show 3 ≤ sizeLine; decide), fun t3 n3 => ?_⟩
        have sC := same_new (o := .tup [.int p.2, .int p.1, .int (i : Nat)]) n3
        have g3 := upd_same (H := H6) (a := t3) (o := .tup [.int p.2, .int p.1, .int (i : Nat)])
        have few := tripF_len (ss.take i) 0
        have lw := trs_len tw
        refine ⟨ws, sC _ _ hD2, by rw [lw, sizeLine_eq]; omega, ws ++ [.ref t3], upd_same, ?_, fun b u n e => by rw [upd_ne n]; exact sC _ _ (kp2 b u n e)⟩
        rw [tk, ap, if_pos c]
        refine trs_put (sC _ _ hD2) (trs_app (trs_mapF (fun _ _ => Vz.sqT_same sC) tw2) ⟨⟨t3, rfl, SqT.of g3⟩, True.intro⟩)
      · rw [decide_eq_false c]
        dsimp only
        rw [if_neg (by decide)]
        refine ⟨ws, hD2, ?_, kp2⟩
        rw [tk, ap, if_neg c, List.append_nil]
        exact tw2
    · rintro H5 ⟨ws, hD, tw, kp⟩
      have tk2 : ss.take zs.length = ss := List.take_of_length_le (by omega)
      rw [tk2] at tw
      have sA : Same H4 H5 := fun b u e => kp b u (fun z => by rw [z, nD] at e; cases e) e
      have few := tripF_len ss 0
      have lw := trs_len tw
      have bdt : ∀ t ∈ tripF ss 0, BdT t ∧ t.1 ≤ os.length ∧ 0 ≤ t.2.1 ∧ t.2.1 < t.1 ∧ t.2.2 < ss.length := fun t ht => by
        obtain ⟨p, hp, e1, e2, e3, e4, e5⟩ := tripF_mem ht
        obtain ⟨b1, b2, b3, b4⟩ := bd p hp
        unfold BdT
        rw [e1, e2]
        refine ⟨⟨by omega, by omega, by omega, by omega, by omega, by omega⟩, by omega, by omega, by omega, by omega⟩
      refine ⟨D, ws, rfl, SqL.of hD, by omega, fun x hx => ?_, fun zT p5 pm pw n5 => ?_⟩
      · obtain ⟨j, hj⟩ := List.getElem?_of_mem hx
        obtain ⟨p, t, hp, rfl, ht⟩ := trs_at tw hj
        obtain ⟨⟨a1, a2, a3, a4, a5, a6⟩, _⟩ := bdt p (List.mem_of_getElem? hp)
        refine ⟨[p.1, p.2.1, p.2.2], ⟨t, rfl, ht⟩, rfl, fun m hm => ?_⟩
        simp only [List.mem_cons, List.not_mem_nil, or_false] at hm
        rcases hm with z | z | z <;> rw [z] <;> omega
      obtain ⟨ts, tT, pT⟩ := trs_perm pm.symm _ tw
      have mT : ∀ t ∈ ts, BdT t ∧ t.1 ≤ os.length ∧ 0 ≤ t.2.1 ∧ t.2.1 < t.1 ∧ t.2.2 < ss.length := fun t ht => bdt t (pT.mem_iff.mpr ht)
      have so := trs_sorted tT (fun t ht => (mT t ht).1) pw
      have sc := trs_code tT pw
      have lT : ts.length ≤ ss.length := by rw [← pT.length_eq]; exact few
      have lzT := trs_len tT
      have n52 := ne_of (sA _ _ h2) n5
      have n53 := ne_of (sA _ _ h3) n5
      have n54 := ne_of (sA _ _ h4) n5
      have sB := (s4.trans sA).trans (same_new (o := .lst zT) n5)
      have h5 := upd_same (H := H5) (a := p5) (o := .lst zT)
      have h2 := (same_new (o := .lst zT) n5) _ _ (sA _ _ h2)
      have h3 := (same_new (o := .lst zT) n5) _ _ (sA _ _ h3)
      have h4 := (same_new (o := .lst zT) n5) _ _ (sA _ _ h4)
      have tT := trs_mapF (fun _ _ => Vz.sqT_same (same_new (o := .lst zT) n5)) tT
      generalize upd H5 p5 (.lst zT) = H6 at sB h5 h2 h3 h4 tT ⊢
      refine ⟨p5, rfl, ⟨_, SqL.of h5⟩, ?_⟩
      have base0 : PInv os.length ss.length 0 ⟨List.replicate ss.length 0, [], [], 0, 0⟩ := ⟨Nat.zero_le _, (fun _ h => nomatch h), (fun _ h => nomatch h), Nat.le_refl _, Nat.le_refl _, List.length_replicate, .inl rfl⟩
      have pre : ∀ i, i ≤ ts.length → PInv os.length ss.length i ((ts.take i).foldl (stepP os) ⟨List.replicate ss.length 0, [], [], 0, 0⟩) ∧ ∀ t ∈ ts.drop i, (((ts.take i).foldl (stepP os) ⟨List.replicate ss.length 0, [], [], 0, 0⟩).bg : Int) ≤ t.1 := fun i hi => by
        have z := plan_inv (os := os) (ts.take i) (ts.drop i) 0 ⟨List.replicate ss.length 0, [], [], 0, 0⟩ base0 (fun t ht => by
          rw [List.take_append_drop] at ht
          obtain ⟨_, a1, a2, a3, _⟩ := mT t ht
          exact ⟨a1, a2, a3, by show (0 : Int) ≤ t.1; omega⟩) (by rw [List.take_append_drop]; exact so)
        rw [List.length_take, Nat.min_eq_left hi, Nat.zero_add] at z
        exact z
      refine for_it (walk_list (K := K) (a := p5) (xs := zT)) (fun i σ G => ∃ (x7 x8 x9 x10 x11 x12 x13 x14 : Option V) (zE zK : List V) (st : PSt), st = (ts.take i).foldl (stepP os) ⟨List.replicate ss.length 0, [], [], 0, 0⟩ ∧
        σ = [some (.ref sp), some (.ref o), some (.ref p2), some (.ref p3), some (.ref p4), some (.int st.bg), some (.int st.tot), x7, x8, x9, x10, x11, x12, x13, x14] ∧ Keep3 p2 p3 p4 H6 G ∧
        G p2 = some (.lst (st.pl.map V.int)) ∧ G p3 = some (.lst zE) ∧ Prs K G zE st.en ∧ G p4 = some (.lst zK) ∧ Prs K G zK st.kp) ⟨none, none, none, none, none, none, none, none, [], [], _, rfl, rfl, fun _ _ _ _ _ h => h, h2, h3, True.intro, h4, True.intro⟩ ?_ ?_ ?_
      · rintro i σ G _ ⟨_, _, _, _, _, _, _, _, zE, zK, st, est, rfl, kp3, _⟩
        exact SqL.of (kp3 _ _ n52 n53 n54 h5)
      · rintro i x σ G G2 hi ⟨x7, x8, x9, x10, x11, x12, x13, x14, zE, zK, st, est, rfl, kp3, g2, g3, pE, g4, pK⟩ ⟨rfl, hx⟩
        obtain ⟨t, tt, ht, rfl, htt⟩ := trs_at tT hx
        obtain ⟨inv, nxt⟩ := pre i (by omega)
        rw [← est] at inv nxt
        have hmt := List.mem_of_getElem? ht
        obtain ⟨⟨a1, a2, a3, a4, a5, a6⟩, b1, b2, b3, b4⟩ := mT t hmt
        have nb : (st.bg : Int) ≤ t.1 := nxt t (by
          obtain ⟨hl, e⟩ := List.getElem?_eq_some_iff.mp ht
          rw [List.drop_eq_getElem_cons hl, e]
          exact List.mem_cons_self)
        have bgn := inv.bg
        refine ⟨tt, _, rfl, sqT_k3 kp3 h2 h3 h4 htt, rfl, _, _, rfl, _, _, rfl, _, _, rfl, rfl, ?_⟩
        refine ⟨_, rfl, _, rfl, (st.bg : Int), t.1, rfl, ⟨by omega, by omega, by omega, by omega⟩, ?_⟩
        refine for_it (walk_range (lo := st.bg) (n := (t.1 - st.bg).toNat)) (fun j σ G => ∃ (x10 x11 x12 x13 x14 : Option V) (zK : List V),
          σ = [some (.ref sp), some (.ref o), some (.ref p2), some (.ref p3), some (.ref p4), some (.int st.bg), some (.int st.tot), some (.int t.1), some (.int t.2.1), some (.int t.2.2), x10, x11, x12, x13, x14] ∧ Keep3 p2 p3 p4 H6 G ∧
          G p2 = some (.lst (st.pl.map V.int)) ∧ G p3 = some (.lst zE) ∧ Prs K G zE st.en ∧ G p4 = some (.lst zK) ∧ Prs K G zK (pushN os st.tot st.kp st.bg j)) ⟨x10, x11, x12, x13, x14, zK, rfl, kp3, g2, g3, pE, g4, pK⟩ ?_ ?_ ?_
        · intro _ _ _ _ _; trivial
        · rintro j x σ G1 G2 hj ⟨x10, x11, x12, x13, x14, zK, rfl, kp3, g2, g3, pE, g4, pK⟩ ⟨rfl, rfl⟩
          have lj : st.bg + j < os.length := by omega
          obtain ⟨y, hy⟩ : ∃ y, ys[st.bg + j]? = some y := ⟨_, List.getElem?_eq_getElem (by omega)⟩
          obtain ⟨p, to, hp, rfl, hto⟩ := prs_at po hy
          have go : G2 o = some (.tup ys) := kp3 _ _ (ne_of ho f2).symm (ne_of ho f3).symm (ne_of ho f4).symm (sB _ _ ho)
          have hto := sqT_k3 kp3 h2 h3 h4 (Vz.sqT_same sB hto)
          have ec : costA os (st.bg + j) = p.2 := by unfold costA; rw [hp]; rfl
          refine ⟨_, rfl, _, rfl, o, ys, _, .ref to, rfl, rfl, SqT.of go, ?_, to, _, 1, _, rfl, rfl, hto, rfl, _, rfl, _, _, rfl, rfl, ?_⟩
          · rw [show (st.bg : Int) + j = ((st.bg + j : Nat) : Int) by omega]
            exact at_nat hy
          refine while_ex (fun σ G => ∃ (zL : List V) (L : List (Int × Int)),
              σ = [some (.ref sp), some (.ref o), some (.ref p2), some (.ref p3), some (.ref p4), some (.int st.bg), some (.int st.tot), some (.int t.1), some (.int t.2.1), some (.int t.2.2), some (.int ((st.bg : Int) + j)), some (.int (p.2 + st.tot)), x12, x13, x14] ∧ Keep3 p2 p3 p4 H6 G ∧
              G p2 = some (.lst (st.pl.map V.int)) ∧ G p3 = some (.lst zE) ∧ Prs K G zE st.en ∧ G p4 = some (.lst zL) ∧ Prs K G zL L ∧ popK (p.2 + st.tot) L = popK (p.2 + st.tot) (pushN os st.tot st.kp st.bg j))
            (fun _ G => match G p4 with | some (.lst z) => z.length | _ => 0)
            (fun σ G => ∃ (zL : List V),
              σ = [some (.ref sp), some (.ref o), some (.ref p2), some (.ref p3), some (.ref p4), some (.int st.bg), some (.int st.tot), some (.int t.1), some (.int t.2.1), some (.int t.2.2), some (.int ((st.bg : Int) + j)), some (.int (p.2 + st.tot)), x12, x13, x14] ∧ Keep3 p2 p3 p4 H6 G ∧
              G p2 = some (.lst (st.pl.map V.int)) ∧ G p3 = some (.lst zE) ∧ Prs K G zE st.en ∧ G p4 = some (.lst zL) ∧ Prs K G zL (popK (p.2 + st.tot) (pushN os st.tot st.kp st.bg j)))
            ⟨zK, _, rfl, kp3, g2, g3, pE, g4, pK, rfl⟩ ?_ ?_
          · rintro σ G ⟨zL, L, rfl, kp3, g2, g3, pE, g4, pL, el⟩ R rt rf
            refine ⟨_, rfl, _, .inl ⟨zL, SqL.of g4, rfl⟩, ?_⟩
            rcases List.eq_nil_or_concat L with e | ⟨L0, e, eL⟩
            · subst e
              have ez : zL = [] := by have := prs_len pL; exact List.length_eq_zero_iff.mp this
              subst ez
              rw [if_neg (by decide)]
              rw [popK_nil] at el
              refine rf _ ⟨[], rfl, kp3, g2, g3, pE, g4, ?_⟩
              rw [← el]; exact True.intro
            · rw [List.concat_eq_append] at eL
              subst eL
              obtain ⟨zr, tE, ez, pr, hE⟩ := prs_snoc e L0 zL pL
              subst ez
              rw [show (!(zr ++ [V.ref tE]).isEmpty) = true by cases zr <;> rfl, if_pos rfl]
              refine ⟨_, rfl, _, rfl, p4, _, _, _, rfl, rfl, SqL.of g4, at_last zr (.ref tE), tE, _, 1, _, rfl, rfl, hE, rfl, _, rfl, _, _, rfl, rfl, _, rfl, ?_⟩
              rw [popK_app] at el
              by_cases c : e.2 ≥ p.2 + st.tot
              · rw [if_pos c] at el
                rw [decide_eq_true (show p.2 + st.tot ≤ e.2 from c)]
                refine rt _ ⟨_, rfl, .inl ⟨rfl, _, SqL.of g4⟩, p4, _, .ref tE, rfl, rfl, g4, (by simp), ?_⟩
                rw [List.dropLast_concat]
                refine ⟨⟨zr, L0, rfl, ?_, ?_, ?_, ?_, upd_same, prs_put g4 pr, el⟩, ?_⟩
                · intro d u a b c h; rw [upd_ne c]; exact kp3 d u a b c h
                · rw [upd_ne n42.symm]; exact g2
                · rw [upd_ne n43.symm]; exact g3
                · exact prs_put g4 pE
                · rw [upd_same, g4]
                  dsimp only
                  rw [List.length_append, List.length_singleton]; omega
              · rw [if_neg c] at el
                rw [decide_eq_false (show ¬ p.2 + st.tot ≤ e.2 from c)]
                refine rf _ ⟨_, rfl, kp3, g2, g3, pE, g4, ?_⟩
                rw [← el]; exact pL
          · rintro σ G ⟨zL, rfl, kp3, g2, g3, pE, g4, pL⟩
            refine ⟨_, rfl, .inl ⟨rfl, _, SqL.of g4⟩, _, rfl, _, rfl, (by show 2 ≤ sizeLine; decide), fun T1 nT => ?_⟩
            have sT := same_new (o := .tup [.int ((st.bg : Int) + j), .int (p.2 + st.tot)]) nT
            have l1 := prs_len pL
            have l2 := popK_len (p.2 + st.tot) (pushN os st.tot st.kp st.bg j)
            have l3 := pushN_len (os := os) (tot := st.tot) (L := st.kp) (b := st.bg) j
            have l4 := inv.kl
            refine ⟨p4, _, _, rfl, rfl, sT _ _ g4, (by rw [sizeLine_eq]; omega), ?_⟩
            refine ⟨_, _, x12, x13, x14, _, rfl, ?_, ?_, ?_, ?_, upd_same, ?_⟩
            · intro d u a b c h; rw [upd_ne c]; exact sT _ _ (kp3 d u a b c h)
            · rw [upd_ne n42.symm]; exact sT _ _ g2
            · rw [upd_ne n43.symm]; exact sT _ _ g3
            · exact prs_put (sT _ _ g4) (prs_map sT pE)
            · refine prs_put (sT _ _ g4) ?_
              show Prs K _ _ (popK (costA os (st.bg + j) + st.tot) (pushN os st.tot st.kp st.bg j) ++ [(((st.bg + j : Nat) : Int), costA os (st.bg + j) + st.tot)])
              rw [ec]
              refine prs_app (prs_map sT pL) ⟨⟨T1, rfl, ?_⟩, True.intro⟩
              have e0 : ((st.bg + j : Nat) : Int) = (st.bg : Int) + j := by omega
              show SqT K _ T1 [V.int ((st.bg + j : Nat) : Int), V.int (p.2 + st.tot)]
              rw [e0]
              exact SqT.of upd_same
        · rintro σ G1 ⟨x10, x11, x12, x13, x14, zK, rfl, kp3, g2, g3, pE, g4, pK⟩
          have tn : ((t.1.toNat : Nat) : Int) = t.1 := Int.toNat_of_nonneg (by omega)
          have ej : (t.1 - st.bg).toNat = t.1.toNat - st.bg := by omega
          rw [ej] at pK
          obtain ⟨q1, q2, q3⟩ := pushed (os := os) inv nb b1 b2 b3
          have tk : (ts.take (i + 1)).foldl (stepP os) ⟨List.replicate ss.length 0, [], [], 0, 0⟩ = stepP os st t := by
            rw [List.take_add_one, ht, List.foldl_append, ← est]; rfl
          refine ⟨_, rfl, ?_⟩
          refine met_reads rfl rfl g3 pE ?_
          cases hm : metB st.en t.2.1 with
          | true =>
            refine iteT ?_
            refine ⟨some (.int t.1), some (.int t.2.1), some (.int t.2.2), x10, x11, x12, x13, x14, zE, zK, _, tk.symm, ?_, kp3, ?_, g3, ?_, g4, ?_⟩
            · rw [stepP_yes hm]; dsimp only; rw [tn]; rfl
            · rw [stepP_yes hm]; exact g2
            · rw [stepP_yes hm]; exact pE
            · rw [stepP_yes hm]; exact pK
          | false =>
            refine iteF ?_
            obtain ⟨R, l, eR2, lk⟩ := found (os := os) inv nb b1 b2 b3 hm
            have lkp : atF t.2.1 (pushN os st.tot st.kp st.bg (t.1.toNat - st.bg)) < (pushN os st.tot st.kp st.bg (t.1.toNat - st.bg)).length := by rw [eR2] at lk ⊢; rw [List.length_append, List.length_singleton]; omega
            have lkz := prs_len pK
            have no := fun {k e} => stepP_no (os := os) (k := k) (e := e) hm rfl
            generalize pushN os st.tot st.kp st.bg (t.1.toNat - st.bg) = kp at q1 q2 pK lkp lkz no
            obtain ⟨e, he, pe⟩ := tw_stop kp lkp
            have no := no rfl he
            have he : kp[atF t.2.1 kp]? = some e := he
            refine while_ex (fun σ G => G = G1 ∧ ∃ a : Nat, a ≤ atF t.2.1 kp ∧
                σ = [some (.ref sp), some (.ref o), some (.ref p2), some (.ref p3), some (.ref p4), some (.int t.1), some (.int st.tot), some (.int t.1), some (.int t.2.1), some (.int t.2.2), x10, x11, some (.int a), x13, x14])
              (fun σ _ => match (σ[12]? : Option (Option V)) with | some (some (V.int a)) => atF t.2.1 kp - a.toNat | _ => 0)
              (fun σ G => G = G1 ∧ σ = [some (.ref sp), some (.ref o), some (.ref p2), some (.ref p3), some (.ref p4), some (.int t.1), some (.int st.tot), some (.int t.1), some (.int t.2.1), some (.int t.2.2), x10, x11, some (.int (atF t.2.1 kp : Nat)), x13, x14])
              ⟨rfl, 0, Nat.zero_le _, rfl⟩ ?_ ?_
            · rintro σ G ⟨rfl, a, la, rfl⟩ R rt rf
              rcases Nat.lt_or_ge a (atF t.2.1 kp) with c | c
              · obtain ⟨ea, ha, pa⟩ := tw_get kp a c
                obtain ⟨tE, hz, hE⟩ := prs_at2 pK ha
                refine ⟨_, rfl, _, rfl, p4, _, _, .ref tE, rfl, rfl, SqL.of g4, at_nat hz, tE, _, 0, _, rfl, rfl, hE, rfl, _, rfl, _, _, rfl, rfl, _, rfl, ?_⟩
                rw [pa]
                refine rt _ ⟨_, rfl, _, _, rfl, rfl, ⟨rfl, a + 1, c, rfl⟩, ?_⟩
                show atF t.2.1 kp - ((a : Int) + 1).toNat < atF t.2.1 kp - ((a : Int)).toNat
                omega
              · have ea : a = atF t.2.1 kp := by omega
                subst ea
                obtain ⟨tE, hz, hE⟩ := prs_at2 pK he
                refine ⟨_, rfl, _, rfl, p4, _, _, .ref tE, rfl, rfl, SqL.of g4, at_nat hz, tE, _, 0, _, rfl, rfl, hE, rfl, _, rfl, _, _, rfl, rfl, _, rfl, ?_⟩
                rw [pe]
                exact rf _ ⟨rfl, rfl⟩
            · rintro σ G ⟨rfl, rfl⟩
              obtain ⟨tE, hz, hE⟩ := prs_at2 pK he
              refine ⟨_, rfl, _, rfl, p4, _, _, .ref tE, rfl, rfl, SqL.of g4, at_nat hz, tE, _, rfl, hE, rfl, _, _, rfl, _, _, rfl, rfl, ?_⟩
              refine ⟨_, rfl, _, rfl, _, _, rfl, rfl, p4, zK, atF t.2.1 kp + 1, rfl, rfl, g4, by omega, by omega, ?_⟩
              have g2' : upd G p4 (.lst (zK.drop (atF t.2.1 kp + 1))) p2 = some (.lst (st.pl.map V.int)) := by rw [upd_ne n42.symm]; exact g2
              have g3' : upd G p4 (.lst (zK.drop (atF t.2.1 kp + 1))) p3 = some (.lst zE) := by rw [upd_ne n43.symm]; exact g3
              have g4' := upd_same (H := G) (a := p4) (o := .lst (zK.drop (atF t.2.1 kp + 1)))
              have pE' := prs_put (ws := zK.drop (atF t.2.1 kp + 1)) g4 pE
              have pK' := prs_put (ws := zK.drop (atF t.2.1 kp + 1)) g4 (prs_drop (atF t.2.1 kp + 1) _ _ pK)
              have kp3' : Keep3 p2 p3 p4 H6 (upd G p4 (.lst (zK.drop (atF t.2.1 kp + 1)))) := by intro d u a b c h; rw [upd_ne c]; exact kp3 d u a b c h
              generalize upd G p4 (.lst (zK.drop (atF t.2.1 kp + 1))) = G' at g2' g3' g4' pE' pK' kp3' ⊢
              have lpl := inv.pl
              refine ⟨_, rfl, _, rfl, _, _, rfl, rfl, _, rfl, _, rfl, p2, _, _, t.2.2.toNat, rfl, rfl, g2', ?_, ?_⟩
              · unfold ixN
                rw [if_pos (by omega), List.length_map, if_pos (by omega)]
              have g2'' : upd G' p2 (.lst ((st.pl.map V.int).set t.2.2.toNat (.int (e.2 - st.tot)))) p2 = some (.lst ((st.pl.set t.2.2.toNat (e.2 - st.tot)).map V.int)) := by rw [upd_same, List.map_set]
              have g3'' : upd G' p2 (.lst ((st.pl.map V.int).set t.2.2.toNat (.int (e.2 - st.tot)))) p3 = some (.lst zE) := by rw [upd_ne n32]; exact g3'
              have g4'' : upd G' p2 (.lst ((st.pl.map V.int).set t.2.2.toNat (.int (e.2 - st.tot)))) p4 = some (.lst (zK.drop (atF t.2.1 kp + 1))) := by rw [upd_ne n42]; exact g4'
              have pE'' := prs_put (ws := (st.pl.map V.int).set t.2.2.toNat (.int (e.2 - st.tot))) g2' pE'
              have pK'' := prs_put (ws := (st.pl.map V.int).set t.2.2.toNat (.int (e.2 - st.tot))) g2' pK'
              have kp3'' : Keep3 p2 p3 p4 H6 (upd G' p2 (.lst ((st.pl.map V.int).set t.2.2.toNat (.int (e.2 - st.tot))))) := by intro d u a b c h; rw [upd_ne a]; exact kp3' d u a b c h
              refine ⟨_, rfl, ?_⟩
              generalize upd G' p2 (.lst ((st.pl.map V.int).set t.2.2.toNat (.int (e.2 - st.tot)))) = G'' at g2'' g3'' g4'' pE'' pK'' kp3'' ⊢
              refine ⟨_, rfl, .inl ⟨rfl, _, SqL.of g3''⟩, _, rfl, _, rfl, (by show 2 ≤ sizeLine; decide), fun T1 nT => ?_⟩
              have sT := same_new (o := .tup [.int t.1, .int e.1]) nT
              have lzE := prs_len pE
              have lel := inv.el
              refine ⟨p3, _, _, rfl, rfl, sT _ _ g3'', (by rw [sizeLine_eq]; omega), ?_⟩
              refine ⟨some (.int t.1), some (.int t.2.1), some (.int t.2.2), x10, some (.int e.2), some (.int (atF t.2.1 kp : Nat)), some (.int e.1), x14, _, zK.drop (atF t.2.1 kp + 1), _, tk.symm, ?_, ?_, ?_, upd_same, ?_, ?_, ?_⟩
              · rw [no]; dsimp only; rw [tn]; rfl
              · intro d u a b c h; rw [upd_ne b]; exact sT _ _ (kp3'' d u a b c h)
              · rw [no, upd_ne n32.symm]; exact sT _ _ g2''
              · rw [no]
                exact prs_put (sT _ _ g3'') (prs_app (prs_map sT pE'') ⟨⟨T1, rfl, SqT.of upd_same⟩, True.intro⟩)
              · rw [upd_ne n43]; exact sT _ _ g4''
              · rw [no]
                exact prs_put (sT _ _ g3'') (prs_map sT pK'')
      · rintro σ G ⟨x7, x8, x9, x10, x11, x12, x13, x14, zE, zK, st, est, rfl, kp3, g2, g3, pE, g4, pK⟩
        have tkT : ts.take zT.length = ts := List.take_of_length_le (by omega)
        rw [tkT] at est
        have sG : Same H G := fun d u e => kp3 d u (ne_of e f2).symm (ne_of e f3).symm (ne_of e f4).symm (sB _ _ e)
        refine ⟨_, rfl, _, rfl, (by show 2 ≤ sizeLine; decide), fun T1 nT => ?_⟩
        have sT := same_new (o := .tup [.ref p2, .ref p3]) nT
        have inv := (pre ts.length (Nat.le_refl _)).1
        rw [List.take_length, ← est] at inv
        have ep : planT os ss.length ts = st := est.symm
        refine q _ T1 p2 p3 zE ts (sG.trans sT) upd_same pT.symm sc ?_ (sT _ _ g3) ?_ ?_
        · rw [ep]; exact sT _ _ g2
        · rw [ep]; exact prs_map sT pE
        · rw [ep]; exact inv
end
end Toy
set_option Elab.async false
set_option linter.all false
set_option maxRecDepth 100000
set_option maxHeartbeats 400000
namespace Toy
open PySem PySem.Spec PyProof.Rows L2
def lastC (c : List Int) : Int := c.getLast?.getD 0
def chF (c : List Int) (e : Int × Int) : List Int := if (c.isEmpty || decide (lastC c ≥ e.1)) = true then c ++ [e.2] else c
theorem chF_mem {P : Int → Prop} : ∀ (l : List (Int × Int)) (c : List Int), (∀ u ∈ c, P u) → (∀ e ∈ l, P e.2) → ∀ u ∈ l.foldl chF c, P u
  | [], c, h, _, u, hu => h u hu
  | e :: l, c, h, he, u, hu => by
    refine chF_mem l (chF c e) (fun v hv => ?_) (fun x hx => he x (List.mem_cons_of_mem _ hx)) u hu
    unfold chF at hv
    split at hv
    · rcases List.mem_append.mp hv with z | z
      · exact h v z
      · rw [List.mem_singleton.mp z]; exact he e List.mem_cons_self
    · exact h v hv
theorem chF_len : ∀ (l : List (Int × Int)) (c : List Int), (l.foldl chF c).length ≤ c.length + l.length
  | [], c => Nat.le_refl _
  | e :: l, c => by
    have := chF_len l (chF c e)
    have z : (chF c e).length ≤ c.length + 1 := by
      unfold chF
      split
      · rw [List.length_append, List.length_singleton]; exact Nat.le_refl _
      · omega
    rw [List.foldl_cons, List.length_cons]
    omega
def chosenF (en : List (Int × Int)) : List Int := en.reverse.foldl chF []
def momA (os : List (Int × Int)) (c : Nat) : Int := ((os[c]?).map (·.1)).getD 0
def momsF (os en : List (Int × Int)) : List Int := (chosenF en).reverse.map fun u => momA os u.toNat
theorem firstN_le (ms : List Int) (b : Int) : firstN ms b ≤ ms.length := by
  unfold firstN
  exact (List.takeWhile_prefix _).length_le
theorem lastC_app (c : List Int) (u : Int) : lastC (c ++ [u]) = u := by
  unfold lastC
  rw [List.getLast?_append, List.getLast?_singleton]
  rfl
theorem or_reads {K : PySem.W.Frag} {G : Hp} {σ : L2.St} {p : Addr} {c : List Int} {f : Int} {Q : Bool → Hp → Prop} (e4 : σ[4]? = some (some (.ref p))) (e5 : σ[5]? = some (some (.int f))) (g : G p = some (.lst (c.map V.int))) (q : Q (c.isEmpty || decide (lastC c ≥ f)) G) :
    tOr (tNot (fun σ H Q => tVar 4 σ H fun x H' => ∃ k, TruV K x H' k ∧ Q k H')) (tTest (tOp (rI0 fun i j => V.bl (decide (j ≤ i))) (tOp (rIxL K) (tVar 4) (tUn (rU fun i => V.int (-i)) (tC (V.int 1)))) (tVar 5))) σ G Q := by
  refine ⟨_, e4, _, .inl ⟨_, SqL.of g, rfl⟩, ?_⟩
  rcases List.eq_nil_or_concat c with e | ⟨L0, e, eL⟩
  · subst e
    exact q
  · rw [List.concat_eq_append] at eL
    subst eL
    have e1 : (!(!((L0 ++ [e]).map V.int).isEmpty)) = false := by cases L0 <;> rfl
    rw [e1, if_neg (by decide)]
    rw [List.map_append] at g
    refine ⟨_, e4, _, rfl, p, _, _, _, rfl, rfl, SqL.of g, at_last (L0.map V.int) (.int e), _, e5, _, _, rfl, rfl, _, rfl, ?_⟩
    rw [lastC_app, show (L0 ++ [e]).isEmpty = false by cases L0 <;> rfl, Bool.false_or] at q
    exact q
section
variable {P : Program} {w : World} {K : PySem.W.Frag} {mg : Str → Option Value} {base : Heap}
def sp_cheapest (K : PySem.W.Frag) (CW CO : Addr) : Sp := fun vs H Q E => ∃ u o, vs = [u, o] ∧ sp_chk CW CO (fun H xs ys => xs.length < 64 ∧ ys.length ≤ 1000 ∧ ∃ ws os, Prs K H xs ws ∧ Prs K H ys os ∧ (os.map (·.1)).Pairwise (· < ·) ∧ ∀ ts, ts.Perm (tripF (spanL ws os) 0) → ts.Pairwise (fun a b => codeT a ≤ codeT b) →
  ∀ H' r a b, Same H H' → H' r = some (.tup [.ref a, .ref b]) → H' a = some (.tup ((momsF os (planT os ws.length ts).en).map V.int)) → H' b = some (.tup ((planT os ws.length ts).pl.map V.int)) → Q (.ref r) H') H u o E
theorem ok_cheapest (T : Txt K mg) : FnOk P w K mg base (L2.CX P w) 5 T.a_cheapest T.d_cheapest ["windows", "offers"] (sp_cheapest K T.C_BadWindow T.C_BadOffer) := by
  refine T.F_cheapest.okX sc_cheapest (fun vs H Q E h => ?_) (fun cdv A outer s H vs Q E hr h => ?_)
  · obtain ⟨u, o, rfl, _⟩ := h; rfl
  · obtain ⟨u, o, rfl, hc⟩ := h
    refine ⟨_, (pss_cons (ps_expr (pe_call (ok__check T) (hr.mono (by decide)) (by rfl) T.g__check T.F__check.kp T.b__check .nil (passes_call (takes_of (E := E) rfl rfl rfl rfl) (fun _ _ _ _ h => h)) (pa_cons (pv 0) (pa_cons (pv 1) pa_nil))))
        (pss_cons (ps_asg (pe_call (ok__pledge T) (hr.mono (by decide)) (by rfl) T.g__pledge T.F__pledge.kp T.b__pledge .nil pass0 (pa_cons (pe_call (ok__spans T) (hr.mono (by decide)) (by rfl) T.g__spans T.F__spans.kp T.b__spans .nil pass0 (pa_cons (pv 0) (pa_cons (pv 1) pa_nil))) (pa_cons (pv 1) pa_nil))) (pg_tup rfl (pgs_cons (pg_name (i := 2) sc_cheapest.nd rfl (by first | exact Or.inl rfl | exact Or.inr rfl)) (pgs_cons (pg_name (i := 3) sc_cheapest.nd rfl (by first | exact Or.inl rfl | exact Or.inr rfl)) pgs_nil))))
        (pss_cons (ps_set (i := 4) sc_cheapest.nd rfl (by first | exact Or.inl rfl | exact Or.inr rfl) (pe_lst pa_nil))
        (pss_cons (ps_for (passes_of rfl) rfl (pi_reversed (by rfl) T.z_reversed (pa_cons (pv 3) pa_nil)) (pg_tup rfl (pgs_cons (pg_name (i := 5) sc_cheapest.nd rfl (by first | exact Or.inl rfl | exact Or.inr rfl)) (pgs_cons (pg_name (i := 6) sc_cheapest.nd rfl (by first | exact Or.inl rfl | exact Or.inr rfl)) pgs_nil))) (pss_one (ps_if (PW.pt (pw_or (pt_not (pt_truth (pv 4) (by intro _; rfl))) (pw_or1 (pt_cmpR op_ge (pe_ix ix_list (pv 4) (pe_un un_neg pe_int) (fun _ _ => rfl)) (pv 5) (nomark _))))) (pss_one (ps_expr (pe_bm PySem.F.plainAttrs_list PySem.F.slot_list_append PySem.F.type_list_append mt_append (pv 4) (pa_cons (pv 6) pa_nil)))) pss_nil)))
        (pss_one (ps_ret (pe_tup (pa_cons (pe_tupleOf (by rfl) T.z_tuple (pe_lc (own := [("number", 7)]) (g := gName 7) (by rfl) sc_cheapest.nd (pi_list (pe_revL (pv 4))) (blkOk_by (own := [("number", 7)]) (N := ["windows", "offers", "pledges", "ends", "chosen", "behind", "used_up", "number"]) (sc := defScope s_cheapest) (by decide +kernel)) (fun _ _ _ _ _ => pg_name (i := 7) sc_cheapest.nd rfl (Or.inl rfl)) (fun _ _ _ _ _ => pts_nil) (fun _ _ _ _ _ => (pe_ix (r := L2.rIxT K) ix_tup (pe_ix (r := L2.rIxT K) ix_tup (pv 1) (pv 7) (fun _ _ => rfl)) pe_int (fun _ _ => rfl))))) (pa_cons (pe_tupleOf (by rfl) T.z_tuple (pv 2)) pa_nil))))))))), ?_⟩
    refine ⟨_, rfl, _, rfl, ?_⟩
    dsimp only [tNil, List.cons_append, List.nil_append, List.append_nil]
    refine chk_use hc fun a b xs ys eu eo ha hb bw bo good H1 s1 => ?_
    subst eu eo
    obtain ⟨lx, ly, ws, os, pw, po, so, good⟩ := good
    have l1 := prs_len pw
    have l2 := prs_len po
    have ha1 := s1 _ _ ha
    have hb1 := s1 _ _ hb
    refine ⟨_, rfl, _, rfl, a, b, xs, ys, ws, os, rfl, SqT.of ha1, prs_map s1 pw, SqT.of hb1, prs_map s1 po, so, (by omega), (by omega), fun H2 r zs s2 hr pz => ?_⟩
    have lsp : (spanL ws os).length = ws.length := by unfold spanL; rw [List.length_map]
    refine ⟨_, rfl, ?_⟩
    dsimp only [tNil, List.cons_append, List.nil_append, List.append_nil]
    refine ⟨r, b, zs, ys, spanL ws os, os, rfl, hr, pz, s2 _ _ hb1, prs_map (s1.trans s2) po, by omega, by omega, fun p hp => ?_, fun H3 r2 aP bE zE ts s3 hr2 pm pcode hP hE pE inv => ?_⟩
    · unfold spanL at hp
      obtain ⟨q, _, e⟩ := List.mem_map.mp hp
      have f1 := firstN_le (os.map (·.1)) q.1
      have f2 := firstN_le (os.map (·.1)) q.2
      rw [List.length_map] at f1 f2
      rw [← e]
      exact ⟨by omega, by omega, by omega, by omega⟩
    rw [lsp] at hP pE inv
    have sA := (s1.trans s2).trans s3
    refine ⟨r2, _, rfl, SqT.of hr2, rfl, _, _, rfl, _, _, rfl, rfl, ?_⟩
    refine ⟨(by show 0 ≤ sizeLine; decide), fun ch nch => ?_⟩
    have s4 := same_new (o := .lst []) nch
    have hC := upd_same (H := H3) (a := ch) (o := .lst [])
    have nE := ne_of hE nch
    have nP := ne_of hP nch
    have hE4 := s4 _ _ hE
    have hP4 := s4 _ _ hP
    have pE4 := prs_map s4 pE
    have sB := sA.trans s4
    have fC := same_none sA nch
    generalize upd H3 ch (.lst []) = H4 at s4 hC hE4 hP4 pE4 sB ⊢
    generalize hpl : planT os ws.length ts = st at *
    have lE := prs_len pE
    refine ⟨_, rfl, bE, zE, rfl, SqL.of hE4, ?_⟩
    refine for_it (walk_rev (K := K) (a := bE) (xs := zE)) (fun i σ G => ∃ (x5 x6 x7 : Option V), σ = [some (.ref a), some (.ref b), some (.ref aP), some (.ref bE), some (.ref ch), x5, x6, x7] ∧ (∀ d u, d ≠ ch → H4 d = some u → G d = some u) ∧
      G ch = some (.lst (((st.en.reverse.take i).foldl chF []).map V.int))) ⟨none, none, none, rfl, fun _ _ _ h => h, hC⟩ ?_ ?_ ?_
    · rintro i σ G _ ⟨_, _, _, rfl, kp, _⟩
      exact SqL.of (kp _ _ nE.symm hE4)
    · rintro i x σ G G2 hi ⟨x5, x6, x7, rfl, kp, gC⟩ ⟨rfl, hx⟩
      obtain ⟨e, t, he, rfl, ht⟩ := prs_at pE4 hx
      have kk : ∀ d u, d ≠ ch → H4 d = some u → G2 d = some u := kp
      have ht2 : SqT K G2 t [.int e.1, .int e.2] := sqT_lst hC kp ht
      have hrev : st.en.reverse[i]? = some e := by
        rw [List.getElem?_reverse (by omega), ← lE]
        exact he
      have tk : (st.en.reverse.take (i + 1)).foldl chF [] = chF ((st.en.reverse.take i).foldl chF []) e := by
        rw [List.take_add_one, hrev, List.foldl_append]; rfl
      have few := chF_len (st.en.reverse.take i) []
      rw [List.length_take] at few
      have el := inv.el
      generalize (st.en.reverse.take i).foldl chF [] = c at gC tk few
      refine ⟨t, _, rfl, ht2, rfl, _, _, rfl, _, _, rfl, rfl, ?_⟩
      refine or_reads rfl rfl gC ?_
      refine ite2 (fun cz => ?_) (fun cz => ?_)
      · refine ⟨_, rfl, .inl ⟨rfl, _, SqL.of gC⟩, _, rfl, ch, _, _, rfl, rfl, gC, ?_, ?_⟩
        · have := pm.length_eq; have := tripF_len (spanL ws os) 0; simp only [List.length_nil] at few; rw [List.length_map, sizeLine_eq]; omega
        · refine ⟨some (.int e.1), some (.int e.2), x7, rfl, fun d u n h => by rw [upd_ne n]; exact kp d u n h, ?_⟩
          rw [upd_same, tk]
          unfold chF
          rw [if_pos cz, List.map_append]; rfl
      · refine ⟨some (.int e.1), some (.int e.2), x7, rfl, kp, ?_⟩
        rw [tk]
        unfold chF
        rw [if_neg cz]; exact gC
    · rintro σ G ⟨x5, x6, x7, rfl, kp, gC⟩
      rw [lE, ← List.length_reverse, List.take_length] at gC
      have gC : G ch = some (.lst ((chosenF st.en).map V.int)) := gC
      have cm := chF_mem (P := fun u => 0 ≤ u ∧ u < os.length) st.en.reverse [] (fun _ h => nomatch h) (fun e he => inv.en e (List.mem_reverse.mp he))
      have cm : ∀ u ∈ (chosenF st.en).reverse, 0 ≤ u ∧ u < os.length := fun u hu => cm u (List.mem_reverse.mp hu)
      have cl : (chosenF st.en).length ≤ 64 := by
        have few := chF_len st.en.reverse []
        have := pm.length_eq
        have := tripF_len (spanL ws os) 0
        have := inv.el
        rw [List.length_reverse] at few
        simp only [List.length_nil] at few
        show (st.en.reverse.foldl chF []).length ≤ 64
        omega
      have gP : G aP = some (.lst (st.pl.map V.int)) := kp _ _ nP.symm hP4
      have sG : Same H G := fun d u e => kp d u (ne_of e fC).symm (sB _ _ e)
      refine ⟨_, rfl, ch, _, rfl, SqL.of gC, fun p5 n5 => ?_⟩
      have s5 := same_new (o := .lst ((chosenF st.en).map V.int).reverse) n5
      have h5 := upd_same (H := G) (a := p5) (o := .lst ((chosenF st.en).map V.int).reverse)
      rw [← List.map_reverse] at s5 h5 ⊢
      have gP5 := s5 _ _ gP
      have sH := sG.trans s5
      generalize upd G p5 (.lst ((chosenF st.en).reverse.map V.int)) = G5 at s5 h5 gP5 sH ⊢
      refine ⟨p5, rfl, ⟨_, SqL.of h5⟩, fun D nD => ?_⟩
      have em : momsF os st.en = (chosenF st.en).reverse.map fun u => momA os u.toNat := rfl
      have cl2 : (chosenF st.en).reverse.length ≤ 64 := by rw [List.length_reverse]; exact cl
      generalize (chosenF st.en).reverse = us at h5 cm cl2 em
      refine lc_it (walk_list (K := K) (a := p5) (xs := us.map V.int)) (fun i H' => H' = upd G5 D (.lst (((us.map fun u => momA os u.toNat).take i).map V.int))) rfl ?_ ?_ ?_
      · rintro i H' _ rfl
        exact SqL.of (same_new nD _ _ h5)
      · rintro i x H7 H8 hi rfl ⟨rfl, hx⟩
        rw [List.length_map] at hi
        rw [List.getElem?_map] at hx
        obtain ⟨u, hu⟩ : ∃ u, us[i]? = some u := ⟨_, List.getElem?_eq_getElem hi⟩
        rw [hu] at hx
        cases hx
        obtain ⟨c1, c2⟩ := cm u (List.mem_of_getElem? hu)
        have sD := same_new (o := .lst (((us.map fun u => momA os u.toNat).take i).map V.int)) nD
        obtain ⟨y, hy⟩ : ∃ y, ys[u.toNat]? = some y := ⟨_, List.getElem?_eq_getElem (by omega)⟩
        obtain ⟨p, to, hp, rfl, hto⟩ := prs_at po hy
        refine ⟨rfl, ?_⟩
        refine ⟨_, rfl, _, rfl, b, ys, u, .ref to, rfl, rfl, SqT.of (sD _ _ (sH _ _ hb)), ?_, to, _, 0, _, rfl, rfl, Vz.sqT_same (sH.trans sD) hto, rfl, ?_⟩
        · rw [show u = ((u.toNat : Nat) : Int) by omega]
          exact at_nat hy
        refine ⟨_, upd_same, ?_, ?_⟩
        · rw [List.length_map, List.length_take, List.length_map, sizeLine_eq]; omega
        · rw [upd_upd]
          congr 2
          rw [List.take_add_one, List.getElem?_map, hu, List.map_append]
          show _ = _ ++ [V.int (momA os u.toNat)]
          unfold momA
          rw [hp]; rfl
      · rintro H7 rfl
        rw [List.take_of_length_le (by rw [List.length_map, List.length_map]; exact Nat.le_refl _), ← em]
        have sD := same_new (o := .lst ((momsF os st.en).map V.int)) nD
        refine .inl ⟨D, _, rfl, SqL.of upd_same, fun t1 m1 => ?_⟩
        have sE := same_new (o := .tup ((momsF os st.en).map V.int)) m1
        refine ⟨_, rfl, .inl ⟨aP, _, rfl, SqL.of (sE _ _ (sD _ _ gP5)), fun t2 m2 => ?_⟩⟩
        have sF := same_new (o := .tup (st.pl.map V.int)) m2
        refine ⟨(by show 2 ≤ sizeLine; decide), fun t3 m3 => ?_⟩
        have s7 := same_new (o := .tup [.ref t1, .ref t2]) m3
        refine good ts pm pcode _ t3 t1 t2 (((sH.trans sD).trans (sE.trans sF)).trans s7) upd_same ?_ ?_
        · rw [hpl]; exact s7 _ _ (sF _ _ upd_same)
        · rw [hpl]; exact s7 _ _ upd_same
end
end Toy
set_option Elab.async false
set_option linter.all false
set_option maxRecDepth 100000
set_option maxHeartbeats 400000
namespace Toy
open PySem PySem.Spec PyProof.Rows L2
/-! ### pairs that stand in the heap -/
def RawP (H : Hp) : List V → List (Int × Int) → Prop
  | [], [] => True
  | x :: xs, p :: ps => (∃ t, x = .ref t ∧ H t = some (.tup [.int p.1, .int p.2])) ∧ RawP H xs ps
  | _, _ => False
theorem rawp_map {H H' : Hp} (f : ∀ t l, H t = some (.tup l) → H' t = some (.tup l)) : ∀ {xs : List V} {ps : List (Int × Int)}, RawP H xs ps → RawP H' xs ps
  | [], [], _ => True.intro
  | _ :: _, _ :: _, ⟨⟨t, e, h⟩, r⟩ => ⟨⟨t, e, f _ _ h⟩, rawp_map f r⟩
theorem rawp_prs {K : PySem.W.Frag} {H : Hp} : ∀ {xs : List V} {ps : List (Int × Int)}, RawP H xs ps → Prs K H xs ps
  | [], [], _ => True.intro
  | _ :: _, _ :: _, ⟨⟨t, e, h⟩, r⟩ => ⟨⟨t, e, SqT.of h⟩, rawp_prs r⟩
theorem rawp_app {H : Hp} : ∀ {xs ys : List V} {ps qs : List (Int × Int)}, RawP H xs ps → RawP H ys qs → RawP H (xs ++ ys) (ps ++ qs)
  | [], _, [], _, _, b => b
  | _ :: _, _, _ :: _, _, ⟨p, r⟩, b => ⟨p, rawp_app r b⟩
theorem rawp_len {H : Hp} : ∀ {xs : List V} {ps : List (Int × Int)}, RawP H xs ps → xs.length = ps.length
  | [], [], _ => rfl
  | _ :: _, _ :: _, ⟨_, r⟩ => by rw [List.length_cons, List.length_cons, rawp_len r]
theorem rawp_two {dd : Addr} {H : Hp} {x : V} {p : Int × Int} (h : ∃ t, x = .ref t ∧ H t = some (.tup [.int p.1, .int p.2])) : Thg2 dd H x := by
  obtain ⟨t, rfl, e⟩ := h
  refine ⟨"tuple", .tup e, fun a xs ea hx y hy => ?_⟩
  cases ea
  rw [e] at hx
  cases hx
  simp only [List.mem_cons, List.not_mem_nil, or_false] at hy
  rcases hy with z | z <;> exact ⟨"int", by rw [z]; exact .int _⟩
theorem rawp_thg {dd : Addr} {H : Hp} : ∀ {xs : List V} {ps : List (Int × Int)}, RawP H xs ps → ∀ x ∈ xs, Thg2 dd H x
  | _ :: _, _ :: _, ⟨a, r⟩, x, h => by
    rcases List.mem_cons.mp h with z | z
    · rw [z]; exact rawp_two a
    · exact rawp_thg r x z
theorem rawp_ofw {H : Hp} {x : V} {p : Int × Int} (h : ∃ t, x = .ref t ∧ H t = some (.tup [.int p.1, .int p.2])) (g : 0 ≤ p.1 ∧ p.1 ≤ p.2) : ofV winL H x = true := by
  obtain ⟨t, rfl, e⟩ := h
  unfold ofV
  simp only [e]
  show (decide (0 ≤ p.1) && decide (p.1 ≤ p.2)) = true
  rw [decide_eq_true g.1, decide_eq_true g.2]; rfl
theorem rawp_ofo {H : Hp} {x : V} {p : Int × Int} (h : ∃ t, x = .ref t ∧ H t = some (.tup [.int p.1, .int p.2])) (g : 0 ≤ p.1 ∧ 1 ≤ p.2 ∧ p.2 ≤ 1000000) : ofV offL H x = true ∧ momV H x = p.1 := by
  obtain ⟨t, rfl, e⟩ := h
  refine ⟨?_, ?_⟩
  · unfold ofV
    simp only [e]
    show (decide (0 ≤ p.1) && (decide (1 ≤ p.2) && decide (p.2 ≤ 1000000))) = true
    rw [decide_eq_true g.1, decide_eq_true g.2.1, decide_eq_true g.2.2]; rfl
  · unfold momV
    simp only [e]
    rfl
theorem rawp_win {H : Hp} : ∀ {xs : List V} {ws : List (Int × Int)} {i : Nat}, RawP H xs ws → (∀ p ∈ ws, 0 ≤ p.1 ∧ p.1 ≤ p.2) → badAt (ofV winL H) xs i = none
  | [], [], _, _, _ => rfl
  | x :: xs, p :: ws, i, ⟨a, r⟩, g => by
    unfold badAt
    rw [if_pos (rawp_ofw a (g p List.mem_cons_self))]
    exact rawp_win r fun q hq => g q (List.mem_cons_of_mem _ hq)
theorem rawp_chk {H : Hp} : ∀ {xs : List V} {os : List (Int × Int)} {i : Nat} {last : Int}, RawP H xs os → (∀ p ∈ os, 0 ≤ p.1 ∧ 1 ≤ p.2 ∧ p.2 ≤ 1000000) → (os.map (·.1)).Pairwise (· < ·) → (∀ p ∈ os, last < p.1) → chkO H xs last i = none
  | [], [], _, _, _, _, _, _ => rfl
  | x :: xs, p :: os, i, last, ⟨a, r⟩, g, pw, hl => by
    obtain ⟨e1, e2⟩ := rawp_ofo a (g p List.mem_cons_self)
    rw [List.map_cons] at pw
    obtain ⟨w1, w2⟩ := List.pairwise_cons.mp pw
    unfold chkO
    rw [e2, if_pos ⟨e1, hl p List.mem_cons_self⟩]
    exact rawp_chk r (fun q hq => g q (List.mem_cons_of_mem _ hq)) w2 fun q hq => w1 q.1 (List.mem_map_of_mem hq)
/-- one that isn't, behind some that are -/
theorem rawp_win_bad {H : Hp} {y : V} (hy : ofV winL H y = false) (r2 : List V) : ∀ {xs : List V} {ws : List (Int × Int)} {i : Nat}, RawP H xs ws → (∀ p ∈ ws, 0 ≤ p.1 ∧ p.1 ≤ p.2) → badAt (ofV winL H) (xs ++ y :: r2) i = some (i + xs.length)
  | [], [], i, _, _ => by
    show badAt (ofV winL H) (y :: r2) i = _
    unfold badAt
    rw [if_neg (by rw [hy]; decide)]; rfl
  | x :: xs, p :: ws, i, ⟨a, r⟩, g => by
    show badAt (ofV winL H) (x :: (xs ++ y :: r2)) i = _
    unfold badAt
    rw [if_pos (rawp_ofw a (g p List.mem_cons_self)), rawp_win_bad hy r2 r fun q hq => g q (List.mem_cons_of_mem _ hq), List.length_cons]
    congr 1; omega
theorem rawp_chk_bad {H : Hp} {y : V} (hb : ofV offL H y = false) (r2 : List V) : ∀ {xs : List V} {os : List (Int × Int)} {i : Nat} {last : Int}, RawP H xs os → (∀ p ∈ os, 0 ≤ p.1 ∧ 1 ≤ p.2 ∧ p.2 ≤ 1000000) → (os.map (·.1)).Pairwise (· < ·) → (∀ p ∈ os, last < p.1) → chkO H (xs ++ y :: r2) last i = some (i + xs.length)
  | [], [], i, last, _, _, _, _ => by
    show chkO H (y :: r2) last i = _
    unfold chkO
    rw [if_neg (fun z => by rw [hb] at z; cases z.1)]; rfl
  | x :: xs, p :: os, i, last, ⟨a, r⟩, g, pw, hl => by
    obtain ⟨e1, e2⟩ := rawp_ofo a (g p List.mem_cons_self)
    rw [List.map_cons] at pw
    obtain ⟨w1, w2⟩ := List.pairwise_cons.mp pw
    show chkO H (x :: (xs ++ y :: r2)) last i = _
    unfold chkO
    rw [e2, if_pos ⟨e1, hl p List.mem_cons_self⟩, rawp_chk_bad hb r2 r (fun q hq => g q (List.mem_cons_of_mem _ hq)) w2 (fun q hq => w1 q.1 (List.mem_map_of_mem hq)), List.length_cons]
    congr 1; omega
theorem Draw.putP {H : Hp} {d D : Addr} {n : Int} {o : HO} {zs : List V} {ps : List (Int × Int)} (h : Draw H d n) (hD : H D = some (.lst zs)) (r : RawP H zs ps) (ne : D ≠ d) : Draw (upd H D o) d n := by
  obtain ⟨c, xs, a, l, u, h1, h2, h3, q⟩ := h
  have nc : c ≠ D := fun z => by
    rw [z, hD] at h2
    cases xs with
    | nil => exact h3 rfl
    | cons x xs =>
      injection h2 with h2
      injection h2 with h2
      subst h2
      cases ps with
      | nil => exact r
      | cons p ps =>
        obtain ⟨⟨t, e, _⟩, _⟩ := r
        cases e
  exact ⟨c, xs, a, l, u, by rw [upd_ne ne.symm]; exact h1, by rw [upd_ne nc]; exact h2, h3, q⟩
theorem rawp_keep {H H' : Hp} {d : Addr} {n : Int} (D : Draw H d n) (kp : Keep d H H') {xs : List V} {ps : List (Int × Int)} (r : RawP H xs ps) : RawP H' xs ps :=
  rawp_map (fun t l h => kp _ _ (fun z => by obtain ⟨kvs, hd⟩ := D.dic; rw [z, hd] at h; cases h) h) r
theorem rawp_put {H : Hp} {R : Addr} {zs ws : List V} (hR : H R = some (.lst zs)) {xs : List V} {ps : List (Int × Int)} (r : RawP H xs ps) : RawP (upd H R (.lst ws)) xs ps :=
  rawp_map (fun t l h => by rw [upd_ne (fun z => by rw [z, hR] at h; cases h)]; exact h) r
end Toy
set_option Elab.async false
set_option linter.all false
set_option maxRecDepth 100000
set_option maxHeartbeats 400000
namespace Toy
open PySem PySem.Spec PyProof.Rows L2
def GoodW (ws : List (Int × Int)) : Prop := ∀ p ∈ ws, 0 ≤ p.1 ∧ p.1 ≤ p.2
def GoodO (os : List (Int × Int)) : Prop := (∀ p ∈ os, 0 ≤ p.1 ∧ 1 ≤ p.2 ∧ p.2 ≤ 1000000) ∧ (os.map (·.1)).Pairwise (· < ·)
section
variable {P : Program} {w : World} {K : PySem.W.Frag} {mg : Str → Option Value} {base : Heap}
def sp__law_asks : Sp := fun vs H Q _ => ∃ (d : Addr) (n : Int), vs = [.ref d, .int 9, .int 24] ∧ Draw H d n ∧ 0 ≤ n ∧ n ≤ 100000000 ∧
  ∀ H' r a b xs ys ws os, Keep d H H' → Draw H' d (n + 50) → H' r = some (.tup [.ref a, .ref b]) → H' a = some (.tup xs) → RawP H' xs ws → GoodW ws → ws.length ≤ 9 → H' b = some (.tup ys) → RawP H' ys os → GoodO os → os.length ≤ 9 → Q (.ref r) H'
theorem ok__law_asks (T : Txt K mg) : FnOk P w K mg base CX0 4 T.a__law_asks T.d__law_asks ["draw", "most", "far"] sp__law_asks := by
  refine T.F__law_asks.ok sc__law_asks (fun vs H Q E h => ?_) (fun cdv A outer s H vs Q E hr h => ?_)
  · obtain ⟨d, n, rfl, _⟩ := h; rfl
  · obtain ⟨d, n, rfl, D, n0, n1, q⟩ := h
    refine ⟨_, (pss_cons (ps_par3 (i := 3) (j := 4) (l := 5) (by rfl) sc__law_asks.nd rfl rfl rfl (by decide) (by decide) (by decide) rfl rfl rfl (pa_cons (pe_lst pa_nil) (pa_cons (pe_lst pa_nil) (pa_cons (pe_call (ok__law_next T) (hr.mono (by decide)) (by rfl) T.g__law_next T.F__law_next.kp T.b__law_next .nil pass0 (pa_cons (pv 0) (pa_cons pe_int pa_nil))) pa_nil))) (by rfl))
        (pss_cons (ps_for PassesOwn.never rfl (pi_range1 (by rfl) T.z_range (pa_cons (pe_call (ok__law_next T) (hr.mono (by decide)) (by rfl) T.g__law_next T.F__law_next.kp T.b__law_next .nil pass0 (pa_cons (pv 0) (pa_cons (pe_op op_add (pv 1) pe_int) pa_nil))) pa_nil)) (pg_name (i := 6) sc__law_asks.nd rfl (by first | exact Or.inl rfl | exact Or.inr rfl)) (pss_cons (ps_set (i := 7) sc__law_asks.nd rfl (by first | exact Or.inl rfl | exact Or.inr rfl) (pe_call (ok__law_next T) (hr.mono (by decide)) (by rfl) T.g__law_next T.F__law_next.kp T.b__law_next .nil pass0 (pa_cons (pv 0) (pa_cons (pv 2) pa_nil))))
        (pss_one (ps_expr (pe_bm PySem.F.plainAttrs_list PySem.F.slot_list_append PySem.F.type_list_append mt_append (pv 3) (pa_cons (pe_tup (pa_cons (pv 7) (pa_cons (pe_op op_add (pv 7) (pe_call (ok__law_of T) (hr.mono (by decide)) (by rfl) T.g__law_of T.F__law_of.kp T.b__law_of .nil pass0 (pa_cons (pv 0) (pa_cons (pe_lst (pa_cons pe_int (pa_cons pe_int (pa_cons pe_int (pa_cons pe_int (pa_cons (pv 2) pa_nil)))))) pa_nil)))) pa_nil))) pa_nil))))))
        (pss_cons (ps_for PassesOwn.never rfl (pi_range1 (by rfl) T.z_range (pa_cons (pe_call (ok__law_next T) (hr.mono (by decide)) (by rfl) T.g__law_next T.F__law_next.kp T.b__law_next .nil pass0 (pa_cons (pv 0) (pa_cons (pe_op op_add (pv 1) pe_int) pa_nil))) pa_nil)) (pg_name (i := 6) sc__law_asks.nd rfl (by first | exact Or.inl rfl | exact Or.inr rfl)) (pss_cons (ps_expr (pe_bm PySem.F.plainAttrs_list PySem.F.slot_list_append PySem.F.type_list_append mt_append (pv 4) (pa_cons (pe_tup (pa_cons (pv 5) (pa_cons (pe_op op_add pe_int (pe_call (ok__law_of T) (hr.mono (by decide)) (by rfl) T.g__law_of T.F__law_of.kp T.b__law_of .nil pass0 (pa_cons (pv 0) (pa_cons (pe_lst (pa_cons pe_int (pa_cons pe_int (pa_cons pe_int (pa_cons pe_int (pa_cons pe_int (pa_cons (pe_call (ok__law_next T) (hr.mono (by decide)) (by rfl) T.g__law_next T.F__law_next.kp T.b__law_next .nil pass0 (pa_cons (pv 0) (pa_cons pe_int pa_nil))) pa_nil))))))) pa_nil)))) pa_nil))) pa_nil)))
        (pss_one (ps_set (i := 5) sc__law_asks.nd rfl (by first | exact Or.inl rfl | exact Or.inr rfl) (pe_op op_add (pe_op op_add (pv 5) pe_int) (pe_call (ok__law_next T) (hr.mono (by decide)) (by rfl) T.g__law_next T.F__law_next.kp T.b__law_next .nil pass0 (pa_cons (pv 0) (pa_cons pe_int pa_nil))))))))
        (pss_one (ps_ret (pe_tup (pa_cons (pe_tupleOf (by rfl) T.z_tuple (pv 3)) (pa_cons (pe_tupleOf (by rfl) T.z_tuple (pv 4)) pa_nil)))))))), ?_⟩
    refine ⟨(by show 0 ≤ sizeLine; decide), fun S nS => ?_⟩
    have s1 := same_new (o := .lst []) nS
    have hS := upd_same (H := H) (a := S) (o := .lst [])
    generalize upd H S (.lst []) = H1 at s1 hS ⊢
    refine ⟨(by show 0 ≤ sizeLine; decide), fun L nL => ?_⟩
    have s2 := s1.trans (same_new (o := .lst []) nL)
    have hL := upd_same (H := H1) (a := L) (o := .lst [])
    have nLS := ne_of hS nL
    have hS := same_new (o := .lst []) nL _ _ hS
    have fL := same_none s1 nL
    generalize upd H1 L (.lst []) = H2 at s2 hS hL ⊢
    have D2 := D.same s2
    obtain ⟨kvs, hd⟩ := D.dic
    have nSd : S ≠ d := ne_of hd nS
    have nLd : L ≠ d := ne_of hd fL
    refine ⟨_, rfl, ?_⟩
    dsimp only [tNil, tCons, tC, List.cons_append, List.nil_append, List.append_nil]
    refine ⟨d, 3, n, rfl, D2, by omega, by omega, by omega, fun H3 m k3 D3 m0 m1 => ?_⟩
    have kH3 : Keep d H H3 := fun b u nb e => k3 b u nb (s2 _ _ e)
    have hS3 := k3 _ _ nSd hS
    have hL3 := k3 _ _ nLd hL
    refine ⟨_, _, _, rfl, ?_⟩
    refine ⟨_, rfl, _, rfl, _, _, rfl, rfl, ?_⟩
    refine ⟨d, 10, n + 1, rfl, D3, by omega, by omega, by omega, fun H4 k k4 D4 k0 k1 => ⟨k, rfl, by omega, by omega, ?_⟩⟩
    have put : ∀ {G : Hp} {R : Addr} {o : HO}, H R = none → Keep d H G → Keep d H (upd G R o) := fun f kp b u nb e => by
      rw [upd_ne (ne_of e f).symm]; exact kp b u nb e
    have fS : H S = none := nS
    refine for_it (walk_range (lo := 0) (n := k.toNat)) (fun i σ G => ∃ (x6 x7 : Option V) (zs : List V) (ws : List (Int × Int)), σ = [some (.ref d), some (.int 9), some (.int 24), some (.ref S), some (.ref L), some (.int m), x6, x7] ∧ Keep d H G ∧ Draw G d (n + 2 + 2 * i) ∧
      G S = some (.lst zs) ∧ RawP G zs ws ∧ GoodW ws ∧ ws.length = i ∧ G L = some (.lst [])) ⟨none, none, [], [], rfl, fun b u nb e => k4 b u nb (kH3 b u nb e), D4.more (by omega), k4 _ _ nSd hS3, True.intro, (fun _ h => nomatch h), rfl, k4 _ _ nLd hL3⟩ ?_ ?_ ?_
    · intro _ _ _ _ _; trivial
    · rintro i x σ G G2 hi ⟨x6, x7, zs, ws, rfl, kp, DG, gS, rw_, gw, lw, gL⟩ ⟨rfl, rfl⟩
      refine ⟨_, rfl, _, rfl, ?_⟩
      dsimp only [tNil, tCons, tC, List.cons_append, List.nil_append, List.append_nil]
      refine ⟨d, 24, n + 2 + 2 * i, rfl, DG, by omega, by omega, by omega, fun H5 bg k5 D5 b0 b1 => ?_⟩
      have gS5 := k5 _ _ nSd gS
      have gL5 := k5 _ _ nLd gL
      have r5 := rawp_keep DG k5 rw_
      have kp5 : Keep d H H5 := fun b u nb e => k5 b u nb (kp b u nb e)
      refine ⟨_, rfl, .inl ⟨rfl, _, SqL.of gS5⟩, _, rfl, _, rfl, _, rfl, _, rfl, (by show 5 ≤ sizeLine; decide), fun p np => ?_⟩
      have s6 := same_new (o := .lst [.int 0, .int 1, .int 2, .int 5, .int 24]) np
      refine ⟨d, p, [.int 0, .int 1, .int 2, .int 5, .int 24], n + 2 + 2 * i + 1, rfl, D5.same s6, upd_same, (by simp), (by show 5 ≤ 1000; decide), by omega, fun H6 x k6 D6 hx => ?_⟩
      have gS6 := k6 _ _ nSd (s6 _ _ gS5)
      have gL6 := k6 _ _ nLd (s6 _ _ gL5)
      have r6 := rawp_keep (D5.same s6) k6 (rawp_map (fun _ _ h => s6 _ _ h) r5)
      have kp6 : Keep d H H6 := fun b u nb e => k6 b u nb (s6 _ _ (kp5 b u nb e))
      obtain ⟨v, rfl, v0⟩ : ∃ v, x = .int v ∧ 0 ≤ v := by
        simp only [List.mem_cons, List.not_mem_nil, or_false] at hx
        rcases hx with z | z | z | z | z <;> exact ⟨_, z, by decide⟩
      refine ⟨_, _, rfl, rfl, (by show 2 ≤ sizeLine; decide), fun t nt => ?_⟩
      have s7 := same_new (o := .tup [.int bg, .int (bg + v)]) nt
      have gS7 := s7 _ _ gS6
      have lz := rawp_len r6
      refine ⟨S, _, _, rfl, rfl, gS7, (by rw [sizeLine_eq]; omega), ?_⟩
      have r7 : RawP (upd H6 t (.tup [.int bg, .int (bg + v)])) (zs ++ [.ref t]) (ws ++ [(bg, bg + v)]) := rawp_app (rawp_map (fun _ _ h => s7 _ _ h) r6) ⟨⟨t, rfl, upd_same⟩, True.intro⟩
      refine ⟨_, _, zs ++ [.ref t], ws ++ [(bg, bg + v)], rfl, put fS (fun b u nb e => s7 _ _ (kp6 b u nb e)), ?_, upd_same, rawp_put gS7 r7, fun p hp => ?_, by rw [List.length_append, lw]; rfl, ?_⟩
      · exact (((D6.same s7).putP gS7 (rawp_map (fun _ _ h => s7 _ _ h) r6) nSd).more (by omega))
      · rcases List.mem_append.mp hp with z | z
        · exact gw p z
        · rw [List.mem_singleton.mp z]; exact ⟨b0, by show bg ≤ bg + v; omega⟩
      · rw [upd_ne nLS]; exact s7 _ _ gL6
    · rintro σ G ⟨x6, x7, zs, ws, rfl, kp, DG, gS, rw_, gw, lw, gL⟩
      refine ⟨_, rfl, _, rfl, _, _, rfl, rfl, ?_⟩
      refine ⟨d, 10, n + 2 + 2 * (k.toNat : Nat), rfl, DG, by omega, by omega, by omega, fun H5 j k5 D5 j0 j1 => ⟨j, rfl, by omega, by omega, ?_⟩⟩
      refine for_it (walk_range (lo := 0) (n := j.toNat)) (fun i σ G => ∃ (x6 x7 : Option V) (m : Int) (ys : List V) (os : List (Int × Int)), σ = [some (.ref d), some (.int 9), some (.int 24), some (.ref S), some (.ref L), some (.int m), x6, x7] ∧ Keep d H G ∧ Draw G d (n + 22 + 3 * i) ∧
        G S = some (.lst zs) ∧ RawP G zs ws ∧ G L = some (.lst ys) ∧ RawP G ys os ∧ GoodO os ∧ os.length = i ∧ 0 ≤ m ∧ ∀ p ∈ os, p.1 < m)
        ⟨x6, x7, m, [], [], rfl, fun b u nb e => k5 b u nb (kp b u nb e), D5.more (by omega), k5 _ _ nSd gS, rawp_keep DG k5 rw_, k5 _ _ nLd gL, True.intro, ⟨(fun _ h => nomatch h), .nil⟩, rfl, m0, (fun _ h => nomatch h)⟩ ?_ ?_ ?_
      · intro _ _ _ _ _; trivial
      · rintro i x σ G G2 hi ⟨x6, x7, m, ys, os, rfl, kp, DG, gS, rw_, gL, ro, go, lo, m0, mb⟩ ⟨rfl, rfl⟩
        refine ⟨_, rfl, .inl ⟨rfl, _, SqL.of gL⟩, _, rfl, _, rfl, _, rfl, d, 9, n + 22 + 3 * i, rfl, DG, by omega, by omega, by omega, fun H6 c k6 D6 c0 c1 => ?_⟩
        have gS6 := k6 _ _ nSd gS
        have gL6 := k6 _ _ nLd gL
        have rw6 := rawp_keep DG k6 rw_
        have ro6 := rawp_keep DG k6 ro
        have kp6 : Keep d H H6 := fun b u nb e => k6 b u nb (kp b u nb e)
        refine ⟨(by show 6 ≤ sizeLine; decide), fun p np => ?_⟩
        have s7 := same_new (o := .lst [.int 0, .int 1, .int 2, .int 6, .int 999999, .int c]) np
        refine ⟨d, p, [.int 0, .int 1, .int 2, .int 6, .int 999999, .int c], n + 22 + 3 * i + 1, rfl, D6.same s7, upd_same, (by simp), (by show 6 ≤ 1000; decide), by omega, fun H8 x k8 D8 hx => ?_⟩
        have gS8 := k8 _ _ nSd (s7 _ _ gS6)
        have gL8 := k8 _ _ nLd (s7 _ _ gL6)
        have rw8 := rawp_keep (D6.same s7) k8 (rawp_map (fun _ _ h => s7 _ _ h) rw6)
        have ro8 := rawp_keep (D6.same s7) k8 (rawp_map (fun _ _ h => s7 _ _ h) ro6)
        have kp8 : Keep d H H8 := fun b u nb e => k8 b u nb (s7 _ _ (kp6 b u nb e))
        obtain ⟨v, rfl, v0, v1⟩ : ∃ v, x = .int v ∧ 0 ≤ v ∧ v ≤ 999999 := by
          simp only [List.mem_cons, List.not_mem_nil, or_false] at hx
          rcases hx with z | z | z | z | z | z <;> first | exact ⟨_, z, by decide, by decide⟩ | exact ⟨_, z, by omega, by omega⟩
        refine ⟨_, _, rfl, rfl, (by show 2 ≤ sizeLine; decide), fun t nt => ?_⟩
        have s9 := same_new (o := .tup [.int m, .int (1 + v)]) nt
        have gL9 := s9 _ _ gL8
        have gS9 := s9 _ _ gS8
        have lz := rawp_len ro8
        refine ⟨L, _, _, rfl, rfl, gL9, (by rw [sizeLine_eq]; omega), ?_⟩
        have r9 : RawP (upd H8 t (.tup [.int m, .int (1 + v)])) (ys ++ [.ref t]) (os ++ [(m, 1 + v)]) := rawp_app (rawp_map (fun _ _ h => s9 _ _ h) ro8) ⟨⟨t, rfl, upd_same⟩, True.intro⟩
        have D9 := (D8.same s9).putP (o := .lst (ys ++ [.ref t])) gL9 (rawp_map (fun _ _ h => s9 _ _ h) ro8) nLd
        have r9 := rawp_put (ws := ys ++ [.ref t]) gL9 r9
        have rw9 := rawp_put (ws := ys ++ [.ref t]) gL9 (rawp_map (fun _ _ h => s9 _ _ h) rw8)
        have kp9 : Keep d H (upd (upd H8 t (.tup [.int m, .int (1 + v)])) L (.lst (ys ++ [.ref t]))) := put fL (fun b u nb e => s9 _ _ (kp8 b u nb e))
        have gSA : upd (upd H8 t (.tup [.int m, .int (1 + v)])) L (.lst (ys ++ [.ref t])) S = some (.lst zs) := by rw [upd_ne nLS.symm]; exact gS9
        have gLA := upd_same (H := upd H8 t (.tup [.int m, .int (1 + v)])) (a := L) (o := .lst (ys ++ [.ref t]))
        generalize upd (upd H8 t (.tup [.int m, .int (1 + v)])) L (.lst (ys ++ [.ref t])) = HA at D9 r9 rw9 kp9 gSA gLA ⊢
        refine ⟨_, rfl, _, _, rfl, rfl, _, rfl, d, 4, n + 22 + 3 * i + 1 + 1, rfl, D9, by omega, by omega, by omega, fun HB e kB DB e0 e1 => ?_⟩
        refine ⟨_, _, rfl, rfl, ?_⟩
        refine ⟨_, _, m + 1 + e, ys ++ [.ref t], os ++ [(m, 1 + v)], rfl, fun b u nb e => kB b u nb (kp9 b u nb e), DB.more (by omega), kB _ _ nSd gSA, rawp_keep D9 kB rw9, kB _ _ nLd gLA, rawp_keep D9 kB r9, ⟨fun p hp => ?_, ?_⟩, by rw [List.length_append, lo]; rfl, by omega, fun p hp => ?_⟩
        · rcases List.mem_append.mp hp with z | z
          · exact go.1 p z
          · rw [List.mem_singleton.mp z]; exact ⟨m0, by show 1 ≤ 1 + v; omega, by show 1 + v ≤ 1000000; omega⟩
        · rw [List.map_append]
          refine List.pairwise_append.mpr ⟨go.2, List.pairwise_singleton _ _, fun a ha b hb => ?_⟩
          obtain ⟨p, hp, rfl⟩ := List.mem_map.mp ha
          rw [List.map_singleton, List.mem_singleton] at hb
          rw [hb]
          exact mb p hp
        · rcases List.mem_append.mp hp with z | z
          · have := mb p z; omega
          · rw [List.mem_singleton.mp z]; show m < m + 1 + e; omega
      · rintro σ G ⟨x6, x7, m, ys, os, rfl, kp, DG, gS, rw_, gL, ro, go, lo, m0, mb⟩
        refine ⟨_, rfl, .inl ⟨S, _, rfl, SqL.of gS, fun t1 n1 => ?_⟩⟩
        have s6 := same_new (o := .tup zs) n1
        refine ⟨_, rfl, .inl ⟨L, _, rfl, SqL.of (s6 _ _ gL), fun t2 n2 => ?_⟩⟩
        have s7 := s6.trans (same_new (o := .tup ys) n2)
        refine ⟨(by show 2 ≤ sizeLine; decide), fun t3 n3 => ?_⟩
        have s8 := same_new (o := .tup [.ref t1, .ref t2]) n3
        have s9 := s7.trans s8
        exact q _ t3 t1 t2 zs ys ws os (fun b u nb e => s9 _ _ (kp b u nb e)) ((DG.same s9).more (by omega)) upd_same (s8 _ _ (same_new n2 _ _ upd_same)) (rawp_map (fun _ _ h => s9 _ _ h) rw_) gw (by omega) (s8 _ _ upd_same) (rawp_map (fun _ _ h => s9 _ _ h) ro) go (by omega)
end
end Toy
set_option Elab.async false
set_option linter.all false
set_option maxRecDepth 100000
set_option maxHeartbeats 1000000
namespace Toy
open PySem PySem.Spec PyProof.Rows L2
theorem walk_zipT {K : PySem.W.Frag} {a b : Addr} {xs ys : List V} {n : Nat} (hn : n = min xs.length ys.length) :
    Walk (RZ.ItzT K a b) n (fun H => SqT K H a xs ∧ SqT K H b ys) (YPair (fun i => xs[i]?) (fun i => ys[i]?)) := by
  subst hn
  constructor
  · intro i H hi g
    exact ⟨xs, ys, xs[i]'(by omega), ys[i]'(by omega), g.1, g.2, by simp, by simp⟩
  · intro H g
    exact ⟨xs, ys, g.1, g.2, by omega⟩
  · rintro i H v H' hi g ⟨T, x, y, e, nT, eH, fx, fy⟩
    exact ⟨T, x, y, e, nT, eH, fx xs g.1, fy ys g.2⟩
def intV : V → Int
  | .int i => i
  | _ => 0
theorem isI_val {v : V} (h : isI v = true) : v = .int (intV v) := by
  obtain ⟨i, rfl⟩ := isI_int h
  rfl
/-- do they rise -/
def riseB (ms : List Int) : Bool := !((ms.zip (ms.drop 1)).any fun p => decide (p.1 ≥ p.2))
/-- is a window with the span sp served by ms -/
def servB (ms : List Int) (p sp : Int × Int) : Bool := !(decide (sp.1 < sp.2) && (decide (firstN ms p.1 = ms.length) || decide ((ms[firstN ms p.1]?).getD 0 ≥ p.2)))
def planL (ws ss : List (Int × Int)) (mo : List Int) (xs : List V) : Bool :=
  xs.all isI && ((xs.map intV).all fun m => decide (m ∈ mo)) && riseB (xs.map intV) && (ws.zip ss).all fun q => servB (xs.map intV) q.1 q.2
theorem ints_map {xs : List V} (h : xs.all isI = true) : xs = (xs.map intV).map V.int := by
  rw [List.map_map]
  have z : ∀ x ∈ xs, x = (V.int ∘ intV) x := fun x hx => isI_val (List.all_eq_true.mp h x hx)
  conv => lhs; rw [← List.map_id xs]
  exact List.map_congr_left fun x hx => z x hx
theorem rise_pw : ∀ (ms : List Int), riseB ms = true → ms.Pairwise (· < ·)
  | [], _ => .nil
  | [m], _ => List.pairwise_singleton _ _
  | m :: n :: ms, h => by
    have h : (!(decide (m ≥ n) || ((n :: ms).zip ((n :: ms).drop 1)).any fun p => decide (p.1 ≥ p.2))) = true := h
    rw [Bool.not_eq_true', Bool.or_eq_false_iff] at h
    have mn : m < n := by have := of_decide_eq_false h.1; omega
    have ih := rise_pw (n :: ms) (by unfold riseB; rw [h.2]; rfl)
    refine List.pairwise_cons.mpr ⟨fun x hx => ?_, ih⟩
    rcases List.mem_cons.mp hx with z | z
    · rw [z]; exact mn
    · have := (List.pairwise_cons.mp ih).1 x z
      omega
theorem cat_use {K : PySem.W.Frag} {H : Hp} {a b : Addr} {xs ys : List V} {Q : VK} (h : H a = some (.tup xs)) (h2 : H b = some (.tup ys)) (hz : xs.length + ys.length ≤ sizeLine) (q : ∀ H' p, Same H H' → H' p = some (.tup (xs ++ ys)) → Q (.ref p) H') : rCatA K (.ref a) (.ref b) H Q := by
  refine ⟨a, b, xs, ys, rfl, rfl, SqT.of h, SqT.of h2, hz, fun e => q H b (Same.refl H) ?_, fun _ e => q H a (Same.refl H) ?_, fun _ _ p np => q _ p (same_new np) upd_same⟩
  · rw [e]; exact h2
  · rw [e, List.append_nil]; exact h
theorem cut_take {xs : List V} {k : Nat} (h : k ≤ xs.length) : cutV xs none (some (k : Int)) = xs.take k := by
  have e1 : HT.sIx xs.length 0 none = 0 := rfl
  have e2 : HT.sIx xs.length xs.length (some (k : Int)) = k := by
    simp only [HT.sIx]
    first | omega | (split <;> omega)
  unfold cutV
  rw [e1, e2, List.drop_zero, Nat.sub_zero]
theorem cut_drop {xs : List V} {k : Nat} (h : k ≤ xs.length) : cutV xs (some (k : Int)) none = xs.drop k := by
  have e1 : HT.sIx xs.length 0 (some (k : Int)) = k := by
    simp only [HT.sIx]
    first | omega | (split <;> omega)
  have e2 : HT.sIx xs.length xs.length none = xs.length := rfl
  unfold cutV
  rw [e1, e2, List.take_of_length_le (by rw [List.length_drop]; exact Nat.le_refl _)]
theorem nopart_reads {σ : L2.St} {H : Hp} {k : Option Int → Hp → Prop} (h : k none H) : tNoPart σ H k := h
theorem cut_drop1 (xs : List V) : cutV xs (some 1) none = xs.drop 1 := by
  cases xs with
  | nil => rfl
  | cons x xs => exact cut_drop (k := 1) (xs := x :: xs) (by rw [List.length_cons]; omega)
theorem sl_use {K : PySem.W.Frag} {H : Hp} {a : Addr} {xs : List V} {lo hi : Option Int} {Q : VK} (h : H a = some (.tup xs)) (q : ∀ H' p, Same H H' → H' p = some (.tup (cutV xs lo hi)) → Q (.ref p) H') : rSlA K (.ref a) lo hi H Q := by
  refine ⟨a, xs, rfl, SqT.of h, fun ⟨e1, e2⟩ => q H a (Same.refl H) ?_, fun _ p np => q _ p (same_new np) upd_same⟩
  rw [h]
  unfold cutV
  rw [e1, e2, List.drop_zero, Nat.sub_zero, List.take_length]
theorem all_no {α : Type} {f : α → Bool} {l : List α} {i : Nat} {x : α} (h : l[i]? = some x) (e : f x = false) : l.all f = false := by
  rw [← Bool.not_eq_true, List.all_eq_true]
  intro z
  have := z x (List.mem_of_getElem? h)
  rw [e] at this
  cases this
section
variable {P : Program} {w : World} {K : PySem.W.Frag} {mg : Str → Option Value} {base : Heap}
def sp__is_plan (K : PySem.W.Frag) : Sp := fun vs H Q _ => ∃ (d a sp o : Addr) (v : V) (xs zs ys : List V) (ws ss os : List (Int × Int)), vs = [.ref a, .ref sp, .ref o, v] ∧ H a = some (.tup xs) ∧ Prs K H xs ws ∧ H sp = some (.lst zs) ∧ Prs K H zs ss ∧ H o = some (.tup ys) ∧ Prs K H ys os ∧
  zs.length ≤ 1000 ∧ os.length ≤ 1000 ∧ Thg2 d H v ∧ (∀ b us, v = .ref b → H b = some (.tup us) → us.length ≤ 1000) ∧ ∀ H', Same H H' → Q (.bl (ofV (planL ws ss (os.map (·.1))) H v)) H'
theorem ok__is_plan (T : Txt K mg) : FnOk P w K mg base CX0 2 T.a__is_plan T.d__is_plan ["windows", "spans", "offers", "value"] (sp__is_plan K) := by
  refine T.F__is_plan.ok sc__is_plan (fun vs H Q E h => ?_) (fun cdv A outer s H vs Q E hr h => ?_)
  · obtain ⟨d, a, sp, o, v, xs, zs, ys, ws, ss, os, rfl, _⟩ := h; rfl
  · obtain ⟨d, a, sp, o, v, xs, zs, ys, ws, ss, os, rfl, ha, pw, hs, ps, ho, po, lz, lo, ⟨k, tv, ti⟩, lv, q⟩ := h
    have ly := prs_len po
    refine ⟨_, (pss_cons (ps_if (PW.pt (pw_or (pt_not (pt_val (pe_callB call_isi (by rfl) T.z_isinstance (by decide +kernel) (pa_cons (pv 3) (pa_cons (pe_bltn (v := .ty "tuple") (by rfl) T.z_tuple (by decide +kernel) rfl) pa_nil))))) (pw_or1 (pt_not (pt_val (pe_callB (cr_all (by rfl)) (by rfl) T.z_all (by decide +kernel) (pa_cons (pe_lc (own := [("moment", 10)]) (g := gName 10) (by rfl) sc__is_plan.nd (pi_tup (pv 3)) (blkOk_by (own := [("moment", 10)]) (N := ["windows", "spans", "offers", "value", "moments", "begin", "end", "first", "behind", "at", "moment", "_", "a", "b"]) (sc := defScope s__is_plan) (by decide +kernel)) (fun _ _ _ _ _ => pg_name (i := 10) sc__is_plan.nd rfl (Or.inl rfl)) (fun _ _ _ _ _ => pts_nil) (fun _ _ _ _ _ => (pe_call (ok_is_int T) (hr.mono (by decide)) (by rfl) T.g_is_int T.F_is_int.kp T.b_is_int .nil pass0 (pa_cons (pv 10) pa_nil)))) pa_nil))))))) (pss_one (ps_ret pe_bl)) pss_nil)
        (pss_cons (ps_set (i := 4) sc__is_plan.nd rfl (by first | exact Or.inl rfl | exact Or.inr rfl) (Vz.pe_sci (own := [("moment", 10), ("_", 11)]) (g := gTup K 2 (gCons (gName 10) (gCons (gName 11) gNil))) (by rfl) sc__is_plan.nd (pi_tup (pv 2)) (blkOk_by (own := [("moment", 10), ("_", 11)]) (N := ["windows", "spans", "offers", "value", "moments", "begin", "end", "first", "behind", "at", "moment", "_", "a", "b"]) (sc := defScope s__is_plan) (by decide +kernel)) (fun _ _ _ _ _ => pg_tup rfl (pgs_cons (pg_name (i := 10) sc__is_plan.nd rfl (Or.inl rfl)) (pgs_cons (pg_name (i := 11) sc__is_plan.nd rfl (Or.inl rfl)) pgs_nil))) (fun _ _ _ _ _ => (pv 10))))
        (pss_cons (ps_if (PW.pt (pw_or (pt_not (pt_val (pe_callB (cr_all (by rfl)) (by rfl) T.z_all (by decide +kernel) (pa_cons (pe_lc (own := [("moment", 10)]) (g := gName 10) (by rfl) sc__is_plan.nd (pi_tup (pv 3)) (blkOk_by (own := [("moment", 10)]) (N := ["windows", "spans", "offers", "value", "moments", "begin", "end", "first", "behind", "at", "moment", "_", "a", "b"]) (sc := defScope s__is_plan) (by decide +kernel)) (fun _ _ _ _ _ => pg_name (i := 10) sc__is_plan.nd rfl (Or.inl rfl)) (fun _ _ _ _ _ => pts_nil) (fun _ _ _ _ _ => (pe_cmpR (Vz.op_sinW (w := w) rfl) (pv 10) (pv 4) (by with_unfolding_all rfl)))) pa_nil)))) (pw_or1 (pt_val (pe_callB (cr_any (by rfl)) (by rfl) T.z_any (by decide +kernel) (pa_cons (pe_lc (own := [("a", 12), ("b", 13)]) (g := gTup K 2 (gCons (gName 12) (gCons (gName 13) gNil))) (by rfl) sc__is_plan.nd (RZ.pi_zipA (by rfl) T.z_zip (pa_cons (pv 3) (pa_cons (pe_slice sl_tupA (pv 3) (po_some pe_int) po_none) pa_nil))) (blkOk_by (own := [("a", 12), ("b", 13)]) (N := ["windows", "spans", "offers", "value", "moments", "begin", "end", "first", "behind", "at", "moment", "_", "a", "b"]) (sc := defScope s__is_plan) (by decide +kernel)) (fun _ _ _ _ _ => pg_tup rfl (pgs_cons (pg_name (i := 12) sc__is_plan.nd rfl (Or.inl rfl)) (pgs_cons (pg_name (i := 13) sc__is_plan.nd rfl (Or.inl rfl)) pgs_nil))) (fun _ _ _ _ _ => pts_nil) (fun _ _ _ _ _ => (pe_cmpR op_ge (pv 12) (pv 13) (nomark _)))) pa_nil)))))) (pss_one (ps_ret pe_bl)) pss_nil)
        (pss_cons (ps_for PassesOwn.never rfl (Vz.pi_zipM (by rfl) T.z_zip (pa_cons (pv 0) (pa_cons (pv 1) pa_nil))) (pg_tup rfl (pgs_cons (pg_tup rfl (pgs_cons (pg_name (i := 5) sc__is_plan.nd rfl (by first | exact Or.inl rfl | exact Or.inr rfl)) (pgs_cons (pg_name (i := 6) sc__is_plan.nd rfl (by first | exact Or.inl rfl | exact Or.inr rfl)) pgs_nil))) (pgs_cons (pg_tup rfl (pgs_cons (pg_name (i := 7) sc__is_plan.nd rfl (by first | exact Or.inl rfl | exact Or.inr rfl)) (pgs_cons (pg_name (i := 8) sc__is_plan.nd rfl (by first | exact Or.inl rfl | exact Or.inr rfl)) pgs_nil))) pgs_nil))) (pss_cons (ps_set (i := 9) sc__is_plan.nd rfl (by first | exact Or.inl rfl | exact Or.inr rfl) (pe_call (ok__first_from T) (hr.mono (by decide)) (by rfl) T.g__first_from T.F__first_from.kp T.b__first_from .nil pass0 (pa_cons (pv 3) (pa_cons (pv 5) pa_nil))))
        (pss_one (ps_if (PW.pt (pw_and (pt_cmpR op_lt (pv 7) (pv 8) (nomark _)) (pw_and1 (PW.pt (pw_or (pt_cmpR op_eq (pv 9) (pe_callB call_len_seq (by rfl) T.z_len PySem.boot_len (pa_cons (pv 3) pa_nil)) (nomark _)) (pw_or1 (pt_cmpR op_ge (pe_ix ix_tup (pv 3) (pv 9) (fun _ _ => rfl)) (pv 6) (nomark _)))))))) (pss_one (ps_ret pe_bl)) pss_nil))))
        (pss_one (ps_ret pe_bl)))))), ?_⟩
    refine ⟨_, rfl, v, _, _, _, _, rfl, .ty "tuple", tv.ty, tv.k_tup, _, rfl, ?_⟩
    cases e : tupS k with
    | false =>
      refine iteT ?_
      refine iteT ?_
      rw [ofV_no e tv] at q
      exact q _ (Same.refl H)
    | true =>
    obtain ⟨b, us, rfl, hb⟩ := tv.is_tup e
    have lu := lv b us rfl hb
    have dv : ofV (planL ws ss (os.map (·.1))) H (.ref b) = planL ws ss (os.map (·.1)) us := by unfold ofV; simp [hb]
    rw [dv] at q
    have hx := ti b us rfl hb
    refine iteF ?_
    refine ⟨_, rfl, b, rfl, ⟨_, SqT.of hb⟩, fun D nD => ?_⟩
    refine lc_it (walk_tup (K := K) (a := b) (xs := us)) (fun i H' => H' = upd H D (.lst ((us.take i).map fun x => V.bl (isI x)))) rfl ?_ ?_ ?_
    · rintro i H' _ rfl
      exact Vz.sqT_same (same_new nD) (SqT.of hb)
    · rintro i x H1 H2 hi rfl ⟨rfl, hxi⟩
      obtain ⟨kx, tx⟩ := hx x (List.mem_of_getElem? hxi)
      have sD := same_new (o := .lst ((us.take i).map fun x => V.bl (isI x))) nD
      refine ⟨rfl, ?_⟩
      refine ⟨_, rfl, d, x, kx, rfl, tx.same sD, ?_⟩
      refine ⟨_, upd_same, ?_, ?_⟩
      · rw [List.length_map, List.length_take, sizeLine_eq]; omega
      · rw [upd_upd, List.take_add_one, hxi, List.map_append]; rfl
    · rintro H1 rfl
      rw [List.take_length]
      have s1 := same_new (o := .lst (us.map fun x => V.bl (isI x))) nD
      have h1 := upd_same (H := H) (a := D) (o := .lst (us.map fun x => V.bl (isI x)))
      generalize upd H D (.lst (us.map fun x => V.bl (isI x))) = H1 at s1 h1 ⊢
      refine ⟨D, us.map isI, rfl, by rw [List.map_map]; exact SqL.of h1, ?_⟩
      refine ⟨_, rfl, ?_⟩
      have eall : (us.map isI).all id = us.all isI := by rw [List.all_map]; rfl
      rw [eall]
      cases eu : us.all isI with
      | false =>
        refine iteT ?_
        have z : planL ws ss (os.map (·.1)) us = false := by unfold planL; rw [eu]; rfl
        rw [z] at q
        exact q _ s1
      | true =>
      refine iteF ?_
      have em := ints_map eu
      have ep : planL ws ss (os.map (·.1)) us = (((us.map intV).all fun m => decide (m ∈ os.map (·.1))) && riseB (us.map intV) && (ws.zip ss).all fun q => servB (us.map intV) q.1 q.2) := by unfold planL; rw [eu, Bool.true_and]
      rw [ep] at q
      have lms : (us.map intV).length = us.length := List.length_map ..
      generalize us.map intV = ms at em q lms
      subst em
      clear ep eall eu dv hx ti
      rw [List.length_map] at lu
      refine ⟨_, rfl, o, rfl, ⟨_, SqT.of (s1 _ _ ho)⟩, fun S0 nS => ?_⟩
      refine Vz.si_it (walk_tup (K := K) (a := o) (xs := ys)) (fun i G => (∃ S n, G S0 = some (SetO w S0 S n) ∧ n ≤ i ∧ ∀ j, S j = decide (j ∈ (os.take i).map (·.1))) ∧ ∀ d u, d ≠ S0 → H1 d = some u → G d = some u) ⟨⟨_, 0, upd_same, Nat.le_refl _, fun j => (decide_eq_false (fun z => nomatch z)).symm⟩, fun d u n e => by rw [upd_ne n]; exact e⟩ ?_ ?_ ?_
      · rintro i G _ ⟨_, kp⟩
        exact SqT.of (kp _ _ (ne_of (s1 _ _ ho) nS).symm (s1 _ _ ho))
      · rintro i x G G2 hi ⟨⟨S, n, gS, ln, hS⟩, kp⟩ ⟨rfl, hx⟩
        obtain ⟨p, t, hp, rfl, ht⟩ := prs_at po hx
        have sG : Same H1 G2 := fun d u e => kp d u (ne_of e nS).symm e
        refine ⟨t, _, rfl, Vz.sqT_same (s1.trans sG) ht, rfl, _, _, rfl, _, _, rfl, rfl, rfl, ?_⟩
        refine ⟨_, rfl, p.1, S, n, rfl, gS, (by unfold scanBound; omega), ⟨_, _, upd_same, ?_, fun j => ?_⟩, fun d u n e => by rw [upd_ne n]; exact kp d u n e⟩
        · split <;> omega
        · rw [hS j, List.take_add_one, hp, List.map_append]
          simp [List.mem_append]
      · rintro G ⟨⟨S, n, gS, ln, hS⟩, kp⟩
        have tkO : os.take ys.length = os := List.take_of_length_le (by omega)
        rw [tkO] at hS
        have s2 : Same H G := s1.trans fun d u e => kp d u (ne_of e nS).symm e
        have hv2 := s2 _ _ hb
        refine ⟨_, rfl, b, rfl, ⟨_, SqT.of hv2⟩, fun D2 nD2 => ?_⟩
        refine lc_it (walk_tup (K := K) (a := b) (xs := ms.map V.int)) (fun i H' => H' = upd G D2 (.lst ((ms.take i).map fun m => V.bl (decide (m ∈ os.map (·.1)))))) rfl ?_ ?_ ?_
        · rintro i H' _ rfl
          exact Vz.sqT_same (same_new nD2) (SqT.of hv2)
        · rintro i x G1 G2 hi rfl ⟨rfl, hx⟩
          rw [List.getElem?_map] at hx
          obtain ⟨m, hm, rfl⟩ := Option.map_eq_some_iff.mp hx
          have sD := same_new (o := .lst ((ms.take i).map fun m => V.bl (decide (m ∈ os.map (·.1))))) nD2
          refine ⟨rfl, ?_⟩
          refine ⟨_, rfl, _, rfl, m, S0, S, n, rfl, rfl, sD _ _ gS, ?_⟩
          refine ⟨_, upd_same, ?_, ?_⟩
          · rw [List.length_map, List.length_take, sizeLine_eq]; omega
          · rw [upd_upd, List.take_add_one, hm, List.map_append, hS m]; rfl
        · rintro G1 rfl
          rw [List.length_map, List.take_length]
          have s3 := s2.trans (same_new (o := .lst (ms.map fun m => V.bl (decide (m ∈ os.map (·.1))))) nD2)
          have h3 := upd_same (H := G) (a := D2) (o := .lst (ms.map fun m => V.bl (decide (m ∈ os.map (·.1)))))
          generalize upd G D2 (.lst (ms.map fun m => V.bl (decide (m ∈ os.map (·.1))))) = G1 at s3 h3 ⊢
          refine ⟨D2, ms.map fun m => decide (m ∈ os.map (·.1)), rfl, by rw [List.map_map]; exact SqL.of h3, ?_⟩
          refine ⟨_, rfl, ?_⟩
          have eall : (ms.map fun m => decide (m ∈ os.map (·.1))).all id = ms.all fun m => decide (m ∈ os.map (·.1)) := by rw [List.all_map]; rfl
          rw [eall]
          cases ea : ms.all fun m => decide (m ∈ os.map (·.1)) with
          | false =>
            refine iteT ?_
            refine iteT ?_
            rw [ea, Bool.false_and, Bool.false_and] at q
            exact q _ s3
          | true =>
          refine iteF ?_
          rw [ea, Bool.true_and] at q
          have hv3 := s3 _ _ hb
          refine ⟨_, rfl, _, rfl, _, rfl, ?_⟩
          refine nopart_reads ?_
          refine sl_use hv3 fun G2 p2 z2 g2 => ?_
          rw [cut_drop1] at g2
          have s4 := s3.trans z2
          refine ⟨b, p2, _, _, rfl, .inr ⟨SqT.of (s4 _ _ hb), SqT.of g2, fun D3 nD3 => ?_⟩⟩
          refine lc_it (walk_zipT (K := K) (a := b) (b := p2) (xs := ms.map V.int) (ys := (ms.map V.int).drop 1) rfl) (fun i H' => H' D3 = some (.lst (((ms.zip (ms.drop 1)).take i).map fun p => V.bl (decide (p.1 ≥ p.2)))) ∧ ∀ d u, d ≠ D3 → G2 d = some u → H' d = some u) ⟨upd_same, fun d u n e => by rw [upd_ne n]; exact e⟩ ?_ ?_ ?_
          · rintro i H' _ ⟨_, kp⟩
            exact ⟨SqT.of (kp _ _ (ne_of (s4 _ _ hb) nD3).symm (s4 _ _ hb)), SqT.of (kp _ _ (ne_of g2 nD3).symm g2)⟩
          · rintro i x G3 G4 hi ⟨hD, kp⟩ ⟨t, x, y, rfl, nt, rfl, hx, hy⟩
            have hx : (ms.map V.int)[i]? = some x := hx
            have hy : ((ms.map V.int).drop 1)[i]? = some y := hy
            rw [List.getElem?_map] at hx
            obtain ⟨m, hm, rfl⟩ := Option.map_eq_some_iff.mp hx
            rw [← List.map_drop, List.getElem?_map] at hy
            obtain ⟨n', hn, rfl⟩ := Option.map_eq_some_iff.mp hy
            have sT := same_new (o := .tup [.int m, .int n']) nt
            have hz : (ms.zip (ms.drop 1))[i]? = some (m, n') := by rw [List.getElem?_zip_eq_some]; exact ⟨hm, hn⟩
            refine ⟨t, _, rfl, SqT.of upd_same, rfl, _, _, rfl, _, _, rfl, rfl, rfl, ?_⟩
            refine ⟨_, rfl, _, rfl, m, n', rfl, rfl, ?_⟩
            refine ⟨_, sT _ _ hD, ?_, ?_, fun d u n e => by rw [upd_ne n]; exact sT _ _ (kp d u n e)⟩
            · rw [List.length_map, List.length_take, List.length_zip, sizeLine_eq]; omega
            · rw [upd_same, List.take_add_one, hz, List.map_append]; rfl
          · rintro G3 ⟨hD, kp⟩
            have ez : (ms.zip (ms.drop 1)).take (min (ms.map V.int).length ((ms.map V.int).drop 1).length) = ms.zip (ms.drop 1) := List.take_of_length_le (by rw [List.length_zip, List.length_map, List.length_drop, List.length_drop, List.length_map]; omega)
            rw [ez] at hD
            have s5 : Same H G3 := s4.trans fun d u e => kp d u (ne_of e nD3).symm e
            refine ⟨D3, (ms.zip (ms.drop 1)).map fun p => decide (p.1 ≥ p.2), rfl, by rw [List.map_map]; exact SqL.of hD, ?_⟩
            refine ⟨_, rfl, ?_⟩
            have eany : ((ms.zip (ms.drop 1)).map fun p => decide (p.1 ≥ p.2)).any id = (ms.zip (ms.drop 1)).any fun p => decide (p.1 ≥ p.2) := by rw [List.any_map]; rfl
            rw [eany]
            cases er : (ms.zip (ms.drop 1)).any fun p => decide (p.1 ≥ p.2) with
            | true =>
              refine iteT ?_
              have z : riseB ms = false := by unfold riseB; rw [er]; rfl
              rw [z, Bool.false_and] at q
              exact q _ s5
            | false =>
            refine iteF ?_
            have rz : riseB ms = true := by unfold riseB; rw [er]; rfl
            have pwm := rise_pw ms rz
            rw [rz, Bool.true_and] at q
            clear eany er ez hD eall ea gS hS kp
            have hb4 := s5 _ _ hb
            have hs4 := s5 _ _ hs
            have ha4 := s5 _ _ ha
            refine ⟨_, rfl, _, rfl, a, sp, xs, zs, rfl, SqT.of ha4, SqL.of hs4, ?_⟩
            have lx := prs_len pw
            have lss := prs_len ps
            refine for_it (Vz.walk_zipM (K := K) (a := a) (b := sp) (xs := xs) (ys := zs) rfl) (fun i σ G => ∃ x5 x6 x7 x8 x9 : Option V, σ = [some (.ref a), some (.ref sp), some (.ref o), some (.ref b), some (.ref S0), x5, x6, x7, x8, x9, none, none, none, none] ∧ Same G3 G ∧ ((ws.zip ss).take i).all (fun q => servB ms q.1 q.2) = true) ⟨none, none, none, none, none, rfl, Same.refl _, rfl⟩ ?_ ?_ ?_
            · rintro i σ G' _ ⟨_, _, _, _, _, rfl, s6, _⟩
              exact ⟨SqT.of (s6 _ _ ha4), SqL.of (s6 _ _ hs4)⟩
            · rintro i x σ G4 G5 hi ⟨x5, x6, x7, x8, x9, rfl, s6, okl⟩ ⟨t, x, y, rfl, nt, rfl, hx, hy⟩
              have hx : xs[i]? = some x := hx
              have hy : zs[i]? = some y := hy
              obtain ⟨p, t2, hp, rfl, hq⟩ := prs_at pw hx
              obtain ⟨p2, t3, hp2, rfl, hq2⟩ := prs_at ps hy
              have hz : (ws.zip ss)[i]? = some (p, p2) := by rw [List.getElem?_zip_eq_some]; exact ⟨hp, hp2⟩
              have s7 := s6.trans (same_new (o := .tup [.ref t2, .ref t3]) nt)
              refine ⟨t, _, rfl, SqT.of upd_same, rfl, _, _, rfl, ?_⟩
              refine ⟨t2, _, rfl, Vz.sqT_same (s5.trans s7) hq, rfl, _, _, rfl, _, _, rfl, rfl, ?_⟩
              refine ⟨_, _, rfl, t3, _, rfl, Vz.sqT_same (s5.trans s7) hq2, rfl, _, _, rfl, _, _, rfl, rfl, rfl, ?_⟩
              generalize upd G4 t (.tup [.ref t2, .ref t3]) = G5 at s7 ⊢
              have hb5 := s7 _ _ hb4
              have go : ∀ {R : Prop}, servB ms p p2 = true → (((ws.zip ss).take (i + 1)).all (fun q => servB ms q.1 q.2) = true → R) → R := fun {R} h r => r (by
                rw [List.take_add_one, hz, List.all_append, okl]
                show (true && (servB ms p p2 && true)) = true
                rw [h]; rfl)
              have no : servB ms p p2 = false → Q (.bl false) G5 := fun h => by
                have z := all_no (f := fun q : (Int × Int) × (Int × Int) => servB ms q.1 q.2) hz h
                rw [z] at q
                exact q _ (s5.trans s7)
              refine ⟨_, rfl, _, rfl, b, ms, p.1, rfl, .inr (SqT.of hb5), pwm, by omega, ?_⟩
              refine ⟨_, rfl, _, rfl, _, _, rfl, rfl, _, rfl, ?_⟩
              have fl := firstN_le ms p.1
              refine ite2 (fun c => ?_) (fun c => ?_)
              · have c : p2.1 < p2.2 := of_decide_eq_true (p := p2.1 < p2.2) c
                refine ⟨_, rfl, _, rfl, b, _, rfl, .inr (SqT.of hb5), rfl, _, rfl, ?_⟩
                have eL : decide (V.int ((firstN ms p.1 : Nat) : Int) = V.int ((ms.map V.int).length : Int)) = decide (firstN ms p.1 = ms.length) := by
                  rw [dI, List.length_map]
                  by_cases z : firstN ms p.1 = ms.length
                  · rw [decide_eq_true z, decide_eq_true (by rw [z])]
                  · rw [decide_eq_false z, decide_eq_false (by omega)]
                rw [eL]
                by_cases z : firstN ms p.1 = ms.length
                · rw [decide_eq_true z]
                  refine iteT ?_
                  refine iteT ?_
                  exact no (by unfold servB; rw [decide_eq_true c, decide_eq_true z]; rfl)
                · rw [decide_eq_false z]
                  refine iteF ?_
                  obtain ⟨y, hy⟩ : ∃ y, ms[firstN ms p.1]? = some y := ⟨_, List.getElem?_eq_getElem (by omega)⟩
                  refine ⟨_, rfl, _, rfl, b, _, _, .int y, rfl, rfl, SqT.of hb5, at_nat (by rw [List.getElem?_map, hy]; rfl), _, rfl, _, _, rfl, rfl, _, rfl, ?_⟩
                  refine ite2 (fun c2 => ?_) (fun c2 => ?_)
                  · have c2 : y ≥ p.2 := of_decide_eq_true (p := p.2 ≤ y) c2
                    refine no ?_
                    unfold servB
                    rw [decide_eq_true c, hy]
                    show (!(true && (_ || decide (y ≥ p.2)))) = false
                    rw [decide_eq_true c2, Bool.or_true]; rfl
                  · have c2 : ¬ y ≥ p.2 := fun z => c2 (decide_eq_true (p := p.2 ≤ y) z)
                    refine ⟨_, _, _, _, _, rfl, s7, go ?_ id⟩
                    unfold servB
                    rw [decide_eq_true c, decide_eq_false z, hy]
                    show (!(true && (false || decide (y ≥ p.2)))) = true
                    rw [decide_eq_false c2]; rfl
              · have c : ¬ p2.1 < p2.2 := fun z => c (decide_eq_true (p := p2.1 < p2.2) z)
                refine iteF ?_
                refine ⟨_, _, _, _, _, rfl, s7, go ?_ id⟩
                unfold servB
                rw [decide_eq_false c]; rfl
            · rintro σ G' ⟨x5, x6, x7, x8, x9, rfl, s6, okl⟩
              have ez : (ws.zip ss).take (min xs.length zs.length) = ws.zip ss := List.take_of_length_le (by rw [List.length_zip]; omega)
              rw [ez] at okl
              rw [okl] at q
              exact q _ (s5.trans s6)
end
end Toy
set_option Elab.async false
set_option linter.all false
set_option maxRecDepth 100000
set_option maxHeartbeats 1000000
namespace Toy
open PySem PySem.Spec PyProof.Rows L2
def okP (v : V) : Bool := isI v && decide (0 ≤ intV v)
def loadZ (l : List ((Int × Int) × Int)) (j : Int) : Int := (l.map fun q => if q.1.1 ≤ j ∧ j < q.1.2 then q.2 else 0).sum
def emptyB (q : (Int × Int) × Int) : Bool := !(decide (q.1.1 = q.1.2) && decide (q.2 ≠ 0))
def pledB (ss os : List (Int × Int)) (xs : List V) : Bool :=
  decide (xs.length = ss.length) && xs.all okP && (ss.zip (xs.map intV)).all emptyB && (List.range os.length).all fun j => decide (loadZ (ss.zip (xs.map intV)) (j : Nat) ≤ costA os j)
theorem loadZ_app (l : List ((Int × Int) × Int)) (q : (Int × Int) × Int) (j : Int) : loadZ (l ++ [q]) j = loadZ l j + (if q.1.1 ≤ j ∧ j < q.1.2 then q.2 else 0) := by
  unfold loadZ
  rw [List.map_append, List.sum_append, List.map_singleton, List.sum_singleton]
theorem sum_set : ∀ (st : List Int) (f j : Nat) (x p : Int), st[f]? = some x → ((st.set f (x + p)).take (j + 1)).sum = (st.take (j + 1)).sum + (if f ≤ j then p else 0)
  | [], f, j, x, p, h => by cases h
  | s :: st, 0, j, x, p, h => by
    cases h
    show (s + p) + (st.take j).sum = (s + (st.take j).sum) + (if 0 ≤ j then p else 0)
    rw [if_pos (Nat.zero_le _)]; omega
  | s :: st, f + 1, 0, x, p, h => by
    show s + 0 = (s + 0) + (if f + 1 ≤ 0 then p else 0)
    rw [if_neg (by omega)]; omega
  | s :: st, f + 1, j + 1, x, p, h => by
    have ih := sum_set st f j x p h
    show s + ((st.set f (x + p)).take (j + 1)).sum = (s + (st.take (j + 1)).sum) + (if f + 1 ≤ j + 1 then p else 0)
    rw [ih]
    have e : (if f + 1 ≤ j + 1 then p else 0) = (if f ≤ j then p else 0) := by
      by_cases c : f ≤ j
      · rw [if_pos c, if_pos (by omega)]
      · rw [if_neg c, if_neg (by omega)]
    rw [e]; omega
theorem sum_take_next (st : List Int) (i : Nat) (x : Int) (h : st[i]? = some x) : (st.take (i + 1)).sum = (st.take i).sum + x := by
  rw [List.take_add_one, h, List.sum_append]
  show _ + (x + 0) = _
  omega
theorem empty_reads {σ : L2.St} {G : Hp} {f b m : Int} {Q : Bool → Hp → Prop} (e4 : σ[4]? = some (some (.int f))) (e5 : σ[5]? = some (some (.int b))) (e6 : σ[6]? = some (some (.int m))) (q : Q (!emptyB ((f, b), m)) G) :
    tAnd (tTest (tOp rEq (tVar 4) (tVar 5))) (tTest (tOp rNe (tVar 6) (tC (V.int 0)))) σ G Q := by
  refine ⟨_, e4, _, e5, rfl, _, rfl, ?_⟩
  unfold emptyB at q
  rw [Bool.not_not] at q
  by_cases c : f = b
  · rw [show decide (V.int f = V.int b) = true from decide_eq_true (by rw [c])]
    refine iteT ?_
    refine ⟨_, e6, rfl, _, rfl, ?_⟩
    have e : (!decide (V.int m = V.int 0)) = decide (m ≠ 0) := by
      rw [dI]
      by_cases z : m = 0
      · rw [decide_eq_true z, decide_eq_false (by simpa using z)]; rfl
      · rw [decide_eq_false z, decide_eq_true (by simpa using z)]; rfl
    rw [e]
    rw [show decide (((f, b), m).1.1 = ((f, b), m).1.2) = true from decide_eq_true c, Bool.true_and] at q
    exact q
  · rw [show decide (V.int f = V.int b) = false from decide_eq_false (fun z => c (V.int.inj z))]
    refine iteF ?_
    rw [show decide (((f, b), m).1.1 = ((f, b), m).1.2) = false from decide_eq_false c, Bool.false_and] at q
    exact q
section
variable {P : Program} {w : World} {K : PySem.W.Frag} {mg : Str → Option Value} {base : Heap}
def sp__are_pledges (K : PySem.W.Frag) : Sp := fun vs H Q _ => ∃ (d sp o : Addr) (v : V) (zs ys : List V) (ss os : List (Int × Int)), vs = [.ref sp, .ref o, v] ∧ H sp = some (.lst zs) ∧ Prs K H zs ss ∧ H o = some (.tup ys) ∧ Prs K H ys os ∧ ss.length ≤ 1000 ∧ os.length ≤ 1000 ∧ (∀ p ∈ ss, 0 ≤ p.1 ∧ p.1 ≤ p.2 ∧ p.2 ≤ os.length) ∧
  Thg2 d H v ∧ (∀ b us, v = .ref b → H b = some (.tup us) → us.length ≤ 1000) ∧ ∀ H', Same H H' → Q (.bl (ofV (pledB ss os) H v)) H'
theorem ok__are_pledges (T : Txt K mg) : FnOk P w K mg base CX0 2 T.a__are_pledges T.d__are_pledges ["spans", "offers", "value"] (sp__are_pledges K) := by
  refine T.F__are_pledges.ok sc__are_pledges (fun vs H Q E h => ?_) (fun cdv A outer s H vs Q E hr h => ?_)
  · obtain ⟨d, sp, o, v, zs, ys, ss, os, rfl, _⟩ := h; rfl
  · obtain ⟨d, sp, o, v, zs, ys, ss, os, rfl, hs, ps, ho, po, lss, lo, bd, ⟨k, tv, ti⟩, lv, q⟩ := h
    have ly := prs_len po
    have lz := prs_len ps
    refine ⟨_, (pss_cons (ps_if (PW.pt (pw_or (pt_not (pt_val (pe_callB call_isi (by rfl) T.z_isinstance (by decide +kernel) (pa_cons (pv 2) (pa_cons (pe_bltn (v := .ty "tuple") (by rfl) T.z_tuple (by decide +kernel) rfl) pa_nil))))) (pw_or1 (pt_cmpR op_ne (pe_callB call_len_seq (by rfl) T.z_len PySem.boot_len (pa_cons (pv 2) pa_nil)) (pe_callB call_len_seq (by rfl) T.z_len PySem.boot_len (pa_cons (pv 0) pa_nil)) (nomark _))))) (pss_one (ps_ret pe_bl)) pss_nil)
        (pss_cons (ps_if (pt_not (pt_val (pe_callB (cr_all (by rfl)) (by rfl) T.z_all (by decide +kernel) (pa_cons (pe_lc (own := [("pledge", 6)]) (g := gName 6) (by rfl) sc__are_pledges.nd (pi_tup (pv 2)) (blkOk_by (own := [("pledge", 6)]) (N := ["spans", "offers", "value", "steps", "first", "behind", "pledge", "load", "step", "_", "cost"]) (sc := defScope s__are_pledges) (by decide +kernel)) (fun _ _ _ _ _ => pg_name (i := 6) sc__are_pledges.nd rfl (Or.inl rfl)) (fun _ _ _ _ _ => pts_nil) (fun _ _ _ _ _ => (pe_and (pe_call (ok_is_int T) (hr.mono (by decide)) (by rfl) T.g_is_int T.F_is_int.kp T.b_is_int .nil pass0 (pa_cons (pv 6) pa_nil)) (pe_one (pe_cmpR op_ge (pv 6) pe_int (nomark _)))))) pa_nil)))) (pss_one (ps_ret pe_bl)) pss_nil)
        (pss_cons (ps_set (i := 3) sc__are_pledges.nd rfl (by first | exact Or.inl rfl | exact Or.inr rfl) (pe_op op_rep (pe_lst (pa_cons pe_int pa_nil)) (pe_op op_add (pe_callB call_len_seq (by rfl) T.z_len PySem.boot_len (pa_cons (pv 1) pa_nil)) pe_int)))
        (pss_cons (ps_for PassesOwn.never rfl (Vz.pi_zipL0 (by rfl) T.z_zip (pa_cons (pv 0) (pa_cons (pv 2) pa_nil))) (pg_tup rfl (pgs_cons (pg_tup rfl (pgs_cons (pg_name (i := 4) sc__are_pledges.nd rfl (by first | exact Or.inl rfl | exact Or.inr rfl)) (pgs_cons (pg_name (i := 5) sc__are_pledges.nd rfl (by first | exact Or.inl rfl | exact Or.inr rfl)) pgs_nil))) (pgs_cons (pg_name (i := 6) sc__are_pledges.nd rfl (by first | exact Or.inl rfl | exact Or.inr rfl)) pgs_nil))) (pss_cons (ps_if (PW.pt (pw_and (pt_cmpR op_eq (pv 4) (pv 5) (nomark _)) (pw_and1 (pt_cmpR op_ne (pv 6) pe_int (nomark _))))) (pss_one (ps_ret pe_bl)) pss_nil)
        (pss_cons (ps_augS (pv 3) (pv 4) Vz.get_list (pv 6) ip_add set_list)
        (pss_one (ps_augS (pv 3) (pv 5) Vz.get_list (pv 6) ip_sub set_list)))))
        (pss_cons (ps_set (i := 7) sc__are_pledges.nd rfl (by first | exact Or.inl rfl | exact Or.inr rfl) pe_int)
        (pss_cons (ps_for PassesOwn.never rfl (Vz.pi_zipL0 (by rfl) T.z_zip (pa_cons (pv 3) (pa_cons (pv 1) pa_nil))) (pg_tup rfl (pgs_cons (pg_name (i := 8) sc__are_pledges.nd rfl (by first | exact Or.inl rfl | exact Or.inr rfl)) (pgs_cons (pg_tup rfl (pgs_cons (pg_name (i := 9) sc__are_pledges.nd rfl (by first | exact Or.inl rfl | exact Or.inr rfl)) (pgs_cons (pg_name (i := 10) sc__are_pledges.nd rfl (by first | exact Or.inl rfl | exact Or.inr rfl)) pgs_nil))) pgs_nil))) (pss_cons (ps_aug (i := 7) sc__are_pledges.nd rfl (Or.inl rfl) (pv 8) ip_add)
        (pss_one (ps_if (pt_cmpR op_gt (pv 7) (pv 10) (nomark _)) (pss_one (ps_ret pe_bl)) pss_nil))))
        (pss_one (ps_ret pe_bl)))))))), ?_⟩
    refine ⟨_, rfl, v, _, _, _, _, rfl, .ty "tuple", tv.ty, tv.k_tup, _, rfl, ?_⟩
    cases e : tupS k with
    | false =>
      refine iteT ?_
      refine iteT ?_
      rw [ofV_no e tv] at q
      exact q _ (Same.refl H)
    | true =>
    obtain ⟨b, us, rfl, hb⟩ := tv.is_tup e
    have lu := lv b us rfl hb
    have dv : ofV (pledB ss os) H (.ref b) = pledB ss os us := by unfold ofV; simp [hb]
    rw [dv] at q
    have hx := ti b us rfl hb
    refine iteF ?_
    refine ⟨_, rfl, b, _, rfl, .inr (SqT.of hb), _, rfl, sp, zs, rfl, .inl (SqL.of hs), rfl, _, rfl, ?_⟩
    have eL : decide (V.int (us.length : Int) = V.int (zs.length : Int)) = decide (us.length = ss.length) := by
      rw [dI, lz]
      by_cases z : us.length = ss.length
      · rw [decide_eq_true z, decide_eq_true (by rw [z])]
      · rw [decide_eq_false z, decide_eq_false (by omega)]
    rw [eL]
    by_cases el : us.length = ss.length
    case neg =>
      rw [decide_eq_false el]
      refine iteT ?_
      have z : pledB ss os us = false := by unfold pledB; rw [decide_eq_false el]; rfl
      rw [z] at q
      exact q _ (Same.refl H)
    rw [decide_eq_true el]
    refine iteF ?_
    refine ⟨_, rfl, b, rfl, ⟨_, SqT.of hb⟩, fun D nD => ?_⟩
    refine lc_it (walk_tup (K := K) (a := b) (xs := us)) (fun i H' => H' = upd H D (.lst ((us.take i).map fun x => V.bl (okP x)))) rfl ?_ ?_ ?_
    · rintro i H' _ rfl
      exact Vz.sqT_same (same_new nD) (SqT.of hb)
    · rintro i x H1 H2 hi rfl ⟨rfl, hxi⟩
      obtain ⟨kx, tx⟩ := hx x (List.mem_of_getElem? hxi)
      have sD := same_new (o := .lst ((us.take i).map fun x => V.bl (okP x))) nD
      refine ⟨rfl, ?_⟩
      refine ⟨_, rfl, d, x, kx, rfl, tx.same sD, ?_⟩
      have put : ∀ bv : Bool, bv = okP x → ∃ acc, (upd H D (.lst ((us.take i).map fun x => V.bl (okP x)))) D = some (.lst acc) ∧ acc.length < sizeLine ∧ upd (upd H D (.lst ((us.take i).map fun x => V.bl (okP x)))) D (.lst (acc ++ [V.bl bv])) = upd H D (.lst ((us.take (i + 1)).map fun x => V.bl (okP x))) := fun bv hbv => by
        refine ⟨_, upd_same, ?_, ?_⟩
        · rw [List.length_map, List.length_take, sizeLine_eq]; omega
        · rw [upd_upd, List.take_add_one, hxi, List.map_append, hbv]; rfl
      refine ⟨_, rfl, ?_⟩
      cases ei : isI x with
      | true =>
        refine iteT ?_
        obtain ⟨m, rfl⟩ := isI_int ei
        refine ⟨_, rfl, m, 0, rfl, rfl, ?_⟩
        exact put _ (by unfold okP; rw [ei, Bool.true_and]; rfl)
      | false =>
        refine iteF ?_
        exact put _ (by unfold okP; rw [ei, Bool.false_and])
    · rintro H1 rfl
      rw [List.take_length]
      have s1 := same_new (o := .lst (us.map fun x => V.bl (okP x))) nD
      have h1 := upd_same (H := H) (a := D) (o := .lst (us.map fun x => V.bl (okP x)))
      generalize upd H D (.lst (us.map fun x => V.bl (okP x))) = H1 at s1 h1 ⊢
      refine ⟨D, us.map okP, rfl, by rw [List.map_map]; exact SqL.of h1, ?_⟩
      refine ⟨_, rfl, ?_⟩
      have eall : (us.map okP).all id = us.all okP := by rw [List.all_map]; rfl
      rw [eall]
      cases eu : us.all okP with
      | false =>
        refine iteT ?_
        have z : pledB ss os us = false := by unfold pledB; rw [eu, Bool.and_false, Bool.false_and, Bool.false_and]
        rw [z] at q
        exact q _ s1
      | true =>
      refine iteF ?_
      have ei : us.all isI = true := List.all_eq_true.mpr fun x hx => (Bool.and_eq_true_iff.mp (List.all_eq_true.mp eu x hx)).1
      have em := ints_map ei
      have ep : pledB ss os us = ((ss.zip (us.map intV)).all emptyB && (List.range os.length).all fun j => decide (loadZ (ss.zip (us.map intV)) (j : Nat) ≤ costA os j)) := by unfold pledB; rw [eu, decide_eq_true el, Bool.true_and, Bool.true_and]
      rw [ep] at q
      have lms : (us.map intV).length = us.length := List.length_map ..
      generalize us.map intV = ms at em q lms
      subst em
      clear ep eall eu dv hx ti ei
      rw [List.length_map] at lu el
      refine ⟨(by show 1 ≤ sizeLine; decide), fun p1 n1 => ?_⟩
      have s2 := s1.trans (same_new (o := .lst [.int 0]) n1)
      have h2 := upd_same (H := H1) (a := p1) (o := .lst [.int 0])
      refine ⟨_, rfl, o, _, rfl, .inr (SqT.of (s2 _ _ ho)), _, _, rfl, rfl, ?_⟩
      refine ⟨p1, _, [.int 0], rfl, rfl, h2, by omega, by omega, ?_, fun p2 n2 => ?_⟩
      · show 1 * ((ys.length : Int) + 1).toNat ≤ sizeLine
        rw [sizeLine_eq]; omega
      have eR : (List.replicate ((ys.length : Int) + 1).toNat [V.int 0]).flatten = (List.replicate (os.length + 1) (0 : Int)).map V.int := by
        have e : ((ys.length : Int) + 1).toNat = os.length + 1 := by omega
        rw [e]
        generalize os.length + 1 = n
        induction n with
        | zero => rfl
        | succ n ih => rw [List.replicate_succ, List.flatten_cons, ih, List.replicate_succ]; rfl
      have f2 := same_none s2 n2
      have s3 := s2.trans (same_new (o := .lst (List.replicate ((ys.length : Int) + 1).toNat [V.int 0]).flatten) n2)
      have h3 := upd_same (H := upd H1 p1 (.lst [.int 0])) (a := p2) (o := .lst (List.replicate ((ys.length : Int) + 1).toNat [V.int 0]).flatten)
      rw [eR] at s3 h3 ⊢
      generalize upd (upd H1 p1 (.lst [.int 0])) p2 (.lst ((List.replicate (os.length + 1) (0 : Int)).map V.int)) = H3 at s3 h3 ⊢
      refine ⟨_, rfl, _, rfl, sp, b, zs, _, rfl, SqL.of (s3 _ _ hs), SqT.of (s3 _ _ hb), ?_⟩
      have sum0 : ∀ j : Nat, ((List.replicate (os.length + 1) (0 : Int)).take (j + 1)).sum = 0 := fun j => by
        rw [List.take_replicate]
        generalize min (j + 1) (os.length + 1) = n
        induction n with
        | zero => rfl
        | succ n ih => rw [List.replicate_succ, List.sum_cons, ih]; rfl
      refine for_it (Vz.walk_zipL0 (K := K) (a := sp) (b := b) (xs := zs) (ys := ms.map V.int) rfl) (fun i σ G => ∃ (x4 x5 x6 x7 x8 x9 x10 : Option V) (st : List Int), σ = [some (.ref sp), some (.ref o), some (.ref b), some (.ref p2), x4, x5, x6, x7, x8, x9, x10] ∧ (∀ c u, c ≠ p2 → H3 c = some u → G c = some u) ∧ G p2 = some (.lst (st.map V.int)) ∧
        st.length = os.length + 1 ∧ (∀ j : Nat, (st.take (j + 1)).sum = loadZ ((ss.zip ms).take i) j) ∧ ((ss.zip ms).take i).all emptyB = true) ⟨none, none, none, none, none, none, none, _, rfl, fun _ _ _ h => h, h3, List.length_replicate, fun j => sum0 j, rfl⟩ ?_ ?_ ?_
      · rintro i σ G _ ⟨_, _, _, _, _, _, _, st, rfl, kp, _⟩
        exact ⟨SqL.of (kp _ _ (ne_of hs f2).symm (s3 _ _ hs)), SqT.of (kp _ _ (ne_of hb f2).symm (s3 _ _ hb))⟩
      · rintro i x σ G G2 hi ⟨x4, x5, x6, x7, x8, x9, x10, st, rfl, kp, gS, lst, sums, okl⟩ ⟨t, x, y, rfl, nt, rfl, hx, hy⟩
        have hx : zs[i]? = some x := hx
        have hy : (ms.map V.int)[i]? = some y := hy
        obtain ⟨p, t2, hp, rfl, hq⟩ := prs_at ps hx
        rw [List.getElem?_map] at hy
        obtain ⟨m, hm, rfl⟩ := Option.map_eq_some_iff.mp hy
        have hz : (ss.zip ms)[i]? = some (p, m) := by rw [List.getElem?_zip_eq_some]; exact ⟨hp, hm⟩
        obtain ⟨b0, b1, b2⟩ := bd p (List.mem_of_getElem? hp)
        obtain ⟨pf, pb⟩ := p
        obtain ⟨f, rfl⟩ := Int.eq_ofNat_of_zero_le (show 0 ≤ pf from b0)
        obtain ⟨g, rfl⟩ := Int.eq_ofNat_of_zero_le (show 0 ≤ pb from Int.le_trans b0 b1)
        have b1 : f ≤ g := by have : (f : Int) ≤ g := b1; omega
        have b2 : g ≤ os.length := by have : (g : Int) ≤ os.length := b2; omega
        have s5 := same_new (o := .tup [.ref t2, .int m]) nt
        have sG : Same H G := fun c u e => kp c u (ne_of e f2).symm (s3 _ _ e)
        refine ⟨t, _, rfl, SqT.of upd_same, rfl, _, _, rfl, ?_⟩
        refine ⟨t2, _, rfl, Vz.sqT_same (sG.trans s5) hq, rfl, _, _, rfl, _, _, rfl, rfl, ?_⟩
        refine ⟨_, _, rfl, rfl, ?_⟩
        have kp5 : ∀ c u, c ≠ p2 → H3 c = some u → (upd G t (.tup [.ref t2, .int m])) c = some u := fun c u n e => s5 _ _ (kp c u n e)
        have gS5 := s5 _ _ gS
        generalize upd G t (.tup [.ref t2, .int m]) = G5 at kp5 gS5 ⊢
        refine empty_reads rfl rfl rfl ?_
        have tkz : (ss.zip ms).take (i + 1) = (ss.zip ms).take i ++ [(((f : Int), (g : Int)), m)] := by rw [List.take_add_one, hz]; rfl
        cases ee : emptyB (((f : Int), (g : Int)), m) with
        | false =>
          refine iteT ?_
          rw [all_no hz ee, Bool.false_and] at q
          exact q _ (fun c u e => kp5 c u (ne_of e f2).symm (s3 _ _ e))
        | true =>
        refine iteF ?_
        have lf : f < st.length := by omega
        obtain ⟨x1, hx1⟩ : ∃ x1, st[f]? = some x1 := ⟨_, List.getElem?_eq_getElem lf⟩
        refine ⟨_, rfl, _, rfl, p2, _, _, .int x1, rfl, rfl, SqL.of gS5, at_nat (by rw [List.getElem?_map, hx1]; rfl), _, rfl, _, _, rfl, rfl, p2, _, _, f, rfl, rfl, gS5, ?_, ?_⟩
        · unfold ixN
          rw [if_pos (by omega), List.length_map, if_pos (by omega)]
          congr 1
        have gS6 : upd G5 p2 (.lst ((st.map V.int).set f (.int (x1 + m)))) p2 = some (.lst ((st.set f (x1 + m)).map V.int)) := by rw [upd_same, List.map_set]
        have kp6 : ∀ c u, c ≠ p2 → H3 c = some u → (upd G5 p2 (.lst ((st.map V.int).set f (.int (x1 + m))))) c = some u := fun c u n e => by rw [upd_ne n]; exact kp5 c u n e
        generalize upd G5 p2 (.lst ((st.map V.int).set f (.int (x1 + m)))) = G6 at gS6 kp6 ⊢
        have lst1 : (st.set f (x1 + m)).length = os.length + 1 := by rw [List.length_set]; exact lst
        have sum1 := fun j => sum_set st f j x1 m hx1
        generalize st.set f (x1 + m) = st1 at gS6 lst1 sum1
        obtain ⟨x2, hx2⟩ : ∃ x2, st1[g]? = some x2 := ⟨_, List.getElem?_eq_getElem (by omega)⟩
        refine ⟨_, rfl, _, rfl, p2, _, _, .int x2, rfl, rfl, SqL.of gS6, at_nat (by rw [List.getElem?_map, hx2]; rfl), _, rfl, _, _, rfl, rfl, p2, _, _, g, rfl, rfl, gS6, ?_, ?_⟩
        · unfold ixN
          rw [if_pos (by omega), List.length_map, if_pos (by omega)]
          congr 1
        have sum2 := fun j => sum_set st1 g j x2 (-m) hx2
        refine ⟨_, _, _, _, _, _, _, st1.set g (x2 - m), rfl, fun c u n e => by rw [upd_ne n]; exact kp6 c u n e, by rw [upd_same, List.map_set], by rw [List.length_set]; exact lst1, fun j => ?_, ?_⟩
        · rw [tkz, loadZ_app, Int.sub_eq_add_neg, sum2 j, sum1 j, sums j]
          have e : (if f ≤ j then m else 0) + (if g ≤ j then -m else 0) = (if (f : Int) ≤ j ∧ (j : Int) < g then m else 0) := by
            by_cases c1 : f ≤ j
            · by_cases c2 : g ≤ j
              · rw [if_pos c1, if_pos c2, if_neg (by omega)]; omega
              · rw [if_pos c1, if_neg c2, if_pos (by omega)]; omega
            · rw [if_neg c1, if_neg (by omega), if_neg (by omega)]; rfl
          show _ = _ + (if (f : Int) ≤ j ∧ (j : Int) < g then m else 0)
          rw [← e]; omega
        · rw [tkz, List.all_append, okl]
          show (true && (emptyB (((f : Int), (g : Int)), m) && true)) = true
          rw [ee]; rfl
      · rintro σ G ⟨x4, x5, x6, x7, x8, x9, x10, st, rfl, kp, gS, lst, sums, okl⟩
        have ez : (ss.zip ms).take (min zs.length (ms.map V.int).length) = ss.zip ms := List.take_of_length_le (by rw [List.length_zip, List.length_map]; omega)
        rw [ez] at okl sums
        rw [okl, Bool.true_and] at q
        have sG : Same H G := fun c u e => kp c u (ne_of e f2).symm (s3 _ _ e)
        have ho4 := sG _ _ ho
        refine ⟨_, rfl, _, rfl, p2, o, _, ys, rfl, SqL.of gS, SqT.of ho4, ?_⟩
        refine for_it (Vz.walk_zipL0 (K := K) (a := p2) (b := o) (xs := st.map V.int) (ys := ys) rfl) (fun i σ G' => ∃ x8 x9 x10 : Option V, σ = [some (.ref sp), some (.ref o), some (.ref b), some (.ref p2), x4, x5, x6, some (.int (st.take i).sum), x8, x9, x10] ∧ Same G G' ∧ ∀ j : Nat, j < i → loadZ (ss.zip ms) j ≤ costA os j) ⟨x8, x9, x10, rfl, Same.refl _, fun j h => absurd h (Nat.not_lt_zero _)⟩ ?_ ?_ ?_
        · rintro i σ G' _ ⟨_, _, _, rfl, s4, _⟩
          exact ⟨SqL.of (s4 _ _ gS), SqT.of (s4 _ _ ho4)⟩
        · rintro i x σ G1 G2 hi ⟨x8, x9, x10, rfl, s4, oks⟩ ⟨t, x, y, rfl, nt, rfl, hx, hy⟩
          have hx : (st.map V.int)[i]? = some x := hx
          rw [List.getElem?_map] at hx
          obtain ⟨m, hm, rfl⟩ := Option.map_eq_some_iff.mp hx
          have hy : ys[i]? = some y := hy
          obtain ⟨p, t2, hp, rfl, hq⟩ := prs_at po hy
          have s5 := s4.trans (same_new (o := .tup [.int m, .ref t2]) nt)
          refine ⟨t, _, rfl, SqT.of upd_same, rfl, _, _, rfl, _, _, rfl, ?_⟩
          refine ⟨t2, _, rfl, Vz.sqT_same (sG.trans s5) hq, rfl, _, _, rfl, _, _, rfl, rfl, rfl, ?_⟩
          refine ⟨_, rfl, _, rfl, _, _, rfl, rfl, ?_⟩
          have en := sum_take_next st i m hm
          have ec : costA os i = p.2 := by unfold costA; rw [hp]; rfl
          refine ⟨_, rfl, _, rfl, _, _, rfl, rfl, _, rfl, ?_⟩
          refine ite2 (fun c => ?_) (fun c => ?_)
          · have c : (st.take i).sum + m > p.2 := of_decide_eq_true (p := (st.take i).sum + m > p.2) c
            have li : i < os.length := (List.getElem?_eq_some_iff.mp hp).1
            have z : ((List.range os.length).all fun j => decide (loadZ (ss.zip ms) (j : Nat) ≤ costA os j)) = false := by
              refine all_no (i := i) (x := i) (by rw [List.getElem?_range li]) ?_
              rw [← sums i, ec]
              exact decide_eq_false (by omega)
            rw [z] at q
            exact q _ (sG.trans s5)
          · have c : ¬ (st.take i).sum + m > p.2 := fun z => c (decide_eq_true (p := (st.take i).sum + m > p.2) z)
            refine ⟨_, _, _, by rw [en]; rfl, s5, fun j hj => ?_⟩
            rcases Nat.lt_or_ge j i with z | z
            · exact oks j z
            · have e : j = i := by omega
              subst e
              rw [← sums j, ec]; omega
        · rintro σ G' ⟨x8, x9, x10, rfl, s4, oks⟩
          have z : ((List.range os.length).all fun j => decide (loadZ (ss.zip ms) (j : Nat) ≤ costA os j)) = true := by
            refine List.all_eq_true.mpr fun j hj => decide_eq_true (oks j ?_)
            have := List.mem_range.mp hj
            rw [List.length_map, lst]; omega
          rw [z] at q
          exact q _ (sG.trans s4)
end
end Toy
set_option Elab.async false
set_option linter.all false
set_option maxRecDepth 100000
set_option maxHeartbeats 1000000
namespace Toy
open PySem PySem.Spec PyProof.Rows L2
theorem firstN_mono {b e : Int} (h : b ≤ e) : ∀ ms : List Int, firstN ms b ≤ firstN ms e
  | [] => Nat.le_refl _
  | m :: ms => by
    have ih := firstN_mono h ms
    unfold firstN at ih ⊢
    rw [List.takeWhile_cons, List.takeWhile_cons]
    by_cases c : m < b
    · rw [if_pos (by simpa using c), if_pos (by simp; omega), List.length_cons, List.length_cons]
      omega
    · rw [if_neg (by simpa using c)]
      exact Nat.zero_le _
theorem span_bounds {ws os : List (Int × Int)} (h : ∀ p ∈ ws, p.1 ≤ p.2) : ∀ p ∈ spanL ws os, 0 ≤ p.1 ∧ p.1 ≤ p.2 ∧ p.2 ≤ os.length := fun p hp => by
  unfold spanL at hp
  obtain ⟨q, hq, e⟩ := List.mem_map.mp hp
  have f1 := firstN_mono (h q hq) (os.map (·.1))
  have f2 := firstN_le (os.map (·.1)) q.2
  rw [List.length_map] at f2
  rw [← e]
  exact ⟨by omega, by show ((firstN (os.map (·.1)) q.1 : Nat) : Int) ≤ _; omega, by show ((firstN (os.map (·.1)) q.2 : Nat) : Int) ≤ _; omega⟩
def intsV (H : Hp) (v : V) : List Int := match v with
  | .ref a => match H a with
    | some (.tup xs) => xs.map intV
    | _ => []
  | _ => []
def sumC (os : List (Int × Int)) (ms : List Int) : Int := ((os.filter fun p => decide (p.1 ∈ ms)).map (·.2)).sum
def showB (H : Hp) (ws os : List (Int × Int)) (v l : V) : Bool :=
  ofV (planL ws (spanL ws os) (os.map (·.1))) H v && ofV (pledB (spanL ws os) os) H l && decide (sumC os (intsV H v) = (intsV H l).sum)
theorem ofV_tup {f : List V → Bool} {H : Hp} {v : V} (h : ofV f H v = true) : ∃ a xs, v = .ref a ∧ H a = some (.tup xs) ∧ f xs = true := by
  unfold ofV at h
  split at h
  · rename_i a
    split at h
    · rename_i xs ha
      exact ⟨a, xs, rfl, ha, h⟩
    · cases h
  · cases h
theorem planL_ints {ws ss : List (Int × Int)} {mo : List Int} {xs : List V} (h : planL ws ss mo xs = true) : xs.all isI = true := by
  unfold planL at h
  exact (Bool.and_eq_true_iff.mp (Bool.and_eq_true_iff.mp (Bool.and_eq_true_iff.mp h).1).1).1
theorem pledB_ints {ss os : List (Int × Int)} {xs : List V} (h : pledB ss os xs = true) : xs.all isI = true := by
  unfold pledB at h
  have z := (Bool.and_eq_true_iff.mp (Bool.and_eq_true_iff.mp (Bool.and_eq_true_iff.mp h).1).1).2
  exact List.all_eq_true.mpr fun x hx => (Bool.and_eq_true_iff.mp (List.all_eq_true.mp z x hx)).1
def Few (H : Hp) (v : V) : Prop := ∀ b us, v = .ref b → H b = some (.tup us) → us.length ≤ 1000
theorem Few.same {d : Addr} {H H' : Hp} {v : V} {k : String} (h : Few H v) (t : Thg d H v k) (s : Same H H') : Few H' v := fun b us e hb => h b us e (by
  cases e
  cases t with
  | tup q => rw [s _ _ q] at hb; rw [q]; exact hb
  | lst q => rw [s _ _ q] at hb; cases hb
  | dic q _ => rw [s _ _ q] at hb; cases hb)
section
variable {P : Program} {w : World} {K : PySem.W.Frag} {mg : Str → Option Value} {base : Heap}
def goodH (K : PySem.W.Frag) (v l : V) (Q : VK) (H : Hp) (xs ys : List V) : Prop := xs.length ≤ 1000 ∧ ys.length ≤ 1000 ∧ ∃ ws os, Prs K H xs ws ∧ Prs K H ys os ∧ (os.map (·.1)).Pairwise (· < ·) ∧ (∀ p ∈ ws, p.1 ≤ p.2) ∧ ∀ H', Same H H' → Q (.bl (showB H ws os v l)) H'
def sp_shows_cheapest (K : PySem.W.Frag) (CW CO : Addr) : Sp := fun vs H Q E => ∃ (d : Addr) (u o v l : V), vs = [u, o, v, l] ∧ Thg2 d H v ∧ Thg2 d H l ∧ Few H v ∧ Few H l ∧ sp_chk CW CO (goodH K v l Q) H u o E
theorem ok_shows_cheapest (T : Txt K mg) : FnOk P w K mg base (L2.CX P w) 5 T.a_shows_cheapest T.d_shows_cheapest ["windows", "offers", "plan", "pledges"] (sp_shows_cheapest K T.C_BadWindow T.C_BadOffer) := by
  refine T.F_shows_cheapest.okX sc_shows_cheapest (fun vs H Q E h => ?_) (fun cdv A outer s H vs Q E hr h => ?_)
  · obtain ⟨d, u, o, v, l, rfl, _⟩ := h; rfl
  · obtain ⟨d, u, o, v, l, rfl, tv, tl, fv, fl, hc⟩ := h
    refine ⟨_, (pss_cons (ps_expr (pe_call (ok__check T) (hr.mono (by decide)) (by rfl) T.g__check T.F__check.kp T.b__check .nil (passes_call (takes_of (E := E) rfl rfl rfl rfl) (fun _ _ _ _ h => h)) (pa_cons (pv 0) (pa_cons (pv 1) pa_nil))))
        (pss_cons (ps_set (i := 4) sc_shows_cheapest.nd rfl (by first | exact Or.inl rfl | exact Or.inr rfl) (pe_call (ok__spans T) (hr.mono (by decide)) (by rfl) T.g__spans T.F__spans.kp T.b__spans .nil pass0 (pa_cons (pv 0) (pa_cons (pv 1) pa_nil))))
        (pss_cons (ps_if (PW.pt (pw_or (pt_not (pt_val (pe_call (ok__is_plan T) (hr.mono (by decide)) (by rfl) T.g__is_plan T.F__is_plan.kp T.b__is_plan .nil pass0 (pa_cons (pv 0) (pa_cons (pv 4) (pa_cons (pv 1) (pa_cons (pv 2) pa_nil))))))) (pw_or1 (pt_not (pt_val (pe_call (ok__are_pledges T) (hr.mono (by decide)) (by rfl) T.g__are_pledges T.F__are_pledges.kp T.b__are_pledges .nil pass0 (pa_cons (pv 4) (pa_cons (pv 1) (pa_cons (pv 3) pa_nil))))))))) (pss_one (ps_ret pe_bl)) pss_nil)
        (pss_cons (ps_set (i := 5) sc_shows_cheapest.nd rfl (by first | exact Or.inl rfl | exact Or.inr rfl) (pe_callTy (Vz.cr_setTI (by rfl)) (by rfl) T.z_set (by decide +kernel) (pa_cons (pv 2) pa_nil)))
        (pss_one (ps_ret (pe_cmpR op_eq (pe_callB (cr_sum (by rfl)) (by rfl) T.z_sum (by decide +kernel) (pa_cons (pe_lc (own := [("moment", 6), ("cost", 7)]) (g := gTup K 2 (gCons (gName 6) (gCons (gName 7) gNil))) (by rfl) sc_shows_cheapest.nd (pi_tup (pv 1)) (blkOk_by (own := [("moment", 6), ("cost", 7)]) (N := ["windows", "offers", "plan", "pledges", "spans", "asked", "moment", "cost"]) (sc := defScope s_shows_cheapest) (by decide +kernel)) (fun _ _ _ _ _ => pg_tup rfl (pgs_cons (pg_name (i := 6) sc_shows_cheapest.nd rfl (Or.inl rfl)) (pgs_cons (pg_name (i := 7) sc_shows_cheapest.nd rfl (Or.inl rfl)) pgs_nil))) (fun _ _ _ _ _ => (pts_one (pt_cmpR (Vz.op_sinW (w := w) rfl) (pv 6) (pv 5) (by with_unfolding_all rfl)))) (fun _ _ _ _ _ => (pv 7))) pa_nil)) (pe_callB (Vz.cr_sumT (by rfl)) (by rfl) T.z_sum (by decide +kernel) (pa_cons (pv 3) pa_nil)) (nomark _)))))))), ?_⟩
    refine ⟨_, rfl, _, rfl, ?_⟩
    dsimp only [tNil, List.cons_append, List.nil_append, List.append_nil]
    refine chk_use hc fun a b xs ys eu eo ha hb bw bo good H1 s1 => ?_
    subst eu eo
    obtain ⟨lx, ly, ws, os, pw, po, so, gw, good⟩ := good
    have l1 := prs_len pw
    have l2 := prs_len po
    have ha1 := s1 _ _ ha
    have hb1 := s1 _ _ hb
    refine ⟨_, rfl, _, rfl, a, b, xs, ys, ws, os, rfl, SqT.of ha1, prs_map s1 pw, SqT.of hb1, prs_map s1 po, so, (by omega), (by omega), fun H2 r zs s2 hr pz => ?_⟩
    have lsp : (spanL ws os).length = ws.length := by unfold spanL; rw [List.length_map]
    have l3 := prs_len pz
    have sA := s1.trans s2
    obtain ⟨kv, tkv, _⟩ := id tv
    obtain ⟨kl, tkl, _⟩ := id tl
    refine ⟨_, rfl, _, rfl, _, rfl, _, rfl, ?_⟩
    dsimp only [tNil, List.cons_append, List.nil_append, List.append_nil]
    refine ⟨d, a, r, b, v, xs, zs, ys, ws, spanL ws os, os, rfl, sA _ _ ha, prs_map sA pw, hr, pz, sA _ _ hb, prs_map sA po, by omega, by omega, tv.same sA, fv.same tkv sA, fun H3 s3 => ?_⟩
    rw [ofV_same tkv sA]
    have sB := sA.trans s3
    refine ⟨_, rfl, ?_⟩
    cases ev : ofV (planL ws (spanL ws os) (os.map (·.1))) H v with
    | false =>
      refine iteT ?_
      refine iteT ?_
      have z : showB H ws os v l = false := by unfold showB; rw [ev]; rfl
      rw [z] at good
      exact good _ sB
    | true =>
    refine iteF ?_
    refine ⟨_, rfl, _, rfl, _, rfl, ?_⟩
    dsimp only [tNil, List.cons_append, List.nil_append, List.append_nil]
    refine ⟨d, r, b, l, zs, ys, spanL ws os, os, rfl, s3 _ _ hr, prs_map s3 pz, sB _ _ hb, prs_map sB po, by omega, by omega, span_bounds gw, tl.same sB, fl.same tkl sB, fun H4 s4 => ?_⟩
    rw [ofV_same tkl sB]
    have sC := sB.trans s4
    refine ⟨_, rfl, ?_⟩
    cases el : ofV (pledB (spanL ws os) os) H l with
    | false =>
      refine iteT ?_
      have z : showB H ws os v l = false := by unfold showB; rw [ev, el]; rfl
      rw [z] at good
      exact good _ sC
    | true =>
    refine iteF ?_
    obtain ⟨p, us, rfl, hp, hpl⟩ := ofV_tup ev
    obtain ⟨c, ls, rfl, hcl, hpd⟩ := ofV_tup el
    have ep := ints_map (planL_ints hpl)
    have ec := ints_map (pledB_ints hpd)
    have es : showB H ws os (.ref p) (.ref c) = decide (sumC os (us.map intV) = (ls.map intV).sum) := by
      unfold showB intsV
      rw [ev, el]
      simp only [hp, hcl]
      rfl
    rw [es] at good
    have lus := fv p us rfl hp
    generalize us.map intV = ms at ep good
    generalize ls.map intV = ns at ec good
    subst ep ec
    rw [List.length_map] at lus
    refine ⟨_, rfl, p, ms, rfl, SqT.of (sC _ _ hp), lus, fun q n nq hn => ?_⟩
    have s5 := sC.trans (same_new (o := SetO w q (fun j => decide (j ∈ ms)) n) nq)
    have h5 := upd_same (H := H4) (a := q) (o := SetO w q (fun j => decide (j ∈ ms)) n)
    generalize hH5 : upd H4 q (SetO _ q (fun j => decide (j ∈ ms)) n) = H5
    have s5 : Same H H5 := by rw [← hH5]; exact s5
    have h5 : H5 q = some (SetO w q (fun j => decide (j ∈ ms)) n) := by rw [← hH5]; exact h5
    refine ⟨_, rfl, b, rfl, ⟨_, SqT.of (s5 _ _ hb)⟩, fun D nD => ?_⟩
    refine lc_it (walk_tup (K := K) (a := b) (xs := ys)) (fun i H' => H' = upd H5 D (.lst ((((os.take i).filter fun p => decide (p.1 ∈ ms)).map (·.2)).map V.int))) rfl ?_ ?_ ?_
    · rintro i H' _ rfl
      exact SqT.of (same_new nD _ _ (s5 _ _ hb))
    · rintro i x H6 H7 hi rfl ⟨rfl, hx⟩
      obtain ⟨m, t, hm, rfl, ht⟩ := prs_at po hx
      have s6 := same_new (o := .lst ((((os.take i).filter fun p => decide (p.1 ∈ ms)).map (·.2)).map V.int)) nD
      refine ⟨t, _, rfl, Vz.sqT_same (s5.trans s6) ht, rfl, _, _, rfl, _, _, rfl, rfl, rfl, ?_⟩
      refine ⟨_, rfl, _, rfl, m.1, q, _, n, rfl, rfl, s6 _ _ h5, _, rfl, ?_⟩
      have few : ((os.take i).filter fun p => decide (p.1 ∈ ms)).length ≤ 1000 := by
        have := List.length_filter_le (fun p : Int × Int => decide (p.1 ∈ ms)) (os.take i)
        rw [List.length_take] at this
        omega
      refine ite2 (fun c => ?_) (fun c => ?_)
      · refine ⟨_, rfl, _, upd_same, by rw [List.length_map, List.length_map, sizeLine_eq]; omega, ?_⟩
        rw [upd_upd, List.take_add_one, hm, List.filter_append]
        show _ = upd H5 D (.lst (((_ ++ List.filter (fun p => decide (p.1 ∈ ms)) [m]).map _).map _))
        rw [List.filter_cons, if_pos c, List.filter_nil, List.map_append, List.map_append]
        rfl
      · rw [List.take_add_one, hm, List.filter_append]
        show _ = upd H5 D (.lst (((_ ++ List.filter (fun p => decide (p.1 ∈ ms)) [m]).map _).map _))
        rw [List.filter_cons, if_neg c, List.filter_nil, List.append_nil]
    · rintro H6 rfl
      have tkO : os.take ys.length = os := List.take_of_length_le (by omega)
      rw [tkO]
      have s6 := s5.trans (same_new (o := .lst (((os.filter fun p => decide (p.1 ∈ ms)).map (·.2)).map V.int)) nD)
      have h6 := upd_same (H := H5) (a := D) (o := .lst (((os.filter fun p => decide (p.1 ∈ ms)).map (·.2)).map V.int))
      generalize upd H5 D (.lst (((os.filter fun p => decide (p.1 ∈ ms)).map (·.2)).map V.int)) = H6 at s6 h6 ⊢
      refine ⟨D, _, rfl, SqL.of h6, ?_⟩
      refine ⟨_, rfl, c, ns, rfl, SqT.of (s6 _ _ hcl), ?_⟩
      refine ⟨rfl, ?_⟩
      rw [dI]
      exact good _ s6
end
end Toy
set_option Elab.async false
set_option linter.all false
set_option maxRecDepth 100000
set_option maxHeartbeats 400000
namespace Toy
open PySem PySem.Spec PyProof.Rows L2
theorem eqv_ints : ∀ (l k : List Int), PyData.eqvAll (l.map PyData.int) (k.map PyData.int) = decide (l = k)
  | [], [] => rfl
  | [], _ :: _ => by simp [PyData.eqvAll]
  | _ :: _, [] => by simp [PyData.eqvAll]
  | x :: xs, y :: ys => by
    simp only [List.map_cons, PyData.eqvAll, PyData.eqv]
    rw [eqv_ints xs ys]
    by_cases h1 : x = y <;> by_cases h2 : xs = ys <;> simp [h1, h2]
theorem ints_data (l : List Int) : PyData.showableAll (l.map PyData.int) = decide (∀ i ∈ l, i.natAbs.log2 < 1920) ∧ PyData.hasDictAll (l.map PyData.int) = false ∧ PyData.depthAll (l.map PyData.int) = 0 ∧ PyData.canLayAll0 (l.map PyData.int) = PyData.canLayAll0 (l.map PyData.int) := by
  induction l with
  | nil => exact ⟨by simp [PyData.showableAll], rfl, rfl, rfl⟩
  | cons i l ih =>
    obtain ⟨a, b, c, d⟩ := ih
    refine ⟨?_, ?_, ?_, rfl⟩
    · simp only [List.map_cons, PyData.showableAll, PyData.showable, a]
      rw [Bool.eq_iff_iff]
      simp
    · simp only [List.map_cons, PyData.hasDictAll, PyData.hasDict, b, Bool.or_self]
    · simp only [List.map_cons, PyData.depthAll, PyData.depth, c, Nat.max_self]
theorem log_small {i : Int} (h : i.natAbs < 10 ^ 12) : i.natAbs.log2 < 40 := by
  by_cases z : i.natAbs = 0
  · rw [z]; decide
  · exact (Nat.log2_lt z).mpr (Nat.lt_of_lt_of_le h (by decide))
theorem weight_ints : ∀ (l : List Int), (∀ i ∈ l, i.natAbs < 10 ^ 12) → PyData.weightAll (l.map PyData.int) ≤ 42 * l.length
  | [], _ => by simp [PyData.weightAll]
  | i :: l, h => by
    have a := weight_ints l fun j hj => h j (List.mem_cons_of_mem _ hj)
    have b := log_small (h i List.mem_cons_self)
    simp only [List.map_cons, PyData.weightAll, PyData.weight, List.length_cons]
    split <;> omega
theorem leaves_ints : ∀ (l : List Int), (∀ i ∈ l, i.natAbs < 10 ^ 12) → PyData.leavesShortAll 13 (l.map PyData.int) = true
  | [], _ => rfl
  | i :: l, h => by
    simp only [List.map_cons, PyData.leavesShortAll, PyData.leavesShort, Bool.and_eq_true, decide_eq_true_eq]
    exact ⟨PyData.shown_int_le (h i List.mem_cons_self), leaves_ints l fun j hj => h j (List.mem_cons_of_mem _ hj)⟩
def dTup (l : List Int) : PyData := .tuple (l.map PyData.int)
def Shows (d : PyData) : Prop := d.showable = true ∧ d.hasDict = false ∧ d.depth ≤ 60 ∧ d.shown.length ≤ sizeLine
theorem dTup_ok {l : List Int} (hl : ∀ i ∈ l, i.natAbs < 10 ^ 12) (n : l.length ≤ 7) : Shows (dTup l) := by
  obtain ⟨a, b, c, _⟩ := ints_data l
  refine ⟨?_, ?_, ?_, ?_⟩
  · unfold dTup
    simp only [PyData.showable, a, decide_eq_true_eq]
    intro i hi
    exact Nat.lt_trans (log_small (hl i hi)) (by decide)
  · unfold dTup; simp only [PyData.hasDict, b]
  · unfold dTup; simp only [PyData.depth, c]; omega
  · refine PyData.shown_fits (B := 13) (by decide) (by decide) ?_ ?_
    · unfold dTup; simp only [PyData.leavesShort]; exact leaves_ints l hl
    · unfold dTup; simp only [PyData.weight]
      have := weight_ints l hl
      have e : (2 : Nat) ^ 20 = 1048576 := by decide
      omega
/-! ### data that repr shows -/
def Sm (n m : Nat) (d : PyData) : Prop := d.showable = true ∧ d.hasDict = false ∧ d.depth ≤ n ∧ d.leavesShort 13 = true ∧ d.weight ≤ m
theorem Sm.mono {n m n' m' : Nat} {d : PyData} (h : Sm n m d) (a : n ≤ n') (b : m ≤ m') : Sm n' m' d := ⟨h.1, h.2.1, Nat.le_trans h.2.2.1 a, h.2.2.2.1, Nat.le_trans h.2.2.2.2 b⟩
theorem Sm.shows {n m : Nat} {d : PyData} (h : Sm n m d) (hn : n ≤ 60) (hm : m ≤ 2 ^ 20) : Shows d :=
  ⟨h.1, h.2.1, Nat.le_trans h.2.2.1 hn, PyData.shown_fits (B := 13) (by decide) (by decide) h.2.2.2.1 (Nat.le_trans h.2.2.2.2 hm)⟩
theorem sm_none : Sm 0 60 .none := ⟨rfl, rfl, Nat.le_refl _, rfl, by decide⟩
theorem sm_bool (b : Bool) : Sm 0 60 (.bool b) := ⟨rfl, rfl, Nat.le_refl _, rfl, by show 0 ≤ 60; decide⟩
theorem sm_int {i : Int} (h : i.natAbs < 10 ^ 12) : Sm 0 60 (.int i) := by
  refine ⟨?_, rfl, Nat.le_refl _, ?_, ?_⟩
  · simp only [PyData.showable, decide_eq_true_eq]; exact Nat.lt_trans (log_small h) (by decide)
  · simp only [PyData.leavesShort, decide_eq_true_eq]; exact PyData.shown_int_le h
  · simp only [PyData.weight]; have := log_small h; split <;> omega
theorem sm_str {x : Str} (h : (PyData.str x).leavesShort 13 = true) (hs : x.cps.size ≤ 60) : Sm 0 60 (.str x) := ⟨rfl, rfl, Nat.le_refl _, h, hs⟩
theorem sm_all {n m : Nat} : ∀ {ds : List PyData}, (∀ d ∈ ds, Sm n m d) → PyData.showableAll ds = true ∧ PyData.hasDictAll ds = false ∧ PyData.depthAll ds ≤ n ∧ PyData.leavesShortAll 13 ds = true ∧ PyData.weightAll ds ≤ ds.length * (m + 1)
  | [], _ => ⟨rfl, rfl, Nat.zero_le _, rfl, by simp [PyData.weightAll]⟩
  | d :: ds, h => by
    obtain ⟨a1, a2, a3, a4, a5⟩ := h d List.mem_cons_self
    obtain ⟨b1, b2, b3, b4, b5⟩ := sm_all fun e he => h e (List.mem_cons_of_mem _ he)
    refine ⟨?_, ?_, ?_, ?_, ?_⟩
    · simp only [PyData.showableAll, a1, b1, Bool.and_self]
    · simp only [PyData.hasDictAll, a2, b2, Bool.or_self]
    · simp only [PyData.depthAll]; omega
    · simp only [PyData.leavesShortAll, a4, b4, Bool.and_self]
    · simp only [PyData.weightAll, List.length_cons, Nat.add_mul]; omega
theorem sm_len {n m k : Nat} (h : k ≤ n) : k * m ≤ n * m := Nat.mul_le_mul_right _ h
theorem sm_tup {n m : Nat} {ds : List PyData} (h : ∀ d ∈ ds, Sm n m d) (l : ds.length ≤ 7) : Sm (n + 1) (7 * (m + 1)) (.tuple ds) := by
  obtain ⟨b1, b2, b3, b4, b5⟩ := sm_all h
  refine ⟨?_, ?_, ?_, ?_, ?_⟩
  · simp only [PyData.showable, b1]
  · simp only [PyData.hasDict, b2]
  · simp only [PyData.depth]; omega
  · simp only [PyData.leavesShort, b4]
  · simp only [PyData.weight]; exact Nat.le_trans b5 (sm_len l)
theorem sm_lst {n m : Nat} {ds : List PyData} (h : ∀ d ∈ ds, Sm n m d) (l : ds.length ≤ 7) : Sm (n + 1) (7 * (m + 1)) (.list ds) := by
  obtain ⟨b1, b2, b3, b4, b5⟩ := sm_all h
  refine ⟨?_, ?_, ?_, ?_, ?_⟩
  · simp only [PyData.showable, b1]
  · simp only [PyData.hasDict, b2]
  · simp only [PyData.depth]; omega
  · simp only [PyData.leavesShort, b4]
  · simp only [PyData.weight]; exact Nat.le_trans b5 (sm_len l)
theorem sm_word {x : Str} {n m : Nat} {d : PyData} (hx : Sm 0 60 (.str x)) (h : Sm n m d) (hm : 60 ≤ m) : Sm (n + 1) (7 * (m + 1)) (.list [.str x, d]) := by
  refine sm_lst (fun e he => ?_) (by show 2 ≤ 7; decide)
  simp only [List.mem_cons, List.not_mem_nil, or_false] at he
  rcases he with rfl | rfl
  · exact hx.mono (Nat.zero_le _) hm
  · exact h
theorem lay_ints : ∀ l : List Int, PyData.canLayAll0 (l.map PyData.int) = true
  | [] => rfl
  | i :: l => by simp only [List.map_cons, PyData.canLayAll0, PyData.canLay0, Bool.true_and]; exact lay_ints l
theorem shaped_ints (l : List Int) : SeqAt.shaped (dTup l) = true := by
  obtain ⟨_, _, c, _⟩ := ints_data l
  unfold SeqAt.shaped dTup
  simp only [PyData.canLay0, PyData.depth, c, lay_ints, Bool.true_and]
  rfl
theorem dpAllI {K : PySem.W.Frag} {H : Hp} : ∀ l : List Int, DpAll K H (l.map V.int) (l.map PyData.int)
  | [] => .nil
  | i :: l => .cons (.int i) (dpAllI l)
theorem sm_ints {l : List Int} (hl : ∀ i ∈ l, i.natAbs < 10 ^ 12) : ∀ e ∈ l.map PyData.int, Sm 0 60 e := fun e he => by
  obtain ⟨i, hi, rfl⟩ := List.mem_map.mp he
  exact sm_int (hl i hi)
/-! ### what is lost -/
def dueFrom (os : List (Int × Int)) : List (Int × Int) → Nat → List Int
  | [], _ => []
  | p :: ps, i => if insL p.1 p.2 os = [] then (i : Int) :: dueFrom os ps (i + 1) else dueFrom os ps (i + 1)
theorem dueFrom_app (os : List (Int × Int)) : ∀ (l : List (Int × Int)) (p : Int × Int) (i : Nat), dueFrom os (l ++ [p]) i = dueFrom os l i ++ (if insL p.1 p.2 os = [] then [((i + l.length : Nat) : Int)] else [])
  | [], p, i => by
    show (if insL p.1 p.2 os = [] then (i : Int) :: [] else []) = _
    simp [dueFrom]
  | q :: l, p, i => by
    have ih := dueFrom_app os l p (i + 1)
    show (if insL q.1 q.2 os = [] then (i : Int) :: dueFrom os (l ++ [p]) (i + 1) else dueFrom os (l ++ [p]) (i + 1)) = (if insL q.1 q.2 os = [] then (i : Int) :: dueFrom os l (i + 1) else dueFrom os l (i + 1)) ++ _
    rw [ih, List.length_cons]
    have e : ((i + 1 + l.length : Nat) : Int) = ((i + (l.length + 1) : Nat) : Int) := by omega
    rw [e]
    split <;> rfl
theorem dueFrom_len (os : List (Int × Int)) : ∀ (l : List (Int × Int)) (i : Nat), (dueFrom os l i).length ≤ l.length
  | [], _ => Nat.zero_le _
  | p :: l, i => by
    have := dueFrom_len os l (i + 1)
    unfold dueFrom
    split
    · rw [List.length_cons, List.length_cons]; omega
    · rw [List.length_cons]; omega
theorem dueFrom_small (os : List (Int × Int)) : ∀ (l : List (Int × Int)) (i : Nat), ∀ x ∈ dueFrom os l i, 0 ≤ x ∧ x < i + l.length
  | [], _, x, h => nomatch h
  | p :: l, i, x, h => by
    unfold dueFrom at h
    have go : x ∈ dueFrom os l (i + 1) → 0 ≤ x ∧ x < i + (p :: l).length := fun h => by
      have := dueFrom_small os l (i + 1) x h
      rw [List.length_cons]; omega
    split at h
    · rcases List.mem_cons.mp h with z | z
      · rw [z, List.length_cons]; omega
      · exact go z
    · exact go h
theorem first_ins : ∀ (ms : List Int) (b e : Int), ms.Pairwise (· < ·) → b ≤ e → ((firstN ms b : Int) = firstN ms e ↔ (ms.filter fun m => decide (b ≤ m) && decide (m < e)) = [])
  | [], b, e, _, _ => ⟨fun _ => rfl, fun _ => rfl⟩
  | m :: ms, b, e, pw, be => by
    obtain ⟨w1, w2⟩ := List.pairwise_cons.mp pw
    have ih := first_ins ms b e w2 be
    unfold firstN at ih ⊢
    rw [List.takeWhile_cons, List.takeWhile_cons, List.filter_cons]
    by_cases c : m < b
    · rw [if_pos (by simpa using c), if_pos (by simp; omega), if_neg (by simp; omega), ← ih, List.length_cons, List.length_cons]
      constructor <;> intro z <;> omega
    · rw [if_neg (by simpa using c)]
      by_cases c2 : m < e
      · rw [if_pos (by simpa using c2), if_pos (by simp; omega), List.length_cons]
        constructor
        · intro z; simp only [List.length_nil] at z; omega
        · intro z; cases z
      · rw [if_neg (by simpa using c2), if_neg (by simp; omega)]
        refine ⟨fun _ => ?_, fun _ => rfl⟩
        refine List.filter_eq_nil_iff.mpr fun x hx => ?_
        have := w1 x hx
        simp; omega
theorem lost_due {os : List (Int × Int)} (so : (os.map (·.1)).Pairwise (· < ·)) : ∀ (ws : List (Int × Int)) (i : Nat), (∀ p ∈ ws, 0 ≤ p.1 ∧ p.1 ≤ p.2) → lostFrom (spanL ws os) i = dueFrom os ws i
  | [], _, _ => rfl
  | p :: ws, i, h => by
    have ih := lost_due so ws (i + 1) fun q hq => h q (List.mem_cons_of_mem _ hq)
    have f := first_ins (os.map (·.1)) p.1 p.2 so (h p List.mem_cons_self).2
    have f : ((firstN (os.map (·.1)) p.1 : Int) = firstN (os.map (·.1)) p.2 ↔ insL p.1 p.2 os = []) := f
    show (if (firstN (os.map (·.1)) p.1 : Int) = firstN (os.map (·.1)) p.2 then (i : Int) :: lostFrom (spanL ws os) (i + 1) else lostFrom (spanL ws os) (i + 1)) = (if insL p.1 p.2 os = [] then (i : Int) :: dueFrom os ws (i + 1) else dueFrom os ws (i + 1))
    rw [ih]
    by_cases c : insL p.1 p.2 os = []
    · rw [if_pos (f.mpr c), if_pos c]
    · rw [if_neg (fun z => c (f.mp z)), if_neg c]
/-! ### the law's judging is the program's -/
theorem firstN_lt {b : Int} : ∀ {ms : List Int} {i : Nat} {x : Int}, i < firstN ms b → ms[i]? = some x → x < b
  | m :: ms, i, x, h, hx => by
    unfold firstN at h
    rw [List.takeWhile_cons] at h
    by_cases c : m < b
    · rw [if_pos (by simpa using c), List.length_cons] at h
      cases i with
      | zero => cases hx; exact c
      | succ i => exact firstN_lt (ms := ms) (i := i) (by unfold firstN; omega) hx
    · rw [if_neg (by simpa using c)] at h
      exact absurd h (Nat.not_lt_zero _)
theorem firstN_ge {b : Int} : ∀ {ms : List Int} {x : Int}, ms[firstN ms b]? = some x → b ≤ x
  | m :: ms, x, hx => by
    unfold firstN at hx
    rw [List.takeWhile_cons] at hx
    by_cases c : m < b
    · rw [if_pos (by simpa using c), List.length_cons] at hx
      exact firstN_ge (ms := ms) hx
    · rw [if_neg (by simpa using c)] at hx
      cases hx
      omega
theorem pw_le {ms : List Int} (pw : ms.Pairwise (· < ·)) {i j : Nat} {x y : Int} (hij : i ≤ j) (hx : ms[i]? = some x) (hy : ms[j]? = some y) : x ≤ y := by
  obtain ⟨i1, rfl⟩ := List.getElem?_eq_some_iff.mp hx
  obtain ⟨j1, rfl⟩ := List.getElem?_eq_some_iff.mp hy
  rcases Nat.lt_or_ge i j with z | z
  · exact Int.le_of_lt (List.pairwise_iff_getElem.mp pw i j i1 j1 z)
  · have e : i = j := by omega
    subst e
    exact Int.le_refl _
theorem firstN_le_iff {ms : List Int} (pw : ms.Pairwise (· < ·)) {b : Int} {j : Nat} {y : Int} (hy : ms[j]? = some y) : (firstN ms b : Int) ≤ j ↔ b ≤ y := by
  constructor
  · intro h
    have lf : firstN ms b < ms.length := by have := (List.getElem?_eq_some_iff.mp hy).1; omega
    have hx := List.getElem?_eq_getElem lf
    have g := firstN_ge hx
    have := pw_le pw (i := firstN ms b) (j := j) (by omega) hx hy
    omega
  · intro h
    rcases Nat.lt_or_ge j (firstN ms b) with z | z
    · have := firstN_lt z hy; omega
    · omega
theorem sorted_ext : ∀ {l m : List Int}, l.Pairwise (· < ·) → m.Pairwise (· < ·) → (∀ k, k ∈ l ↔ k ∈ m) → l = m
  | [], [], _, _, _ => rfl
  | [], y :: m, _, _, h => by have := (h y).mpr List.mem_cons_self; cases this
  | x :: l, [], _, _, h => by have := (h x).mp List.mem_cons_self; cases this
  | x :: l, y :: m, hl, hm, h => by
    obtain ⟨l1, l2⟩ := List.pairwise_cons.mp hl
    obtain ⟨m1, m2⟩ := List.pairwise_cons.mp hm
    have exy : x = y := by
      have a := (h x).mp List.mem_cons_self
      have b := (h y).mpr List.mem_cons_self
      rcases List.mem_cons.mp a with z | z
      · exact z
      · rcases List.mem_cons.mp b with u | u
        · exact u.symm
        · have := m1 x z; have := l1 y u; omega
    subst exy
    rw [sorted_ext l2 m2 fun k => ?_]
    constructor
    · intro hk
      rcases List.mem_cons.mp ((h k).mp (List.mem_cons_of_mem _ hk)) with z | z
      · have := l1 k hk; omega
      · exact z
    · intro hk
      rcases List.mem_cons.mp ((h k).mpr (List.mem_cons_of_mem _ hk)) with z | z
      · have := m1 k hk; omega
      · exact z
theorem pw_rise : ∀ (ms : List Int), ms.Pairwise (· < ·) → riseB ms = true
  | [], _ => rfl
  | [m], _ => rfl
  | m :: n :: ms, h => by
    obtain ⟨a, b⟩ := List.pairwise_cons.mp h
    have ih := pw_rise (n :: ms) b
    show (!(decide (m ≥ n) || ((n :: ms).zip ((n :: ms).drop 1)).any fun p => decide (p.1 ≥ p.2))) = true
    unfold riseB at ih
    have := a n List.mem_cons_self
    rw [decide_eq_false (by omega), Bool.false_or]
    exact ih
/-- is a window served, as the law sees it -/
def servL (os : List (Int × Int)) (ms : List Int) (p : Int × Int) : Bool := !(!(insL p.1 p.2 os).isEmpty && ((insL p.1 p.2 os).filter fun m => decide (m ∈ ms)).isEmpty)
theorem serv_eq {os : List (Int × Int)} {ms : List Int} {p : Int × Int} (so : (os.map (·.1)).Pairwise (· < ·)) (sm : ms.Pairwise (· < ·)) (sub : ∀ m ∈ ms, m ∈ os.map (·.1)) (hp : p.1 ≤ p.2) :
    servB ms p ((firstN (os.map (·.1)) p.1 : Int), (firstN (os.map (·.1)) p.2 : Int)) = servL os ms p := by
  have f := first_ins (os.map (·.1)) p.1 p.2 so hp
  have f : ((firstN (os.map (·.1)) p.1 : Int) = firstN (os.map (·.1)) p.2 ↔ insL p.1 p.2 os = []) := f
  have mo := firstN_mono hp (os.map (·.1))
  have e1 : decide ((firstN (os.map (·.1)) p.1 : Int) < (firstN (os.map (·.1)) p.2 : Int)) = !(insL p.1 p.2 os).isEmpty := by
    by_cases c : insL p.1 p.2 os = []
    · rw [c, decide_eq_false (by have := f.mpr c; omega)]; rfl
    · rw [decide_eq_true (by have : ¬ _ := fun z => c (f.mp z); omega)]
      cases z : insL p.1 p.2 os with
      | nil => exact absurd z c
      | cons _ _ => rfl
  have e2 : (decide (firstN ms p.1 = ms.length) || decide ((ms[firstN ms p.1]?).getD 0 ≥ p.2)) = ((insL p.1 p.2 os).filter fun m => decide (m ∈ ms)).isEmpty := by
    have fl := firstN_le ms p.1
    rw [Bool.eq_iff_iff, List.isEmpty_iff, List.filter_eq_nil_iff]
    constructor
    · intro h x hx
      intro hm
      have hm : x ∈ ms := of_decide_eq_true hm
      unfold insL at hx
      obtain ⟨_, hr⟩ := List.mem_filter.mp hx
      have r1 : p.1 ≤ x := of_decide_eq_true (Bool.and_eq_true_iff.mp hr).1
      have r2 : x < p.2 := of_decide_eq_true (Bool.and_eq_true_iff.mp hr).2
      obtain ⟨i, hi⟩ := List.getElem?_of_mem hm
      have li := (List.getElem?_eq_some_iff.mp hi).1
      have ge : firstN ms p.1 ≤ i := by
        rcases Nat.lt_or_ge i (firstN ms p.1) with z | z
        · have := firstN_lt z hi; omega
        · exact z
      rcases (Bool.or_eq_true_iff.mp h) with z | z
      · have z := of_decide_eq_true z; omega
      · have z := of_decide_eq_true z
        have lf : firstN ms p.1 < ms.length := by omega
        have hf := List.getElem?_eq_getElem lf
        rw [hf] at z
        have := pw_le sm ge hf hi
        have z : ms[firstN ms p.1] ≥ p.2 := z
        omega
    · intro h
      by_cases c : firstN ms p.1 = ms.length
      · rw [decide_eq_true c]; rfl
      · have lf : firstN ms p.1 < ms.length := by omega
        have hf := List.getElem?_eq_getElem lf
        have ge := firstN_ge hf
        have mem := List.getElem_mem lf
        rw [hf]
        rw [Bool.or_eq_true_iff]
        refine .inr (decide_eq_true ?_)
        show ms[firstN ms p.1] ≥ p.2
        by_cases c2 : ms[firstN ms p.1] ≥ p.2
        · exact c2
        · refine absurd (decide_eq_true mem) (h _ ?_)
          unfold insL
          refine List.mem_filter.mpr ⟨sub _ mem, ?_⟩
          rw [decide_eq_true ge, decide_eq_true (by omega)]; rfl
  unfold servB servL
  rw [← e1, ← e2]
def planLaw (ws os : List (Int × Int)) (xs : List V) : Bool :=
  xs.all okP && ((xs.map intV).all fun m => decide (m ∈ os.map (·.1))) && riseB (xs.map intV) && ws.all fun p => servL os (xs.map intV) p
theorem zip_map_all {α β : Type} {f : α → β} {g : α × β → Bool} {h : α → Bool} : ∀ (l : List α), (∀ x ∈ l, g (x, f x) = h x) → (l.zip (l.map f)).all g = l.all h
  | [], _ => rfl
  | x :: l, z => by
    have ih := zip_map_all (f := f) (g := g) (h := h) l fun y hy => z y (List.mem_cons_of_mem _ hy)
    show (g (x, f x) && (l.zip (l.map f)).all g) = (h x && l.all h)
    rw [z x List.mem_cons_self, ih]
theorem plan_law {ws os : List (Int × Int)} (so : (os.map (·.1)).Pairwise (· < ·)) (pos : ∀ m ∈ os.map (·.1), 0 ≤ m) (gw : ∀ p ∈ ws, p.1 ≤ p.2) (xs : List V) : planL ws (spanL ws os) (os.map (·.1)) xs = planLaw ws os xs := by
  unfold planL planLaw
  by_cases a : xs.all isI = true
  · by_cases b : ((xs.map intV).all fun m => decide (m ∈ os.map (·.1))) = true
    · have ok : xs.all okP = true := List.all_eq_true.mpr fun x hx => by
        unfold okP
        rw [List.all_eq_true.mp a x hx, Bool.true_and]
        exact decide_eq_true (pos _ (of_decide_eq_true (List.all_eq_true.mp b (intV x) (List.mem_map_of_mem hx))))
      rw [a, b, ok]
      by_cases r : riseB (xs.map intV) = true
      · rw [r]
        congr 1
        unfold spanL
        refine zip_map_all ws fun p hp => ?_
        exact serv_eq so (rise_pw _ r) (fun m hm => of_decide_eq_true (List.all_eq_true.mp b m hm)) (gw p hp)
      · rw [Bool.not_eq_true] at r
        rw [r, Bool.and_false, Bool.false_and, Bool.false_and]
    · rw [Bool.not_eq_true] at b
      simp only [b, Bool.and_false, Bool.false_and]
  · have na : xs.all okP = false := by
      rw [← Bool.not_eq_true]
      intro z
      exact a (List.all_eq_true.mpr fun x hx => (Bool.and_eq_true_iff.mp (List.all_eq_true.mp z x hx)).1)
    rw [Bool.not_eq_true] at a
    simp only [a, na, Bool.false_and]
/-- what the law adds up for a moment -/
def loadL (l : List ((Int × Int) × Int)) (m : Int) : Int := (l.map fun q => if q.1.1 ≤ m ∧ m < q.1.2 then q.2 else 0).sum
def pledLaw (ws os : List (Int × Int)) (xs : List V) : Bool :=
  decide (xs.length = ws.length) && xs.all okP && (ws.zip (xs.map intV)).all (fun q => !(decide (q.2 > 0) && (insL q.1.1 q.1.2 os).isEmpty)) && os.all fun p => decide (loadL (ws.zip (xs.map intV)) p.1 ≤ p.2)
theorem load_eq {os : List (Int × Int)} (so : (os.map (·.1)).Pairwise (· < ·)) {j : Nat} {p : Int × Int} (hp : os[j]? = some p) : ∀ (ws : List (Int × Int)) (ps : List Int), loadZ ((spanL ws os).zip ps) (j : Nat) = loadL (ws.zip ps) p.1
  | [], _ => rfl
  | w :: ws, [] => rfl
  | w :: ws, x :: ps => by
    have ih := load_eq so hp ws ps
    have hm : (os.map (·.1))[j]? = some p.1 := by rw [List.getElem?_map, hp]; rfl
    have a := firstN_le_iff so (b := w.1) hm
    have b := firstN_le_iff so (b := w.2) hm
    have e : (if (firstN (os.map (·.1)) w.1 : Int) ≤ (j : Int) ∧ (j : Int) < (firstN (os.map (·.1)) w.2 : Int) then x else 0) = (if w.1 ≤ p.1 ∧ p.1 < w.2 then x else 0) := by
      by_cases c : w.1 ≤ p.1 ∧ p.1 < w.2
      · have n1 : ¬ (w.2 ≤ p.1) := by omega
        have n2 : ¬ (firstN (os.map (·.1)) w.2 : Int) ≤ (j : Int) := fun z => n1 (b.mp z)
        rw [if_pos c, if_pos ⟨a.mpr c.1, by omega⟩]
      · rw [if_neg c, if_neg]
        intro z
        refine c ⟨a.mp z.1, ?_⟩
        have n1 : ¬ (firstN (os.map (·.1)) w.2 : Int) ≤ (j : Int) := by omega
        have n2 : ¬ (w.2 ≤ p.1) := fun u => n1 (b.mpr u)
        omega
    have l1 : loadZ ((spanL (w :: ws) os).zip (x :: ps)) (j : Nat) = (if (firstN (os.map (·.1)) w.1 : Int) ≤ (j : Int) ∧ (j : Int) < (firstN (os.map (·.1)) w.2 : Int) then x else 0) + loadZ ((spanL ws os).zip ps) (j : Nat) := rfl
    have l2 : loadL ((w :: ws).zip (x :: ps)) p.1 = (if w.1 ≤ p.1 ∧ p.1 < w.2 then x else 0) + loadL (ws.zip ps) p.1 := rfl
    rw [l1, l2, ih, e]
theorem pled_law {ws os : List (Int × Int)} (so : (os.map (·.1)).Pairwise (· < ·)) (gw : ∀ p ∈ ws, p.1 ≤ p.2) (xs : List V) : pledB (spanL ws os) os xs = pledLaw ws os xs := by
  have lsp : (spanL ws os).length = ws.length := by unfold spanL; rw [List.length_map]
  unfold pledB pledLaw
  rw [lsp]
  by_cases a : xs.all okP = true
  · have h1 : ∀ (ws' : List (Int × Int)) (ps : List Int), (∀ p ∈ ws', p.1 ≤ p.2) → (∀ x ∈ ps, 0 ≤ x) → ((spanL ws' os).zip ps).all emptyB = (ws'.zip ps).all fun q => !(decide (q.2 > 0) && (insL q.1.1 q.1.2 os).isEmpty) := by
      intro ws'
      induction ws' with
      | nil => intro ps _ _; rfl
      | cons w ws' ih =>
        intro ps hw hx
        cases ps with
        | nil => rfl
        | cons x ps =>
          have ih := ih ps (fun p hp => hw p (List.mem_cons_of_mem _ hp)) (fun y hy => hx y (List.mem_cons_of_mem _ hy))
          have f := first_ins (os.map (·.1)) w.1 w.2 so (hw w List.mem_cons_self)
          have f : ((firstN (os.map (·.1)) w.1 : Int) = firstN (os.map (·.1)) w.2 ↔ insL w.1 w.2 os = []) := f
          have x0 := hx x List.mem_cons_self
          show (emptyB (((firstN (os.map (·.1)) w.1 : Int), (firstN (os.map (·.1)) w.2 : Int)), x) && _) = (!(decide (x > 0) && (insL w.1 w.2 os).isEmpty) && _)
          have e : emptyB (((firstN (os.map (·.1)) w.1 : Int), (firstN (os.map (·.1)) w.2 : Int)), x) = !(decide (x > 0) && (insL w.1 w.2 os).isEmpty) := by
            unfold emptyB
            congr 1
            rw [Bool.eq_iff_iff, Bool.and_eq_true_iff, Bool.and_eq_true_iff, List.isEmpty_iff]
            constructor
            · intro z
              exact ⟨decide_eq_true (by have : x ≠ 0 := of_decide_eq_true z.2; omega), f.mp (of_decide_eq_true z.1)⟩
            · intro z
              exact ⟨decide_eq_true (f.mpr z.2), decide_eq_true (by have : x > 0 := of_decide_eq_true z.1; show x ≠ 0; omega)⟩
          rw [e]
          congr 1
    have h2 : ((List.range os.length).all fun j => decide (loadZ ((spanL ws os).zip (xs.map intV)) (j : Nat) ≤ costA os j)) = os.all fun p => decide (loadL (ws.zip (xs.map intV)) p.1 ≤ p.2) := by
      rw [Bool.eq_iff_iff, List.all_eq_true, List.all_eq_true]
      constructor
      · intro h p hp
        obtain ⟨j, hj⟩ := List.getElem?_of_mem hp
        have z := of_decide_eq_true (h j (List.mem_range.mpr (List.getElem?_eq_some_iff.mp hj).1))
        rw [load_eq so hj] at z
        unfold costA at z
        rw [hj] at z
        exact decide_eq_true z
      · intro h j hj
        obtain ⟨p, hp⟩ : ∃ p, os[j]? = some p := ⟨_, List.getElem?_eq_getElem (List.mem_range.mp hj)⟩
        have z := of_decide_eq_true (h p (List.mem_of_getElem? hp))
        refine decide_eq_true ?_
        rw [load_eq so hp]
        unfold costA
        rw [hp]
        exact z
    rw [h1 ws _ gw (fun x hx => by
      obtain ⟨y, hy, rfl⟩ := List.mem_map.mp hx
      exact of_decide_eq_true (Bool.and_eq_true_iff.mp (List.all_eq_true.mp a y hy)).2), h2]
  · rw [Bool.not_eq_true] at a
    simp only [a, Bool.and_false, Bool.false_and]
end Toy
set_option Elab.async false
set_option linter.all false
set_option maxRecDepth 100000
set_option maxHeartbeats 1000000
namespace Toy
open PySem PySem.Spec PyProof.Rows L2
/-! ### the plan is the least: what is kept, step by step -/
def bT : List (Int × Int × Int) → Int → Int
  | [], _ => 0
  | e :: R, u => if e.1 ≤ u then e.2.2 else bT R u
def hTo : List (Int × Int × Int) → Int
  | [] => 0
  | e :: _ => e.2.2
def EOk (os : List (Int × Int)) : List (Int × Int × Int) → Prop
  | [] => True
  | e :: R => EOk os R ∧ 0 ≤ e.2.1 ∧ e.2.1 < e.1 ∧ e.1 ≤ os.length ∧ costA os e.2.1.toNat = e.2.2 - bT R e.2.1 ∧ ∀ x ∈ R, x.1 ≤ e.1 ∧ x.2.1 < e.2.1
def prE (e : Int × Int × Int) : Int × Int := (e.1, e.2.1)
def cA (os : List (Int × Int)) (u : Int) : Int := costA os u.toNat
theorem bT_all {R : List (Int × Int × Int)} {u : Int} (h : ∀ x ∈ R, x.1 ≤ u) : bT R u = hTo R := by
  cases R with
  | nil => rfl
  | cons e R => show (if e.1 ≤ u then _ else _) = _; rw [if_pos (h e List.mem_cons_self)]; rfl
theorem lastC_mem {c : List Int} (h : c ≠ []) : lastC c ∈ c := by
  unfold lastC
  rw [List.getLast?_eq_some_getLast h]
  exact List.getLast_mem h
structure CO (os : List (Int × Int)) (R : List (Int × Int × Int)) (c c' : List Int) : Prop where
  sum : (c'.map (cA os)).sum = (c.map (cA os)).sum + (if c = [] then hTo R else bT R (lastC c))
  hit : ∀ e ∈ R, ∃ x ∈ c', e.2.1 ≤ x ∧ x < e.1
  pw : c'.Pairwise (· > ·)
  bd : ∀ x ∈ c', x ∈ c ∨ (0 ≤ x ∧ x < os.length)
  sub : ∀ x ∈ c, x ∈ c'
theorem ch_ok (os : List (Int × Int)) : ∀ (R : List (Int × Int × Int)) (c : List Int), EOk os R → c.Pairwise (· > ·) → (c ≠ [] → ∀ e ∈ R, e.2.1 < lastC c) → (∀ x ∈ c, lastC c ≤ x) → CO os R c ((R.map prE).foldl chF c)
  | [], c, _, pw, _, _ => ⟨by show _ = _ + (if c = [] then 0 else 0); split <;> exact (Int.add_zero _).symm, (fun _ h => nomatch h), pw, fun x h => .inl h, fun x h => h⟩
  | e :: R, c, ⟨hE, u0, ub, bn, co, hR⟩, pw, hl, hm => by
    show CO os (e :: R) c ((R.map prE).foldl chF (chF c (prE e)))
    by_cases hc : (c.isEmpty || decide (lastC c ≥ e.1)) = true
    · have e1 : chF c (prE e) = c ++ [e.2.1] := by unfold chF prE; rw [if_pos hc]
      rw [e1]
      have lu : lastC (c ++ [e.2.1]) = e.2.1 := lastC_app _ _
      have gt : ∀ x ∈ c, x > e.2.1 := fun x hx => by
        have h2 := hm x hx
        have ne : c.isEmpty = false := by cases c with
          | nil => cases hx
          | cons => rfl
        rw [ne, Bool.false_or] at hc
        have := of_decide_eq_true hc
        omega
      have I := ch_ok os R (c ++ [e.2.1]) hE (List.pairwise_append.mpr ⟨pw, List.pairwise_singleton _ _, fun x hx y hy => by rw [List.mem_singleton.mp hy]; exact gt x hx⟩) (fun _ x hx => by rw [lu]; exact (hR x hx).2) (fun x hx => by
        rw [lu]
        rcases List.mem_append.mp hx with z | z
        · have := gt x z; omega
        · rw [List.mem_singleton.mp z]; exact Int.le_refl _)
      refine ⟨?_, fun x hx => ?_, I.pw, fun x hx => ?_, fun x hx => I.sub x (List.mem_append_left _ hx)⟩
      · rw [I.sum, if_neg (by simp), lu, List.map_append, List.sum_append, List.map_singleton, List.sum_singleton]
        have e2 : (if c = [] then hTo (e :: R) else bT (e :: R) (lastC c)) = e.2.2 := by
          split
          · rfl
          · rename_i cn
            have ne : c.isEmpty = false := by cases c with
              | nil => exact absurd rfl cn
              | cons => rfl
            rw [ne, Bool.false_or] at hc
            show (if e.1 ≤ lastC c then _ else _) = _
            rw [if_pos (of_decide_eq_true hc)]
        rw [e2]
        have : cA os e.2.1 = e.2.2 - bT R e.2.1 := co
        omega
      · rcases List.mem_cons.mp hx with z | z
        · exact ⟨e.2.1, I.sub _ (List.mem_append_right _ List.mem_cons_self), by rw [z]; exact Int.le_refl _, by rw [z]; exact ub⟩
        · exact I.hit x z
      · rcases I.bd x hx with z | z
        · rcases List.mem_append.mp z with y | y
          · exact .inl y
          · rw [List.mem_singleton.mp y]; exact .inr ⟨u0, by omega⟩
        · exact .inr z
    · have e1 : chF c (prE e) = c := by unfold chF prE; rw [if_neg hc]
      rw [e1]
      have cn : c ≠ [] := fun z => hc (by rw [z]; rfl)
      have lb : lastC c < e.1 := by
        cases z : decide (lastC c ≥ e.1) with
        | true => exact absurd (by rw [z, Bool.or_true]) hc
        | false => have := of_decide_eq_false z; omega
      have I := ch_ok os R c hE pw (fun h x hx => hl h x (List.mem_cons_of_mem _ hx)) hm
      refine ⟨?_, fun x hx => ?_, I.pw, I.bd, I.sub⟩
      · rw [I.sum, if_neg cn, if_neg cn]
        show _ = _ + (if e.1 ≤ lastC c then _ else _)
        rw [if_neg (by omega)]
      · rcases List.mem_cons.mp hx with z | z
        · exact ⟨lastC c, I.sub _ (lastC_mem cn), by rw [z]; have := hl cn e List.mem_cons_self; omega, by rw [z]; exact lb⟩
        · exact I.hit x z
/-! ### what is kept -/
theorem popK_split (lim : Int) (L : List (Int × Int)) : ∃ D, L = popK lim L ++ D ∧ ∀ e ∈ D, e.2 ≥ lim := by
  refine ⟨(L.reverse.takeWhile fun e => decide (e.2 ≥ lim)).reverse, ?_, fun e he => ?_⟩
  · unfold popK
    rw [← List.reverse_append, List.takeWhile_append_dropWhile, List.reverse_reverse]
  · have z := List.mem_reverse.mp he
    have := List.all_takeWhile (l := L.reverse) (p := fun e : Int × Int => decide (e.2 ≥ lim))
    exact of_decide_eq_true (List.all_eq_true.mp this e z)
def Up (a b : Int × Int) : Prop := a.1 < b.1 ∧ a.2 < b.2
theorem popK_lt {lim : Int} : ∀ (n : Nat) (L : List (Int × Int)), L.length = n → L.Pairwise Up → ∀ e ∈ popK lim L, e.2 < lim
  | 0, L, h, _, e, he => by rw [List.length_eq_zero_iff.mp h] at he; cases he
  | n + 1, L, h, pw, e, he => by
    rcases List.eq_nil_or_concat L with z | ⟨L0, x, z⟩
    · rw [z] at h; cases h
    · rw [List.concat_eq_append] at z
      subst z
      rw [popK_app] at he
      obtain ⟨p1, _, p3⟩ := List.pairwise_append.mp pw
      rw [List.length_append, List.length_singleton] at h
      split at he
      · exact popK_lt n L0 (by omega) p1 e he
      · rcases List.mem_append.mp he with y | y
        · have := (p3 e y x List.mem_cons_self).2; omega
        · rw [List.mem_singleton.mp y]; omega
structure KI (os : List (Int × Int)) (R : List (Int × Int × Int)) (ld : Int → Int) (tot : Int) (bg : Nat) (kp : List (Int × Int)) : Prop where
  mem : ∀ e ∈ kp, 0 ≤ e.1 ∧ e.1 < bg ∧ (∀ x ∈ R, x.2.1 < e.1) ∧ e.2 = cA os e.1 + bT R e.1 ∧ ld e.1 = cA os e.1 + tot - e.2
  pw : kp.Pairwise Up
  dom : ∀ i : Int, 0 ≤ i → i < bg → (∀ x ∈ R, x.2.1 < i) → ∃ e ∈ kp, i ≤ e.1 ∧ e.2 - tot ≤ cA os i - ld i
theorem ki_push {os : List (Int × Int)} {R : List (Int × Int × Int)} {ld : Int → Int} {tot : Int} {bg : Nat} {kp : List (Int × Int)} (I : KI os R ld tot bg kp) (f : ld bg = 0) (hR : ∀ x ∈ R, x.1 ≤ bg ∧ x.2.1 < bg) (ht : tot = hTo R) :
    KI os R ld tot (bg + 1) (popK (costA os bg + tot) kp ++ [((bg : Int), costA os bg + tot)]) := by
  have ec : cA os (bg : Int) = costA os bg := rfl
  obtain ⟨D, eD, hD⟩ := popK_split (costA os bg + tot) kp
  have pw0 := I.pw
  rw [eD] at pw0
  obtain ⟨p1, p2, p3⟩ := List.pairwise_append.mp pw0
  have lt := popK_lt (lim := costA os bg + tot) _ kp rfl I.pw
  refine ⟨fun e he => ?_, List.pairwise_append.mpr ⟨p1, List.pairwise_singleton _ _, fun x hx y hy => ?_⟩, fun i i0 i1 hi => ?_⟩
  · rcases List.mem_append.mp he with z | z
    · obtain ⟨a, b, c, d, g⟩ := I.mem e (popK_mem z)
      exact ⟨a, by omega, c, d, g⟩
    · rw [List.mem_singleton.mp z]
      refine ⟨by show (0 : Int) ≤ bg; omega, by show (bg : Int) < ((bg + 1 : Nat) : Int); omega, fun x hx => (hR x hx).2, ?_, ?_⟩
      · show costA os bg + tot = cA os (bg : Int) + bT R (bg : Int)
        rw [bT_all (fun x hx => (hR x hx).1), ec, ht]
      · show ld (bg : Int) = cA os (bg : Int) + tot - (costA os bg + tot)
        rw [f, ec]; omega
  · rw [List.mem_singleton.mp hy]
    exact ⟨(I.mem x (popK_mem hx)).2.1, lt x hx⟩
  · by_cases c : i < bg
    · obtain ⟨e, he, a, b⟩ := I.dom i i0 c hi
      rw [eD] at he
      rcases List.mem_append.mp he with z | z
      · exact ⟨e, List.mem_append_left _ z, a, b⟩
      · refine ⟨_, List.mem_append_right _ List.mem_cons_self, by show i ≤ (bg : Int); omega, ?_⟩
        have := hD e z
        show costA os bg + tot - tot ≤ _
        omega
    · have e : i = (bg : Int) := by omega
      subst e
      refine ⟨_, List.mem_append_right _ List.mem_cons_self, Int.le_refl _, ?_⟩
      show costA os bg + tot - tot ≤ _
      rw [f, ec]; omega
theorem ki_pushN {os : List (Int × Int)} {R : List (Int × Int × Int)} {ld : Int → Int} {tot : Int} {bg : Nat} {kp : List (Int × Int)} (I : KI os R ld tot bg kp) (f : ∀ i : Int, bg ≤ i → ld i = 0) (hR : ∀ x ∈ R, x.1 ≤ bg ∧ x.2.1 < bg) (ht : tot = hTo R) :
    ∀ j : Nat, KI os R ld tot (bg + j) (pushN os tot kp bg j)
  | 0 => I
  | j + 1 => ki_push (ki_pushN I f hR ht j) (f _ (by show (bg : Int) ≤ ((bg + j : Nat) : Int); omega)) (fun x hx => by have := hR x hx; show x.1 ≤ ((bg + j : Nat) : Int) ∧ x.2.1 < ((bg + j : Nat) : Int); omega) ht
/-! ### the fold -/
theorem loadZ_set : ∀ (ss : List (Int × Int)) (pl : List Int) (k : Nat) (f b p i : Int), ss[k]? = some (f, b) → pl[k]? = some 0 → loadZ (ss.zip (pl.set k p)) i = loadZ (ss.zip pl) i + (if f ≤ i ∧ i < b then p else 0)
  | [], _, k, _, _, _, _, h, _ => by simp at h
  | s :: ss, [], k, _, _, _, _, _, h => by simp at h
  | s :: ss, x :: pl, 0, f, b, p, i, h, h2 => by
    cases h
    cases h2
    show (if _ then p else 0) + loadZ (ss.zip pl) i = (if _ then (0 : Int) else 0) + loadZ (ss.zip pl) i + (if _ then p else 0)
    split <;> omega
  | s :: ss, x :: pl, k + 1, f, b, p, i, h, h2 => by
    have ih := loadZ_set ss pl k f b p i h h2
    show (if _ then x else 0) + loadZ (ss.zip (pl.set k p)) i = (if _ then x else 0) + loadZ (ss.zip pl) i + _
    rw [ih, Int.add_assoc]
theorem sum_setZ : ∀ (pl : List Int) (k : Nat) (p : Int), pl[k]? = some 0 → (pl.set k p).sum = pl.sum + p
  | [], k, p, h => by simp at h
  | x :: pl, 0, p, h => by cases h; show p + pl.sum = 0 + pl.sum + p; omega
  | x :: pl, k + 1, p, h => by
    have ih := sum_setZ pl k p h
    show x + (pl.set k p).sum = x + pl.sum + p
    rw [ih, Int.add_assoc]
structure MI (os ss : List (Int × Int)) (done : List (Int × Int × Int)) (st : PSt) (R : List (Int × Int × Int)) : Prop where
  e : EOk os R
  en : st.en = (R.map prE).reverse
  tot : st.tot = hTo R
  sum : st.pl.sum = st.tot
  len : st.pl.length = ss.length
  nn : ∀ x ∈ st.pl, 0 ≤ x
  nz : ∀ (k : Nat) x, st.pl[k]? = some x → x ≠ 0 → ∃ t ∈ done, t.2.2 = (k : Int)
  hit : ∀ t ∈ done, ∃ e ∈ R, t.2.1 ≤ e.2.1 ∧ e.1 ≤ t.1
  load : ∀ i : Int, 0 ≤ i → i < os.length → loadZ (ss.zip st.pl) i ≤ cA os i
  fresh : ∀ i : Int, st.bg ≤ i → loadZ (ss.zip st.pl) i = 0
  rb : ∀ x ∈ R, x.1 ≤ st.bg
  ki : KI os R (loadZ (ss.zip st.pl)) st.tot st.bg st.kp
theorem e_used {os : List (Int × Int)} : ∀ {R : List (Int × Int × Int)}, EOk os R → ∀ x ∈ R, 0 ≤ x.2.1 ∧ x.2.1 < x.1
  | e :: R, ⟨h, a, b, _⟩, x, hx => by
    rcases List.mem_cons.mp hx with z | z
    · rw [z]; exact ⟨a, b⟩
    · exact e_used h x z
theorem met_no {os : List (Int × Int)} {R : List (Int × Int × Int)} {f : Int} (h : EOk os R) (m : metB (R.map prE).reverse f = false) : ∀ x ∈ R, x.2.1 < f := by
  cases R with
  | nil => intro x hx; cases hx
  | cons e R =>
    unfold metB at m
    rw [List.map_cons, List.reverse_cons, lastE_app, show ((R.map prE).reverse ++ [prE e]).isEmpty = false by cases (R.map prE).reverse <;> rfl, Bool.not_false, Bool.true_and] at m
    have z := of_decide_eq_false m
    have z : ¬ f ≤ e.2.1 := z
    intro x hx
    rcases List.mem_cons.mp hx with y | y
    · rw [y]; omega
    · have := (h.2.2.2.2.2 x y).2; omega
theorem met_yes {R : List (Int × Int × Int)} {f : Int} (m : metB (R.map prE).reverse f = true) : ∃ e ∈ R, f ≤ e.2.1 := by
  cases R with
  | nil => cases m
  | cons e R =>
    unfold metB at m
    rw [List.map_cons, List.reverse_cons, lastE_app] at m
    exact ⟨e, List.mem_cons_self, of_decide_eq_true (Bool.and_eq_true_iff.mp m).2⟩
theorem mi_step {os ss : List (Int × Int)} {done : List (Int × Int × Int)} {st : PSt} {R : List (Int × Int × Int)} (I : MI os ss done st R) {t : Int × Int × Int} (hs : ss[t.2.2.toNat]? = some (t.2.1, t.1)) (k0 : 0 ≤ t.2.2)
    (h1 : st.bg ≤ t.1) (h2 : t.1 ≤ os.length) (h3 : 0 ≤ t.2.1) (h4 : t.2.1 < t.1) (new : ∀ x ∈ done, x.2.2 ≠ t.2.2) :
    (∃ R', MI os ss (done ++ [t]) (stepP os st t) R') ∧ (stepP os st t).bg = t.1.toNat := by
  have eb : st.bg + (t.1.toNat - st.bg) = t.1.toNat := by omega
  have K := ki_pushN I.ki I.fresh (fun x hx => ⟨I.rb x hx, by have := e_used I.e x hx; have := I.rb x hx; omega⟩) I.tot (t.1.toNat - st.bg)
  rw [eb] at K
  have etn : ((t.1.toNat : Nat) : Int) = t.1 := by omega
  cases hm : metB st.en t.2.1 with
  | true =>
    rw [stepP_yes hm]
    refine ⟨⟨R, I.e, I.en, I.tot, I.sum, I.len, I.nn, fun k x a b => ?_, fun x hx => ?_, I.load, fun i hi => I.fresh i ?_, fun x hx => ?_, K⟩, rfl⟩
    · obtain ⟨y, hy, e⟩ := I.nz k x a b
      exact ⟨y, List.mem_append_left _ hy, e⟩
    · rcases List.mem_append.mp hx with z | z
      · exact I.hit x z
      · rw [List.mem_singleton.mp z]
        rw [I.en] at hm
        obtain ⟨e, he, fe⟩ := met_yes hm
        exact ⟨e, he, fe, by have := I.rb e he; omega⟩
    · have hi : ((t.1.toNat : Nat) : Int) ≤ i := hi
      omega
    · have := I.rb x hx
      show x.1 ≤ ((t.1.toNat : Nat) : Int)
      omega
  | false =>
    generalize hk : pushN os st.tot st.kp st.bg (t.1.toNat - st.bg) = kp at K
    have no : ∀ x ∈ R, x.2.1 < t.2.1 := met_no I.e (by rw [← I.en]; exact hm)
    obtain ⟨e0, m0, ge0, _⟩ := K.dom (t.1 - 1) (by omega) (by omega) (fun x hx => by have := no x hx; omega)
    have lt : (kp.takeWhile fun e => decide (e.1 < t.2.1)).length < kp.length := tw_lt ⟨e0, m0, decide_eq_false (by omega)⟩
    obtain ⟨e, he, ne⟩ := tw_stop kp lt
    have ne : ¬ e.1 < t.2.1 := of_decide_eq_false ne
    have before : ∀ a x, a < atF t.2.1 kp → kp[a]? = some x → x.1 < t.2.1 := fun a x ha hx => by
      obtain ⟨x', hx', p⟩ := tw_get kp a ha
      rw [hx] at hx'
      cases hx'
      exact of_decide_eq_true p
    rw [stepP_no hm hk rfl he]
    have me : e ∈ kp := List.mem_of_getElem? he
    obtain ⟨u0, ub, uR, el, eld⟩ := K.mem e me
    have behind : ∀ x ∈ kp.drop (atF t.2.1 kp + 1), x ∈ kp ∧ e.1 < x.1 ∧ e.2 < x.2 := fun x hx => by
      obtain ⟨a, ha⟩ := List.getElem?_of_mem hx
      rw [List.getElem?_drop] at ha
      have mx : x ∈ kp := List.mem_of_getElem? ha
      have pw := List.pairwise_iff_getElem.mp K.pw
      obtain ⟨i1, e1⟩ := List.getElem?_eq_some_iff.mp he
      obtain ⟨i2, e2⟩ := List.getElem?_eq_some_iff.mp ha
      have z := pw _ _ i1 i2 (by show (kp.takeWhile _).length < atF t.2.1 kp + 1 + a; unfold atF; omega)
      rw [e1, e2] at z
      exact ⟨mx, z.1, z.2⟩
    have from_ : ∀ x ∈ kp, t.2.1 ≤ x.1 → x = e ∨ x ∈ kp.drop (atF t.2.1 kp + 1) := fun x hx fx => by
      obtain ⟨a, ha⟩ := List.getElem?_of_mem hx
      by_cases c : a < atF t.2.1 kp
      · have := before a x c ha; omega
      · by_cases c2 : a = atF t.2.1 kp
        · left
          rw [c2] at ha
          have he : kp[atF t.2.1 kp]? = some e := he
          rw [he] at ha
          cases ha
          rfl
        · right
          refine List.mem_of_getElem? (i := a - (atF t.2.1 kp + 1)) ?_
          rw [List.getElem?_drop, show atF t.2.1 kp + 1 + (a - (atF t.2.1 kp + 1)) = a by omega]
          exact ha
    have lk : t.2.2.toNat < ss.length := (List.getElem?_eq_some_iff.mp hs).1
    have z0 : st.pl[t.2.2.toNat]? = some 0 := by
      have li : t.2.2.toNat < st.pl.length := by rw [I.len]; exact lk
      rw [List.getElem?_eq_getElem li]
      by_cases c : st.pl[t.2.2.toNat] = 0
      · rw [c]
      · obtain ⟨y, hy, ey⟩ := I.nz _ _ (List.getElem?_eq_getElem li) c
        exact absurd (by rw [ey]; omega) (new y hy)
    have ld : ∀ i, loadZ (ss.zip (st.pl.set t.2.2.toNat (e.2 - st.tot))) i = loadZ (ss.zip st.pl) i + (if t.2.1 ≤ i ∧ i < t.1 then e.2 - st.tot else 0) := fun i => loadZ_set ss st.pl _ _ _ _ i hs z0
    have least : ∀ i, t.2.1 ≤ i → i < t.1 → e.2 - st.tot ≤ cA os i - loadZ (ss.zip st.pl) i := fun i a b => by
      obtain ⟨x, hx, ix, dx⟩ := K.dom i (by omega) (by omega) (fun y hy => by have := no y hy; omega)
      rcases from_ x hx (by omega) with y | y
      · rw [y] at dx; exact dx
      · have := (behind x y).2.2; omega
    have p0 : 0 ≤ e.2 - st.tot := by
      have := I.load e.1 u0 (by omega)
      omega
    refine ⟨⟨(t.1, e.1, e.2) :: R, ⟨I.e, u0, by show e.1 < t.1; omega, h2, ?_, fun x hx => ⟨by have := I.rb x hx; show x.1 ≤ t.1; omega, uR x hx⟩⟩, ?_, rfl, ?_, ?_, fun x hx => ?_, fun k x a b => ?_, fun x hx => ?_, fun i i0 i1 => ?_, fun i hi => ?_, fun x hx => ?_, ⟨fun x hx => ?_, ?_, fun i i0 i1 hi => ?_⟩⟩, rfl⟩
    · show cA os e.1 = e.2 - bT R e.1
      omega
    · show st.en ++ [(t.1, e.1)] = _
      rw [I.en, List.map_cons, List.reverse_cons]
      rfl
    · show (st.pl.set t.2.2.toNat (e.2 - st.tot)).sum = e.2
      rw [sum_setZ _ _ _ z0, I.sum]
      omega
    · show (st.pl.set _ _).length = _
      rw [List.length_set]; exact I.len
    · rcases List.mem_or_eq_of_mem_set hx with z | z
      · exact I.nn x z
      · rw [z]; exact p0
    · have a : (st.pl.set t.2.2.toNat (e.2 - st.tot))[k]? = some x := a
      by_cases c : t.2.2.toNat = k
      · exact ⟨t, List.mem_append_right _ List.mem_cons_self, by omega⟩
      · rw [List.getElem?_set_ne c] at a
        obtain ⟨y, hy, ey⟩ := I.nz k x a b
        exact ⟨y, List.mem_append_left _ hy, ey⟩
    · rcases List.mem_append.mp hx with z | z
      · obtain ⟨y, hy, a, b⟩ := I.hit x z
        exact ⟨y, List.mem_cons_of_mem _ hy, a, b⟩
      · rw [List.mem_singleton.mp z]
        exact ⟨_, List.mem_cons_self, by show t.2.1 ≤ e.1; omega, Int.le_refl _⟩
    · show loadZ (ss.zip (st.pl.set t.2.2.toNat (e.2 - st.tot))) i ≤ _
      rw [ld]
      split
      · rename_i c
        have := least i c.1 c.2
        omega
      · have := I.load i i0 i1
        omega
    · have hi : ((t.1.toNat : Nat) : Int) ≤ i := hi
      show loadZ (ss.zip (st.pl.set t.2.2.toNat (e.2 - st.tot))) i = 0
      rw [ld, if_neg (by omega), I.fresh i (by omega)]
      rfl
    · rcases List.mem_cons.mp hx with z | z
      · rw [z]; show t.1 ≤ ((t.1.toNat : Nat) : Int); omega
      · have := I.rb x z
        show x.1 ≤ ((t.1.toNat : Nat) : Int); omega
    · obtain ⟨mx, gx, _⟩ := behind x hx
      obtain ⟨a, b, c, d, g⟩ := K.mem x mx
      refine ⟨a, b, fun y hy => ?_, ?_, ?_⟩
      · rcases List.mem_cons.mp hy with z | z
        · rw [z]; exact gx
        · exact c y z
      · show x.2 = cA os x.1 + (if t.1 ≤ x.1 then e.2 else bT R x.1)
        rw [if_neg (by omega)]
        exact d
      · show loadZ (ss.zip (st.pl.set t.2.2.toNat (e.2 - st.tot))) x.1 = cA os x.1 + e.2 - x.2
        rw [ld, if_pos ⟨by omega, by omega⟩, g]
        omega
    · exact K.pw.sublist (List.drop_sublist _ _)
    · have i1 : i < ((t.1.toNat : Nat) : Int) := i1
      have gu : e.1 < i := hi _ List.mem_cons_self
      obtain ⟨x, hx, ix, dx⟩ := K.dom i i0 i1 (fun y hy => hi y (List.mem_cons_of_mem _ hy))
      rcases from_ x hx (by omega) with y | y
      · rw [y] at ix; omega
      · refine ⟨x, y, ix, ?_⟩
        show x.2 - e.2 ≤ cA os i - loadZ (ss.zip (st.pl.set t.2.2.toNat (e.2 - st.tot))) i
        rw [ld, if_pos ⟨by omega, by omega⟩]
        omega
theorem mi_fold {os ss : List (Int × Int)} : ∀ (ts done : List (Int × Int × Int)) (st : PSt) (R : List (Int × Int × Int)), MI os ss done st R →
    (∀ t ∈ ts, ss[t.2.2.toNat]? = some (t.2.1, t.1) ∧ 0 ≤ t.2.2 ∧ st.bg ≤ t.1 ∧ t.1 ≤ os.length ∧ 0 ≤ t.2.1 ∧ t.2.1 < t.1) → ts.Pairwise (fun a b => a.1 ≤ b.1) → (done ++ ts).Pairwise (fun a b => a.2.2 ≠ b.2.2) →
    ∃ R', MI os ss (done ++ ts) (ts.foldl (stepP os) st) R'
  | [], done, st, R, I, _, _, _ => ⟨R, by rw [List.append_nil]; exact I⟩
  | t :: ts, done, st, R, I, h, pw, nd => by
    obtain ⟨a, b, c, d, f, g⟩ := h t List.mem_cons_self
    obtain ⟨w1, w2⟩ := List.pairwise_cons.mp pw
    obtain ⟨n1, n2, n3⟩ := List.pairwise_append.mp nd
    obtain ⟨⟨R1, I1⟩, eb⟩ := mi_step I a b c d f g (fun x hx => n3 x hx t List.mem_cons_self)
    have e : done ++ t :: ts = (done ++ [t]) ++ ts := by simp
    rw [e] at nd ⊢
    exact mi_fold ts (done ++ [t]) _ R1 I1 (fun x hx => by
      obtain ⟨a', b', c', d', f', g'⟩ := h x (List.mem_cons_of_mem _ hx)
      have := w1 x hx
      exact ⟨a', b', by rw [eb]; omega, d', f', g'⟩) w2 nd
end Toy
set_option Elab.async false
set_option linter.all false
set_option maxRecDepth 100000
set_option maxHeartbeats 1000000
namespace Toy
open PySem PySem.Spec PyProof.Rows L2
theorem trip_mem : ∀ {l : List (Int × Int)} {i : Nat} {t : Int × Int × Int}, t ∈ tripF l i → ∃ k : Nat, t.2.2 = ((i + k : Nat) : Int) ∧ l[k]? = some (t.2.1, t.1) ∧ t.2.1 < t.1
  | p :: l, i, t, h => by
    unfold tripF at h
    have go : t ∈ tripF l (i + 1) → ∃ k : Nat, t.2.2 = ((i + k : Nat) : Int) ∧ (p :: l)[k]? = some (t.2.1, t.1) ∧ t.2.1 < t.1 := fun h => by
      obtain ⟨k, a, b, c⟩ := trip_mem h
      exact ⟨k + 1, by rw [a]; omega, b, c⟩
    split at h
    · rename_i c
      rcases List.mem_cons.mp h with z | z
      · rw [z]; exact ⟨0, rfl, rfl, c⟩
      · exact go z
    · exact go h
theorem trip_has : ∀ {l : List (Int × Int)} {i k : Nat} {f b : Int}, l[k]? = some (f, b) → f < b → (b, f, ((i + k : Nat) : Int)) ∈ tripF l i
  | p :: l, i, 0, f, b, h, c => by
    cases h
    unfold tripF
    rw [if_pos c]
    exact List.mem_cons_self
  | p :: l, i, k + 1, f, b, h, c => by
    have z := trip_has (l := l) (i := i + 1) (k := k) h c
    rw [show i + 1 + k = i + (k + 1) by omega] at z
    unfold tripF
    split
    · exact List.mem_cons_of_mem _ z
    · exact z
theorem trip_dis : ∀ (l : List (Int × Int)) (i : Nat), (tripF l i).Pairwise (fun a b => a.2.2 ≠ b.2.2)
  | [], _ => .nil
  | p :: l, i => by
    unfold tripF
    split
    · refine List.pairwise_cons.mpr ⟨fun b hb => ?_, trip_dis l (i + 1)⟩
      obtain ⟨q, _, _, _, _, h, _⟩ := tripF_mem hb
      show (i : Int) ≠ b.2.2
      omega
    · exact trip_dis l (i + 1)
theorem loadZ_zero : ∀ {l : List ((Int × Int) × Int)} {i : Int}, (∀ q ∈ l, q.2 = 0) → loadZ l i = 0
  | [], _, _ => rfl
  | q :: l, i, h => by
    have ih := loadZ_zero (i := i) fun x hx => h x (List.mem_cons_of_mem _ hx)
    show (if _ then q.2 else 0) + loadZ l i = 0
    rw [ih, h q List.mem_cons_self]
    split <;> rfl
theorem sum_rep0 : ∀ n : Nat, (List.replicate n (0 : Int)).sum = 0
  | 0 => rfl
  | n + 1 => by rw [List.replicate_succ, List.sum_cons, sum_rep0 n]; rfl
theorem cA_pos {os : List (Int × Int)} (h : ∀ p ∈ os, 1 ≤ p.2) (i : Int) : 0 ≤ cA os i := by
  unfold cA costA
  cases e : os[i.toNat]? with
  | none => exact Int.le_refl _
  | some p => have := h p (List.mem_of_getElem? e); show 0 ≤ p.2; omega
theorem mi_init {os ss : List (Int × Int)} (h : ∀ p ∈ os, 1 ≤ p.2) : MI os ss [] ⟨List.replicate ss.length 0, [], [], 0, 0⟩ [] := by
  have z : ∀ i, loadZ (ss.zip (List.replicate ss.length 0)) i = 0 := fun i => loadZ_zero fun q hq => by
    have := (List.of_mem_zip hq).2
    exact (List.mem_replicate.mp this).2
  refine ⟨True.intro, rfl, rfl, sum_rep0 _, List.length_replicate, fun x hx => by rw [(List.mem_replicate.mp hx).2]; exact Int.le_refl _, fun k x a b => ?_, fun _ h => (nomatch h), fun i _ _ => by rw [z]; exact cA_pos h i, fun i _ => z i, fun _ h => (nomatch h), ⟨fun _ h => (nomatch h), .nil, fun i a b => ?_⟩⟩
  · exact absurd (List.mem_replicate.mp (List.mem_of_getElem? a)).2 b
  · have b : i < 0 := b
    omega
theorem sum_rev : ∀ l : List Int, l.reverse.sum = l.sum
  | [] => rfl
  | x :: l => by rw [List.reverse_cons, List.sum_append, sum_rev l, List.sum_singleton, List.sum_cons, Int.add_comm]
def lkO (os : List (Int × Int)) (m : Int) : Int := ((os.find? fun p => decide (p.1 = m)).map (·.2)).getD 0
theorem lk_of : ∀ {os : List (Int × Int)} {p : Int × Int}, (os.map (·.1)).Pairwise (· < ·) → p ∈ os → lkO os p.1 = p.2
  | q :: os, p, h, hp => by
    obtain ⟨a, b⟩ := List.pairwise_cons.mp h
    unfold lkO
    rw [List.find?_cons]
    rcases List.mem_cons.mp hp with z | z
    · rw [← z, decide_eq_true rfl]; rfl
    · have this : q.1 < p.1 := a p.1 (List.mem_map_of_mem z)
      rw [decide_eq_false (by omega)]
      exact lk_of b z
structure Opt (ws os : List (Int × Int)) (ms ps : List Int) : Prop where
  len : ps.length = ws.length
  nn : ∀ x ∈ ps, 0 ≤ x
  sup : ∀ (k : Nat) p x, ws[k]? = some p → ps[k]? = some x → x ≠ 0 → insL p.1 p.2 os ≠ []
  load : ∀ p ∈ os, loadL (ws.zip ps) p.1 ≤ p.2
  rise : ms.Pairwise (· < ·)
  sub : ∀ m ∈ ms, m ∈ os.map (·.1)
  hit : ∀ p ∈ ws, insL p.1 p.2 os ≠ [] → ∃ m ∈ ms, p.1 ≤ m ∧ m < p.2
  cost : sumC os ms = ps.sum
theorem momA_at {os : List (Int × Int)} {u : Int} (h0 : 0 ≤ u) (h : u < os.length) : ∃ p, os[u.toNat]? = some p ∧ momA os u.toNat = p.1 ∧ cA os u = p.2 := by
  have l : u.toNat < os.length := by omega
  refine ⟨os[u.toNat], List.getElem?_eq_getElem l, ?_, ?_⟩
  · unfold momA; rw [List.getElem?_eq_getElem l]; rfl
  · unfold cA costA; rw [List.getElem?_eq_getElem l]; rfl
theorem plan_opt {ws os : List (Int × Int)} {ts : List (Int × Int × Int)} (gw : GoodW ws) (go : GoodO os) (lw : ws.length < 64) (lo : os.length ≤ 1000) (pm : ts.Perm (tripF (spanL ws os) 0)) (so : ts.Pairwise fun a b => codeT a ≤ codeT b) :
    Opt ws os (momsF os (planT os ws.length ts).en) (planT os ws.length ts).pl := by
  obtain ⟨gp, gs⟩ := go
  have bd := span_bounds (os := os) (fun p hp => (gw p hp).2)
  have lsp : (spanL ws os).length = ws.length := by unfold spanL; rw [List.length_map]
  have facts : ∀ t ∈ ts, (spanL ws os)[t.2.2.toNat]? = some (t.2.1, t.1) ∧ 0 ≤ t.2.2 ∧ t.2.2 < 64 ∧ t.1 ≤ os.length ∧ 0 ≤ t.2.1 ∧ t.2.1 < t.1 := fun t ht => by
    obtain ⟨k, a, b, c⟩ := trip_mem (pm.mem_iff.mp ht)
    rw [Nat.zero_add] at a
    have e : t.2.2.toNat = k := by omega
    obtain ⟨b1, b2, b3⟩ := bd _ (List.mem_of_getElem? b)
    have b1 : 0 ≤ t.2.1 := b1
    have b3 : t.1 ≤ os.length := b3
    have lk := (List.getElem?_eq_some_iff.mp b).1
    rw [lsp] at lk
    rw [e]
    exact ⟨b, by omega, by omega, b3, b1, c⟩
  have sorted : ts.Pairwise fun a b => a.1 ≤ b.1 := List.Pairwise.imp_of_mem (fun {a b} ha hb z => by
    obtain ⟨_, a1, a2, a3, a4, a5⟩ := facts a ha
    obtain ⟨_, c1, c2, c3, c4, c5⟩ := facts b hb
    unfold codeT at z
    omega) so
  have dis : ts.Pairwise fun a b => a.2.2 ≠ b.2.2 := (pm.pairwise_iff (fun {x y} h => Ne.symm h)).mpr (trip_dis _ 0)
  obtain ⟨R, I⟩ := mi_fold (os := os) (ss := spanL ws os) ts [] _ [] (mi_init fun p hp => (gp p hp).2.1) (fun t ht => by
    obtain ⟨a, b, _, c, d, e⟩ := facts t ht
    exact ⟨a, b, by show ((0 : Nat) : Int) ≤ t.1; omega, c, d, e⟩) sorted dis
  rw [lsp] at I
  have I : MI os (spanL ws os) ts (planT os ws.length ts) R := I
  generalize planT os ws.length ts = st at I ⊢
  have ech : chosenF st.en = (R.map prE).foldl chF [] := by unfold chosenF; rw [I.en, List.reverse_reverse]
  have C := ch_ok os R [] I.e .nil (fun h => absurd rfl h) (fun _ h => nomatch h)
  rw [← ech] at C
  have inR : ∀ u ∈ chosenF st.en, 0 ≤ u ∧ u < os.length := fun u hu => by
    rcases C.bd u hu with z | z
    · cases z
    · exact z
  have rise : (momsF os st.en).Pairwise (· < ·) := by
    unfold momsF
    rw [List.pairwise_map, List.pairwise_reverse]
    refine List.Pairwise.imp_of_mem (fun {a b} ha hb z => ?_) C.pw
    obtain ⟨a0, a1⟩ := inR a ha
    obtain ⟨b0, b1⟩ := inR b hb
    obtain ⟨p, ep, mp, _⟩ := momA_at a0 a1
    obtain ⟨q, eq, mq, _⟩ := momA_at b0 b1
    rw [mp, mq]
    have pw := List.pairwise_iff_getElem.mp gs
    obtain ⟨i1, e1⟩ := List.getElem?_eq_some_iff.mp ep
    obtain ⟨i2, e2⟩ := List.getElem?_eq_some_iff.mp eq
    have z2 := pw b.toNat a.toNat (by rw [List.length_map]; exact i2) (by rw [List.length_map]; exact i1) (by omega)
    rw [List.getElem_map, List.getElem_map, e1, e2] at z2
    exact z2
  have sub : ∀ m ∈ momsF os st.en, m ∈ os.map (·.1) := fun m hm => by
    unfold momsF at hm
    obtain ⟨u, hu, rfl⟩ := List.mem_map.mp hm
    obtain ⟨a0, a1⟩ := inR u (List.mem_reverse.mp hu)
    obtain ⟨p, ep, mp, _⟩ := momA_at a0 a1
    rw [mp]
    exact List.mem_map_of_mem (List.mem_of_getElem? ep)
  have span_at : ∀ (k : Nat) p, ws[k]? = some p → (spanL ws os)[k]? = some ((firstN (os.map (·.1)) p.1 : Int), (firstN (os.map (·.1)) p.2 : Int)) := fun k p h => by
    unfold spanL; rw [List.getElem?_map, h]; rfl
  refine ⟨by rw [I.len, lsp], I.nn, fun k p x a b c => ?_, fun p hp => ?_, rise, sub, fun p hp ne => ?_, ?_⟩
  · obtain ⟨t, ht, e⟩ := I.nz k x b c
    obtain ⟨s, _, _, _, _, l⟩ := facts t ht
    rw [e] at s
    have s : (spanL ws os)[k]? = some (t.2.1, t.1) := s
    rw [span_at k p a] at s
    obtain ⟨s1, s2⟩ := Prod.mk.inj (Option.some.inj s)
    intro z
    have f : ((firstN (os.map (·.1)) p.1 : Int) = firstN (os.map (·.1)) p.2 ↔ insL p.1 p.2 os = []) := first_ins (os.map (·.1)) p.1 p.2 gs (gw p (List.mem_of_getElem? a)).2
    have := f.mpr z
    omega
  · obtain ⟨j, hj⟩ := List.getElem?_of_mem hp
    have lj := (List.getElem?_eq_some_iff.mp hj).1
    have := I.load j (by omega) (by omega)
    rw [load_eq gs hj] at this
    have e : cA os (j : Int) = p.2 := by unfold cA costA; rw [Int.toNat_natCast, hj]; rfl
    rw [e] at this
    exact this
  · obtain ⟨k, hk⟩ := List.getElem?_of_mem hp
    have gm := (gw p hp).2
    have mono := firstN_mono gm (os.map (·.1))
    have lt : (firstN (os.map (·.1)) p.1 : Int) < (firstN (os.map (·.1)) p.2 : Int) := by
      have f : ((firstN (os.map (·.1)) p.1 : Int) = firstN (os.map (·.1)) p.2 ↔ insL p.1 p.2 os = []) := first_ins (os.map (·.1)) p.1 p.2 gs gm
      have : ¬ (firstN (os.map (·.1)) p.1 : Int) = firstN (os.map (·.1)) p.2 := fun z => ne (f.mp z)
      omega
    have mt := pm.mem_iff.mpr (trip_has (i := 0) (span_at k p hk) lt)
    obtain ⟨e, he, h1, h2⟩ := I.hit _ mt
    have h1 : (firstN (os.map (·.1)) p.1 : Int) ≤ e.2.1 := h1
    have h2 : e.1 ≤ (firstN (os.map (·.1)) p.2 : Int) := h2
    obtain ⟨x, hx, x1, x2⟩ := C.hit e he
    obtain ⟨a0, a1⟩ := inR x hx
    obtain ⟨q, eq, mq, _⟩ := momA_at a0 a1
    refine ⟨q.1, ?_, ?_, ?_⟩
    · unfold momsF
      exact List.mem_map.mpr ⟨x, List.mem_reverse.mpr hx, mq⟩
    · exact (firstN_le_iff gs (b := p.1) (by rw [List.getElem?_map, eq]; rfl)).mp (by omega)
    · have : ¬ p.2 ≤ q.1 := fun z => by
        have := (firstN_le_iff gs (b := p.2) (j := x.toNat) (y := q.1) (by rw [List.getElem?_map, eq]; rfl)).mpr z
        omega
      omega
  · have e1 : (os.filter fun p => decide (p.1 ∈ momsF os st.en)).map (·.1) = momsF os st.en := by
      refine sorted_ext (gs.sublist (List.filter_sublist.map _)) rise fun k => ?_
      constructor
      · intro h
        obtain ⟨p, hp, rfl⟩ := List.mem_map.mp h
        exact of_decide_eq_true (List.mem_filter.mp hp).2
      · intro h
        obtain ⟨p, hp, e⟩ := List.mem_map.mp (sub k h)
        subst e
        exact List.mem_map_of_mem (List.mem_filter.mpr ⟨hp, decide_eq_true h⟩)
    have e2 : (os.filter fun p => decide (p.1 ∈ momsF os st.en)).map (·.2) = (momsF os st.en).map (lkO os) := by
      conv => rhs; rw [← e1]
      rw [List.map_map]
      exact List.map_congr_left fun p hp => (lk_of gs (List.mem_filter.mp hp).1).symm
    have e3 : (momsF os st.en).map (lkO os) = ((chosenF st.en).map (cA os)).reverse := by
      unfold momsF
      rw [List.map_map, ← List.map_reverse]
      refine List.map_congr_left fun u hu => ?_
      obtain ⟨a0, a1⟩ := inR u (List.mem_reverse.mp hu)
      obtain ⟨p, ep, mp, cp⟩ := momA_at a0 a1
      show lkO os (momA os u.toNat) = _
      rw [mp, cp]
      exact lk_of gs (List.mem_of_getElem? ep)
    unfold sumC
    rw [e2, e3, sum_rev, C.sum, I.sum, I.tot]
    show 0 + (if ([] : List Int) = [] then hTo R else _) = _
    rw [if_pos rfl, Int.zero_add]
end Toy
set_option Elab.async false
set_option linter.all false
set_option maxRecDepth 100000
set_option maxHeartbeats 1000000
namespace Toy
open PySem PySem.Spec PyProof.Rows L2
/-! ### the least of all choices -/
def selB (c : Nat) : List (Int × Int) → Nat → List (Int × Int)
  | [], _ => []
  | o :: os, i => if c.testBit i then o :: selB c os (i + 1) else selB c os (i + 1)
def costB (c : Nat) (os : List (Int × Int)) : Int := ((selB c os 0).map (·.2)).sum
def HitB (ws os : List (Int × Int)) (c : Nat) : Prop := ∀ p ∈ ws, insL p.1 p.2 os ≠ [] → ∃ o ∈ selB c os 0, p.1 ≤ o.1 ∧ o.1 < p.2
structure IsLeast (ws os : List (Int × Int)) (v : Int) : Prop where
  has : ∃ c, c < 2 ^ os.length ∧ HitB ws os c ∧ costB c os = v
  low : ∀ c, c < 2 ^ os.length → HitB ws os c → v ≤ costB c os
theorem least_uniq {ws os : List (Int × Int)} {v u : Int} (a : IsLeast ws os v) (b : IsLeast ws os u) : v = u := by
  obtain ⟨c, c1, c2, c3⟩ := a.has
  obtain ⟨d, d1, d2, d3⟩ := b.has
  have := a.low d d1 d2
  have := b.low c c1 c2
  omega
theorem selB_mem {c : Nat} : ∀ {os : List (Int × Int)} {i : Nat} {o : Int × Int}, o ∈ selB c os i → o ∈ os
  | q :: os, i, o, h => by
    unfold selB at h
    split at h
    · rcases List.mem_cons.mp h with z | z
      · rw [z]; exact List.mem_cons_self
      · exact List.mem_cons_of_mem _ (selB_mem z)
    · exact List.mem_cons_of_mem _ (selB_mem h)
theorem selB_at {c : Nat} : ∀ {os : List (Int × Int)} {i : Nat} {o : Int × Int}, o ∈ selB c os i ↔ ∃ j, os[j]? = some o ∧ c.testBit (i + j) = true
  | [], i, o => by constructor <;> intro h <;> simp [selB] at h
  | q :: os, i, o => by
    have ih := selB_at (c := c) (os := os) (i := i + 1) (o := o)
    have e : ∀ j, i + 1 + j = i + (j + 1) := fun j => by omega
    unfold selB
    constructor
    · intro h
      split at h
      · rename_i cb
        rcases List.mem_cons.mp h with z | z
        · exact ⟨0, by rw [z]; rfl, cb⟩
        · obtain ⟨j, a, b⟩ := ih.mp z
          exact ⟨j + 1, a, by rw [← e]; exact b⟩
      · obtain ⟨j, a, b⟩ := ih.mp h
        exact ⟨j + 1, a, by rw [← e]; exact b⟩
    · rintro ⟨j, a, b⟩
      cases j with
      | zero =>
        cases a
        rw [Nat.add_zero] at b
        rw [if_pos b]
        exact List.mem_cons_self
      | succ j =>
        have m := ih.mpr ⟨j, a, by rw [e]; exact b⟩
        split
        · exact List.mem_cons_of_mem _ m
        · exact m
theorem sel_filter {c : Nat} {P : Int × Int → Bool} : ∀ {os : List (Int × Int)} {i : Nat}, (∀ j o, os[j]? = some o → c.testBit (i + j) = P o) → selB c os i = os.filter P
  | [], _, _ => rfl
  | q :: os, i, h => by
    have ih := sel_filter (P := P) (os := os) (i := i + 1) fun j o hj => by rw [show i + 1 + j = i + (j + 1) by omega]; exact h (j + 1) o hj
    have z := h 0 q rfl
    rw [Nat.add_zero] at z
    unfold selB
    rw [ih, z, List.filter_cons]
/-- the mask of what P holds of, up to k -/
def mkM (P : Int × Int → Bool) (os : List (Int × Int)) : Nat → Nat
  | 0 => 0
  | k + 1 => mkM P os k + (if ((os[k]?).map P).getD false then 2 ^ k else 0)
theorem mkM_lt (P : Int × Int → Bool) (os : List (Int × Int)) : ∀ k, mkM P os k < 2 ^ k
  | 0 => by show 0 < 1; decide
  | k + 1 => by
    have := mkM_lt P os k
    show mkM P os k + _ < 2 ^ (k + 1)
    rw [Nat.pow_succ]
    split <;> omega
theorem mkM_bit (P : Int × Int → Bool) (os : List (Int × Int)) : ∀ k j, (mkM P os k).testBit j = (decide (j < k) && ((os[j]?).map P).getD false)
  | 0, j => by show Nat.testBit 0 j = _; rw [Nat.zero_testBit, decide_eq_false (Nat.not_lt_zero _)]; rfl
  | k + 1, j => by
    have ih := mkM_bit P os k j
    have lt := mkM_lt P os k
    show (mkM P os k + _).testBit j = _
    by_cases c : ((os[k]?).map P).getD false = true
    · rw [if_pos c, Nat.add_comm]
      rcases Nat.lt_trichotomy j k with h | h | h
      · rw [Nat.testBit_two_pow_add_gt h, ih, decide_eq_true h, decide_eq_true (by omega)]
      · subst h
        rw [Nat.testBit_two_pow_add_eq, ih, decide_eq_false (by omega), decide_eq_true (by omega), c]; rfl
      · rw [decide_eq_false (by omega), Bool.false_and]
        refine Nat.testBit_lt_two_pow (Nat.lt_of_lt_of_le (m := 2 ^ (k + 1)) (by rw [Nat.pow_succ]; omega) (Nat.pow_le_pow_right (by decide) h))
    · rw [if_neg c, Nat.add_zero, ih]
      by_cases h : j = k
      · subst h
        have c : ((os[j]?).map P).getD false = false := by cases z : ((os[j]?).map P).getD false with
          | true => exact absurd z c
          | false => rfl
        rw [c, Bool.and_false, Bool.and_false]
      · congr 1
        rw [Bool.eq_iff_iff, decide_eq_true_iff, decide_eq_true_iff]
        omega
theorem sel_mk (P : Int × Int → Bool) (os : List (Int × Int)) : selB (mkM P os os.length) os 0 = os.filter P := sel_filter fun j o hj => by
  rw [Nat.zero_add, mkM_bit, hj, decide_eq_true (List.getElem?_eq_some_iff.mp hj).1]; rfl
theorem sum_le {M : List (Int × Int)} {f g : Int × Int → Int} (h : ∀ m ∈ M, f m ≤ g m) : (M.map f).sum ≤ (M.map g).sum := by
  induction M with
  | nil => exact Int.le_refl _
  | cons m M ih =>
    have a := ih fun x hx => h x (List.mem_cons_of_mem _ hx)
    have b := h m List.mem_cons_self
    rw [List.map_cons, List.map_cons, List.sum_cons, List.sum_cons]
    omega
theorem sum_addM (M : List (Int × Int)) (f g : Int × Int → Int) : (M.map fun m => f m + g m).sum = (M.map f).sum + (M.map g).sum := by
  induction M with
  | nil => rfl
  | cons m M ih =>
    rw [List.map_cons, List.map_cons, List.map_cons, List.sum_cons, List.sum_cons, List.sum_cons, ih]
    omega
theorem sum_once {M : List (Int × Int)} {P : Int × Int → Prop} [DecidablePred P] {x : Int} (x0 : 0 ≤ x) (h : x ≠ 0 → ∃ m ∈ M, P m) : x ≤ (M.map fun m => if P m then x else 0).sum := by
  induction M with
  | nil =>
    by_cases c : x = 0
    · rw [c]; exact Int.le_refl _
    · obtain ⟨_, hm, _⟩ := h c; cases hm
  | cons m M ih =>
    rw [List.map_cons, List.sum_cons]
    have nn : 0 ≤ (M.map fun m => if P m then x else 0).sum := by
      clear ih h
      induction M with
      | nil => exact Int.le_refl _
      | cons y M ih => rw [List.map_cons, List.sum_cons]; split <;> omega
    by_cases c : P m
    · rw [if_pos c]; omega
    · rw [if_neg c, Int.zero_add]
      refine ih fun xn => ?_
      obtain ⟨y, hy, py⟩ := h xn
      rcases List.mem_cons.mp hy with z | z
      · rw [z] at py; exact absurd py c
      · exact ⟨y, z, py⟩
theorem weak : ∀ {l : List ((Int × Int) × Int)} {M : List (Int × Int)}, (∀ q ∈ l, 0 ≤ q.2 ∧ (q.2 ≠ 0 → ∃ m ∈ M, q.1.1 ≤ m.1 ∧ m.1 < q.1.2)) → (l.map (·.2)).sum ≤ (M.map fun m => loadL l m.1).sum
  | [], M, _ => by
    have : ∀ M : List (Int × Int), (M.map fun m => loadL [] m.1).sum = 0 := fun M => by
      induction M with
      | nil => rfl
      | cons m M ih => rw [List.map_cons, List.sum_cons, ih]; rfl
    rw [this]; exact Int.le_refl _
  | q :: l, M, h => by
    have ih := weak (l := l) (M := M) fun x hx => h x (List.mem_cons_of_mem _ hx)
    obtain ⟨a, b⟩ := h q List.mem_cons_self
    have e : (fun m : Int × Int => loadL (q :: l) m.1) = fun m => (if q.1.1 ≤ m.1 ∧ m.1 < q.1.2 then q.2 else 0) + loadL l m.1 := rfl
    rw [e, sum_addM, List.map_cons, List.sum_cons]
    have := sum_once (M := M) (P := fun m => q.1.1 ≤ m.1 ∧ m.1 < q.1.2) a b
    omega
theorem opt_least {ws os : List (Int × Int)} {ms ps : List Int} (O : Opt ws os ms ps) : IsLeast ws os ps.sum := by
  refine ⟨⟨mkM (fun p => decide (p.1 ∈ ms)) os os.length, mkM_lt _ _ _, fun p hp ne => ?_, ?_⟩, fun c _ hc => ?_⟩
  · rw [sel_mk]
    obtain ⟨m, hm, a, b⟩ := O.hit p hp ne
    obtain ⟨o, ho, e⟩ := List.mem_map.mp (O.sub m hm)
    subst e
    exact ⟨o, List.mem_filter.mpr ⟨ho, decide_eq_true hm⟩, a, b⟩
  · unfold costB
    rw [sel_mk]
    exact O.cost
  · have e : ps = (ws.zip ps).map (·.2) := (List.map_snd_zip (by rw [O.len]; exact Nat.le_refl _)).symm
    have a := weak (l := ws.zip ps) (M := selB c os 0) fun q hq => by
      obtain ⟨k, hk⟩ := List.getElem?_of_mem hq
      obtain ⟨k1, k2⟩ := List.getElem?_zip_eq_some.mp hk
      exact ⟨O.nn _ (List.mem_of_getElem? k2), fun xn => hc q.1 (List.mem_of_getElem? k1) (O.sup k _ _ k1 k2 xn)⟩
    have b := sum_le (M := selB c os 0) (f := fun m => loadL (ws.zip ps) m.1) (g := (·.2)) fun m hm => O.load m (selB_mem hm)
    rw [← e] at a
    unfold costB
    omega
theorem least_perm {ws vs os : List (Int × Int)} {v : Int} (h : ∀ p, p ∈ ws ↔ p ∈ vs) (a : IsLeast ws os v) : IsLeast vs os v := by
  obtain ⟨⟨c, c1, c2, c3⟩, lo⟩ := a
  exact ⟨⟨c, c1, fun p hp => c2 p ((h p).mpr hp), c3⟩, fun d d1 d2 => lo d d1 fun p hp => d2 p ((h p).mp hp)⟩
theorem least_more {ws vs os : List (Int × Int)} {v u : Int} (a : IsLeast ws os v) (b : IsLeast (ws ++ vs) os u) : v ≤ u := by
  obtain ⟨c, c1, c2, c3⟩ := b.has
  rw [← c3]
  exact a.low c c1 fun p hp => c2 p (List.mem_append_left _ hp)
def tiO (t : Int) (o : Int × Int) : Int × Int := (o.1, o.2 * t)
theorem sel_ti (c : Nat) (t : Int) : ∀ (os : List (Int × Int)) (i : Nat), selB c (os.map (tiO t)) i = (selB c os i).map (tiO t)
  | [], _ => rfl
  | o :: os, i => by
    have ih := sel_ti c t os (i + 1)
    rw [List.map_cons]
    unfold selB
    rw [ih]
    split <;> rfl
theorem sum_ti (t : Int) : ∀ l : List (Int × Int), ((l.map (tiO t)).map (·.2)).sum = (l.map (·.2)).sum * t
  | [] => (Int.zero_mul _).symm
  | o :: l => by
    rw [List.map_cons, List.map_cons, List.map_cons, List.sum_cons, List.sum_cons, sum_ti t l, Int.add_mul]
    rfl
theorem ins_ti (b e t : Int) (os : List (Int × Int)) : insL b e (os.map (tiO t)) = insL b e os := by
  unfold insL
  rw [List.map_map]
  rfl
theorem hit_ti {ws os : List (Int × Int)} {c : Nat} {t : Int} : HitB ws (os.map (tiO t)) c ↔ HitB ws os c := by
  unfold HitB
  constructor
  · intro h p hp ne
    obtain ⟨o, ho, a, b⟩ := h p hp (by rw [ins_ti]; exact ne)
    rw [sel_ti] at ho
    obtain ⟨q, hq, rfl⟩ := List.mem_map.mp ho
    exact ⟨q, hq, a, b⟩
  · intro h p hp ne
    rw [ins_ti] at ne
    obtain ⟨o, ho, a, b⟩ := h p hp ne
    exact ⟨tiO t o, by rw [sel_ti]; exact List.mem_map_of_mem ho, a, b⟩
theorem least_ti {ws os : List (Int × Int)} {v t : Int} (t0 : 0 ≤ t) (a : IsLeast ws os v) : IsLeast ws (os.map (tiO t)) (v * t) := by
  have e : ∀ c, costB c (os.map (tiO t)) = costB c os * t := fun c => by unfold costB; rw [sel_ti, sum_ti]
  obtain ⟨⟨c, c1, c2, c3⟩, lo⟩ := a
  refine ⟨⟨c, by rw [List.length_map]; exact c1, hit_ti.mpr c2, by rw [e, c3]⟩, fun d d1 d2 => ?_⟩
  rw [List.length_map] at d1
  rw [e]
  exact Int.mul_le_mul_of_nonneg_right (lo d d1 (hit_ti.mp d2)) t0
end Toy
set_option Elab.async false
set_option linter.all false
set_option maxRecDepth 100000
set_option maxHeartbeats 1000000
namespace Toy
open PySem PySem.Spec PyProof.Rows L2
theorem filt_all (us : List V) : (us.filter fun x => !okP x).isEmpty = us.all okP := by
  rw [Bool.eq_iff_iff, List.isEmpty_iff, List.filter_eq_nil_iff, List.all_eq_true]
  constructor
  · intro h x hx
    have := h x hx
    cases z : okP x with
    | true => rfl
    | false => rw [z] at this; exact absurd rfl this
  · intro h x hx
    rw [h x hx]; decide
theorem ints_flat (l : List Int) : (l.map V.int).all flatV = true := List.all_eq_true.mpr fun x hx => by
  obtain ⟨i, _, rfl⟩ := List.mem_map.mp hx
  rfl
theorem inV_ints (m : Int) : ∀ (l : List Int), inV (V.int m) (l.map V.int) = decide (m ∈ l) := by
  intro l
  unfold inV
  rw [List.any_map, Bool.eq_iff_iff, List.any_eq_true, decide_eq_true_iff]
  constructor
  · rintro ⟨y, hy, e⟩
    have e : (y == m) = true := e
    rw [← eq_of_beq e]; exact hy
  · intro h
    exact ⟨m, h, by show (m == m) = true; exact beq_self_eq_true m⟩
theorem shaped_intsL (l : List Int) : SeqAt.shaped (.list (l.map PyData.int)) = true := by
  obtain ⟨_, _, c, _⟩ := ints_data l
  unfold SeqAt.shaped
  simp only [PyData.canLay0, PyData.depth, c, lay_ints, Bool.true_and]
  rfl
theorem eqv_lists (l k : List Int) : PyData.eqv (.list (l.map PyData.int)) (.list (k.map PyData.int)) = decide (l = k) := eqv_ints l k
theorem filt_step {α : Type} {f : α → Bool} {l : List α} {i : Nat} {x : α} (h : l[i]? = some x) : (l.take (i + 1)).filter f = (l.take i).filter f ++ (if f x = true then [x] else []) := by
  rw [List.take_add_one, h, List.filter_append]
  show _ ++ List.filter _ [x] = _
  rw [List.filter_cons, List.filter_nil]
theorem filt_few {α : Type} {f : α → Bool} {l : List α} {n : Nat} (i : Nat) (h : l.length ≤ n) : ((l.take i).filter f).length ≤ n := by
  have := List.length_filter_le f (l.take i)
  rw [List.length_take] at this
  omega
theorem zip_take_succ {ws : List (Int × Int)} {ms : List Int} {i : Nat} {p : Int × Int} {m : Int} (hp : ws[i]? = some p) (hm : ms[i]? = some m) : (ws.zip ms).take (i + 1) = (ws.zip ms).take i ++ [(p, m)] := by
  have hz : (ws.zip ms)[i]? = some (p, m) := by rw [List.getElem?_zip_eq_some]; exact ⟨hp, hm⟩
  rw [List.take_add_one, hz]; rfl
def loadF (m : Int) (q : (Int × Int) × Int) : Bool := decide (q.1.1 ≤ m) && decide (m < q.1.2)
theorem loadL_filt (m : Int) : ∀ l : List ((Int × Int) × Int), loadL l m = ((l.filter (loadF m)).map (·.2)).sum
  | [] => rfl
  | q :: l => by
    have ih := loadL_filt m l
    have e : loadL (q :: l) m = (if q.1.1 ≤ m ∧ m < q.1.2 then q.2 else 0) + loadL l m := rfl
    rw [e, ih, List.filter_cons]
    by_cases c : q.1.1 ≤ m ∧ m < q.1.2
    · rw [if_pos c, if_pos (by unfold loadF; rw [decide_eq_true c.1, decide_eq_true c.2]; rfl)]; rfl
    · rw [if_neg c, if_neg (by
        intro z
        unfold loadF at z
        obtain ⟨z1, z2⟩ := Bool.and_eq_true_iff.mp z
        exact c ⟨of_decide_eq_true z1, of_decide_eq_true z2⟩), Int.zero_add]

/-! ### masks -/
def inP (p o : Int × Int) : Bool := decide (p.1 ≤ o.1) && decide (o.1 < p.2)
theorem ins_iff {p : Int × Int} {os : List (Int × Int)} : insL p.1 p.2 os ≠ [] ↔ ∃ o ∈ os, inP p o = true := by
  unfold insL
  rw [Ne, List.filter_eq_nil_iff]
  constructor
  · intro h
    apply Classical.byContradiction
    intro n
    refine h fun m hm c => ?_
    obtain ⟨o, ho, rfl⟩ := List.mem_map.mp hm
    exact n ⟨o, ho, c⟩
  · rintro ⟨o, ho, c⟩ h
    exact h o.1 (List.mem_map_of_mem ho) c
theorem inP_iff {p o : Int × Int} : inP p o = true ↔ p.1 ≤ o.1 ∧ o.1 < p.2 := by
  unfold inP
  rw [Bool.and_eq_true_iff, decide_eq_true_iff, decide_eq_true_iff]
theorem and_ne {m c : Nat} : m &&& c ≠ 0 ↔ ∃ j, m.testBit j = true ∧ c.testBit j = true := by
  constructor
  · intro h
    apply Classical.byContradiction
    intro n
    refine h (Nat.eq_of_testBit_eq fun j => ?_)
    rw [Nat.testBit_and, Nat.zero_testBit]
    cases a : m.testBit j with
    | false => rfl
    | true => cases b : c.testBit j with
      | false => rfl
      | true => exact absurd ⟨j, a, b⟩ n
  · rintro ⟨j, a, b⟩ h
    have := Nat.testBit_and m c j
    rw [h, a, b, Nat.zero_testBit] at this
    cases this
theorem mk_and {p : Int × Int} {os : List (Int × Int)} {c : Nat} : mkM (inP p) os os.length &&& c ≠ 0 ↔ ∃ o ∈ selB c os 0, p.1 ≤ o.1 ∧ o.1 < p.2 := by
  rw [and_ne]
  constructor
  · rintro ⟨j, a, b⟩
    rw [mkM_bit] at a
    obtain ⟨a1, a2⟩ := Bool.and_eq_true_iff.mp a
    have lj : j < os.length := of_decide_eq_true a1
    rw [List.getElem?_eq_getElem lj] at a2
    exact ⟨os[j], selB_at.mpr ⟨j, List.getElem?_eq_getElem lj, by rw [Nat.zero_add]; exact b⟩, inP_iff.mp a2⟩
  · rintro ⟨o, ho, a⟩
    obtain ⟨j, hj, b⟩ := selB_at.mp ho
    rw [Nat.zero_add] at b
    exact ⟨j, by rw [mkM_bit, hj, decide_eq_true (List.getElem?_eq_some_iff.mp hj).1]; exact inP_iff.mpr a, b⟩
theorem mk_ne {p : Int × Int} {os : List (Int × Int)} : mkM (inP p) os os.length ≠ 0 ↔ insL p.1 p.2 os ≠ [] := by
  rw [ins_iff]
  constructor
  · intro h
    apply Classical.byContradiction
    intro n
    refine h (Nat.eq_of_testBit_eq fun j => ?_)
    rw [mkM_bit, Nat.zero_testBit]
    cases e : os[j]? with
    | none => exact Bool.and_false _
    | some o =>
      show (_ && inP p o) = false
      cases c : inP p o with
      | false => exact Bool.and_false _
      | true => exact absurd ⟨o, List.mem_of_getElem? e, c⟩ n
  · rintro ⟨o, ho, c⟩ h
    obtain ⟨j, hj⟩ := List.getElem?_of_mem ho
    have := mkM_bit (inP p) os os.length j
    rw [h, hj, decide_eq_true (List.getElem?_eq_some_iff.mp hj).1, Nat.zero_testBit] at this
    have this : false = inP p o := this
    rw [c] at this
    cases this
/-- the masks that are wanted -/
def Wants (ws os : List (Int × Int)) (ms : List Nat) : Prop := ∀ m, m ∈ ms ↔ m ≠ 0 ∧ ∃ p ∈ ws, mkM (inP p) os os.length = m
theorem wants_hit {ws os : List (Int × Int)} {ms : List Nat} (h : Wants ws os ms) (c : Nat) : (ms.filter fun m => decide (m &&& c = 0)) = [] ↔ HitB ws os c := by
  rw [List.filter_eq_nil_iff]
  constructor
  · intro z p hp ne
    have := z _ ((h _).mpr ⟨mk_ne.mpr ne, p, hp, rfl⟩)
    exact mk_and.mp fun e => this (decide_eq_true e)
  · intro z m hm e
    obtain ⟨a, p, hp, rfl⟩ := (h m).mp hm
    exact mk_and.mpr (z p hp (mk_ne.mp a)) (of_decide_eq_true e)
theorem sel_app {c : Nat} : ∀ (l : List (Int × Int)) (o : Int × Int) (i : Nat), selB c (l ++ [o]) i = selB c l i ++ (if c.testBit (i + l.length) = true then [o] else [])
  | [], o, i => by
    show (if c.testBit i then [o] else []) = [] ++ _
    rw [List.nil_append]; rfl
  | q :: l, o, i => by
    have ih := sel_app (c := c) l o (i + 1)
    show (if c.testBit i then q :: selB c (l ++ [o]) (i + 1) else selB c (l ++ [o]) (i + 1)) = (if c.testBit i then q :: selB c l (i + 1) else selB c l (i + 1)) ++ _
    rw [ih, show i + 1 + l.length = i + (q :: l).length by rw [List.length_cons]; omega]
    by_cases z : c.testBit i = true
    · rw [if_pos z, if_pos z]; rfl
    · rw [if_neg z, if_neg z]
theorem selB_len {c : Nat} : ∀ (l : List (Int × Int)) (i : Nat), (selB c l i).length ≤ l.length
  | [], _ => Nat.le_refl _
  | q :: l, i => by
    have := selB_len (c := c) l (i + 1)
    unfold selB
    split
    · rw [List.length_cons, List.length_cons]; omega
    · rw [List.length_cons]; omega
theorem bit_val (c i : Nat) : Builtin.bitAnd ((c : Int) / 2 ^ i) 1 = (if c.testBit i = true then 1 else 0 : Int) := by
  rw [show (c : Int) / 2 ^ i = ((c / 2 ^ i : Nat) : Int) by rw [Int.natCast_ediv, Int.natCast_pow]; rfl]
  have e : Builtin.bitAnd ((c / 2 ^ i : Nat) : Int) ((1 : Nat) : Int) = ((c / 2 ^ i &&& 1 : Nat) : Int) := PySem.W.os_band _ _
  rw [show Builtin.bitAnd ((c / 2 ^ i : Nat) : Int) 1 = ((c / 2 ^ i &&& 1 : Nat) : Int) from e, Nat.and_one_is_mod, Nat.testBit_eq_decide_div_mod_eq]
  have := Nat.mod_two_eq_zero_or_one (c / 2 ^ i)
  rcases this with h | h
  · rw [h, decide_eq_false (by decide), if_neg (by decide)]; rfl
  · rw [h, decide_eq_true rfl, if_pos rfl]; rfl
/-- the best so far -/
def BestV (ws os : List (Int × Int)) (k : Nat) (f : V) : Prop :=
  (f = .non ∧ ∀ c, c < k → ¬ HitB ws os c) ∨ ∃ v, f = .int v ∧ (∃ c, c < k ∧ HitB ws os c ∧ costB c os = v) ∧ ∀ c, c < k → HitB ws os c → v ≤ costB c os
theorem best_skip {ws os : List (Int × Int)} {k : Nat} {f : V} (h : BestV ws os k f) (n : ¬ HitB ws os k) : BestV ws os (k + 1) f := by
  have go : ∀ c, c < k + 1 → HitB ws os c → c < k := fun c hc a => by
    rcases Nat.lt_or_ge c k with z | z
    · exact z
    · have : c = k := by omega
      rw [this] at a; exact absurd a n
  rcases h with ⟨a, b⟩ | ⟨v, a, ⟨c, c1, c2, c3⟩, lo⟩
  · exact .inl ⟨a, fun c hc z => b c (go c hc z) z⟩
  · exact .inr ⟨v, a, ⟨c, by omega, c2, c3⟩, fun d hd z => lo d (go d hd z) z⟩
theorem best_first {ws os : List (Int × Int)} {k : Nat} (h : BestV ws os k .non) (y : HitB ws os k) : BestV ws os (k + 1) (.int (costB k os)) := by
  rcases h with ⟨_, b⟩ | ⟨v, a, _⟩
  · refine .inr ⟨_, rfl, ⟨k, by omega, y, rfl⟩, fun c hc z => ?_⟩
    by_cases e : c = k
    · rw [e]; exact Int.le_refl _
    · exact absurd z (b c (by omega))
  · cases a
theorem best_min {ws os : List (Int × Int)} {k : Nat} {v : Int} (h : BestV ws os k (.int v)) (y : HitB ws os k) : BestV ws os (k + 1) (.int (if costB k os < v then costB k os else v)) := by
  rcases h with ⟨a, _⟩ | ⟨u, a, ⟨c, c1, c2, c3⟩, lo⟩
  · cases a
  · cases a
    by_cases z : costB k os < v
    · rw [if_pos z]
      refine .inr ⟨_, rfl, ⟨k, by omega, y, rfl⟩, fun d hd x => ?_⟩
      by_cases e : d = k
      · rw [e]; exact Int.le_refl _
      · have := lo d (by omega) x; omega
    · rw [if_neg z]
      refine .inr ⟨_, rfl, ⟨c, by omega, c2, c3⟩, fun d hd x => ?_⟩
      by_cases e : d = k
      · rw [e]; omega
      · exact lo d (by omega) x
theorem best_end {ws os : List (Int × Int)} {f : V} (h : BestV ws os (2 ^ os.length) f) : ∃ v, f = .int v ∧ IsLeast ws os v := by
  rcases h with ⟨_, b⟩ | ⟨v, a, b, c⟩
  · refine absurd ?_ (b (mkM (fun _ => true) os os.length) (mkM_lt _ _ _))
    intro p hp ne
    obtain ⟨o, ho, z⟩ := ins_iff.mp ne
    refine ⟨o, ?_, inP_iff.mp z⟩
    rw [sel_mk]
    exact List.mem_filter.mpr ⟨ho, rfl⟩
  · exact ⟨v, a, b, c⟩
end Toy
set_option Elab.async false
set_option linter.all false
set_option maxRecDepth 100000
set_option maxHeartbeats 1000000
namespace Toy
open PySem PySem.Spec PyProof.Rows L2
theorem gname_reads {i : Nat} {v : V} {σ : L2.St} {H : Hp} {k : L2.St → Hp → Prop} (h : k (σ.set i (some v)) H) : gName i v σ H k := h
theorem nil_reads {σ : L2.St} {H : Hp} {k : List V → Hp → Prop} (h : k [] H) : tNil σ H k := h
def nInt (n : Nat) : V := .int (n : Int)
theorem nmap (l : List Nat) : l.map nInt = (l.map fun n : Nat => (n : Int)).map V.int := by rw [List.map_map]; rfl
theorem nmap_flat (l : List Nat) : (l.map nInt).all flatV = true := by rw [nmap]; exact ints_flat _
theorem inV_nats (m : Nat) (l : List Nat) : inV (nInt m) (l.map nInt) = decide (m ∈ l) := by
  rw [nmap]
  show inV (V.int (m : Int)) _ = _
  rw [inV_ints, Bool.eq_iff_iff, decide_eq_true_iff, decide_eq_true_iff, List.mem_map]
  constructor
  · rintro ⟨n, hn, e⟩
    have e : n = m := by omega
    rw [← e]; exact hn
  · intro h; exact ⟨m, h, rfl⟩
theorem mkM_yes {P : Int × Int → Bool} {os : List (Int × Int)} {j : Nat} {e : Int × Int} (h : os[j]? = some e) (p : P e = true) : mkM P os (j + 1) = mkM P os j + 2 ^ j := by
  show mkM P os j + (if ((os[j]?).map P).getD false then 2 ^ j else 0) = _
  rw [h]
  show mkM P os j + (if P e = true then 2 ^ j else 0) = _
  rw [if_pos p]
theorem mkM_no {P : Int × Int → Bool} {os : List (Int × Int)} {j : Nat} {e : Int × Int} (h : os[j]? = some e) (p : P e = false) : mkM P os (j + 1) = mkM P os j := by
  show mkM P os j + (if ((os[j]?).map P).getD false then 2 ^ j else 0) = _
  rw [h]
  show mkM P os j + (if P e = true then 2 ^ j else 0) = _
  rw [if_neg (by rw [p]; decide)]; rfl
theorem same_put {H G : Hp} {W : Addr} {o : HO} (s : Same H G) (n : H W = none) : Same H (upd G W o) := fun b u e => by
  rw [upd_ne (fun z => by rw [z, n] at e; cases e)]; exact s _ _ e
section
variable {P : Program} {w : World} {K : PySem.W.Frag} {mg : Str → Option Value} {base : Heap}
def sp__law_least (K : PySem.W.Frag) : Sp := fun vs H Q _ => ∃ (a o : Addr) (xs ys : List V) (ws os : List (Int × Int)), vs = [.ref a, .ref o] ∧ H a = some (.tup xs) ∧ Prs K H xs ws ∧ H o = some (.tup ys) ∧ Prs K H ys os ∧ ws.length ≤ 63 ∧ os.length ≤ 9 ∧
  ∀ H' v, Same H H' → IsLeast ws os v → Q (.int v) H'
theorem ok__law_least (T : Txt K mg) : FnOk P w K mg base CX0 1 T.a__law_least T.d__law_least ["windows", "offers"] (sp__law_least K) := by
  refine T.F__law_least.ok sc__law_least (fun vs H Q E h => ?_) (fun cdv A outer s H vs Q E hr h => ?_)
  · obtain ⟨a, o, xs, ys, ws, os, rfl, _⟩ := h; rfl
  · obtain ⟨a, o, xs, ys, ws, os, rfl, ha, pw, ho, po, lw, lo, q⟩ := h
    have lx := prs_len pw
    have ly := prs_len po
    refine ⟨_, (pss_cons (ps_par (i := 2) (j := 3) (by rfl) sc__law_least.nd rfl rfl (by decide) rfl rfl (pa_cons (pe_lst pa_nil) (pa_cons pe_non pa_nil)) (by rfl))
        (pss_cons (ps_for PassesOwn.never rfl (pi_tup (pv 0)) (pg_name (i := 4) sc__law_least.nd rfl (by first | exact Or.inl rfl | exact Or.inr rfl)) (pss_cons (ps_set (i := 5) sc__law_least.nd rfl (by first | exact Or.inl rfl | exact Or.inr rfl) pe_int)
        (pss_cons (ps_for PassesOwn.never rfl (Vz.pi_enT (by rfl) T.z_enumerate (pa_cons (pv 1) pa_nil)) (pg_tup rfl (pgs_cons (pg_name (i := 6) sc__law_least.nd rfl (by first | exact Or.inl rfl | exact Or.inr rfl)) (pgs_cons (pg_name (i := 7) sc__law_least.nd rfl (by first | exact Or.inl rfl | exact Or.inr rfl)) pgs_nil))) (pss_one (ps_if (pt_chain op_le op_lt (pe_ix ix_tup (pv 4) pe_int (fun _ _ => rfl)) (pe_ix ix_tup (pv 7) pe_int (fun _ _ => rfl)) (pe_ix ix_tup (pv 4) pe_int (fun _ _ => rfl))) (pss_one (ps_set (i := 5) sc__law_least.nd rfl (by first | exact Or.inl rfl | exact Or.inr rfl) (pe_op op_add (pv 5) (pe_op op_shl pe_int (pv 6))))) pss_nil)))
        (pss_one (ps_if (PW.pt (pw_and (pt_cmpR op_gt (pv 5) pe_int (nomark _)) (pw_and1 (pt_cmpR op_notIn_seq (pv 5) (pv 2) (by with_unfolding_all rfl))))) (pss_one (ps_expr (pe_bm PySem.F.plainAttrs_list PySem.F.slot_list_append PySem.F.type_list_append mt_append (pv 2) (pa_cons (pv 5) pa_nil)))) pss_nil)))))
        (pss_cons (ps_for PassesOwn.never rfl (pi_range1 (by rfl) T.z_range (pa_cons (pe_op op_shl pe_int (pe_callB call_len_seq (by rfl) T.z_len PySem.boot_len (pa_cons (pv 1) pa_nil))) pa_nil)) (pg_name (i := 8) sc__law_least.nd rfl (by first | exact Or.inl rfl | exact Or.inr rfl)) (pss_one (ps_if (pt_cmpR (op_eqD (by have := hr.units; exact this)) (pe_lc (own := [("mask", 5)]) (g := gName 5) (by rfl) sc__law_least.nd (pi_list (pv 2)) (blkOk_by (own := [("mask", 5)]) (N := ["windows", "offers", "wanted", "found", "window", "mask", "at", "offer", "choice", "cost"]) (sc := defScope s__law_least) (by decide +kernel)) (fun _ _ _ _ _ => pg_name (i := 5) sc__law_least.nd rfl (Or.inl rfl)) (fun _ _ _ _ _ => (pts_one (pt_cmpR op_eq (pe_op op_and (pv 5) (pv 8)) pe_int (nomark _)))) (fun _ _ _ _ _ => (pv 5))) (pe_lst pa_nil) (nomark _)) (pss_cons (ps_set (i := 9) sc__law_least.nd rfl (by first | exact Or.inl rfl | exact Or.inr rfl) (pe_callB (cr_sum (by rfl)) (by rfl) T.z_sum (by decide +kernel) (pa_cons (pe_lc (own := [("at", 6), ("offer", 7)]) (g := gTup K 2 (gCons (gName 6) (gCons (gName 7) gNil))) (by rfl) sc__law_least.nd (Vz.pi_enT (by rfl) T.z_enumerate (pa_cons (pv 1) pa_nil)) (blkOk_by (own := [("at", 6), ("offer", 7)]) (N := ["windows", "offers", "wanted", "found", "window", "mask", "at", "offer", "choice", "cost"]) (sc := defScope s__law_least) (by decide +kernel)) (fun _ _ _ _ _ => pg_tup rfl (pgs_cons (pg_name (i := 6) sc__law_least.nd rfl (Or.inl rfl)) (pgs_cons (pg_name (i := 7) sc__law_least.nd rfl (Or.inl rfl)) pgs_nil))) (fun _ _ _ _ _ => (pts_one (pt_cmpR op_eq (pe_op op_and (pe_op op_shr (pv 8) (pv 6)) pe_int) pe_int (nomark _)))) (fun _ _ _ _ _ => (pe_ix (r := L2.rIxT K) ix_tup (pv 7) pe_int (fun _ _ => rfl)))) pa_nil)))
        (pss_one (ps_set (i := 3) sc__law_least.nd rfl (by first | exact Or.inl rfl | exact Or.inr rfl) (pe_ifExp (pt_cmpR op_isN (pv 3) pe_non (nomark _)) (pv 9) (pe_callB (call_min2 rfl) (by rfl) T.z_min (by decide +kernel) (pa_cons (pv 3) (pa_cons (pv 9) pa_nil))))))) pss_nil)))
        (pss_one (ps_ret (pv 3)))))), ?_⟩
    refine ⟨(by show 0 ≤ sizeLine; decide), fun W nW => ?_⟩
    have s1 := same_new (o := .lst []) nW
    have hW := upd_same (H := H) (a := W) (o := .lst [])
    generalize upd H W (.lst []) = H1 at s1 hW ⊢
    refine ⟨_, _, rfl, ?_⟩
    refine ⟨_, rfl, a, rfl, ⟨_, SqT.of (s1 _ _ ha)⟩, ?_⟩
    refine for_it (walk_tup (K := K) (a := a) (xs := xs)) (fun i σ G => ∃ (x4 x5 x6 x7 : Option V) (ms : List Nat), σ = [some (.ref a), some (.ref o), some (.ref W), some .non, x4, x5, x6, x7, none, none] ∧ Same H G ∧ G W = some (.lst (ms.map nInt)) ∧ Wants (ws.take i) os ms ∧ ms.length ≤ i) ⟨none, none, none, none, [], rfl, s1, hW, fun m => ⟨fun h => (nomatch h), fun ⟨_, p, hp, _⟩ => (nomatch hp)⟩, Nat.le_refl _⟩ ?_ ?_ ?_
    · rintro i σ G _ ⟨_, _, _, _, _, rfl, s2, _⟩
      exact SqT.of (s2 _ _ ha)
    · rintro i x σ G G2 hi ⟨x4, x5, x6, x7, ms, rfl, s2, gW, wm, lm⟩ ⟨rfl, hx⟩
      obtain ⟨p, t, hp, rfl, ht⟩ := prs_at pw hx
      refine gname_reads ?_
      refine gname_reads ?_
      refine ⟨_, rfl, o, ys, rfl, SqT.of (s2 _ _ ho), ?_⟩
      refine for_it (Vz.walk_en (K := K) (k0 := 0) (a := o) (xs := ys)) (fun j σ G' => ∃ (x6 x7 : Option V), σ = [some (.ref a), some (.ref o), some (.ref W), some .non, some (.ref t), some (nInt (mkM (inP p) os j)), x6, x7, none, none] ∧ Same G2 G') ⟨x6, x7, rfl, Same.refl _⟩ ?_ ?_ ?_
      · rintro j σ G' _ ⟨_, _, rfl, s3⟩
        exact SqT.of (s3 _ _ (s2 _ _ ho))
      · rintro j x σ G1 G3 hj ⟨y6, y7, rfl, s3⟩ ⟨te, k', y, rfl, nt, rfl, ek, ey⟩
        cases ek
        have ey : ys[j]? = some y := ey
        obtain ⟨e, t2, he, rfl, hto⟩ := prs_at po ey
        have s4 := s3.trans (same_new (o := .tup [.int (0 + (j : Nat)), .ref t2]) nt)
        refine ⟨te, _, rfl, SqT.of upd_same, rfl, _, _, rfl, _, _, rfl, rfl, ?_⟩
        generalize upd G1 te (.tup [.int (0 + (j : Nat)), .ref t2]) = G4 at s4 ⊢
        have hpt := Vz.sqT_same (s2.trans s4) ht
        have hot := Vz.sqT_same (s2.trans s4) hto
        refine ⟨_, rfl, t, _, 0, _, rfl, rfl, hpt, rfl, _, rfl, t2, _, 0, _, rfl, rfl, hot, rfl, p.1, e.1, rfl, rfl, ?_⟩
        refine ⟨_, rfl, ?_⟩
        cases c1 : decide (p.1 ≤ e.1) with
        | true =>
          refine iteT ?_
          refine ⟨_, rfl, t, _, 1, _, rfl, rfl, hpt, rfl, e.1, p.2, rfl, rfl, ?_⟩
          cases c2 : decide (e.1 < p.2) with
          | true =>
            refine ⟨_, rfl, ?_⟩
            dsimp only
            rw [if_pos c2]
            refine ⟨_, rfl, _, rfl, _, _, rfl, rfl, ⟨by omega, by omega, by decide⟩, _, _, rfl, rfl, ?_⟩
            have em : V.int (((mkM (inP p) os j : Nat) : Int) + 1 * 2 ^ ((0 : Int) + (j : Nat)).toNat) = nInt (mkM (inP p) os (j + 1)) := by
              rw [mkM_yes he (by unfold inP; rw [c1, c2]; rfl), show ((0 : Int) + (j : Nat)).toNat = j by omega, Int.one_mul]
              unfold nInt
              rw [Int.natCast_add, Int.natCast_pow]; rfl
            refine ⟨some (.int (0 + (j : Nat))), some (.ref t2), ?_, s4⟩
            rw [← em]; rfl
          | false =>
            refine ⟨_, rfl, ?_⟩
            dsimp only
            rw [if_neg (by rw [c2]; decide)]
            refine ⟨some (.int (0 + (j : Nat))), some (.ref t2), ?_, s4⟩
            rw [mkM_no he (by unfold inP; rw [c2, Bool.and_false])]
            rfl
        | false =>
          refine iteF ?_
          refine ⟨_, rfl, ?_⟩
          dsimp only
          rw [if_neg (by decide)]
          refine ⟨some (.int (0 + (j : Nat))), some (.ref t2), ?_, s4⟩
          rw [mkM_no he (by unfold inP; rw [c1, Bool.false_and])]
          rfl
      · rintro σ G' ⟨y6, y7, rfl, s3⟩
        rw [ly]
        have em : mkM (inP p) os os.length = mkM (inP p) os os.length := rfl
        generalize hm : mkM (inP p) os os.length = m at em ⊢
        have gW3 := s3 _ _ gW
        have wstep : ∀ (n : Nat), (n ∈ ms ∨ n = m ∧ m ≠ 0) ↔ n ≠ 0 ∧ ∃ p ∈ ws.take (i + 1), mkM (inP p) os os.length = n := fun n => by
          rw [List.take_add_one, hp]
          constructor
          · rintro (z | ⟨z, ne⟩)
            · obtain ⟨n0, r, hr, er⟩ := (wm n).mp z
              exact ⟨n0, r, List.mem_append_left _ hr, er⟩
            · rw [z]; exact ⟨ne, p, List.mem_append_right _ (by exact List.mem_cons_self), hm⟩
          · rintro ⟨n0, r, hr, er⟩
            rcases List.mem_append.mp hr with z | z
            · exact .inl ((wm n).mpr ⟨n0, r, z, er⟩)
            · have z : r ∈ [p] := z
              rw [List.mem_singleton.mp z, hm] at er
              exact .inr ⟨er.symm, by rw [er]; exact n0⟩
        refine ⟨_, rfl, _, _, rfl, rfl, _, rfl, ?_⟩
        refine ite2 (fun c1 => ?_) (fun c1 => ?_)
        · have m0 : m ≠ 0 := by have := of_decide_eq_true c1; omega
          refine ⟨_, rfl, _, rfl, W, _, rfl, .inl (SqL.of gW3), rfl, nmap_flat ms, _, rfl, ?_⟩
          have ei : inV (nInt m) (ms.map nInt) = decide (m ∈ ms) := inV_nats m ms
          refine ite2 (fun c2 => ?_) (fun c2 => ?_)
          · refine ⟨_, rfl, .inl ⟨rfl, _, SqL.of gW3⟩, _, rfl, W, _, _, rfl, rfl, gW3, (by rw [List.length_map, sizeLine_eq]; have := (List.getElem?_eq_some_iff.mp hp).1; omega), ?_⟩
            refine ⟨_, _, _, _, ms ++ [m], rfl, same_put (s2.trans s3) nW, by rw [upd_same, List.map_append]; rfl, fun n => ?_, by rw [List.length_append, List.length_singleton]; omega⟩
            rw [← wstep n, List.mem_append, List.mem_singleton]
            exact ⟨fun z => z.elim .inl fun z => .inr ⟨z, m0⟩, fun z => z.elim .inl fun z => .inr z.1⟩
          · refine ⟨_, _, _, _, ms, rfl, s2.trans s3, gW3, fun n => ?_, by omega⟩
            have mm : m ∈ ms := by
              rw [show (if true = true then !inV (nInt m) (ms.map nInt) else inV (nInt m) (ms.map nInt)) = !inV (nInt m) (ms.map nInt) from rfl, ei] at c2
              by_cases z : m ∈ ms
              · exact z
              · exact absurd (by rw [decide_eq_false z]; rfl) c2
            rw [← wstep n]
            exact ⟨.inl, fun z => z.elim id fun z => by rw [z.1]; exact mm⟩
        · have m0 : m = 0 := by
            cases z : decide ((0 : Int) < (m : Nat)) with
            | true => exact absurd z c1
            | false => have := of_decide_eq_false z; omega
          refine iteF ?_
          refine ⟨_, _, _, _, ms, rfl, s2.trans s3, gW3, fun n => ?_, by omega⟩
          rw [← wstep n]
          exact ⟨.inl, fun z => z.elim id fun z => absurd m0 z.2⟩
    · rintro σ G ⟨x4, x5, x6, x7, ms, rfl, s2, gW, wm, lm⟩
      have tkW : ws.take xs.length = ws := List.take_of_length_le (by omega)
      rw [tkW] at wm
      have lz : 2 ^ os.length ≤ 512 := Nat.pow_le_pow_right (n := 2) (by decide) lo
      have e2 : (1 : Int) * 2 ^ ((ys.length : Nat) : Int).toNat = ((2 ^ os.length : Nat) : Int) := by
        rw [Int.one_mul, Int.natCast_pow, Int.toNat_natCast, ly]; rfl
      have b1 : -(2 : Int) ^ 62 ≤ ((2 ^ os.length : Nat) : Int) := by generalize 2 ^ os.length = N at lz ⊢; omega
      have b2 : ((2 ^ os.length : Nat) : Int) < (2 : Int) ^ 62 := by generalize 2 ^ os.length = N at lz ⊢; omega
      refine ⟨_, rfl, o, ys, rfl, .inr (SqT.of (s2 _ _ ho)), _, _, rfl, rfl, ⟨by omega, by omega, by decide⟩, _, rfl, by rw [e2]; exact b1, by rw [e2]; exact b2, ?_⟩
      rw [e2, Int.toNat_natCast]
      refine for_it (walk_range (lo := 0) (n := 2 ^ os.length)) (fun k σ G' => ∃ (f : V) (x4 x5 x6 x7 x8 x9 : Option V), σ = [some (.ref a), some (.ref o), some (.ref W), some f, x4, x5, x6, x7, x8, x9] ∧ Same G G' ∧ BestV ws os k f) ⟨_, _, _, _, _, _, _, rfl, Same.refl _, .inl ⟨rfl, fun c hc => absurd hc (Nat.not_lt_zero _)⟩⟩ ?_ ?_ ?_
      · intro _ _ _ _ _; trivial
      · rintro k x σ G1 G2 hk ⟨f, y4, y5, y6, y7, y8, y9, rfl, s3, bv⟩ ⟨rfl, rfl⟩
        refine gname_reads ?_
        have gW3 := s3 _ _ gW
        refine ⟨_, rfl, W, rfl, ⟨_, SqL.of gW3⟩, fun D nD => ?_⟩
        have nDW : D ≠ W := fun z => by rw [z, gW3] at nD; cases nD
        let fz : Nat → Bool := fun m => decide (m &&& k = 0)
        refine lc_it (walk_list (K := K) (a := W) (xs := ms.map nInt)) (fun j H' => H' = upd G2 D (.lst (((ms.take j).filter fz).map nInt))) rfl ?_ ?_ ?_
        · rintro j H' _ rfl
          exact SqL.of (same_new nD _ _ gW3)
        · rintro j x H3 H4 hj rfl ⟨rfl, hx⟩
          rw [List.getElem?_map] at hx
          obtain ⟨m, hm, rfl⟩ := Option.map_eq_some_iff.mp hx
          refine ⟨rfl, ?_⟩
          refine ⟨_, rfl, _, rfl, _, _, rfl, rfl, rfl, _, rfl, ?_⟩
          have ef : decide (V.int (Builtin.bitAnd (m : Int) (0 + (k : Nat))) = V.int 0) = fz m := by
            rw [dI, Int.zero_add, PySem.W.os_band]
            show _ = decide (m &&& k = 0)
            rw [Bool.eq_iff_iff, decide_eq_true_iff, decide_eq_true_iff]
            omega
          rw [ef]
          have fw := filt_few (f := fz) j (show ms.length ≤ 1000 by omega)
          rw [filt_step (f := fz) hm]
          refine ite2 (fun c => ?_) (fun c => ?_)
          · refine ⟨_, rfl, _, upd_same, by rw [List.length_map, sizeLine_eq]; omega, ?_⟩
            rw [upd_upd, if_pos c, List.map_append]
            rfl
          · rw [if_neg c, List.append_nil]
        · rintro H3 rfl
          rw [show (ms.map nInt).length = ms.length from List.length_map _, List.take_length]
          have z1 := same_new (o := .lst ((ms.filter fz).map nInt)) nD
          have hD := upd_same (H := G2) (a := D) (o := .lst ((ms.filter fz).map nInt))
          generalize upd G2 D (.lst ((ms.filter fz).map nInt)) = H3 at z1 hD ⊢
          refine ⟨(by show 0 ≤ sizeLine; decide), fun p1 n1 => ?_⟩
          have z2 := same_new (o := .lst []) n1
          rw [nmap] at hD
          refine ⟨.list (((ms.filter fz).map fun n : Nat => (n : Int)).map PyData.int), .list [], .lst (SqL.of (z2 _ _ hD)) (dpAllI _), .lst (SqL.of upd_same) .nil, shaped_intsL _, shaped_intsL [], _, rfl, ?_⟩
          have eq0 : PyData.eqv (.list (((ms.filter fz).map fun n : Nat => (n : Int)).map PyData.int)) (.list []) = decide (ms.filter fz = []) := by
            rw [show PyData.eqv (.list (((ms.filter fz).map fun n : Nat => (n : Int)).map PyData.int)) (.list []) = decide (((ms.filter fz).map fun n : Nat => (n : Int)) = []) from eqv_lists _ []]
            rw [Bool.eq_iff_iff, decide_eq_true_iff, decide_eq_true_iff, List.map_eq_nil_iff]
          rw [eq0]
          have sA := (s3.trans z1).trans z2
          generalize upd H3 p1 (.lst []) = G5 at sA ⊢
          refine ite2 (fun c => ?_) (fun c => ?_)
          · have hk' : HitB ws os k := (wants_hit wm k).mp (of_decide_eq_true c)
            refine ⟨_, rfl, o, ys, rfl, SqT.of (sA _ _ (s2 _ _ ho)), fun D2 nD2 => ?_⟩
            let cs : List (Int × Int) → List V := fun l => (l.map (·.2)).map V.int
            refine lc_it (Vz.walk_en (K := K) (k0 := 0) (a := o) (xs := ys)) (fun j H' => H' D2 = some (.lst (cs (selB k (os.take j) 0))) ∧ ∀ c u, c ≠ D2 → G5 c = some u → H' c = some u) ⟨upd_same, fun c u n e => by rw [upd_ne n]; exact e⟩ ?_ ?_ ?_
            · rintro j H' _ ⟨_, kp⟩
              exact SqT.of (kp _ _ (ne_of (sA _ _ (s2 _ _ ho)) nD2).symm (sA _ _ (s2 _ _ ho)))
            · rintro j x H6 H7 hj ⟨hD2, kp⟩ ⟨te, k', y, rfl, nt, rfl, ek, ey⟩
              cases ek
              have ey : ys[j]? = some y := ey
              obtain ⟨e, t2, he, rfl, hto⟩ := prs_at po ey
              have sT := same_new (o := .tup [.int (0 + (j : Nat)), .ref t2]) nt
              have sG : Same G5 H6 := fun c u e => kp c u (ne_of e nD2).symm e
              have sC := ((s2.trans sA).trans sG).trans sT
              have hD4 := sT _ _ hD2
              have kp4 : ∀ c u, c ≠ D2 → G5 c = some u → (upd H6 te (.tup [.int (0 + (j : Nat)), .ref t2])) c = some u := fun c u n e => sT _ _ (kp c u n e)
              refine ⟨te, _, rfl, SqT.of upd_same, rfl, _, _, rfl, _, _, rfl, rfl, rfl, ?_⟩
              generalize upd H6 te (.tup [.int (0 + (j : Nat)), .ref t2]) = H8 at sC hD4 kp4 ⊢
              refine ⟨_, rfl, _, rfl, _, _, rfl, rfl, by omega, _, _, rfl, rfl, rfl, _, rfl, ?_⟩
              have ef : decide (V.int (Builtin.bitAnd ((0 + (k : Nat) : Int) / 2 ^ ((0 : Int) + (j : Nat)).toNat) 1) = V.int 1) = k.testBit j := by
                rw [dI, Int.zero_add, Int.zero_add, Int.toNat_natCast, bit_val]
                cases k.testBit j <;> rfl
              rw [ef]
              have es : selB k (os.take (j + 1)) 0 = selB k (os.take j) 0 ++ (if k.testBit j = true then [e] else []) := by
                rw [List.take_add_one, he]
                have := sel_app (c := k) (os.take j) e 0
                rw [Nat.zero_add, List.length_take, Nat.min_eq_left (by have := (List.getElem?_eq_some_iff.mp he).1; omega)] at this
                exact this
              have fl := selB_len (c := k) (os.take j) 0
              rw [List.length_take] at fl
              rw [es]
              refine ite2 (fun c => ?_) (fun c => ?_)
              · refine ⟨_, rfl, t2, _, 1, _, rfl, rfl, Vz.sqT_same sC hto, rfl, ?_⟩
                refine ⟨_, hD4, by rw [List.length_map, List.length_map, sizeLine_eq]; omega, ?_, fun c u n e => by rw [upd_ne n]; exact kp4 c u n e⟩
                rw [upd_same, if_pos c]
                show _ = some (HO.lst (((_ ++ [e]).map (·.2)).map V.int))
                rw [List.map_append, List.map_append]; rfl
              · rw [if_neg c, List.append_nil]
                exact ⟨hD4, kp4⟩
            · rintro H6 ⟨hD2, kp⟩
              rw [show os.take ys.length = os from List.take_of_length_le (by omega)] at hD2
              have sG : Same G5 H6 := fun c u e => kp c u (ne_of e nD2).symm e
              refine nil_reads ?_
              refine ⟨D2, _, rfl, SqL.of hD2, ?_⟩
              refine gname_reads ?_
              have ec : ((selB k os 0).map (·.2)).sum = costB k os := rfl
              rw [ec]
              have sB := sA.trans sG
              have bv' := bv
              rcases bv' with ⟨e, _⟩ | ⟨v, e, _, _⟩
              · subst e
                refine ⟨_, rfl, rfl, _, rfl, ?_⟩
                rw [show decide (V.non = V.non) = true from decide_eq_true rfl]
                refine iteT ?_
                exact ⟨_, rfl, _, _, _, _, _, _, _, rfl, sB, best_first bv hk'⟩
              · subst e
                refine ⟨_, rfl, rfl, _, rfl, ?_⟩
                rw [show decide (V.int v = V.non) = false from decide_eq_false (fun z => by cases z)]
                refine iteF ?_
                exact ⟨_, rfl, _, rfl, _, _, rfl, _, _, _, _, _, _, _, rfl, sB, best_min bv hk'⟩
          · have hk' : ¬ HitB ws os k := fun z => c (decide_eq_true ((wants_hit wm k).mpr z))
            exact ⟨_, _, _, _, _, _, _, rfl, sA, best_skip bv hk'⟩
      · rintro σ G1 ⟨f, y4, y5, y6, y7, y8, y9, rfl, s3, bv⟩
        obtain ⟨v, rfl, lv⟩ := best_end bv
        exact ⟨_, rfl, q _ _ (s2.trans s3) lv⟩
end
end Toy
set_option Elab.async false
set_option linter.all false
set_option maxRecDepth 100000
set_option maxHeartbeats 1000000
namespace Toy
open PySem PySem.Spec PyProof.Rows L2
def Arg (d : Addr) (H : Hp) (o : V) : Prop := ∃ k, Thg d H o k ∧ ∀ b ys, o = .ref b → H b = some (.tup ys) → ∀ x ∈ ys, Thg2 d H x
def GW (H : Hp) (a : Addr) (ws : List (Int × Int)) : Prop := ∃ xs, H a = some (.tup xs) ∧ RawP H xs ws ∧ GoodW ws ∧ ws.length ≤ 12
def GO (H : Hp) (a : Addr) (os : List (Int × Int)) : Prop := ∃ xs, H a = some (.tup xs) ∧ RawP H xs os ∧ GoodO os ∧ os.length ≤ 12
section
variable {d : Addr} {H H' : Hp}
theorem GW.same {a : Addr} {ws : List (Int × Int)} (h : GW H a ws) (s : Same H H') : GW H' a ws := by
  obtain ⟨xs, h1, h2, h3⟩ := h
  exact ⟨xs, s _ _ h1, rawp_map (fun _ _ h => s _ _ h) h2, h3⟩
theorem GO.same {a : Addr} {ws : List (Int × Int)} (h : GO H a ws) (s : Same H H') : GO H' a ws := by
  obtain ⟨xs, h1, h2, h3⟩ := h
  exact ⟨xs, s _ _ h1, rawp_map (fun _ _ h => s _ _ h) h2, h3⟩
theorem thg_tup {a : Addr} {k : String} {xs : List V} (h : Thg d H (.ref a) k) (e : H a = some (.tup xs)) : tupS k = true := by
  cases h with
  | tup q => rfl
  | lst q => rw [q] at e; cases e
  | dic q n => rw [q] at e; cases e
theorem GW.arg {a : Addr} {ws : List (Int × Int)} (h : GW H a ws) : Arg d H (.ref a) := by
  obtain ⟨xs, h1, h2, _⟩ := h
  refine ⟨"tuple", .tup h1, fun b ys e hb x hx => ?_⟩
  cases e
  rw [h1] at hb
  cases hb
  exact rawp_thg h2 x hx
theorem GO.arg {a : Addr} {ws : List (Int × Int)} (h : GO H a ws) : Arg d H (.ref a) := by
  obtain ⟨xs, h1, h2, _⟩ := h
  refine ⟨"tuple", .tup h1, fun b ys e hb x hx => ?_⟩
  cases e
  rw [h1] at hb
  cases hb
  exact rawp_thg h2 x hx
variable {CW CO : Addr}
theorem GW.bad {a : Addr} {ws : List (Int × Int)} (h : GW H a ws) : ∃ xs, H a = some (.tup xs) ∧ badAt (ofV winL H) xs 0 = none ∧ xs.length ≤ 12 := by
  obtain ⟨xs, h1, h2, h3, h4⟩ := h
  exact ⟨xs, h1, rawp_win h2 h3, by rw [rawp_len h2]; exact h4⟩
theorem GO.bad {a : Addr} {ws : List (Int × Int)} (h : GO H a ws) : ∃ xs, H a = some (.tup xs) ∧ chkO H xs (-1) 0 = none ∧ xs.length ≤ 12 := by
  obtain ⟨xs, h1, h2, h3, h4⟩ := h
  exact ⟨xs, h1, rawp_chk h2 h3.1 h3.2 (fun p hp => by have := (h3.1 p hp).1; omega), by rw [rawp_len h2]; exact h4⟩
/-- right ones -/
theorem chk_right (d : Addr) {good : Hp → List V → List V → Prop} {E : XK} {a b : Addr} {ws os : List (Int × Int)} (hu : GW H a ws) (ho : GO H b os) (g : ∀ xs ys, xs.length ≤ 12 → ys.length ≤ 12 → RawP H xs ws → RawP H ys os → good H xs ys) : sp_chk CW CO good H (.ref a) (.ref b) E := by
  obtain ⟨ku, tu, iu⟩ := hu.arg (d := d)
  obtain ⟨xs, h1, eb, lx⟩ := hu.bad
  obtain ⟨ko, to, io⟩ := ho.arg (d := d)
  obtain ⟨ys, g1, ec, ly⟩ := ho.bad
  obtain ⟨xs2, h2, rw2, _⟩ := hu
  obtain ⟨ys2, g2, ro2, _⟩ := ho
  rw [h1] at h2
  rw [g1] at g2
  cases h2
  cases g2
  refine ⟨d, ku, ko, tu, to, iu, io, (fun e => by rw [thg_tup tu h1] at e; cases e), fun a' xs' ea hx => ?_⟩
  cases ea
  rw [h1] at hx
  cases hx
  refine ⟨(fun n e => by rw [eb] at e; cases e), fun _ => ⟨(fun e => by rw [thg_tup to g1] at e; cases e), fun b' ys' eb' hy => ?_⟩⟩
  cases eb'
  rw [g1] at hy
  cases hy
  exact ⟨(fun n e => by rw [ec] at e; cases e), fun _ => g xs ys lx ly rw2 ro2⟩
end
theorem thg2_ints {d : Addr} {H : Hp} {v : Addr} {ms : List Int} (h : H v = some (.tup (ms.map V.int))) : Thg2 d H (.ref v) := by
  refine ⟨"tuple", .tup h, fun a xs e hx x hm => ?_⟩
  cases e
  rw [h] at hx
  cases hx
  obtain ⟨i, _, rfl⟩ := List.mem_map.mp hm
  exact ⟨"int", .int i⟩
theorem few_ints {H : Hp} {v : Addr} {ms : List Int} (h : H v = some (.tup (ms.map V.int))) (n : ms.length ≤ 12) : Few H (.ref v) := fun b us e hb => by
  cases e
  rw [h] at hb
  cases hb
  rw [List.length_map]
  omega

theorem int_back (l : List Int) : (l.map V.int).map intV = l := by
  rw [List.map_map]
  exact (List.map_congr_left fun x _ => rfl).trans (List.map_id l)
theorem okP_ints {l : List Int} (h : ∀ x ∈ l, 0 ≤ x) : (l.map V.int).all okP = true := List.all_eq_true.mpr fun x hx => by
  obtain ⟨i, hi, rfl⟩ := List.mem_map.mp hx
  show (true && decide (0 ≤ i)) = true
  rw [decide_eq_true (h i hi)]; rfl
theorem show_opt {H : Hp} {ws os : List (Int × Int)} {v l : Addr} {ms ps : List Int} (gw : GoodW ws) (go : GoodO os) (O : Opt ws os ms ps) (hv : H v = some (.tup (ms.map V.int))) (hl : H l = some (.tup (ps.map V.int))) : showB H ws os (.ref v) (.ref l) = true := by
  have pos : ∀ m ∈ os.map (·.1), 0 ≤ m := fun m hm => by
    obtain ⟨p, hp, rfl⟩ := List.mem_map.mp hm
    exact (go.1 p hp).1
  have lzs := List.length_zip (l₁ := ws) (l₂ := ps)
  unfold showB ofV intsV
  simp only [hv, hl]
  rw [plan_law go.2 pos (fun p hp => (gw p hp).2), pled_law go.2 (fun p hp => (gw p hp).2), int_back, int_back, decide_eq_true O.cost, Bool.and_true]
  have e1 : planLaw ws os (ms.map V.int) = true := by
    unfold planLaw
    rw [int_back, okP_ints (fun x hx => pos x (O.sub x hx)), pw_rise ms O.rise, List.all_eq_true.mpr (fun m hm => decide_eq_true (O.sub m hm))]
    show ws.all _ = true
    refine List.all_eq_true.mpr fun p hp => ?_
    unfold servL
    cases e : (insL p.1 p.2 os).isEmpty with
    | true => rfl
    | false =>
      obtain ⟨m, hm, a, b⟩ := O.hit p hp (fun z => by rw [z] at e; cases e)
      have mi : m ∈ (insL p.1 p.2 os).filter fun m => decide (m ∈ ms) := by
        refine List.mem_filter.mpr ⟨?_, decide_eq_true hm⟩
        unfold insL
        refine List.mem_filter.mpr ⟨O.sub m hm, ?_⟩
        rw [decide_eq_true a, decide_eq_true b]; rfl
      cases e2 : (insL p.1 p.2 os).filter fun m => decide (m ∈ ms) with
      | nil => rw [e2] at mi; cases mi
      | cons _ _ => rfl
  have e2 : pledLaw ws os (ps.map V.int) = true := by
    unfold pledLaw
    rw [int_back, okP_ints O.nn, List.length_map, decide_eq_true O.len, List.all_eq_true.mpr (fun p hp => decide_eq_true (O.load p hp)), Bool.and_true]
    show List.all _ _ = true
    refine List.all_eq_true.mpr fun q hq => ?_
    obtain ⟨k, hk⟩ := List.getElem?_of_mem hq
    obtain ⟨k1, k2⟩ := List.getElem?_zip_eq_some.mp hk
    cases e : (insL q.1.1 q.1.2 os).isEmpty with
    | false => rw [Bool.and_false]; rfl
    | true =>
      by_cases c : q.2 > 0
      · exact absurd (List.isEmpty_iff.mp e) (O.sup k _ _ k1 k2 (by omega))
      · rw [decide_eq_false c]; rfl
  rw [e1, e2]; rfl
theorem join_asg {k : Bool} {te : TE} {i : Nat} {D : Ends} {σ : L2.St} {H : Hp} (x0 : V) (hx : σ[i]? = some (some x0)) (x1 : V) (ht : ∀ R : VK, R x1 H → te σ H R) (q : D.nx (σ.set i (some (if k = true then x1 else x0))) H) : if k = true then tAsg te (gName i) D σ H else tNext D σ H := by
  cases k with
  | true => rw [if_pos rfl]; exact ht _ q
  | false =>
    rw [if_neg (by decide)]
    rw [if_neg (by decide)] at q
    obtain ⟨l, e⟩ := List.getElem?_eq_some_iff.mp hx
    have z : σ.set i (some x0) = σ := by rw [← e]; exact List.set_getElem_self l
    rw [z] at q
    exact q
theorem next_reads {D : Ends} {σ : L2.St} {H : Hp} (h : D.nx σ H) : tNext D σ H := h
section
variable {P : Program} {w : World} {K : PySem.W.Frag} {mg : Str → Option Value} {base : Heap}
def sp__law_cost (K : PySem.W.Frag) : Sp := fun vs H Q _ => ∃ (a o : Addr) (ws os : List (Int × Int)), vs = [.ref a, .ref o] ∧ GW H a ws ∧ GO H o os ∧ os.length ≤ 9 ∧
  ∀ H' v, Same H H' → IsLeast ws os v → Q (.int v) H'
theorem ok__law_cost (T : Txt K mg) : FnOk P w K mg base CX0 6 T.a__law_cost T.d__law_cost ["windows", "offers"] (sp__law_cost K) := by
  refine T.F__law_cost.ok sc__law_cost (fun vs H Q E h => ?_) (fun cdv A outer s H vs Q E hr h => ?_)
  · obtain ⟨a, o, ws, os, rfl, _⟩ := h; rfl
  · obtain ⟨a, o, ws, os, rfl, gW, gO, lo, q⟩ := h
    refine ⟨_, (pss_cons (ps_asg (pe_call (ok_cheapest T) (hr.mono (by decide)) (by rfl) T.g_cheapest T.F_cheapest.kp T.b_cheapest .nil passL (pa_cons (pv 0) (pa_cons (pv 1) pa_nil))) (pg_tup rfl (pgs_cons (pg_name (i := 2) sc__law_cost.nd rfl (by first | exact Or.inl rfl | exact Or.inr rfl)) (pgs_cons (pg_name (i := 3) sc__law_cost.nd rfl (by first | exact Or.inl rfl | exact Or.inr rfl)) pgs_nil))))
        (pss_cons (ps_par (i := 4) (j := 5) (by rfl) sc__law_cost.nd rfl rfl (by decide) rfl rfl (pa_cons (pe_lc (own := [("moment", 6), ("cost", 7)]) (g := gTup K 2 (gCons (gName 6) (gCons (gName 7) gNil))) (by rfl) sc__law_cost.nd (pi_tup (pv 1)) (blkOk_by (own := [("moment", 6), ("cost", 7)]) (N := ["windows", "offers", "plan", "pledges", "moments", "total", "moment", "cost", "k", "window", "inside", "one"]) (sc := defScope s__law_cost) (by decide +kernel)) (fun _ _ _ _ _ => pg_tup rfl (pgs_cons (pg_name (i := 6) sc__law_cost.nd rfl (Or.inl rfl)) (pgs_cons (pg_name (i := 7) sc__law_cost.nd rfl (Or.inl rfl)) pgs_nil))) (fun _ _ _ _ _ => pts_nil) (fun _ _ _ _ _ => (pv 6))) (pa_cons pe_int pa_nil)) (by rfl))
        (pss_cons (ps_if (PW.pt (pw_or (pt_cmpR (op_neD (by have := hr.units; exact this)) (pe_callTy call_list_of (by rfl) T.z_list (by decide +kernel) (pa_cons (pv 2) pa_nil)) (pe_lc (own := [("moment", 6)]) (g := gName 6) (by rfl) sc__law_cost.nd (pi_list (pv 4)) (blkOk_by (own := [("moment", 6)]) (N := ["windows", "offers", "plan", "pledges", "moments", "total", "moment", "cost", "k", "window", "inside", "one"]) (sc := defScope s__law_cost) (by decide +kernel)) (fun _ _ _ _ _ => pg_name (i := 6) sc__law_cost.nd rfl (Or.inl rfl)) (fun _ _ _ _ _ => (pts_one (pt_cmpR (Vz.op_inK (K := K) rfl) (pv 6) (pv 2) (by with_unfolding_all rfl)))) (fun _ _ _ _ _ => (pv 6))) (nomark _)) (pw_or1 (pt_cmpR op_ne (pe_callB call_len_seq (by rfl) T.z_len PySem.boot_len (pa_cons (pv 3) pa_nil)) (pe_callB call_len_seq (by rfl) T.z_len PySem.boot_len (pa_cons (pv 0) pa_nil)) (nomark _))))) (pss_one (ps_ret pe_non)) pss_nil)
        (pss_cons (ps_for PassesOwn.never rfl (pi_tup (pv 1)) (pg_tup rfl (pgs_cons (pg_name (i := 6) sc__law_cost.nd rfl (by first | exact Or.inl rfl | exact Or.inr rfl)) (pgs_cons (pg_name (i := 7) sc__law_cost.nd rfl (by first | exact Or.inl rfl | exact Or.inr rfl)) pgs_nil))) (pss_cons (ps_if (pt_cmpR op_in_seq (pv 6) (pv 2) (by with_unfolding_all rfl)) (pss_one (ps_set (i := 5) sc__law_cost.nd rfl (by first | exact Or.inl rfl | exact Or.inr rfl) (pe_op op_add (pv 5) (pv 7)))) pss_nil)
        (pss_one (ps_if (pt_cmpR op_gt (pe_callB (cr_sum (by rfl)) (by rfl) T.z_sum (by decide +kernel) (pa_cons (pe_lc (own := [("k", 8), ("one", 11)]) (g := gTup K 2 (gCons (gName 8) (gCons (gName 11) gNil))) (by rfl) sc__law_cost.nd (Vz.pi_enT (by rfl) T.z_enumerate (pa_cons (pv 0) pa_nil)) (blkOk_by (own := [("k", 8), ("one", 11)]) (N := ["windows", "offers", "plan", "pledges", "moments", "total", "moment", "cost", "k", "window", "inside", "one"]) (sc := defScope s__law_cost) (by decide +kernel)) (fun _ _ _ _ _ => pg_tup rfl (pgs_cons (pg_name (i := 8) sc__law_cost.nd rfl (Or.inl rfl)) (pgs_cons (pg_name (i := 11) sc__law_cost.nd rfl (Or.inl rfl)) pgs_nil))) (fun _ _ _ _ _ => (pts_one (pt_chain op_le op_lt (pe_ix (r := L2.rIxT K) ix_tup (pv 11) pe_int (fun _ _ => rfl)) (pv 6) (pe_ix (r := L2.rIxT K) ix_tup (pv 11) pe_int (fun _ _ => rfl))))) (fun _ _ _ _ _ => (pe_ix (r := L2.rIxT K) ix_tup (pv 3) (pv 8) (fun _ _ => rfl)))) pa_nil)) (pv 7) (nomark _)) (pss_one (ps_ret pe_non)) pss_nil))))
        (pss_cons (ps_for PassesOwn.never rfl (Vz.pi_enT (by rfl) T.z_enumerate (pa_cons (pv 0) pa_nil)) (pg_tup rfl (pgs_cons (pg_name (i := 8) sc__law_cost.nd rfl (by first | exact Or.inl rfl | exact Or.inr rfl)) (pgs_cons (pg_name (i := 9) sc__law_cost.nd rfl (by first | exact Or.inl rfl | exact Or.inr rfl)) pgs_nil))) (pss_cons (ps_set (i := 10) sc__law_cost.nd rfl (by first | exact Or.inl rfl | exact Or.inr rfl) (pe_call (ok__law_inside T) (hr.mono (by decide)) (by rfl) T.g__law_inside T.F__law_inside.kp T.b__law_inside .nil pass0 (pa_cons (pv 9) (pa_cons (pv 1) pa_nil))))
        (pss_cons (ps_if (PW.pt (pw_or (pt_cmpR op_lt (pe_ix ix_tup (pv 3) (pv 8) (fun _ _ => rfl)) pe_int (nomark _)) (pw_or1 (PW.pt (pw_and (pt_cmpR (op_eqD (by have := hr.units; exact this)) (pv 10) (pe_lst pa_nil) (nomark _)) (pw_and1 (pt_cmpR op_gt (pe_ix ix_tup (pv 3) (pv 8) (fun _ _ => rfl)) pe_int (nomark _)))))))) (pss_one (ps_ret pe_non)) pss_nil)
        (pss_one (ps_if (PW.pt (pw_and (pt_cmpR (Vz.op_neNil (by have := hr.units; exact this)) (pv 10) (pe_lst pa_nil) (nomark _)) (pw_and1 (pt_cmpR (op_eqD (by have := hr.units; exact this)) (pe_lc (own := [("moment", 6)]) (g := gName 6) (by rfl) sc__law_cost.nd (pi_list (pv 10)) (blkOk_by (own := [("moment", 6)]) (N := ["windows", "offers", "plan", "pledges", "moments", "total", "moment", "cost", "k", "window", "inside", "one"]) (sc := defScope s__law_cost) (by decide +kernel)) (fun _ _ _ _ _ => pg_name (i := 6) sc__law_cost.nd rfl (Or.inl rfl)) (fun _ _ _ _ _ => (pts_one (pt_cmpR (Vz.op_inK (K := K) rfl) (pv 6) (pv 2) (by with_unfolding_all rfl)))) (fun _ _ _ _ _ => (pv 6))) (pe_lst pa_nil) (nomark _))))) (pss_one (ps_ret pe_non)) pss_nil)))))
        (pss_cons (ps_if (PW.pt (pw_or (pt_cmpR op_ne (pe_callB (Vz.cr_sumT (by rfl)) (by rfl) T.z_sum (by decide +kernel) (pa_cons (pv 3) pa_nil)) (pv 5) (nomark _)) (pw_or1 (pt_cmpR op_notBl (pe_call (ok_shows_cheapest T) (hr.mono (by decide)) (by rfl) T.g_shows_cheapest T.F_shows_cheapest.kp T.b_shows_cheapest .nil passL (pa_cons (pv 0) (pa_cons (pv 1) (pa_cons (pv 2) (pa_cons (pv 3) pa_nil))))) pe_bl (nomark _))))) (pss_one (ps_ret pe_non)) pss_nil)
        (pss_one (ps_ret (pv 5))))))))), ?_⟩
    refine ⟨_, rfl, _, rfl, ?_⟩
    refine nil_reads ?_
    refine ⟨.ref a, .ref o, rfl, chk_right a gW gO fun xs' ys' m1 m2 rw' ro' => ⟨by omega, by omega, ws, os, rawp_prs rw', rawp_prs ro', by obtain ⟨_, _, _, g, _⟩ := gO; exact g.2, fun ts pm so G r pa pb s1 hr1 hp hg => ?_⟩⟩
    have O : Opt ws os _ _ := plan_opt (ts := ts) (by obtain ⟨_, _, _, g, _⟩ := gW; exact g) (by obtain ⟨_, _, _, g, _⟩ := gO; exact g) (by obtain ⟨_, _, _, _, g⟩ := gW; omega) (by omega) pm so
    generalize momsF os (planT os ws.length ts).en = ms at O hp
    generalize (planT os ws.length ts).pl = ps at O hg
    have gW := gW.same s1
    have gO := gO.same s1
    clear pm so
    refine ⟨r, _, rfl, SqT.of hr1, rfl, _, _, rfl, _, _, rfl, rfl, ?_⟩
    obtain ⟨xs, hxs, rxs, gw, lw⟩ := id gW
    obtain ⟨ys, hys, rys, go, _⟩ := id gO
    have pxs := rawp_prs (K := K) rxs
    have pys := rawp_prs (K := K) rys
    have lx := rawp_len rxs
    have ly := rawp_len rys
    refine ⟨_, rfl, o, rfl, ⟨_, SqT.of hys⟩, fun M nM => ?_⟩
    refine lc_it (walk_tup (K := K) (a := o) (xs := ys)) (fun i H' => H' = upd G M (.lst (((os.take i).map (·.1)).map V.int))) rfl ?_ ?_ ?_
    · rintro i H' _ rfl
      exact SqT.of (same_new nM _ _ hys)
    · rintro i x H7 H8 hi rfl ⟨rfl, hx⟩
      obtain ⟨m, t1, hm, rfl, ht1⟩ := prs_at pys hx
      have s6 := same_new (o := .lst (((os.take i).map (·.1)).map V.int)) nM
      refine ⟨t1, _, rfl, Vz.sqT_same s6 ht1, rfl, _, _, rfl, _, _, rfl, rfl, rfl, ?_⟩
      refine ⟨_, rfl, _, upd_same, by rw [List.length_map, List.length_map, List.length_take, sizeLine_eq]; omega, ?_⟩
      rw [upd_upd, List.take_add_one, hm, List.map_append, List.map_append]; rfl
    rintro G7 rfl
    rw [show os.take ys.length = os from List.take_of_length_le (by omega)]
    have s2 := same_new (o := .lst ((os.map (·.1)).map V.int)) nM
    have hM := upd_same (H := G) (a := M) (o := .lst ((os.map (·.1)).map V.int))
    generalize upd G M (.lst ((os.map (·.1)).map V.int)) = G2 at s2 hM ⊢
    refine ⟨_, _, rfl, ?_⟩
    have hp2 := s2 _ _ hp
    refine ⟨_, rfl, pa, _, rfl, .inr (SqT.of hp2), fun L nL => ?_⟩
    have s3 := same_new (o := .lst (ms.map V.int)) nL
    have hL := upd_same (H := G2) (a := L) (o := .lst (ms.map V.int))
    have hM3 := s3 _ _ hM
    have hp3 := s3 _ _ hp2
    generalize upd G2 L (.lst (ms.map V.int)) = G3 at s3 hL hM3 hp3 ⊢
    refine ⟨_, rfl, M, rfl, ⟨_, SqL.of hM3⟩, fun D nD => ?_⟩
    have em : (os.map (·.1)).filter (fun m => decide (m ∈ ms)) = ms := by
      refine sorted_ext (go.2.sublist List.filter_sublist) O.rise fun k => ?_
      rw [List.mem_filter, decide_eq_true_iff]
      exact ⟨fun z => z.2, fun z => ⟨O.sub k z, z⟩⟩
    refine lc_it (walk_list (K := K) (a := M) (xs := (os.map (·.1)).map V.int)) (fun i H' => H' = upd G3 D (.lst ((((os.map (·.1)).take i).filter (fun m => decide (m ∈ ms))).map V.int))) rfl ?_ ?_ ?_
    · rintro i H' _ rfl
      exact SqL.of (same_new nD _ _ hM3)
    · rintro i x H7 H8 hi rfl ⟨rfl, hx⟩
      rw [List.getElem?_map] at hx
      obtain ⟨m, hm, rfl⟩ := Option.map_eq_some_iff.mp hx
      have s6 := same_new (o := .lst ((((os.map (·.1)).take i).filter (fun m => decide (m ∈ ms))).map V.int)) nD
      refine ⟨rfl, ?_⟩
      refine ⟨_, rfl, _, rfl, pa, _, rfl, .inr (SqT.of (s6 _ _ hp3)), rfl, ints_flat _, _, rfl, ?_⟩
      have fw := filt_few (f := fun m => decide (m ∈ ms)) i (show (os.map (·.1)).length ≤ 1000 by rw [List.length_map]; omega)
      rw [if_neg (by decide), inV_ints]
      rw [filt_step (f := fun m => decide (m ∈ ms)) hm]
      refine ite2 (fun c => ?_) (fun c => ?_)
      · refine ⟨_, rfl, _, upd_same, by rw [List.length_map, sizeLine_eq]; omega, ?_⟩
        rw [upd_upd, if_pos c, List.map_append]; rfl
      · rw [if_neg c, List.append_nil]
    rintro G7 rfl
    rw [List.length_map, List.take_length, em]
    have s4 := same_new (o := .lst (ms.map V.int)) nD
    refine ⟨.list (ms.map PyData.int), .list (ms.map PyData.int), .lst (SqL.of (s4 _ _ hL)) (dpAllI _), .lst (SqL.of upd_same) (dpAllI _), shaped_intsL _, shaped_intsL _, _, rfl, ?_⟩
    rw [eqv_lists, decide_eq_true rfl]
    refine iteF ?_
    have sA := (s2.trans s3).trans s4
    generalize upd G3 D (.lst (ms.map V.int)) = G4 at sA ⊢
    have hg4 := sA _ _ hg
    have hxs4 := sA _ _ hxs
    refine ⟨_, rfl, pb, _, rfl, .inr (SqT.of hg4), _, rfl, a, xs, rfl, .inr (SqT.of hxs4), rfl, _, rfl, ?_⟩
    rw [show (!decide (V.int ((ps.map V.int).length : Int) = V.int (xs.length : Int))) = false by rw [dI, List.length_map, lx, O.len, decide_eq_true rfl]; rfl]
    refine iteF ?_
    have sG4 := sA
    have hp4 := sA _ _ hp
    have hys4 := sA _ _ hys
    have pxs4 := prs_map sA pxs
    have pys4 := prs_map sA pys
    have lp : ps.length = ws.length := O.len
    have ez : (ws.zip ps).take xs.length = ws.zip ps := List.take_of_length_le (by rw [List.length_zip]; omega)
    have lzp : (ws.zip ps).length ≤ 1000 := by rw [List.length_zip]; omega
    refine next_reads ?_
    refine ⟨_, rfl, o, rfl, ⟨_, SqT.of hys4⟩, ?_⟩
    refine for_it (walk_tup (K := K) (a := o) (xs := ys)) (fun i σ G' => ∃ (x6 x7 x8 x9 x10 x11 : Option V), σ = [some (.ref a), some (.ref o), some (.ref pa), some (.ref pb), some (.ref M), some (.int (sumC (os.take i) ms)), x6, x7, x8, x9, x10, x11] ∧ Same G4 G') ⟨_, _, _, _, _, _, rfl, Same.refl _⟩ ?_ ?_ ?_
    · rintro i σ G' _ ⟨_, _, _, _, _, _, rfl, s5⟩
      exact SqT.of (s5 _ _ hys4)
    · rintro i x σ G5 G6 hi ⟨x6, x7, x8, x9, x10, x11, rfl, s5⟩ ⟨rfl, hx⟩
      obtain ⟨p, t, hpi, rfl, ht⟩ := prs_at pys4 hx
      have step : sumC (os.take (i + 1)) ms = sumC (os.take i) ms + (if p.1 ∈ ms then p.2 else 0) := by
        unfold sumC
        rw [filt_step hpi, List.map_append, List.sum_append]
        congr 1
        by_cases c : p.1 ∈ ms
        · rw [if_pos (decide_eq_true c), if_pos c]; exact List.sum_singleton
        · rw [if_neg (by rw [decide_eq_false c]; decide), if_neg c]; rfl
      refine ⟨t, _, rfl, Vz.sqT_same s5 ht, rfl, _, _, rfl, _, _, rfl, rfl, ?_⟩
      refine ⟨_, rfl, _, rfl, pa, _, rfl, .inr (SqT.of (s5 _ _ hp4)), rfl, ints_flat _, _, rfl, ?_⟩
      rw [if_neg (by decide), inV_ints]
      refine join_asg (.int (sumC (os.take i) ms)) rfl (.int (sumC (os.take i) ms + p.2)) (fun R r => ⟨_, rfl, _, rfl, _, _, rfl, rfl, r⟩) ?_
      have et : (if decide (p.1 ∈ ms) = true then V.int (sumC (os.take i) ms + p.2) else V.int (sumC (os.take i) ms)) = V.int (sumC (os.take (i + 1)) ms) := by
        rw [step]
        by_cases c : p.1 ∈ ms
        · rw [if_pos (decide_eq_true c), if_pos c]
        · rw [if_neg (by rw [decide_eq_false c]; decide), if_neg c, Int.add_zero]
      rw [et]
      refine ⟨_, rfl, a, xs, rfl, SqT.of (s5 _ _ hxs4), fun D3 nD3 => ?_⟩
      refine lc_it (Vz.walk_en (K := K) (k0 := 0) (a := a) (xs := xs)) (fun i' H' => H' D3 = some (.lst (((((ws.zip ps).take i').filter (loadF p.1)).map (·.2)).map V.int)) ∧ ∀ c u, c ≠ D3 → G6 c = some u → H' c = some u) ⟨upd_same, fun c u n e => by rw [upd_ne n]; exact e⟩ ?_ ?_ ?_
      · rintro j H' _ ⟨_, kp⟩
        exact SqT.of (kp _ _ (ne_of (s5 _ _ hxs4) nD3).symm (s5 _ _ hxs4))
      · rintro j x H3 H4 hj ⟨hD, kp⟩ ⟨t', k', y, rfl, nt, rfl, ek, ey⟩
        cases ek
        have ey : xs[j]? = some y := ey
        obtain ⟨pw', t2, hpw, rfl, hq⟩ := prs_at pxs4 ey
        obtain ⟨m, hm⟩ : ∃ m, ps[j]? = some m := ⟨_, List.getElem?_eq_getElem (by have := (List.getElem?_eq_some_iff.mp hpw).1; omega)⟩
        have hz : (ws.zip ps)[j]? = some (pw', m) := by rw [List.getElem?_zip_eq_some]; exact ⟨hpw, hm⟩
        have sT := same_new (o := .tup [.int (0 + (j : Nat)), .ref t2]) nt
        have sG : Same G6 H3 := fun c u e => kp c u (ne_of e nD3).symm e
        have sC := (s5.trans sG).trans sT
        have hD4 := sT _ _ hD
        have kp4 : ∀ c u, c ≠ D3 → G6 c = some u → (upd H3 t' (.tup [.int (0 + (j : Nat)), .ref t2])) c = some u := fun c u n e => sT _ _ (kp c u n e)
        refine ⟨t', _, rfl, SqT.of upd_same, rfl, _, _, rfl, _, _, rfl, rfl, rfl, ?_⟩
        generalize upd H3 t' (.tup [.int (0 + (j : Nat)), .ref t2]) = H4 at sC hD4 kp4 ⊢
        refine ⟨_, rfl, t2, _, 0, _, rfl, rfl, Vz.sqT_same sC hq, rfl, _, rfl, pw'.1, p.1, rfl, rfl, ?_⟩
        refine ⟨_, rfl, ?_⟩
        rw [filt_step (f := loadF p.1) hz]
        have fw := filt_few (f := loadF p.1) j lzp
        by_cases c1 : pw'.1 ≤ p.1
        · rw [show decide (pw'.1 ≤ p.1) = true from decide_eq_true c1]
          rw [if_pos rfl]
          refine ⟨_, rfl, t2, _, 1, _, rfl, rfl, Vz.sqT_same sC hq, rfl, p.1, pw'.2, rfl, rfl, _, rfl, ?_⟩
          dsimp only
          by_cases c2 : p.1 < pw'.2
          · rw [decide_eq_true c2, if_pos rfl]
            refine ⟨_, rfl, _, rfl, pb, _, _, .int m, rfl, rfl, SqT.of (sC _ _ hg4), ?_, ?_⟩
            · rw [show ((0 : Int) + (j : Nat)) = ((j : Nat) : Int) by omega]
              exact at_nat (by rw [List.getElem?_map, hm]; rfl)
            refine ⟨_, hD4, by rw [List.length_map, List.length_map, sizeLine_eq]; omega, ?_, fun c u n e => by rw [upd_ne n]; exact kp4 c u n e⟩
            rw [upd_same, if_pos (by unfold loadF; rw [decide_eq_true c1, decide_eq_true c2]; rfl), List.map_append, List.map_append]; rfl
          · rw [decide_eq_false c2, if_neg (by decide)]
            refine ⟨?_, kp4⟩
            rw [if_neg (by unfold loadF; rw [decide_eq_false c2, Bool.and_false]; decide), List.append_nil]
            exact hD4
        · rw [show decide (pw'.1 ≤ p.1) = false from decide_eq_false c1]
          rw [if_neg (by decide)]
          refine ⟨_, rfl, ?_⟩
          dsimp only
          rw [if_neg (by decide)]
          refine ⟨?_, kp4⟩
          rw [if_neg (by unfold loadF; rw [decide_eq_false c1, Bool.false_and]; decide), List.append_nil]
          exact hD4
      · rintro H3 ⟨hD, kp⟩
        rw [ez] at hD
        have sG : Same G6 H3 := fun c u e => kp c u (ne_of e nD3).symm e
        refine nil_reads ?_
        refine ⟨D3, _, rfl, SqL.of hD, _, rfl, _, _, rfl, rfl, _, rfl, ?_⟩
        rw [← loadL_filt]
        have le := O.load p (List.mem_of_getElem? hpi)
        rw [show decide (p.2 < loadL (ws.zip ps) p.1) = false from decide_eq_false (by omega)]
        refine iteF ?_
        exact ⟨_, _, _, _, _, _, rfl, s5.trans sG⟩
    · rintro σ G5 ⟨x6, x7, x8, x9, x10, x11, rfl, s5⟩
      rw [show os.take ys.length = os from List.take_of_length_le (by omega)]
      have hxs5 := s5 _ _ hxs4
      have hys5 := s5 _ _ hys4
      have hp5 := s5 _ _ hp4
      have hg5 := s5 _ _ hg4
      have pxs5 := prs_map s5 pxs4
      have pys5 := prs_map s5 pys4
      refine ⟨_, rfl, a, xs, rfl, SqT.of hxs5, ?_⟩
      refine for_it (Vz.walk_en (K := K) (k0 := 0) (a := a) (xs := xs)) (fun i σ G => ∃ x6 x7 x8 x9 x10 x11 : Option V, σ = [some (.ref a), some (.ref o), some (.ref pa), some (.ref pb), some (.ref M), some (.int (sumC os ms)), x6, x7, x8, x9, x10, x11] ∧ Same G5 G) ⟨_, _, _, _, _, _, rfl, Same.refl _⟩ ?_ ?_ ?_
      · rintro i σ G' _ ⟨_, _, _, _, _, _, rfl, s6⟩
        exact SqT.of (s6 _ _ hxs5)
      · rintro i x σ G6 G7 hi ⟨x6, x7, x8, x9, x10, x11, rfl, s6⟩ ⟨t, k', y, rfl, nt, rfl, ek, ey⟩
        cases ek
        have ey : xs[i]? = some y := ey
        obtain ⟨p, t2, hpi, rfl, hq⟩ := prs_at pxs5 ey
        obtain ⟨m, hm⟩ : ∃ m, ps[i]? = some m := ⟨_, List.getElem?_eq_getElem (by have := (List.getElem?_eq_some_iff.mp hpi).1; omega)⟩
        have s7 := s6.trans (same_new (o := .tup [.int (0 + (i : Nat)), .ref t2]) nt)
        refine ⟨t, _, rfl, SqT.of upd_same, rfl, _, _, rfl, _, _, rfl, rfl, ?_⟩
        generalize upd G6 t (.tup [.int (0 + (i : Nat)), .ref t2]) = G8 at s7 ⊢
        refine ⟨_, rfl, _, rfl, ?_⟩
        refine nil_reads ?_
        refine ⟨t2, o, p.1, p.2, ys, os, rfl, Vz.sqT_same s7 hq, SqT.of (s7 _ _ hys5), prs_map s7 pys5, by omega, fun G9 R s8 hR => ?_⟩
        refine gname_reads ?_
        have s9 := s7.trans s8
        have m0 : 0 ≤ m := O.nn m (List.mem_of_getElem? hm)
        refine ⟨_, rfl, _, rfl, pb, _, _, .int m, rfl, rfl, SqT.of (s9 _ _ hg5), ?_, m, 0, rfl, rfl, _, rfl, ?_⟩
        · rw [show ((0 : Int) + (i : Nat)) = ((i : Nat) : Int) by omega]
          exact at_nat (by rw [List.getElem?_map, hm]; rfl)
        rw [show decide (m < 0) = false from decide_eq_false (by omega)]
        refine iteF ?_
        have po_ : m > 0 → insL p.1 p.2 os ≠ [] := fun z => O.sup i p m hpi hm (by omega)
        refine ⟨_, rfl, (by show 0 ≤ sizeLine; decide), fun p3 n3 => ?_⟩
        have z3 := same_new (o := .lst []) n3
        refine ⟨.list ((insL p.1 p.2 os).map PyData.int), .list [], .lst (SqL.of (z3 _ _ hR)) (dpAllI _), .lst (SqL.of upd_same) .nil, shaped_intsL _, shaped_intsL [], _, rfl, ?_⟩
        have eq0 : PyData.eqv (.list ((insL p.1 p.2 os).map PyData.int)) (.list []) = (insL p.1 p.2 os).isEmpty := by
          rw [show PyData.eqv (.list ((insL p.1 p.2 os).map PyData.int)) (.list []) = decide (insL p.1 p.2 os = []) from eqv_lists _ []]
          rw [Bool.eq_iff_iff, decide_eq_true_iff, List.isEmpty_iff]
        rw [eq0]
        have s10 := s9.trans z3
        have hR10 := z3 _ _ hR
        generalize upd G9 p3 (.lst []) = G10 at s10 hR10 ⊢
        cases ee : (insL p.1 p.2 os).isEmpty with
        | true =>
          refine iteT ?_
          have mz : ¬ m > 0 := fun z => po_ z (List.isEmpty_iff.mp ee)
          refine ⟨_, rfl, _, rfl, pb, _, _, .int m, rfl, rfl, SqT.of (s10 _ _ hg5), ?_, m, 0, rfl, rfl, _, rfl, ?_⟩
          · rw [show ((0 : Int) + (i : Nat)) = ((i : Nat) : Int) by omega]
            exact at_nat (by rw [List.getElem?_map, hm]; rfl)
          rw [show decide ((0 : Int) < m) = false from decide_eq_false mz]
          refine iteF ?_
          refine next_reads ?_
          refine ⟨_, rfl, (by show 0 ≤ sizeLine; decide), fun p4 n4 => ?_⟩
          have z4 := same_new (o := .lst []) n4
          refine ⟨R, p4, _, rfl, rfl, SqL.of (z4 _ _ hR10), SqL.of upd_same, _, rfl, ?_⟩
          rw [show (((insL p.1 p.2 os).map V.int).isEmpty) = true by rw [List.isEmpty_iff.mp ee]; rfl]
          refine iteF ?_
          refine iteF ?_
          exact ⟨_, _, _, _, _, _, rfl, s10.trans z4⟩
        | false =>
          refine iteF ?_
          refine iteF ?_
          refine next_reads ?_
          refine ⟨_, rfl, (by show 0 ≤ sizeLine; decide), fun p4 n4 => ?_⟩
          have z4 := same_new (o := .lst []) n4
          have hR11 := z4 _ _ hR10
          have s11 := s10.trans z4
          refine ⟨R, p4, _, rfl, rfl, SqL.of hR11, SqL.of upd_same, _, rfl, ?_⟩
          rw [show (((insL p.1 p.2 os).map V.int).isEmpty) = false by
            cases e : insL p.1 p.2 os with
            | nil => rw [e] at ee; cases ee
            | cons _ _ => rfl]
          generalize upd G10 p4 (.lst []) = G11 at hR11 s11 ⊢
          refine iteT ?_
          have li : (insL p.1 p.2 os).length ≤ 1000 := by
            have := List.length_filter_le (fun m => decide (p.1 ≤ m) && decide (m < p.2)) (os.map (·.1))
            rw [List.length_map] at this
            unfold insL
            omega
          refine ⟨_, rfl, R, rfl, ⟨_, SqL.of hR11⟩, fun D nD => ?_⟩
          refine lc_it (walk_list (K := K) (a := R) (xs := (insL p.1 p.2 os).map V.int)) (fun i H' => H' = upd G11 D (.lst ((((insL p.1 p.2 os).take i).filter (fun m => decide (m ∈ ms))).map V.int))) rfl ?_ ?_ ?_
          · rintro i H' _ rfl
            exact SqL.of (same_new nD _ _ hR11)
          · rintro i x H7 H8 hi rfl ⟨rfl, hx⟩
            rw [List.getElem?_map] at hx
            obtain ⟨m, hm, rfl⟩ := Option.map_eq_some_iff.mp hx
            have s6 := same_new (o := .lst ((((insL p.1 p.2 os).take i).filter (fun m => decide (m ∈ ms))).map V.int)) nD
            refine ⟨rfl, ?_⟩
            refine ⟨_, rfl, _, rfl, pa, _, rfl, .inr (SqT.of (s6 _ _ (s11 _ _ hp5))), rfl, ints_flat _, _, rfl, ?_⟩
            have fw := filt_few (f := fun m => decide (m ∈ ms)) i li
            rw [if_neg (by decide), inV_ints]
            rw [filt_step (f := fun m => decide (m ∈ ms)) hm]
            refine ite2 (fun c => ?_) (fun c => ?_)
            · refine ⟨_, rfl, _, upd_same, by rw [List.length_map, sizeLine_eq]; omega, ?_⟩
              rw [upd_upd, if_pos c, List.map_append]; rfl
            · rw [if_neg c, List.append_nil]
          rintro G12 rfl
          rw [List.length_map, List.take_length]
          have z12 := same_new (o := .lst (((insL p.1 p.2 os).filter (fun m => decide (m ∈ ms))).map V.int)) nD
          have h12 := upd_same (H := G11) (a := D) (o := .lst (((insL p.1 p.2 os).filter (fun m => decide (m ∈ ms))).map V.int))
          generalize upd G11 D (.lst (((insL p.1 p.2 os).filter (fun m => decide (m ∈ ms))).map V.int)) = G12 at z12 h12 ⊢
          refine ⟨(by show 0 ≤ sizeLine; decide), fun p5 n5 => ?_⟩
          have z5 := same_new (o := .lst []) n5
          refine ⟨.list (((insL p.1 p.2 os).filter (fun m => decide (m ∈ ms))).map PyData.int), .list [], .lst (SqL.of (z5 _ _ h12)) (dpAllI _), .lst (SqL.of upd_same) .nil, shaped_intsL _, shaped_intsL [], _, rfl, ?_⟩
          rw [show PyData.eqv (.list (((insL p.1 p.2 os).filter (fun m => decide (m ∈ ms))).map PyData.int)) (.list []) = decide (((insL p.1 p.2 os).filter (fun m => decide (m ∈ ms))) = []) from eqv_lists _ []]
          rw [decide_eq_false (by
            obtain ⟨y, hy, a1, a2⟩ := O.hit p (List.mem_of_getElem? hpi) (fun z => by rw [z] at ee; cases ee)
            intro z
            have mi : y ∈ (insL p.1 p.2 os).filter (fun m => decide (m ∈ ms)) := by
              refine List.mem_filter.mpr ⟨?_, decide_eq_true hy⟩
              unfold insL
              refine List.mem_filter.mpr ⟨O.sub y hy, ?_⟩
              rw [decide_eq_true a1, decide_eq_true a2]; rfl
            rw [z] at mi
            cases mi)]
          refine iteF ?_
          exact ⟨_, _, _, _, _, _, rfl, (s11.trans z12).trans z5⟩
      · rintro σ G6 ⟨x6, x7, x8, x9, x10, x11, rfl, s6⟩
        have sB := s5.trans s6
        have gW6 := (gW.same sG4).same sB
        have gO6 := (gO.same sG4).same sB
        have hp6 := sB _ _ hp4
        have hg6 := sB _ _ hg4
        have lms : ms.length ≤ 12 := by
          have := List.length_filter_le (fun m => decide (m ∈ ms)) (os.map (·.1))
          rw [em, List.length_map] at this
          omega
        refine ⟨_, rfl, pb, ps, rfl, SqT.of hg6, _, rfl, rfl, _, rfl, ?_⟩
        rw [O.cost, show decide (V.int ps.sum = V.int ps.sum) = true from decide_eq_true rfl]
        refine iteF ?_
        refine ⟨_, rfl, _, rfl, _, rfl, _, rfl, ?_⟩
        refine nil_reads ?_
        refine ⟨a, .ref a, .ref o, .ref pa, .ref pb, rfl, thg2_ints hp6, thg2_ints hg6, few_ints hp6 lms, few_ints hg6 (by omega), chk_right a gW6 gO6 fun xs' ys' m1 m2 rw' ro' => ⟨by omega, by omega, ws, os, rawp_prs rw', rawp_prs ro', go.2, fun p hp => (gw p hp).2, fun G7 s7 => ?_⟩⟩
        rw [show_opt gw go O hp6 hg6]
        refine ⟨true, true, rfl, rfl, _, rfl, ?_⟩
        refine iteF ?_
        exact ⟨_, rfl, q _ _ (((s1.trans sG4).trans sB).trans s7) (opt_least O)⟩
end
end Toy
set_option Elab.async false
set_option linter.all false
set_option maxRecDepth 100000
set_option maxHeartbeats 1000000
namespace Toy
open PySem PySem.Spec PyProof.Rows L2
theorem rawp_erase {H : Hp} : ∀ {zs : List V} {ps : List (Int × Int)} (k : Nat), RawP H zs ps → RawP H (zs.eraseIdx k) (ps.eraseIdx k)
  | [], [], _, _ => True.intro
  | _ :: _, _ :: _, 0, ⟨_, r⟩ => r
  | _ :: _, _ :: _, k + 1, ⟨a, r⟩ => ⟨a, rawp_erase k r⟩
theorem rawp_get {H : Hp} : ∀ {zs : List V} {ps : List (Int × Int)} {k : Nat} {z : V}, RawP H zs ps → zs[k]? = some z → ∃ p, ps[k]? = some p ∧ ∃ t, z = .ref t ∧ H t = some (.tup [.int p.1, .int p.2])
  | _ :: _, p :: _, 0, z, ⟨a, _⟩, h => ⟨p, rfl, by cases h; exact a⟩
  | _ :: _, _ :: _, k + 1, z, ⟨_, r⟩, h => rawp_get r (k := k) h
theorem erase_len {α : Type} {l : List α} {k : Nat} (h : k < l.length) : (l.eraseIdx k).length = l.length - 1 := by
  rw [List.length_eraseIdx, if_pos h]
theorem perm_erase {α : Type} : ∀ (l : List α) (k : Nat) (h : k < l.length), (l[k] :: l.eraseIdx k).Perm l
  | x :: l, 0, _ => .refl _
  | x :: l, k + 1, h => (List.Perm.swap x _ _).trans ((perm_erase l k (Nat.lt_of_succ_lt_succ h)).cons x)
section
variable {P : Program} {w : World} {K : PySem.W.Frag} {mg : Str → Option Value} {base : Heap}
def sp__law_turned (K : PySem.W.Frag) : Sp := fun vs H Q _ => ∃ (d t : Addr) (xs : List V) (ws : List (Int × Int)) (n : Int), vs = [.ref d, .ref t] ∧ Draw H d n ∧ n ≤ 100000000 ∧ H t = some (.tup xs) ∧ RawP H xs ws ∧ ws.length ≤ 63 ∧
  ∀ H' r ys vs, Keep d H H' → Draw H' d (n + ws.length) → H' r = some (.tup ys) → RawP H' ys vs → vs.Perm ws → Q (.ref r) H'
theorem ok__law_turned (T : Txt K mg) : FnOk P w K mg base CX0 3 T.a__law_turned T.d__law_turned ["draw", "items"] (sp__law_turned K) := by
  refine T.F__law_turned.ok sc__law_turned (fun vs H Q E h => ?_) (fun cdv A outer s H vs Q E hr h => ?_)
  · obtain ⟨d, t, xs, ws, n, rfl, _⟩ := h; rfl
  · obtain ⟨d, t, xs, ws, n, rfl, D0, hn, ht, rx, lw, q⟩ := h
    have lx := rawp_len rx
    obtain ⟨kvs, hd⟩ := D0.dic
    refine ⟨_, (pss_cons (ps_par (i := 2) (j := 3) (by rfl) sc__law_turned.nd rfl rfl (by decide) rfl rfl (pa_cons (pe_callTy call_list_of (by rfl) T.z_list (by decide +kernel) (pa_cons (pv 1) pa_nil)) (pa_cons (pe_lst pa_nil) pa_nil)) (by rfl))
        (pss_cons (ps_while PassesOwn.never (pt_cmpR (Vz.op_neNil (by have := hr.units; exact this)) (pv 2) (pe_lst pa_nil) (nomark _)) (pss_one (ps_expr (pe_bm PySem.F.plainAttrs_list PySem.F.slot_list_append PySem.F.type_list_append mt_append (pv 3) (pa_cons (pe_bm PySem.F.plainAttrs_list PySem.F.slot_list_pop PySem.F.type_list_pop mt_popAt (pv 2) (pa_cons (pe_call (ok__law_next T) (hr.mono (by decide)) (by rfl) T.g__law_next T.F__law_next.kp T.b__law_next .nil pass0 (pa_cons (pv 0) (pa_cons (pe_callB call_len_seq (by rfl) T.z_len PySem.boot_len (pa_cons (pv 2) pa_nil)) pa_nil))) pa_nil)) pa_nil)))))
        (pss_one (ps_ret (pe_tupleOf (by rfl) T.z_tuple (pv 3)))))), ?_⟩
    refine ⟨_, rfl, t, _, rfl, .inr (SqT.of ht), fun R nR => ?_⟩
    have nRd := ne_of hd nR
    have s1 := same_new (o := .lst xs) nR
    have hR := upd_same (H := H) (a := R) (o := .lst xs)
    have r1 := rawp_map (fun _ _ h => s1 _ _ h) rx
    have D1 := D0.same s1
    generalize upd H R (.lst xs) = H1 at s1 hR r1 D1 ⊢
    refine ⟨(by show 0 ≤ sizeLine; decide), fun F nF => ?_⟩
    have nFR := ne_of hR nF
    have s2 := same_new (o := .lst []) nF
    have nFd := ne_of (s1 _ _ hd) nF
    have hF := upd_same (H := H1) (a := F) (o := .lst [])
    have r2 := rawp_map (fun _ _ h => s2 _ _ h) r1
    have D2 := D1.same s2
    have hR2 := s2 _ _ hR
    have sA := s1.trans s2
    generalize upd H1 F (.lst []) = H2 at s2 hF hR2 r2 D2 sA ⊢
    have fR : H R = none := nR
    have fF : H F = none := by
      cases e : H F with
      | none => rfl
      | some u => rw [s1 _ _ e] at nF; cases nF
    refine ⟨_, _, rfl, ?_⟩
    refine while_ex (fun σ G => ∃ (zs fs : List V) (vz vf : List (Int × Int)), σ = [some (.ref d), some (.ref t), some (.ref R), some (.ref F)] ∧ G R = some (.lst zs) ∧ G F = some (.lst fs) ∧ RawP G zs vz ∧ RawP G fs vf ∧ (vf ++ vz).Perm ws ∧ Keep d H G ∧ Draw G d (n + vf.length))
      (fun σ G => match G R with
        | some (.lst zs) => zs.length
        | _ => 0) (fun σ G => ∃ (fs : List V) (vf : List (Int × Int)), σ = [some (.ref d), some (.ref t), some (.ref R), some (.ref F)] ∧ G F = some (.lst fs) ∧ RawP G fs vf ∧ vf.Perm ws ∧ Keep d H G ∧ Draw G d (n + vf.length)) ⟨xs, [], ws, [], rfl, hR2, hF, r2, True.intro, .refl _, Keep.of sA, D2.more (by show n ≤ n + ((0 : Nat) : Int); omega)⟩ ?_ ?_
    · rintro σ G ⟨zs, fs, vz, vf, rfl, gR, gF, rz, rf, pm, kp, DG⟩ RR rt rfa
      have lz := rawp_len rz
      have lf := rawp_len rf
      have lpm := pm.length_eq
      rw [List.length_append] at lpm
      refine ⟨_, rfl, (by show 0 ≤ sizeLine; decide), fun p4 n4 => ?_⟩
      have z4 := same_new (o := .lst []) n4
      have gR4 := z4 _ _ gR
      have gF4 := z4 _ _ gF
      have rz4 := rawp_map (fun _ _ h => z4 _ _ h) rz
      have rf4 := rawp_map (fun _ _ h => z4 _ _ h) rf
      have D4 := DG.same z4
      have kp4 : Keep d H (upd G p4 (.lst [])) := fun b u ne e => z4 _ _ (kp b u ne e)
      refine ⟨R, p4, _, rfl, rfl, SqL.of gR4, SqL.of upd_same, _, rfl, ?_⟩
      generalize upd G p4 (.lst []) = G4 at gR4 gF4 rz4 rf4 D4 kp4 ⊢
      have eμ : (match G R with
        | some (.lst zs) => zs.length
        | _ => 0) = zs.length := by rw [gR]
      rw [eμ] at rt
      cases zs with
      | nil =>
        refine rfa _ ⟨fs, vf, rfl, gF4, rf4, ?_, kp4, D4⟩
        cases vz with
        | nil => rw [List.append_nil] at pm; exact pm
        | cons _ _ => cases lz
      | cons z0 zs0 =>
        have l0 : 0 < (z0 :: zs0).length := Nat.succ_pos _
        rw [show (!(z0 :: zs0).isEmpty) = true from rfl]
        generalize z0 :: zs0 = zs at *
        refine rt _ ?_
        refine ⟨_, rfl, .inl ⟨rfl, _, SqL.of gF4⟩, ?_⟩
        refine ⟨_, rfl, .inl ⟨rfl, _, SqL.of gR4⟩, ?_⟩
        refine ⟨_, rfl, _, rfl, R, _, rfl, .inl (SqL.of gR4), ?_⟩
        refine nil_reads ?_
        refine ⟨d, zs.length, n + vf.length, rfl, D4, by omega, by omega, by omega, fun G5 k kp5 D5 k0 k1 => ?_⟩
        have kk : k.toNat < zs.length := by omega
        have gR5 := kp5 _ _ nRd gR4
        have gF5 := kp5 _ _ nFd gF4
        have rz5 := rawp_keep D4 kp5 rz4
        have rf5 := rawp_keep D4 kp5 rf4
        refine nil_reads ?_
        obtain ⟨p, hp, tp, ez, htp⟩ := rawp_get rz5 (List.getElem?_eq_getElem kk)
        refine ⟨R, zs, k, k.toNat, zs[k.toNat], rfl, rfl, gR5, by omega, by omega, ?_, List.getElem?_eq_getElem kk, ?_⟩
        · have e : (if k < 0 then k + (zs.length : Int) else k) = k := if_neg (by omega)
          unfold seqIndex?
          simp only [e]
          rw [if_pos (by rw [Bool.and_eq_true_iff]; exact ⟨decide_eq_true k0, decide_eq_true k1⟩)]
        refine nil_reads ?_
        have gF6 : (upd G5 R (.lst (zs.eraseIdx k.toNat))) F = some (.lst fs) := by rw [upd_ne nFR]; exact gF5
        refine ⟨F, _, _, rfl, rfl, gF6, by rw [sizeLine_eq]; omega, ?_⟩
        have hR7 : (upd (upd G5 R (.lst (zs.eraseIdx k.toNat))) F (.lst (fs ++ [zs[k.toNat]]))) R = some (.lst (zs.eraseIdx k.toNat)) := by rw [upd_ne nFR.symm, upd_same]
        have one : RawP G5 [zs[k.toNat]] [p] := ⟨⟨tp, ez, htp⟩, True.intro⟩
        refine ⟨⟨_, _, vz.eraseIdx k.toNat, vf ++ [p], rfl, hR7, upd_same, rawp_put gF6 (rawp_put gR5 (rawp_erase _ rz5)), rawp_put gF6 (rawp_put gR5 (rawp_app rf5 one)), ?_, fun b u ne e => ?_, ?_⟩, ?_⟩
        · have kv : k.toNat < vz.length := by omega
          obtain ⟨_, ep⟩ := List.getElem?_eq_some_iff.mp hp
          rw [List.append_assoc]
          refine .trans (.append_left vf ?_) pm
          rw [← ep]
          exact perm_erase _ _ kv
        · rw [upd_ne (fun z => by rw [z, fF] at e; cases e), upd_ne (fun z => by rw [z, fR] at e; cases e)]
          exact kp5 _ _ ne (kp4 b u ne e)
        · exact ((D5.putP gR5 rz5 nRd).putP gF6 (rawp_put gR5 rf5) nFd).more (by rw [List.length_append, List.length_singleton]; omega)
        · rw [hR7]
          show (zs.eraseIdx k.toNat).length < zs.length
          rw [erase_len kk]
          omega
    · rintro σ G ⟨fs, vf, rfl, gF, rf, pm, kp, DG⟩
      refine ⟨_, rfl, ?_⟩
      refine .inl ⟨F, _, rfl, SqL.of gF, fun r nr => ?_⟩
      have zr := same_new (o := .tup fs) nr
      have ll := pm.length_eq
      exact q _ r fs vf (fun b u ne e => zr _ _ (kp b u ne e)) (by rw [← ll]; exact DG.same zr) upd_same (rawp_map (fun _ _ h => zr _ _ h) rf) pm
end
end Toy
set_option Elab.async false
set_option linter.all false
set_option maxRecDepth 100000
set_option maxHeartbeats 1000000
namespace Toy
open PySem PySem.Spec PyProof.Rows L2
theorem GW.keep {d : Addr} {H H' : Hp} {n : Int} {a : Addr} {ws : List (Int × Int)} (h : GW H a ws) (D : Draw H d n) (k : Keep d H H') : GW H' a ws := by
  obtain ⟨xs, h1, h2, h3⟩ := h
  obtain ⟨kvs, hd⟩ := D.dic
  exact ⟨xs, k _ _ (fun z => by rw [z, hd] at h1; cases h1) h1, rawp_keep D k h2, h3⟩
theorem GO.keep {d : Addr} {H H' : Hp} {n : Int} {a : Addr} {ws : List (Int × Int)} (h : GO H a ws) (D : Draw H d n) (k : Keep d H H') : GO H' a ws := by
  obtain ⟨xs, h1, h2, h3⟩ := h
  obtain ⟨kvs, hd⟩ := D.dic
  exact ⟨xs, k _ _ (fun z => by rw [z, hd] at h1; cases h1) h1, rawp_keep D k h2, h3⟩
def dP (p : Int × Int) : PyData := .tuple [.int p.1, .int p.2]
theorem dpP {K : PySem.W.Frag} {H : Hp} : ∀ {ys : List V} {os : List (Int × Int)}, RawP H ys os → DpAll K H ys (os.map dP)
  | [], [], _ => .nil
  | _ :: _, p :: _, ⟨⟨t, e, h⟩, r⟩ => by
    subst e
    exact .cons (.tup (SqT.of h) (.cons (.int _) (.cons (.int _) .nil))) (dpP r)
theorem shapedP (os : List (Int × Int)) : SeqAt.shaped (.tuple (os.map dP)) = true := by
  have h : PyData.canLayAll0 (os.map dP) = true ∧ PyData.depthAll (os.map dP) ≤ 1 := by
    induction os with
    | nil => exact ⟨rfl, Nat.zero_le _⟩
    | cons p os ih =>
      obtain ⟨a, b⟩ := ih
      refine ⟨?_, ?_⟩
      · simp only [List.map_cons, PyData.canLayAll0, a, dP, PyData.canLay0, Bool.true_and]
      · simp only [List.map_cons, PyData.depthAll, dP, PyData.depth]
        omega
  obtain ⟨a, b⟩ := h
  unfold SeqAt.shaped
  simp only [PyData.canLay0, PyData.depth, a, Bool.true_and]
  exact decide_eq_true (by omega)
theorem eqvP (os : List (Int × Int)) : PyData.eqv (.tuple (os.map dP)) (.tuple []) = os.isEmpty := by
  cases os with
  | nil => rfl
  | cons p os =>
    show PyData.eqvAll (dP p :: os.map dP) [] = false
    simp [PyData.eqvAll]
theorem seq_join {A rest : TS} {D : Ends} {σ : L2.St} {H : Hp} (Pv : Hp → Prop) (h : ∀ D' : Ends, (∀ H', Pv H' → D'.nx σ H') → A D' σ H) (q : ∀ H', Pv H' → rest D σ H') : tSeq A rest D σ H := h _ q
theorem seq_any {A rest : TS} {D : Ends} {σ : L2.St} {H : Hp} (Pv : L2.St → Hp → Prop) (h : ∀ D' : Ends, (∀ σ' H', Pv σ' H' → D'.nx σ' H') → A D' σ H) (q : ∀ σ' H', Pv σ' H' → rest D σ' H') : tSeq A rest D σ H := h _ q
section
variable {P : Program} {w : World} {K : PySem.W.Frag} {mg : Str → Option Value} {base : Heap}
def sp_law (K : PySem.W.Frag) : Sp := fun vs H Q _ => ∃ (a : Addr) (ns : List Int), vs = [.ref a] ∧ SqL K H a (ns.map V.int) ∧ ns.length ≤ 63 ∧ ∀ H', Q (.bl true) H'
theorem law_in (K : PySem.W.Frag) (H : Hp) (a : Addr) (ns : List Int) (hl : ns.length ≤ 63) (hO : Only H) (hS : SqL K H a (ns.map V.int)) : sp_law K [.ref a] H (fun v _ => v = .bl true) E0 :=
  ⟨a, ns, rfl, hS, hl, fun _ => rfl⟩
theorem ok_law (T : Txt K mg) : Vz.FnG P w K mg base CX0 7 T.a_law T.d_law ["script"] (sp_law K) := by
  refine Vz.Fun.okG T.F_law sc_law (fun vs H Q E h => ?_) (fun cdv A outer s H vs Q E gd hr h => ?_)
  · obtain ⟨a, ns, rfl, _⟩ := h; rfl
  · obtain ⟨a, ns, rfl, hS, hl, q⟩ := h
    refine ⟨_, (pss_cons (ps_set (i := 1) sc_law.nd rfl (by first | exact Or.inl rfl | exact Or.inr rfl) (pe_call (ok__law_begin T) (hr.mono (by decide)) (by rfl) T.g__law_begin T.F__law_begin.kp T.b__law_begin .nil pass0 (pa_cons (pv 0) pa_nil)))
        (pss_cons (ps_for PassesOwn.never rfl (pi_range1 (by rfl) T.z_range (pa_cons (pe_op op_add pe_int (pe_callB (call_min2 rfl) (by rfl) T.z_min (by decide +kernel) (pa_cons pe_int (pa_cons (pe_op op_fdiv (pe_callB call_len_seq (by rfl) T.z_len PySem.boot_len (pa_cons (pv 0) pa_nil)) pe_int) pa_nil)))) pa_nil)) (pg_name (i := 2) sc_law.nd rfl (by first | exact Or.inl rfl | exact Or.inr rfl)) (pss_cons (ps_asg (pe_call (ok__law_asks T) (hr.mono (by decide)) (by rfl) T.g__law_asks T.F__law_asks.kp T.b__law_asks .nil pass0 (pa_cons (pv 1) (pa_cons pe_int (pa_cons pe_int pa_nil)))) (pg_tup rfl (pgs_cons (pg_name (i := 3) sc_law.nd rfl (by first | exact Or.inl rfl | exact Or.inr rfl)) (pgs_cons (pg_name (i := 4) sc_law.nd rfl (by first | exact Or.inl rfl | exact Or.inr rfl)) pgs_nil))))
        (pss_cons (ps_set (i := 5) sc_law.nd rfl (by first | exact Or.inl rfl | exact Or.inr rfl) (pe_call (ok__law_least T) (hr.mono (by decide)) (by rfl) T.g__law_least T.F__law_least.kp T.b__law_least .nil pass0 (pa_cons (pv 3) (pa_cons (pv 4) pa_nil))))
        (pss_cons (ps_if (PW.pt (pw_or (pt_cmpR op_ne (pe_call (ok__law_cost T) (hr.mono (by decide)) (by rfl) T.g__law_cost T.F__law_cost.kp T.b__law_cost .nil pass0 (pa_cons (pv 3) (pa_cons (pv 4) pa_nil))) (pv 5) (nomark _)) (pw_or1 (pt_cmpR op_ne (pe_call (ok__law_cost T) (hr.mono (by decide)) (by rfl) T.g__law_cost T.F__law_cost.kp T.b__law_cost .nil pass0 (pa_cons (pe_call (ok__law_turned T) (hr.mono (by decide)) (by rfl) T.g__law_turned T.F__law_turned.kp T.b__law_turned .nil pass0 (pa_cons (pv 1) (pa_cons (pv 3) pa_nil))) (pa_cons (pv 4) pa_nil))) (pv 5) (nomark _))))) (pss_one (ps_ret pe_bl)) pss_nil)
        (pss_cons (ps_set (i := 6) sc_law.nd rfl (by first | exact Or.inl rfl | exact Or.inr rfl) (pe_op op_add pe_int (pe_call (ok__law_next T) (hr.mono (by decide)) (by rfl) T.g__law_next T.F__law_next.kp T.b__law_next .nil pass0 (pa_cons (pv 1) (pa_cons pe_int pa_nil)))))
        (pss_cons (ps_set (i := 7) sc_law.nd rfl (by first | exact Or.inl rfl | exact Or.inr rfl) (pe_callB (cr_max (by rfl)) (by rfl) T.z_max (by decide +kernel) (pa_cons (pe_op Vz.op_catR (pe_lst (pa_cons pe_int pa_nil)) (pe_lc (own := [("moment", 12), ("cost", 13)]) (g := gTup K 2 (gCons (gName 12) (gCons (gName 13) gNil))) (by rfl) sc_law.nd (pi_tup (pv 4)) (blkOk_by (own := [("moment", 12), ("cost", 13)]) (N := ["script", "draw", "turn", "windows", "offers", "least", "times", "most", "more", "gone", "late", "wide", "moment", "cost", "k", "window"]) (sc := defScope s_law) (by decide +kernel)) (fun _ _ _ _ _ => pg_tup rfl (pgs_cons (pg_name (i := 12) sc_law.nd rfl (Or.inl rfl)) (pgs_cons (pg_name (i := 13) sc_law.nd rfl (Or.inl rfl)) pgs_nil))) (fun _ _ _ _ _ => pts_nil) (fun _ _ _ _ _ => (pv 13)))) pa_nil)))
        (pss_cons (ps_if (pt_cmpR op_le (pe_op op_mul (pv 7) (pv 6)) pe_int (nomark _)) (pss_one (ps_if (pt_cmpR op_ne (pe_call (ok__law_cost T) (hr.mono (by decide)) (by rfl) T.g__law_cost T.F__law_cost.kp T.b__law_cost .nil pass0 (pa_cons (pv 3) (pa_cons (pe_tupleOf (by rfl) T.z_tuple (pe_lc (own := [("moment", 12), ("cost", 13)]) (g := gTup K 2 (gCons (gName 12) (gCons (gName 13) gNil))) (by rfl) sc_law.nd (pi_tup (pv 4)) (blkOk_by (own := [("moment", 12), ("cost", 13)]) (N := ["script", "draw", "turn", "windows", "offers", "least", "times", "most", "more", "gone", "late", "wide", "moment", "cost", "k", "window"]) (sc := defScope s_law) (by decide +kernel)) (fun _ _ _ _ _ => pg_tup rfl (pgs_cons (pg_name (i := 12) sc_law.nd rfl (Or.inl rfl)) (pgs_cons (pg_name (i := 13) sc_law.nd rfl (Or.inl rfl)) pgs_nil))) (fun _ _ _ _ _ => pts_nil) (fun _ _ _ _ _ => (pe_tup (pa_cons (pv 12) (pa_cons (pe_op op_mul (pv 13) (pv 6)) pa_nil)))))) pa_nil))) (pe_op op_mul (pv 5) (pv 6)) (nomark _)) (pss_one (ps_ret pe_bl)) pss_nil)) pss_nil)
        (pss_cons (ps_set (i := 8) sc_law.nd rfl (by first | exact Or.inl rfl | exact Or.inr rfl) (pe_op op_catA (pv 3) (pe_tup (pa_cons (pe_tup (pa_cons (pe_call (ok__law_next T) (hr.mono (by decide)) (by rfl) T.g__law_next T.F__law_next.kp T.b__law_next .nil pass0 (pa_cons (pv 1) (pa_cons pe_int pa_nil))) (pa_cons (pe_op op_add pe_int (pe_call (ok__law_next T) (hr.mono (by decide)) (by rfl) T.g__law_next T.F__law_next.kp T.b__law_next .nil pass0 (pa_cons (pv 1) (pa_cons pe_int pa_nil)))) pa_nil))) pa_nil))))
        (pss_cons (ps_if (PW.pt (pw_or (pt_cmpR op_ne (pe_call (ok__law_cost T) (hr.mono (by decide)) (by rfl) T.g__law_cost T.F__law_cost.kp T.b__law_cost .nil pass0 (pa_cons (pv 8) (pa_cons (pv 4) pa_nil))) (pe_call (ok__law_least T) (hr.mono (by decide)) (by rfl) T.g__law_least T.F__law_least.kp T.b__law_least .nil pass0 (pa_cons (pv 8) (pa_cons (pv 4) pa_nil))) (nomark _)) (pw_or1 (pt_cmpR op_lt (pe_call (ok__law_least T) (hr.mono (by decide)) (by rfl) T.g__law_least T.F__law_least.kp T.b__law_least .nil pass0 (pa_cons (pv 8) (pa_cons (pv 4) pa_nil))) (pv 5) (nomark _))))) (pss_one (ps_ret pe_bl)) pss_nil)
        (pss_cons (ps_asg (pe_tup (pa_cons (pe_call (ok_lost T) (hr.mono (by decide)) (by rfl) T.g_lost T.F_lost.kp T.b_lost .nil passL (pa_cons (pv 3) (pa_cons (pv 4) pa_nil))) (pa_cons (pe_ifExp (pt_cmpR (op_eqD (by have := hr.units; exact this)) (pv 4) (pe_tup pa_nil) (nomark _)) pe_int (pe_op op_add (pe_ix ix_tup (pe_ix ix_tup (pv 4) (pe_un un_neg pe_int) (fun _ _ => rfl)) pe_int (fun _ _ => rfl)) pe_int)) pa_nil))) (pg_tup rfl (pgs_cons (pg_name (i := 9) sc_law.nd rfl (by first | exact Or.inl rfl | exact Or.inr rfl)) (pgs_cons (pg_name (i := 10) sc_law.nd rfl (by first | exact Or.inl rfl | exact Or.inr rfl)) pgs_nil))))
        (pss_cons (ps_if (pt_cmpR (op_neD (by have := hr.units; exact this)) (pe_lc (own := [("k", 14), ("window", 15)]) (g := gTup K 2 (gCons (gName 14) (gCons (gName 15) gNil))) (by rfl) sc_law.nd (Vz.pi_enT (by rfl) T.z_enumerate (pa_cons (pv 3) pa_nil)) (blkOk_by (own := [("k", 14), ("window", 15)]) (N := ["script", "draw", "turn", "windows", "offers", "least", "times", "most", "more", "gone", "late", "wide", "moment", "cost", "k", "window"]) (sc := defScope s_law) (by decide +kernel)) (fun _ _ _ _ _ => pg_tup rfl (pgs_cons (pg_name (i := 14) sc_law.nd rfl (Or.inl rfl)) (pgs_cons (pg_name (i := 15) sc_law.nd rfl (Or.inl rfl)) pgs_nil))) (fun _ _ _ _ _ => (pts_one (pt_cmpR (Vz.op_eqDK (K := K) rfl (by have := hr.units; exact this)) (pe_call (ok__law_inside T) (hr.mono (by decide)) (by rfl) T.g__law_inside T.F__law_inside.kp T.b__law_inside .nil pass0 (pa_cons (pv 15) (pa_cons (pv 4) pa_nil))) (pe_lst pa_nil) (nomark _)))) (fun _ _ _ _ _ => (pv 14))) (pe_callTy call_list_of (by rfl) T.z_list (by decide +kernel) (pa_cons (pv 9) pa_nil)) (nomark _)) (pss_one (ps_ret pe_bl)) pss_nil)
        (pss_cons (ps_set (i := 11) sc_law.nd rfl (by first | exact Or.inl rfl | exact Or.inr rfl) (pe_tupleOf (by rfl) T.z_tuple (pe_lc (own := [("k", 14), ("window", 15)]) (g := gTup K 2 (gCons (gName 14) (gCons (gName 15) gNil))) (by rfl) sc_law.nd (Vz.pi_enT (by rfl) T.z_enumerate (pa_cons (pv 3) pa_nil)) (blkOk_by (own := [("k", 14), ("window", 15)]) (N := ["script", "draw", "turn", "windows", "offers", "least", "times", "most", "more", "gone", "late", "wide", "moment", "cost", "k", "window"]) (sc := defScope s_law) (by decide +kernel)) (fun _ _ _ _ _ => pg_tup rfl (pgs_cons (pg_name (i := 14) sc_law.nd rfl (Or.inl rfl)) (pgs_cons (pg_name (i := 15) sc_law.nd rfl (Or.inl rfl)) pgs_nil))) (fun _ _ _ _ _ => pts_nil) (fun _ _ _ _ _ => (pe_ifExp (pt_cmpR (Vz.op_notInK (K := K) rfl) (pv 14) (pv 9) (by with_unfolding_all rfl)) (pv 15) (pe_tup (pa_cons pe_int (pa_cons (pv 10) pa_nil))))))))
        (pss_one (ps_if (PW.pt (pw_and (pt_cmpR (op_neD (by have := hr.units; exact this)) (pv 4) (pe_tup pa_nil) (nomark _)) (pw_and1 (pt_cmpR op_ne (pe_call (ok__law_cost T) (hr.mono (by decide)) (by rfl) T.g__law_cost T.F__law_cost.kp T.b__law_cost .nil pass0 (pa_cons (pv 11) (pa_cons (pv 4) pa_nil))) (pe_call (ok__law_least T) (hr.mono (by decide)) (by rfl) T.g__law_least T.F__law_least.kp T.b__law_least .nil pass0 (pa_cons (pv 11) (pa_cons (pv 4) pa_nil))) (nomark _))))) (pss_one (ps_ret pe_bl)) pss_nil))))))))))))))
        (pss_one (ps_ret pe_bl)))), ?_⟩
    refine ⟨_, rfl, a, ns, rfl, hS, hl, fun H1 d s1 nd1 D1 => ?_⟩
    have hS1 := s1.seq hS
    refine ⟨_, rfl, a, _, rfl, .inl hS1, _, _, rfl, rfl, (by unfold CDiv; omega), _, _, rfl, _, _, rfl, rfl, _, rfl, ?_, ?_, ?_⟩
    · rw [List.length_map]; split <;> omega
    · rw [List.length_map]; split <;> omega
    refine for_range (fun i σ G => ∃ x2 x3 x4 x5 x6 x7 x8 x9 x10 x11 x12 x13 x14 x15 : Option V, σ = [some (.ref a), some (.ref d), x2, x3, x4, x5, x6, x7, x8, x9, x10, x11, x12, x13, x14, x15] ∧ Draw G d (100 * (i : Int))) ⟨none, none, none, none, none, none, none, none, none, none, none, none, none, none, rfl, D1.more (by omega)⟩ ?_ ?_
    · rintro i σ H2 hi ⟨x2, x3, x4, x5, x6, x7, x8, x9, x10, x11, x12, x13, x14, x15, rfl, D2⟩
      have i20 : i ≤ 20 := by
        have hi' := hi
        rw [List.length_map] at hi'
        split at hi' <;> omega
      refine gname_reads ?_
      refine ⟨_, rfl, ?_⟩
      refine ⟨d, 100 * (i : Int), rfl, D2, by omega, by omega, fun H3 r W O xs ys ws os k3 D3 hr3 hW rW gw lw hO rO go lo => ?_⟩
      have gW : GW H3 W ws := ⟨xs, hW, rW, gw, by omega⟩
      have gO : GO H3 O os := ⟨ys, hO, rO, go, by omega⟩
      refine ⟨r, _, rfl, SqT.of hr3, rfl, _, _, rfl, _, _, rfl, rfl, ?_⟩
      clear k3 hr3
      refine ⟨_, rfl, _, rfl, ?_⟩
      refine nil_reads ?_
      refine ⟨W, O, xs, ys, ws, os, rfl, hW, rawp_prs rW, hO, rawp_prs rO, by omega, lo, fun H4 v s4 lv => ?_⟩
      have gW := gW.same s4
      have gO := gO.same s4
      have D4 := D3.same s4
      clear hW rW hO rO s4 D3
      refine gname_reads ?_
      refine ⟨_, rfl, _, rfl, ?_⟩
      refine nil_reads ?_
      refine ⟨W, O, ws, os, rfl, gW, gO, lo, fun H5 u s5 lu => ?_⟩
      have eu := least_uniq lu lv
      subst eu
      have gW := gW.same s5
      have gO := gO.same s5
      have D5 := D4.same s5
      clear s5 D4 lu
      refine ⟨_, rfl, rfl, _, rfl, ?_⟩
      rw [show decide (V.int u = V.int u) = true from decide_eq_true rfl]
      refine iteF ?_
      obtain ⟨xs5, hW5, rW5, _, _⟩ := id gW
      refine ⟨_, rfl, _, rfl, ?_⟩
      refine nil_reads ?_
      refine ⟨d, W, xs5, ws, 100 * (i : Int) + 50, rfl, D5, by omega, hW5, rW5, by omega, fun H6 r6 zs vs k6 D6 hr6 rz pm => ?_⟩
      have gv : GoodW vs := fun p hp => gw p (pm.mem_iff.mp hp)
      have lv_ := pm.length_eq
      have gW := gW.keep D5 k6
      have gO := gO.keep D5 k6
      have D6 := D6.more (m := 100 * (i : Int) + 60) (by omega)
      clear hW5 rW5 k6 D5
      refine ⟨_, rfl, ?_⟩
      refine nil_reads ?_
      refine ⟨r6, O, vs, os, rfl, ⟨zs, hr6, rz, gv, by omega⟩, gO, lo, fun H7 u2 s7 lu2 => ?_⟩
      have eu := least_uniq (least_perm (fun p => pm.mem_iff) lu2) lv
      subst eu
      have gW := gW.same s7
      have gO := gO.same s7
      have D7 := D6.same s7
      clear hr6 rz gv pm lv_ s7 D6 lu2
      refine ⟨_, rfl, rfl, _, rfl, ?_⟩
      rw [show decide (V.int u2 = V.int u2) = true from decide_eq_true rfl]
      refine iteF ?_
      refine ⟨_, rfl, d, 50, 100 * (i : Int) + 60, rfl, D7, by omega, by omega, by omega, fun H8 m k8 D8 m0 m1 => ?_⟩
      have gW := gW.keep D7 k8
      have gO := gO.keep D7 k8
      clear k8 D7
      refine ⟨_, _, rfl, rfl, ?_⟩
      refine gname_reads ?_
      refine ⟨(by show 1 ≤ sizeLine; decide), fun z1 nz1 => ?_⟩
      have s9 := same_new (o := .lst [.int 0]) nz1
      have hz := upd_same (H := H8) (a := z1) (o := .lst [.int 0])
      have gW := gW.same s9
      have gO := gO.same s9
      have D9 := D8.same s9
      clear D8
      generalize upd H8 z1 (.lst [.int 0]) = H9 at s9 hz gW gO D9 ⊢
      clear s9
      obtain ⟨ys9, hO9, rO9, _, _⟩ := id gO
      have pO9 := rawp_prs (K := K) rO9
      have ly9 := rawp_len rO9
      refine ⟨_, rfl, O, rfl, ⟨_, SqT.of hO9⟩, fun R1 nR1 => ?_⟩
      refine lc_it (walk_tup (K := K) (a := O) (xs := ys9)) (fun j H' => H' = upd H9 R1 (.lst (((os.take j).map (·.2)).map V.int))) rfl ?_ ?_ ?_
      · rintro j H' _ rfl
        exact SqT.of (same_new nR1 _ _ hO9)
      · rintro j x G1 G2 hj rfl ⟨rfl, hx⟩
        obtain ⟨p, t1, hp, rfl, ht1⟩ := prs_at pO9 hx
        have s6 := same_new (o := .lst (((os.take j).map (·.2)).map V.int)) nR1
        refine ⟨t1, _, rfl, Vz.sqT_same s6 ht1, rfl, _, _, rfl, _, _, rfl, rfl, rfl, ?_⟩
        refine ⟨_, rfl, _, upd_same, by rw [List.length_map, List.length_map, List.length_take, sizeLine_eq]; omega, ?_⟩
        rw [upd_upd, List.take_add_one, hp, List.map_append, List.map_append]; rfl
      rintro G1 rfl
      rw [show os.take ys9.length = os from List.take_of_length_le (by omega)]
      have s10 := same_new (o := .lst ((os.map (·.2)).map V.int)) nR1
      have hR1 := upd_same (H := H9) (a := R1) (o := .lst ((os.map (·.2)).map V.int))
      have hz := s10 _ _ hz
      have gW := gW.same s10
      have gO := gO.same s10
      have D10 := D9.same s10
      clear D9 hO9 rO9 pO9 ly9
      generalize upd H9 R1 (.lst ((os.map (·.2)).map V.int)) = H10 at s10 hR1 hz gW gO D10 ⊢
      clear s10
      refine ⟨z1, R1, _, _, rfl, rfl, SqL.of hz, SqL.of hR1, by rw [List.length_map, List.length_map, List.length_singleton, sizeLine_eq]; omega, fun p1 np1 => ?_⟩
      have s11 := same_new (o := .lst ([.int 0] ++ (os.map (·.2)).map V.int)) np1
      refine nil_reads ?_
      refine ⟨p1, 0 :: os.map (·.2), rfl, SqL.of upd_same, Nat.succ_pos _, fun M mM lM => ?_⟩
      have gW := gW.same s11
      have gO := gO.same s11
      have D11 := D10.same s11
      clear hz hR1 D10
      generalize upd H10 p1 (.lst ([.int 0] ++ (os.map (·.2)).map V.int)) = H11 at gW gO D11 ⊢
      clear s11
      have M0 : 0 ≤ M := lM 0 List.mem_cons_self
      have MU : M ≤ 1000000 := by
        rcases List.mem_cons.mp mM with z | z
        · omega
        · obtain ⟨p, hp, rfl⟩ := List.mem_map.mp z
          exact (go.1 p hp).2.2
      have MO : ∀ p ∈ os, p.2 ≤ M := fun p hp => lM _ (List.mem_cons_of_mem _ (List.mem_map_of_mem hp))
      clear mM lM
      refine gname_reads ?_
      have tb : -(2 : Int) ^ 64 < 1 + m ∧ 1 + m < 2 ^ 64 := ⟨by omega, by omega⟩
      dsimp only
      refine seq_join (fun G => GW G W ws ∧ GO G O os ∧ Draw G d (100 * (i : Int) + 60 + 1)) (fun D' nx => ?_) ?_
      · refine ⟨_, rfl, _, rfl, _, _, rfl, rfl, .inr tb, _, _, rfl, rfl, _, rfl, ?_⟩
        refine ite2 (fun c => ?_) (fun c => ?_)
        · have c : M * (1 + m) ≤ 1000000 := of_decide_eq_true c
          obtain ⟨ys9, hO9, rO9, _, _⟩ := id gO
          have pO9 := rawp_prs (K := K) rO9
          have ly9 := rawp_len rO9
          have gT : GoodO (os.map (tiO (1 + m))) := by
            refine ⟨fun p hp => ?_, ?_⟩
            · obtain ⟨q, hq, rfl⟩ := List.mem_map.mp hp
              obtain ⟨q1, q2, q3⟩ := go.1 q hq
              have a1 := Int.mul_le_mul_of_nonneg_right (MO q hq) (show 0 ≤ 1 + m by omega)
              have a2 := Int.mul_pos (show 0 < q.2 by omega) (show 0 < 1 + m by omega)
              exact ⟨q1, by show 1 ≤ q.2 * (1 + m); omega, by show q.2 * (1 + m) ≤ 1000000; omega⟩
            · rw [List.map_map]; exact go.2
          refine ⟨_, rfl, _, rfl, O, rfl, ⟨_, SqT.of hO9⟩, fun R2 nR2 => ?_⟩
          refine lc_it (walk_tup (K := K) (a := O) (xs := ys9)) (fun j H' => ∃ zs, H' R2 = some (.lst zs) ∧ zs.length = j ∧ (∀ b u, b ≠ R2 → H11 b = some u → H' b = some u) ∧ RawP H' zs ((os.map (tiO (1 + m))).take j)) ⟨[], upd_same, rfl, (fun b u n e => by rw [upd_ne n]; exact e), True.intro⟩ ?_ ?_ ?_
          · rintro j G1 _ ⟨zs, hR, lz, kp, pz⟩
            have sS : Same H11 G1 := fun b u e => kp b u (fun z => by rw [z, nR2] at e; cases e) e
            exact Vz.sqT_same sS (SqT.of hO9)
          · rintro j x G1 G2 hj ⟨zs, hR, lz, kp, pz⟩ ⟨rfl, hx⟩
            have sS : Same H11 G2 := fun b u e => kp b u (fun z => by rw [z, nR2] at e; cases e) e
            obtain ⟨p, t1, hp, rfl, ht1⟩ := prs_at pO9 hx
            refine ⟨t1, _, rfl, Vz.sqT_same sS ht1, rfl, _, _, rfl, _, _, rfl, rfl, rfl, ?_⟩
            refine ⟨_, rfl, _, rfl, _, rfl, _, _, rfl, rfl, .inr tb, (by show 2 ≤ sizeLine; decide), fun t2 n2 => ?_⟩
            have s4 := same_new (o := .tup [.int ((tiO (1 + m)) p).1, .int ((tiO (1 + m)) p).2]) n2
            have g2 := upd_same (H := G2) (a := t2) (o := .tup [.int ((tiO (1 + m)) p).1, .int ((tiO (1 + m)) p).2])
            refine ⟨zs, s4 _ _ hR, (by rw [lz, sizeLine_eq]; omega), zs ++ [.ref t2], upd_same, by rw [List.length_append, lz]; rfl, fun b u n e => ?_, ?_⟩
            · rw [upd_ne n]; exact s4 _ _ (kp b u n e)
            · have e4 : (os.map (tiO (1 + m)))[j]? = some ((tiO (1 + m)) p) := by rw [List.getElem?_map, hp]; rfl
              rw [List.take_add_one, e4]
              have hR4 := s4 _ _ hR
              have f5 : ∀ (u : Addr) (l : List V), (upd G2 t2 (.tup [.int ((tiO (1 + m)) p).1, .int ((tiO (1 + m)) p).2])) u = some (.tup l) → (upd (upd G2 t2 (.tup [.int ((tiO (1 + m)) p).1, .int ((tiO (1 + m)) p).2])) R2 (.lst (zs ++ [.ref t2]))) u = some (.tup l) :=
                fun u l e => by rw [upd_ne (fun z => by rw [z, hR4] at e; cases e)]; exact e
              exact rawp_app (rawp_map (fun t l e => f5 t l (s4 _ _ e)) pz) ⟨⟨t2, rfl, f5 _ _ g2⟩, True.intro⟩
          rintro G2 ⟨zs, hR, lz, kp, pz⟩
          have sS : Same H11 G2 := fun b u e => kp b u (fun z => by rw [z, nR2] at e; cases e) e
          rw [List.take_of_length_le (by rw [List.length_map]; omega)] at pz
          refine .inl ⟨R2, _, rfl, SqL.of hR, fun U nU => ?_⟩
          have s2 := same_new (o := .tup zs) nU
          have hU := upd_same (H := G2) (a := U) (o := .tup zs)
          have pzU : RawP (upd G2 U (.tup zs)) zs (os.map (tiO (1 + m))) := rawp_map (fun _ _ h => s2 _ _ h) pz
          have sSU := sS.trans s2
          generalize upd G2 U (.tup zs) = G3 at sSU hU pzU ⊢
          have lo2 : (os.map (tiO (1 + m))).length ≤ 9 := by rw [List.length_map]; exact lo
          refine nil_reads ?_
          refine ⟨W, U, ws, os.map (tiO (1 + m)), rfl, gW.same sSU, ⟨zs, hU, pzU, gT, by omega⟩, lo2, fun G4 u s3 lu => ?_⟩
          have eu := least_uniq lu (least_ti (show 0 ≤ 1 + m by omega) lv)
          subst eu
          have s4 := sSU.trans s3
          refine ⟨_, rfl, _, rfl, _, _, rfl, rfl, .inr tb, rfl, _, rfl, ?_⟩
          rw [show decide (V.int (u2 * (1 + m)) = V.int (u2 * (1 + m))) = true from decide_eq_true rfl]
          refine iteF ?_
          exact nx _ ⟨gW.same s4, gO.same s4, D11.same s4⟩
        · exact nx _ ⟨gW, gO, D11⟩
      clear gW gO D11 MO
      rintro H12 ⟨gW, gO, D12⟩
      refine ⟨_, rfl, _, rfl, ?_⟩
      refine ⟨d, 24, 100 * (i : Int) + 60 + 1, rfl, D12, by omega, by omega, by omega, fun H13 b k13 D13 b0 b1 => ?_⟩
      have gW := gW.keep D12 k13
      have gO := gO.keep D12 k13
      clear k13 D12
      refine ⟨_, rfl, ?_⟩
      refine ⟨d, 24, 100 * (i : Int) + 60 + 1 + 1, rfl, D13, by omega, by omega, by omega, fun H14 c k14 D14 c0 c1 => ?_⟩
      have gW := gW.keep D13 k14
      have gO := gO.keep D13 k14
      clear k14 D13
      refine ⟨_, _, rfl, rfl, (by show 2 ≤ sizeLine; decide), fun p2 np2 => ?_⟩
      have s1_ := same_new (o := .tup [.int b, .int (24 + c)]) np2
      have hp2 := upd_same (H := H14) (a := p2) (o := .tup [.int b, .int (24 + c)])
      have gW := gW.same s1_
      have gO := gO.same s1_
      have D14 := D14.same s1_
      generalize upd H14 p2 (.tup [.int b, .int (24 + c)]) = H15 at hp2 gW gO D14 ⊢
      clear s1_
      refine ⟨(by show 1 ≤ sizeLine; decide), fun p3 np3 => ?_⟩
      have s1_ := same_new (o := .tup [.ref p2]) np3
      have hp3 := upd_same (H := H15) (a := p3) (o := .tup [.ref p2])
      have hp2 := s1_ _ _ hp2
      have gW := gW.same s1_
      have gO := gO.same s1_
      have D14 := D14.same s1_
      generalize upd H15 p3 (.tup [.ref p2]) = H16 at hp3 hp2 gW gO D14 ⊢
      clear s1_
      obtain ⟨xs16, hW16, rW16, _, _⟩ := id gW
      have lx16 := rawp_len rW16
      refine cat_use hW16 hp3 (by rw [List.length_singleton, sizeLine_eq]; omega) fun H17 X s17 hX => ?_
      have rX : RawP H17 (xs16 ++ [.ref p2]) (ws ++ [(b, 24 + c)]) := rawp_app (rawp_map (fun _ _ h => s17 _ _ h) rW16) ⟨⟨p2, rfl, s17 _ _ hp2⟩, True.intro⟩
      have gX : GW H17 X (ws ++ [(b, 24 + c)]) := ⟨_, hX, rX, fun p hp => by
        rcases List.mem_append.mp hp with z | z
        · exact gw p z
        · rw [List.mem_singleton.mp z]; exact ⟨b0, by show b ≤ 24 + c; omega⟩, by rw [List.length_append, List.length_singleton]; omega⟩
      have gW := gW.same s17
      have gO := gO.same s17
      have D17 := D14.same s17
      clear hW16 rW16 rX hX hp2 hp3 D14 s17
      refine gname_reads ?_
      refine ⟨_, rfl, _, rfl, ?_⟩
      refine nil_reads ?_
      refine ⟨X, O, _, os, rfl, gX, gO, lo, fun H18 u s18 lu => ?_⟩
      have gX := gX.same s18
      have gW := gW.same s18
      have gO := gO.same s18
      have D18 := D17.same s18
      clear s18 D17
      obtain ⟨xX, hX, rX, _, lX⟩ := id gX
      obtain ⟨yX, hO, rO, _, _⟩ := id gO
      refine ⟨_, rfl, _, rfl, ?_⟩
      refine nil_reads ?_
      refine ⟨X, O, xX, yX, _, os, rfl, hX, rawp_prs rX, hO, rawp_prs rO, by omega, lo, fun H19 u3 s19 lu3 => ?_⟩
      have eu := least_uniq lu3 lu
      subst eu
      have gX := gX.same s19
      have gW := gW.same s19
      have gO := gO.same s19
      have D19 := D18.same s19
      clear hX rX hO rO s19 D18 lu
      refine ⟨rfl, _, rfl, ?_⟩
      rw [show decide (V.int u3 = V.int u3) = true from decide_eq_true rfl]
      refine iteF ?_
      obtain ⟨xX2, hX, rX, _, _⟩ := id gX
      obtain ⟨yX2, hO, rO, _, _⟩ := id gO
      refine ⟨_, rfl, _, rfl, ?_⟩
      refine nil_reads ?_
      refine ⟨X, O, xX2, yX2, _, os, rfl, hX, rawp_prs rX, hO, rawp_prs rO, by omega, lo, fun H20 u4 s20 lu4 => ?_⟩
      have ge := least_more lv lu4
      have gW := gW.same s20
      have gO := gO.same s20
      have D20 := D19.same s20
      clear hX rX hO rO s20 D19 lu3 lu4 gX
      refine ⟨_, rfl, _, _, rfl, rfl, _, rfl, ?_⟩
      rw [show decide (u4 < u2) = false from decide_eq_false (by omega)]
      refine iteF ?_
      refine next_reads ?_
      dsimp only
      refine seq_any (fun σ' G => ∃ (y2 y11 y12 y13 y14 y15 : Option V) (X : Addr) (g : Addr) (L : Int), σ' = [some (.ref a), some (.ref d), y2, some (.ref W), some (.ref O), some (.int u2), some (.int (1 + m)), some (.int M), some (.ref X), some (.ref g), some (.int L), y11, y12, y13, y14, y15] ∧ GW G W ws ∧ GO G O os ∧ Draw G d (100 * (i : Int) + 60 + 1 + 1 + 1) ∧ G g = some (.tup ((dueFrom os ws 0).map V.int)) ∧ 0 ≤ L) (fun D' nx => ?_) ?_
      · refine ⟨_, rfl, _, rfl, ?_⟩
        refine nil_reads ?_
        refine ⟨.ref W, .ref O, rfl, chk_right d gW gO fun xs' ys' m1 m2 rw' ro' => ⟨by omega, by omega, ws, os, rawp_prs rw', rawp_prs ro', go.2, fun H21 g s21 hg => ?_⟩⟩
        rw [lost_due go.2 ws 0 gw] at hg
        have gW := gW.same s21
        have gO := gO.same s21
        have D21 := D20.same s21
        refine ⟨_, rfl, (by show 0 ≤ sizeLine; decide), fun p5 np5 => ?_⟩
        have s22 := same_new (o := .tup []) np5
        have gW := gW.same s22
        have gO := gO.same s22
        have D22 := D21.same s22
        have hg := s22 _ _ hg
        obtain ⟨yo, hO, rO, _, _⟩ := id gO
        refine ⟨.tuple (os.map dP), .tuple [], .tup (SqT.of hO) (dpP rO), .tup (SqT.of upd_same) .nil, shapedP os, shapedP [], _, rfl, ?_⟩
        rw [eqvP]
        generalize upd H21 p5 (.tup []) = H22 at gW gO D22 hg hO rO ⊢
        cases ee : os.isEmpty with
        | true =>
          refine iteT ?_
          refine ⟨(by show 2 ≤ sizeLine; decide), fun pt npt => ?_⟩
          have s23 := same_new (o := .tup [.ref g, .int 100]) npt
          exact ⟨pt, _, rfl, SqT.of upd_same, rfl, _, _, rfl, _, _, rfl, rfl, nx _ _ ⟨_, _, _, _, _, _, X, g, 100, rfl, gW.same s23, gO.same s23, D22.same s23, s23 _ _ hg, by decide⟩⟩
        | false =>
          refine iteF ?_
          rcases List.eq_nil_or_concat os with e | ⟨L0, e, eL⟩
          · rw [e] at ee; cases ee
          · rw [List.concat_eq_append] at eL
            have pO := rawp_prs (K := K) rO
            rw [eL] at pO
            obtain ⟨zr, tE, ez, _, hE⟩ := prs_snoc e L0 yo pO
            subst ez
            have e0 := (go.1 e (by rw [eL]; exact List.mem_append_right _ List.mem_cons_self)).1
            refine ⟨_, rfl, _, rfl, O, _, _, _, rfl, rfl, SqT.of hO, at_last zr (.ref tE), tE, _, 0, _, rfl, rfl, hE, rfl, _, _, rfl, rfl, ?_⟩
            refine ⟨(by show 2 ≤ sizeLine; decide), fun pt npt => ?_⟩
            have s23 := same_new (o := .tup [.ref g, .int (e.1 + 1)]) npt
            exact ⟨pt, _, rfl, SqT.of upd_same, rfl, _, _, rfl, _, _, rfl, rfl, nx _ _ ⟨_, _, _, _, _, _, X, g, e.1 + 1, rfl, gW.same s23, gO.same s23, D22.same s23, s23 _ _ hg, by omega⟩⟩
      · rintro σ G ⟨y2, y11, y12, y13, y14, y15, X, g, L, rfl, gW, gO, DG, hg, L0⟩
        obtain ⟨xw, hW, rW, _, _⟩ := id gW
        obtain ⟨yo, hO, rO, _, _⟩ := id gO
        have pW := rawp_prs (K := K) rW
        have pO := rawp_prs (K := K) rO
        have lxw := rawp_len rW
        have lyo := rawp_len rO
        have gWG := gW
        have gOG := gO
        refine ⟨_, rfl, W, xw, rfl, SqT.of hW, fun D3 nD3 => ?_⟩
        refine lc_it (Vz.walk_en (K := K) (k0 := 0) (a := W) (xs := xw)) (fun j H' => H' D3 = some (.lst ((dueFrom os (ws.take j) 0).map V.int)) ∧ ∀ c u, c ≠ D3 → G c = some u → H' c = some u) ⟨upd_same, fun c u n e => by rw [upd_ne n]; exact e⟩ ?_ ?_ ?_
        · rintro j H' _ ⟨_, kp⟩
          exact SqT.of (kp _ _ (ne_of hW nD3).symm hW)
        · rintro j x G1 G2 hj ⟨hD, kp⟩ ⟨t', k', y, rfl, nt, rfl, ek, ey⟩
          cases ek
          have ey : xw[j]? = some y := ey
          obtain ⟨p, t2, hp, rfl, hq⟩ := prs_at pW ey
          have sT := same_new (o := .tup [.int (0 + (j : Nat)), .ref t2]) nt
          have sG : Same G G1 := fun c u e => kp c u (ne_of e nD3).symm e
          have sC := sG.trans sT
          have hD4 := sT _ _ hD
          have kp4 : ∀ c u, c ≠ D3 → G c = some u → (upd G1 t' (.tup [.int (0 + (j : Nat)), .ref t2])) c = some u := fun c u n e => sT _ _ (kp c u n e)
          refine ⟨t', _, rfl, SqT.of upd_same, rfl, _, _, rfl, _, _, rfl, rfl, rfl, ?_⟩
          generalize upd G1 t' (.tup [.int (0 + (j : Nat)), .ref t2]) = G4 at sC hD4 kp4 ⊢
          refine ⟨_, rfl, _, rfl, ?_⟩
          refine nil_reads ?_
          refine ⟨t2, O, p.1, p.2, yo, os, rfl, Vz.sqT_same sC hq, SqT.of (sC _ _ hO), prs_map sC pO, by omega, fun G5 R s5 hR => ?_⟩
          refine ⟨(by show 0 ≤ sizeLine; decide), fun p3 n3 => ?_⟩
          have z3 := same_new (o := .lst []) n3
          refine ⟨.list ((insL p.1 p.2 os).map PyData.int), .list [], .lst (SqL.of (z3 _ _ hR)) (dpAllI _), .lst (SqL.of upd_same) .nil, shaped_intsL _, shaped_intsL [], _, rfl, ?_⟩
          rw [show PyData.eqv (.list ((insL p.1 p.2 os).map PyData.int)) (.list []) = decide (insL p.1 p.2 os = []) from eqv_lists _ []]
          have s6 := s5.trans z3
          have hD6 := s6 _ _ hD4
          have kp6 : ∀ c u, c ≠ D3 → G c = some u → (upd G5 p3 (.lst [])) c = some u := fun c u n e => s6 _ _ (kp4 c u n e)
          generalize upd G5 p3 (.lst []) = G6 at hD6 kp6 ⊢
          have st := dueFrom_app os (ws.take j) p 0
          have lj : (ws.take j).length = j := by rw [List.length_take]; have := (List.getElem?_eq_some_iff.mp hp).1; omega
          rw [lj, Nat.zero_add] at st
          have st : dueFrom os (ws.take (j + 1)) 0 = dueFrom os (ws.take j) 0 ++ (if insL p.1 p.2 os = [] then [((j : Nat) : Int)] else []) := by
            rw [List.take_add_one, hp]; exact st
          have ld := dueFrom_len os (ws.take j) 0
          rw [st]
          refine ite2 (fun c => ?_) (fun c => ?_)
          · refine ⟨_, rfl, _, hD6, by rw [List.length_map, sizeLine_eq]; omega, ?_, fun c u n e => by rw [upd_ne n]; exact kp6 c u n e⟩
            rw [upd_same, if_pos (of_decide_eq_true c), List.map_append, show ((0 : Int) + (j : Nat)) = ((j : Nat) : Int) by omega]; rfl
          · rw [if_neg (fun z => c (decide_eq_true z)), List.append_nil]
            exact ⟨hD6, kp6⟩
        · rintro G1 ⟨hD, kp⟩
          rw [show ws.take xw.length = ws from List.take_of_length_le (by omega)] at hD
          have sG : Same G G1 := fun c u e => kp c u (ne_of e nD3).symm e
          refine ⟨_, rfl, g, _, rfl, .inr (SqT.of (sG _ _ hg)), fun L5 nL5 => ?_⟩
          have z5 := same_new (o := .lst ((dueFrom os ws 0).map V.int)) nL5
          refine ⟨.list ((dueFrom os ws 0).map PyData.int), .list ((dueFrom os ws 0).map PyData.int), .lst (SqL.of (z5 _ _ hD)) (dpAllI _), .lst (SqL.of upd_same) (dpAllI _), shaped_intsL _, shaped_intsL _, _, rfl, ?_⟩
          rw [eqv_lists, decide_eq_true rfl]
          have s2 := sG.trans z5
          have gW := gW.same s2
          have gO := gO.same s2
          have DG := DG.same s2
          have hg := s2 _ _ hg
          have hW := s2 _ _ hW
          have pW := prs_map s2 pW
          have rW := rawp_map (fun _ _ h => s2 _ _ h) rW
          clear hO rO pO gWG gOG hD kp sG
          generalize upd G1 L5 (.lst ((dueFrom os ws 0).map V.int)) = G2 at gW gO DG hg hW pW rW ⊢
          clear s2 z5
          refine iteF ?_
          refine next_reads ?_
          refine ⟨_, rfl, W, xw, rfl, SqT.of hW, fun D4 nD4 => ?_⟩
          refine lc_it (Vz.walk_en (K := K) (k0 := 0) (a := W) (xs := xw)) (fun j H' => ∃ zs wd, H' D4 = some (.lst zs) ∧ RawP H' zs wd ∧ GoodW wd ∧ wd.length = j ∧ ∀ c u, c ≠ D4 → G2 c = some u → H' c = some u) ⟨[], [], upd_same, True.intro, (fun _ h => nomatch h), rfl, fun c u n e => by rw [upd_ne n]; exact e⟩ ?_ ?_ ?_
          · rintro j H' _ ⟨_, _, _, _, _, _, kp⟩
            exact SqT.of (kp _ _ (ne_of hW nD4).symm hW)
          · rintro j x G3 G4 hj ⟨zs, wd, hD, rz, gd, ld, kp⟩ ⟨t', k', y, rfl, nt, rfl, ek, ey⟩
            cases ek
            have ey : xw[j]? = some y := ey
            obtain ⟨p, hp, t2, ez, ht2⟩ := rawp_get rW ey
            subst ez
            have sT := same_new (o := .tup [.int (0 + (j : Nat)), .ref t2]) nt
            have sG : Same G2 G3 := fun c u e => kp c u (ne_of e nD4).symm e
            have sC := sG.trans sT
            have hD4 := sT _ _ hD
            have rz4 := rawp_map (fun _ _ h => sT _ _ h) rz
            have kp4 : ∀ c u, c ≠ D4 → G2 c = some u → (upd G3 t' (.tup [.int (0 + (j : Nat)), .ref t2])) c = some u := fun c u n e => sT _ _ (kp c u n e)
            refine ⟨t', _, rfl, SqT.of upd_same, rfl, _, _, rfl, _, _, rfl, rfl, rfl, ?_⟩
            generalize upd G3 t' (.tup [.int (0 + (j : Nat)), .ref t2]) = G4 at sC hD4 kp4 rz4 ⊢
            have lz := rawp_len rz4
            refine ⟨_, rfl, _, rfl, g, _, rfl, .inr (SqT.of (sC _ _ hg)), rfl, ints_flat _, _, rfl, ?_⟩
            refine ite2 (fun c => ?_) (fun c => ?_)
            · refine ⟨_, rfl, _, hD4, by rw [sizeLine_eq]; omega, zs ++ [.ref t2], wd ++ [p], upd_same, rawp_put hD4 (rawp_app rz4 ⟨⟨t2, rfl, sC _ _ ht2⟩, True.intro⟩), fun q hq => ?_, by rw [List.length_append, ld]; rfl, fun c u n e => by rw [upd_ne n]; exact kp4 c u n e⟩
              rcases List.mem_append.mp hq with z | z
              · exact gd q z
              · rw [List.mem_singleton.mp z]; exact gw p (List.mem_of_getElem? hp)
            · refine ⟨_, rfl, (by show 2 ≤ sizeLine; decide), fun tn ntn => ?_⟩
              have sN := same_new (o := .tup [.int 0, .int L]) ntn
              have hN := upd_same (H := G4) (a := tn) (o := .tup [.int 0, .int L])
              have hD5 := sN _ _ hD4
              refine ⟨_, hD5, by rw [sizeLine_eq]; omega, zs ++ [.ref tn], wd ++ [(0, L)], upd_same, rawp_put hD5 (rawp_app (rawp_map (fun _ _ h => sN _ _ h) rz4) ⟨⟨tn, rfl, hN⟩, True.intro⟩), fun q hq => ?_, by rw [List.length_append, ld]; rfl, fun c u n e => by rw [upd_ne n]; exact sN _ _ (kp4 c u n e)⟩
              rcases List.mem_append.mp hq with z | z
              · exact gd q z
              · rw [List.mem_singleton.mp z]; exact ⟨Int.le_refl _, L0⟩
          · rintro G3 ⟨zs, wd, hD, rz, gd, ld, kp⟩
            have sG : Same G2 G3 := fun c u e => kp c u (ne_of e nD4).symm e
            refine .inl ⟨D4, _, rfl, SqL.of hD, fun Y nY => ?_⟩
            have sY := same_new (o := .tup zs) nY
            have hY := upd_same (H := G3) (a := Y) (o := .tup zs)
            have gY : GW (upd G3 Y (.tup zs)) Y wd := ⟨zs, hY, rawp_map (fun _ _ h => sY _ _ h) rz, gd, by omega⟩
            have sA := sG.trans sY
            have gO := gO.same sA
            have DG := DG.same sA
            generalize upd G3 Y (.tup zs) = G4 at gY gO DG ⊢
            clear sY hY sA sG kp hD rz
            refine gname_reads ?_
            refine ⟨_, rfl, (by show 0 ≤ sizeLine; decide), fun p6 np6 => ?_⟩
            have s7 := same_new (o := .tup []) np6
            have gO := gO.same s7
            have gY := gY.same s7
            have DG := DG.same s7
            obtain ⟨yo2, hO, rO, _, _⟩ := id gO
            refine ⟨.tuple (os.map dP), .tuple [], .tup (SqT.of hO) (dpP rO), .tup (SqT.of upd_same) .nil, shapedP os, shapedP [], _, rfl, ?_⟩
            rw [eqvP]
            generalize upd G4 p6 (.tup []) = G5 at gO gY DG hO rO ⊢
            cases ee : os.isEmpty with
            | true =>
              refine iteF ?_
              refine iteF ?_
              exact ⟨_, _, _, _, _, _, _, _, _, _, _, _, _, _, rfl, DG.more (by omega)⟩
            | false =>
              refine iteT ?_
              refine ⟨_, rfl, _, rfl, ?_⟩
              refine nil_reads ?_
              refine ⟨Y, O, wd, os, rfl, gY, gO, lo, fun G6 u5 s8 lu5 => ?_⟩
              have gY := gY.same s8
              have gO := gO.same s8
              have DG := DG.same s8
              obtain ⟨xY, hY, rY, _, lY⟩ := id gY
              obtain ⟨yo3, hO3, rO3, _, _⟩ := id gO
              refine ⟨_, rfl, _, rfl, ?_⟩
              refine nil_reads ?_
              refine ⟨Y, O, xY, yo3, wd, os, rfl, hY, rawp_prs rY, hO3, rawp_prs rO3, by omega, lo, fun G7 u6 s9 lu6 => ?_⟩
              have eu := least_uniq lu6 lu5
              subst eu
              have DG := DG.same s9
              refine ⟨rfl, _, rfl, ?_⟩
              rw [show decide (V.int u6 = V.int u6) = true from decide_eq_true rfl]
              refine iteF ?_
              exact ⟨_, _, _, _, _, _, _, _, _, _, _, _, _, _, rfl, DG.more (by omega)⟩
    · rintro σ H2 ⟨x2, x3, x4, x5, x6, x7, x8, x9, x10, x11, x12, x13, x14, x15, rfl, D2⟩
      exact q _
end
end Toy
set_option Elab.async false
set_option linter.all false
set_option maxRecDepth 100000
set_option maxHeartbeats 8000000
namespace Toy
open PySem PySem.Spec PyProof.Rows L2
theorem all_mk {l : PySem.W.OpenLaw} {w : World} {K : PySem.W.Frag} {h : Heap} {mg : Str → Option Value} {fa : Addr} (X : K.In h) (G : h.Ns mainGlobals mg) (hfa : mg "law" = some (.ref fa))
    {f1 : Addr} {od1 an1 : Option Addr} {sl1 : Array (Option Value)} {oc1 kV1 dc1 pm1 cd1 ct1 : Value}
    (a1 : PySem.W.nsIn K mainGlobals "is_int" = some (some (.ref f1))) (l1 : K.lookup f1 = some ⟨oc1, od1, .func (PySem.W.fnOf "is_int" "is_int" (defArgs s_is_int) (defBody s_is_int) (defScope s_is_int) .none kV1 dc1 pm1 an1 cd1 ct1), sl1⟩)
    (c1 : PySem.W.codeIn K cd1 "is_int" = true) (k1 : PySem.W.keepIn K (.ref f1) = true)
    {f2 : Addr} {od2 an2 : Option Addr} {sl2 : Array (Option Value)} {oc2 kV2 dc2 pm2 cd2 ct2 : Value}
    (a2 : PySem.W.nsIn K mainGlobals "is_within" = some (some (.ref f2))) (l2 : K.lookup f2 = some ⟨oc2, od2, .func (PySem.W.fnOf "is_within" "is_within" (defArgs s_is_within) (defBody s_is_within) (defScope s_is_within) .none kV2 dc2 pm2 an2 cd2 ct2), sl2⟩)
    (c2 : PySem.W.codeIn K cd2 "is_within" = true) (k2 : PySem.W.keepIn K (.ref f2) = true)
    {f3 : Addr} {od3 an3 : Option Addr} {sl3 : Array (Option Value)} {oc3 kV3 dc3 pm3 cd3 ct3 : Value}
    (a3 : PySem.W.nsIn K mainGlobals "lost" = some (some (.ref f3))) (l3 : K.lookup f3 = some ⟨oc3, od3, .func (PySem.W.fnOf "lost" "lost" (defArgs s_lost) (defBody s_lost) (defScope s_lost) .none kV3 dc3 pm3 an3 cd3 ct3), sl3⟩)
    (c3 : PySem.W.codeIn K cd3 "lost" = true) (k3 : PySem.W.keepIn K (.ref f3) = true)
    {f4 : Addr} {od4 an4 : Option Addr} {sl4 : Array (Option Value)} {oc4 kV4 dc4 pm4 cd4 ct4 : Value}
    (a4 : PySem.W.nsIn K mainGlobals "cheapest" = some (some (.ref f4))) (l4 : K.lookup f4 = some ⟨oc4, od4, .func (PySem.W.fnOf "cheapest" "cheapest" (defArgs s_cheapest) (defBody s_cheapest) (defScope s_cheapest) .none kV4 dc4 pm4 an4 cd4 ct4), sl4⟩)
    (c4 : PySem.W.codeIn K cd4 "cheapest" = true) (k4 : PySem.W.keepIn K (.ref f4) = true)
    {f5 : Addr} {od5 an5 : Option Addr} {sl5 : Array (Option Value)} {oc5 kV5 dc5 pm5 cd5 ct5 : Value}
    (a5 : PySem.W.nsIn K mainGlobals "shows_cheapest" = some (some (.ref f5))) (l5 : K.lookup f5 = some ⟨oc5, od5, .func (PySem.W.fnOf "shows_cheapest" "shows_cheapest" (defArgs s_shows_cheapest) (defBody s_shows_cheapest) (defScope s_shows_cheapest) .none kV5 dc5 pm5 an5 cd5 ct5), sl5⟩)
    (c5 : PySem.W.codeIn K cd5 "shows_cheapest" = true) (k5 : PySem.W.keepIn K (.ref f5) = true)
    {f6 : Addr} {od6 an6 : Option Addr} {sl6 : Array (Option Value)} {oc6 kV6 dc6 pm6 cd6 ct6 : Value}
    (a6 : PySem.W.nsIn K mainGlobals "_check" = some (some (.ref f6))) (l6 : K.lookup f6 = some ⟨oc6, od6, .func (PySem.W.fnOf "_check" "_check" (defArgs s__check) (defBody s__check) (defScope s__check) .none kV6 dc6 pm6 an6 cd6 ct6), sl6⟩)
    (c6 : PySem.W.codeIn K cd6 "_check" = true) (k6 : PySem.W.keepIn K (.ref f6) = true)
    {f7 : Addr} {od7 an7 : Option Addr} {sl7 : Array (Option Value)} {oc7 kV7 dc7 pm7 cd7 ct7 : Value}
    (a7 : PySem.W.nsIn K mainGlobals "_is_window" = some (some (.ref f7))) (l7 : K.lookup f7 = some ⟨oc7, od7, .func (PySem.W.fnOf "_is_window" "_is_window" (defArgs s__is_window) (defBody s__is_window) (defScope s__is_window) .none kV7 dc7 pm7 an7 cd7 ct7), sl7⟩)
    (c7 : PySem.W.codeIn K cd7 "_is_window" = true) (k7 : PySem.W.keepIn K (.ref f7) = true)
    {f8 : Addr} {od8 an8 : Option Addr} {sl8 : Array (Option Value)} {oc8 kV8 dc8 pm8 cd8 ct8 : Value}
    (a8 : PySem.W.nsIn K mainGlobals "_is_offer" = some (some (.ref f8))) (l8 : K.lookup f8 = some ⟨oc8, od8, .func (PySem.W.fnOf "_is_offer" "_is_offer" (defArgs s__is_offer) (defBody s__is_offer) (defScope s__is_offer) .none kV8 dc8 pm8 an8 cd8 ct8), sl8⟩)
    (c8 : PySem.W.codeIn K cd8 "_is_offer" = true) (k8 : PySem.W.keepIn K (.ref f8) = true)
    {f9 : Addr} {od9 an9 : Option Addr} {sl9 : Array (Option Value)} {oc9 kV9 dc9 pm9 cd9 ct9 : Value}
    (a9 : PySem.W.nsIn K mainGlobals "_spans" = some (some (.ref f9))) (l9 : K.lookup f9 = some ⟨oc9, od9, .func (PySem.W.fnOf "_spans" "_spans" (defArgs s__spans) (defBody s__spans) (defScope s__spans) .none kV9 dc9 pm9 an9 cd9 ct9), sl9⟩)
    (c9 : PySem.W.codeIn K cd9 "_spans" = true) (k9 : PySem.W.keepIn K (.ref f9) = true)
    {f10 : Addr} {od10 an10 : Option Addr} {sl10 : Array (Option Value)} {oc10 kV10 dc10 pm10 cd10 ct10 : Value}
    (a10 : PySem.W.nsIn K mainGlobals "_first_from" = some (some (.ref f10))) (l10 : K.lookup f10 = some ⟨oc10, od10, .func (PySem.W.fnOf "_first_from" "_first_from" (defArgs s__first_from) (defBody s__first_from) (defScope s__first_from) .none kV10 dc10 pm10 an10 cd10 ct10), sl10⟩)
    (c10 : PySem.W.codeIn K cd10 "_first_from" = true) (k10 : PySem.W.keepIn K (.ref f10) = true)
    {f11 : Addr} {od11 an11 : Option Addr} {sl11 : Array (Option Value)} {oc11 kV11 dc11 pm11 cd11 ct11 : Value}
    (a11 : PySem.W.nsIn K mainGlobals "_pledge" = some (some (.ref f11))) (l11 : K.lookup f11 = some ⟨oc11, od11, .func (PySem.W.fnOf "_pledge" "_pledge" (defArgs s__pledge) (defBody s__pledge) (defScope s__pledge) .none kV11 dc11 pm11 an11 cd11 ct11), sl11⟩)
    (c11 : PySem.W.codeIn K cd11 "_pledge" = true) (k11 : PySem.W.keepIn K (.ref f11) = true)
    {f12 : Addr} {od12 an12 : Option Addr} {sl12 : Array (Option Value)} {oc12 kV12 dc12 pm12 cd12 ct12 : Value}
    (a12 : PySem.W.nsIn K mainGlobals "_is_plan" = some (some (.ref f12))) (l12 : K.lookup f12 = some ⟨oc12, od12, .func (PySem.W.fnOf "_is_plan" "_is_plan" (defArgs s__is_plan) (defBody s__is_plan) (defScope s__is_plan) .none kV12 dc12 pm12 an12 cd12 ct12), sl12⟩)
    (c12 : PySem.W.codeIn K cd12 "_is_plan" = true) (k12 : PySem.W.keepIn K (.ref f12) = true)
    {f13 : Addr} {od13 an13 : Option Addr} {sl13 : Array (Option Value)} {oc13 kV13 dc13 pm13 cd13 ct13 : Value}
    (a13 : PySem.W.nsIn K mainGlobals "_are_pledges" = some (some (.ref f13))) (l13 : K.lookup f13 = some ⟨oc13, od13, .func (PySem.W.fnOf "_are_pledges" "_are_pledges" (defArgs s__are_pledges) (defBody s__are_pledges) (defScope s__are_pledges) .none kV13 dc13 pm13 an13 cd13 ct13), sl13⟩)
    (c13 : PySem.W.codeIn K cd13 "_are_pledges" = true) (k13 : PySem.W.keepIn K (.ref f13) = true)
    {f14 : Addr} {od14 an14 : Option Addr} {sl14 : Array (Option Value)} {oc14 kV14 dc14 pm14 cd14 ct14 : Value}
    (a14 : PySem.W.nsIn K mainGlobals "_law_begin" = some (some (.ref f14))) (l14 : K.lookup f14 = some ⟨oc14, od14, .func (PySem.W.fnOf "_law_begin" "_law_begin" (defArgs s__law_begin) (defBody s__law_begin) (defScope s__law_begin) .none kV14 dc14 pm14 an14 cd14 ct14), sl14⟩)
    (c14 : PySem.W.codeIn K cd14 "_law_begin" = true) (k14 : PySem.W.keepIn K (.ref f14) = true)
    {f15 : Addr} {od15 an15 : Option Addr} {sl15 : Array (Option Value)} {oc15 kV15 dc15 pm15 cd15 ct15 : Value}
    (a15 : PySem.W.nsIn K mainGlobals "_law_mixed" = some (some (.ref f15))) (l15 : K.lookup f15 = some ⟨oc15, od15, .func (PySem.W.fnOf "_law_mixed" "_law_mixed" (defArgs s__law_mixed) (defBody s__law_mixed) (defScope s__law_mixed) .none kV15 dc15 pm15 an15 cd15 ct15), sl15⟩)
    (c15 : PySem.W.codeIn K cd15 "_law_mixed" = true) (k15 : PySem.W.keepIn K (.ref f15) = true)
    {f16 : Addr} {od16 an16 : Option Addr} {sl16 : Array (Option Value)} {oc16 kV16 dc16 pm16 cd16 ct16 : Value}
    (a16 : PySem.W.nsIn K mainGlobals "_law_next" = some (some (.ref f16))) (l16 : K.lookup f16 = some ⟨oc16, od16, .func (PySem.W.fnOf "_law_next" "_law_next" (defArgs s__law_next) (defBody s__law_next) (defScope s__law_next) .none kV16 dc16 pm16 an16 cd16 ct16), sl16⟩)
    (c16 : PySem.W.codeIn K cd16 "_law_next" = true) (k16 : PySem.W.keepIn K (.ref f16) = true)
    {f17 : Addr} {od17 an17 : Option Addr} {sl17 : Array (Option Value)} {oc17 kV17 dc17 pm17 cd17 ct17 : Value}
    (a17 : PySem.W.nsIn K mainGlobals "_law_of" = some (some (.ref f17))) (l17 : K.lookup f17 = some ⟨oc17, od17, .func (PySem.W.fnOf "_law_of" "_law_of" (defArgs s__law_of) (defBody s__law_of) (defScope s__law_of) .none kV17 dc17 pm17 an17 cd17 ct17), sl17⟩)
    (c17 : PySem.W.codeIn K cd17 "_law_of" = true) (k17 : PySem.W.keepIn K (.ref f17) = true)
    {f18 : Addr} {od18 an18 : Option Addr} {sl18 : Array (Option Value)} {oc18 kV18 dc18 pm18 cd18 ct18 : Value}
    (a18 : PySem.W.nsIn K mainGlobals "_law_asks" = some (some (.ref f18))) (l18 : K.lookup f18 = some ⟨oc18, od18, .func (PySem.W.fnOf "_law_asks" "_law_asks" (defArgs s__law_asks) (defBody s__law_asks) (defScope s__law_asks) .none kV18 dc18 pm18 an18 cd18 ct18), sl18⟩)
    (c18 : PySem.W.codeIn K cd18 "_law_asks" = true) (k18 : PySem.W.keepIn K (.ref f18) = true)
    {f19 : Addr} {od19 an19 : Option Addr} {sl19 : Array (Option Value)} {oc19 kV19 dc19 pm19 cd19 ct19 : Value}
    (a19 : PySem.W.nsIn K mainGlobals "_law_inside" = some (some (.ref f19))) (l19 : K.lookup f19 = some ⟨oc19, od19, .func (PySem.W.fnOf "_law_inside" "_law_inside" (defArgs s__law_inside) (defBody s__law_inside) (defScope s__law_inside) .none kV19 dc19 pm19 an19 cd19 ct19), sl19⟩)
    (c19 : PySem.W.codeIn K cd19 "_law_inside" = true) (k19 : PySem.W.keepIn K (.ref f19) = true)
    {f20 : Addr} {od20 an20 : Option Addr} {sl20 : Array (Option Value)} {oc20 kV20 dc20 pm20 cd20 ct20 : Value}
    (a20 : PySem.W.nsIn K mainGlobals "_law_least" = some (some (.ref f20))) (l20 : K.lookup f20 = some ⟨oc20, od20, .func (PySem.W.fnOf "_law_least" "_law_least" (defArgs s__law_least) (defBody s__law_least) (defScope s__law_least) .none kV20 dc20 pm20 an20 cd20 ct20), sl20⟩)
    (c20 : PySem.W.codeIn K cd20 "_law_least" = true) (k20 : PySem.W.keepIn K (.ref f20) = true)
    {f21 : Addr} {od21 an21 : Option Addr} {sl21 : Array (Option Value)} {oc21 kV21 dc21 pm21 cd21 ct21 : Value}
    (a21 : PySem.W.nsIn K mainGlobals "_law_cost" = some (some (.ref f21))) (l21 : K.lookup f21 = some ⟨oc21, od21, .func (PySem.W.fnOf "_law_cost" "_law_cost" (defArgs s__law_cost) (defBody s__law_cost) (defScope s__law_cost) .none kV21 dc21 pm21 an21 cd21 ct21), sl21⟩)
    (c21 : PySem.W.codeIn K cd21 "_law_cost" = true) (k21 : PySem.W.keepIn K (.ref f21) = true)
    {f22 : Addr} {od22 an22 : Option Addr} {sl22 : Array (Option Value)} {oc22 kV22 dc22 pm22 cd22 ct22 : Value}
    (a22 : PySem.W.nsIn K mainGlobals "_law_turned" = some (some (.ref f22))) (l22 : K.lookup f22 = some ⟨oc22, od22, .func (PySem.W.fnOf "_law_turned" "_law_turned" (defArgs s__law_turned) (defBody s__law_turned) (defScope s__law_turned) .none kV22 dc22 pm22 an22 cd22 ct22), sl22⟩)
    (c22 : PySem.W.codeIn K cd22 "_law_turned" = true) (k22 : PySem.W.keepIn K (.ref f22) = true)
    {f23 : Addr} {od23 an23 : Option Addr} {sl23 : Array (Option Value)} {oc23 kV23 dc23 pm23 cd23 ct23 : Value}
    (a23 : PySem.W.nsIn K mainGlobals "law" = some (some (.ref f23))) (l23 : K.lookup f23 = some ⟨oc23, od23, .func (PySem.W.fnOf "law" "law" (defArgs s_law) (defBody s_law) (defScope s_law) .none kV23 dc23 pm23 an23 cd23 ct23), sl23⟩)
    (c23 : PySem.W.codeIn K cd23 "law" = true) (k23 : PySem.W.keepIn K (.ref f23) = true)
    {C_FeedError : Addr} (g_FeedError : PySem.W.nsIn K mainGlobals "FeedError" = some (some (.ref C_FeedError)))
    {C_BadWindow : Addr} (g_BadWindow : PySem.W.nsIn K mainGlobals "BadWindow" = some (some (.ref C_BadWindow)))
    {nm_BadWindow qq_BadWindow : Str} {N_BadWindow : Addr} {bs_BadWindow : List Value} {sn_BadWindow : List Str} {sub_BadWindow : List Value} {ab_BadWindow : Bool} {col_BadWindow : Option Bool} {dd_BadWindow : Option Addr} {m0_BadWindow m1_BadWindow m2_BadWindow m3_BadWindow m5_BadWindow : Option Value}
    (x_BadWindow : K.lookup C_BadWindow = some (excClassObj nm_BadWindow qq_BadWindow C_BadWindow N_BadWindow bs_BadWindow [.ref C_FeedError, .type "ValueError", .type "Exception", .type "BaseException", .type "object"] true sn_BadWindow sub_BadWindow ab_BadWindow col_BadWindow dd_BadWindow m0_BadWindow m1_BadWindow m2_BadWindow m3_BadWindow m5_BadWindow "ValueError.__new__"))
    (sa_BadWindow : PySem.W.findIn K (.ref C_BadWindow) "__setattr__" = some (some (.builtin "object.__setattr__"))) (eC_BadWindow : PySem.W.subIn K (.ref C_BadWindow) (.type "BaseException") = some true) (tC_BadWindow : PySem.W.typeIn K (.ref C_BadWindow) = some (.type "type")) (kC_BadWindow : PySem.W.keepIn K (.ref C_BadWindow) = true)
    {I_BadWindow : Addr} {odI_BadWindow anI_BadWindow : Option Addr} {slI_BadWindow : Array (Option Value)} {ocI_BadWindow kVI_BadWindow dcI_BadWindow pmI_BadWindow cdI_BadWindow ctI_BadWindow : Value}
    (iC_BadWindow : PySem.W.findIn K (.ref C_BadWindow) "__init__" = some (some (.ref I_BadWindow))) (tI_BadWindow : PySem.W.typeIn K (.ref I_BadWindow) = some (.type "function"))
    (lI_BadWindow : K.lookup I_BadWindow = some ⟨ocI_BadWindow, odI_BadWindow, .func (PySem.W.fnOf "__init__" "BadWindow.__init__" (defArgs s_BadWindow) (defBody s_BadWindow) (defScope s_BadWindow) .none kVI_BadWindow dcI_BadWindow pmI_BadWindow anI_BadWindow cdI_BadWindow ctI_BadWindow), slI_BadWindow⟩) (cI_BadWindow : PySem.W.codeIn K cdI_BadWindow "BadWindow.__init__" = true) (kI_BadWindow : PySem.W.keepIn K (.ref I_BadWindow) = true)
    (n_BadWindow_number : PySem.W.findIn K (.ref C_BadWindow) "number" = some none)
    {C_BadOffer : Addr} (g_BadOffer : PySem.W.nsIn K mainGlobals "BadOffer" = some (some (.ref C_BadOffer)))
    {nm_BadOffer qq_BadOffer : Str} {N_BadOffer : Addr} {bs_BadOffer : List Value} {sn_BadOffer : List Str} {sub_BadOffer : List Value} {ab_BadOffer : Bool} {col_BadOffer : Option Bool} {dd_BadOffer : Option Addr} {m0_BadOffer m1_BadOffer m2_BadOffer m3_BadOffer m5_BadOffer : Option Value}
    (x_BadOffer : K.lookup C_BadOffer = some (excClassObj nm_BadOffer qq_BadOffer C_BadOffer N_BadOffer bs_BadOffer [.ref C_FeedError, .type "ValueError", .type "Exception", .type "BaseException", .type "object"] true sn_BadOffer sub_BadOffer ab_BadOffer col_BadOffer dd_BadOffer m0_BadOffer m1_BadOffer m2_BadOffer m3_BadOffer m5_BadOffer "ValueError.__new__"))
    (sa_BadOffer : PySem.W.findIn K (.ref C_BadOffer) "__setattr__" = some (some (.builtin "object.__setattr__"))) (eC_BadOffer : PySem.W.subIn K (.ref C_BadOffer) (.type "BaseException") = some true) (tC_BadOffer : PySem.W.typeIn K (.ref C_BadOffer) = some (.type "type")) (kC_BadOffer : PySem.W.keepIn K (.ref C_BadOffer) = true)
    {I_BadOffer : Addr} {odI_BadOffer anI_BadOffer : Option Addr} {slI_BadOffer : Array (Option Value)} {ocI_BadOffer kVI_BadOffer dcI_BadOffer pmI_BadOffer cdI_BadOffer ctI_BadOffer : Value}
    (iC_BadOffer : PySem.W.findIn K (.ref C_BadOffer) "__init__" = some (some (.ref I_BadOffer))) (tI_BadOffer : PySem.W.typeIn K (.ref I_BadOffer) = some (.type "function"))
    (lI_BadOffer : K.lookup I_BadOffer = some ⟨ocI_BadOffer, odI_BadOffer, .func (PySem.W.fnOf "__init__" "BadOffer.__init__" (defArgs s_BadOffer) (defBody s_BadOffer) (defScope s_BadOffer) .none kVI_BadOffer dcI_BadOffer pmI_BadOffer anI_BadOffer cdI_BadOffer ctI_BadOffer), slI_BadOffer⟩) (cI_BadOffer : PySem.W.codeIn K cdI_BadOffer "BadOffer.__init__" = true) (kI_BadOffer : PySem.W.keepIn K (.ref I_BadOffer) = true)
    (n_BadOffer_number : PySem.W.findIn K (.ref C_BadOffer) "number" = some none)
    (z_all : PySem.W.nsIn K mainGlobals "all" = some none)
    (z_any : PySem.W.nsIn K mainGlobals "any" = some none)
    (z_bool : PySem.W.nsIn K mainGlobals "bool" = some none)
    (z_enumerate : PySem.W.nsIn K mainGlobals "enumerate" = some none)
    (z_int : PySem.W.nsIn K mainGlobals "int" = some none)
    (z_isinstance : PySem.W.nsIn K mainGlobals "isinstance" = some none)
    (z_len : PySem.W.nsIn K mainGlobals "len" = some none)
    (z_list : PySem.W.nsIn K mainGlobals "list" = some none)
    (z_max : PySem.W.nsIn K mainGlobals "max" = some none)
    (z_min : PySem.W.nsIn K mainGlobals "min" = some none)
    (z_range : PySem.W.nsIn K mainGlobals "range" = some none)
    (z_reversed : PySem.W.nsIn K mainGlobals "reversed" = some none)
    (z_set : PySem.W.nsIn K mainGlobals "set" = some none)
    (z_sorted : PySem.W.nsIn K mainGlobals "sorted" = some none)
    (z_sum : PySem.W.nsIn K mainGlobals "sum" = some none)
    (z_tuple : PySem.W.nsIn K mainGlobals "tuple" = some none)
    (z_zip : PySem.W.nsIn K mainGlobals "zip" = some none)
    {t_MOST_COST : Tok} (m_MOST_COST : PySem.W.nsIn K mainGlobals "MOST_COST" = some (some (.int 1000000 t_MOST_COST))) :
    ∃ fd : FuncData, (∀ (s : Shared) (v : Value), BindsTo s fd ⟨[v], []⟩ [("script", v)]) ∧ ∀ base : Heap, K.In base → base.Ns mainGlobals mg → Vz.FnG l.prog w K mg base CX0 7 fa fd ["script"] (sp_law K) := by
  have e := hfa.symm.trans (PySem.W.mg_of X G a23)
  cases e
  have F1 := fun_mk (st := s_is_int) l1 c1 k1
  have b1 := F1.binds (ps := ["value"]) fun _ _ _ _ _ _ us hl => match us, hl with | [_], _ => rfl
  have F2 := fun_mk (st := s_is_within) l2 c2 k2
  have b2 := F2.binds (ps := ["value", "low", "high"]) fun _ _ _ _ _ _ us hl => match us, hl with | [_, _, _], _ => rfl
  have F3 := fun_mk (st := s_lost) l3 c3 k3
  have b3 := F3.binds (ps := ["windows", "offers"]) fun _ _ _ _ _ _ us hl => match us, hl with | [_, _], _ => rfl
  have F4 := fun_mk (st := s_cheapest) l4 c4 k4
  have b4 := F4.binds (ps := ["windows", "offers"]) fun _ _ _ _ _ _ us hl => match us, hl with | [_, _], _ => rfl
  have F5 := fun_mk (st := s_shows_cheapest) l5 c5 k5
  have b5 := F5.binds (ps := ["windows", "offers", "plan", "pledges"]) fun _ _ _ _ _ _ us hl => match us, hl with | [_, _, _, _], _ => rfl
  have F6 := fun_mk (st := s__check) l6 c6 k6
  have b6 := F6.binds (ps := ["windows", "offers"]) fun _ _ _ _ _ _ us hl => match us, hl with | [_, _], _ => rfl
  have F7 := fun_mk (st := s__is_window) l7 c7 k7
  have b7 := F7.binds (ps := ["value"]) fun _ _ _ _ _ _ us hl => match us, hl with | [_], _ => rfl
  have F8 := fun_mk (st := s__is_offer) l8 c8 k8
  have b8 := F8.binds (ps := ["value"]) fun _ _ _ _ _ _ us hl => match us, hl with | [_], _ => rfl
  have F9 := fun_mk (st := s__spans) l9 c9 k9
  have b9 := F9.binds (ps := ["windows", "offers"]) fun _ _ _ _ _ _ us hl => match us, hl with | [_, _], _ => rfl
  have F10 := fun_mk (st := s__first_from) l10 c10 k10
  have b10 := F10.binds (ps := ["moments", "begin"]) fun _ _ _ _ _ _ us hl => match us, hl with | [_, _], _ => rfl
  have F11 := fun_mk (st := s__pledge) l11 c11 k11
  have b11 := F11.binds (ps := ["spans", "offers"]) fun _ _ _ _ _ _ us hl => match us, hl with | [_, _], _ => rfl
  have F12 := fun_mk (st := s__is_plan) l12 c12 k12
  have b12 := F12.binds (ps := ["windows", "spans", "offers", "value"]) fun _ _ _ _ _ _ us hl => match us, hl with | [_, _, _, _], _ => rfl
  have F13 := fun_mk (st := s__are_pledges) l13 c13 k13
  have b13 := F13.binds (ps := ["spans", "offers", "value"]) fun _ _ _ _ _ _ us hl => match us, hl with | [_, _, _], _ => rfl
  have F14 := fun_mk (st := s__law_begin) l14 c14 k14
  have b14 := F14.binds (ps := ["script"]) fun _ _ _ _ _ _ us hl => match us, hl with | [_], _ => rfl
  have F15 := fun_mk (st := s__law_mixed) l15 c15 k15
  have b15 := F15.binds (ps := ["cell", "k"]) fun _ _ _ _ _ _ us hl => match us, hl with | [_, _], _ => rfl
  have F16 := fun_mk (st := s__law_next) l16 c16 k16
  have b16 := F16.binds (ps := ["draw", "bound"]) fun _ _ _ _ _ _ us hl => match us, hl with | [_, _], _ => rfl
  have F17 := fun_mk (st := s__law_of) l17 c17 k17
  have b17 := F17.binds (ps := ["draw", "items"]) fun _ _ _ _ _ _ us hl => match us, hl with | [_, _], _ => rfl
  have F18 := fun_mk (st := s__law_asks) l18 c18 k18
  have b18 := F18.binds (ps := ["draw", "most", "far"]) fun _ _ _ _ _ _ us hl => match us, hl with | [_, _, _], _ => rfl
  have F19 := fun_mk (st := s__law_inside) l19 c19 k19
  have b19 := F19.binds (ps := ["window", "offers"]) fun _ _ _ _ _ _ us hl => match us, hl with | [_, _], _ => rfl
  have F20 := fun_mk (st := s__law_least) l20 c20 k20
  have b20 := F20.binds (ps := ["windows", "offers"]) fun _ _ _ _ _ _ us hl => match us, hl with | [_, _], _ => rfl
  have F21 := fun_mk (st := s__law_cost) l21 c21 k21
  have b21 := F21.binds (ps := ["windows", "offers"]) fun _ _ _ _ _ _ us hl => match us, hl with | [_, _], _ => rfl
  have F22 := fun_mk (st := s__law_turned) l22 c22 k22
  have b22 := F22.binds (ps := ["draw", "items"]) fun _ _ _ _ _ _ us hl => match us, hl with | [_, _], _ => rfl
  have F23 := fun_mk (st := s_law) l23 c23 k23
  have b23 := F23.binds (ps := ["script"]) fun _ _ _ _ _ _ us hl => match us, hl with | [_], _ => rfl
  have FI_BadWindow := fun_mk (st := s_BadWindow) lI_BadWindow cI_BadWindow kI_BadWindow
  have bI_BadWindow := FI_BadWindow.binds (ps := ["self", "number"]) fun _ _ _ _ _ _ us hl => match us, hl with | [_, _], _ => rfl
  have FI_BadOffer := fun_mk (st := s_BadOffer) lI_BadOffer cI_BadOffer kI_BadOffer
  have bI_BadOffer := FI_BadOffer.binds (ps := ["self", "number"]) fun _ _ _ _ _ _ us hl => match us, hl with | [_, _], _ => rfl
  let T : Txt K mg := { a_is_int := f1, d_is_int := _, F_is_int := F1, g_is_int := PySem.W.mg_of X G a1, b_is_int := b1, a_is_within := f2, d_is_within := _, F_is_within := F2, g_is_within := PySem.W.mg_of X G a2, b_is_within := b2, a_lost := f3, d_lost := _, F_lost := F3, g_lost := PySem.W.mg_of X G a3, b_lost := b3, a_cheapest := f4, d_cheapest := _, F_cheapest := F4, g_cheapest := PySem.W.mg_of X G a4, b_cheapest := b4, a_shows_cheapest := f5, d_shows_cheapest := _, F_shows_cheapest := F5, g_shows_cheapest := PySem.W.mg_of X G a5, b_shows_cheapest := b5, a__check := f6, d__check := _, F__check := F6, g__check := PySem.W.mg_of X G a6, b__check := b6, a__is_window := f7, d__is_window := _, F__is_window := F7, g__is_window := PySem.W.mg_of X G a7, b__is_window := b7, a__is_offer := f8, d__is_offer := _, F__is_offer := F8, g__is_offer := PySem.W.mg_of X G a8, b__is_offer := b8, a__spans := f9, d__spans := _, F__spans := F9, g__spans := PySem.W.mg_of X G a9, b__spans := b9, a__first_from := f10, d__first_from := _, F__first_from := F10, g__first_from := PySem.W.mg_of X G a10, b__first_from := b10, a__pledge := f11, d__pledge := _, F__pledge := F11, g__pledge := PySem.W.mg_of X G a11, b__pledge := b11, a__is_plan := f12, d__is_plan := _, F__is_plan := F12, g__is_plan := PySem.W.mg_of X G a12, b__is_plan := b12, a__are_pledges := f13, d__are_pledges := _, F__are_pledges := F13, g__are_pledges := PySem.W.mg_of X G a13, b__are_pledges := b13, a__law_begin := f14, d__law_begin := _, F__law_begin := F14, g__law_begin := PySem.W.mg_of X G a14, b__law_begin := b14, a__law_mixed := f15, d__law_mixed := _, F__law_mixed := F15, g__law_mixed := PySem.W.mg_of X G a15, b__law_mixed := b15, a__law_next := f16, d__law_next := _, F__law_next := F16, g__law_next := PySem.W.mg_of X G a16, b__law_next := b16, a__law_of := f17, d__law_of := _, F__law_of := F17, g__law_of := PySem.W.mg_of X G a17, b__law_of := b17, a__law_asks := f18, d__law_asks := _, F__law_asks := F18, g__law_asks := PySem.W.mg_of X G a18, b__law_asks := b18, a__law_inside := f19, d__law_inside := _, F__law_inside := F19, g__law_inside := PySem.W.mg_of X G a19, b__law_inside := b19, a__law_least := f20, d__law_least := _, F__law_least := F20, g__law_least := PySem.W.mg_of X G a20, b__law_least := b20, a__law_cost := f21, d__law_cost := _, F__law_cost := F21, g__law_cost := PySem.W.mg_of X G a21, b__law_cost := b21, a__law_turned := f22, d__law_turned := _, F__law_turned := F22, g__law_turned := PySem.W.mg_of X G a22, b__law_turned := b22, a_law := fa, d_law := _, F_law := F23, g_law := PySem.W.mg_of X G a23, b_law := b23, C_FeedError := C_FeedError, g_FeedError := PySem.W.mg_of X G g_FeedError, C_BadWindow := C_BadWindow, g_BadWindow := PySem.W.mg_of X G g_BadWindow, I_BadWindow := I_BadWindow, i_BadWindow := _, o_BadWindow := ⟨⟨_, _, _, _, _, _, _, _, _, _, _, _, _, _, _, x_BadWindow, rfl⟩, sa_BadWindow, eC_BadWindow, tC_BadWindow, kC_BadWindow⟩, iC_BadWindow := iC_BadWindow, tI_BadWindow := tI_BadWindow, FI_BadWindow := FI_BadWindow, bI_BadWindow := bI_BadWindow, n_BadWindow_number := n_BadWindow_number, C_BadOffer := C_BadOffer, g_BadOffer := PySem.W.mg_of X G g_BadOffer, I_BadOffer := I_BadOffer, i_BadOffer := _, o_BadOffer := ⟨⟨_, _, _, _, _, _, _, _, _, _, _, _, _, _, _, x_BadOffer, rfl⟩, sa_BadOffer, eC_BadOffer, tC_BadOffer, kC_BadOffer⟩, iC_BadOffer := iC_BadOffer, tI_BadOffer := tI_BadOffer, FI_BadOffer := FI_BadOffer, bI_BadOffer := bI_BadOffer, n_BadOffer_number := n_BadOffer_number, z_all := PySem.W.mg_none_of X G z_all, z_any := PySem.W.mg_none_of X G z_any, z_bool := PySem.W.mg_none_of X G z_bool, z_enumerate := PySem.W.mg_none_of X G z_enumerate, z_int := PySem.W.mg_none_of X G z_int, z_isinstance := PySem.W.mg_none_of X G z_isinstance, z_len := PySem.W.mg_none_of X G z_len, z_list := PySem.W.mg_none_of X G z_list, z_max := PySem.W.mg_none_of X G z_max, z_min := PySem.W.mg_none_of X G z_min, z_range := PySem.W.mg_none_of X G z_range, z_reversed := PySem.W.mg_none_of X G z_reversed, z_set := PySem.W.mg_none_of X G z_set, z_sorted := PySem.W.mg_none_of X G z_sorted, z_sum := PySem.W.mg_none_of X G z_sum, z_tuple := PySem.W.mg_none_of X G z_tuple, z_zip := PySem.W.mg_none_of X G z_zip, t_MOST_COST := t_MOST_COST, c_MOST_COST := PySem.W.mg_of X G m_MOST_COST }
  exact ⟨T.d_law, fun s v => .of_eq rfl, fun base _ _ => ok_law T⟩
theorem walk {l : PySem.W.OpenLaw} {q : Program} {loose : List Str} {XP : (Str → Option Value) → Heap → Prop} {YP : World → Heap → Prop} {d : DefRec} {K : Params → PySem.W.Frag} (hn : l.most = some 63) (hdf : d.params.defaults = [])
    (hY : ∀ (w : World) (h : Heap), YP w h → (K w.params).In h)
    (F : ∀ (w : World) (mg : Str → Option Value) (fa : Addr) (h : Heap), (K w.params).In h → h.Ns mainGlobals mg → mg d.name = some (.ref fa) →
      ∃ fd : FuncData, (∀ (s : Shared) (u : Value), BindsTo s fd ⟨[u], []⟩ [("script", u)]) ∧ ∀ base : Heap, (K w.params).In base → base.Ns mainGlobals mg → Vz.FnG l.prog w (K w.params) mg base CX0 7 fa fd ["script"] (sp_law (K w.params))) :
    PySem.W.WalkO q loose XP YP l.row.toRowW d [] (fun f vs => PySem.call f vs) :=
  Vz.walk_ofG (n := 63) (k := 7) (x := "script") (sp := fun K => sp_law K) hn (by decide) hdf ⟨rfl, by decide, by decide⟩ hY F (fun K H a ns hl hO hS => law_in K H a ns hl hO hS)
end Toy
open PySem PySem.W PyProof.Rows in
set_option maxRecDepth 100000 in
set_option maxHeartbeats 0 in
theorem PySem.Challenge.cw_feedreader_k93_whole_least_costs_holds : PySem.Challenge.rw_feedreader_k93_whole_least_costs.Holds := by
  w_on; o_law; k_head; (case hw => w_witness2)
  k_fill
  refine Toy.walk (l := PySem.Challenge.rw_feedreader_k93_whole_least_costs) rfl rfl (fun w h Y => PySem.W.kIn_of Y) ?F
  case F =>
    intro w mg fa h KX G hmg
    refine' Toy.all_mk KX G hmg ?a1 ?l1 ?c1 ?k1 ?a2 ?l2 ?c2 ?k2 ?a3 ?l3 ?c3 ?k3 ?a4 ?l4 ?c4 ?k4 ?a5 ?l5 ?c5 ?k5 ?a6 ?l6 ?c6 ?k6 ?a7 ?l7 ?c7 ?k7 ?a8 ?l8 ?c8 ?k8 ?a9 ?l9 ?c9 ?k9 ?a10 ?l10 ?c10 ?k10 ?a11 ?l11 ?c11 ?k11 ?a12 ?l12 ?c12 ?k12 ?a13 ?l13 ?c13 ?k13 ?a14 ?l14 ?c14 ?k14 ?a15 ?l15 ?c15 ?k15 ?a16 ?l16 ?c16 ?k16 ?a17 ?l17 ?c17 ?k17 ?a18 ?l18 ?c18 ?k18 ?a19 ?l19 ?c19 ?k19 ?a20 ?l20 ?c20 ?k20 ?a21 ?l21 ?c21 ?k21 ?a22 ?l22 ?c22 ?k22 ?a23 ?l23 ?c23 ?k23 ?g_FeedError ?g_BadWindow ?x_BadWindow ?sa_BadWindow ?eC_BadWindow ?tC_BadWindow ?kC_BadWindow ?iC_BadWindow ?tI_BadWindow ?lI_BadWindow ?cI_BadWindow ?kI_BadWindow ?n_BadWindow_number ?g_BadOffer ?x_BadOffer ?sa_BadOffer ?eC_BadOffer ?tC_BadOffer ?kC_BadOffer ?iC_BadOffer ?tI_BadOffer ?lI_BadOffer ?cI_BadOffer ?kI_BadOffer ?n_BadOffer_number ?z_all ?z_any ?z_bool ?z_enumerate ?z_int ?z_isinstance ?z_len ?z_list ?z_max ?z_min ?z_range ?z_reversed ?z_set ?z_sorted ?z_sum ?z_tuple ?z_zip ?m_MOST_COST
    (case a1 => first | k_is | kit_is)
    (case l1 => first | k_is | kit_is)
    (case c1 => first | k_is | kit_is)
    (case k1 => first | k_is | kit_is)
    (case a2 => first | k_is | kit_is)
    (case l2 => first | k_is | kit_is)
    (case c2 => first | k_is | kit_is)
    (case k2 => first | k_is | kit_is)
    (case a3 => first | k_is | kit_is)
    (case l3 => first | k_is | kit_is)
    (case c3 => first | k_is | kit_is)
    (case k3 => first | k_is | kit_is)
    (case a4 => first | k_is | kit_is)
    (case l4 => first | k_is | kit_is)
    (case c4 => first | k_is | kit_is)
    (case k4 => first | k_is | kit_is)
    (case a5 => first | k_is | kit_is)
    (case l5 => first | k_is | kit_is)
    (case c5 => first | k_is | kit_is)
    (case k5 => first | k_is | kit_is)
    (case a6 => first | k_is | kit_is)
    (case l6 => first | k_is | kit_is)
    (case c6 => first | k_is | kit_is)
    (case k6 => first | k_is | kit_is)
    (case a7 => first | k_is | kit_is)
    (case l7 => first | k_is | kit_is)
    (case c7 => first | k_is | kit_is)
    (case k7 => first | k_is | kit_is)
    (case a8 => first | k_is | kit_is)
    (case l8 => first | k_is | kit_is)
    (case c8 => first | k_is | kit_is)
    (case k8 => first | k_is | kit_is)
    (case a9 => first | k_is | kit_is)
    (case l9 => first | k_is | kit_is)
    (case c9 => first | k_is | kit_is)
    (case k9 => first | k_is | kit_is)
    (case a10 => first | k_is | kit_is)
    (case l10 => first | k_is | kit_is)
    (case c10 => first | k_is | kit_is)
    (case k10 => first | k_is | kit_is)
    (case a11 => first | k_is | kit_is)
    (case l11 => first | k_is | kit_is)
    (case c11 => first | k_is | kit_is)
    (case k11 => first | k_is | kit_is)
    (case a12 => first | k_is | kit_is)
    (case l12 => first | k_is | kit_is)
    (case c12 => first | k_is | kit_is)
    (case k12 => first | k_is | kit_is)
    (case a13 => first | k_is | kit_is)
    (case l13 => first | k_is | kit_is)
    (case c13 => first | k_is | kit_is)
    (case k13 => first | k_is | kit_is)
    (case a14 => first | k_is | kit_is)
    (case l14 => first | k_is | kit_is)
    (case c14 => first | k_is | kit_is)
    (case k14 => first | k_is | kit_is)
    (case a15 => first | k_is | kit_is)
    (case l15 => first | k_is | kit_is)
    (case c15 => first | k_is | kit_is)
    (case k15 => first | k_is | kit_is)
    (case a16 => first | k_is | kit_is)
    (case l16 => first | k_is | kit_is)
    (case c16 => first | k_is | kit_is)
    (case k16 => first | k_is | kit_is)
    (case a17 => first | k_is | kit_is)
    (case l17 => first | k_is | kit_is)
    (case c17 => first | k_is | kit_is)
    (case k17 => first | k_is | kit_is)
    (case a18 => first | k_is | kit_is)
    (case l18 => first | k_is | kit_is)
    (case c18 => first | k_is | kit_is)
    (case k18 => first | k_is | kit_is)
    (case a19 => first | k_is | kit_is)
    (case l19 => first | k_is | kit_is)
    (case c19 => first | k_is | kit_is)
    (case k19 => first | k_is | kit_is)
    (case a20 => first | k_is | kit_is)
    (case l20 => first | k_is | kit_is)
    (case c20 => first | k_is | kit_is)
    (case k20 => first | k_is | kit_is)
    (case a21 => first | k_is | kit_is)
    (case l21 => first | k_is | kit_is)
    (case c21 => first | k_is | kit_is)
    (case k21 => first | k_is | kit_is)
    (case a22 => first | k_is | kit_is)
    (case l22 => first | k_is | kit_is)
    (case c22 => first | k_is | kit_is)
    (case k22 => first | k_is | kit_is)
    (case a23 => first | k_is | kit_is)
    (case l23 => first | k_is | kit_is)
    (case c23 => first | k_is | kit_is)
    (case k23 => first | k_is | kit_is)
    (case g_FeedError => first | k_is | kit_is)
    (case g_BadWindow => first | k_is | kit_is)
    (case x_BadWindow => first | k_is | kit_is)
    (case sa_BadWindow => first | k_is | kit_is)
    (case eC_BadWindow => first | k_is | kit_is)
    (case tC_BadWindow => first | k_is | kit_is)
    (case kC_BadWindow => first | k_is | kit_is)
    (case iC_BadWindow => first | k_is | kit_is)
    (case tI_BadWindow => first | k_is | kit_is)
    (case lI_BadWindow => first | k_is | kit_is)
    (case cI_BadWindow => first | k_is | kit_is)
    (case kI_BadWindow => first | k_is | kit_is)
    (case n_BadWindow_number => first | k_is | kit_is)
    (case g_BadOffer => first | k_is | kit_is)
    (case x_BadOffer => first | k_is | kit_is)
    (case sa_BadOffer => first | k_is | kit_is)
    (case eC_BadOffer => first | k_is | kit_is)
    (case tC_BadOffer => first | k_is | kit_is)
    (case kC_BadOffer => first | k_is | kit_is)
    (case iC_BadOffer => first | k_is | kit_is)
    (case tI_BadOffer => first | k_is | kit_is)
    (case lI_BadOffer => first | k_is | kit_is)
    (case cI_BadOffer => first | k_is | kit_is)
    (case kI_BadOffer => first | k_is | kit_is)
    (case n_BadOffer_number => first | k_is | kit_is)
    (case z_all => first | k_is | kit_is)
    (case z_any => first | k_is | kit_is)
    (case z_bool => first | k_is | kit_is)
    (case z_enumerate => first | k_is | kit_is)
    (case z_int => first | k_is | kit_is)
    (case z_isinstance => first | k_is | kit_is)
    (case z_len => first | k_is | kit_is)
    (case z_list => first | k_is | kit_is)
    (case z_max => first | k_is | kit_is)
    (case z_min => first | k_is | kit_is)
    (case z_range => first | k_is | kit_is)
    (case z_reversed => first | k_is | kit_is)
    (case z_set => first | k_is | kit_is)
    (case z_sorted => first | k_is | kit_is)
    (case z_sum => first | k_is | kit_is)
    (case z_tuple => first | k_is | kit_is)
    (case z_zip => first | k_is | kit_is)
    (case m_MOST_COST => first | k_is | kit_is)

