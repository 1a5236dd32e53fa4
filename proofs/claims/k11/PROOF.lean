import PyProof.Rows.All
import Wide.All
import OpenK.AllK
import Wide.FinOn
import HandS.ForMost
import HandS.TupAny
import HandS.IsInst
import HandS.Flow
import HandS.Style
import HandS.Zip
import KE.GoesNew
import PyProof.ReprRoads
import PyProof.Rows.SeqMore
import HandS.Walk
import KE.GoesMore
import PyProof.Rows.IntBool
import HandS.ForExc
import HandS.ExcInit
import HandS.Defaults
import HandS.ExcIs
import HandS.ExcField
import HandS.ExcValue
import KE.KExcIs
import KE.KIsAll
import HandS.FStr
import PyProof.Rows.StrIntSpec
import HandS.Words
import HandS.List
import HandS.Text
import HandS.DeepEq
import PyProof.ReprLen
import HandS.Lambda
import HandS.EndTab
import HandS.SortKw
import HandS.Keys
import HandS.Iter
import KE.DataMinKey
import KE.DataCmp
import PyProof.Rows.StrFit
import HandS.Comp
import HandS.NoneIn
import PyProof.Rows.RegReprOcc
import KE.KNestM
import PySem.Challenge.RW_feedreader_k11_whole_shortest_references
set_option Elab.async false
set_option linter.all false
set_option maxRecDepth 100000
set_option maxHeartbeats 2000000
/-! Rules that the dates' laws want beside the layer's: repr of data, a list behind the script, zip of a tuple and a list, calls of defs where nothing is being shown by repr. -/
namespace Vz
open PySem PySem.Spec PyProof.Rows L2

/-! ### repr of data -/
def rRepr (K : PySem.W.Frag) : List V → Hp → VK → Prop := fun xs H Q =>
  ∃ (p : Addr) (d : PyData), xs = [.ref p] ∧ Dp K H (.ref p) d ∧ d.showable = true ∧ d.hasDict = false ∧ d.depth ≤ 60 ∧ d.shown.length ≤ sizeLine ∧ Q (.str d.shown) H
theorem repr_data {X : Cx} (gd : X.A.guards = some []) (un : X.A.units + 64 < cLine) : CallR X (.builtin "repr") (rRepr X.K) := by
  intro pins s σ H xs us Q I r h
  obtain ⟨p, d, rfl, hd, sh, nd, dp, sz, q⟩ := h
  obtain ⟨u, rfl, ru⟩ := vals1 r
  obtain ⟨as, rd⟩ := Dp.reads I d _ _ hd ru
  have ru' : u = Value.ref p := ru
  subst ru'
  refine repr_of_reads' rd sh (fun z => ?_) gd (by omega) (fun _ _ e => e) (fun h' tx tk kp => ?_) sz
  · rw [nd] at z; cases z
  · exact ⟨.str d.shown, H, I.kept (t' := tk) kp, ⟨tx, rfl⟩, q⟩

/-! ### a list that is only read, and another one behind it -/
def rCatR (K : PySem.W.Frag) : R2 := fun x y H Q => ∃ (a b : Addr) (xs zs : List V), x = .ref a ∧ y = .ref b ∧ SqL K H a xs ∧ SqL K H b zs ∧ xs.length + zs.length ≤ sizeLine ∧
  ∀ p, H p = none → Q (.ref p) (upd H p (.lst (xs ++ zs)))
theorem op_catR {X : Cx} : OpR X (binaryOp .Add) (rCatR X.K) := by
  intro pins s σ H x y v u Q I rx ry h
  obtain ⟨a, b, xs, zs, rfl, rfl, hA, hB, sz, q⟩ := h
  have ex : v = Value.ref a := rx
  have ey : u = Value.ref b := ry
  subst ex ey
  obtain ⟨its, r1, ⟨o1, n1, g1, c1, d1, e1⟩, _⟩ := I.list hA
  obtain ⟨its2, r2, ⟨o2, n2, g2, c2, d2, e2⟩, _⟩ := I.list hB
  obtain ⟨cl1, dd1, da1, sl1⟩ := o1
  obtain ⟨cl2, dd2, da2, sl2⟩ := o2
  simp only at c1 d1 e1 c2 d2 e2
  subst c1 d1 e1 c2 d2 e2
  have l1 := r1.length
  have l2 := r2.length
  have room : its.toArray.size + its2.toArray.size ≤ sizeLine := by rw [List.size_toArray, List.size_toArray]; omega
  refine concat_meets ⟨_, g1, rfl⟩ ⟨_, g2, rfl⟩ noFill_list_add seq_list_add PySem.F.slot_list_add PySem.F.entry_list_add (PySem.F.args_list_add_2 _ _)
    (list_addW a b its.toArray its2.toArray n1 n2 none none sl1 sl2 room) ⟨g1, g2, ?_⟩
  have ea : its.toArray ++ its2.toArray = (its ++ its2).toArray := by simp
  rw [ea]
  exact ⟨.ref _, _, I.lnew (t' := s.toks) (r1.append r2) (by rw [List.length_append]; omega), rfl, q _ I.fresh⟩

/-! ### calls where no repr is under way -/
structure FnG (P : Program) (w : World) (K : PySem.W.Frag) (mg : Str → Option Value) (base : Heap) (CX : CXT) (k : Nat) (f : Addr) (fd : FuncData) (ps : List Str) (sp : Sp) : Prop where
  many : ∀ vs H Q E, sp vs H Q E → vs.length = ps.length
  goes : ∀ (A : Around) (outer : List Env) (s : Shared) (H : Hp) (args : Args) (us : List Value) (vs : List V) (Q : VK) (E : XK),
    Room k A → A.guards = some [] → Env0 P w K mg base A outer s H → BindsTo s fd args (ps.zip us) → Vals vs us → sp vs H Q E →
    codeAny (model P w) A (.call (.ref f) args) (CR CX outer P w H s Q E) s

section
variable {X : Cx} {CX : CXT} {k : Nat} {f : Addr} {fd : FuncData} {ps : List Str} {sp : Sp} {ds : List Value} {dvs : List V} {E : XK}
theorem pe_callG {x : Str} {p pos : Pos} {e : Expr} {es : List Expr} {t : TA} (G : FnG X.prog X.w X.K X.mg X.base CX k f fd ps sp) (gd : X.A.guards = some []) (hr : Room k X.A) (gl : Gl X x)
    (at_ : X.mg x = some (.ref f)) (kp : PySem.W.keepIn X.K (.ref f) = true) (bd : Binds X.K fd ps ds) (dv : Vals dvs ds) (ps0 : Passes CX X E) (pa : PA X (e :: es) t)
    (nodb : (x == ("__debug__" : Str)) = false := by decide) (st : starEach (e :: es) X.env = (false, eval e X.env) :: starEach es X.env := by rfl)
    (pl : (backTo pos (starEach es X.env)).any (·.1) = false := by rfl) :
    PE X (.Call (.Name x p) (e :: es) [] pos) (tCall sp dvs E t) := by
  constructor
  intro pins s σ H Q I h
  apply wpAny_Call_Name_kw
  refine ld_glob I gl at_ ?_ nodb
  refine PySem.W.callWith_K (h₀ := X.base) I.ok.mod.kin kp (thn (pa.run pos pins s σ H _ I h) ?_) st pl
  rintro us s1 ⟨vs, H1, I1, r, q⟩
  refine ⟨I1.kIn, ?_⟩
  have rr : Vals (vs ++ dvs) (us ++ ds) := r.append dv
  have many : (us ++ ds).length = ps.length := by rw [← rr.length]; exact G.many _ _ _ _ q
  apply wpAny_call
  refine codeAny_mono (G.goes X.A X.stack s1 H1 ⟨us, []⟩ _ _ Q E hr gd I1.env0 (bd s1 us I1.kIn many) rr q) ?_
  rintro (err | fl) s' hq
  · exact ps0 pins σ H1 s1 err s' I1 hq
  · cases fl
    case ret u => exact I1.after hq
    all_goals exact hq.elim
end

/-- the rule for a def of the text, where no repr is under way -/
theorem Fun.okG {P : Program} {w : World} {K : PySem.W.Frag} {mg : Str → Option Value} {base : Heap} {x qual : Str} {st : Stmt} {f : Addr} {fd : FuncData} {N ps : List Str} {k : Nat} {sp : Sp}
    (F : Fun K x qual st f fd) (S : FnScope N ps (defScope st)) (many : ∀ vs H Q E, sp vs H Q E → vs.length = ps.length)
    (body : ∀ (cdv : Value) (A : Around) (outer : List Env) (s : Shared) (H : Hp) (vs : List V) (Q : VK) (E : XK), A.guards = some [] → Room k (A.deeper (envOfC qual (defScope st) s.heap.objs.size f cdv)) → sp vs H Q E →
      ∃ t, PSs (cxOf CX0 P w K mg base N qual (defScope st) f cdv A outer s H E).nox (defBody st) t ∧ t { nx := fun _ H' => Q .non H', rt := Q } (start N vs) H) :
    FnG P w K mg base CX0 (k + 1) f fd ps sp := by
  obtain ⟨oc, od, kV, doc, pm, an, cdv, ct, osl, rfl, lk, hcd⟩ := F.ex
  refine ⟨many, ?_⟩
  intro A outer s H args us vs Q E hr gd e0 hb r hsp
  have nn := many _ _ _ _ hsp
  have inn : K.In s.heap := e0.mod.kin.keeps (fun b o e => (e0.bs b o e).1)
  have li : s.heap.NoLimit := e0.mod.nolimit.keeps (fun b o e => (e0.bs b o e).1)
  have kinds : ∀ y ∈ ps.zip us, (defScope st).names.lookup y.1 = some .local ∨
      ((defScope st).names.lookup y.1 = some .cell ∧ ((cellsFrom (s.heap.objs.size + 1) (defScope st).names []).lookup y.1).isSome = true) := by
    rintro ⟨n, v⟩ hy
    cases S.par n (List.of_mem_zip hy).1 with
    | inl z => exact .inl z
    | inr z => exact .inr ⟨z, PySem.W.cellsFrom_some _ _ _ (.inl z)⟩
  refine codeAny_call_function hr.depth (inn _ _ lk) rfl S.co S.gen rfl (PySem.W.codeRec_of inn hcd) (hb _ _ _ _ ?_)
  refine wpAny_newFunctionEnv_cells S.kind kinds ?_
  intro env he s1 y
  subst he
  refine ⟨li.keeps y.toInCall.keep, ?_⟩
  apply codeAny_func
  obtain ⟨t, pt, qt⟩ := body cdv A outer s H vs Q E gd (hr.deeper _) hsp
  have I : Inv (cxOf CX0 P w K mg base N qual (defScope st) f cdv A outer s H E) [] (start N vs) H s1 := inv_start S hr.hd e0 nn r y
  refine wpAny_mono (pt.nox.run [] s1 (start N vs) H _ I qt) ?_ (fun e s' z => z)
  intro fl s' z
  have close : ∀ {σ' : L2.St} {H' : Hp} {v : V} {u : Value}, Inv (cxOf CX0 P w K mg base N qual (defScope st) f cdv A outer s H E) [] σ' H' s' → RelV v u → Q v H' → CE outer P w H s Q u s' := by
    intro σ' H' v u J rv q
    exact ⟨v, H', J.os, J.bare, J.base, J.hok, rv, q⟩
  match fl, z with
  | .ret u, z => obtain ⟨v, σ', H', J, rv, q⟩ := z; exact close J rv q
  | .next, z => obtain ⟨σ', H', J, q⟩ := z; exact close (v := V.non) (u := Value.none) J rfl q
  | .brk, z => obtain ⟨_, _, _, q⟩ := z; exact q.elim
  | .cont, z => obtain ⟨_, _, _, q⟩ := z; exact q.elim

/-! ### the end of a law, its def shown where no repr is under way -/
theorem end_call {P : Program} {w : World} {K : PySem.W.Frag} {mg mb : Str → Option Value} {k : Nat} {fa a : Addr} {fd : FuncData} {x : Str} {sp : Sp} {s₁ : Shared} {vs : List Value} {ns : List Int}
    (inn : K.In s₁.heap) (gns : s₁.heap.Ns mainGlobals mg) (bns : s₁.heap.Ns builtinsNs mb) (bb : ∀ x : Str, x ≠ "__name__" → mb x = bootBuiltins x) (li : s₁.heap.NoLimit) (nog : s₁.gens = #[])
    (obj : s₁.heap.get? a = some { cls := .type "list", data := .seq vs.toArray }) (areI : IntsAre vs ns) (few : ns.length ≤ sizeLine) (hr : Room k callerA)
    (G : ∀ base : Heap, K.In base → base.Ns mainGlobals mg → FnG P w K mg base CX0 k fa fd [x] sp) (bind : ∀ (s : Shared) (u : Value), BindsTo s fd ⟨[u], []⟩ [(x, u)])
    (hsp : ∀ H : Hp, Only H → SqL K H a (ns.map V.int) → sp [.ref a] H (fun v _ => v = .bl true) E0) :
    codeAny (model P w) callerA (.call (.ref fa) ⟨[.ref a], []⟩) (fun r s' => r = .ok (.ret (.bool true)) ∧ OldK s₁.heap s'.heap ∧ s'.os = s₁.os ∧ AllBare s'.gens) s₁ := by
  have main : ∀ H : Hp, Only H → SqL K H a (ns.map V.int) → HOk P w H s₁.heap → (∀ b, H b ≠ none → b = a) → (H a ≠ none → K.lookup a = none) →
      codeAny (model P w) callerA (.call (.ref fa) ⟨[.ref a], []⟩) (fun r s' => r = .ok (.ret (.bool true)) ∧ OldK s₁.heap s'.heap ∧ s'.os = s₁.os ∧ AllBare s'.gens) s₁ := by
    intro H only hS hok alone apart
    have shown : ∀ {b : Addr} {o : Obj}, s₁.heap.get? b = some o → H b = none → (hidT s₁.heap H).get? b = some o := fun e n => hidT_get e n
    have dicts : ∀ {b : Addr} {o : Obj} {es : Array DictEntry} {ep : Nat}, s₁.heap.get? b = some o → o.data = .dict es ep → H b = none := by
      intro b o es ep e d
      by_cases z : H b = none
      · exact z
      · have eb := alone b z
        rw [eb, obj] at e
        cases e
        cases (show Data.seq vs.toArray _ = Data.dict es ep from d)
    have nsK : ∀ {b : Addr} {m : Str → Option Value}, s₁.heap.Ns b m → (hidT s₁.heap H).Ns b m := by
      rintro b m ⟨o, es, ep, e, d, r⟩
      exact ⟨o, es, ep, shown e (dicts e d), d, r⟩
    have inb : K.In (hidT s₁.heap H) := by
      intro b o e
      refine shown (inn b o e) ?_
      by_cases z : H b = none
      · exact z
      · have eb := alone b z
        subst eb
        rw [apart z] at e
        cases e
    have md : Mod K mg (hidT s₁.heap H) := by
      obtain ⟨mc, l1, l2⟩ := li
      exact ⟨inb, nsK gns, ⟨mb, nsK bns, bb⟩, ⟨mc, nsK l1, l2⟩⟩
    have ev : Env0 P w K mg (hidT s₁.heap H) callerA [] s₁ H :=
      ⟨rfl, md, fun b o e => of_hidT e, Nat.le_of_eq (hidT_size _ _), trivial, fun b hb => absurd (show b ∈ ([] : List Addr) from hb) (by simp), hok, .of_eq nog⟩
    refine codeAny_mono ((G _ inb (nsK gns)).goes callerA [] s₁ H ⟨[.ref a], []⟩ [.ref a] [.ref a] _ _ hr rfl ev (bind s₁ (.ref a)) (.cons rfl .nil) (hsp H only hS)) ?_
    rintro (err | fl) s' z
    · exact (show False from z).elim
    · cases fl
      case ret u =>
        obtain ⟨v, H', os, bare, un, hok', rv, qv⟩ := z
        have qv' : v = .bl true := qv
        subst qv'
        have eu : u = Value.bool true := rv
        subst eu
        refine ⟨rfl, OldK.of_keep ?_, os, bare⟩
        intro b o e
        cases c : H b with
        | none => exact un.keep b o e c (by intro z; exact absurd (show b ∈ ([] : List Addr) from z) (by simp)) (by simp)
        | some ob =>
          rcases only b with z | ⟨o2, xs, z⟩
          · rw [c] at z; cases z
          · obtain ⟨e1, _⟩ := hok b _ z
            obtain ⟨e2, _⟩ := hok' b _ (un.frzs b o2 _ z)
            rw [e] at e1; cases e1
            exact e2
      all_goals exact (show False from z).elim
  have rv := vals_ints areI
  have sz := areI.length
  cases c : K.lookup a with
  | some o =>
    have e := inn a o c
    rw [obj] at e
    cases e
    refine main (fun _ => none) (fun _ => .inl rfl) (.inr ⟨_, vs.toArray, _, c, rfl, rfl, rfl, ?_, ?_⟩) (fun b u z => ?_) (fun b z => absurd rfl z) (fun z => absurd rfl z)
    · rw [List.size_toArray, sz]; exact few
    · simpa using rv
    · cases (show (none : Option HO) = some u from z)
  | none =>
    let H : Hp := fun b => if b = a then some (.frz { cls := .type "list", data := .seq vs.toArray } (.lst (ns.map V.int))) else none
    have there : H a = some (.frz { cls := .type "list", data := .seq vs.toArray } (.lst (ns.map V.int))) := if_pos rfl
    have else_ : ∀ {b}, b ≠ a → H b = none := fun h => if_neg h
    refine main H (fun b => ?_) (.inl (.inr ⟨_, there⟩)) (fun b u z => ?_) (fun b z => ?_) (fun _ => c)
    · by_cases hb : b = a
      · subst hb; exact .inr ⟨_, _, there⟩
      · exact .inl (else_ hb)
    · by_cases hb : b = a
      · subst hb
        rw [there] at z
        cases z
        exact ⟨obj, by rw [List.length_map]; exact few, vs, _, rv, obj⟩
      · rw [else_ hb] at z; cases z
    · by_cases hb : b = a
      · exact hb
      · exact absurd (else_ hb) z
theorem walk_ofG {l : PySem.W.OpenLaw} {n k : Nat} {q : Program} {loose : List Str} {XP : (Str → Option Value) → Heap → Prop} {YP : World → Heap → Prop} {d : DefRec} {K : Params → PySem.W.Frag} {sp : PySem.W.Frag → Sp} {x : Str}
    (hn : l.most = some n) (hn2 : n ≤ sizeLine) (hdf : d.params.defaults = []) (hr : Room k callerA) (hY : ∀ (w : World) (h : Heap), YP w h → (K w.params).In h)
    (F : ∀ (w : World) (mg : Str → Option Value) (fa : Addr) (h : Heap), (K w.params).In h → h.Ns mainGlobals mg → mg d.name = some (.ref fa) →
      ∃ fd : FuncData, (∀ (s : Shared) (u : Value), BindsTo s fd ⟨[u], []⟩ [(x, u)]) ∧
        ∀ base : Heap, (K w.params).In base → base.Ns mainGlobals mg → FnG l.prog w (K w.params) mg base CX0 k fa fd [x] (sp (K w.params)))
    (hsp : ∀ (K : PySem.W.Frag) (H : Hp) (a : Addr) (ns : List Int), ns.length ≤ n → Only H → SqL K H a (ns.map V.int) → sp K [.ref a] H (fun v _ => v = .bl true) E0) :
    PySem.W.WalkO q loose XP YP l.row.toRowW d [] (fun f vs => PySem.call f vs) := by
  apply Att.attach_call hn hdf
  intro w s₀ s₁ mg mb fa o pm cd doc a vs ns G Y ho hd hcd hmg hobj hints hlen hg
  have inn := hY w _ Y
  obtain ⟨fd, hb, hF⟩ := F w mg fa _ inn G.T.g hmg
  exact end_call inn G.T.g G.T.b G.T.builtins G.T.nolimit hg hobj hints (Nat.le_trans hlen hn2) hr hF hb (fun H h1 h2 => hsp (K w.params) H a ns hlen h1 h2)
end Vz
set_option Elab.async false
set_option linter.all false
set_option maxRecDepth 100000
set_option maxHeartbeats 2000000
namespace Vz
open PySem PySem.Spec PyProof.Rows L2

/-! ### a whole number or a truth value, and a whole number -/
def numI : V → Option Int
  | .int i => some i
  | .bl b => some (if b = true then 1 else 0)
  | _ => none
def rNumI (g : Int → Int → Int) : R2 := fun x y H Q => ∃ i j, numI x = some i ∧ y = .int j ∧ Q (.int (g i j)) H
theorem op_addB {X : Cx} : OpR X (binaryOp .Add) (rNumI fun i j => i + j) := by
  intro pins s σ H x y v u Q I rx ry h
  obtain ⟨i, j, e, rfl, q⟩ := h
  obtain ⟨t, rfl⟩ := ry
  cases x <;> simp only [numI, Option.some.injEq, reduceCtorEq] at e
  case bl b =>
    subst e
    have ev : v = Value.bool b := rx
    subst ev
    exact PySem.IntBool.add_bool_int ⟨.int _, H, I.tok _, ⟨_, rfl⟩, q⟩
  case int k =>
    subst e
    obtain ⟨t', rfl⟩ := rx
    exact add_int ⟨.int _, H, I.tok _, ⟨_, rfl⟩, q⟩
theorem op_subB {X : Cx} : OpR X (binaryOp .Sub) (rNumI fun i j => i - j) := by
  intro pins s σ H x y v u Q I rx ry h
  obtain ⟨i, j, e, rfl, q⟩ := h
  obtain ⟨t, rfl⟩ := ry
  cases x <;> simp only [numI, Option.some.injEq, reduceCtorEq] at e
  case bl b =>
    subst e
    have ev : v = Value.bool b := rx
    subst ev
    exact PySem.IntBool.sub_bool_int ⟨.int _, H, I.tok _, ⟨_, rfl⟩, q⟩
  case int k =>
    subst e
    obtain ⟨t', rfl⟩ := rx
    exact sub_int ⟨.int _, H, I.tok _, ⟨_, rfl⟩, q⟩

/-! ### zip of a tuple and a list -/
def ItM (K : PySem.W.Frag) (a b : Addr) : It where
  go := fun i H => ∃ (xs ys : List V) (x y : V), SqT K H a xs ∧ SqL K H b ys ∧ xs[i]? = some x ∧ ys[i]? = some y
  yld := fun i H v H' => ∃ T x y, v = .ref T ∧ H T = none ∧ H' = upd H T (.tup [x, y]) ∧ (∀ xs, SqT K H a xs → xs[i]? = some x) ∧ ∀ ys, SqL K H b ys → ys[i]? = some y
  stop := fun i H => ∃ xs ys : List V, SqT K H a xs ∧ SqL K H b ys ∧ i = min xs.length ys.length
theorem walk_zipM {K : PySem.W.Frag} {a b : Addr} {xs ys : List V} {n : Nat} (hn : n = min xs.length ys.length) :
    Walk (ItM K a b) n (fun H => SqT K H a xs ∧ SqL K H b ys) (YPair (fun i => xs[i]?) (fun i => ys[i]?)) := by
  subst hn
  constructor
  · intro i H hi g
    exact ⟨xs, ys, xs[i]'(by omega), ys[i]'(by omega), g.1, g.2, by simp, by simp⟩
  · intro H g
    exact ⟨xs, ys, g.1, g.2, rfl⟩
  · rintro i H v H' hi g ⟨T, x, y, e, nT, eH, fx, fy⟩
    exact ⟨T, x, y, e, nT, eH, fx xs g.1, fy ys g.2⟩
def MSt (z TI TO i1 i2 a b : Addr) (i : Nat) (h : Heap) : Prop :=
  IsZip h z TI TO .none ∧ IsTupOf2 h TI (.ref i1) (.ref i2) ∧ (∃ c1 c2, IsTupOf2 h TO c1 c2) ∧ h.IsTupleIter i1 a i ∧ h.IsListIter i2 b i
theorem turn_zipM {P : Program} {w : World} {K : PySem.W.Frag} {elts : List Expr} {kk : Nat} {tpos : Pos} {a b z TI TO i1 i2 : Addr} (D : ZipSep2 z TI TO i1 i2 [i1, a] [i2, b]) (n1 : a ≠ i1) (n2 : b ≠ i2) :
    Turn P w K (.Tuple elts kk tpos) (ItM K a b) [z, TI, TO, i1, i2] z (MSt z TI TO i1 i2 a b) where
  mem := by simp
  obj := by
    rintro i h ⟨hz, hTI, ⟨c1, c2, hTO⟩, ⟨o1, e1, _, d1⟩, ⟨o2, e2, _, d2⟩⟩ c hc
    simp only [List.mem_cons, List.not_mem_nil, or_false] at hc
    rcases hc with rfl | rfl | rfl | rfl | rfl
    · exact ⟨_, hz, fun v q => nomatch q⟩
    · exact ⟨_, hTI, fun v q => nomatch q⟩
    · exact ⟨_, hTO, fun v q => nomatch q⟩
    · exact ⟨o1, e1, fun v q => by rw [d1] at q; cases q⟩
    · exact ⟨o2, e2, fun v q => by rw [d2] at q; cases q⟩
  keep := by
    rintro i h h' ⟨hz, hTI, ⟨c1, c2, hTO⟩, h1, h2⟩ k
    refine ⟨k z (by simp) _ hz, k TI (by simp) _ hTI, ⟨c1, c2, k TO (by simp) _ hTO⟩, ?_, ?_⟩
    · exact h1.at (fun o q => k i1 (by simp) o q)
    · exact h2.at (fun o q => k i2 (by simp) o q)
  item := by
    intro X hP hw hK calm i pins s σ H E I free st go
    subst hP hw hK
    obtain ⟨hz, hTI, hTO, h1, h2⟩ := st
    obtain ⟨xs, ys, x, y, gx, gy, ex, ey⟩ := go
    obtain ⟨its, rv, p, _⟩ := I.tuple gx
    obtain ⟨its2, rv2, p2, _⟩ := I.list gy
    have hh : X.A.in1.handled = none := I.ok.hd calm
    have dT := Draws.tuple (prog := X.prog) (w := X.w) (A := X.A.in1) hh i1 a n1 its.toArray
    have dL := Draws.list (prog := X.prog) (w := X.w) (A := X.A.in1) hh i2 b n2 its2.toArray
    have W := GoesN.zip2 (elts := elts) (x1 := kk) (pos := tpos) D dT dL
    have l1 := rv.length
    have l2 := rv2.length
    have m1 := (List.getElem?_eq_some_iff.mp ex).1
    have m2 := (List.getElem?_eq_some_iff.mp ey).1
    have hi : i < min its.toArray.size its2.toArray.size := by rw [List.size_toArray, List.size_toArray]; omega
    refine W.goes i s (fun v s2 => ∃ x H', Inv X pins σ H' s2 ∧ RelV x v ∧ (ItM X.K a b).yld i H x H' ∧ MSt z TI TO i1 i2 a b (i + 1) s2.heap ∧ ∀ b' ∈ [z, TI, TO, i1, i2], H' b' = none) E hi
      ⟨hz, hTI, hTO, ⟨h1, p⟩, ⟨h2, p2.isList⟩⟩ ?_
    rintro v h' tk ⟨T, u1, u2, rfl, nT, e1, e2, hT⟩ ⟨hz', hTI', hTO', ⟨h1', _⟩, ⟨h2', _⟩⟩ kp _
    obtain ⟨w1, hw1, rw1⟩ := rv.get ex
    obtain ⟨w2, hw2, rw2⟩ := rv2.get ey
    have q1 : u1 = w1 := by
      have z := e1
      simp only [List.getElem?_toArray] at z
      rw [hw1] at z
      exact (Option.some.inj z).symm
    have q2 : u2 = w2 := by
      have z := e2
      simp only [List.getElem?_toArray] at z
      rw [hw2] at z
      exact (Option.some.inj z).symm
    subst q1 q2
    have new : ObjOk X.prog X.w (upd H T (.tup [x, y])) h' T (.tup [x, y]) := ⟨by show 2 ≤ sizeLine; decide, [u1, u2], .cons rw1 (.cons rw2 .nil), hT⟩
    have I1 : Inv X pins σ (upd H T (.tup [x, y])) { s with heap := h', toks := tk } := by
      refine I.turnedNew (t' := tk) (ch := [z, TI, TO, i1, i2]) (fun c o hc q => kp c o (fun hm => hc ?_) q) free nT new
      simp only [List.mem_cons, List.not_mem_nil, or_false] at hm ⊢
      rcases hm with q | q | q | q <;> simp [q]
    refine ⟨.ref T, _, I1, rfl, ⟨T, x, y, rfl, I.hok.fresh nT, rfl, fun l hl => ?_, fun l hl => ?_⟩, ⟨hz', hTI', hTO', h1', h2'⟩, fun c hc => ?_⟩
    · rw [I.tuple_inj hl gx]; exact ex
    · rw [I.list_inj hl gy]; exact ey
    · have lt : c < s.heap.objs.size := by
        simp only [List.mem_cons, List.not_mem_nil, or_false] at hc
        rcases hc with rfl | rfl | rfl | rfl | rfl
        · exact Heap.lt_size hz
        · exact Heap.lt_size hTI
        · obtain ⟨_, _, q⟩ := hTO; exact Heap.lt_size q
        · obtain ⟨_, q, _⟩ := h1; exact Heap.lt_size q
        · obtain ⟨_, q, _⟩ := h2; exact Heap.lt_size q
      rw [upd_ne (Nat.ne_of_lt (Nat.lt_of_lt_of_le lt nT))]
      exact (free c hc).1
  done := by
    intro X hP hw hK calm i pins s σ H E I free st stop
    subst hP hw hK
    obtain ⟨hz, hTI, hTO, h1, h2⟩ := st
    obtain ⟨xs, ys, gx, gy, hi⟩ := stop
    obtain ⟨its, rv, p, _⟩ := I.tuple gx
    obtain ⟨its2, rv2, p2, _⟩ := I.list gy
    have hh : X.A.in1.handled = none := I.ok.hd calm
    have dT := Draws.tuple (prog := X.prog) (w := X.w) (A := X.A.in1) hh i1 a n1 its.toArray
    have dL := Draws.list (prog := X.prog) (w := X.w) (A := X.A.in1) hh i2 b n2 its2.toArray
    have W := GoesN.zip2 (elts := elts) (x1 := kk) (pos := tpos) D dT dL
    have l1 := rv.length
    have l2 := rv2.length
    have hi' : i = min its.toArray.size its2.toArray.size := by rw [List.size_toArray, List.size_toArray]; omega
    subst hi'
    refine W.stops s (fun s1 => Inv X pins σ H s1) E ⟨hz, hTI, hTO, ⟨h1, p⟩, ⟨h2, p2.isList⟩⟩ ?_
    intro h' tk kp _
    refine I.turnedL (t' := tk) (ch := [z, TI, TO, i1, i2]) (fun c o hc q => kp c o (fun hm => hc ?_) q) free
    simp only [List.mem_cons, List.not_mem_nil, or_false] at hm ⊢
    rcases hm with q | q | q | q <;> simp [q]
  self := fun A i s Q E st h => wpAny_pyIter_zip st.1 h

def iZipM (K : PySem.W.Frag) (ta : TA) : TI := fun σ H R => ta σ H fun vs H1 => ∃ (a b : Addr) (xs ys : List V), vs = [.ref a, .ref b] ∧ SqT K H1 a xs ∧ SqL K H1 b ys ∧ R (ItM K a b) H1
theorem pi_zipM {X : Cx} {e e2 : Expr} {ta : TA} {p pos tpos : Pos} {elts : List Expr} {kk : Nat} (gl : Gl X "zip") (no : X.mg "zip" = none) (pa : PA X [e, e2] ta)
    (st : starEach [e, e2] X.env = (false, eval e X.env) :: starEach [e2] X.env := by rfl) (pl : (backTo pos (starEach [e2] X.env)).any (·.1) = false := by rfl) :
    PI X (.Tuple elts kk tpos) (.Call (.Name "zip" p) [e, e2] [] pos) (iZipM X.K ta) := by
  constructor
  intro pins s σ H R I h
  refine Call_ (ld_blt I gl no PyProof.Rows.boot_zip (PyProof.Rows.callWith_type1 (thn (pa.run pos pins s σ H _ I h) ?_) st pl))
  rintro us s1 ⟨vs, H1, I1, r1, a, b, xs, ys, ev, gx, gy, q⟩
  subst ev
  obtain ⟨v1, v2, rfl, ra, rb⟩ := vals2 r1
  have e1 : v1 = Value.ref a := ra
  have e2' : v2 = Value.ref b := rb
  subst e1 e2'
  obtain ⟨its, rv, p1, _⟩ := I1.tuple gx
  obtain ⟨its2, rv2, p2, _⟩ := I1.list gy
  have la : a < s1.heap.objs.size := by obtain ⟨o, ho, _⟩ := p1; exact Heap.lt_size ho
  have lb : b < s1.heap.objs.size := p2.lt
  refine zip_begins2 (begins_tuple a its.toArray) (begins_list b its2.toArray) p1 p2.isList ?_
  intro h' hz hTI hTO h1 h2 hsz kp
  refine wpAny_pyIter_zip hz ?_
  have I2 : Inv X pins σ H1 { s1 with heap := h' } := I1.kept (t' := s1.toks) kp
  have sep := zip_sep2 (N := s1.heap.objs.size) (fp1 := [a]) (fp2 := [b]) (fun c hc => by rw [List.mem_singleton] at hc; rw [hc]; exact la) (fun c hc => by rw [List.mem_singleton] at hc; rw [hc]; exact lb)
  refine ⟨_, _, _, _, H1, rfl, I2, turn_zipM sep (Nat.ne_of_lt la) (Nat.ne_of_lt (Nat.lt_succ_of_lt lb)), ?_, ?_, q⟩
  · exact ⟨hz, hTI, ⟨_, _, hTO⟩, ⟨_, h1, rfl, rfl⟩, ⟨_, h2, rfl, rfl⟩⟩
  · intro c hc
    have ge : s1.heap.objs.size ≤ c := by
      simp only [List.mem_cons, List.not_mem_nil, or_false] at hc
      rcases hc with rfl | rfl | rfl | rfl | rfl
      · exact Nat.le_add_right _ _
      · exact Nat.le_add_right _ _
      · exact Nat.le_add_right _ _
      · exact Nat.le_refl _
      · exact Nat.le_add_right _ _
    exact I1.fpOk ge (I1.hok.fresh ge)

/-! ### a call by a keyword alone -/
section
variable {X : Cx} {CX : CXT} {k : Nat} {f : Addr} {fd : FuncData} {ps ks : List Str} {sp : Sp} {E : XK} {g : List Value → List Value → List Value} {gV : List V → List V → List V}
theorem pe_callK0 {x : Str} {p pos : Pos} {kws : List Keyword} {tk : TA} (F : FnOk X.prog X.w X.K X.mg X.base CX k f fd ps sp) (hr : Room k X.A) (gl : Gl X x) (at_ : X.mg x = some (.ref f))
    (kp : PySem.W.keepIn X.K (.ref f) = true) (bd : KBinds X.K fd ps ks g gV) (pas : Passes CX X E) (pk : PK X kws tk)
    (al : (backToKw pos (keywordEach kws X.env)).all (·.1.isSome) = true := by rfl) (nm : (backToKw pos (keywordEach kws X.env)).filterMap (·.1) = ks := by rfl)
    (nodb : (x == ("__debug__" : Str)) = false := by decide)
    (pl : ((backTo pos (starEach [] X.env)).any (·.1) || (backToKw pos (keywordEach kws X.env)).any (·.1.isNone)) = false := by rfl) :
    PE X (.Call (.Name x p) [] kws pos) (tCallK sp gV E tNil tk) := by
  constructor
  intro pins s σ H Q I h
  apply wpAny_Call_Name_kw
  refine ld_glob I gl at_ ?_ nodb
  refine PySem.W.callWith_KW0 (h₀ := X.base) I.ok.mod.kin kp al (thn (pk.run pos pins s σ H _ I h) ?_) pl
  rintro ws s2 ⟨zs, H2, I2, rz, q2⟩
  refine ⟨I2.kIn, ?_⟩
  rw [nm]
  exact run_fnk F hr bd pas I2 .nil rz q2
end
end Vz
namespace Ma
/-- days before a year -/
def days (y : Int) : Int := 365 * (y - 1) + (y - 1) / 4 - (y - 1) / 128
/-- the year of a day -/
def yearOf (d : Int) : Int := 128 * (d / 46751) + 4 * (d % 46751 / 1461) + (if 3 < d % 46751 % 1461 / 365 then 3 else d % 46751 % 1461 / 365) + 1
def begins (y : Int) : Int := days y * 86400 + (y - 1) / 40
def leapY (y : Int) : Bool := decide (y % 4 = 0) && decide (y % 128 ≠ 0)
def dim (y m : Int) : Int := if m < 13 then 28 else if leapY y then 30 else 29
/-- seconds before a date, without leap seconds -/
def plain (y mo d h mi s z : Int) : Int := 86400 * (days y + 28 * (mo - 1) + d - 1) + 3600 * h + 60 * (mi - z) + s
def within (i lo hi : Int) : Bool := decide (lo ≤ i) && decide (i ≤ hi)
def fits (y mo d h mi s z : Int) : Bool :=
  within y 1 9999 && within mo 1 13 && within d 1 (dim y mo) && within z (-840) 840 && within h 0 23 && within mi 0 59 && within s 0 60
def isLeap (b : Int) : Bool := decide (yearOf (b / 86400) % 40 = 0) && decide (b + 1 = 86400 * days (yearOf (b / 86400) + 1))
def before (y mo d h mi s z : Int) : Int := plain y mo d h mi (if 59 < s then 59 else s) z
def isDate (y mo d h mi s z : Int) : Bool :=
  fits y mo d h mi s z && (decide (0 ≤ before y mo d h mi s z) && decide (before y mo d h mi s z < 86400 * days 10000)) && (decide (s < 60) || isLeap (before y mo d h mi s z))

theorem days_step (y : Int) : days y + 365 ≤ days (y + 1) := by unfold days; omega
theorem days_step2 (y : Int) : days (y + 1) ≤ days y + 366 := by unfold days; omega
theorem days_mono {x y : Int} (h : x < y) : days x < days y := by
  have key : ∀ n : Nat, days x + 365 * ((n : Int) + 1) ≤ days (x + 1 + n) := by
    intro n
    induction n with
    | zero => have := days_step x; simp; omega
    | succ n ih =>
      have := days_step (x + 1 + n)
      have e : x + 1 + ((n + 1 : Nat) : Int) = x + 1 + (n : Int) + 1 := by omega
      rw [e]
      have e2 : ((n + 1 : Nat) : Int) = (n : Int) + 1 := by omega
      rw [e2]; omega
  obtain ⟨n, hn⟩ : ∃ n : Nat, y = x + 1 + n := ⟨(y - x - 1).toNat, by omega⟩
  have := key n
  rw [hn]; omega
theorem days_le {x y : Int} (h : x ≤ y) : days x ≤ days y := by
  by_cases e : x = y
  · rw [e]; exact Int.le_refl _
  · have := days_mono (x := x) (y := y) (by omega); omega
theorem days_lt_iff {x y : Int} : days x < days y ↔ x < y := by
  constructor
  · intro h
    by_cases c : x < y
    · exact c
    · have := days_le (x := y) (y := x) (by omega); omega
  · exact days_mono
theorem year_spec (d : Int) : days (yearOf d) ≤ d ∧ d < days (yearOf d + 1) := by
  have key : ∀ R F m e : Int, 0 ≤ F → F ≤ 31 → 0 ≤ m → m ≤ 3 → 365 * m ≤ e → (m < 3 → e < 365 * m + 365) → e ≤ 1460 → 1461 * F + e ≤ 46750 →
      days (128 * R + 4 * F + m + 1) ≤ 46751 * R + 1461 * F + e ∧ 46751 * R + 1461 * F + e < days (128 * R + 4 * F + m + 1 + 1) := by
    intro R F m e h1 h2 h3 h4 h5 h6 h7 h8
    have a1 : (128 * R + 4 * F + m + 1 - 1) / 4 = 32 * R + F := by omega
    have a2 : (128 * R + 4 * F + m + 1 - 1) / 128 = R := by omega
    have hm : m = 0 ∨ m = 1 ∨ m = 2 ∨ m = 3 := by omega
    unfold days
    rw [a1, a2]
    rcases hm with rfl | rfl | rfl | rfl
    · have b1 : (128 * R + 4 * F + 0 + 1 + 1 - 1) / 4 = 32 * R + F := by omega
      have b2 : (128 * R + 4 * F + 0 + 1 + 1 - 1) / 128 = R := by omega
      rw [b1, b2]; omega
    · have b1 : (128 * R + 4 * F + 1 + 1 + 1 - 1) / 4 = 32 * R + F := by omega
      have b2 : (128 * R + 4 * F + 1 + 1 + 1 - 1) / 128 = R := by omega
      rw [b1, b2]; omega
    · have b1 : (128 * R + 4 * F + 2 + 1 + 1 - 1) / 4 = 32 * R + F := by omega
      have b2 : (128 * R + 4 * F + 2 + 1 + 1 - 1) / 128 = R := by omega
      rw [b1, b2]; omega
    · have b1 : (128 * R + 4 * F + 3 + 1 + 1 - 1) / 4 = 32 * R + F + 1 := by omega
      by_cases c : F = 31
      · subst c
        have b2 : (128 * R + 4 * 31 + 3 + 1 + 1 - 1) / 128 = R + 1 := by omega
        rw [b1, b2]; omega
      · have b2 : (128 * R + 4 * F + 3 + 1 + 1 - 1) / 128 = R := by omega
        rw [b1, b2]; omega
  have e0 : d = 46751 * (d / 46751) + 1461 * (d % 46751 / 1461) + d % 46751 % 1461 := by omega
  have r1 : 0 ≤ d % 46751 := by omega
  have r2 : d % 46751 ≤ 46750 := by omega
  have q1 : 0 ≤ d % 46751 % 1461 := by omega
  have q2 : d % 46751 % 1461 ≤ 1460 := by omega
  have f1 : 0 ≤ d % 46751 / 1461 := by omega
  have f2 : d % 46751 / 1461 ≤ 31 := by omega
  have f3 : 1461 * (d % 46751 / 1461) + d % 46751 % 1461 ≤ 46750 := by omega
  unfold yearOf
  split
  · have := key (d / 46751) (d % 46751 / 1461) 3 (d % 46751 % 1461) f1 f2 (by omega) (by omega) (by omega) (by omega) q2 f3
    rw [← e0] at this
    exact this
  · have := key (d / 46751) (d % 46751 / 1461) (d % 46751 % 1461 / 365) (d % 46751 % 1461) f1 f2 (by omega) (by omega) (by omega) (by omega) q2 f3
    rw [← e0] at this
    exact this
theorem year_uniq {d y : Int} (h1 : days y ≤ d) (h2 : d < days (y + 1)) : y = yearOf d := by
  obtain ⟨a, b⟩ := year_spec d
  have l1 : days y < days (yearOf d + 1) := by omega
  have l2 : days (yearOf d) < days (y + 1) := by omega
  rw [days_lt_iff] at l1 l2
  omega
theorem days_366 {n : Int} (h : 0 ≤ n) : days (n + 1) ≤ 366 * n := by unfold days; omega
theorem days_one : days 1 = 0 := rfl
theorem begins_step (y : Int) : begins y + 1 ≤ begins (y + 1) := by unfold begins days; omega

/-- what the law's own reading of a date tells: the leap second's way and the other one -/
theorem leap_way {y mo d h mi z : Int} (f : fits y mo d h mi 60 z = true) {a : Int} (ha : ∀ k, plain y mo d h mi 60 z / 31622400 ≤ k → k < a → days (k + 1) * 86400 < plain y mo d h mi 60 z)
    (h0 : plain y mo d h mi 60 z / 31622400 ≤ a) (hb : ¬ days (a + 1) * 86400 < plain y mo d h mi 60 z) :
    isDate y mo d h mi 60 z = (decide (0 < a) && decide (a % 40 = 0) && decide (days (a + 1) * 86400 = plain y mo d h mi 60 z)) := by
  have eb : before y mo d h mi 60 z = plain y mo d h mi 60 z - 1 := by unfold before plain; simp; omega
  generalize hp : plain y mo d h mi 60 z = p at *
  unfold isDate
  rw [f, eb]
  simp only [Bool.true_and]
  have s60 : decide ((60 : Int) < 60) = false := by decide
  rw [s60, Bool.false_or]
  unfold isLeap
  obtain ⟨ys1, ys2⟩ := year_spec ((p - 1) / 86400)
  generalize hY : yearOf ((p - 1) / 86400) = Y at *
  -- bound of p
  have fp : p ≤ 86400 * days 10000 + 60 * 840 + 60 := by
    unfold fits within at f
    simp only [Bool.and_eq_true, decide_eq_true_eq] at f
    obtain ⟨⟨⟨⟨⟨⟨⟨y1, y2⟩, m1, m2⟩, d1, d2⟩, z1, z2⟩, h1, h2⟩, i1, i2⟩, _⟩ := f
    have hd : days y + 28 * (mo - 1) + d - 1 ≤ days (y + 1) - 1 := by
      have : 28 * (mo - 1) + d ≤ days (y + 1) - days y := by
        unfold dim leapY at d2
        unfold days
        split at d2
        · omega
        · split at d2
          · rename_i _ hh; simp only [Bool.and_eq_true, decide_eq_true_eq] at hh; omega
          · omega
      omega
    have h10 := days_le (x := y + 1) (y := 10000) (by omega)
    rw [← hp]; unfold plain
    omega
  rw [Bool.eq_iff_iff]
  simp only [Bool.and_eq_true, decide_eq_true_eq]
  constructor
  · rintro ⟨⟨b1, b2⟩, l1, l2⟩
    have hYp : 0 < Y := by
      have : days 1 < days (Y + 1) := by rw [days_one]; omega
      rw [days_lt_iff] at this; omega
    have ep : p = 86400 * days (Y + 1) := by omega
    have le : p / 31622400 ≤ Y := by have := days_366 (n := Y) (by omega); omega
    have ea : a = Y := by
      by_cases c1 : a < Y
      · have := days_mono (x := a + 1) (y := Y + 1) (by omega); omega
      · by_cases c2 : Y < a
        · have := ha Y le c2; omega
        · omega
    subst ea
    exact ⟨⟨hYp, l1⟩, by omega⟩
  · rintro ⟨⟨a1, a2⟩, a3⟩
    have d1 := days_mono (x := a) (y := a + 1) (by omega)
    have eY : a = Y := by
      rw [← hY]; exact year_uniq (by omega) (by omega)
    subst eY
    have pos : days 1 < days (a + 1) := days_mono (by omega)
    rw [days_one] at pos
    have lt : a + 1 ≤ 10000 := by
      by_cases c : a + 1 ≤ 10000
      · exact c
      · have q1 := days_le (x := 10001) (y := a + 1) (by omega)
        have q2 : days 10001 = 3652422 := by decide
        have q3 : days 10000 = 3652056 := by decide
        omega
    have := days_le lt
    exact ⟨⟨by omega, by omega⟩, a2, by omega⟩
theorem plain_way {y mo d h mi s z : Int} (hs : ¬ s = 60) (f : fits y mo d h mi s z = true) {a : Int} (h0 : plain y mo d h mi s z / 31622400 + 1 ≤ a)
    (ha : ∀ k, plain y mo d h mi s z / 31622400 + 1 ≤ k → k < a → days (k + 1) * 86400 ≤ plain y mo d h mi s z) (hb : ¬ days (a + 1) * 86400 ≤ plain y mo d h mi s z) :
    isDate y mo d h mi s z = (decide (0 ≤ plain y mo d h mi s z) && decide (a < 10000)) := by
  have hs59 : s ≤ 59 := by
    unfold fits within at f
    simp only [Bool.and_eq_true, decide_eq_true_eq] at f
    omega
  have eb : before y mo d h mi s z = plain y mo d h mi s z := by unfold before; rw [if_neg (by omega)]
  unfold isDate
  rw [f, eb]
  generalize plain y mo d h mi s z = p at *
  rw [show decide (s < 60) = true by simp; omega]
  simp only [Bool.true_and, Bool.true_or, Bool.and_true]
  rw [Bool.eq_iff_iff]
  simp only [Bool.and_eq_true, decide_eq_true_eq]
  constructor
  · rintro ⟨p0, p1⟩
    refine ⟨p0, ?_⟩
    by_cases c : a < 10000
    · exact c
    · by_cases st : p / 31622400 + 1 ≤ 9999
      · have := ha 9999 st (by omega)
        have e1 : (9999 : Int) + 1 = 10000 := by decide
        rw [e1] at this
        omega
      · have e2 : days 10000 = 3652056 := by decide
        omega
  · rintro ⟨p0, p1⟩
    refine ⟨p0, ?_⟩
    have := days_le (x := a + 1) (y := 10000) (by omega)
    omega
end Ma
set_option Elab.async false
set_option linter.all false
set_option maxRecDepth 100000
set_option maxHeartbeats 2000000
namespace Vz
open PySem PySem.Spec PyProof.Rows L2
/-! ### an error of the text with one field -/
def sp_init (C : Addr) (f : Str) : Sp := fun vs H Q _ => ∃ (a : Addr) (v : V), vs = [.ref a, v] ∧ H a = some (exo a C none) ∧
  ∀ dx, H dx = none → dx ≠ a → Q .non (upd (upd H dx (exd dx [(f, v)])) a (exo a C (some dx)))
/-- X(v): what is to be shown is the way out, at the error's own new dict -/
theorem made_end {C : Addr} {f : Str} {v : V} {H : Hp} {Q : XK} (q : ∀ d, H d = none → Q (.ref C) (some d) (upd H d (.xd [(f, v)]))) :
    [v].length ≤ 1000 ∧ ∀ a, H a = none → sp_init C f (.ref a :: ([v] ++ [])) (upd H a (exo a C none))
      (fun z H2 => z = .non ∧ ∃ (d : Addr) (fs : List (Str × V)), H2 a = some (exo a C (some d)) ∧ H2 d = some (exd d fs) ∧ H d = none ∧ Q (.ref C) (some d) (upd (del H2 a) d (.xd fs))) (fun _ _ _ => False) := by
  refine ⟨by show 1 ≤ 1000; decide, fun a na => ⟨a, v, rfl, upd_same, fun dx ndx ne => ⟨rfl, dx, [(f, v)], upd_same, ?_, ?_, ?_⟩⟩⟩
  · rw [upd_ne ne, upd_same]
  · rw [upd_ne ne] at ndx; exact ndx
  · have hd : H dx = none := by rw [upd_ne ne] at ndx; exact ndx
    have e : upd (del (upd (upd (upd H a (exo a C none)) dx (exd dx [(f, v)])) a (exo a C (some dx))) a) dx (.xd [(f, v)]) = upd H dx (.xd [(f, v)]) := by
      funext b
      by_cases h1 : b = dx
      · subst h1; rw [upd_same, upd_same]
      · rw [upd_ne h1, upd_ne h1]
        by_cases h2 : b = a
        · subst h2; rw [del_same, na]
        · rw [del_ne h2, upd_ne h2, upd_ne h1, upd_ne h2]
    rw [e]
    exact q dx hd
theorem repr_bool {X : Cx} : CallR X (.builtin "repr") (fun xs H Q => ∃ b : Bool, xs = [.bl b] ∧ Q (.str (if b then "True" else "False")) H) := by
  intro pins s σ H xs us Q I r h
  obtain ⟨b, rfl, q⟩ := h
  obtain ⟨u, rfl, ru⟩ := vals1 r
  have eu : u = Value.bool b := ru
  subst eu
  exact PySem.P.repr_of_bool ⟨.str _, H, I.tok _, ⟨_, rfl⟩, q⟩
end Vz
set_option Elab.async false
set_option linter.all false
set_option maxRecDepth 100000
set_option maxHeartbeats 4000000
/-! An exception that an except clause names and the program keeps: it is tracked behind the clause. -/
namespace Vz
open PySem PySem.Spec PyProof.Rows L2
/-- an exception of the class cls, its own dict d, at a -/
def exq (a : Addr) (cls : Value) (d : Option Addr) : HO := .ext fun h => ∃ (oe : Obj) (vs : Array Value), h.get? a = some oe ∧ Zc cls d oe ∧ oe.data = .fields vs
theorem exq_ok {P : Program} {w : World} {H : Hp} {h : Heap} {a : Addr} {cls : Value} {d : Option Addr} {oe : Obj} {vs : Array Value} (e : h.get? a = some oe) (z : Zc cls d oe) (f : oe.data = .fields vs) : ObjOk P w H h a (exq a cls d) := by
  refine ⟨⟨oe, vs, e, z, f⟩, ⟨oe, e⟩, ?_⟩
  rintro h1 h2 ⟨o, v, e1, z1, f1⟩ k
  exact ⟨o, v, k _ e1, z1, f1⟩
theorem exq_at {P : Program} {w : World} {H : Hp} {h : Heap} {a : Addr} {cls : Value} {d : Option Addr} (hok : HOk P w H h) (e : H a = some (exq a cls d)) : ∃ (oe : Obj) (vs : Array Value), h.get? a = some oe ∧ Zc cls d oe ∧ oe.data = .fields vs := by
  have x : ObjOk P w H h a (exq a cls d) := hok a _ e
  exact x.1
/-- the wish of a clause «except x as n» whose exception is tracked -/
def wTrk (K : PySem.W.Frag) (c : Value) (i : Nat) (ts : Addr → Value → Option Addr → TS) (Wout : WX) (D : Ends) : WX := fun cls d σ H =>
  ∃ b, PySem.W.exmOne K cls c = some b ∧
    (b = true → ∀ a, H a = none → ts a cls d { nx := fun σ' H' => D.nx (σ'.set i none) H', rt := D.rt, bk := fun σ' H' => D.bk (σ'.set i none) H', ct := fun σ' H' => D.ct (σ'.set i none) H' } (σ.set i (some (.ref a))) (upd H a (exq a cls d))) ∧
    (b = false → Wout cls d σ H)
section
variable {X : Cx} {pins : List (Addr × Obj)} {σ : L2.St} {H : Hp} {s : Shared}
theorem into (I : Inv X pins σ H s) (a : Addr) : Inv (X.suite a (X.pn ++ pins)) [] σ H s :=
  { ok := I.ok.suite _ _, os := I.os, bare := I.bare, base := I.base, loc := I.loc, cell := I.cell, free := I.free, freeC := I.freeC, hok := I.hok, len := I.len,
    pin := fun p hp => I.pin p (by rw [List.append_nil] at hp; exact hp) }
theorem outof {a : Addr} {pn' : List (Addr × Obj)} (I : Inv (X.suite a (X.pn ++ pins)) pn' σ H s) (ok : X.Ok) : Inv X pins σ H s :=
  { ok := ok, os := I.os, bare := I.bare, base := I.base, loc := I.loc, cell := I.cell, free := I.free, freeC := I.freeC, hok := I.hok, len := I.len,
    pin := fun p hp => I.pin p (List.mem_append_left _ hp) }
/-- a caught exception is tracked -/
theorem track {B : Heap} {s' : Shared} {a : Addr} {cls : Value} {d : Option Addr} {oe : Obj} {vs : Array Value} (J : Inv X pins σ H s) (nb : ∀ b o, s.heap.get? b = some o → b ∉ frs X.stack → B.get? b = some o) (na : H a = none) (nfr : a ∉ frs X.stack)
    (Ba : B.get? a = none) (st : B.StaysIn s'.heap) (up : s.heap.UpToSlots s'.heap) (os : s'.os = s.os) (ag : AllBare s'.gens) (he : s'.heap.get? a = some oe) (hz : Zc cls d oe) (hd : oe.data = .fields vs) :
    Inv X pins σ (upd H a (exq a cls d)) s' := by
  obtain ⟨G, g1, g2⟩ := restrict s'.heap (fun b => decide (b ≠ a))
  have keep : ∀ b, b ≠ a → G.get? b = s'.heap.get? b := fun b hb => g1 b (decide_eq_true hb)
  have gone : G.get? a = none := g2 a (by simp)
  have sa : s.heap.get? a = none := by
    cases c : s.heap.get? a with
    | none => rfl
    | some o => rw [nb a o c nfr] at Ba; cases Ba
  obtain ⟨hp, gg, dd, tt, oo⟩ := s'
  have stG : B.StaysIn G := fun b o e => by
    have nba : b ≠ a := fun z => by rw [z, Ba] at e; cases e
    rw [keep b nba]
    exact st b o e
  have upG : s.heap.UpToSlots G := fun b o e nf => by
    have nba : b ≠ a := fun z => by rw [z, sa] at e; cases e
    obtain ⟨sl, q⟩ := up b o e nf
    exact ⟨sl, (keep b nba).trans q⟩
  have JG : Inv X pins σ H ⟨G, gg, dd, tt, oo⟩ := J.landed nb stG upG os ag
  refine Inv.laidN (t' := tt) (h' := hp) JG (fun b o e => ?_) gone na (exq_ok he hz hd)
  have nba : b ≠ a := fun z => by
    have e' : G.get? b = some o := e
    rw [z, gone] at e'
    cases e'
  exact (keep b nba).symm.trans e
end
section
variable {X : Cx} {x n : Str} {c : Value} {i : Nat} {body suite : List Stmt} {b₀ : Stmt} {np pos pos' : Pos} {tb : WX → TS} {ts : Addr → Value → Option Addr → TS} {Wout : WX}
theorem ps_try_trk (hs : X.stack = X.env :: X.outer) (hf : X.env.frame = some X.env.locals) (hN : X.N.Nodup) (hi : X.N[i]? = some n) (hln : X.env.kindOf n = some .local) (hc : Names X x c) (tk : Takes X Wout)
    (hb : ∀ (W : WX) (pn : List (Addr × Obj)) (xe : Value → Shared → Prop), Takes (X.tr pn xe) W → PassesOwn (model X.prog X.w) X.A X.env xe → PSs (X.tr pn xe) body (tb W))
    (hsu : ∀ (a : Addr) (cls : Value) (d : Option Addr) (pn : List (Addr × Obj)), PSs (X.suite a pn) (b₀ :: suite) (ts a cls d)) :
    PS X (.Try body [.ExceptHandler (some (.Name x np)) (some n) (b₀ :: suite) pos'] [] [] pos) (fun D σ H => tb (wTrk X.K c i ts Wout D) D σ H) := by
  constructor
  intro pins s σ H D I h
  have good := I.ok
  have fr : X.A.frames = some (X.env :: X.outer) := by rw [good.frames, hs]
  apply wpAny_Try_except
  refine wpAny_mono ((hb (wTrk X.K c i ts Wout D) (X.pn ++ pins) (fun e t1 => wpAny (model X.prog X.w) X.A (noteFrame e X.env) (fun _ t2 => wpAny (model X.prog X.w) X.A (setFlight e none)
    (fun _ t3 => wpAny (model X.prog X.w) X.A (handleBy e X.env [.ExceptHandler (some (.Name x np)) (some n) (b₀ :: suite) pos']) (SP X pins D) X.xe t3) X.xe t2) X.xe t1) ?air PassesOwn.looking).run [] s σ H D (I.toTry _) h) ?calm (fun _ _ z => z)
  case calm =>
    intro f s1 z
    match f, z with
    | .next, z => obtain ⟨σ', H', J, q⟩ := z; exact wpAny_execs_nil ⟨σ', H', J.ofTry good, q⟩
    | .brk, z => obtain ⟨σ', H', J, q⟩ := z; exact ⟨σ', H', J.ofTry good, q⟩
    | .cont, z => obtain ⟨σ', H', J, q⟩ := z; exact ⟨σ', H', J.ofTry good, q⟩
    | .ret u, z => obtain ⟨v, σ', H', J, r, q⟩ := z; exact ⟨v, σ', H', J.ofTry good, r, q⟩
  case air =>
    rintro u s' ⟨a, B, sI, pins', σ', H', cls, d, rfl, J0, nb, up, sky, na, os, ag, b, hb1, yes, no⟩
    have J : Inv X pins σ' H' sI := J0.ofTry good
    have sky1 : Sky B (X.env :: X.outer) a (Zc cls d) X.env.locals s'.heap := by rw [← hs]; exact sky
    show wpAny (model X.prog X.w) X.A (noteFrame (.ref a) X.env) _ _ _
    refine Sky.land Zc.steady fr hf sky1 ?_
    intro h3 fl3 up3
    have J3 : Inv X pins σ' H' { s' with heap := h3 } := J.landed nb fl3.1 (up.trans up3) os ag
    obtain ⟨oe3, vs3, he3, hz3, hd3⟩ := fl3.there
    have nfr : a ∉ frs (X.env :: X.outer) := by
      intro hm
      obtain ⟨_, o', e', hnf⟩ := fl3.2.2.1.mem hm
      rw [he3] at e'
      cases e'
      exact hnf _ hd3
    have nst : a ∉ frs X.stack := by rw [hs]; exact nfr
    have LT : PySem.W.Looks (model X.prog X.w) h3 (typeOf (.ref a)) cls := fun A Q E s k q => wpAny_typeOf_ref (k _ _ he3) (by rw [hz3.1]; exact q)
    have LM := PySem.W.exm_one (M := model X.prog X.w) J3.kIn LT hb1
    have test : ∀ {Q : Value → Shared → Prop} {E : Value → Shared → Prop}, Q c { s' with heap := h3 } → wpAny (model X.prog X.w) (X.A.mark (some (.ref a))) (eval (.Name x np) X.env) Q E { s' with heap := h3 } := by
      intro Q E q
      obtain ⟨gl, nodb, hm | ⟨hm, hv, hnn⟩⟩ := hc
      · exact ld_glob (X := X.suite a (X.pn ++ pins)) (into J3 a) gl hm q nodb
      · exact ld_blt (X := X.suite a (X.pn ++ pins)) (into J3 a) gl hm hv q hnn nodb
    refine wpAny_handleBy_cons (codeAny_handlers_test ?_) (by intro q; cases q)
    refine test (LM.here ?_)
    cases b with
    | true =>
      apply codeAny_handlers_suite_as
      refine HandSPX.lands_againZ fl3 ?_
      intro h4 fl4 up4
      obtain ⟨oe4, vs4, he4, hz4, hd4⟩ := fl4.there
      have JT : Inv X pins σ' (upd H' a (exq a cls d)) { s' with heap := h4 } := track J nb na nst fl4.2.1 fl4.1 ((up.trans up3).trans up4) os ag he4 hz4 hd4
      refine store_ok (X := X.suite a (X.pn ++ pins)) (v := .ref a) (into JT a) hN hi (.inl hln) rfl (fun s5 S5 => ?_) (.inr hln)
      have fin : ∀ {σ6 : L2.St} {H6 : Hp} {s6 : Shared} {Q : Shared → Prop}, Inv (X.suite a (X.pn ++ pins)) [] σ6 H6 s6 → (∀ s7, Inv X pins (σ6.set i none) H6 s7 → Q s7) →
          wpAny (model X.prog X.w) X.A (do bindName X.env n .none; unbindBehindTheSuite X.env n pos') (fun _ s7 => Q s7) X.xe s6 := by
        intro σ6 H6 s6 Q S6 hq
        exact gone_ok (outof S6 good) hN hi hln hq
      refine wpAny_mono ((hsu a cls d (X.pn ++ pins)).run [] s5 _ _ _ S5 (yes rfl a na)) ?_ (fun _ _ z => z.elim)
      intro f s6 z
      match f, z with
      | .next, z => obtain ⟨σ6, H6, S6, q⟩ := z; exact fin S6 fun s7 J7 => ⟨_, _, J7, q⟩
      | .brk, z => obtain ⟨σ6, H6, S6, q⟩ := z; exact fin S6 fun s7 J7 => ⟨_, _, J7, q⟩
      | .cont, z => obtain ⟨σ6, H6, S6, q⟩ := z; exact fin S6 fun s7 J7 => ⟨_, _, J7, q⟩
      | .ret u, z => obtain ⟨v6, σ6, H6, S6, r6, q⟩ := z; exact fin S6 fun s7 J7 => ⟨_, _, _, J7, r6, q⟩
    | false =>
      show wpAny _ X.A (handleBy (.ref a) X.env []) _ _ _
      apply wpAny_handleBy_nil
      obtain ⟨k1, k2, k3, oe, vs, Tb, oT, tvs, he, hz, hd, h1, hr⟩ := id fl3
      unfold PySem.passOn
      refine wpAny_bind (wpAny_field he hd h1 ?_)
      rw [if_neg (show ¬ ((Value.ref Tb == Value.none) = true) from by simp)]
      have goes : wpAny (model X.prog X.w) X.A (setFlight (.ref a) X.env.frame) (fun _ s4 => wpAny (model X.prog X.w) X.A (throw (.ref a) : Sem Flow) (SP X pins D) X.xe s4) X.xe { s' with heap := h3 } := by
        rw [hf]
        refine HandSPX.setFlight_upZ fl3 ?_
        intro h4 hh4 up4
        refine wpAny_throw (tk _ _ ?_)
        exact ⟨a, B, sI, pins, σ', H', cls, d, rfl, J, nb, (up.trans up3).trans up4, .inr (.inr (by rw [hs]; exact hh4)), na, os, ag, no rfl⟩
      first
        | exact wpAny_bind (wpAny_pure (wpAny_bind goes))
        | exact wpAny_bind goes
end
end Vz
set_option Elab.async false
set_option linter.all false
set_option maxRecDepth 100000
set_option maxHeartbeats 4000000
/-! What a caught exception that is kept is asked behind its clause; a call within try. -/
namespace Vz
open PySem PySem.Spec PyProof.Rows L2
/-- what the class must say -/
structure XcF (K : PySem.W.Frag) (C : Addr) : Prop where
  ga : PySem.W.findIn K (.ref C) "__getattribute__" = some (some (.builtin "BaseException.__getattribute__"))
  gg : PySem.W.findIn K (.ref C) "__getattr__" = some none
  su : PySem.W.subIn K (.ref C) (.type "BaseException") = some true
  hd : PySem.W.hasDictIn K C = true
  ha : PySem.W.findIn K (.ref C) "__class__" = some (some (.builtin "object.__class__"))
  hn : PySem.W.specialIn K (.builtin "object.__class__") "__get__" = some (some (.builtin "getset_descriptor.__get__"))
  ht : PySem.W.takesIn K (.builtin "object.__class__") = some true
  hm : PySem.W.mroIn K C (.type "object") = some true
theorem XcF.cl {K : PySem.W.Frag} {C : Addr} (T : XcF K C) : (PySem.W.clsIn K C).isSome = true := by
  obtain ⟨cd, hc, _⟩ := PySem.W.any_some T.hd
  rw [hc]; rfl
/-- the object at a is an exception of the class C whose own dict is at d -/
def IsX (K : PySem.W.Frag) (H : Hp) (a C d : Addr) (fs : List (Str × V)) : Prop := H a = some (exq a (.ref C) (some d)) ∧ H d = some (.xd fs)
theorem IsX.inst {X : Cx} {pins : List (Addr × Obj)} {σ : L2.St} {H : Hp} {s : Shared} {a C d : Addr} {fs : List (Str × V)} (I : Inv X pins σ H s) (h : IsX X.K H a C d fs) :
    ∃ (oe od : Obj) (mA : Str → Option Value), PySem.W.InstAt s.heap a oe C (some od) ∧ (∀ n, PySem.W.lookIn n od = some (mA n)) ∧ ∀ n, RelO (fs.lookup n) (mA n) := by
  obtain ⟨oe, vs, he, hz, hd⟩ := exq_at I.hok h.1
  have hx : ObjOk X.prog X.w H s.heap d (.xd fs) := I.hok d _ h.2
  obtain ⟨mA, hns, hr⟩ := hx
  obtain ⟨od, ho, hl⟩ := lookIn_ns hns
  refine ⟨oe, od, mA, ⟨he, hz.1, by unfold PySem.W.notCls; rw [hd] <;> rfl, by rw [hz.2]; exact ho⟩, hl, hr⟩
def rIsQ (K : PySem.W.Frag) : List V → Hp → VK → Prop := fun xs H Q => ∃ (a C d : Addr) (fs : List (Str × V)), xs = [.ref a, .ref C] ∧ XcF K C ∧ IsX K H a C d fs ∧ Q (.bl true) H
theorem call_isQ {X : Cx} : CallR X (.builtin "isinstance") (rIsQ X.K) := by
  intro pins s σ H xs us Q I r h
  obtain ⟨a, C, d, fs, rfl, T, ix, q⟩ := h
  cases r with
  | cons rx rr =>
    cases rr with
    | cons rt rr =>
      cases rr
      cases rx
      cases rt
      obtain ⟨oe, od, mA, J, _, _⟩ := ix.inst I
      have e : PySem.W.kitOne X.K (.ref C) (.ref C) = some true := by unfold PySem.W.kitOne; rw [if_pos (by simp)]
      exact PySem.W.kia_one (PySem.W.kitx_exc (od := some od) T.cl T.ga T.gg T.su T.ha T.hn T.ht T.hm) I.kIn J e (fun z => nomatch z) fun tk => ⟨.bl true, H, I.kept (t' := tk) fun _ _ z => z, rfl, q⟩
/-- e.f of a caught exception that is kept -/
def tXq (K : PySem.W.Frag) (f : Str) (te : TE) : TE := fun σ H Q => te σ H fun x H1 => ∃ (a C d : Addr) (fs : List (Str × V)) (v : V), x = .ref a ∧ XcF K C ∧ PySem.W.findIn K (.ref C) f = some none ∧ IsX K H1 a C d fs ∧ fs.lookup f = some v ∧ Q v H1
theorem pe_xq {X : Cx} {e : Expr} {te : TE} {pos : Pos} {n : Str} (he : PE X e te) (hb : attributeBase e n X.env (eval e X.env) = eval e X.env := by rfl) : PE X (.Attribute e n pos) (tXq X.K n te) := by
  refine ⟨fun pins s σ H Q I h => ?_⟩
  refine attr_of hb (thn (he.run pins s σ H _ I h) fun u s1 hh => ?_)
  obtain ⟨x, H1, I1, rx, a, C, d, fs, v, ex, T, hno, ix, l, q⟩ := hh
  subst ex
  obtain rfl : u = Value.ref a := rx
  obtain ⟨oe, od, mA, J, hl, hr⟩ := ix.inst I1
  obtain ⟨u, hu, ru⟩ := RelO.some_of (v := v) (o := mA n) (by rw [← l]; exact hr n)
  exact HandSPX.exc_get I1.kIn J T.ga T.gg T.su (PySem.W.findObj_own T.hd hno rfl (by rw [hl, hu])) (handed_of ru) ⟨v, H1, I1.tok _, ru, q⟩
/-- nothing flies -/
theorem takes_none {X : Cx} : Takes X (fun _ _ _ _ => False) := by
  rintro u s' ⟨_, _, _, _, _, _, _, _, _, _, _, _, _, _, _, _, w⟩
  exact w.elim
/-- a call within try: what flies is asked at the slots of the call -/
def tCallS (sp : Sp) (dvs : List V) (W : WX) (t : TA) : TE := fun σ H Q => t σ H fun vs H1 => sp (vs ++ dvs) H1 Q (fun cls d H' => W cls d σ H')
section
variable {X : Cx} {k : Nat} {f : Addr} {fd : FuncData} {ps : List Str} {sp : Sp} {ds : List Value} {dvs : List V} {W : WX}
theorem pe_callS {x : Str} {p pos : Pos} {e : Expr} {es : List Expr} {t : TA} (F : FnOk X.prog X.w X.K X.mg X.base (L2.CX X.prog X.w) k f fd ps sp) (hr : Room k X.A) (gl : Gl X x)
    (at_ : X.mg x = some (.ref f)) (kp : PySem.W.keepIn X.K (.ref f) = true) (bd : Binds X.K fd ps ds) (dv : Vals dvs ds) (tk : Takes X W) (pa : PA X (e :: es) t)
    (nodb : (x == ("__debug__" : Str)) = false := by decide) (st : starEach (e :: es) X.env = (false, eval e X.env) :: starEach es X.env := by rfl)
    (pl : (backTo pos (starEach es X.env)).any (·.1) = false := by rfl) :
    PE X (.Call (.Name x p) (e :: es) [] pos) (tCallS sp dvs W t) := by
  constructor
  intro pins s σ H Q I h
  apply wpAny_Call_Name_kw
  refine ld_glob I gl at_ ?_ nodb
  refine PySem.W.callWith_K (h₀ := X.base) I.ok.mod.kin kp (thn (pa.run pos pins s σ H _ I h) ?_) st pl
  rintro us s1 ⟨vs, H1, I1, r, q⟩
  refine ⟨I1.kIn, ?_⟩
  have rr : Vals (vs ++ dvs) (us ++ ds) := r.append dv
  have many : (us ++ ds).length = ps.length := by rw [← rr.length]; exact F.len _ _ _ _ q
  refine wpAny_call (codeAny_mono (F.run X.A X.stack s1 H1 ⟨us, []⟩ (us ++ ds) (vs ++ dvs) Q _ hr I1.env0 (bd s1 us I1.kIn many) rr q) ?_)
  rintro (err | fl) s' hq
  · exact tk err s' (XE.of_call I1 (fun _ _ _ z => z) hq)
  · cases fl
    case ret u => exact I1.after hq
    all_goals exact hq.elim
end
theorem vals_rev : ∀ {xs : List V} {us : List Value}, Vals xs us → Vals xs.reverse us.reverse
  | _, _, .nil => .nil
  | _, _, .cons h t => by
    rw [List.reverse_cons, List.reverse_cons]
    exact (vals_rev t).append (.cons h .nil)
theorem FunD.kb0 {K : PySem.W.Frag} {x qual : Str} {params : Arguments} {body : List Stmt} {scope : Scope} {dvs : List V} {kws : List (Str × V)} {f : Addr} {fd : FuncData} {ps : List Str} (F : FunD K x qual params body scope dvs kws f fd) (hd : dvs ≠ []) (ks : List Str) (g : List Value → List Value → List Value) (gV : List V → List V → List V)
    (rel : ∀ {vs : List V} {us : List Value} {zs : List V} {ws : List Value}, Vals vs us → Vals zs ws → Vals (gV vs zs) (g us ws))
    (h : ∀ (T : Addr) (kV doc pm : Value) (an : Option Addr) (cdv ct : Value) (us ws its : List Value), (g us ws).length = ps.length → its.length = dvs.length →
      ∃ k, bindArgs (PySem.W.fnOf x qual params body scope (.ref T) kV doc pm an cdv ct) ⟨us, ks.zip ws⟩ = seqItems? (.ref T) >>= k ∧ k (some its.toArray) = pure (ps.zip (g us ws))) : KBinds K fd ps ks g gV := by
  obtain ⟨oc, od, dV, kV, doc, pm, an, cdv, ct, osl, rfl, lk, hcd, hD, hK⟩ := F.ex
  rcases hD with ⟨e, _⟩ | ⟨_, T, o, its, m, rfl, lT, oT, rT⟩
  · exact absurd e hd
  · refine ⟨fun s us ws X hl => ?_, rel⟩
    obtain ⟨k, e1, e2⟩ := h T kV doc pm an cdv ct us ws its hl rT.length.symm
    refine BindsTo.of_looks fun M => ?_
    rw [e1]
    exact looks_items X lT oT (.of_pure e2)
end Vz
set_option Elab.async false
set_option linter.all false
set_option maxRecDepth 100000
set_option maxHeartbeats 4000000
/-! f-strings: {i:02d}. -/
namespace Vz
open PySem PySem.Spec PyProof.Rows L2
theorem ns_none {K : PySem.W.Frag} {h : Heap} {b : Addr} {mg : Str → Option Value} {n : Str} (X : K.In h) (G : h.Ns b mg) (e : PySem.W.nsIn K b n = some none) : mg n = none := by
  obtain ⟨o, es, ep, ho, hd, _, hf⟩ := G
  unfold PySem.W.nsIn at e
  split at e
  · rename_i c d es' n' sl q
    have := X _ _ q
    rw [ho] at this
    cases this
    cases hd
    split at e
    · cases e
    · rename_i he
      rw [← hf]
      unfold nsFind findBy
      rw [← Array.find?_toList, he]
      rfl
  · cases e
section
variable {X : Cx} {pins : List (Addr × Obj)} {σ : L2.St} {H : Hp} {s : Shared}
theorem noDig (I : Inv X pins σ H s) (z : PySem.W.nsIn X.K cStatics "sys.int_max_str_digits" = some none) : s.heap.NoDigits := by
  have e0 := I.env0
  obtain ⟨mc, l1, l2⟩ := e0.mod.nolimit.keeps (fun b o e => (e0.bs b o e).1)
  exact ⟨mc, l1, ns_none I.kIn l1 z⟩
def tFmtI (sp : Str) (te : TE) : TE := fun σ H Q => te σ H fun x H1 => ∃ i : Int, x = .int i ∧ 0 ≤ i ∧ i < 10 ^ 10 ∧ ((intSpecTextOf sp i).length = max (intSpecWidthOf sp) (Nat.toDigits 10 i.natAbs).length → Q (.str (intSpecTextOf sp i)) H1)
theorem pe_fmtI {e spec : Expr} {te : TE} {pos : Pos} {sp : Str} (z : PySem.W.nsIn X.K cStatics "sys.int_max_str_digits" = some none) (ok : intSpecOk sp = true) (sz : sp.length ≤ sizeLine) (he : PE X e te) (hs : PE X spec (tC (.str sp))) :
    PE X (.FormattedValue e (-1) (some spec) pos) (tFmtI sp te) := by
  refine ⟨fun pins s σ H Q I h => ?_⟩
  refine wpAny_FormattedValue_spec (thn (he.run pins s σ H _ I h) fun v s1 hv => ?_)
  obtain ⟨x, H1, I1, r1, i, rfl, i0, i1, q⟩ := hv
  obtain ⟨t, rfl⟩ := r1
  refine thn (hs.run pins s1 σ H1 (fun y H2 => y = .str sp ∧ H2 = H1) I1 ⟨rfl, rfl⟩) fun u s2 hu => ?_
  obtain ⟨y, H2, I2, r2, rfl, rfl⟩ := hu
  obtain ⟨tk, rfl⟩ := r2
  refine ⟨sp, tk, rfl, ?_⟩
  have hl : i.natAbs < 10 ^ 4300 := by
    have a : i.natAbs < 10 ^ 10 := by
      have e10 : (10 : Int) ^ 10 = 10000000000 := by decide
      have e11 : (10 : Nat) ^ 10 = 10000000000 := by decide
      rw [e10] at i1
      rw [e11]
      omega
    exact Nat.lt_of_lt_of_le a (Nat.pow_le_pow_right (by decide) (by decide))
  refine formatField_int_specOf (noDig I2 z) hl ok (fun W eW F => ?_) sz
  subst eW
  exact ⟨.str _, H2, I2.tok _, ⟨_, rfl⟩, q (F.lenNonneg i0)⟩
end
theorem digits_le {n k : Nat} (hk : 0 < k) (h : n < 10 ^ k) : (Nat.toDigits 10 n).length ≤ k := by
  have e := (Nat.length_repr_le_iff (n := n) hk).mpr h
  rwa [← String.length_toList, Nat.toList_repr] at e
/-- what is not reached -/
theorem pss_dead {X : Cx} {ss : List Stmt} : PSs X ss (fun _ _ _ => False) := ⟨fun _ _ _ _ _ _ h => h.elim⟩
end Vz
set_option Elab.async false
set_option linter.all false
set_option maxRecDepth 100000
set_option maxHeartbeats 4000000
/-! Data that stays; calls by keywords within try; isinstance with both answers of a caught exception that is kept. -/
namespace Vz
open PySem PySem.Spec PyProof.Rows L2
def KeepV (d : Addr) (H H' : Hp) : Prop := ∀ a o, a ≠ d → H a = some o → H' a = some o
section
variable {K : PySem.W.Frag} {H H' : Hp} {d : Addr} {kvs : List (Key × V)}
theorem sqL_keep (hd : H d = some (.dK kvs)) (e : KeepV d H H') {a : Addr} {xs : List V} (h : SqL K H a xs) : SqL K H' a xs := by
  have ne : ∀ {o : HO}, H a = some o → o ≠ .dK kvs → a ≠ d := fun q n z => by rw [z, hd] at q; cases q; exact n rfl
  rcases h with (h | ⟨o, h⟩) | h
  · exact .inl (.inl (e _ _ (ne h (by intro z; cases z)) h))
  · exact .inl (.inr ⟨o, e _ _ (ne h (by intro z; cases z)) h⟩)
  · exact .inr h
theorem sqT_keep (hd : H d = some (.dK kvs)) (e : KeepV d H H') {a : Addr} {xs : List V} (h : SqT K H a xs) : SqT K H' a xs := by
  have ne : ∀ {o : HO}, H a = some o → o ≠ .dK kvs → a ≠ d := fun q n z => by rw [z, hd] at q; cases q; exact n rfl
  rcases h with (h | ⟨o, h⟩) | h
  · exact .inl (.inl (e _ _ (ne h (by intro z; cases z)) h))
  · exact .inl (.inr ⟨o, e _ _ (ne h (by intro z; cases z)) h⟩)
  · exact .inr h
theorem sqT_same (e : Same H H') {a : Addr} {xs : List V} (h : SqT K H a xs) : SqT K H' a xs := by
  rcases h with (h | ⟨o, h⟩) | h
  · exact .inl (.inl (e _ _ h))
  · exact .inl (.inr ⟨o, e _ _ h⟩)
  · exact .inr h
mutual
theorem dp_map (fL : ∀ {a : Addr} {xs : List V}, SqL K H a xs → SqL K H' a xs) (fT : ∀ {a : Addr} {xs : List V}, SqT K H a xs → SqT K H' a xs) : ∀ (d : PyData) (v : V), Dp K H v d → Dp K H' v d
  | .none, _, h => by cases h; exact .non
  | .bool b, _, h => by cases h; exact .bl b
  | .int i, _, h => by cases h; exact .int i
  | .str x, _, h => by cases h; exact .str x
  | .list ds, _, h => by
    cases h with
    | lst q r => exact .lst (fL q) (dpAll_map fL fT ds _ r)
  | .tuple ds, _, h => by
    cases h with
    | tup q r => exact .tup (fT q) (dpAll_map fL fT ds _ r)
  | .dict _, _, h => by cases h
theorem dpAll_map (fL : ∀ {a : Addr} {xs : List V}, SqL K H a xs → SqL K H' a xs) (fT : ∀ {a : Addr} {xs : List V}, SqT K H a xs → SqT K H' a xs) : ∀ (ds : List PyData) (vs : List V), DpAll K H vs ds → DpAll K H' vs ds
  | [], _, h => by cases h; exact .nil
  | d :: ds, _, h => by
    cases h with
    | cons q r => exact .cons (dp_map fL fT d _ q) (dpAll_map fL fT ds _ r)
end
theorem dp_same (e : Same H H') {d : PyData} {v : V} (h : Dp K H v d) : Dp K H' v d := dp_map e.seq (sqT_same e) d v h
theorem dp_keep (hd : H d = some (.dK kvs)) (e : KeepV d H H') {pd : PyData} {v : V} (h : Dp K H v pd) : Dp K H' v pd := dp_map (sqL_keep hd e) (sqT_keep hd e) pd v h
end
/-- isinstance(e, C) of a caught exception that is kept -/
def rIsR (K : PySem.W.Frag) : List V → Hp → VK → Prop := fun xs H Q => ∃ (a C D d : Addr) (fs : List (Str × V)) (b : Bool), xs = [.ref a, .ref D] ∧ XcF K C ∧ IsX K H a C d fs ∧ PySem.W.kitOne K (.ref C) (.ref D) = some b ∧ Q (.bl b) H
theorem call_isR {X : Cx} : CallR X (.builtin "isinstance") (rIsR X.K) := by
  intro pins s σ H xs us Q I r h
  obtain ⟨a, C, D, d, fs, b, rfl, T, ix, e, q⟩ := h
  cases r with
  | cons rx rr =>
    cases rr with
    | cons rt rr =>
      cases rr
      cases rx
      cases rt
      obtain ⟨oe, od, mA, J, _, _⟩ := ix.inst I
      exact PySem.W.kia_one (PySem.W.kitx_exc (od := some od) T.cl T.ga T.gg T.su T.ha T.hn T.ht T.hm) I.kIn J e (fun z => nomatch z) fun tk => ⟨.bl b, H, I.kept (t' := tk) fun _ _ z => z, rfl, q⟩
theorem kit_refl {K : PySem.W.Frag} {C : Addr} : PySem.W.kitOne K (.ref C) (.ref C) = some true := by unfold PySem.W.kitOne; rw [if_pos (by simp)]
/-- a call by keywords within try -/
def tCallKS (sp : Sp) (gV : List V → List V → List V) (W : WX) (t tk : TA) : TE := fun σ H Q => t σ H fun vs H1 => tk σ H1 fun zs H2 => sp (gV vs zs) H2 Q (fun cls d H' => W cls d σ H')
section
variable {X : Cx} {k : Nat} {f : Addr} {fd : FuncData} {ps ks : List Str} {sp : Sp} {W : WX} {g : List Value → List Value → List Value} {gV : List V → List V → List V}
theorem run_fnkS {pins : List (Addr × Obj)} {σ : L2.St} {H : Hp} {s : Shared} {Q : VK} {us ws : List Value} {vs zs : List V} (F : FnOk X.prog X.w X.K X.mg X.base (L2.CX X.prog X.w) k f fd ps sp) (hr : Room k X.A) (hb : KBinds X.K fd ps ks g gV) (tk : Takes X W)
    (I : Inv X pins σ H s) (r : Vals vs us) (rz : Vals zs ws) (h : sp (gV vs zs) H Q (fun cls d H' => W cls d σ H')) : wpAny (model X.prog X.w) X.A (call (.ref f) us (ks.zip ws)) (EP X pins σ Q) X.xe s := by
  have r2 := hb.rel r rz
  have hl : (g us ws).length = ps.length := by rw [← r2.length]; exact F.len _ _ _ _ h
  refine wpAny_call (codeAny_mono (F.run X.A X.stack s H ⟨us, ks.zip ws⟩ (g us ws) (gV vs zs) Q _ hr I.env0 (hb.to s us ws I.kIn hl) r2 h) ?_)
  rintro (err | fl) s' hq
  · exact tk err s' (XE.of_call I (fun _ _ _ z => z) hq)
  · cases fl
    case ret u => exact I.after hq
    all_goals exact hq.elim
theorem pe_callKS0 {x : Str} {p pos : Pos} {kws : List Keyword} {tkw : TA} (F : FnOk X.prog X.w X.K X.mg X.base (L2.CX X.prog X.w) k f fd ps sp) (hr : Room k X.A) (gl : Gl X x) (at_ : X.mg x = some (.ref f))
    (kp : PySem.W.keepIn X.K (.ref f) = true) (bd : KBinds X.K fd ps ks g gV) (tk : Takes X W) (pk : PK X kws tkw)
    (al : (backToKw pos (keywordEach kws X.env)).all (·.1.isSome) = true := by rfl) (nm : (backToKw pos (keywordEach kws X.env)).filterMap (·.1) = ks := by rfl)
    (nodb : (x == ("__debug__" : Str)) = false := by decide)
    (pl : ((backTo pos (starEach [] X.env)).any (·.1) || (backToKw pos (keywordEach kws X.env)).any (·.1.isNone)) = false := by rfl) :
    PE X (.Call (.Name x p) [] kws pos) (tCallKS sp gV W tNil tkw) := by
  constructor
  intro pins s σ H Q I h
  apply wpAny_Call_Name_kw
  refine ld_glob I gl at_ ?_ nodb
  refine PySem.W.callWith_KW0 (h₀ := X.base) I.ok.mod.kin kp al (thn (pk.run pos pins s σ H _ I h) ?_) pl
  rintro ws s2 ⟨zs, H2, I2, rz, q2⟩
  refine ⟨I2.kIn, ?_⟩
  rw [nm]
  exact run_fnkS F hr bd tk I2 .nil rz q2
theorem pe_callKS1 {x : Str} {p pos : Pos} {e : Expr} {es : List Expr} {kws : List Keyword} {t tkw : TA} (F : FnOk X.prog X.w X.K X.mg X.base (L2.CX X.prog X.w) k f fd ps sp) (hr : Room k X.A) (gl : Gl X x) (at_ : X.mg x = some (.ref f))
    (kp : PySem.W.keepIn X.K (.ref f) = true) (bd : KBinds X.K fd ps ks g gV) (tk : Takes X W) (pa : PA X (e :: es) t) (pk : PK X kws tkw)
    (al : (backToKw pos (keywordEach kws X.env)).all (·.1.isSome) = true := by rfl) (nm : (backToKw pos (keywordEach kws X.env)).filterMap (·.1) = ks := by rfl)
    (nodb : (x == ("__debug__" : Str)) = false := by decide) (st : starEach (e :: es) X.env = (false, eval e X.env) :: starEach es X.env := by rfl)
    (pl : ((backTo pos (starEach (e :: es) X.env)).any (·.1) || (backToKw pos (keywordEach kws X.env)).any (·.1.isNone)) = false := by rfl) :
    PE X (.Call (.Name x p) (e :: es) kws pos) (tCallKS sp gV W t tkw) := by
  constructor
  intro pins s σ H Q I h
  apply wpAny_Call_Name_kw
  refine ld_glob I gl at_ ?_ nodb
  refine PySem.W.callWith_KW (h₀ := X.base) I.ok.mod.kin kp al (thn (pa.run pos pins s σ H _ I h) fun us s1 ⟨vs, H1, I1, r, q⟩ => ?_) pl st
  refine thn (pk.run pos pins s1 σ H1 _ I1 q) fun ws s2 ⟨zs, H2, I2, rz, q2⟩ => ⟨I2.kIn, ?_⟩
  rw [nm]
  exact run_fnkS F hr bd tk I2 r rz q2
end
end Vz
set_option Elab.async false
set_option linter.all false
set_option maxRecDepth 100000
set_option maxHeartbeats 2000000
namespace Vz
open PySem PySem.Spec PyProof.Rows L2
/-! ### repr of None or data -/
def rReprN (K : PySem.W.Frag) : List V → Hp → VK → Prop := fun xs H Q => (xs = [.non] ∧ Q (.str "None") H) ∨ rRepr K xs H Q
theorem repr_orNone {X : Cx} (gd : X.A.guards = some []) (un : X.A.units + 64 < cLine) : CallR X (.builtin "repr") (rReprN X.K) := by
  intro pins s σ H xs us Q I r h
  rcases h with ⟨rfl, q⟩ | h
  · obtain ⟨u, rfl, ru⟩ := vals1 r
    have eu : u = Value.none := ru
    subst eu
    exact PySem.P.repr_of_none ⟨.str _, H, I.tok _, ⟨_, rfl⟩, q⟩
  · exact repr_data gd un pins s σ H xs us Q I r h
end Vz
set_option Elab.async false
set_option linter.all false
set_option maxRecDepth 100000
set_option maxHeartbeats 2000000
namespace Vz
open PySem PySem.Spec PyProof.Rows L2
/-! ### a text so many times; lists that are not equal -/
theorem op_repS {X : Cx} : OpR X (binaryOp .Mult) (fun x y H Q => ∃ (a : Str) (n : Int), x = .str a ∧ y = .int n ∧ MulOk a n ∧ Q (.str (Txt.mul a n)) H) := by
  rintro pins s σ H x y v u Q I rv ru ⟨a, n, rfl, rfl, ok, q⟩
  obtain ⟨t1, rfl⟩ := rv
  obtain ⟨t2, rfl⟩ := ru
  exact SB.mul ok fun t' k => ⟨.str _, H, I.tok _, ⟨_, rfl⟩, q⟩
/-- two lists with the same items, each of which is flat or one object -/
def rNeSame (K : PySem.W.Frag) : R2 := fun x y H Q => ∃ p q xs, x = .ref p ∧ y = .ref q ∧ SqL K H p xs ∧ SqL K H q xs ∧ (∀ v ∈ xs, (flatV v = true ∧ eqV v v = true) ∨ ∃ a, v = .ref a) ∧ Q (.bl false) H
theorem op_neSame {X : Cx} (hu : X.A.units + 64 < cLine) : OpR X (compareOp .NotEq) (rNeSame X.K) := by
  rintro pins s σ H x y v u Q I rv ru ⟨p, q, xs, rfl, rfl, h1, h2, hs, k⟩
  have e1 : v = .ref p := rv
  have e2 : u = .ref q := ru
  subst e1 e2
  obtain ⟨i1, r1, p1, _⟩ := I.list h1
  obtain ⟨i2, r2, p2, _⟩ := I.list h2
  have l1 := r1.length
  have l2 := r2.length
  have W := SeqAt.RcNeAt.lists (A := X.A) (s := s) (e := fun _ => true) p1.isList p2.isList (by simp only [List.size_toArray]; omega) (by omega) (fun j a b => ?_)
  · refine W X.prog X.w X.xe _ ?_
    have e : (List.range i1.toArray.size).all (fun _ => true) = true := by simp
    rw [e]
    exact ⟨.bl false, H, I, rfl, k⟩
  · have hj : j < xs.length := by rw [List.size_toArray] at a; omega
    have m := List.getElem_mem hj
    have g : xs[j]? = some xs[j] := by simp
    obtain ⟨u1, g1, w1⟩ := r1.get g
    obtain ⟨u2, g2, w2⟩ := r2.get g
    have q1 : i1.toArray[j] = u1 := by
      have := List.getElem?_eq_some_iff.mp g1
      obtain ⟨_, z⟩ := this
      simpa using z
    have q2 : i2.toArray[j] = u2 := by
      have := List.getElem?_eq_some_iff.mp g2
      obtain ⟨_, z⟩ := this
      simpa using z
    rw [q1, q2]
    rcases hs _ m with ⟨f, e⟩ | ⟨c, e⟩
    · have z := eqAt_V (A := X.A.in1) (s := s) w1 w2 f f
      rw [e] at z
      exact z
    · rw [e] at w1 w2
      have z1 : u1 = .ref c := w1
      have z2 : u2 = .ref c := w2
      rw [z1, z2]
      exact SeqAt.EqAt.same _
/-- a list and the empty list -/
def rNeNil (K : PySem.W.Frag) : R2 := fun x y H Q => ∃ p q xs, x = .ref p ∧ y = .ref q ∧ SqL K H p xs ∧ SqL K H q [] ∧ Q (.bl (!xs.isEmpty)) H
theorem op_neNil {X : Cx} (hu : X.A.units + 64 < cLine) : OpR X (compareOp .NotEq) (rNeNil X.K) := by
  rintro pins s σ H x y v u Q I rv ru ⟨p, q, xs, rfl, rfl, h1, h2, k⟩
  have e1 : v = .ref p := rv
  have e2 : u = .ref q := ru
  subst e1 e2
  obtain ⟨i1, r1, p1, _⟩ := I.list h1
  obtain ⟨i2, r2, p2, _⟩ := I.list h2
  have l1 := r1.length
  have l2 := r2.length
  cases xs with
  | nil =>
    have W := SeqAt.RcNeAt.lists (A := X.A) (s := s) (e := fun _ => true) p1.isList p2.isList (by simp only [List.size_toArray]; omega) (by omega) (fun j a b => by simp only [List.size_toArray] at b; simp at l2; omega)
    refine W X.prog X.w X.xe _ ?_
    have e : (List.range i1.toArray.size).all (fun _ => true) = true := by simp
    rw [e]
    exact ⟨.bl false, H, I, rfl, k⟩
  | cons a r =>
    have W := SeqAt.RcNeAt.lists_lengths (A := X.A) (s := s) p1.isList p2.isList (by simp only [List.size_toArray, bne_iff_ne]; simp at l1 l2; omega) (by omega)
    exact W X.prog X.w X.xe _ ⟨.bl true, H, I, rfl, k⟩
/-- two keywords in the order of the def, nothing by place -/
def kwO {α : Type} (us ws : List α) : List α := match us with
  | [] => ws
  | _ :: _ => []
theorem kb2 {K : PySem.W.Frag} {fd : FuncData} {p q : Str} (h : ∀ (s : Shared) (a b : Value), K.In s.heap → BindsTo s fd ⟨[], [p, q].zip [a, b]⟩ ([p, q].zip [a, b])) : KBinds K fd [p, q] [p, q] kwO kwO where
  to := by
    intro s us ws hk hl
    match us, ws, hl with
    | [], [a, b], _ => exact h s a b hk
    | [], [], z => cases z
    | [], [_], z => cases z
    | [], _ :: _ :: _ :: _, z => simp [kwO] at z
    | _ :: _, _, z => cases z
  rel := by
    intro vs us zs ws r z
    cases r with
    | nil => exact z
    | cons _ _ => exact .nil
end Vz
set_option Elab.async false
set_option linter.all false
set_option maxRecDepth 100000
set_option maxHeartbeats 2000000
namespace Vz
open PySem PySem.Spec PyProof.Rows L2
/-! ### repr of None or a text -/
def rReprS : List V → Hp → VK → Prop := fun xs H Q => (xs = [.non] ∧ Q (.str "None") H) ∨ ∃ a, xs = [.str a] ∧ (reprText a).length ≤ sizeLine ∧ Q (.str (reprText a)) H
theorem repr_ns {X : Cx} : CallR X (.builtin "repr") rReprS := by
  intro pins s σ H xs us Q I r h
  rcases h with ⟨rfl, q⟩ | ⟨a, rfl, hl, q⟩
  · obtain ⟨u, rfl, ru⟩ := vals1 r
    have eu : u = Value.none := ru
    subst eu
    exact PySem.P.repr_of_none ⟨.str _, H, I.tok _, ⟨_, rfl⟩, q⟩
  · obtain ⟨u, rfl, ru⟩ := vals1 r
    obtain ⟨t, rfl⟩ : ∃ t, u = Value.str a t := ru
    exact PySem.P.repr_of_str ⟨.str _, H, I.tok _, ⟨_, rfl⟩, q⟩ hl
theorem repr_fits {a : Str} (h : a.length ≤ 1000) (k : ∀ c ∈ a.cps.toList, c < 128) : (reprText a).length ≤ sizeLine := by
  have e : (PyData.str a).shown = reprText a := rfl
  rw [← e]
  refine PyData.shown_fits (B := 13) (by decide) (by decide) ?_ ?_
  · simp only [PyData.leavesShort, List.all_eq_true, decide_eq_true_eq]
    intro c hc
    exact Nat.lt_of_lt_of_le (k c hc) (by decide)
  · show a.cps.size ≤ 2 ^ 20
    have : a.cps.size = a.length := rfl
    omega
/-- two keywords in the other order than the def's, nothing by place -/
def kwR {α : Type} (us ws : List α) : List α := match us with
  | [] => ws.reverse
  | _ :: _ => []
theorem kb2r {K : PySem.W.Frag} {fd : FuncData} {p q : Str} (h : ∀ (s : Shared) (a b : Value), K.In s.heap → BindsTo s fd ⟨[], [q, p].zip [a, b]⟩ ([p, q].zip [b, a])) : KBinds K fd [p, q] [q, p] kwR kwR where
  to := by
    intro s us ws hk hl
    match us, ws, hl with
    | [], [a, b], _ => exact h s a b hk
    | [], [], z => cases z
    | [], [_], z => cases z
    | [], _ :: _ :: _ :: _, z => simp [kwR] at z
    | _ :: _, _, z => cases z
  rel := by
    intro vs us zs ws r z
    cases r with
    | nil => exact Vz.vals_rev z
    | cons _ _ => exact .nil
end Vz
set_option Elab.async false
set_option linter.all false
set_option maxRecDepth 100000
set_option maxHeartbeats 2000000
/-! min(a list of two texts, key = a lambda of (len(text), text)): the loop by a single state, the lambda's run by its body. -/
namespace Vz
open PySem PySem.Spec PyProof.Rows L2 LamX

/-- JV i a b: i items have been walked, a is the best, b its key; JT i v k a b: .. and v, the next one, has the key k -/
structure KeyWalk (P : Program) (w : World) (A : Around) (q S : Addr) (n : Nat) (Pv : Nat → Value → Prop) (St : Nat → Shared → Prop) (wr : List Addr) (G : Array GenState → Array GenState → Prop)
    (JV : Nat → Value → Value → Shared → Prop) (JT : Nat → Value → Value → Value → Value → Shared → Prop) : Prop where
  keep : ∀ i a b s s', JV i a b s → Moved (S :: wr) G s s' → JV i a b s'
  keepT : ∀ i v k a b s s', JT i v k a b s → Moved (S :: wr) G s s' → JT i v k a b s'
  turn : ∀ i v a b (s : Shared) (o : Obj) (Q : Value → Shared → Prop) (E : Value → Shared → Prop), i < n → Pv i v → JV i a b s → St (i + 1) s → s.heap.get? S = some o →
    (∀ k s', JT i v k a b s' → St (i + 1) s' → s'.heap.get? S = some o → Q k s') → wpAny (model P w) A (call (.ref q) [v]) Q E s
  one : ∀ v k s, JT 0 v k .none .none s → JV 1 v k s
  cmp : ∀ i v k a b (s : Shared) (Q : Value → Shared → Prop) (E : Value → Shared → Prop), 0 < i → JT i v k a b s → (∀ r : Bool, (r = true → JV (i + 1) v k s) → (r = false → JV (i + 1) a b s) → Q (.bool r) s) → wpAny (model P w) A (richCompare .Lt k b) Q E s
section
variable {P : Program} {w : World} {A : Around} {R : Result → Shared → Prop} {I q S : Addr} {fp wr : List Addr} {G : Array GenState → Array GenState → Prop} {n : Nat} {Pv : Nat → Value → Prop} {St : Nat → Shared → Prop}
  {JV : Nat → Value → Value → Shared → Prop} {JT : Nat → Value → Value → Value → Value → Shared → Prop}
abbrev lstB (xs : Array Value) (c : Nat) : Obj := { cls := .type "list", dict := none, data := .seq xs c, slots := #[] }
theorem upMoved (W : WalksS P w A.in1 I fp wr G n Pv St) (s : Shared) (f : Array Value → Array Value) : Moved (S :: wr) G s { s with heap := s.heap.update S (Obj.mapSeq f), toks := s.toks } :=
  (Moved.refl W.grefl).then_heap (tk := s.toks) (Nat.le_refl _) fun b o hb e => by
    rw [Heap.get?_update_other _ _ (fun z : S = b => hb (by rw [z]; exact List.mem_cons_self))]; exact e
theorem upSt (W : WalksS P w A.in1 I fp wr G n Pv St) (nS : S ∉ fp) (s : Shared) (f : Array Value → Array Value) {i : Nat} (st : St i s) : St i { s with heap := s.heap.update S (Obj.mapSeq f), toks := s.toks } :=
  W.frame i s _ s.toks st (Nat.le_refl _) fun b hb o e => by
    rw [Heap.get?_update_other _ _ (fun z : S = b => nS (by rw [z]; exact hb))]; exact e
theorem keyLoop (W : WalksS P w A.in1 I fp wr G n Pv St) (nS : S ∉ fp) (K : KeyWalk P w A.in1 q S n Pv St wr G JV JT) (kw : List (Str × Value)) :
    ∀ (m i : Nat) (s : Shared) (a b : Value) (c : Nat), n - i = m → 1 ≤ i → i ≤ n → JV i a b s → St i s → s.heap.get? S = some (lstB #[a, b] c) → (∀ a b s', JV n a b s' → R (.ok (.ret a)) s') →
      codeAny (model P w) A (.builtin "min.loop" ⟨[.ref I, .ref q, .ref S], kw⟩) R s := by
  have nW : S ∉ wr := fun z => nS (W.sub _ z)
  have sb : ∀ b ∈ wr, b ∈ S :: wr := fun b z => List.mem_cons_of_mem S z
  have nm : (toString "min" ++ toString ".loop" : String) = "min.loop" := rfl
  intro m
  induction m with
  | zero =>
    intro i s a b c hm h1 h2 jv st hS hR
    obtain rfl : i = n := by omega
    apply codeAny_builtin F.entry_min_loop
    rw [show A.under (.builtin "min.loop" ⟨[.ref I, .ref q, .ref S], kw⟩) = A.in1 from Around.under_plainId F.plain_min_loop _]
    show wpAny _ A.in1 (bind (seqItems? (.ref S)) _) _ _ s
    apply wpAny_bind
    apply wpAny_seqItems hS rfl
    show wpAny _ A.in1 (bind (tryCatch (pyNext (.ref I)) _) _) _ _ s
    apply wpAny_bind
    apply wpAny_tryCatch
    refine W.done s _ _ st fun s2 mv => ?_
    have hS2 := mv.heap S _ nW hS
    show wpAny _ A.in1 (bind (updateSeq S (fun _ => #[])) _) _ _ _
    apply wpAny_bind
    refine wpAny_updateSeq hS2 rfl ?_
    apply wpAny_bind
    apply wpAny_letGo
    apply wpAny_pure
    exact hR a b _ (K.keep _ _ _ _ _ (K.keep _ _ _ _ _ jv (mv.mono sb)) (upMoved W s2 _))
  | succ m ih =>
    intro i s a b c hm h1 h2 jv st hS hR
    have lt : i < n := by omega
    apply codeAny_builtin F.entry_min_loop
    rw [show A.under (.builtin "min.loop" ⟨[.ref I, .ref q, .ref S], kw⟩) = A.in1 from Around.under_plainId F.plain_min_loop _]
    show wpAny _ A.in1 (bind (seqItems? (.ref S)) _) _ _ s
    apply wpAny_bind
    apply wpAny_seqItems hS rfl
    show wpAny _ A.in1 (bind (tryCatch (pyNext (.ref I)) _) _) _ _ s
    apply wpAny_bind
    apply wpAny_tryCatch
    refine W.item i s _ _ lt st fun v s2 pv st2 mv => ?_
    have hS2 := mv.heap S _ nW hS
    have jv2 := K.keep _ _ _ _ _ jv (mv.mono sb)
    show wpAny _ A.in1 (bind (tryCatch (holding [v] (call (.ref q) [v])) _) _) _ _ _
    apply wpAny_bind
    apply wpAny_tryCatch
    apply wpAny_holding
    refine K.turn i v a b s2 _ _ _ lt pv jv2 st2 hS2 fun k s3 jt st3 hS3 => ?_
    show wpAny _ A.in1 (bind (tryCatch (holding [v, k] (bind (richCompare .Lt k b) _)) _) _) _ _ _
    apply wpAny_bind
    apply wpAny_tryCatch
    apply wpAny_holding
    apply wpAny_bind
    refine K.cmp i v k a b s3 _ _ (by omega) jt fun r rt rf => ?_
    apply wpAny_bind
    apply wpAny_holding
    apply wpAny_truthy_bool
    apply wpAny_bind
    apply wpAny_letGo
    apply wpAny_pure
    cases r with
    | true =>
      simp only [if_true]
      apply wpAny_bind
      refine wpAny_updateSeq hS3 rfl ?_
      apply wpAny_bind
      apply wpAny_letGo
      rw [nm]
      apply wpAny_pure
      exact ⟨plainId_quiet F.plain_min_loop _, ih (i + 1) _ v k _ (by omega) (by omega) lt (K.keep _ _ _ _ _ (rt rfl) (upMoved W s3 _)) (upSt W nS s3 _ st3) (Heap.get?_update_self _ hS3 rfl) hR⟩
    | false =>
      simp only [Bool.false_eq_true, if_false]
      apply wpAny_bind
      apply wpAny_letGo
      rw [nm]
      apply wpAny_pure
      exact ⟨plainId_quiet F.plain_min_loop _, ih (i + 1) _ a b c (by omega) (by omega) lt (rf rfl) st3 hS3 hR⟩
theorem keyFirst (W : WalksS P w A.in1 I fp wr G n Pv St) (nS : S ∉ fp) (K : KeyWalk P w A.in1 q S n Pv St wr G JV JT) (kw : List (Str × Value)) (hn : 0 < n) {s : Shared} {c : Nat} (jv : JV 0 .none .none s) (st : St 0 s)
    (hS : s.heap.get? S = some (lstB #[] c)) (hR : ∀ a b s', JV n a b s' → R (.ok (.ret a)) s') : codeAny (model P w) A (.builtin "min.loop" ⟨[.ref I, .ref q, .ref S], kw⟩) R s := by
  have nW : S ∉ wr := fun z => nS (W.sub _ z)
  have sb : ∀ b ∈ wr, b ∈ S :: wr := fun b z => List.mem_cons_of_mem S z
  have nm : (toString "min" ++ toString ".loop" : String) = "min.loop" := rfl
  apply codeAny_builtin F.entry_min_loop
  rw [show A.under (.builtin "min.loop" ⟨[.ref I, .ref q, .ref S], kw⟩) = A.in1 from Around.under_plainId F.plain_min_loop _]
  show wpAny _ A.in1 (bind (seqItems? (.ref S)) _) _ _ s
  apply wpAny_bind
  apply wpAny_seqItems hS rfl
  show wpAny _ A.in1 (bind (tryCatch (pyNext (.ref I)) _) _) _ _ s
  apply wpAny_bind
  apply wpAny_tryCatch
  refine W.item 0 s _ _ hn st fun v s2 pv st2 mv => ?_
  have hS2 := mv.heap S _ nW hS
  have jv2 := K.keep _ _ _ _ _ jv (mv.mono sb)
  show wpAny _ A.in1 (bind (tryCatch (holding [v] (call (.ref q) [v])) _) _) _ _ _
  apply wpAny_bind
  apply wpAny_tryCatch
  apply wpAny_holding
  refine K.turn 0 v .none .none s2 _ _ _ hn pv jv2 st2 hS2 fun k s3 jt st3 hS3 => ?_
  show wpAny _ A.in1 (bind (updateSeq S (fun _ => #[v, k])) _) _ _ _
  apply wpAny_bind
  refine wpAny_updateSeq hS3 rfl ?_
  rw [nm]
  apply wpAny_pure
  exact ⟨plainId_quiet F.plain_min_loop _, keyLoop W nS K kw _ 1 _ v k _ rfl (Nat.le_refl _) hn (K.keep _ _ _ _ _ (K.one _ _ _ jt) (upMoved W s3 _)) (upSt W nS s3 _ st3) (Heap.get?_update_self _ hS3 rfl) hR⟩
end
section
variable {P : Program} {w : World} {A : Around} {E : Value → Shared → Prop} {s : Shared}
/-- min(x, key=f), its state in one piece -/
theorem call_minKey {x : Value} {q : Addr} {Q : Value → Shared → Prop}
    (h : wpAny (model P w) A.in1 (pyIter x) (fun it s2 => ∃ I fp wr G n Pv St JV JT, it = .ref I ∧ WalksS P w A.in1 I fp wr G n Pv St ∧ St 0 s2 ∧ (∀ b ∈ fp, b < s2.heap.objs.size) ∧ 0 < n ∧
      KeyWalk P w A.in1 q s2.heap.objs.size n Pv St wr G JV JT ∧ JV 0 .none .none s2 ∧ ∀ a b s', JV n a b s' → Q a s') E s) :
    wpAny (model P w) A (call (.builtin "min") [x] [(Str.ofString "key", .ref q)]) Q E s := by
  have nm : (toString "min" ++ toString ".loop" : String) = "min.loop" := rfl
  apply PyProof.Rows.kmk_tree F.kind_min F.plain_min F.entry_min (PyProof.Rows.kmk_min_key _ _)
  show wpAny _ A.in1 (bind (Builtin.Builtins.bindParams "min" ["key", "default"] 0 ⟨[], [(Str.ofString "key", .ref q)]⟩) _) _ _ s
  apply wpAny_bind
  refine wpAny_of_eq (show Builtin.Builtins.bindParams "min" ["key", "default"] 0 ⟨[], [(Str.ofString "key", .ref q)]⟩ = pure [some (.ref q), none] by rfl) ?_
  apply wpAny_bind
  apply wpAny_pure
  apply wpAny_bind
  refine wpAny_mono h (fun it s2 h2 => ?_) fun _ _ z => z
  obtain ⟨I, fp, wr, G, n, Pv, St, JV, JT, rfl, W, st, hfp, hn, K, jv, hQ⟩ := h2
  apply wpAny_bind
  refine wpAny_newObj_type ?_
  have nS : s2.heap.objs.size ∉ fp := fun z => absurd (hfp _ z) (Nat.lt_irrefl _)
  rw [nm]
  have mv : Moved (s2.heap.objs.size :: wr) G s2 { s2 with heap := s2.heap.push (lstB #[] 0), toks := s2.toks } := (Moved.refl W.grefl).then_heap (tk := s2.toks) (Nat.le_refl _) fun b o _ z => Heap.get?_push_of_some _ z
  have st2 := W.frame 0 s2 (s2.heap.push (lstB #[] 0)) s2.toks st (Nat.le_refl _) fun b _ o z => Heap.get?_push_of_some _ z
  apply wpAny_pure
  exact ⟨plainId_quiet F.plain_min_loop _, keyFirst W nS K _ hn (K.keep _ _ _ _ _ jv mv) st2 (Heap.get?_push_size _ rfl) hQ⟩
end

/-- a def whose code object is known -/
theorem Fun.okXC {P : Program} {w : World} {K : PySem.W.Frag} {mg : Str → Option Value} {base : Heap} {x qual : Str} {st : Stmt} {f c : Addr} {fd : FuncData} {N ps : List Str} {k : Nat} {sp : Sp} (F : Fun K x qual st f fd) (hc : fd.code = .ref c) (S : FnScope N ps (defScope st))
    (len : ∀ vs H Q E, sp vs H Q E → vs.length = ps.length)
    (hbody : ∀ (A : Around) (outer : List Env) (s : Shared) (H : Hp) (vs : List V) (Q : VK) (E : XK), Room k (A.deeper (envOfC qual (defScope st) s.heap.objs.size f (.ref c))) → sp vs H Q E →
      ∃ t, PSs (cxOf (L2.CX P w) P w K mg base N qual (defScope st) f (.ref c) A outer s H E) (defBody st) t ∧ t { nx := fun _ H' => Q .non H', rt := Q } (start N vs) H) : FnOk P w K mg base (L2.CX P w) (k + 1) f fd ps sp := by
  obtain ⟨oc, od, kV, doc, pm, an, cdv, ct, osl, rfl, lk, hcd⟩ := F.ex
  have e : cdv = .ref c := hc
  subst e
  exact fn_of lk hcd S len hbody
/-- a lambda of one parameter, called -/
theorem run_lam1 {CX : CXT} {P : Program} {w : World} {K : PySem.W.Frag} {mg : Str → Option Value} {base : Heap} {k : Nat} {f c' : Addr} {qual : Str} {params : Arguments} {body : Expr} {scope : Scope} {pm ctv : Value} {N : List Str} {x : Str}
    {A : Around} {outer : List Env} {s : Shared} {H : Hp} {u : Value} {v : V} {Q : VK} {E : XK} {tb : TE} (S : FnScope N [x] scope) (hr : Room (k + 1) A) (e0 : Env0 P w K mg base A outer s H)
    (hf : s.heap.get? f = some (PySem.W.kla_obj "<lambda>" qual params body scope [] pm c' ctv)) (hc : H c' = some (CodeO c' qual))
    (hb : bindArgs (PySem.W.kla_fn "<lambda>" qual params body scope [] pm (.ref c') ctv) ⟨[u], []⟩ = pure [(x, u)]) (r : RelV v u)
    (hbody : Room k (A.deeper (envOfC qual scope s.heap.objs.size f (.ref c'))) → PE (cxOf CX P w K mg base N qual scope f (.ref c') A outer s H E) body tb) (ht : tb (L2.start N [v]) H Q) :
    codeAny (model P w) A (.call (.ref f) ⟨[u], []⟩) (CR CX outer P w H s Q E) s := by
  have lim : s.heap.NoLimit := e0.mod.nolimit.keeps fun b o e => (e0.bs b o e).1
  obtain ⟨⟨oc, vs, t, hoc, hdc, hvc⟩, _, _⟩ := e0.hok c' _ hc
  have kd : ∀ y ∈ [x].zip [u], scope.names.lookup y.1 = some .local ∨ (scope.names.lookup y.1 = some .cell ∧ ((cellsFrom (s.heap.objs.size + 1) scope.names []).lookup y.1).isSome = true) := fun ⟨n, v⟩ hy => by
    rcases S.par n (List.of_mem_zip hy).1 with z | z
    · exact .inl z
    · exact .inr ⟨z, PySem.W.cellsFrom_some _ _ _ (.inl z)⟩
  refine PySem.W.kla_callFunE hr.depth hf rfl S.co S.gen rfl ⟨c', oc, vs, t, rfl, hoc, hdc, hvc⟩ ?_
  rw [hb]
  apply wpAny_pure
  refine wpAny_newFunctionEnv_cells S.kind kd fun env he s1 x1 => ?_
  subst he
  refine ⟨lim.keeps x1.toInCall.keep, ?_⟩
  have I := inv_start (CX := CX) (E := E) (N := N) (ps := [x]) S hr.hd e0 (vs := [v]) rfl (.cons r .nil) x1
  refine PySem.W.kla_codeExpr (wpAny_mono ((hbody (hr.deeper _)).run [] s1 _ H Q I ht) (fun v s' hq => ?_) fun e s' hq => hq)
  obtain ⟨z, H', J, rv, q⟩ := hq
  exact ⟨z, H', J.os, J.bare, J.base, J.hok, rv, q⟩
def kD (x : Str) : PyData := .tuple [.int x.length, .str x]
def minS (x y : Str) : Str := if PySem.W.dataLt (kD y) (kD x) = true then y else x
def tKeyOk (N : List Str) (t : TE) : Prop := ∀ (z : Str) (H : Hp) (Q : VK), z.length ≤ sizeLine → (∀ q, H q = none → Q (.ref q) (upd H q (.tup [.int z.length, .str z]))) → t (L2.start N [.str z]) H Q
section
variable {X : Cx} {pins : List (Addr × Obj)} {σ : L2.St} {H : Hp} {s : Shared}
theorem notStk (I : Inv X pins σ H s) {b : Addr} (h : FpOk X pins H b) : b ∉ frs X.stack := fun z => by
  rcases List.mem_cons.mp (I.stkSub b z) with e | e
  · exact h.2.1 e
  · exact h.2.2.1 e
/-- the state of the walk over the two texts -/
structure MW (X : Cx) (pins : List (Addr × Obj)) (σ : L2.St) (H0 : Hp) (I0 S0 f : Addr) (F : Obj) (H : Hp) (s : Shared) : Prop where
  inv : Inv X pins σ H s
  same : Same H0 H
  it : FpOk X pins H I0
  lst : FpOk X pins H S0
  fn : s.heap.get? f = some F
  nf : H f = none
theorem MW.moved {H0 : Hp} {I0 S0 f : Addr} {F : Obj} {s' : Shared} (m : MW X pins σ H0 I0 S0 f F H s) (n1 : f ≠ I0) (n2 : f ≠ S0) (mv : Moved (S0 :: [I0]) (fun a b => b = a) s s') : MW X pins σ H0 I0 S0 f F H s' := by
  have e := Moved.eq_with mv
  have k : ∀ b o, b ∉ S0 :: [I0] → s.heap.get? b = some o → s'.heap.get? b = some o := mv.heap
  have hf := k f _ (fun z => by
    rcases List.mem_cons.mp z with z | z
    · exact n2 z
    · exact n1 (List.mem_singleton.mp z)) m.fn
  have inv : Inv X pins σ H s' := by
    rw [e]
    refine m.inv.turnedL (ch := S0 :: [I0]) (fun b o hb q => k b o hb q) fun b hb => ?_
    rcases List.mem_cons.mp hb with z | z
    · rw [z]; exact m.lst
    · rw [List.mem_singleton.mp z]; exact m.it
  exact ⟨inv, m.same, m.it, m.lst, hf, m.nf⟩
theorem reads_key {H : Hp} (I : Inv X pins σ H s) {a : Addr} {z : Str} (h : H a = some (.tup [.int z.length, .str z])) : ∃ as, Reads s.heap (.ref a) (kD z) as := by
  obtain ⟨_, its, rv, o, ho, hc, n, hd⟩ := I.hok a _ h
  obtain ⟨u1, u2, rfl, ⟨t1, rfl⟩, ⟨t2, rfl⟩⟩ := vals2 rv
  exact ⟨_, .tuple ho hc hd (.cons (.int _ _) (.cons (.str _ _) .nil))⟩
theorem dLt (x y : Str) : PySem.W.alike (kD x) (kD y) = true := rfl
/-- the walk's best: the first text, then the lesser one -/
def bst (x y : Str) (i : Nat) : Str := if i = 1 then x else minS x y
def JVm (X : Cx) (pins : List (Addr × Obj)) (σ : L2.St) (H0 : Hp) (I0 S0 f : Addr) (F : Obj) (x y : Str) (i : Nat) (a b : Value) (s : Shared) : Prop :=
  ∃ H, MW X pins σ H0 I0 S0 f F H s ∧ (0 < i → ∃ ad, b = .ref ad ∧ RelV (.str (bst x y i)) a ∧ H ad = some (.tup [.int (bst x y i).length, .str (bst x y i)]))
def JTm (X : Cx) (pins : List (Addr × Obj)) (σ : L2.St) (H0 : Hp) (I0 S0 f : Addr) (F : Obj) (x y : Str) (i : Nat) (v k a b : Value) (s : Shared) : Prop :=
  ∃ H, MW X pins σ H0 I0 S0 f F H s ∧ i < 2 ∧ (∃ ak z, z = (if i = 0 then x else y) ∧ k = .ref ak ∧ RelV (.str z) v ∧ H ak = some (.tup [.int z.length, .str z])) ∧
    (0 < i → ∃ ad, b = .ref ad ∧ RelV (.str x) a ∧ H ad = some (.tup [.int x.length, .str x]))
theorem min_walk {p f c' : Addr} {params : Arguments} {body : Expr} {scope : Scope} {pm ctv : Value} {qual : Str} {N : List Str} {xn : Str} {k : Nat} {tb : TE} {x y : Str} {Q : VK} (I : Inv X pins σ H s)
    (hp : H p = some (.lst [.str x, .str y])) (hx : x.length ≤ sizeLine) (hy : y.length ≤ sizeLine)
    (hf : s.heap.get? f = some (PySem.W.kla_obj "<lambda>" qual params body scope [] pm c' ctv)) (nf : H f = none) (nfr : f ∉ frs X.stack) (hc : H c' = some (CodeO c' qual))
    (hr : Room (k + 2) X.A) (S : FnScope N [xn] scope)
    (hbind : ∀ u : Value, bindArgs (PySem.W.kla_fn "<lambda>" qual params body scope [] pm (.ref c') ctv) ⟨[u], []⟩ = pure [(xn, u)])
    (hbody : ∀ (A : Around) (outer : List Env) (s : Shared) (H : Hp) (E : XK), Room k (A.deeper (envOfC qual scope s.heap.objs.size f (.ref c'))) → PE (cxOf C8.CX0 X.prog X.w X.K X.mg X.base N qual scope f (.ref c') A outer s H E) body tb)
    (hk : tKeyOk N tb) (q : ∀ H2, Same H H2 → Q (.str (minS x y)) H2) :
    wpAny (model X.prog X.w) X.A (call (.builtin "min") [.ref p] [(Str.ofString "key", .ref f)]) (EP X pins σ Q) X.xe s := by
  have noz := I.nofrz hp trivial
  obtain ⟨od, IL⟩ := I.lock hp trivial
  obtain ⟨e1, hz, its, n, rv, e2⟩ := IL.hok p _ upd_same
  obtain ⟨u1, u2, rfl, r1, r2⟩ := vals2 rv
  have hl : s.heap.IsList p #[u1, u2] := ⟨_, e2, rfl, _, rfl⟩
  have hlt : f < s.heap.objs.size := Heap.lt_size hf
  have fp : f ≠ p := fun z => by rw [z, hp] at nf; cases nf
  have cp : c' ≠ p := fun z => by
    rw [z, hp] at hc
    cases hc
  have nfL : upd H p (.frz od (.lst [V.str x, V.str y])) f = none := by rw [upd_ne fp]; exact nf
  have hcL : upd H p (.frz od (.lst [V.str x, V.str y])) c' = some (CodeO c' qual) := by rw [upd_ne cp]; exact hc
  have hpL : upd H p (.frz od (.lst [V.str x, V.str y])) p = some (.frz od (.lst [V.str x, V.str y])) := upd_same
  have back : ∀ H2, Same (upd H p (.frz od (.lst [V.str x, V.str y]))) H2 → Same H (upd H2 p (.lst [V.str x, V.str y])) := fun H2 sm b o e => by
    by_cases hb : b = p
    · subst hb
      rw [hp] at e
      cases e
      exact upd_same
    · rw [upd_ne hb]
      exact sm b o (by rw [upd_ne hb]; exact e)
  generalize hHL : upd H p (.frz od (.lst [V.str x, V.str y])) = HL at *
  refine call_minKey (PySem.W.iter_listW (A := X.A.in1) hr.hd hl fun s2 es W st hfp hw hkp => ?_)
  have szS : s2.heap.objs.size = s.heap.objs.size + 1 := by rw [es]; exact Heap.size_push _ _
  have I2 : Inv X pins σ HL s2 := by rw [es]; exact IL.kept (t' := s.toks) fun b o e => Heap.get?_push_of_some _ e
  have fI : FpOk X pins HL s.heap.objs.size := IL.fpOk (Nat.le_refl _) (IL.hok.fresh (Nat.le_refl _))
  have fS : FpOk X pins HL s2.heap.objs.size := I2.fpOk (Nat.le_refl _) (I2.hok.fresh (Nat.le_refl _))
  have m0 : MW X pins σ HL s.heap.objs.size s2.heap.objs.size f (PySem.W.kla_obj "<lambda>" qual params body scope [] pm c' ctv) HL s2 := ⟨I2, Same.refl _, fI, fS, hkp _ _ hf, nfL⟩
  have n1 : f ≠ s.heap.objs.size := Nat.ne_of_lt hlt
  have n2 : f ≠ s2.heap.objs.size := by rw [szS]; exact Nat.ne_of_lt (Nat.lt_succ_of_lt hlt)
  refine ⟨_, _, _, _, _, _, _, JVm X pins σ HL s.heap.objs.size s2.heap.objs.size f (PySem.W.kla_obj "<lambda>" qual params body scope [] pm c' ctv) x y, JTm X pins σ HL s.heap.objs.size s2.heap.objs.size f (PySem.W.kla_obj "<lambda>" qual params body scope [] pm c' ctv) x y, rfl, W, st, hfp, (by decide : 0 < 2), ?_, ⟨HL, m0, fun z => absurd z (by decide)⟩, ?_⟩
  · refine ⟨fun i a b s3 s4 jv mv => ?_, fun i v k a b s3 s4 jt mv => ?_, fun i v a b s3 o Q2 E2 hi pv jv st3 hS ret => ?_, fun v k s3 jt => ?_, fun i v k a b s3 Q2 E2 hi jt ret => ?_⟩
    · obtain ⟨H3, m, r⟩ := jv
      exact ⟨H3, m.moved n1 n2 mv, r⟩
    · obtain ⟨H3, m, r⟩ := jt
      exact ⟨H3, m.moved n1 n2 mv, r⟩
    · obtain ⟨H3, m, best⟩ := jv
      have hi2 : i < 2 := hi
      obtain ⟨z, ez, rz, lz⟩ : ∃ z, z = (if i = 0 then x else y) ∧ RelV (.str z) v ∧ z.length ≤ sizeLine := by
        have pv : (#[u1, u2] : Array Value)[i]? = some v := pv
        match i, hi2 with
        | 0, _ =>
          have e : u1 = v := Option.some.inj pv
          exact ⟨x, rfl, by rw [← e]; exact r1, hx⟩
        | 1, _ =>
          have e : u2 = v := Option.some.inj pv
          exact ⟨y, rfl, by rw [← e]; exact r2, hy⟩
      refine wpAny_call (codeAny_mono (run_lam1 (CX := C8.CX0) (E := C8.E0) (k := k) (Q := fun r H4 => ∃ t, r = .ref t ∧ H3 t = none ∧ H4 = upd H3 t (.tup [.int z.length, .str z])) S hr.in1 m.inv.env0.in1 m.fn (m.same _ _ hcL) (hbind v) rz (fun hr2 => hbody _ _ _ _ _ hr2) (hk z H3 _ lz fun t nt => ⟨t, rfl, nt, rfl⟩)) fun r s4 hq => ?_)
      cases r with
      | error e => exact (show False from hq).elim
      | ok fl =>
        cases fl with
        | next => exact False.elim hq
        | brk => exact False.elim hq
        | cont => exact False.elim hq
        | ret u =>
          obtain ⟨vr, H4, os, bare, un, hok4, ru, t, rfl, nt, rfl⟩ := hq
          obtain rfl : u = Value.ref t := ru
          have I4 := m.inv.call' os un hok4 bare (fun b hb => absurd hb (by simp))
          have kI : ∀ b o, FpOk X pins H3 b → s3.heap.get? b = some o → s4.heap.get? b = some o := fun b o fb e => un.keep b o e fb.1 (notStk m.inv fb) (by simp)
          obtain ⟨⟨ob, eb, cb, db⟩, ⟨ol, el, cl, nl, dl⟩⟩ := st3
          have eb4 := kI _ _ m.it eb
          have eS4 := kI _ _ m.lst hS
          have ef4 := un.keep f _ m.fn m.nf nfr (by simp)
          have hp3 := m.same _ _ hpL
          have el3 : s3.heap.get? p = some od := (m.inv.hok p _ hp3).1
          have el4 : s4.heap.get? p = some od := (hok4 p _ (un.frzs p _ _ hp3)).1
          have eo : ol = od := by rw [el3] at el; exact (Option.some.inj el).symm
          subst eo
          have sm4 : Same H3 (upd H3 t (.tup [.int z.length, .str z])) := fun b o e => by rw [upd_ne (ne_of_none e nt)]; exact e
          have m4 : MW X pins σ HL s.heap.objs.size s2.heap.objs.size f (PySem.W.kla_obj "<lambda>" qual params body scope [] pm c' ctv) (upd H3 t (.tup [.int z.length, .str z])) s4 :=
            ⟨I4, m.same.trans sm4, ⟨un.free _ _ eb m.it.1 (by simp), m.it.2⟩, ⟨un.free _ _ hS m.lst.1 (by simp), m.lst.2⟩, ef4, un.free _ _ m.fn m.nf (by simp)⟩
          refine ret _ _ ⟨_, m4, hi2, ⟨t, z, ez, rfl, rz, upd_same⟩, fun hi0 => ?_⟩ ⟨⟨ob, eb4, cb, db⟩, ⟨ol, el4, cl, nl, dl⟩⟩ eS4
          have e1 : i = 1 := by omega
          subst e1
          obtain ⟨ad, eb, ra, ha⟩ := best (by decide)
          exact ⟨ad, eb, ra, sm4 _ _ ha⟩
    · obtain ⟨H3, m, _, ⟨ak, z, rfl, ek, rz, hk3⟩, _⟩ := jt
      exact ⟨H3, m, fun _ => ⟨ak, ek, rz, hk3⟩⟩
    · obtain ⟨H3, m, hi2, ⟨ak, z, ez, rfl, rz, hk3⟩, best⟩ := jt
      have e1 : i = 1 := by omega
      subst e1
      obtain rfl : z = y := ez
      obtain ⟨ad, rfl, ra, ha⟩ := best (by decide)
      obtain ⟨as1, d1⟩ := reads_key m.inv hk3
      obtain ⟨as2, d2⟩ := reads_key m.inv ha
      refine PySem.W.rcLt_alike (kD z) (kD x) X.A.in1 s3 _ _ as1 as2 d1 d2 (dLt z x) (fun h => nomatch h) ?_ X.prog X.w E2 Q2 (ret _ (fun h => ⟨H3, m, fun _ => ?_⟩) fun h => ⟨H3, m, fun _ => ?_⟩)
      · have := hr.un
        have e : (kD z).depth = 1 := rfl
        show X.A.units + 1 + min (kD z).depth (kD x).depth < cLine
        have e2 : min (kD z).depth (kD x).depth ≤ 1 := by rw [← e]; exact Nat.min_le_left _ _
        omega
      · have eb : bst x z 2 = z := by unfold bst minS; rw [if_neg (by decide), if_pos h]
        rw [eb]
        exact ⟨ak, rfl, rz, hk3⟩
      · have eb : bst x z 2 = x := by unfold bst minS; rw [if_neg (by decide), if_neg (by rw [h]; decide)]
        rw [eb]
        exact ⟨ad, rfl, ra, ha⟩
  · intro a b s3 jv
    obtain ⟨H3, m, best⟩ := jv
    obtain ⟨ad, _, ra, _⟩ := best (by show 0 < 2; decide)
    have hp3 := m.same _ _ hpL
    exact ⟨.str (minS x y), upd H3 p (.lst [V.str x, V.str y]), m.inv.unlock hp3 noz, ra, q _ (back _ m.same)⟩
end
def tMinL (T : List (Addr × Str)) (ta : TA) : TE := fun σ H Q => ta σ H fun vs H1 => ∃ (p : Addr) (x y : Str), vs = [.ref p] ∧ H1 p = some (.lst [.str x, .str y]) ∧ x.length ≤ sizeLine ∧ y.length ≤ sizeLine ∧ Tabs T H1 ∧
  ∀ H2, ExtN H1 H2 → Tabs T H2 → Q (.str (minS x y)) H2
/-- min(e, key=lambda x: (len(x), x)) of a list of two texts -/
theorem pe_minlam {X : Cx} {T : List (Addr × Str)} {c P : Addr} {params : Arguments} {body e : Expr} {scope : Scope} {lpos kpos p pos : Pos} {ta : TA} {N : List Str} {xn : Str} {k : Nat} {tb : TE}
    (hg : Gl X "min") (hm : X.mg "min" = none) (ha : PA X [e] ta) (TB : TabB X.base X.mg c P) (hcode : X.env.code = .ref c) (hmT : (P, X.env.qual ++ "<lambda>") ∈ T) (hu : ∀ p ∈ T, p.1 = P → p.2 = X.env.qual ++ "<lambda>")
    (hr : Room (k + 2) X.A) (S : FnScope N [xn] scope) (hdef : defaultsOf params X.env = ([], [])) (hclo : cloFrom X.env.cells scope.names [] = [])
    (hbind : ∀ (q : Str) (pm cv ctv u : Value), bindArgs (PySem.W.kla_fn "<lambda>" q params body scope [] pm cv ctv) ⟨[u], []⟩ = pure [(xn, u)])
    (hbody : ∀ (f c' : Addr) (A : Around) (outer : List Env) (s : Shared) (H : Hp) (E : XK), Room k (A.deeper (envOfC (X.env.qual ++ "<lambda>") scope s.heap.objs.size f (.ref c'))) → PE (cxOf C8.CX0 X.prog X.w X.K X.mg X.base N (X.env.qual ++ "<lambda>") scope f (.ref c') A outer s H E) body tb)
    (hk : tKeyOk N tb) (he : backTo pos (starEach [e] X.env) = (false, eval e X.env) :: backTo pos (starEach [] X.env) := by rfl) (hpl : (backTo pos (starEach [e] X.env)).any (·.1) = false := by rfl) :
    PE X (.Call (.Name "min" p) [e] [⟨some "key", .Lambda params body scope lpos, kpos⟩] pos) (tMinL T ta) := by
  refine ⟨fun pins s σ H Q I h => ?_⟩
  have hv : bootBuiltins "min" = some (.builtin "min") := by decide +kernel
  refine wpAny_Call_Name_kw (ld_blt I hg hm hv ?_)
  refine PyProof.Rows.callWith_kw (thn (ha.run pos pins s σ H _ I h) fun us s1 ⟨vs, H1, I1, r1, q1⟩ => ?_) he hpl rfl rfl
  obtain ⟨pl, x, y, rfl, hp, hx, hy, hT, q⟩ := q1
  obtain rfl := Vals.ref1 r1
  show wpAny _ _ (evalAll [do let v ← eval (.Lambda params body scope lpos) X.env; standAt pos; pure v]) _ _ s1
  apply wpAny_evalAll_cons
  apply wpAny_bind
  refine lam_make2 I1 TB hcode hmT hu hT hdef (fun y hy e => absurd e (S.nofree y hy)) fun f c' pm ctv H2 s2 I2 eN T2 hf hfn hfr hco => ?_
  apply wpAny_bind
  apply wpAny_standAt
  apply wpAny_pure
  apply wpAny_evalAll_nil
  rw [hclo] at hf
  exact min_walk I2 (eN pl _ hp (fun ps => HO.noConfusion)) hx hy hf hfn hfr hco hr S (fun u => hbind _ _ _ _ u) (fun A outer s H E hr2 => hbody f c' A outer s H E hr2) hk fun H3 sm => q H3 (eN.trans (ExtN.of sm)) (T2.ext sm)
/-- the table of the lambda that the def x makes -/
def tabsOf (x : Str) (P : Addr) : List (Addr × Str) := [(P, (x ++ ".<locals>.") ++ "<lambda>")]
end Vz
set_option Elab.async false
set_option linter.all false
set_option maxRecDepth 100000
set_option maxHeartbeats 4000000
/-! The two texts of a date, as texts. -/
namespace Tx
open PySem PySem.Spec PyProof.Rows L2 TL
def two (i : Int) : Str := intSpecTextOf "02d" i
def three (i : Int) : Str := intSpecTextOf "03d" i
def num (i : Int) : Str := Str.ofString (toString i)
theorem lawTwoN : ∀ k : Fin 100, tl (cutS ("0" ++ Str.ofString (toString ((k.val : Nat) : Int))) (some (0 - 2)) none) = tl (intSpecTextOf "02d" ((k.val : Nat) : Int)) := by decide +kernel
theorem lawTwo {n : Int} (h0 : 0 ≤ n) (h1 : n < 100) : cutS ("0" ++ num n) (some (0 - 2)) none = two n := by
  obtain ⟨k, rfl⟩ : ∃ k : Nat, n = (k : Int) := ⟨n.toNat, by omega⟩
  exact ext_tl (lawTwoN ⟨k, by omega⟩)
theorem lawThreeN : ∀ k : Fin 400, tl (cutS ("00" ++ Str.ofString (toString ((k.val : Nat) : Int))) (some (0 - 3)) none) = tl (intSpecTextOf "03d" ((k.val : Nat) : Int)) := by decide +kernel
theorem lawThree {n : Int} (h0 : 0 ≤ n) (h1 : n < 400) : cutS ("00" ++ num n) (some (0 - 3)) none = three n := by
  obtain ⟨k, rfl⟩ : ∃ k : Nat, n = (k : Int) := ⟨n.toNat, by omega⟩
  exact ext_tl (lawThreeN ⟨k, by omega⟩)
theorem lenTwoN : ∀ k : Fin 100, (intSpecTextOf "02d" ((k.val : Nat) : Int)).length = 2 := by decide +kernel
theorem len_two {n : Int} (h0 : 0 ≤ n) (h1 : n < 100) : (two n).length = 2 := by
  obtain ⟨k, rfl⟩ : ∃ k : Nat, n = (k : Int) := ⟨n.toNat, by omega⟩
  exact lenTwoN ⟨k, by omega⟩
theorem lenThreeN : ∀ k : Fin 400, (intSpecTextOf "03d" ((k.val : Nat) : Int)).length = 3 := by decide +kernel
theorem len_three {n : Int} (h0 : 0 ≤ n) (h1 : n < 400) : (three n).length = 3 := by
  obtain ⟨k, rfl⟩ : ∃ k : Nat, n = (k : Int) := ⟨n.toNat, by omega⟩
  exact lenThreeN ⟨k, by omega⟩
theorem len_num {i : Int} (h0 : 0 ≤ i) (h1 : i < 100000) : (num i).length ≤ 13 := PyData.shown_int_le (by
  have e12 : (10 : Nat) ^ 12 = 1000000000000 := by decide
  omega)
def wdL : List Str := ["Ar", "Be", "Co", "Da", "Ev", "Fo", "Gi", "Rest"]
def monL : List Str := ["Ash", "Birch", "Cedar", "Elm", "Fir", "Hazel", "Larch", "Maple", "Oak", "Pine", "Rowan", "Willow", "Yew"]
def wdT (d : Int) : Str := if d ≤ 28 then wdL.getD ((d - 1) % 7).toNat "" else "Rest"
def monT (mo : Int) : Str := monL.getD (mo - 1).toNat ""
def timeT (h mi s : Int) : Str := Str.join ":" [two h, two mi, two s]
def sgnT (z : Int) : Str := if z < 0 then "-" else "+"
def absZ (z : Int) : Int := if z < 0 then -z else z
def zoneT (z : Int) : Str := if z = 0 then "Z" else ((sgnT z ++ two (absZ z / 60)) ++ ":") ++ two (absZ z % 60)
def longT (y mo d h mi s z : Int) : Str := Str.join " " [wdT d, num d, monT mo, num y, timeT h mi s, zoneT z]
def shortT (y mo d h mi s z : Int) : Str := ((((num y ++ "/") ++ three (28 * (mo - 1) + d)) ++ "@") ++ timeT h mi s) ++ zoneT z
theorem wd_at {d : Int} (d1 : 1 ≤ d) (d2 : d ≤ 28) : L2.atI [V.str "Ar", .str "Be", .str "Co", .str "Da", .str "Ev", .str "Fo", .str "Gi", .str "Rest"] ((d - 1) % 7) = some (.str (wdT d)) := by
  unfold wdT
  rw [if_pos d2]
  have c : (d - 1) % 7 = 0 ∨ (d - 1) % 7 = 1 ∨ (d - 1) % 7 = 2 ∨ (d - 1) % 7 = 3 ∨ (d - 1) % 7 = 4 ∨ (d - 1) % 7 = 5 ∨ (d - 1) % 7 = 6 := by omega
  rcases c with c | c | c | c | c | c | c <;> rw [c] <;> rfl
theorem wd7_at {d : Int} (d1 : 1 ≤ d) (d2 : d ≤ 28) : L2.atI [V.str "Ar", .str "Be", .str "Co", .str "Da", .str "Ev", .str "Fo", .str "Gi"] ((d - 1) % 7) = some (.str (wdT d)) := by
  unfold wdT
  rw [if_pos d2]
  have c : (d - 1) % 7 = 0 ∨ (d - 1) % 7 = 1 ∨ (d - 1) % 7 = 2 ∨ (d - 1) % 7 = 3 ∨ (d - 1) % 7 = 4 ∨ (d - 1) % 7 = 5 ∨ (d - 1) % 7 = 6 := by omega
  rcases c with c | c | c | c | c | c | c <;> rw [c] <;> rfl
theorem mon_at {mo : Int} (d1 : 1 ≤ mo) (d2 : mo ≤ 13) : L2.atI [V.str "Ash", .str "Birch", .str "Cedar", .str "Elm", .str "Fir", .str "Hazel", .str "Larch", .str "Maple", .str "Oak", .str "Pine", .str "Rowan", .str "Willow", .str "Yew"] (mo - 1) = some (.str (monT mo)) := by
  unfold monT
  have c : mo - 1 = 0 ∨ mo - 1 = 1 ∨ mo - 1 = 2 ∨ mo - 1 = 3 ∨ mo - 1 = 4 ∨ mo - 1 = 5 ∨ mo - 1 = 6 ∨ mo - 1 = 7 ∨ mo - 1 = 8 ∨ mo - 1 = 9 ∨ mo - 1 = 10 ∨ mo - 1 = 11 ∨ mo - 1 = 12 := by omega
  rcases c with c | c | c | c | c | c | c | c | c | c | c | c | c <;> rw [c] <;> rfl
theorem len_get {l : List Str} {m : Nat} (h : ∀ x ∈ l, x.length ≤ m) (k : Nat) : (l.getD k "").length ≤ m := by
  rw [List.getD_eq_getElem?_getD]
  cases c : l[k]? with
  | none => exact Nat.zero_le _
  | some x => exact h x (List.mem_of_getElem? c)
theorem len_wd (d : Int) : (wdT d).length ≤ 4 := by
  unfold wdT
  split
  · exact len_get (by decide +kernel) _
  · decide +kernel
theorem len_mon (mo : Int) : (monT mo).length ≤ 6 := len_get (by decide +kernel) _
theorem app_len {a b : Str} {m n : Nat} (ha : a.length ≤ m) (hb : b.length ≤ n) : (a ++ b).length ≤ m + n := by rw [strLen_append]; omega
theorem len_fits {a : Str} {m : Nat} (h : a.length ≤ m) (hm : m ≤ 1000) : a.length ≤ sizeLine := by rw [sizeLine_eq]; omega
theorem time_eq (a b c : Str) : ((((Str.empty ++ a) ++ ":") ++ b) ++ ":") ++ c = Str.join ":" [a, b, c] := by
  refine ext_tl ?_
  show _ = tl (a ++ ":" ++ (b ++ ":" ++ c))
  simp only [tl_append, List.append_assoc]
  rfl
theorem zone_eq (a b c : Str) : (((Str.empty ++ a) ++ b) ++ ":") ++ c = ((a ++ b) ++ ":") ++ c := by
  refine ext_tl ?_
  simp only [tl_append, List.append_assoc]
  rfl
theorem long_eq (a b c d e f : Str) : ((((((((((Str.empty ++ a) ++ " ") ++ b) ++ " ") ++ c) ++ " ") ++ d) ++ " ") ++ e) ++ " ") ++ f = Str.join " " [a, b, c, d, e, f] := by
  refine ext_tl ?_
  show _ = tl (a ++ " " ++ (b ++ " " ++ (c ++ " " ++ (d ++ " " ++ (e ++ " " ++ f)))))
  simp only [tl_append, List.append_assoc]
  rfl
theorem short_eq (a b c d : Str) : (((((Str.empty ++ a) ++ "/") ++ b) ++ "@") ++ c) ++ d = ((((a ++ "/") ++ b) ++ "@") ++ c) ++ d := by
  refine ext_tl ?_
  simp only [tl_append, List.append_assoc]
  rfl
theorem len_time {h mi s : Int} (h0 : 0 ≤ h) (h1 : h < 100) (m0 : 0 ≤ mi) (m1 : mi < 100) (s0 : 0 ≤ s) (s1 : s < 100) : (timeT h mi s).length = 8 := by
  unfold timeT
  show (two h ++ ":" ++ (two mi ++ ":" ++ two s)).length = 8
  simp only [strLen_append, len_two h0 h1, len_two m0 m1, len_two s0 s1]
  rfl
theorem lenTwo3N : ∀ k : Fin 101, (intSpecTextOf "02d" ((k.val : Nat) : Int)).length ≤ 3 := by decide +kernel
theorem len_two3 {n : Int} (h0 : 0 ≤ n) (h1 : n ≤ 100) : (two n).length ≤ 3 := by
  obtain ⟨k, rfl⟩ : ∃ k : Nat, n = (k : Int) := ⟨n.toNat, by omega⟩
  exact lenTwo3N ⟨k, by omega⟩
theorem len_zone {z : Int} (z0 : -6039 ≤ z) (z1 : z ≤ 6039) : (zoneT z).length ≤ 7 := by
  unfold zoneT
  have a : 0 ≤ absZ z ∧ absZ z ≤ 6039 := by unfold absZ; split <;> omega
  split
  · decide +kernel
  · simp only [strLen_append, len_two (n := absZ z % 60) (by omega) (by omega)]
    have h3 := len_two3 (n := absZ z / 60) (by omega) (by omega)
    have : (sgnT z).length = 1 := by unfold sgnT; split <;> decide +kernel
    have c : (":" : Str).length = 1 := by decide +kernel
    rw [this, c]
    omega
end Tx
set_option Elab.async false
set_option linter.all false
set_option maxRecDepth 100000
set_option maxHeartbeats 4000000
/-! Texts cut to pieces: how long the pieces are. -/
namespace Tx
open PySem PySem.Spec PyProof.Rows L2 TL
theorem spl_len (S : List Nat) : ∀ (l : List Nat) (k : Nat) (acc : List Nat), (∀ p ∈ spl S k acc l, p.length ≤ acc.length + l.length) ∧ (spl S k acc l).length ≤ l.length + 1
  | [], k, acc => by
    rw [spl_nil]
    refine ⟨fun p hp => ?_, by simp⟩
    rw [List.mem_singleton.mp hp]; simp
  | c :: r, 0, acc => by
    by_cases h : pre S (c :: r) = true
    · rw [spl_hit h]
      obtain ⟨a, b⟩ := spl_len S r (S.length - 1) []
      refine ⟨fun p hp => ?_, by simp only [List.length_cons]; omega⟩
      rcases List.mem_cons.mp hp with e | e
      · rw [e]; simp
      · have := a p e
        simp only [List.length_nil, List.length_cons] at this ⊢
        omega
    · rw [spl_miss (by simpa using h)]
      obtain ⟨a, b⟩ := spl_len S r 0 (acc ++ [c])
      refine ⟨fun p hp => ?_, by simp only [List.length_cons]; omega⟩
      have := a p hp
      simp only [List.length_append, List.length_cons, List.length_nil] at this ⊢
      omega
  | c :: r, k + 1, acc => by
    show (∀ p ∈ spl S k acc r, _) ∧ (spl S k acc r).length ≤ _
    obtain ⟨a, b⟩ := spl_len S r k acc
    refine ⟨fun p hp => ?_, by simp only [List.length_cons]; omega⟩
    have := a p hp
    simp only [List.length_cons]
    omega
theorem split_len {x y : Str} (hy : tl y ≠ []) (hk : y.cps.all (· < 256) = true) : (∀ p ∈ Txt.split x y, p.length ≤ x.length) ∧ (Txt.split x y).length ≤ x.length + 1 := by
  have e := split_spl x y hy (kind_ok hk)
  obtain ⟨a, b⟩ := spl_len (tl y) (tl x) 0 []
  rw [← e] at a b
  constructor
  · intro p hp
    have := a (tl p) (List.mem_map.mpr ⟨p, hp, rfl⟩)
    rw [len_tl, len_tl]
    simpa using this
  · rw [List.length_map] at b
    rw [len_tl]
    exact b
theorem spl_ne (S : List Nat) : ∀ (l : List Nat) (k : Nat) (acc : List Nat), spl S k acc l ≠ []
  | [], k, acc => by rw [spl_nil]; simp
  | c :: r, 0, acc => by
    by_cases h : pre S (c :: r) = true
    · rw [spl_hit h]; simp
    · rw [spl_miss (by simpa using h)]; exact spl_ne S r 0 _
  | c :: r, k + 1, acc => spl_ne S r k acc
theorem split_ne {x y : Str} (hy : tl y ≠ []) (hk : y.cps.all (· < 256) = true) : Txt.split x y ≠ [] := by
  have e := split_spl x y hy (kind_ok hk)
  intro z
  rw [z] at e
  exact spl_ne _ _ _ _ e.symm
theorem par_len (S : List Nat) : ∀ (l acc p r : List Nat), par S acc l = some (p, r) → p.length ≤ acc.length + l.length ∧ r.length ≤ l.length
  | [], acc, p, r, h => by cases h
  | c :: t, acc, p, r, h => by
    by_cases e : pre S (c :: t) = true
    · rw [par_hit e] at h
      cases h
      refine ⟨by simp, ?_⟩
      rw [List.length_drop]; omega
    · rw [par_miss (by simpa using e)] at h
      obtain ⟨a, b⟩ := par_len S t (acc ++ [c]) p r h
      simp only [List.length_append, List.length_cons, List.length_nil] at a ⊢
      omega
theorem partition_len {x y : Str} (hy : tl y ≠ []) : (Txt.partition x y).1.length ≤ x.length ∧ (Txt.partition x y).2.2.length ≤ x.length := by
  rw [partition_par x y hy]
  cases h : par (tl y) [] (tl x) with
  | none => exact ⟨Nat.le_refl _, Nat.zero_le _⟩
  | some pr =>
    obtain ⟨p, r⟩ := pr
    obtain ⟨a, b⟩ := par_len _ _ _ _ _ h
    rw [len_tl, len_tl, len_tl]
    exact ⟨by simpa using a, b⟩
end Tx
set_option Elab.async false
set_option linter.all false
set_option maxRecDepth 100000
set_option maxHeartbeats 2000000
namespace Toy
open PySem PySem.Spec PyProof.Rows L2
def topS (i : Nat) : Stmt := PySem.Challenge.pw_feedreader_k11_whole_shortest_references.main.body.getD i (.Pass ⟨0, 0, 0, 0⟩)
abbrev s_BadAddress : Stmt := inClass (topS 2) 0
theorem sc_BadAddress : FnScope ["self", "given"] ["self", "given"] (defScope s_BadAddress) := ⟨rfl, rfl, rfl, by decide +kernel, rfl, by decide +kernel, by decide +kernel⟩
abbrev s_consists_of : Stmt := topS 4
theorem sc_consists_of : FnScope ["text", "signs", "sign"] ["text", "signs"] (defScope s_consists_of) := ⟨rfl, rfl, rfl, by decide +kernel, rfl, by decide +kernel, by decide +kernel⟩
abbrev s_is_address : Stmt := topS 9
theorem sc_is_address : FnScope ["value", "host", "slash", "path", "segment"] ["value"] (defScope s_is_address) := ⟨rfl, rfl, rfl, by decide +kernel, rfl, by decide +kernel, by decide +kernel⟩
abbrev s_resolve : Stmt := topS 10
theorem sc_resolve : FnScope ["base", "text", "reference", "host", "segments"] ["base", "text"] (defScope s_resolve) := ⟨rfl, rfl, rfl, by decide +kernel, rfl, by decide +kernel, by decide +kernel⟩
abbrev s_shortest : Stmt := topS 11
theorem sc_shortest : FnScope ["base", "address", "host", "segments", "goal_host", "goal", "ways"] ["base", "address"] (defScope s_shortest) := ⟨rfl, rfl, rfl, by decide +kernel, rfl, by decide +kernel, by decide +kernel⟩
abbrev s_check_base : Stmt := topS 12
theorem sc_check_base : FnScope ["base"] ["base"] (defScope s_check_base) := ⟨rfl, rfl, rfl, by decide +kernel, rfl, by decide +kernel, by decide +kernel⟩
abbrev s__is_host : Stmt := topS 13
theorem sc__is_host : FnScope ["text", "labels", "label"] ["text"] (defScope s__is_host) := ⟨rfl, rfl, rfl, by decide +kernel, rfl, by decide +kernel, by decide +kernel⟩
abbrev s__is_label : Stmt := topS 14
theorem sc__is_label : FnScope ["text"] ["text"] (defScope s__is_label) := ⟨rfl, rfl, rfl, by decide +kernel, rfl, by decide +kernel, by decide +kernel⟩
abbrev s__is_segment : Stmt := topS 15
theorem sc__is_segment : FnScope ["text"] ["text"] (defScope s__is_segment) := ⟨rfl, rfl, rfl, by decide +kernel, rfl, by decide +kernel, by decide +kernel⟩
abbrev s__parts : Stmt := topS 16
theorem sc__parts : FnScope ["text", "host", "_", "path"] ["text"] (defScope s__parts) := ⟨rfl, rfl, rfl, by decide +kernel, rfl, by decide +kernel, by decide +kernel⟩
abbrev s__segments_behind : Stmt := topS 17
theorem sc__segments_behind : FnScope ["segments", "reference"] ["segments", "reference"] (defScope s__segments_behind) := ⟨rfl, rfl, rfl, by decide +kernel, rfl, by decide +kernel, by decide +kernel⟩
abbrev s__address_of : Stmt := topS 18
theorem sc__address_of : FnScope ["host", "segments", "address"] ["host", "segments"] (defScope s__address_of) := ⟨rfl, rfl, rfl, by decide +kernel, rfl, by decide +kernel, by decide +kernel⟩
abbrev s__without_dots : Stmt := topS 19
theorem sc__without_dots : FnScope ["segments", "kept", "segment"] ["segments"] (defScope s__without_dots) := ⟨rfl, rfl, rfl, by decide +kernel, rfl, by decide +kernel, by decide +kernel⟩
abbrev s__from_root : Stmt := topS 20
theorem sc__from_root : FnScope ["goal", "ahead"] ["goal"] (defScope s__from_root) := ⟨rfl, rfl, rfl, by decide +kernel, rfl, by decide +kernel, by decide +kernel⟩
abbrev s__from_folder : Stmt := topS 21
theorem sc__from_folder : FnScope ["folder", "goal", "shared", "ups", "rest"] ["folder", "goal"] (defScope s__from_folder) := ⟨rfl, rfl, rfl, by decide +kernel, rfl, by decide +kernel, by decide +kernel⟩
abbrev s__shared_count : Stmt := topS 22
theorem sc__shared_count : FnScope ["one", "other", "count", "left", "right"] ["one", "other"] (defScope s__shared_count) := ⟨rfl, rfl, rfl, by decide +kernel, rfl, by decide +kernel, by decide +kernel⟩
abbrev s__law_begin : Stmt := topS 24
theorem sc__law_begin : FnScope ["script"] ["script"] (defScope s__law_begin) := ⟨rfl, rfl, rfl, by decide +kernel, rfl, by decide +kernel, by decide +kernel⟩
abbrev s__law_mixed : Stmt := topS 25
theorem sc__law_mixed : FnScope ["cell", "k", "mixed"] ["cell", "k"] (defScope s__law_mixed) := ⟨rfl, rfl, rfl, by decide +kernel, rfl, by decide +kernel, by decide +kernel⟩
abbrev s__law_next : Stmt := topS 26
theorem sc__law_next : FnScope ["draw", "bound", "found", "every", "cell"] ["draw", "bound"] (defScope s__law_next) := ⟨rfl, rfl, rfl, by decide +kernel, rfl, by decide +kernel, by decide +kernel⟩
abbrev s__law_segments_right : Stmt := topS 27
theorem sc__law_segments_right : FnScope ["segments", "letters", "part", "wrong", "sign"] ["segments"] (defScope s__law_segments_right) := ⟨rfl, rfl, rfl, by decide +kernel, rfl, by decide +kernel, by decide +kernel⟩
abbrev s__law_host_right : Stmt := topS 28
theorem sc__law_host_right : FnScope ["host", "labels", "label", "wrong", "sign"] ["host"] (defScope s__law_host_right) := ⟨rfl, rfl, rfl, by decide +kernel, rfl, by decide +kernel, by decide +kernel⟩
abbrev s__law_is_address : Stmt := topS 29
theorem sc__law_is_address : FnScope ["thing", "host", "mark", "path"] ["thing"] (defScope s__law_is_address) := ⟨rfl, rfl, rfl, by decide +kernel, rfl, by decide +kernel, by decide +kernel⟩
abbrev s__law_resolved : Stmt := topS 30
theorem sc__law_resolved : FnScope ["base", "letters", "host", "mark", "path", "front", "last", "near", "kept", "is_open", "part", "found"] ["base", "letters"] (defScope s__law_resolved) := ⟨rfl, rfl, rfl, by decide +kernel, rfl, by decide +kernel, by decide +kernel⟩
abbrev s__law_small : Stmt := topS 33
theorem sc__law_small : FnScope ["draw", "some", "k"] ["draw"] (defScope s__law_small) := ⟨rfl, rfl, rfl, by decide +kernel, rfl, by decide +kernel, by decide +kernel⟩
abbrev s__law_all : Stmt := topS 34
theorem sc__law_all : FnScope ["size", "found", "turn", "longer", "one", "sign"] ["size"] (defScope s__law_all) := ⟨rfl, rfl, rfl, by decide +kernel, rfl, by decide +kernel, by decide +kernel⟩
abbrev s__law_least : Stmt := topS 35
theorem sc__law_least : FnScope ["base", "address", "size", "one"] ["base", "address"] (defScope s__law_least) := ⟨rfl, rfl, rfl, by decide +kernel, rfl, by decide +kernel, by decide +kernel⟩
abbrev s__law_right : Stmt := topS 36
theorem sc__law_right : FnScope ["base", "address", "told", "due"] ["base", "address"] (defScope s__law_right) := ⟨rfl, rfl, rfl, by decide +kernel, rfl, by decide +kernel, by decide +kernel⟩
abbrev s_law : Stmt := topS 37
theorem sc_law : FnScope ["script", "draw", "some", "turn", "base", "address", "root", "goal"] ["script"] (defScope s_law) := ⟨rfl, rfl, rfl, by decide +kernel, rfl, by decide +kernel, by decide +kernel⟩

structure Txt (K : PySem.W.Frag) (mg : Str → Option Value) where
  a_consists_of : Addr
  d_consists_of : FuncData
  g_consists_of : mg "consists_of" = some (.ref a_consists_of)
  F_consists_of : Fun K "consists_of" "consists_of" s_consists_of a_consists_of d_consists_of
  b_consists_of : Binds K d_consists_of ["text", "signs"] []
  a_is_address : Addr
  d_is_address : FuncData
  g_is_address : mg "is_address" = some (.ref a_is_address)
  F_is_address : Fun K "is_address" "is_address" s_is_address a_is_address d_is_address
  b_is_address : Binds K d_is_address ["value"] []
  a_resolve : Addr
  d_resolve : FuncData
  g_resolve : mg "resolve" = some (.ref a_resolve)
  F_resolve : Fun K "resolve" "resolve" s_resolve a_resolve d_resolve
  b_resolve : Binds K d_resolve ["base", "text"] []
  a_shortest : Addr
  d_shortest : FuncData
  g_shortest : mg "shortest" = some (.ref a_shortest)
  F_shortest : Fun K "shortest" "shortest" s_shortest a_shortest d_shortest
  b_shortest : Binds K d_shortest ["base", "address"] []
  c_shortest : Addr
  p_shortest : Addr
  k_shortest : d_shortest.code = .ref c_shortest
  a_check_base : Addr
  d_check_base : FuncData
  g_check_base : mg "check_base" = some (.ref a_check_base)
  F_check_base : Fun K "check_base" "check_base" s_check_base a_check_base d_check_base
  b_check_base : Binds K d_check_base ["base"] []
  a__is_host : Addr
  d__is_host : FuncData
  g__is_host : mg "_is_host" = some (.ref a__is_host)
  F__is_host : Fun K "_is_host" "_is_host" s__is_host a__is_host d__is_host
  b__is_host : Binds K d__is_host ["text"] []
  a__is_label : Addr
  d__is_label : FuncData
  g__is_label : mg "_is_label" = some (.ref a__is_label)
  F__is_label : Fun K "_is_label" "_is_label" s__is_label a__is_label d__is_label
  b__is_label : Binds K d__is_label ["text"] []
  a__is_segment : Addr
  d__is_segment : FuncData
  g__is_segment : mg "_is_segment" = some (.ref a__is_segment)
  F__is_segment : Fun K "_is_segment" "_is_segment" s__is_segment a__is_segment d__is_segment
  b__is_segment : Binds K d__is_segment ["text"] []
  a__parts : Addr
  d__parts : FuncData
  g__parts : mg "_parts" = some (.ref a__parts)
  F__parts : Fun K "_parts" "_parts" s__parts a__parts d__parts
  b__parts : Binds K d__parts ["text"] []
  a__segments_behind : Addr
  d__segments_behind : FuncData
  g__segments_behind : mg "_segments_behind" = some (.ref a__segments_behind)
  F__segments_behind : Fun K "_segments_behind" "_segments_behind" s__segments_behind a__segments_behind d__segments_behind
  b__segments_behind : Binds K d__segments_behind ["segments", "reference"] []
  a__address_of : Addr
  d__address_of : FuncData
  g__address_of : mg "_address_of" = some (.ref a__address_of)
  F__address_of : Fun K "_address_of" "_address_of" s__address_of a__address_of d__address_of
  b__address_of : Binds K d__address_of ["host", "segments"] []
  a__without_dots : Addr
  d__without_dots : FuncData
  g__without_dots : mg "_without_dots" = some (.ref a__without_dots)
  F__without_dots : Fun K "_without_dots" "_without_dots" s__without_dots a__without_dots d__without_dots
  b__without_dots : Binds K d__without_dots ["segments"] []
  a__from_root : Addr
  d__from_root : FuncData
  g__from_root : mg "_from_root" = some (.ref a__from_root)
  F__from_root : Fun K "_from_root" "_from_root" s__from_root a__from_root d__from_root
  b__from_root : Binds K d__from_root ["goal"] []
  a__from_folder : Addr
  d__from_folder : FuncData
  g__from_folder : mg "_from_folder" = some (.ref a__from_folder)
  F__from_folder : Fun K "_from_folder" "_from_folder" s__from_folder a__from_folder d__from_folder
  b__from_folder : Binds K d__from_folder ["folder", "goal"] []
  a__shared_count : Addr
  d__shared_count : FuncData
  g__shared_count : mg "_shared_count" = some (.ref a__shared_count)
  F__shared_count : Fun K "_shared_count" "_shared_count" s__shared_count a__shared_count d__shared_count
  b__shared_count : Binds K d__shared_count ["one", "other"] []
  a__law_begin : Addr
  d__law_begin : FuncData
  g__law_begin : mg "_law_begin" = some (.ref a__law_begin)
  F__law_begin : Fun K "_law_begin" "_law_begin" s__law_begin a__law_begin d__law_begin
  b__law_begin : Binds K d__law_begin ["script"] []
  a__law_mixed : Addr
  d__law_mixed : FuncData
  g__law_mixed : mg "_law_mixed" = some (.ref a__law_mixed)
  F__law_mixed : Fun K "_law_mixed" "_law_mixed" s__law_mixed a__law_mixed d__law_mixed
  b__law_mixed : Binds K d__law_mixed ["cell", "k"] []
  a__law_next : Addr
  d__law_next : FuncData
  g__law_next : mg "_law_next" = some (.ref a__law_next)
  F__law_next : Fun K "_law_next" "_law_next" s__law_next a__law_next d__law_next
  b__law_next : Binds K d__law_next ["draw", "bound"] []
  a__law_segments_right : Addr
  d__law_segments_right : FuncData
  g__law_segments_right : mg "_law_segments_right" = some (.ref a__law_segments_right)
  F__law_segments_right : Fun K "_law_segments_right" "_law_segments_right" s__law_segments_right a__law_segments_right d__law_segments_right
  b__law_segments_right : Binds K d__law_segments_right ["segments"] []
  a__law_host_right : Addr
  d__law_host_right : FuncData
  g__law_host_right : mg "_law_host_right" = some (.ref a__law_host_right)
  F__law_host_right : Fun K "_law_host_right" "_law_host_right" s__law_host_right a__law_host_right d__law_host_right
  b__law_host_right : Binds K d__law_host_right ["host"] []
  a__law_is_address : Addr
  d__law_is_address : FuncData
  g__law_is_address : mg "_law_is_address" = some (.ref a__law_is_address)
  F__law_is_address : Fun K "_law_is_address" "_law_is_address" s__law_is_address a__law_is_address d__law_is_address
  b__law_is_address : Binds K d__law_is_address ["thing"] []
  a__law_resolved : Addr
  d__law_resolved : FuncData
  g__law_resolved : mg "_law_resolved" = some (.ref a__law_resolved)
  F__law_resolved : Fun K "_law_resolved" "_law_resolved" s__law_resolved a__law_resolved d__law_resolved
  b__law_resolved : Binds K d__law_resolved ["base", "letters"] []
  a__law_small : Addr
  d__law_small : FuncData
  g__law_small : mg "_law_small" = some (.ref a__law_small)
  F__law_small : Fun K "_law_small" "_law_small" s__law_small a__law_small d__law_small
  b__law_small : Binds K d__law_small ["draw"] []
  a__law_all : Addr
  d__law_all : FuncData
  g__law_all : mg "_law_all" = some (.ref a__law_all)
  F__law_all : Fun K "_law_all" "_law_all" s__law_all a__law_all d__law_all
  b__law_all : Binds K d__law_all ["size"] []
  a__law_least : Addr
  d__law_least : FuncData
  g__law_least : mg "_law_least" = some (.ref a__law_least)
  F__law_least : Fun K "_law_least" "_law_least" s__law_least a__law_least d__law_least
  b__law_least : Binds K d__law_least ["base", "address"] []
  a__law_right : Addr
  d__law_right : FuncData
  g__law_right : mg "_law_right" = some (.ref a__law_right)
  F__law_right : Fun K "_law_right" "_law_right" s__law_right a__law_right d__law_right
  b__law_right : Binds K d__law_right ["base", "address"] []
  a_law : Addr
  d_law : FuncData
  g_law : mg "law" = some (.ref a_law)
  F_law : Fun K "law" "law" s_law a_law d_law
  b_law : Binds K d_law ["script"] []
  C_FeedError : Addr
  g_FeedError : mg "FeedError" = some (.ref C_FeedError)
  C_BadAddress : Addr
  g_BadAddress : mg "BadAddress" = some (.ref C_BadAddress)
  I_BadAddress : Addr
  i_BadAddress : FuncData
  o_BadAddress : OexC K C_BadAddress
  iC_BadAddress : PySem.W.findIn K (.ref C_BadAddress) "__init__" = some (some (.ref I_BadAddress))
  tI_BadAddress : PySem.W.typeIn K (.ref I_BadAddress) = some (.type "function")
  FI_BadAddress : Fun K "__init__" "BadAddress.__init__" s_BadAddress I_BadAddress i_BadAddress
  bI_BadAddress : Binds K i_BadAddress ["self", "given"] []
  n_BadAddress_given : PySem.W.findIn K (.ref C_BadAddress) "given" = some none
  z_all : mg "all" = none
  z_int : mg "int" = none
  z_isinstance : mg "isinstance" = none
  z_len : mg "len" = none
  z_min : mg "min" = none
  z_range : mg "range" = none
  z_str : mg "str" = none
  z_zip : mg "zip" = none
  t_LABEL_SIGNS : Tok
  c_LABEL_SIGNS : mg "LABEL_SIGNS" = some (.str "abcdefghijklmnopqrstuvwxyz0123456789" t_LABEL_SIGNS)
  t_SEGMENT_SIGNS : Tok
  c_SEGMENT_SIGNS : mg "SEGMENT_SIGNS" = some (.str "abcdefghijklmnopqrstuvwxyzABCDEFGHIJKLMNOPQRSTUVWXYZ0123456789-_." t_SEGMENT_SIGNS)
  r_DOTS : Addr
  c_DOTS : mg "DOTS" = some (.ref r_DOTS)
  e_DOTS : ∀ H : Hp, SqT K H r_DOTS [V.str ".", V.str ".."]
theorem ok_init_BadAddress {P : Program} {w : World} {K : PySem.W.Frag} {mg : Str → Option Value} {base : Heap} (T : Txt K mg) : FnOk P w K mg base CX0 1 T.I_BadAddress T.i_BadAddress ["self", "given"] (Vz.sp_init T.C_BadAddress "given") := by
  refine T.FI_BadAddress.ok sc_BadAddress (fun vs H Q E h => ?_) (fun cdv A outer s H vs Q E hr h => ?_)
  · obtain ⟨a, v, rfl, _⟩ := h; rfl
  · obtain ⟨a, v, rfl, ha, q⟩ := h
    refine ⟨_, pss_one (ps_ost (pv 0) (pv 1)), ?_⟩
    exact ⟨_, rfl, _, rfl, a, T.C_BadAddress, rfl, T.o_BadAddress, T.n_BadAddress_given, .inl ⟨ha, fun dx n ne => q dx n ne⟩⟩

/-! ### the things that are asked about -/
/-- a value of a plain kind, by its type's name; a dict is none that stands at d -/
inductive Thg (d : Addr) (H : Hp) : V → String → Prop where
  | non : Thg d H .non "NoneType"
  | bl (b : Bool) : Thg d H (.bl b) "bool"
  | int (i : Int) : Thg d H (.int i) "int"
  | str (x : Str) : Thg d H (.str x) "str"
  | lst {a : Addr} {xs : List V} (e : H a = some (.lst xs)) : Thg d H (.ref a) "list"
  | tup {a : Addr} {xs : List V} (e : H a = some (.tup xs)) : Thg d H (.ref a) "tuple"
  | dic {a : Addr} {kvs : List (Key × V)} (e : H a = some (.dK kvs)) (ne : a ≠ d) : Thg d H (.ref a) "dict"
/-- all but the object at d stands as it stood -/
def Keep (d : Addr) (H H' : Hp) : Prop := ∀ a o, a ≠ d → H a = some o → H' a = some o
theorem Keep.refl {d : Addr} (H : Hp) : Keep d H H := fun _ _ _ h => h
theorem Keep.trans {d : Addr} {H H1 H2 : Hp} (a : Keep d H H1) (b : Keep d H1 H2) : Keep d H H2 := fun x o n h => b x o n (a x o n h)
theorem Keep.of {d : Addr} {H H' : Hp} (s : Same H H') : Keep d H H' := fun a o _ h => s a o h
theorem same_new {H : Hp} {p : Addr} {o : HO} (h : H p = none) : Same H (upd H p o) := fun b u e => by rw [upd_ne (ne_of_none e h)]; exact e
theorem Thg.ty {d : Addr} {K : PySem.W.Frag} {H : Hp} {v : V} {s : String} (h : Thg d H v s) : TyX K H v (.type s) := by
  cases h with
  | non => exact .base .non
  | bl b => exact .base (.bl b)
  | int i => exact .base (.int i)
  | str x => exact .base (.str x)
  | lst e => exact .base (.lst e)
  | tup e => exact .base (.tup e)
  | dic e _ => exact .base (.dK e)
theorem Thg.same {d : Addr} {H H' : Hp} {v : V} {s : String} (h : Thg d H v s) (e : Same H H') : Thg d H' v s := by
  cases h with
  | non => exact .non
  | bl b => exact .bl b
  | int i => exact .int i
  | str x => exact .str x
  | lst q => exact .lst (e _ _ q)
  | tup q => exact .tup (e _ _ q)
  | dic q n => exact .dic (e _ _ q) n
theorem Thg.keep {d : Addr} {H H' : Hp} {kvs : List (Key × V)} {v : V} {s : String} (h : Thg d H v s) (hd : H d = some (.dK kvs)) (e : Keep d H H') : Thg d H' v s := by
  cases h with
  | non => exact .non
  | bl b => exact .bl b
  | int i => exact .int i
  | str x => exact .str x
  | lst q => exact .lst (e _ _ (ne_of q hd (by intro z; cases z)) q)
  | tup q => exact .tup (e _ _ (ne_of q hd (by intro z; cases z)) q)
  | dic q n => exact .dic (e _ _ n q) n
def isI : V → Bool
  | .int _ => true
  | _ => false
def inR (v : V) (lo hi : Int) : Bool := match v with
  | .int i => Ma.within i lo hi
  | _ => false
def intI : V → Bool
  | .int _ => true
  | .bl _ => true
  | _ => false
def blI : V → Bool
  | .bl _ => true
  | _ => false
def tupS (s : String) : Bool := s == "tuple"
theorem Thg.k_int {d : Addr} {K : PySem.W.Frag} {H : Hp} {v : V} {s : String} (h : Thg d H v s) : PySem.W.kitOne K (.type s) (.type "int") = some (intI v) := by
  cases h <;> first | exact kit_ty (r := true) (by decide +kernel) | exact kit_ty (r := false) (by decide +kernel)
theorem Thg.k_bool {d : Addr} {K : PySem.W.Frag} {H : Hp} {v : V} {s : String} (h : Thg d H v s) : PySem.W.kitOne K (.type s) (.type "bool") = some (blI v) := by
  cases h <;> first | exact kit_ty (r := true) (by decide +kernel) | exact kit_ty (r := false) (by decide +kernel)
theorem Thg.k_tup {d : Addr} {K : PySem.W.Frag} {H : Hp} {v : V} {s : String} (h : Thg d H v s) : PySem.W.kitOne K (.type s) (.type "tuple") = some (tupS s) := by
  cases h <;> first | exact kit_ty (r := true) (by decide +kernel) | exact kit_ty (r := false) (by decide +kernel)
theorem isI_eq (v : V) : (if intI v = true then !blI v else false) = isI v := by cases v <;> rfl

section
variable {P : Program} {w : World} {K : PySem.W.Frag} {mg : Str → Option Value} {base : Heap}

/-! ### the program -/
def sp_is_int : Sp := fun vs H Q _ => ∃ d v s, vs = [v] ∧ Thg d H v s ∧ Q (.bl (isI v)) H
def sp_is_within : Sp := fun vs H Q _ => ∃ d v s lo hi, vs = [v, .int lo, .int hi] ∧ Thg d H v s ∧ Q (.bl (inR v lo hi)) H
def sp_is_moment : Sp := fun vs H Q _ => ∃ d v s, vs = [v] ∧ Thg d H v s ∧ Q (.bl (inR v 0 315537638648)) H
def sp_is_zone : Sp := fun vs H Q _ => ∃ d v s, vs = [v] ∧ Thg d H v s ∧ Q (.bl (inR v (-840) 840)) H
def sp__days_before : Sp := fun vs H Q _ => ∃ y, vs = [.int y] ∧ Q (.int (Ma.days y)) H
def sp__year_of_day : Sp := fun vs H Q _ => ∃ y, vs = [.int y] ∧ ∀ H', Same H H' → Q (.int (Ma.yearOf y)) H'
end
end Toy
set_option Elab.async false
set_option linter.all false
set_option maxRecDepth 100000
set_option maxHeartbeats 2000000
namespace Toy
open PySem PySem.Spec PyProof.Rows L2
theorem dI (a b : Int) : decide (V.int a = V.int b) = decide (a = b) := by
  rw [Bool.eq_iff_iff]
  simp only [decide_eq_true_eq]
  exact ⟨fun h => V.int.inj h, fun h => by rw [h]⟩
theorem inR_int {v : V} {lo hi : Int} (h : inR v lo hi = true) : ∃ i, v = .int i := by
  cases v <;> first | exact ⟨_, rfl⟩ | cases h
theorem Thg.is_tup {d : Addr} {H : Hp} {v : V} {s : String} (h : Thg d H v s) (e : tupS s = true) : ∃ a xs, v = .ref a ∧ H a = some (.tup xs) := by
  cases h with
  | tup q => exact ⟨_, _, rfl, q⟩
  | _ => exact absurd e (by decide)
def dayV (y mo d : V) : Bool := match y, mo with
  | .int y', .int m' => inR d 1 (Ma.dim y' m')
  | _, _ => false
def fitsV (y mo d h mi s z : V) : Bool := inR y 1 9999 && inR mo 1 13 && dayV y mo d && inR z (-840) 840 && inR h 0 23 && inR mi 0 59 && inR s 0 60
theorem fitsV_int (y mo d h mi s z : Int) : fitsV (.int y) (.int mo) (.int d) (.int h) (.int mi) (.int s) (.int z) = Ma.fits y mo d h mi s z := rfl
theorem fitsV_ints {y mo d h mi s z : V} (f : fitsV y mo d h mi s z = true) : ∃ y' mo' d' h' mi' s' z' : Int, y = .int y' ∧ mo = .int mo' ∧ d = .int d' ∧ h = .int h' ∧ mi = .int mi' ∧ s = .int s' ∧ z = .int z' := by
  unfold fitsV at f
  simp only [Bool.and_eq_true] at f
  obtain ⟨⟨⟨⟨⟨⟨f1, f2⟩, f3⟩, f4⟩, f5⟩, f6⟩, f7⟩ := f
  obtain ⟨y', rfl⟩ := inR_int f1
  obtain ⟨mo', rfl⟩ := inR_int f2
  obtain ⟨d', rfl⟩ := inR_int (v := d) f3
  obtain ⟨z', rfl⟩ := inR_int f4
  obtain ⟨h', rfl⟩ := inR_int f5
  obtain ⟨mi', rfl⟩ := inR_int f6
  obtain ⟨s', rfl⟩ := inR_int f7
  exact ⟨_, _, _, _, _, _, _, rfl, rfl, rfl, rfl, rfl, rfl, rfl⟩
def isDateL : List V → Bool
  | [.int y, .int mo, .int d, .int h, .int mi, .int s, .int z] => Ma.isDate y mo d h mi s z
  | _ => false
def isDateV (H : Hp) (v : V) : Bool := match v with
  | .ref a => match H a with
    | some (.tup xs) => isDateL xs
    | _ => false
  | _ => false
section
variable {P : Program} {w : World} {K : PySem.W.Frag} {mg : Str → Option Value} {base : Heap}
def sp__days_in_month : Sp := fun vs H Q _ => ∃ y m, vs = [.int y, .int m] ∧ Q (.int (Ma.dim y m)) H
def sp__fits_calendar : Sp := fun vs H Q _ => ∃ (dd a : Addr) (y mo d h mi s z : V), vs = [.ref a] ∧ H a = some (.tup [y, mo, d, h, mi, s, z]) ∧ (∀ x ∈ [y, mo, d, h, mi, s, z], ∃ k, Thg dd H x k) ∧ Q (.bl (fitsV y mo d h mi s z)) H
def sp__seconds_before : Sp := fun vs H Q _ => ∃ (a : Addr) (y mo d h mi s z : Int), vs = [.ref a] ∧ H a = some (.tup [.int y, .int mo, .int d, .int h, .int mi, .int s, .int z]) ∧ Q (.int (Ma.before y mo d h mi s z)) H
def sp__is_before_leap_second : Sp := fun vs H Q _ => ∃ b, vs = [.int b] ∧ ∀ H', Same H H' → Q (.bl (Ma.isLeap b)) H'
def sp_is_date : Sp := fun vs H Q _ => ∃ (dd : Addr) (v : V) (k : String), vs = [v] ∧ Thg dd H v k ∧ (∀ a xs, v = .ref a → H a = some (.tup xs) → ∀ x ∈ xs, ∃ k, Thg dd H x k) ∧ ∀ H', Same H H' → Q (.bl (isDateV H v)) H'
end
end Toy
set_option Elab.async false
set_option linter.all false
set_option maxRecDepth 100000
set_option maxHeartbeats 2000000
namespace Toy
open PySem PySem.Spec PyProof.Rows L2
/-! ### the draws -/
theorem s_ca : ¬ (("cells" : Str) = ("at" : Str)) := by decide +kernel
theorem s_ac : ¬ (("at" : Str) = ("cells" : Str)) := by decide +kernel
theorem n_ca : ¬ ((Sum.inr ("cells" : Str) : Key) = Sum.inr ("at" : Str)) := by decide +kernel
theorem s_cl : ¬ (("cells" : Str) = ("left" : Str)) := by decide +kernel
theorem s_lc : ¬ (("left" : Str) = ("cells" : Str)) := by decide +kernel
theorem n_cl : ¬ ((Sum.inr ("cells" : Str) : Key) = Sum.inr ("left" : Str)) := by decide +kernel
theorem s_cu : ¬ (("cells" : Str) = ("used" : Str)) := by decide +kernel
theorem s_uc : ¬ (("used" : Str) = ("cells" : Str)) := by decide +kernel
theorem n_cu : ¬ ((Sum.inr ("cells" : Str) : Key) = Sum.inr ("used" : Str)) := by decide +kernel
theorem s_al : ¬ (("at" : Str) = ("left" : Str)) := by decide +kernel
theorem s_la : ¬ (("left" : Str) = ("at" : Str)) := by decide +kernel
theorem n_al : ¬ ((Sum.inr ("at" : Str) : Key) = Sum.inr ("left" : Str)) := by decide +kernel
theorem s_au : ¬ (("at" : Str) = ("used" : Str)) := by decide +kernel
theorem s_ua : ¬ (("used" : Str) = ("at" : Str)) := by decide +kernel
theorem n_au : ¬ ((Sum.inr ("at" : Str) : Key) = Sum.inr ("used" : Str)) := by decide +kernel
theorem s_lu : ¬ (("left" : Str) = ("used" : Str)) := by decide +kernel
theorem s_ul : ¬ (("used" : Str) = ("left" : Str)) := by decide +kernel
theorem n_lu : ¬ ((Sum.inr ("left" : Str) : Key) = Sum.inr ("used" : Str)) := by decide +kernel
def dkv (c : Addr) (a l u : Int) : List (Key × V) := [(Sum.inr ("cells" : Str), .ref c), (Sum.inr ("at" : Str), .int a), (Sum.inr ("left" : Str), .int l), (Sum.inr ("used" : Str), .int u)]
theorem dkv_merge (c : Addr) (a l u : Int) : mergeK [] [(Sum.inr ("cells" : Str), V.ref c), (Sum.inr ("at" : Str), .int a), (Sum.inr ("left" : Str), .int l), (Sum.inr ("used" : Str), .int u)] = dkv c a l u := by
  simp [mergeK, putK, dkv, s_ca, s_ac, s_cl, s_lc, s_cu, s_uc, s_al, s_la, s_au, s_ua, s_lu, s_ul]
theorem put_at (c : Addr) (a l u x : Int) : putK (dkv c a l u) (Sum.inr ("at" : Str)) (.int x) = dkv c x l u := by
  simp [putK, dkv, s_ca, s_ac, s_cl, s_lc, s_cu, s_uc, s_al, s_la, s_au, s_ua, s_lu, s_ul]
theorem put_left (c : Addr) (a l u x : Int) : putK (dkv c a l u) (Sum.inr ("left" : Str)) (.int x) = dkv c a x u := by
  simp [putK, dkv, s_ca, s_ac, s_cl, s_lc, s_cu, s_uc, s_al, s_la, s_au, s_ua, s_lu, s_ul]
theorem put_used (c : Addr) (a l u x : Int) : putK (dkv c a l u) (Sum.inr ("used" : Str)) (.int x) = dkv c a l x := by
  simp [putK, dkv, s_ca, s_ac, s_cl, s_lc, s_cu, s_uc, s_al, s_la, s_au, s_ua, s_lu, s_ul]
section
variable {H : Hp} {d c : Addr} {a l u : Int}
theorem get_cells (h : H d = some (.dK (dkv c a l u))) : DGet H d (.str "cells") (some (.ref c)) := by
  have g := DGet.k (k := Sum.inr ("cells" : Str)) h
  rw [show valV (dkv c a l u) (Sum.inr ("cells" : Str)) = some (.ref c) from valV_pos rfl] at g
  exact g
theorem get_at (h : H d = some (.dK (dkv c a l u))) : DGet H d (.str "at") (some (.int a)) := by
  have g := DGet.k (k := Sum.inr ("at" : Str)) h
  rw [show valV (dkv c a l u) (Sum.inr ("at" : Str)) = some (.int a) by unfold dkv; rw [valV_neg n_ca, valV_pos rfl]] at g
  exact g
theorem get_left (h : H d = some (.dK (dkv c a l u))) : DGet H d (.str "left") (some (.int l)) := by
  have g := DGet.k (k := Sum.inr ("left" : Str)) h
  rw [show valV (dkv c a l u) (Sum.inr ("left" : Str)) = some (.int l) by unfold dkv; rw [valV_neg n_cl, valV_neg n_al, valV_pos rfl]] at g
  exact g
theorem get_used (h : H d = some (.dK (dkv c a l u))) : DGet H d (.str "used") (some (.int u)) := by
  have g := DGet.k (k := Sum.inr ("used" : Str)) h
  rw [show valV (dkv c a l u) (Sum.inr ("used" : Str)) = some (.int u) by unfold dkv; rw [valV_neg n_cu, valV_neg n_au, valV_neg n_lu, valV_pos rfl]] at g
  exact g
theorem dkv_few : (dkv c a l u).length < sizeLine := Nat.lt_of_lt_of_le (show 4 < 1000 by decide) (by decide)
theorem set_at (x : Int) (h : H d = some (.dK (dkv c a l u))) : DPut H d (.str "at") (.int x) (upd H d (.dK (dkv c x l u))) := by
  have g := DPut.k (k := Sum.inr ("at" : Str)) (v := .int x) h dkv_few
  rw [put_at] at g
  exact g
theorem set_left (x : Int) (h : H d = some (.dK (dkv c a l u))) : DPut H d (.str "left") (.int x) (upd H d (.dK (dkv c a x u))) := by
  have g := DPut.k (k := Sum.inr ("left" : Str)) (v := .int x) h dkv_few
  rw [put_left] at g
  exact g
theorem set_used (x : Int) (h : H d = some (.dK (dkv c a l u))) : DPut H d (.str "used") (.int x) (upd H d (.dK (dkv c a l x))) := by
  have g := DPut.k (k := Sum.inr ("used" : Str)) (v := .int x) h dkv_few
  rw [put_used] at g
  exact g
end
/-- a drawing at d, after at most n draws -/
def Draw (H : Hp) (d : Addr) (n : Int) : Prop := ∃ (c : Addr) (xs : List Int) (a l u : Int), H d = some (.dK (dkv c a l u)) ∧ H c = some (.lst (xs.map V.int)) ∧ xs ≠ [] ∧ 0 ≤ a ∧ a ≤ n ∧ 0 ≤ u ∧ u ≤ n
theorem Draw.same {H H' : Hp} {d : Addr} {n : Int} (h : Draw H d n) (e : Same H H') : Draw H' d n := by
  obtain ⟨c, xs, a, l, u, h1, h2, r⟩ := h
  exact ⟨c, xs, a, l, u, e _ _ h1, e _ _ h2, r⟩
theorem Draw.more {H : Hp} {d : Addr} {n m : Int} (h : Draw H d n) (e : n ≤ m) : Draw H d m := by
  obtain ⟨c, xs, a, l, u, h1, h2, h3, r1, r2, r3, r4⟩ := h
  exact ⟨c, xs, a, l, u, h1, h2, h3, r1, by omega, r3, by omega⟩
theorem Draw.dic {H : Hp} {d : Addr} {n : Int} (h : Draw H d n) : ∃ kvs, H d = some (.dK kvs) := by
  obtain ⟨c, xs, a, l, u, h1, _⟩ := h
  exact ⟨_, h1⟩
theorem at_some {α : Type} {xs : List α} {i : Int} (h0 : 0 ≤ i) (h1 : i < xs.length) : ∃ v, atI xs i = some v ∧ v ∈ xs := by
  have h2 : i.toNat < xs.length := by omega
  refine ⟨xs[i.toNat], ?_, List.getElem_mem _⟩
  have e : i = ((i.toNat : Nat) : Int) := by omega
  have h3 := atI_nat (xs := xs) (j := i.toNat) (v := xs[i.toNat]) (by simp [h2])
  rw [← e] at h3
  exact h3
theorem keep_upd {d : Addr} {H : Hp} {o : HO} : Keep d H (upd H d o) := fun a u n h => by rw [upd_ne n]; exact h
theorem mod_few (x m : Int) (h : 0 < m) (h2 : m < 2 ^ 64) : -(2 ^ 64) < x % m ∧ x % m < 2 ^ 64 := by
  have a := Int.emod_nonneg x (show m ≠ 0 by omega)
  have b := Int.emod_lt_of_pos x h
  omega

section
variable {P : Program} {w : World} {K : PySem.W.Frag} {mg : Str → Option Value} {base : Heap}
def sp__law_begin (K : PySem.W.Frag) : Sp := fun vs H Q _ => ∃ (s : Addr) (ns : List Int), vs = [.ref s] ∧ SqL K H s (ns.map V.int) ∧ ns.length ≤ 63 ∧ ∀ H' d, Same H H' → H d = none → Draw H' d 0 → Q (.ref d) H'
theorem ok__law_begin (T : Txt K mg) : FnOk P w K mg base CX0 1 T.a__law_begin T.d__law_begin ["script"] (sp__law_begin K) := by
  refine T.F__law_begin.ok sc__law_begin (fun vs H Q E h => ?_) (fun cdv A outer s H vs Q E hr h => ?_)
  · obtain ⟨s, ns, rfl, _⟩ := h; rfl
  · obtain ⟨s, ns, rfl, hs, hl, q⟩ := h
    refine ⟨_, (pss_one (ps_ret (pe_disp (pps_cons pe_str (pe_op Vz.op_catR (pv 0) (pe_lst (pa_cons pe_int pa_nil))) (pps_cons pe_str pe_int (pps_cons pe_str pe_int (pps_cons pe_str pe_int pps_nil)))) (by rfl) (by rfl) (fun z => by cases z) (by decide)))), ?_⟩
    refine fun p np => ?_
    have s1 := same_new (o := .dK []) np
    refine ⟨_, rfl, (by show 1 ≤ sizeLine; decide), fun b nb => ?_⟩
    have s2 := same_new (o := .lst [V.int 0]) nb
    refine ⟨s, b, ns.map V.int, [.int 0], rfl, rfl, s2.seq (s1.seq hs), SqL.of upd_same, ?_, fun c nc => ?_⟩
    · rw [List.length_map]; exact Nat.le_trans (Nat.add_le_add_right hl 1) (by decide)
    · have hp : upd (upd (upd H p (.dK [])) b (.lst [V.int 0])) c (.lst (ns.map V.int ++ [V.int 0])) p = some (.dK []) := by
        rw [upd_ne (ne_of_none (o := .dK []) (s2 _ _ upd_same) nc), upd_ne (ne_of_none (o := .dK []) upd_same nb), upd_same]
      refine ⟨hp, [(Sum.inr ("cells" : Str), V.ref c), (Sum.inr ("at" : Str), .int 0), (Sum.inr ("left" : Str), .int 0), (Sum.inr ("used" : Str), .int 0)], rfl, (by show 4 ≤ 15; decide), ?_⟩
      rw [dkv_merge]
      have ncp : c ≠ p := by intro z; subst z; rw [s2 _ _ upd_same] at nc; cases nc
      refine q _ p (fun x o e => ?_) np ⟨c, ns ++ [0], 0, 0, 0, upd_same, ?_, by simp, by omega, by omega, by omega, by omega⟩
      · rw [upd_ne (ne_of_none e np)]
        exact same_new nc _ _ (s2 _ _ (s1 _ _ e))
      · rw [upd_ne ncp, upd_same]; simp
def sp__law_mixed : Sp := fun vs H Q _ => ∃ c k, vs = [.int c, .int k] ∧ 0 ≤ k ∧ k ≤ 1099511627776 ∧ ∀ m, Q (.int m) H
theorem ok__law_mixed (T : Txt K mg) : FnOk P w K mg base CX0 1 T.a__law_mixed T.d__law_mixed ["cell", "k"] sp__law_mixed := by
  refine T.F__law_mixed.ok sc__law_mixed (fun vs H Q E h => ?_) (fun cdv A outer s H vs Q E hr h => ?_)
  · obtain ⟨c, k, rfl, _⟩ := h; rfl
  · obtain ⟨c, k, rfl, k0, k1, q⟩ := h
    refine ⟨_, (pss_cons (ps_set (i := 2) sc__law_mixed.nd rfl (by first | exact Or.inl rfl | exact Or.inr rfl) (pe_op op_mod (pe_callTy call_int1 (by rfl) T.z_int (by decide +kernel) (pa_cons (pe_op op_add (pe_op op_add (pe_op op_add (pe_op op_mod (pe_callTy call_int1 (by rfl) T.z_int (by decide +kernel) (pa_cons (pv 0) pa_nil)) pe_int) (pe_op op_mul (pe_op op_mul pe_int (pv 1)) (pv 1))) (pe_op op_mul pe_int (pv 1))) pe_int) pa_nil)) pe_int))
        (pss_cons (ps_set (i := 2) sc__law_mixed.nd rfl (by first | exact Or.inl rfl | exact Or.inr rfl) (pe_op op_mod (pe_callTy call_int1 (by rfl) T.z_int (by decide +kernel) (pa_cons (pe_op op_mul (pe_op op_mod (pe_callTy call_int1 (by rfl) T.z_int (by decide +kernel) (pa_cons (pe_op op_mul (pv 2) (pv 2)) pa_nil)) pe_int) (pv 2)) pa_nil)) pe_int))
        (pss_one (ps_ret (pe_op op_fdiv (pe_op op_mod (pe_callTy call_int1 (by rfl) T.z_int (by decide +kernel) (pa_cons (pe_op op_mul (pv 2) (pe_op op_add pe_int (pe_op op_mul pe_int (pe_op op_mod (pe_callTy call_int1 (by rfl) T.z_int (by decide +kernel) (pa_cons (pv 1) pa_nil)) pe_int)))) pa_nil)) pe_int) pe_int))))), ?_⟩
    refine ⟨_, rfl, .inl ⟨_, rfl, ?_⟩⟩
    refine ⟨_, _, rfl, rfl, (by show (0 : Int) < 1000000007; decide), _, rfl, _, _, rfl, rfl, .inl ⟨by decide, by decide⟩, _, rfl, _, _, rfl, rfl, .inl ⟨by omega, by omega⟩, _, _, rfl, rfl, _, rfl, _, _, rfl, rfl, .inl ⟨by decide, by decide⟩, _, _, rfl, rfl, _, _, rfl, rfl, .inl ⟨_, rfl, ?_⟩⟩
    refine ⟨_, _, rfl, rfl, (by show (0 : Int) < 2147483647; decide), ?_⟩
    refine ⟨_, rfl, _, rfl, _, _, rfl, rfl, .inl (mod_few _ _ (by decide) (by decide)), .inl ⟨_, rfl, ?_⟩⟩
    refine ⟨_, _, rfl, rfl, (by show (0 : Int) < 2147483647; decide), _, rfl, _, _, rfl, rfl, .inl (mod_few _ _ (by decide) (by decide)), .inl ⟨_, rfl, ?_⟩⟩
    refine ⟨_, _, rfl, rfl, (by show (0 : Int) < 2147483629; decide), ?_⟩
    refine ⟨_, rfl, _, rfl, .inl ⟨_, rfl, ?_⟩⟩
    refine ⟨_, _, rfl, rfl, (by show (0 : Int) < 1000; decide), _, _, rfl, rfl, .inl ⟨by decide, by decide⟩, _, _, rfl, rfl, _, _, rfl, rfl, .inl (mod_few _ _ (by decide) (by decide)), .inl ⟨_, rfl, ?_⟩⟩
    refine ⟨_, _, rfl, rfl, (by show (0 : Int) < 2147483647; decide), _, _, rfl, rfl, ⟨by decide, by decide⟩, ?_⟩
    exact q _
def sp__law_next : Sp := fun vs H Q _ => ∃ (d : Addr) (m n : Int), vs = [.ref d, .int m] ∧ Draw H d n ∧ 0 < m ∧ m < 1073741824 ∧ n ≤ 1000000000 ∧ ∀ H' k, Keep d H H' → Draw H' d (n + 1) → 0 ≤ k → k < m → Q (.int k) H'
theorem ok__law_next (T : Txt K mg) : FnOk P w K mg base CX0 2 T.a__law_next T.d__law_next ["draw", "bound"] sp__law_next := by
  refine T.F__law_next.ok sc__law_next (fun vs H Q E h => ?_) (fun cdv A outer s H vs Q E hr h => ?_)
  · obtain ⟨d, m, n, rfl, _⟩ := h; rfl
  · obtain ⟨d, m, n, rfl, ⟨c, xs, a, l, u, h1, h2, h3, a0, a1, u0, u1⟩, m0, m1, n1, q⟩ := h
    have hu := hu_of hr
    have small : ∀ x : Int, 0 ≤ x % m ∧ x % m < m := fun x => ⟨Int.emod_nonneg x (by omega), Int.emod_lt_of_pos x m0⟩
    have ncd : c ≠ d := ne_of h2 h1 (by intro z; cases z)
    refine ⟨_, (pss_cons (ps_if (pt_cmpR op_gt (pe_dget hu (pv 0) pe_str (fun _ _ => rfl)) pe_int (nomark _)) (pss_cons (ps_set (i := 2) sc__law_next.nd rfl (by first | exact Or.inl rfl | exact Or.inr rfl) (pe_op op_mod (pe_callTy call_int1 (by rfl) T.z_int (by decide +kernel) (pa_cons (pe_dget hu (pv 0) pe_str (fun _ _ => rfl)) pa_nil)) (pv 1)))
        (pss_cons (ps_dput hu (pv 0) pe_str (pe_op op_fdiv (pe_dget hu (pv 0) pe_str (fun _ _ => rfl)) (pv 1)) rfl)
        (pss_one (ps_ret (pv 2))))) pss_nil)
        (pss_cons (ps_set (i := 3) sc__law_next.nd rfl (by first | exact Or.inl rfl | exact Or.inr rfl) (pe_dget hu (pv 0) pe_str (fun _ _ => rfl)))
        (pss_cons (ps_set (i := 4) sc__law_next.nd rfl (by first | exact Or.inl rfl | exact Or.inr rfl) (pe_ix ix_list (pv 3) (pe_op op_mod (pe_callTy call_int1 (by rfl) T.z_int (by decide +kernel) (pa_cons (pe_dget hu (pv 0) pe_str (fun _ _ => rfl)) pa_nil)) (pe_callB call_len_seq (by rfl) T.z_len PySem.boot_len (pa_cons (pv 3) pa_nil))) (fun _ _ => rfl)))
        (pss_cons (ps_dput hu (pv 0) pe_str (pe_op op_add (pe_dget hu (pv 0) pe_str (fun _ _ => rfl)) pe_int) rfl)
        (pss_cons (ps_if (PW.pt (pw_and (pt_cmpR op_ge (pv 4) (pe_op op_pow pe_int pe_int) (nomark _)) (pw_and1 (pt_cmpR op_le (pe_dget hu (pv 0) pe_str (fun _ _ => rfl)) (pe_callB call_len_seq (by rfl) T.z_len PySem.boot_len (pa_cons (pv 3) pa_nil)) (nomark _))))) (pss_cons (ps_dput hu (pv 0) pe_str (pe_op op_fdiv (pv 4) (pv 1)) rfl)
        (pss_one (ps_ret (pe_op op_mod (pe_callTy call_int1 (by rfl) T.z_int (by decide +kernel) (pa_cons (pv 4) pa_nil)) (pv 1))))) pss_nil)
        (pss_cons (ps_dput hu (pv 0) pe_str (pe_op op_add (pe_dget hu (pv 0) pe_str (fun _ _ => rfl)) pe_int) rfl)
        (pss_one (ps_ret (pe_op op_mod (pe_callTy call_int1 (by rfl) T.z_int (by decide +kernel) (pa_cons (pe_call (ok__law_mixed T) (hr.mono (by decide)) (by rfl) T.g__law_mixed T.F__law_mixed.kp T.b__law_mixed .nil pass0 (pa_cons (pe_call (ok__law_mixed T) (hr.mono (by decide)) (by rfl) T.g__law_mixed T.F__law_mixed.kp T.b__law_mixed .nil pass0 (pa_cons (pv 4) (pa_cons (pe_dget hu (pv 0) pe_str (fun _ _ => rfl)) pa_nil))) (pa_cons (pe_dget hu (pv 0) pe_str (fun _ _ => rfl)) pa_nil))) pa_nil)) (pv 1)))))))))), ?_⟩
    refine ⟨_, rfl, _, _, rfl, get_left h1, _, _, rfl, rfl, _, rfl, ?_⟩
    refine ite2 (fun cc => ?_) (fun cc => ?_)
    · refine ⟨_, rfl, _, _, rfl, get_left h1, .inl ⟨_, rfl, _, rfl, _, _, rfl, rfl, m0, ?_⟩⟩
      refine ⟨_, rfl, _, _, rfl, get_left h1, _, rfl, _, _, rfl, rfl, ⟨m0, m1⟩, _, rfl, _, _, rfl, set_left _ h1, ?_⟩
      exact ⟨_, rfl, q _ _ keep_upd ⟨c, xs, a, _, u, upd_same, by rw [upd_ne ncd]; exact h2, h3, a0, by omega, u0, by omega⟩ (small _).1 (small _).2⟩
    · have len0 : 0 < (xs.map V.int).length := by
        cases xs with
        | nil => exact absurd rfl h3
        | cons x r => simp
      have i0 : 0 ≤ a % ((xs.map V.int).length : Int) := Int.emod_nonneg _ (by omega)
      have i1 : a % ((xs.map V.int).length : Int) < ((xs.map V.int).length : Int) := Int.emod_lt_of_pos _ (by omega)
      obtain ⟨v, hv, hm⟩ := at_some i0 i1
      obtain ⟨x, _, rfl⟩ := List.mem_map.mp hm
      refine ⟨_, rfl, _, _, rfl, get_cells h1, ?_⟩
      refine ⟨_, rfl, _, rfl, _, _, rfl, get_at h1, .inl ⟨_, rfl, _, rfl, _, _, rfl, .inl (SqL.of h2), _, _, rfl, rfl, (by show (0 : Int) < ((xs.map V.int).length : Int); omega), _, _, _, _, rfl, rfl, SqL.of h2, hv, ?_⟩⟩
      refine ⟨_, rfl, _, _, rfl, get_at h1, _, _, rfl, rfl, _, rfl, _, _, rfl, set_at _ h1, ?_⟩
      have h1' : upd H d (.dK (dkv c (a + 1) l u)) d = some (.dK (dkv c (a + 1) l u)) := upd_same
      have h2' : upd H d (.dK (dkv c (a + 1) l u)) c = some (.lst (xs.map V.int)) := by rw [upd_ne ncd]; exact h2
      have last : ∀ H2, Keep d H H2 → H2 d = some (.dK (dkv c (a + 1) l u)) → H2 c = some (.lst (xs.map V.int)) → ∀ k, 0 ≤ k → k < m → Q (.int k) (upd H2 d (.dK (dkv c (a + 1) l (u + 1)))) := fun H2 e1 e2 e3 k k0 k1 =>
        q _ _ (e1.trans keep_upd) ⟨c, xs, a + 1, l, u + 1, upd_same, by rw [upd_ne ncd]; exact e3, h3, by omega, by omega, by omega, by omega⟩ k0 k1
      have ending : ∀ z : Prop, z → z := fun _ h => h
      refine ⟨_, rfl, _, _, rfl, rfl, ⟨by decide, by decide, by decide⟩, _, _, rfl, rfl, _, rfl, ?_⟩
      refine ite2 (fun c1 => ?_) (fun c1 => ?_)
      · refine ⟨_, rfl, _, _, rfl, get_at h1', _, rfl, _, _, rfl, .inl (SqL.of h2'), _, _, rfl, rfl, _, rfl, ?_⟩
        refine ite2 (fun c2 => ?_) (fun c2 => ?_)
        · refine ⟨_, rfl, _, rfl, _, _, rfl, rfl, ⟨m0, m1⟩, _, rfl, _, _, rfl, set_left _ h1', ?_⟩
          refine ⟨_, rfl, .inl ⟨_, rfl, _, rfl, _, _, rfl, rfl, m0, ?_⟩⟩
          exact q _ _ (keep_upd.trans keep_upd) ⟨c, xs, a + 1, _, u, upd_same, by rw [upd_ne ncd]; exact h2', h3, by omega, by omega, u0, by omega⟩ (small _).1 (small _).2
        · refine ⟨_, rfl, _, _, rfl, get_used h1', _, _, rfl, rfl, _, rfl, _, _, rfl, set_used _ h1', ?_⟩
          refine ⟨_, rfl, _, rfl, _, _, rfl, get_at upd_same, _, _, rfl, by omega, by omega, fun m1 => ?_⟩
          refine ⟨_, rfl, _, _, rfl, get_used upd_same, _, _, rfl, by omega, by omega, fun m2 => .inl ⟨_, rfl, _, rfl, _, _, rfl, rfl, m0, ?_⟩⟩
          exact last _ keep_upd h1' h2' _ (small _).1 (small _).2
      · refine iteF ?_
        refine ⟨_, rfl, _, _, rfl, get_used h1', _, _, rfl, rfl, _, rfl, _, _, rfl, set_used _ h1', ?_⟩
        refine ⟨_, rfl, _, rfl, _, _, rfl, get_at upd_same, _, _, rfl, by omega, by omega, fun m1 => ?_⟩
        refine ⟨_, rfl, _, _, rfl, get_used upd_same, _, _, rfl, by omega, by omega, fun m2 => .inl ⟨_, rfl, _, rfl, _, _, rfl, rfl, m0, ?_⟩⟩
        exact last _ keep_upd h1' h2' _ (small _).1 (small _).2
end
end Toy
set_option Elab.async false
set_option linter.all false
set_option maxRecDepth 100000
set_option maxHeartbeats 4000000
namespace Toy
open PySem PySem.Spec PyProof.Rows L2 Tx TL
theorem Thg.k_str {d : Addr} {K : PySem.W.Frag} {H : Hp} {v : V} {s : String} (h : Thg d H v s) : PySem.W.kitOne K (.type s) (.type "str") = some (s == "str") := by
  cases h <;> first | exact kit_ty (r := true) (by decide +kernel) | exact kit_ty (r := false) (by decide +kernel)
def asc (l : List Nat) : Prop := ∀ c ∈ l, c < 128
theorem sw_pre {x y : Str} (hy : tl y ≠ []) : Txt.startswith x y = pre (tl y) (tl x) := by
  have h := at_iff (x := x) hy 0
  rw [List.drop_zero] at h
  have hs : Txt.startswith x y = (decide (0 + y.length ≤ x.length) && Builtin.Str.subAt x y 0) := rfl
  rw [Bool.eq_iff_iff, ← h, hs, Bool.and_eq_true, decide_eq_true_eq]
  rfl
theorem cut_sw {n x : Str} (hx : tl x ≠ []) : cutS n none (some (x.length : Int)) = x ↔ Txt.startswith n x = true := by
  rw [sw_pre hx]
  unfold pre
  rw [beq_iff_eq]
  have e : tl (cutS n none (some (x.length : Int))) = (tl n).take (tl x).length := by
    show (((tl n).drop (HT.sIx n.length 0 none)).take (HT.sIx n.length n.length (some (x.length : Int)) - HT.sIx n.length 0 none)) = _
    have e1 : HT.sIx n.length n.length (some (x.length : Int)) = min x.length n.length := HT.sIx_nat n.length n.length x.length
    rw [HT.sIx_none, e1, List.drop_zero, Nat.sub_zero, ← len_tl]
    by_cases c : x.length ≤ n.length
    · rw [Nat.min_eq_left c]
    · rw [Nat.min_eq_right (by omega), List.take_of_length_le (by rw [← len_tl]; omega), List.take_of_length_le (by rw [← len_tl]; omega)]
  constructor
  · intro h; rw [← e, h]
  · intro h; exact ext_tl (e.trans h)
theorem asc_cut {a : Str} {lo hi : Option Int} (h : asc (tl a)) : asc (tl (cutS a lo hi)) := fun c hc => by
  have hc : c ∈ ((tl a).drop (HT.sIx a.length 0 lo)).take (HT.sIx a.length a.length hi - HT.sIx a.length 0 lo) := hc
  exact h c (List.mem_of_mem_drop (List.mem_of_mem_take hc))
theorem asc_append {a b : List Nat} (h : asc a) (k : asc b) : asc (a ++ b) := fun c hc => by
  rcases List.mem_append.mp hc with x | x
  · exact h c x
  · exact k c x
theorem asc_app {a b : Str} (h : asc (tl a)) (k : asc (tl b)) : asc (tl (a ++ b)) := by rw [tl_append]; exact asc_append h k
theorem par_some {S : List Nat} : ∀ (l acc p r : List Nat), par S acc l = some (p, r) → acc ++ l = p ++ (S ++ r)
  | [], acc, p, r, h => by cases h
  | c :: t, acc, p, r, h => by
    by_cases e : pre S (c :: t) = true
    · rw [par_hit e] at h
      cases h
      unfold pre at e
      have e : (c :: t).take S.length = S := by simpa using e
      congr 1
      have := List.take_append_drop S.length (c :: t)
      rw [e] at this
      exact this.symm
    · rw [par_miss (by simpa using e)] at h
      have := par_some t (acc ++ [c]) p r h
      rw [← this]; simp
/-- what stands around a sign that is there -/
theorem asc_part {a y : Str} (hy : tl y ≠ []) (h : asc (tl a)) : asc (tl (Txt.partition a y).1) ∧ asc (tl (Txt.partition a y).2.2) := by
  rw [partition_par a y hy]
  cases hp : par (tl y) [] (tl a) with
  | none => exact ⟨h, fun c hc => nomatch hc⟩
  | some pr =>
    obtain ⟨p, r⟩ := pr
    have e := par_some _ _ _ _ hp
    rw [List.nil_append] at e
    exact ⟨fun c hc => h c (by rw [e]; exact List.mem_append_left _ hc), fun c hc => h c (by rw [e]; exact List.mem_append_right _ (List.mem_append_right _ hc))⟩
theorem spl_mem (S : List Nat) : ∀ (l : List Nat) (k : Nat) (acc : List Nat), ∀ p ∈ spl S k acc l, ∀ c ∈ p, c ∈ acc ∨ c ∈ l
  | [], k, acc => by
    rw [spl_nil]
    intro p hp c hc
    rw [List.mem_singleton.mp hp] at hc
    exact .inl hc
  | x :: r, 0, acc => by
    intro p hp c hc
    by_cases h : pre S (x :: r) = true
    · rw [spl_hit h] at hp
      rcases List.mem_cons.mp hp with e | e
      · rw [e] at hc; exact .inl hc
      · rcases spl_mem S r (S.length - 1) [] p e c hc with z | z
        · cases z
        · exact .inr (List.mem_cons_of_mem _ z)
    · rw [spl_miss (by simpa using h)] at hp
      rcases spl_mem S r 0 (acc ++ [x]) p hp c hc with z | z
      · rcases List.mem_append.mp z with z | z
        · exact .inl z
        · exact .inr (by rw [List.mem_singleton.mp z]; simp)
      · exact .inr (List.mem_cons_of_mem _ z)
  | x :: r, k + 1, acc => by
    intro p hp c hc
    rcases spl_mem S r k acc p hp c hc with z | z
    · exact .inl z
    · exact .inr (List.mem_cons_of_mem _ z)
theorem asc_split {a y : Str} (hy : tl y ≠ []) (hk : y.cps.all (· < 256) = true) (h : asc (tl a)) : ∀ p ∈ Txt.split a y, asc (tl p) := by
  intro p hp c hc
  have e := split_spl a y hy (kind_ok hk)
  have : tl p ∈ spl (tl y) 0 [] (tl a) := by rw [← e]; exact List.mem_map.mpr ⟨p, hp, rfl⟩
  rcases spl_mem _ _ _ _ _ this c hc with z | z
  · cases z
  · exact h c z
theorem str_size {a b : Str} {m n : Nat} (ha : a.length ≤ m) (hb : b.length ≤ n) (h : m + n ≤ 1000) : a.length + b.length ≤ sizeLine := by rw [sizeLine_eq]; omega
theorem one_ch {c : Nat} (h : c < 128) : (⟨#[c]⟩ : Str).length = 1 ∧ asc (tl ⟨#[c]⟩) := ⟨rfl, fun x hx => by
  have : x = c := by simpa [tl] using hx
  rw [this]; exact h⟩
theorem cut_pos (a : Str) {k : Int} (h0 : 0 ≤ k) : (cutS a none (some k)).length = min k.toNat a.length ∧ (cutS a (some k) none).length = a.length - min k.toNat a.length := by
  obtain ⟨m, rfl⟩ : ∃ m : Nat, k = (m : Int) := ⟨k.toNat, by omega⟩
  rw [Int.toNat_natCast]
  have e1 : HT.sIx a.length a.length (some (m : Int)) = min m a.length := HT.sIx_nat a.length a.length m
  have e2 : HT.sIx a.length 0 (some (m : Int)) = min m a.length := HT.sIx_nat a.length 0 m
  have la := len_tl a
  constructor
  · rw [len_tl]
    show (((tl a).drop (HT.sIx a.length 0 none)).take (HT.sIx a.length a.length (some (m : Int)) - HT.sIx a.length 0 none)).length = _
    rw [HT.sIx_none, e1, List.drop_zero, List.length_take]; omega
  · rw [len_tl]
    show (((tl a).drop (HT.sIx a.length 0 (some (m : Int)))).take (HT.sIx a.length a.length none - HT.sIx a.length 0 (some (m : Int)))).length = _
    rw [HT.sIx_none, e2, List.length_take, List.length_drop]; omega
theorem cut_two (a : Str) {k : Int} (h0 : 0 ≤ k) (h1 : k ≤ a.length) : (cutS a none (some k)).length + (cutS a (some k) none).length = a.length := by
  obtain ⟨x, y⟩ := cut_pos a h0
  rw [x, y]; omega
theorem cut_next (a : Str) {k : Int} (h0 : 0 ≤ k) (h1 : k ≤ a.length) : (cutS a (some (k + 1)) none).length ≤ (cutS a (some k) none).length := by
  obtain ⟨x, y⟩ := cut_pos a h0
  obtain ⟨x', y'⟩ := cut_pos a (show 0 ≤ k + 1 by omega)
  rw [y, y']; omega
theorem Good.dictNe {H : Hp} {d p : Addr} {n : Int} (D : Draw H d n) (h : H p = none) : p ≠ d := by
  obtain ⟨kvs, hd⟩ := D.dic
  exact (ne_of_none hd h).symm
theorem asg_any {te : TE} {i : Nat} {rest : TS} {D : Ends} {σ : L2.St} {H : Hp} (Pv : Hp → V → Prop) (h : ∀ R : VK, (∀ H5 v, Pv H5 v → R v H5) → te σ H R) (q : ∀ H5 v, Pv H5 v → rest D (σ.set i (some v)) H5) :
    tSeq (tAsg te (gName i)) rest D σ H := h _ q
section
variable {P : Program} {w : World} {K : PySem.W.Frag} {mg : Str → Option Value} {base : Heap}
def sp_consists_of : Sp := fun vs H Q _ => ∃ a b : Str, vs = [.str a, .str b] ∧ a.length ≤ 1000 ∧ ∀ H', Same H H' → Q (.bl (a.cps.toList.all fun c => decide (c ∈ b.cps.toList))) H'
theorem ok_consists_of (T : Txt K mg) : FnOk P w K mg base CX0 1 T.a_consists_of T.d_consists_of ["text", "signs"] sp_consists_of := by
  refine T.F_consists_of.ok sc_consists_of (fun vs H Q E h => ?_) (fun cdv A outer s H vs Q E hr h => ?_)
  · obtain ⟨a, b, rfl, _⟩ := h; rfl
  · obtain ⟨a, b, rfl, hl, q⟩ := h
    refine ⟨_, (pss_one (ps_ret (pe_callB (cr_all (by rfl)) (by rfl) T.z_all (by decide +kernel) (pa_cons (pe_lc (own := [("sign", 2)]) (g := gName 2) (by rfl) sc_consists_of.nd (pi_str (pv 0)) (blkOk_by (own := [("sign", 2)]) (N := ["text", "signs", "sign"]) (sc := defScope s_consists_of) (by decide +kernel)) (fun _ _ _ _ _ => pg_name (i := 2) sc_consists_of.nd rfl (Or.inl rfl)) (fun _ _ _ _ _ => pts_nil) (fun _ _ _ _ _ => (pe_cmpR op_in_sign (pv 2) (pv 1) (by with_unfolding_all rfl)))) pa_nil)))), ?_⟩
    refine ⟨_, rfl, a, rfl, fun D nD => ?_⟩
    have fin : ∀ H', H' = upd H D (.lst (a.cps.toList.map fun c => V.bl (decide (c ∈ b.cps.toList)))) → Q (.bl (a.cps.toList.all fun c => decide (c ∈ b.cps.toList))) H' := by
      rintro _ rfl
      exact q _ (same_new nD)
    refine lc_it walk_str (fun i H' => H' = upd H D (.lst ((a.cps.toList.take i).map fun c => V.bl (decide (c ∈ b.cps.toList))))) rfl (fun _ _ _ _ => trivial) ?_ ?_
    · rintro i x H1 H2 hi rfl ⟨rfl, c, hc, rfl⟩
      refine ⟨rfl, ?_⟩
      refine ⟨_, rfl, _, rfl, c, b, rfl, rfl, _, upd_same, ?_, ?_⟩
      · rw [List.length_map, List.length_take]
        have : a.cps.toList.length = a.length := by simp [Str.length]
        rw [sizeLine_eq]
        omega
      · have ht : a.cps.toList.take (i + 1) = a.cps.toList.take i ++ [c] := by
          rw [List.take_add_one]
          have : a.cps.toList[i]? = some c := by simpa using hc
          rw [this]
          rfl
        rw [ht, List.map_append]
        funext b'
        by_cases e : b' = D
        · subst e; rw [upd_same, upd_same]; rfl
        · rw [upd_ne e, upd_ne e, upd_ne e]
    · rintro H1 rfl
      have ht : a.cps.toList.take a.cps.size = a.cps.toList := by
        rw [List.take_of_length_le]; simp
      rw [ht]
      refine ⟨D, a.cps.toList.map fun c => decide (c ∈ b.cps.toList), rfl, SqL.of (by rw [upd_same, List.map_map]; rfl), ?_⟩
      have e : (a.cps.toList.map fun c => decide (c ∈ b.cps.toList)).all id = a.cps.toList.all fun c => decide (c ∈ b.cps.toList) := by
        rw [List.all_map]; rfl
      rw [e]
      exact fin _ rfl
end
end Toy
set_option Elab.async false
set_option linter.all false
set_option maxRecDepth 100000
set_option maxHeartbeats 4000000
namespace Toy
open PySem PySem.Spec PyProof.Rows L2 Tx TL
def lsig : Str := "abcdefghijklmnopqrstuvwxyz0123456789"
def ssig : Str := "abcdefghijklmnopqrstuvwxyzABCDEFGHIJKLMNOPQRSTUVWXYZ0123456789-_."
def allIn (b a : Str) : Bool := a.cps.toList.all fun c => decide (c ∈ b.cps.toList)
def labP (x : Str) : Bool := decide (1 ≤ (x.length : Int)) && decide ((x.length : Int) ≤ 10) && allIn lsig x
def dotP (x : Str) : Bool := inV (.str x) [.str ".", .str ".."]
def segP (x : Str) : Bool := decide ((x.length : Int) ≤ 20) && !dotP x && allIn ssig x
def hostP (x : Str) : Bool := decide (((Txt.split x ".").length : Int) ≤ 3) && (Txt.split x ".").all labP
def pathP (x : Str) : Bool := decide ((Txt.partition (cutS x (some 2) none) "/").2.1 = "/") && hostP (Txt.partition (cutS x (some 2) none) "/").1 && (Txt.split (Txt.partition (cutS x (some 2) none) "/").2.2 "/").all segP
def adrP (x : Str) : Bool := !decide (120 < (x.length : Int)) && Txt.startswith x "//" && pathP x
section
variable {P : Program} {w : World} {K : PySem.W.Frag} {mg : Str → Option Value} {base : Heap}
def sp__is_label : Sp := fun vs H Q _ => ∃ a : Str, vs = [.str a] ∧ a.length ≤ 1000 ∧ ∀ H', Same H H' → Q (.bl (labP a)) H'
theorem ok__is_label (T : Txt K mg) : FnOk P w K mg base CX0 2 T.a__is_label T.d__is_label ["text"] sp__is_label := by
  refine T.F__is_label.ok sc__is_label (fun vs H Q E h => ?_) (fun cdv A outer s H vs Q E hr h => ?_)
  · obtain ⟨a, rfl, _⟩ := h; rfl
  · obtain ⟨a, rfl, hl, q⟩ := h
    refine ⟨_, (pss_one (ps_ret (pe_and (pe_chain op_le op_le pe_int (pe_callB call_len_str (by rfl) T.z_len PySem.boot_len (pa_cons (pv 0) pa_nil)) pe_int) (pe_one (pe_call (ok_consists_of T) (hr.mono (by decide)) (by rfl) T.g_consists_of T.F_consists_of.kp T.b_consists_of .nil pass0 (pa_cons (pv 0) (pa_cons (pe_glob (v := .str "abcdefghijklmnopqrstuvwxyz0123456789") (by rfl) T.c_LABEL_SIGNS ⟨_, rfl⟩) pa_nil))))))), ?_⟩
    have hz : a.length ≤ sizeLine := by rw [sizeLine_eq]; omega
    refine ⟨_, rfl, a, rfl, hz, _, _, rfl, rfl, _, rfl, ?_⟩
    unfold labP at q
    cases c1 : decide (1 ≤ (a.length : Int)) with
    | false =>
      rw [c1] at q
      refine iteF ?_
      exact ⟨_, rfl, iteF (q H (Same.refl H))⟩
    | true =>
      rw [c1] at q
      refine iteT ?_
      refine ⟨_, _, rfl, rfl, _, rfl, ?_⟩
      cases c2 : decide ((a.length : Int) ≤ 10) with
      | false =>
        rw [c2] at q
        exact iteF (q H (Same.refl H))
      | true =>
        rw [c2] at q
        refine iteT ?_
        exact ⟨_, rfl, a, lsig, rfl, hl, fun H1 s1 => q H1 s1⟩
def sp__is_segment : Sp := fun vs H Q _ => ∃ a : Str, vs = [.str a] ∧ a.length ≤ 1000 ∧ ∀ H', Same H H' → Q (.bl (segP a)) H'
theorem ok__is_segment (T : Txt K mg) : FnOk P w K mg base CX0 2 T.a__is_segment T.d__is_segment ["text"] sp__is_segment := by
  refine T.F__is_segment.ok sc__is_segment (fun vs H Q E h => ?_) (fun cdv A outer s H vs Q E hr h => ?_)
  · obtain ⟨a, rfl, _⟩ := h; rfl
  · obtain ⟨a, rfl, hl, q⟩ := h
    refine ⟨_, (pss_one (ps_ret (pe_and (pe_cmpR op_le (pe_callB call_len_str (by rfl) T.z_len PySem.boot_len (pa_cons (pv 0) pa_nil)) pe_int (nomark _)) (pe_and (pe_cmpR op_notIn_seq (pv 0) (pe_glob (v := .ref T.r_DOTS) (by rfl) T.c_DOTS rfl) (by with_unfolding_all rfl)) (pe_one (pe_call (ok_consists_of T) (hr.mono (by decide)) (by rfl) T.g_consists_of T.F_consists_of.kp T.b_consists_of .nil pass0 (pa_cons (pv 0) (pa_cons (pe_glob (v := .str "abcdefghijklmnopqrstuvwxyzABCDEFGHIJKLMNOPQRSTUVWXYZ0123456789-_.") (by rfl) T.c_SEGMENT_SIGNS ⟨_, rfl⟩) pa_nil)))))))), ?_⟩
    have hz : a.length ≤ sizeLine := by rw [sizeLine_eq]; omega
    unfold segP at q
    refine ⟨_, rfl, a, rfl, hz, _, _, rfl, rfl, _, rfl, ?_⟩
    cases c1 : decide ((a.length : Int) ≤ 20) with
    | false =>
      rw [c1] at q
      exact iteF (q H (Same.refl H))
    | true =>
      rw [c1] at q
      refine iteT ?_
      refine ⟨_, rfl, T.r_DOTS, [.str ".", .str ".."], rfl, .inr (T.e_DOTS H), rfl, (by decide +kernel), _, rfl, ?_⟩
      rw [if_pos rfl]
      have e : inV (.str a) [.str ".", .str ".."] = dotP a := rfl
      rw [e]
      cases c2 : dotP a with
      | true =>
        rw [c2] at q
        exact iteF (q H (Same.refl H))
      | false =>
        rw [c2] at q
        refine iteT ?_
        exact ⟨_, rfl, a, ssig, rfl, hl, fun H1 s1 => q H1 s1⟩
/-- the truth of each of a list of texts, told by a def -/
theorem all_id (f : Str → Bool) (l : List Str) : (l.map f).all id = l.all f := by
  rw [List.all_map]; rfl
def sp__is_host : Sp := fun vs H Q _ => ∃ a : Str, vs = [.str a] ∧ a.length ≤ 500 ∧ ∀ H', Same H H' → Q (.bl (hostP a)) H'
theorem ok__is_host (T : Txt K mg) : FnOk P w K mg base CX0 3 T.a__is_host T.d__is_host ["text"] sp__is_host := by
  refine T.F__is_host.ok sc__is_host (fun vs H Q E h => ?_) (fun cdv A outer s H vs Q E hr h => ?_)
  · obtain ⟨a, rfl, _⟩ := h; rfl
  · obtain ⟨a, rfl, hl, q⟩ := h
    refine ⟨_, (pss_cons (ps_set (i := 1) sc__is_host.nd rfl (by first | exact Or.inl rfl | exact Or.inr rfl) (pe_split (pv 0) pe_str))
        (pss_one (ps_ret (pe_and (pe_cmpR op_le (pe_callB call_len_seq (by rfl) T.z_len PySem.boot_len (pa_cons (pv 1) pa_nil)) pe_int (nomark _)) (pe_one (pe_callB (cr_all (by rfl)) (by rfl) T.z_all (by decide +kernel) (pa_cons (pe_lc (own := [("label", 2)]) (g := gName 2) (by rfl) sc__is_host.nd (pi_list (pv 1)) (blkOk_by (own := [("label", 2)]) (N := ["text", "labels", "label"]) (sc := defScope s__is_host) (by decide +kernel)) (fun _ _ _ _ _ => pg_name (i := 2) sc__is_host.nd rfl (Or.inl rfl)) (fun _ _ _ _ _ => pts_nil) (fun _ _ _ _ _ => (pe_call (ok__is_label T) (hr.mono (by decide)) (by rfl) T.g__is_label T.F__is_label.kp T.b__is_label .nil pass0 (pa_cons (pv 2) pa_nil)))) pa_nil))))))), ?_⟩
    obtain ⟨hx, hn⟩ := Tx.split_len (x := a) (y := ".") (by decide +kernel) (by decide +kernel)
    unfold hostP at q
    refine ⟨_, rfl, ⟨_, rfl⟩, a, ".", rfl, rfl, (by decide +kernel), (by rw [sizeLine_eq]; omega), fun p np => ?_⟩
    have sp := same_new (o := .lst ((Txt.split a ".").map V.str)) np
    generalize Txt.split a "." = ys at *
    refine ⟨_, rfl, p, _, rfl, .inl (SqL.of upd_same), _, _, rfl, rfl, _, rfl, ?_⟩
    rw [List.length_map]
    cases c1 : decide ((ys.length : Int) ≤ 3) with
    | false =>
      rw [c1] at q
      exact iteF (q _ sp)
    | true =>
      rw [c1] at q
      refine iteT ?_
      refine ⟨_, rfl, p, rfl, ⟨_, SqL.of upd_same⟩, fun D nD => ?_⟩
      have neD : p ≠ D := fun z => by rw [← z, upd_same] at nD; cases nD
      refine lc_list (xs := ys.map V.str) (fun i H' => H' D = some (.lst (((ys.take i).map labP).map V.bl)) ∧ ∀ b o, b ≠ D → upd H p (.lst (ys.map V.str)) b = some o → H' b = some o)
        ⟨upd_same, fun b o nb e => by rw [upd_ne nb]; exact e⟩ ?_ ?_ ?_
      · rintro i H' _ ⟨_, k⟩
        exact SqL.of (k p _ neD upd_same)
      · rintro i x H1 hx1 ⟨hD, k⟩
        rw [List.getElem?_map] at hx1
        obtain ⟨y, hy, rfl⟩ := Option.map_eq_some_iff.mp hx1
        have my := List.mem_of_getElem? hy
        have ly := hx y my
        refine ⟨rfl, ?_⟩
        refine ⟨_, rfl, y, rfl, by omega, fun H3 s3 => ⟨_, s3 _ _ hD, ?_, ?_, ?_⟩⟩
        · rw [List.length_map, List.length_map, List.length_take, sizeLine_eq]
          omega
        · rw [upd_same, List.take_add_one, hy, List.map_append, List.map_append]; rfl
        · intro b o nb e
          rw [upd_ne nb]
          exact s3 _ _ (k b o nb e)
      · rintro H1 ⟨hD, k⟩
        rw [List.length_map, List.take_length] at hD
        refine ⟨D, ys.map labP, rfl, SqL.of hD, ?_⟩
        rw [all_id]
        refine q _ fun b o e => ?_
        have e1 := sp b o e
        exact k b o (fun z => by rw [z, nD] at e1; cases e1) e1
end
end Toy
set_option Elab.async false
set_option linter.all false
set_option maxRecDepth 100000
set_option maxHeartbeats 4000000
namespace Toy
open PySem PySem.Spec PyProof.Rows L2 Tx TL
def adrV : V → Bool
  | .str a => adrP a
  | _ => false
/-- a thing that is no text of more than 500 signs -/
def Sml : V → Prop
  | .str a => a.length ≤ 500
  | _ => True
theorem Thg.nstr {d : Addr} {H : Hp} {v : V} {s : String} (h : Thg d H v s) : (s == "str") = false ∨ ∃ a, v = .str a ∧ (s == "str") = true := by
  cases h <;> first | exact .inl (by decide) | exact .inr ⟨_, rfl, by decide⟩
theorem Thg.nadr {d : Addr} {H : Hp} {v : V} {s : String} (h : Thg d H v s) (e : (s == "str") = false) : adrV v = false := by
  cases h <;> first | rfl | exact absurd e (by decide)
section
variable {P : Program} {w : World} {K : PySem.W.Frag} {mg : Str → Option Value} {base : Heap}
def sp_is_address : Sp := fun vs H Q _ => ∃ (d : Addr) (v : V) (k : String), vs = [v] ∧ Thg d H v k ∧ Sml v ∧ ∀ H', Same H H' → Q (.bl (adrV v)) H'
theorem ok_is_address (T : Txt K mg) : FnOk P w K mg base CX0 4 T.a_is_address T.d_is_address ["value"] sp_is_address := by
  refine T.F_is_address.ok sc_is_address (fun vs H Q E h => ?_) (fun cdv A outer s H vs Q E hr h => ?_)
  · obtain ⟨d, v, k, rfl, _⟩ := h; rfl
  · obtain ⟨d, v, k, rfl, ht, sm, q⟩ := h
    refine ⟨_, (pss_cons (ps_if (PW.pt (pw_or (pt_not (pt_val (pe_callB call_isi (by rfl) T.z_isinstance (by decide +kernel) (pa_cons (pv 0) (pa_cons (pe_bltn (v := .ty "str") (by rfl) T.z_str (by decide +kernel) rfl) pa_nil))))) (pw_or (pt_cmpR op_gt (pe_callB call_len_str (by rfl) T.z_len PySem.boot_len (pa_cons (pv 0) pa_nil)) pe_int (nomark _)) (pw_or1 (pt_not (pt_val (pe_m1 F.slot_str_startswith F.type_str_startswith mt_startswith (pv 0) pe_str))))))) (pss_one (ps_ret pe_bl)) pss_nil)
        (pss_cons (ps_asg (pe_partition (pe_slice sl_str (pv 0) (po_some pe_int) po_none) pe_str) (pg_tup rfl (pgs_cons (pg_name (i := 1) sc_is_address.nd rfl (Or.inl rfl)) (pgs_cons (pg_name (i := 2) sc_is_address.nd rfl (Or.inl rfl)) (pgs_cons (pg_name (i := 3) sc_is_address.nd rfl (Or.inl rfl)) pgs_nil)))))
        (pss_one (ps_ret (pe_and (pe_cmpR op_eq (pv 2) pe_str (nomark _)) (pe_and (pe_call (ok__is_host T) (hr.mono (by decide)) (by rfl) T.g__is_host T.F__is_host.kp T.b__is_host .nil pass0 (pa_cons (pv 1) pa_nil)) (pe_one (pe_callB (cr_all (by rfl)) (by rfl) T.z_all (by decide +kernel) (pa_cons (pe_lc (own := [("segment", 4)]) (g := gName 4) (by rfl) sc_is_address.nd (pi_list (pe_split (pv 3) pe_str)) (blkOk_by (own := [("segment", 4)]) (N := ["value", "host", "slash", "path", "segment"]) (sc := defScope s_is_address) (by decide +kernel)) (fun _ _ _ _ _ => pg_name (i := 4) sc_is_address.nd rfl (Or.inl rfl)) (fun _ _ _ _ _ => pts_nil) (fun _ _ _ _ _ => (pe_call (ok__is_segment T) (hr.mono (by decide)) (by rfl) T.g__is_segment T.F__is_segment.kp T.b__is_segment .nil pass0 (pa_cons (pv 4) pa_nil)))) pa_nil))))))))), ?_⟩
    refine ⟨_, rfl, v, _, _, _, _, rfl, .ty "str", ht.ty, ht.k_str, _, rfl, ?_⟩
    rcases ht.nstr with ek | ⟨a, rfl, ek⟩
    · rw [ek]
      rw [ht.nadr ek] at q
      refine iteT ?_
      exact q H (Same.refl H)
    · rw [ek]
      refine iteF ?_
      have hl : a.length ≤ 500 := sm
      have hz : a.length ≤ sizeLine := by rw [sizeLine_eq]; omega
      have q : ∀ H', Same H H' → Q (.bl (adrP a)) H' := q
      unfold adrP at q
      refine ⟨_, rfl, a, rfl, hz, _, _, rfl, rfl, _, rfl, ?_⟩
      cases c1 : decide (120 < (a.length : Int)) with
      | true =>
        rw [c1] at q
        exact iteT (q H (Same.refl H))
      | false =>
        rw [c1] at q
        refine iteF ?_
        cases c2 : Txt.startswith a "//" with
        | false =>
          rw [c2] at q
          refine ⟨_, rfl, ⟨_, rfl⟩, a, "//", rfl, rfl, _, rfl, ?_⟩
          rw [c2]
          exact iteT (q H (Same.refl H))
        | true =>
          rw [c2] at q
          refine ⟨_, rfl, ⟨_, rfl⟩, a, "//", rfl, rfl, _, rfl, ?_⟩
          rw [c2]
          refine iteF ?_
          have q : ∀ H', Same H H' → Q (.bl (pathP a)) H' := q
          unfold pathP at q
          have lc := cutS_length a (some 2) none
          refine ⟨_, rfl, 2, rfl, ?_⟩
          dsimp only [tNoPart]
          refine ⟨a, rfl, hz, ⟨_, rfl⟩, _, "/", rfl, rfl, (by decide +kernel), (by rw [sizeLine_eq]; omega), fun p1 np1 => ?_⟩
          generalize cutS a (some 2) none = b at *
          obtain ⟨l1, l2⟩ := Tx.partition_len (x := b) (y := "/") (by decide +kernel)
          have s1 := same_new (o := .tup [.str (Txt.partition b "/").1, .str (Txt.partition b "/").2.1, .str (Txt.partition b "/").2.2]) np1
          refine ⟨p1, _, rfl, SqT.of upd_same, rfl, _, _, rfl, _, _, rfl, _, _, rfl, rfl, ?_⟩
          generalize upd H p1 (.tup [.str (Txt.partition b "/").1, .str (Txt.partition b "/").2.1, .str (Txt.partition b "/").2.2]) = H1 at *
          generalize (Txt.partition b "/").1 = host at *
          generalize (Txt.partition b "/").2.1 = mk at *
          generalize (Txt.partition b "/").2.2 = path at *
          refine ⟨_, rfl, rfl, _, rfl, ?_⟩
          have em : decide (V.str mk = V.str "/") = decide (mk = "/") := by
            rw [Bool.eq_iff_iff]
            simp only [decide_eq_true_eq]
            exact ⟨fun h => V.str.inj h, fun h => by rw [h]⟩
          rw [em]
          cases c3 : decide (mk = "/") with
          | false =>
            rw [c3] at q
            exact iteF (q _ s1)
          | true =>
            rw [c3] at q
            refine iteT ?_
            refine ⟨_, rfl, host, rfl, by omega, fun H2 s2 => ⟨_, rfl, ?_⟩⟩
            cases c4 : hostP host with
            | false =>
              rw [c4] at q
              exact iteF (q _ (s1.trans s2))
            | true =>
              rw [c4] at q
              refine iteT ?_
              obtain ⟨hx, hn⟩ := Tx.split_len (x := path) (y := "/") (by decide +kernel) (by decide +kernel)
              refine ⟨_, rfl, ⟨_, rfl⟩, path, "/", rfl, rfl, (by decide +kernel), (by rw [sizeLine_eq]; omega), fun p np => ?_⟩
              have sp := same_new (o := .lst ((Txt.split path "/").map V.str)) np
              generalize Txt.split path "/" = ys at *
              refine ⟨p, rfl, ⟨_, SqL.of upd_same⟩, fun D nD => ?_⟩
              have neD : p ≠ D := fun z => by rw [← z, upd_same] at nD; cases nD
              refine lc_list (xs := ys.map V.str) (fun i H' => H' D = some (.lst (((ys.take i).map segP).map V.bl)) ∧ ∀ b o, b ≠ D → upd H2 p (.lst (ys.map V.str)) b = some o → H' b = some o)
                ⟨upd_same, fun b o nb e => by rw [upd_ne nb]; exact e⟩ ?_ ?_ ?_
              · rintro i H' _ ⟨_, k⟩
                exact SqL.of (k p _ neD upd_same)
              · rintro i x H1 hx1 ⟨hD, k⟩
                rw [List.getElem?_map] at hx1
                obtain ⟨y, hy, rfl⟩ := Option.map_eq_some_iff.mp hx1
                have my := List.mem_of_getElem? hy
                have ly := hx y my
                refine ⟨rfl, ?_⟩
                refine ⟨_, rfl, y, rfl, by omega, fun H3 s3 => ⟨_, s3 _ _ hD, ?_, ?_, ?_⟩⟩
                · rw [List.length_map, List.length_map, List.length_take, sizeLine_eq]
                  omega
                · rw [upd_same, List.take_add_one, hy, List.map_append, List.map_append]; rfl
                · intro b o nb e
                  rw [upd_ne nb]
                  exact s3 _ _ (k b o nb e)
              · rintro H3 ⟨hD, k⟩
                rw [List.length_map, List.take_length] at hD
                refine ⟨D, ys.map segP, rfl, SqL.of hD, ?_⟩
                rw [all_id]
                refine q _ ((s1.trans s2).trans fun b o e => ?_)
                have e1 := sp b o e
                exact k b o (fun z => by rw [z, nD] at e1; cases e1) e1
end
end Toy
set_option Elab.async false
set_option linter.all false
set_option maxRecDepth 100000
set_option maxHeartbeats 4000000
namespace Toy
open PySem PySem.Spec PyProof.Rows L2 Tx TL
def ch (c : Nat) : Str := ⟨#[c]⟩
def badI (b a : Str) : List Nat := a.cps.toList.filter fun c => !decide (c ∈ b.cps.toList)
theorem bad_nil {b a : Str} : (badI b a).isEmpty = allIn b a := by
  unfold badI allIn
  rw [Bool.eq_iff_iff, List.isEmpty_iff, List.filter_eq_nil_iff, List.all_eq_true]
  constructor
  · intro h c hc
    have := h c hc
    simpa using this
  · intro h c hc
    have := h c hc
    simpa using this
theorem filt_in {b : Str} {c : Nat} (d : decide (c ∈ b.cps.toList) = true) : [c].filter (fun c => !decide (c ∈ b.cps.toList)) = [] := by
  rw [List.filter_cons_of_neg (by rw [d]; decide)]; rfl
theorem filt_out {b : Str} {c : Nat} (d : decide (c ∈ b.cps.toList) = false) : [c].filter (fun c => !decide (c ∈ b.cps.toList)) = [c] := by
  rw [List.filter_cons_of_pos (by rw [d]; rfl)]; rfl
def lc1 (c : Nat) : Nat := if 65 ≤ c ∧ c ≤ 90 then c + 32 else c
theorem low1 {c : Nat} (h : c < 128) : Txt.lower ⟨#[c]⟩ = ⟨#[lc1 c]⟩ := by
  have := (by decide +kernel : ∀ c : Fin 128, Txt.lower ⟨#[c.val]⟩ = ⟨#[lc1 c.val]⟩) ⟨c, h⟩
  exact this
def letS : Str := "abcdefghijklmnopqrstuvwxyz"
def digS : Str := "0123456789-_."
theorem seg_sign {c : Nat} (h : c < 128) : (if (!decide (lc1 c ∈ letS.cps.toList)) = true then !decide (c ∈ digS.cps.toList) else false) = !decide (c ∈ ssig.cps.toList) := by
  have := (by decide +kernel : ∀ c : Fin 128, (if (!decide (lc1 c.val ∈ letS.cps.toList)) = true then !decide (c.val ∈ digS.cps.toList) else false) = !decide (c.val ∈ ssig.cps.toList)) ⟨c, h⟩
  exact this
theorem take_next {a : Str} {i c : Nat} (hc : a.cps[i]? = some c) : a.cps.toList.take (i + 1) = a.cps.toList.take i ++ [c] := by
  rw [List.take_add_one]
  have : a.cps.toList[i]? = some c := by simpa using hc
  rw [this]
  rfl
theorem badI_len (b a : Str) (i : Nat) : ((a.cps.toList.take i).filter fun c => !decide (c ∈ b.cps.toList)).length ≤ a.length := by
  have := List.length_filter_le (fun c => !decide (c ∈ b.cps.toList)) (a.cps.toList.take i)
  rw [List.length_take] at this
  have : a.cps.toList.length = a.length := by simp [Str.length]
  omega
section
variable {P : Program} {w : World} {K : PySem.W.Frag} {mg : Str → Option Value} {base : Heap}
theorem all_take {f : Str → Bool} {ys : List Str} {i : Nat} {y : Str} (hy : ys[i]? = some y) : (ys.take (i + 1)).all f = ((ys.take i).all f && f y) := by
  rw [List.take_add_one, hy, List.all_append]
  simp
theorem all_false {f : Str → Bool} {ys : List Str} {y : Str} (m : y ∈ ys) (h : f y = false) : ys.all f = false := by
  cases e : ys.all f with
  | false => rfl
  | true => rw [List.all_eq_true.mp e y m] at h; cases h
def sp__law_host_right : Sp := fun vs H Q _ => ∃ a : Str, vs = [.str a] ∧ a.length ≤ 500 ∧ ∀ H', Same H H' → Q (.bl (hostP a)) H'
theorem ok__law_host_right (T : Txt K mg) : FnOk P w K mg base CX0 1 T.a__law_host_right T.d__law_host_right ["host"] sp__law_host_right := by
  refine T.F__law_host_right.ok sc__law_host_right (fun vs H Q E h => ?_) (fun cdv A outer s H vs Q E hr h => ?_)
  · obtain ⟨a, rfl, _⟩ := h; rfl
  · obtain ⟨a, rfl, hl, q⟩ := h
    refine ⟨_, (pss_cons (ps_set (i := 1) sc__law_host_right.nd rfl (by first | exact Or.inl rfl | exact Or.inr rfl) (pe_split (pv 0) pe_str))
        (pss_cons (ps_for PassesOwn.never rfl (pi_list (pv 1)) (pg_name (i := 2) sc__law_host_right.nd rfl (Or.inl rfl)) (pss_cons (ps_setLc (i := 3) (own := [("sign", 4)]) (g := gName 4) (tt := tTest (tOp (fun x y H Q => ∃ (c : Nat) (z : Str), x = V.str ⟨#[c]⟩ ∧ y = V.str z ∧ Q (V.bl (!decide (c ∈ z.cps.toList))) H) (tVar 4) (tC (V.str "abcdefghijklmnopqrstuvwxyz0123456789")))) (by rfl) sc__law_host_right.nd rfl rfl (by rfl) (pi_str (pv 2)) (blkOk_by (own := [("sign", 4)]) (N := ["host", "labels", "label", "wrong", "sign"]) (sc := defScope s__law_host_right) (by decide +kernel)) (fun _ _ _ _ _ => pg_name (i := 4) sc__law_host_right.nd rfl (Or.inl rfl)) (fun _ _ _ _ _ => (pts_one (pt_cmpR op_notIn_sign (pv 4) pe_str (by with_unfolding_all rfl)))) (fun _ _ _ _ _ => (pv 4)))
        (pss_one (ps_if (PW.pt (pw_or (pt_not (pt_chain op_le op_le pe_int (pe_callB call_len_str (by rfl) T.z_len PySem.boot_len (pa_cons (pv 2) pa_nil)) pe_int)) (pw_or1 (pt_cmpR (Vz.op_neNil (by have := hr.units; exact this)) (pv 3) (pe_lst pa_nil) (nomark _))))) (pss_one (ps_ret pe_bl)) pss_nil))))
        (pss_one (ps_ret (pe_cmpR op_le (pe_callB call_len_seq (by rfl) T.z_len PySem.boot_len (pa_cons (pv 1) pa_nil)) pe_int (nomark _)))))), ?_⟩
    obtain ⟨hx, hn⟩ := Tx.split_len (x := a) (y := ".") (by decide +kernel) (by decide +kernel)
    unfold hostP at q
    refine ⟨_, rfl, ⟨_, rfl⟩, a, ".", rfl, rfl, (by decide +kernel), (by rw [sizeLine_eq]; omega), fun p np => ?_⟩
    have sp := same_new (o := .lst ((Txt.split a ".").map V.str)) np
    generalize Txt.split a "." = ys at *
    have hp := upd_same (H := H) (a := p) (o := .lst (ys.map V.str))
    generalize upd H p (.lst (ys.map V.str)) = H1 at *
    refine ⟨_, rfl, p, rfl, ⟨_, SqL.of hp⟩, ?_⟩
    refine for_list (xs := ys.map V.str) (fun i σ H' => ∃ x2 x3 : Option V, σ = [some (.str a), some (.ref p), x2, x3, none] ∧ Same H1 H' ∧ (ys.take i).all labP = true) ⟨none, none, rfl, fun _ _ e => e, rfl⟩ ?_ ?_ ?_
    · rintro i σ H' _ ⟨x2, x3, _, e, _⟩
      exact SqL.of (e _ _ hp)
    · rintro i x σ H2 hx2 ⟨x2, x3, rfl, s2, al⟩
      rw [List.getElem?_map] at hx2
      obtain ⟨y, hy, rfl⟩ := Option.map_eq_some_iff.mp hx2
      have my := List.mem_of_getElem? hy
      have ly := hx y my
      have lz : y.length ≤ sizeLine := by rw [sizeLine_eq]; omega
      refine ⟨_, rfl, y, rfl, fun D nD => ?_⟩
      refine lc_it (g := gName 4) (te := tVar 4) (tt := tTest (tOp (fun x y H Q => ∃ (c : Nat) (z : Str), x = V.str ⟨#[c]⟩ ∧ y = V.str z ∧ Q (V.bl (!decide (c ∈ z.cps.toList))) H) (tVar 4) (tC (V.str "abcdefghijklmnopqrstuvwxyz0123456789")))) walk_str
        (fun i H' => H' = upd H2 D (.lst (((y.cps.toList.take i).filter fun c => !decide (c ∈ lsig.cps.toList)).map fun c => V.str (ch c)))) rfl (fun _ _ _ _ => trivial) ?_ ?_
      · rintro j x H3 H4 hj rfl ⟨rfl, c, hc, rfl⟩
        refine ⟨rfl, ?_⟩
        refine ⟨_, rfl, c, lsig, rfl, rfl, _, rfl, ?_⟩
        cases d : decide (c ∈ lsig.cps.toList) with
        | true =>
          refine ite2 (fun z => nomatch z) (fun _ => ?_)
          show upd H2 D _ = upd H2 D _
          rw [take_next hc, List.filter_append, filt_in d, List.append_nil]
        | false =>
          refine ite2 (fun _ => ?_) (fun z => absurd rfl z)
          refine ⟨_, rfl, _, upd_same, ?_, ?_⟩
          · rw [List.length_map, sizeLine_eq]
            have := badI_len lsig y j
            omega
          · rw [take_next hc, List.filter_append, List.map_append]
            rw [filt_out d]
            funext b'
            by_cases e : b' = D
            · subst e; rw [upd_same, upd_same]; rfl
            · rw [upd_ne e, upd_ne e, upd_ne e]
      rintro H3 rfl
      have ht : y.cps.toList.take y.cps.size = y.cps.toList := by
        rw [List.take_of_length_le]; simp
      rw [ht]
      have sD := same_new (o := .lst ((badI lsig y).map fun c => V.str (ch c))) nD
      have gD := upd_same (H := H2) (a := D) (o := .lst ((badI lsig y).map fun c => V.str (ch c)))
      have eb : (y.cps.toList.filter fun c => !decide (c ∈ lsig.cps.toList)) = badI lsig y := rfl
      rw [eb]
      generalize upd H2 D (.lst ((badI lsig y).map fun c => V.str (ch c))) = H3 at *
      dsimp only [gName]
      have out : labP y = false → ∀ H4, Same H3 H4 → Q (.bl false) H4 := fun e H4 s4 => by
        have := q H4 (((sp.trans s2).trans sD).trans s4)
        rw [all_false my e, Bool.and_false] at this
        exact this
      have yes : labP y = true → (ys.take (i + 1)).all labP = true := fun e => by rw [all_take hy, al, e]; rfl
      unfold labP at out yes
      refine ⟨_, rfl, y, rfl, lz, _, _, rfl, rfl, _, rfl, ?_⟩
      cases c1 : decide (1 ≤ (y.length : Int)) with
      | false =>
        refine iteF ?_
        refine ⟨_, rfl, iteT ?_⟩
        exact out (by rw [c1]; rfl) H3 (Same.refl _)
      | true =>
        refine iteT ?_
        refine ⟨_, _, rfl, rfl, _, rfl, ?_⟩
        cases c2 : decide ((y.length : Int) ≤ 10) with
        | false =>
          refine iteT ?_
          exact out (by rw [c1, c2]; rfl) H3 (Same.refl _)
        | true =>
          refine iteF ?_
          refine ⟨_, rfl, (by show 0 ≤ sizeLine; decide), fun p4 n4 => ?_⟩
          have s4 := same_new (o := .lst []) n4
          refine ⟨D, p4, _, rfl, rfl, SqL.of (s4 _ _ gD), SqL.of upd_same, _, rfl, ?_⟩
          have eB : ((badI lsig y).map fun c => V.str (ch c)).isEmpty = allIn lsig y := by
            rw [← bad_nil]
            cases badI lsig y <;> rfl
          rw [eB]
          cases c3 : allIn lsig y with
          | false =>
            refine iteT ?_
            exact out (by rw [c1, c2, c3]; rfl) _ s4
          | true =>
            refine iteF ?_
            exact ⟨_, _, rfl, (s2.trans sD).trans s4, yes (by rw [c1, c2, c3]; rfl)⟩
    · rintro σ H2 ⟨x2, x3, rfl, s2, al⟩
      rw [List.length_map, List.take_length] at al
      refine ⟨_, rfl, p, _, rfl, .inl (SqL.of (s2 _ _ hp)), _, _, rfl, rfl, ?_⟩
      rw [List.length_map]
      have := q H2 (sp.trans s2)
      rw [al, Bool.and_true] at this
      exact this
def sp__law_segments_right (K : PySem.W.Frag) : Sp := fun vs H Q _ => ∃ (p : Addr) (ys : List Str), vs = [.ref p] ∧ H p = some (.lst (ys.map V.str)) ∧ (∀ y ∈ ys, y.length ≤ 500 ∧ asc (tl y)) ∧ ∀ H', Same H H' → Q (.bl (ys.all segP)) H'
theorem ok__law_segments_right (T : Txt K mg) : FnOk P w K mg base CX0 1 T.a__law_segments_right T.d__law_segments_right ["segments"] (sp__law_segments_right K) := by
  refine T.F__law_segments_right.ok sc__law_segments_right (fun vs H Q E h => ?_) (fun cdv A outer s H vs Q E hr h => ?_)
  · obtain ⟨p, ys, rfl, _⟩ := h; rfl
  · obtain ⟨p, ys, rfl, hp, hx, q⟩ := h
    refine ⟨_, (pss_cons (ps_set (i := 1) sc__law_segments_right.nd rfl (by first | exact Or.inl rfl | exact Or.inr rfl) pe_str)
        (pss_cons (ps_for PassesOwn.never rfl (pi_list (pv 0)) (pg_name (i := 2) sc__law_segments_right.nd rfl (Or.inl rfl)) (pss_cons (ps_setLc (i := 3) (own := [("sign", 4)]) (g := gName 4) (by rfl) sc__law_segments_right.nd rfl rfl (by rfl) (pi_str (pv 2)) (blkOk_by (own := [("sign", 4)]) (N := ["segments", "letters", "part", "wrong", "sign"]) (sc := defScope s__law_segments_right) (by decide +kernel)) (fun _ _ _ _ _ => pg_name (i := 4) sc__law_segments_right.nd rfl (Or.inl rfl)) (fun _ _ _ _ _ => (pts_one (PW.pt (pw_and (pt_cmpR op_notIn_sign (pe_lower (pv 4)) (pv 1) (by with_unfolding_all rfl)) (pw_and1 (pt_cmpR op_notIn_sign (pv 4) pe_str (by with_unfolding_all rfl))))))) (fun _ _ _ _ _ => (pv 4)))
        (pss_one (ps_if (PW.pt (pw_or (pt_cmpR op_gt (pe_callB call_len_str (by rfl) T.z_len PySem.boot_len (pa_cons (pv 2) pa_nil)) pe_int (nomark _)) (pw_or (pt_cmpR op_in_seq (pv 2) (pe_tup (pa_cons pe_str (pa_cons pe_str pa_nil))) (by with_unfolding_all rfl)) (pw_or1 (pt_cmpR (Vz.op_neNil (by have := hr.units; exact this)) (pv 3) (pe_lst pa_nil) (nomark _)))))) (pss_one (ps_ret pe_bl)) pss_nil))))
        (pss_one (ps_ret pe_bl)))), ?_⟩
    refine ⟨_, rfl, p, rfl, ⟨_, SqL.of hp⟩, ?_⟩
    refine for_list (xs := ys.map V.str) (fun i σ H' => ∃ x2 x3 : Option V, σ = [some (.ref p), some (.str letS), x2, x3, none] ∧ Same H H' ∧ (ys.take i).all segP = true) ⟨none, none, rfl, fun _ _ e => e, rfl⟩ ?_ ?_ ?_
    · rintro i σ H' _ ⟨x2, x3, _, e, _⟩
      exact SqL.of (e _ _ hp)
    · rintro i x σ H2 hx2 ⟨x2, x3, rfl, s2, al⟩
      rw [List.getElem?_map] at hx2
      obtain ⟨y, hy, rfl⟩ := Option.map_eq_some_iff.mp hx2
      have my := List.mem_of_getElem? hy
      obtain ⟨ly, ay⟩ := hx y my
      have lz : y.length ≤ sizeLine := by rw [sizeLine_eq]; omega
      refine ⟨_, rfl, y, rfl, fun D nD => ?_⟩
      refine lc_it walk_str
        (fun i H' => H' = upd H2 D (.lst (((y.cps.toList.take i).filter fun c => !decide (c ∈ ssig.cps.toList)).map fun c => V.str (ch c)))) rfl (fun _ _ _ _ => trivial) ?_ ?_
      · rintro j x H3 H4 hj rfl ⟨rfl, c, hc, rfl⟩
        refine ⟨rfl, ?_⟩
        have c128 : c < 128 := ay c (by
          have : y.cps.toList[j]? = some c := by simpa using hc
          exact List.mem_of_getElem? this)
        have ss := seg_sign c128
        have sin : decide (c ∈ ssig.cps.toList) = true → upd H2 D (.lst (((y.cps.toList.take j).filter fun c => !decide (c ∈ ssig.cps.toList)).map fun c => V.str (ch c))) = upd H2 D (.lst (((y.cps.toList.take (j + 1)).filter fun c => !decide (c ∈ ssig.cps.toList)).map fun c => V.str (ch c))) := fun d => by
          rw [take_next hc, List.filter_append, filt_in d, List.append_nil]
        refine ⟨_, rfl, ⟨_, rfl⟩, ⟨#[c]⟩, rfl, rfl, (by show 1 ≤ 5592405; decide), _, rfl, lc1 c, letS, (by rw [low1 c128]), rfl, _, rfl, ?_⟩
        cases d1 : decide (lc1 c ∈ letS.cps.toList) with
        | true =>
          rw [d1] at ss
          refine iteF ?_
          refine iteF ?_
          refine sin ?_
          have ss : false = !decide (c ∈ ssig.cps.toList) := ss
          cases d : decide (c ∈ ssig.cps.toList) with
          | true => rfl
          | false => rw [d] at ss; cases ss
        | false =>
          rw [d1] at ss
          refine iteT ?_
          have ss : (!decide (c ∈ digS.cps.toList)) = !decide (c ∈ ssig.cps.toList) := ss
          refine ⟨_, rfl, c, digS, rfl, rfl, _, rfl, ?_⟩
          rw [ss]
          cases d : decide (c ∈ ssig.cps.toList) with
          | true =>
            refine iteF ?_
            exact sin d
          | false =>
            refine iteT ?_
            refine ⟨_, rfl, _, upd_same, ?_, ?_⟩
            · rw [List.length_map, sizeLine_eq]
              have := badI_len ssig y j
              omega
            · rw [take_next hc, List.filter_append, List.map_append, filt_out d]
              funext b'
              by_cases e : b' = D
              · subst e; rw [upd_same, upd_same]; rfl
              · rw [upd_ne e, upd_ne e, upd_ne e]
      rintro H3 rfl
      have ht : y.cps.toList.take y.cps.size = y.cps.toList := by
        rw [List.take_of_length_le]; simp
      rw [ht]
      have sD := same_new (o := .lst ((badI ssig y).map fun c => V.str (ch c))) nD
      have gD := upd_same (H := H2) (a := D) (o := .lst ((badI ssig y).map fun c => V.str (ch c)))
      have eb : (y.cps.toList.filter fun c => !decide (c ∈ ssig.cps.toList)) = badI ssig y := rfl
      rw [eb]
      generalize upd H2 D (.lst ((badI ssig y).map fun c => V.str (ch c))) = H3 at *
      dsimp only [gName]
      have out : segP y = false → ∀ H4, Same H3 H4 → Q (.bl false) H4 := fun e H4 s4 => by
        have := q H4 ((s2.trans sD).trans s4)
        rw [all_false my e] at this
        exact this
      have yes : segP y = true → (ys.take (i + 1)).all segP = true := fun e => by rw [all_take hy, al, e]; rfl
      unfold segP at out yes
      refine ⟨_, rfl, y, rfl, lz, _, _, rfl, rfl, _, rfl, ?_⟩
      have ege : decide ((20 : Int) < (y.length : Int)) = !decide ((y.length : Int) ≤ 20) := by
        rw [Bool.eq_iff_iff]; simp only [decide_eq_true_eq, Bool.not_eq_true', decide_eq_false_iff_not]; omega
      rw [ege]
      cases c1 : decide ((y.length : Int) ≤ 20) with
      | false =>
        refine iteT ?_
        exact out (by rw [c1]; rfl) H3 (Same.refl _)
      | true =>
        refine iteF ?_
        refine ⟨_, rfl, (by show 2 ≤ sizeLine; decide), fun p4 n4 => ?_⟩
        have s4 := same_new (o := .tup [.str ".", .str ".."]) n4
        refine ⟨p4, _, rfl, .inr (SqT.of upd_same), rfl, (by decide +kernel), _, rfl, ?_⟩
        rw [if_neg (by decide)]
        have ed : inV (.str y) [.str ".", .str ".."] = dotP y := rfl
        rw [ed]
        cases c2 : dotP y with
        | true =>
          refine iteT ?_
          exact out (by rw [c1, c2]; rfl) _ s4
        | false =>
          refine iteF ?_
          refine ⟨_, rfl, (by show 0 ≤ sizeLine; decide), fun p5 n5 => ?_⟩
          have s5 := same_new (o := .lst []) n5
          have s45 := s4.trans s5
          refine ⟨D, p5, _, rfl, rfl, SqL.of (s45 _ _ gD), SqL.of upd_same, _, rfl, ?_⟩
          have eB : ((badI ssig y).map fun c => V.str (ch c)).isEmpty = allIn ssig y := by
            rw [← bad_nil]
            cases badI ssig y <;> rfl
          rw [eB]
          cases c3 : allIn ssig y with
          | false =>
            refine iteT ?_
            exact out (by rw [c1, c2, c3]; rfl) _ s45
          | true =>
            refine iteF ?_
            exact ⟨_, _, rfl, (s2.trans sD).trans s45, yes (by rw [c1, c2, c3]; rfl)⟩
    · rintro σ H2 ⟨x2, x3, rfl, s2, al⟩
      rw [List.length_map, List.take_length] at al
      have := q H2 s2
      rw [al] at this
      exact this
end
end Toy
set_option Elab.async false
set_option linter.all false
set_option maxRecDepth 100000
set_option maxHeartbeats 8000000
namespace Toy
open PySem PySem.Spec PyProof.Rows L2 Tx TL
theorem tl_slash : tl ("/" : Str) = [47] := by decide +kernel
theorem part_at {h r : Str} (hn : 47 ∉ tl h) : Txt.partition (h ++ "/" ++ r) "/" = (h, ("/" : Str), r) := by
  rw [partition_par _ _ (by rw [tl_slash]; simp)]
  have e : tl (h ++ "/" ++ r) = tl h ++ ([47] ++ tl r) := by rw [tl_append, tl_append, tl_slash, List.append_assoc]
  have p := par_part1 (s := 47) (S := []) (p := tl h) (rest := tl r) (acc := []) hn
  rw [tl_slash, e]
  have p' : par [47] [] (tl h ++ ([47] ++ tl r)) = some ([] ++ tl h, tl r) := p
  rw [p', List.nil_append]
theorem cut_two_back {r : Str} : cutS ("//" ++ r) (some 2) none = r := by
  apply ext_tl
  have e1 : HT.sIx ("//" ++ r : Str).length 0 (some 2) = min 2 ("//" ++ r : Str).length := HT.sIx_nat ("//" ++ r : Str).length 0 2
  have l2 : ("//" : Str).length = 2 := by decide +kernel
  have ll : ("//" ++ r : Str).length = 2 + r.length := by rw [strLen_append, l2]
  have t2 : tl ("//" : Str) = [47, 47] := by decide +kernel
  show ((tl ("//" ++ r)).drop (HT.sIx ("//" ++ r : Str).length 0 (some 2))).take (HT.sIx ("//" ++ r : Str).length ("//" ++ r : Str).length none - HT.sIx ("//" ++ r : Str).length 0 (some 2)) = _
  rw [HT.sIx_none, e1, ll, Nat.min_eq_left (by omega), tl_append, t2]
  show (tl r).take _ = tl r
  rw [List.take_of_length_le]
  rw [← len_tl]; omega
theorem sw_two {r : Str} : Txt.startswith ("//" ++ r) "//" = true := by
  have t2 : tl ("//" : Str) = [47, 47] := by decide +kernel
  rw [sw_pre (by rw [t2]; simp), tl_append]
  exact pre_self _ _
/-- an address of such parts -/
def adrT (h : Str) (ws : List Str) : Str := "//" ++ h ++ "/" ++ Txt.join "/" ws
theorem str_assoc (a b c : Str) : a ++ b ++ c = a ++ (b ++ c) := by
  apply ext_tl
  simp only [tl_append, List.append_assoc]
theorem path_good {h : Str} {ws : List Str} (hn : 47 ∉ tl h) (hh : hostP h = true) (wn : ws ≠ []) (hw : ∀ x ∈ ws, 47 ∉ tl x ∧ segP x = true) : pathP (adrT h ws) = true := by
  have e : adrT h ws = "//" ++ (h ++ "/" ++ Txt.join "/" ws) := by
    unfold adrT
    rw [str_assoc "//" h "/", str_assoc "//" (h ++ "/") _]
  unfold pathP
  rw [e, cut_two_back, part_at hn]
  dsimp only
  rw [split_join tl_slash (by decide +kernel) wn fun p hp => (hw p hp).1, hh]
  rw [List.all_eq_true.mpr fun p hp => (hw p hp).2]
  rfl
theorem join_len {m : Nat} : ∀ {ws : List Str}, (∀ x ∈ ws, x.length ≤ m ∧ asc (tl x)) → (Str.join "/" ws).length ≤ (m + 1) * ws.length ∧ asc (tl (Str.join "/" ws))
  | [], _ => ⟨by show (0 : Nat) ≤ _; omega, fun c hc => nomatch hc⟩
  | [x], h => ⟨by have := (h x (by simp)).1; show x.length ≤ (m + 1) * 1; omega, (h x (by simp)).2⟩
  | x :: y :: r, h => by
    obtain ⟨a, b⟩ := join_len (ws := y :: r) fun z hz => h z (List.mem_cons_of_mem _ hz)
    obtain ⟨hx, ha⟩ := h x (by simp)
    have ej : Str.join "/" (x :: y :: r) = x ++ "/" ++ Str.join "/" (y :: r) := rfl
    have l1 : ("/" : Str).length = 1 := by decide +kernel
    rw [ej]
    refine ⟨?_, asc_app (asc_app ha (by rw [tl_slash]; intro c hc; rw [List.mem_singleton.mp hc]; decide)) b⟩
    rw [strLen_append, strLen_append, l1]
    simp only [List.length_cons, Nat.mul_add] at a ⊢
    omega
def wordS : List Str := ["", "a", "b", "a", "x.y", "...", "A-_9", "abcdefghijklmnopqrst", "old", "aa"]
def hostS : List Str := ["h", "b", "h.c", "a1.b2.c3", "abcdefghij", "0"]
theorem word_ok : ∀ x ∈ wordS, (x.length ≤ 20 ∧ asc (tl x)) ∧ 47 ∉ tl x ∧ segP x = true := by
  intro x hx
  have h := (by decide +kernel : ∀ x ∈ wordS, (decide (x.length ≤ 20) && ((tl x).all fun c => decide (c < 128)) && ((tl x).all fun c => c != 47) && segP x) = true) x hx
  simp only [Bool.and_eq_true, decide_eq_true_eq, List.all_eq_true, bne_iff_ne] at h
  exact ⟨⟨h.1.1.1, h.1.1.2⟩, fun m => h.1.2 47 m rfl, h.2⟩
theorem host_ok : ∀ x ∈ hostS, (x.length ≤ 10 ∧ asc (tl x)) ∧ 47 ∉ tl x ∧ hostP x = true := by
  intro x hx
  have h := (by decide +kernel : ∀ x ∈ hostS, (decide (x.length ≤ 10) && ((tl x).all fun c => decide (c < 128)) && ((tl x).all fun c => c != 47) && hostP x) = true) x hx
  simp only [Bool.and_eq_true, decide_eq_true_eq, List.all_eq_true, bne_iff_ne] at h
  exact ⟨⟨h.1.1.1, h.1.1.2⟩, fun m => h.1.2 47 m rfl, h.2⟩
theorem adr_good {h : Str} {ws : List Str} (hh : h ∈ hostS) (wn : ws ≠ []) (wl : ws.length ≤ 4) (hw : ∀ x ∈ ws, x ∈ wordS) : adrP (adrT h ws) = true ∧ (adrT h ws).length ≤ 97 ∧ asc (tl (adrT h ws)) := by
  obtain ⟨⟨a1, a2⟩, a3, a4⟩ := host_ok h hh
  obtain ⟨b1, b2⟩ := join_len (m := 20) (ws := ws) fun x hx => (word_ok x (hw x hx)).1
  have l1 : ("/" : Str).length = 1 := by decide +kernel
  have l2 : ("//" : Str).length = 2 := by decide +kernel
  have ll : (adrT h ws).length ≤ 97 := by
    unfold adrT
    rw [join_eq, strLen_append, strLen_append, strLen_append, l1, l2]
    omega
  refine ⟨?_, ll, ?_⟩
  · unfold adrP
    rw [path_good a3 a4 wn fun x hx => (word_ok x (hw x hx)).2]
    have e : adrT h ws = "//" ++ (h ++ "/" ++ Txt.join "/" ws) := by
      unfold adrT
      rw [str_assoc "//" h "/", str_assoc "//" (h ++ "/") _]
    rw [decide_eq_false (by omega), e, sw_two]
    rfl
  · unfold adrT
    rw [join_eq]
    refine asc_app (asc_app (asc_app (fun c hc => ?_) a2) (by rw [tl_slash]; intro c hc; rw [List.mem_singleton.mp hc]; decide)) b2
    have t2 : tl ("//" : Str) = [47, 47] := by decide +kernel
    rw [t2] at hc
    simp only [List.mem_cons, List.not_mem_nil, or_false] at hc
    omega
section
variable {P : Program} {w : World} {K : PySem.W.Frag} {mg : Str → Option Value} {base : Heap}
def Asc : V → Prop
  | .str a => asc (tl a)
  | _ => True
def sp__law_is_address : Sp := fun vs H Q _ => ∃ (d : Addr) (v : V) (k : String), vs = [v] ∧ Thg d H v k ∧ Sml v ∧ Asc v ∧ ∀ H', Same H H' → Q (.bl (adrV v)) H'
theorem ok__law_is_address (T : Txt K mg) : FnOk P w K mg base CX0 2 T.a__law_is_address T.d__law_is_address ["thing"] sp__law_is_address := by
  refine T.F__law_is_address.ok sc__law_is_address (fun vs H Q E h => ?_) (fun cdv A outer s H vs Q E hr h => ?_)
  · obtain ⟨d, v, k, rfl, _⟩ := h; rfl
  · obtain ⟨d, v, k, rfl, ht, sm, ha, q⟩ := h
    refine ⟨_, (pss_cons (ps_if (PW.pt (pw_or (pt_not (pt_val (pe_callB call_isi (by rfl) T.z_isinstance (by decide +kernel) (pa_cons (pv 0) (pa_cons (pe_bltn (v := .ty "str") (by rfl) T.z_str (by decide +kernel) rfl) pa_nil))))) (pw_or (pt_cmpR op_ne (pe_slice sl_str (pv 0) po_none (po_some pe_int)) pe_str (nomark _)) (pw_or1 (pt_cmpR op_gt (pe_callB call_len_str (by rfl) T.z_len PySem.boot_len (pa_cons (pv 0) pa_nil)) pe_int (nomark _)))))) (pss_one (ps_ret pe_bl)) pss_nil)
        (pss_cons (ps_asg (pe_partition (pe_slice sl_str (pv 0) (po_some pe_int) po_none) pe_str) (pg_tup rfl (pgs_cons (pg_name (i := 1) sc__law_is_address.nd rfl (Or.inl rfl)) (pgs_cons (pg_name (i := 2) sc__law_is_address.nd rfl (Or.inl rfl)) (pgs_cons (pg_name (i := 3) sc__law_is_address.nd rfl (Or.inl rfl)) pgs_nil)))))
        (pss_one (ps_ret (pe_and (pe_cmpR op_eq (pv 2) pe_str (nomark _)) (pe_and (pe_call (ok__law_host_right T) (hr.mono (by decide)) (by rfl) T.g__law_host_right T.F__law_host_right.kp T.b__law_host_right .nil pass0 (pa_cons (pv 1) pa_nil)) (pe_one (pe_call (ok__law_segments_right T) (hr.mono (by decide)) (by rfl) T.g__law_segments_right T.F__law_segments_right.kp T.b__law_segments_right .nil pass0 (pa_cons (pe_split (pv 3) pe_str) pa_nil))))))))), ?_⟩
    refine ⟨_, rfl, v, _, _, _, _, rfl, .ty "str", ht.ty, ht.k_str, _, rfl, ?_⟩
    rcases ht.nstr with ek | ⟨a, rfl, ek⟩
    · rw [ek]
      rw [ht.nadr ek] at q
      refine iteT ?_
      exact q H (Same.refl H)
    · rw [ek]
      refine iteF ?_
      have hl : a.length ≤ 500 := sm
      have ha : asc (tl a) := ha
      have hz : a.length ≤ sizeLine := by rw [sizeLine_eq]; omega
      have q : ∀ H', Same H H' → Q (.bl (adrP a)) H' := q
      have l2 : (("//" : Str).length : Int) = 2 := by decide +kernel
      have csw := cut_sw (n := a) (x := "//") (by decide +kernel)
      rw [l2] at csw
      have esw : decide (V.str (cutS a none (some 2)) = V.str "//") = Txt.startswith a "//" := by
        rw [Bool.eq_iff_iff, decide_eq_true_eq, ← csw]
        exact ⟨fun h => V.str.inj h, fun h => by rw [h]⟩
      unfold adrP at q
      refine ⟨_, rfl, ?_⟩
      dsimp only [tNoPart]
      refine ⟨2, rfl, a, rfl, hz, rfl, _, rfl, ?_⟩
      rw [esw]
      cases c2 : Txt.startswith a "//" with
      | false =>
        rw [c2] at q
        refine iteT ?_
        have := q H (Same.refl H)
        rw [Bool.and_false, Bool.false_and] at this
        exact this
      | true =>
        rw [c2] at q
        refine iteF ?_
        refine ⟨_, rfl, a, rfl, hz, _, _, rfl, rfl, _, rfl, ?_⟩
        cases c1 : decide (120 < (a.length : Int)) with
        | true =>
          rw [c1] at q
          exact iteT (q H (Same.refl H))
        | false =>
          rw [c1] at q
          refine iteF ?_
          have q : ∀ H', Same H H' → Q (.bl (pathP a)) H' := q
          unfold pathP at q
          have lc := cutS_length a (some 2) none
          have ac := asc_cut (lo := some 2) (hi := none) ha
          refine ⟨_, rfl, 2, rfl, ?_⟩
          dsimp only [tNoPart]
          refine ⟨a, rfl, hz, ⟨_, rfl⟩, _, "/", rfl, rfl, (by decide +kernel), (by rw [sizeLine_eq]; omega), fun p1 np1 => ?_⟩
          generalize cutS a (some 2) none = b at *
          obtain ⟨l1, l2⟩ := Tx.partition_len (x := b) (y := "/") (by decide +kernel)
          obtain ⟨_, apt⟩ := asc_part (a := b) (y := "/") (by decide +kernel) ac
          have s1 := same_new (o := .tup [.str (Txt.partition b "/").1, .str (Txt.partition b "/").2.1, .str (Txt.partition b "/").2.2]) np1
          refine ⟨p1, _, rfl, SqT.of upd_same, rfl, _, _, rfl, _, _, rfl, _, _, rfl, rfl, ?_⟩
          generalize upd H p1 (.tup [.str (Txt.partition b "/").1, .str (Txt.partition b "/").2.1, .str (Txt.partition b "/").2.2]) = H1 at *
          generalize (Txt.partition b "/").1 = host at *
          generalize (Txt.partition b "/").2.1 = mk at *
          generalize (Txt.partition b "/").2.2 = path at *
          refine ⟨_, rfl, rfl, _, rfl, ?_⟩
          have em : decide (V.str mk = V.str "/") = decide (mk = "/") := by
            rw [Bool.eq_iff_iff]
            simp only [decide_eq_true_eq]
            exact ⟨fun h => V.str.inj h, fun h => by rw [h]⟩
          rw [em]
          cases c3 : decide (mk = "/") with
          | false =>
            rw [c3] at q
            exact iteF (q _ s1)
          | true =>
            rw [c3] at q
            refine iteT ?_
            refine ⟨_, rfl, host, rfl, by omega, fun H2 s2 => ⟨_, rfl, ?_⟩⟩
            cases c4 : hostP host with
            | false =>
              rw [c4] at q
              exact iteF (q _ (s1.trans s2))
            | true =>
              rw [c4] at q
              refine iteT ?_
              obtain ⟨hx, hn⟩ := Tx.split_len (x := path) (y := "/") (by decide +kernel) (by decide +kernel)
              have as := asc_split (a := path) (y := "/") (by decide +kernel) (by decide +kernel) apt
              refine ⟨_, rfl, ⟨_, rfl⟩, path, "/", rfl, rfl, (by decide +kernel), (by rw [sizeLine_eq]; omega), fun p np => ?_⟩
              dsimp only [tNil]
              refine ⟨p, _, rfl, upd_same, fun y hy => ⟨?_, as y hy⟩, fun H3 s3 => ?_⟩
              · have := hx y hy; omega
              · exact q H3 ((s1.trans s2).trans ((same_new np).trans s3))
end
end Toy
set_option Elab.async false
set_option linter.all false
set_option maxRecDepth 100000
set_option maxHeartbeats 4000000
namespace Toy
open PySem PySem.Spec PyProof.Rows L2 Tx TL
def optV : Option Str → V
  | some w => .str w
  | none => .non
def partsH (a : Str) : Str := (Txt.partition (cutS a (some 2) none) "/").1
def partsS (a : Str) : List Str := Txt.split (Txt.partition (cutS a (some 2) none) "/").2.2 "/"
/-- one segment gone over -/
def goStep (kept : List Str) (s : Str) : List Str := if s = ".." then kept.dropLast else if s = "." then kept else kept ++ [s]
def goS (segs : List Str) : List Str := segs.foldl goStep []
def opn (segs : List Str) : Bool := match segs.getLast? with
  | some l => dotP l
  | none => false
def wdots (segs : List Str) : List Str := if opn segs = true then goS segs ++ [("" : Str)] else goS segs
def addrV (h : Str) (segs : List Str) : Option Str := if adrP (adrT h (wdots segs)) = true then some (adrT h (wdots segs)) else none
def segB (segs : List Str) (ref : Str) : List Str := if ref = "" then segs else if Txt.startswith ref "/" = true then Txt.split (cutS ref (some 1) none) "/" else segs.dropLast ++ Txt.split ref "/"
def refP (a : Str) : Str := (Txt.partition a "#").1
def resV (base : Option Str) (a : Str) : Option Str :=
  if Txt.startswith (refP a) "//" = true then addrV (Txt.lower (partsH (refP a))) (partsS (refP a))
  else match base with
    | none => none
    | some b => addrV (partsH b) (segB (partsS b) (refP a))
theorem dot_eq (s : Str) : dotP s = (decide (s = "..") || decide (s = ".")) := by
  show (("." : Str) == s || ((".." : Str) == s || false)) = _
  rw [Bool.eq_iff_iff]
  simp only [Bool.or_eq_true, beq_iff_eq, decide_eq_true_eq, Bool.false_eq_true, or_false]
  constructor
  · rintro (h | h)
    · exact .inr h.symm
    · exact .inl h.symm
  · rintro (h | h)
    · exact .inr h.symm
    · exact .inl h.symm
theorem goS_next {segs : List Str} {i : Nat} {y : Str} (hy : segs[i]? = some y) : goS (segs.take (i + 1)) = goStep (goS (segs.take i)) y := by
  unfold goS
  rw [List.take_add_one, hy, List.foldl_append]
  rfl
theorem go_none {segs : List Str} (h : ∀ x ∈ segs, dotP x = false) : goS segs = segs := by
  have gen : ∀ (l acc : List Str), (∀ x ∈ l, dotP x = false) → l.foldl goStep acc = acc ++ l := by
    intro l
    induction l with
    | nil => intro acc _; simp
    | cons x r ih =>
      intro acc hx
      have hd := hx x (by simp)
      rw [dot_eq, Bool.or_eq_false_iff, decide_eq_false_iff_not, decide_eq_false_iff_not] at hd
      have e : goStep acc x = acc ++ [x] := by unfold goStep; rw [if_neg hd.1, if_neg hd.2]
      rw [List.foldl_cons, e, ih _ fun y hy => hx y (List.mem_cons_of_mem _ hy), List.append_assoc]
      rfl
  exact (gen segs [] h).trans (List.nil_append _)
theorem opn_snoc (xs : List Str) (v : Str) : opn (xs ++ [v]) = dotP v := by
  unfold opn
  rw [List.getLast?_concat]
/-- the size of a list of segments -/
def wt (l : List Str) : Nat := (l.map fun x => x.length + 1).sum
theorem wt_append (a b : List Str) : wt (a ++ b) = wt a + wt b := by unfold wt; rw [List.map_append, List.sum_append]
theorem wt_cons (a : Str) (b : List Str) : wt (a :: b) = a.length + 1 + wt b := by unfold wt; rw [List.map_cons, List.sum_cons]
theorem wt_one (a : Str) : wt [a] = a.length + 1 := by unfold wt; simp
theorem wt_dropLast (l : List Str) : wt l.dropLast ≤ wt l := by
  rcases List.eq_nil_or_concat l with rfl | ⟨xs, v, rfl⟩
  · exact Nat.le_refl _
  · rw [List.concat_eq_append, List.dropLast_concat, wt_append]; omega
theorem wt_go (segs : List Str) : wt (goS segs) ≤ wt segs := by
  have gen : ∀ (l acc : List Str), wt (l.foldl goStep acc) ≤ wt acc + wt l := by
    intro l
    induction l with
    | nil => intro acc; exact Nat.le_add_right _ _
    | cons x r ih =>
      intro acc
      have h1 := ih (goStep acc x)
      have h2 : wt (goStep acc x) ≤ wt acc + (x.length + 1) := by
        unfold goStep
        split
        · have := wt_dropLast acc; omega
        · split
          · omega
          · rw [wt_append, wt_one]; omega
      rw [List.foldl_cons, wt_cons]
      omega
  have := gen segs []
  have e : wt ([] : List Str) = 0 := rfl
  rw [e, Nat.zero_add] at this
  exact this
theorem len_wt (l : List Str) : l.length ≤ wt l := by
  induction l with
  | nil => exact Nat.le_refl _
  | cons x r ih => rw [wt_cons, List.length_cons]; omega
theorem mem_wt {l : List Str} {x : Str} (h : x ∈ l) : x.length + 1 ≤ wt l := by
  induction l with
  | nil => cases h
  | cons y r ih =>
    rw [wt_cons]
    rcases List.mem_cons.mp h with rfl | h
    · omega
    · have := ih h; omega
theorem wt_wdots (segs : List Str) : wt (wdots segs) ≤ wt segs + 1 := by
  have := wt_go segs
  unfold wdots
  split
  · rw [wt_append, wt_one]
    have e : ("" : Str).length = 0 := by decide +kernel
    omega
  · omega
theorem sum_wt (l : List Str) : (l.map (·.length)).sum + l.length = wt l := by
  induction l with
  | nil => rfl
  | cons x r ih => rw [wt_cons, List.map_cons, List.sum_cons, List.length_cons]; omega
theorem join_wt : ∀ (l : List Str), (Txt.join "/" l).length ≤ wt l
  | [] => by rw [join_eq]; show (0 : Nat) ≤ _; omega
  | [x] => by rw [join_eq, wt_one]; show x.length ≤ _; omega
  | x :: y :: r => by
    have ih := join_wt (y :: r)
    rw [join_eq] at ih ⊢
    have ej : Str.join "/" (x :: y :: r) = x ++ "/" ++ Str.join "/" (y :: r) := rfl
    have l1 : ("/" : Str).length = 1 := by decide +kernel
    rw [ej, strLen_append, strLen_append, l1, wt_cons]
    omega
theorem spl_wt (s : Nat) : ∀ (l acc : List Nat), ((spl [s] 0 acc l).map fun p => p.length + 1).sum = acc.length + l.length + 1
  | [], acc => by rw [spl_nil]; simp
  | c :: r, acc => by
    by_cases h : pre [s] (c :: r) = true
    · rw [spl_hit h]
      have e : [s].length - 1 = 0 := rfl
      rw [e, List.map_cons, List.sum_cons, spl_wt s r []]
      simp only [List.length_nil, List.length_cons]; omega
    · rw [spl_miss (by simpa using h), spl_wt s r (acc ++ [c])]
      simp only [List.length_append, List.length_cons, List.length_nil]; omega
theorem wt_split (a : Str) : wt (Txt.split a "/") = a.length + 1 := by
  have e := split_spl a "/" (by rw [tl_slash]; simp) (kind_ok (by decide +kernel))
  have h := spl_wt 47 (tl a) []
  rw [← tl_slash, ← e, List.map_map] at h
  unfold wt
  have e2 : ((fun p : List Nat => p.length + 1) ∘ tl) = fun x : Str => x.length + 1 := by
    funext x
    show (tl x).length + 1 = x.length + 1
    rw [len_tl]
  rw [e2] at h
  rw [h, List.length_nil, Nat.zero_add, len_tl]
theorem adrT_len (h : Str) (l : List Str) : (adrT h l).length ≤ h.length + wt l + 3 := by
  have l1 : ("/" : Str).length = 1 := by decide +kernel
  have l2 : ("//" : Str).length = 2 := by decide +kernel
  have := join_wt l
  unfold adrT
  rw [strLen_append, strLen_append, strLen_append, l1, l2]
  omega
theorem parts_small (a : Str) : (partsH a).length ≤ a.length ∧ wt (partsS a) ≤ a.length + 1 ∧ partsS a ≠ [] := by
  have lc := cutS_length a (some 2) none
  obtain ⟨l1, l2⟩ := Tx.partition_len (x := cutS a (some 2) none) (y := "/") (by decide +kernel)
  refine ⟨by unfold partsH; omega, ?_, Tx.split_ne (by decide +kernel) (by decide +kernel)⟩
  unfold partsS
  rw [wt_split]; omega
theorem segB_small {segs : List Str} {r : Str} (hs : segs ≠ []) : wt (segB segs r) ≤ wt segs + r.length + 1 ∧ segB segs r ≠ [] := by
  unfold segB
  split
  · exact ⟨by omega, hs⟩
  · split
    · have lc := cutS_length r (some 1) none
      refine ⟨by rw [wt_split]; omega, Tx.split_ne (by decide +kernel) (by decide +kernel)⟩
    · have := wt_dropLast segs
      refine ⟨by rw [wt_append, wt_split]; omega, fun z => ?_⟩
      have := (List.append_eq_nil_iff.mp z).2
      exact Tx.split_ne (by decide +kernel) (by decide +kernel) this
theorem low_tl {x : Str} (h : asc (tl x)) : tl (Txt.lower x) = (tl x).map lo1 := by
  rw [lower_ascii h]
  show (x.cps.map lo1).toList = _
  rw [Array.toList_map]
theorem low_len {x : Str} (h : asc (tl x)) : (Txt.lower x).length = x.length := by
  rw [len_tl, low_tl h, List.length_map, ← len_tl]
theorem ref_asc {a : Str} (h : asc (tl a)) : asc (tl (refP a)) := (asc_part (a := a) (y := "#") (by decide +kernel) h).1
theorem partsH_asc {a : Str} (h : asc (tl a)) : asc (tl (partsH a)) := (asc_part (a := cutS a (some 2) none) (y := "/") (by decide +kernel) (asc_cut h)).1
theorem ref_small (a : Str) : (refP a).length ≤ a.length := (Tx.partition_len (x := a) (y := "#") (by decide +kernel)).1
end Toy
set_option Elab.async false
set_option linter.all false
set_option maxRecDepth 100000
set_option maxHeartbeats 4000000
namespace Toy
open PySem PySem.Spec PyProof.Rows L2 Tx TL
theorem cutV_init (l : List V) : cutV l none (some (-1)) = l.dropLast := by
  have e1 : HT.sIx l.length l.length (some (-1)) = l.length - 1 := by
    show (if (-1 : Int) < 0 then ((-1 : Int) + (l.length : Int)).toNat else min (-1 : Int).toNat l.length) = _
    rw [if_pos (by decide)]; omega
  show (l.drop (HT.sIx l.length 0 none)).take (HT.sIx l.length l.length (some (-1)) - HT.sIx l.length 0 none) = _
  rw [e1, HT.sIx_none, List.drop_zero, Nat.sub_zero, List.dropLast_eq_take]
section
variable {P : Program} {w : World} {K : PySem.W.Frag} {mg : Str → Option Value} {base : Heap}
def sp__parts : Sp := fun vs H Q _ => ∃ a : Str, vs = [.str a] ∧ a.length ≤ 500 ∧ ∀ H' p r, Same H H' → H' p = some (.lst ((partsS a).map V.str)) → H' r = some (.tup [.str (partsH a), .ref p]) → Q (.ref r) H'
theorem ok__parts (T : Txt K mg) : FnOk P w K mg base CX0 1 T.a__parts T.d__parts ["text"] sp__parts := by
  refine T.F__parts.ok sc__parts (fun vs H Q E h => ?_) (fun cdv A outer s H vs Q E hr h => ?_)
  · obtain ⟨a, rfl, _⟩ := h; rfl
  · obtain ⟨a, rfl, hl, q⟩ := h
    refine ⟨_, (pss_cons (ps_asg (pe_partition (pe_slice sl_str (pv 0) (po_some pe_int) po_none) pe_str) (pg_tup rfl (pgs_cons (pg_name (i := 1) sc__parts.nd rfl (Or.inl rfl)) (pgs_cons (pg_name (i := 2) sc__parts.nd rfl (Or.inl rfl)) (pgs_cons (pg_name (i := 3) sc__parts.nd rfl (Or.inl rfl)) pgs_nil)))))
        (pss_one (ps_ret (pe_tup (pa_cons (pv 1) (pa_cons (pe_split (pv 3) pe_str) pa_nil)))))), ?_⟩
    have hz : a.length ≤ sizeLine := by rw [sizeLine_eq]; omega
    have lc := cutS_length a (some 2) none
    unfold partsS partsH at q
    refine ⟨_, rfl, 2, rfl, ?_⟩
    dsimp only [tNoPart]
    refine ⟨a, rfl, hz, ⟨_, rfl⟩, _, "/", rfl, rfl, (by decide +kernel), (by rw [sizeLine_eq]; omega), fun p1 np1 => ?_⟩
    generalize cutS a (some 2) none = b at *
    obtain ⟨l1, l2⟩ := Tx.partition_len (x := b) (y := "/") (by decide +kernel)
    have s1 := same_new (o := .tup [.str (Txt.partition b "/").1, .str (Txt.partition b "/").2.1, .str (Txt.partition b "/").2.2]) np1
    refine ⟨p1, _, rfl, SqT.of upd_same, rfl, _, _, rfl, _, _, rfl, _, _, rfl, rfl, ?_⟩
    refine ⟨_, rfl, _, rfl, ⟨_, rfl⟩, _, "/", rfl, rfl, (by decide +kernel), (by rw [sizeLine_eq]; omega), fun p np => ⟨(by show 2 ≤ sizeLine; decide), fun r nr => ?_⟩⟩
    have s2 := same_new (o := .lst ((Txt.split (Txt.partition b "/").2.2 "/").map V.str)) np
    have s3 := same_new (o := .tup [.str (Txt.partition b "/").1, .ref p]) nr
    exact q _ p r ((s1.trans s2).trans s3) (s3 _ _ upd_same) upd_same
def sp__segments_behind : Sp := fun vs H Q _ => ∃ (p : Addr) (segs : List Str) (r : Str), vs = [.ref p, .str r] ∧ H p = some (.lst (segs.map V.str)) ∧ segs ≠ [] ∧ wt segs ≤ 500 ∧ r.length ≤ 500 ∧ ∀ H' p', Same H H' → H' p' = some (.lst ((segB segs r).map V.str)) → Q (.ref p') H'
theorem ok__segments_behind (T : Txt K mg) : FnOk P w K mg base CX0 1 T.a__segments_behind T.d__segments_behind ["segments", "reference"] sp__segments_behind := by
  refine T.F__segments_behind.ok sc__segments_behind (fun vs H Q E h => ?_) (fun cdv A outer s H vs Q E hr h => ?_)
  · obtain ⟨p, segs, r, rfl, _⟩ := h; rfl
  · obtain ⟨p, segs, r, rfl, hp, hs, hw, hl, q⟩ := h
    refine ⟨_, (pss_cons (ps_if (pt_cmpR op_eq (pv 1) pe_str (nomark _)) (pss_one (ps_ret (pv 0))) pss_nil)
        (pss_cons (ps_if (pt_val (pe_m1 F.slot_str_startswith F.type_str_startswith mt_startswith (pv 1) pe_str)) (pss_one (ps_ret (pe_split (pe_slice sl_str (pv 1) (po_some pe_int) po_none) pe_str))) pss_nil)
        (pss_one (ps_ret (pe_op Vz.op_catR (pe_slice sl_list (pv 0) po_none (po_some (pe_un un_neg pe_int))) (pe_split (pv 1) pe_str)))))), ?_⟩
    have hz : r.length ≤ sizeLine := by rw [sizeLine_eq]; omega
    unfold segB at q
    refine ⟨_, rfl, rfl, _, rfl, ?_⟩
    refine ite2 (fun c => ?_) (fun c => ?_)
    · have e : r = "" := V.str.inj (of_decide_eq_true c)
      rw [if_pos e] at q
      exact ⟨_, rfl, q H p (Same.refl H) hp⟩
    · have e : r ≠ "" := fun z => c (by rw [z]; exact decide_eq_true rfl)
      rw [if_neg e] at q
      refine ⟨_, rfl, ⟨_, rfl⟩, r, "/", rfl, rfl, _, rfl, ?_⟩
      cases c2 : Txt.startswith r "/" with
      | true =>
        rw [if_pos c2] at q
        refine iteT ?_
        have lc := cutS_length r (some 1) none
        refine ⟨_, rfl, 1, rfl, ?_⟩
        dsimp only [tNoPart]
        refine ⟨r, rfl, hz, ⟨_, rfl⟩, _, "/", rfl, rfl, (by decide +kernel), (by rw [sizeLine_eq]; omega), fun p1 np1 => ?_⟩
        exact q _ p1 (same_new np1) upd_same
      | false =>
        rw [if_neg (by rw [c2]; decide)] at q
        refine iteF ?_
        refine ⟨_, rfl, ?_⟩
        dsimp only [tNoPart]
        refine ⟨1, rfl, -1, rfl, p, _, rfl, SqL.of hp, fun p6 n6 => ?_⟩
        rw [cutV_init, ← List.map_dropLast]
        have s6 := same_new (o := .lst (segs.dropLast.map V.str)) n6
        have w1 := wt_split r
        have w2 := len_wt (Txt.split r "/")
        have w3 := len_wt segs
        refine ⟨_, rfl, ⟨_, rfl⟩, r, "/", rfl, rfl, (by decide +kernel), (by rw [sizeLine_eq]; omega), fun p7 n7 => ?_⟩
        have s7 := same_new (o := .lst ((Txt.split r "/").map V.str)) n7
        refine ⟨p6, p7, _, _, rfl, rfl, SqL.of (s7 _ _ upd_same), SqL.of upd_same, ?_, fun p8 n8 => ?_⟩
        · rw [List.length_map, List.length_map, List.length_dropLast, sizeLine_eq]; omega
        · refine q _ p8 ((s6.trans s7).trans (same_new n8)) ?_
          rw [upd_same, List.map_append]
def sp__without_dots : Sp := fun vs H Q _ => ∃ (p : Addr) (segs : List Str), vs = [.ref p] ∧ H p = some (.lst (segs.map V.str)) ∧ segs ≠ [] ∧ wt segs ≤ 900 ∧ ∀ H' p', Same H H' → H' p' = some (.lst ((wdots segs).map V.str)) → Q (.ref p') H'
theorem ok__without_dots (T : Txt K mg) : FnOk P w K mg base CX0 1 T.a__without_dots T.d__without_dots ["segments"] sp__without_dots := by
  refine T.F__without_dots.ok sc__without_dots (fun vs H Q E h => ?_) (fun cdv A outer s H vs Q E hr h => ?_)
  · obtain ⟨p, segs, rfl, _⟩ := h; rfl
  · obtain ⟨p, segs, rfl, hp, hs, hw, q⟩ := h
    refine ⟨_, (pss_cons (ps_set (i := 1) sc__without_dots.nd rfl (by first | exact Or.inl rfl | exact Or.inr rfl) (pe_lst pa_nil))
        (pss_cons (ps_for PassesOwn.never rfl (pi_list (pv 0)) (pg_name (i := 2) sc__without_dots.nd rfl (Or.inl rfl)) (pss_one (ps_if (pt_cmpR op_notIn_seq (pv 2) (pe_glob (v := .ref T.r_DOTS) (by rfl) T.c_DOTS rfl) (by with_unfolding_all rfl)) (pss_one (ps_expr (pe_bm PySem.F.plainAttrs_list PySem.F.slot_list_append PySem.F.type_list_append mt_append (pv 1) (pa_cons (pv 2) pa_nil)))) (pss_one (ps_if (PW.pt (pw_and (pt_cmpR op_eq (pv 2) pe_str (nomark _)) (pw_and1 (pt_truth (pv 1) (by intro _; rfl))))) (pss_one (ps_expr (pe_bm0 PySem.F.plainAttrs_list PySem.F.slot_list_pop PySem.F.type_list_pop mt_pop (pv 1)))) pss_nil)))))
        (pss_one (ps_ret (pe_ifExp (pt_cmpR op_in_seq (pe_ix ix_list (pv 0) (pe_un un_neg pe_int) (fun _ _ => rfl)) (pe_glob (v := .ref T.r_DOTS) (by rfl) T.c_DOTS rfl) (by with_unfolding_all rfl)) (pe_op Vz.op_catR (pv 1) (pe_lst (pa_cons pe_str pa_nil))) (pv 1)))))), ?_⟩
    refine ⟨(by show 0 ≤ sizeLine; decide), fun k nk => ?_⟩
    have ne : p ≠ k := ne_of_none hp nk
    refine ⟨_, rfl, p, rfl, ⟨_, SqL.of (same_new nk _ _ hp)⟩, ?_⟩
    refine for_list (xs := segs.map V.str) (fun i σ H' => ∃ x2 : Option V, σ = [some (.ref p), some (.ref k), x2] ∧ H' k = some (.lst ((goS (segs.take i)).map V.str)) ∧ ∀ b o, b ≠ k → H b = some o → H' b = some o) ⟨none, rfl, upd_same, fun b o nb e => by rw [upd_ne nb]; exact e⟩ ?_ ?_ ?_
    · rintro i σ H' _ ⟨x2, _, _, e⟩
      exact SqL.of (e _ _ ne hp)
    · rintro i x σ H2 hx2 ⟨x2, rfl, hk, kp⟩
      rw [List.getElem?_map] at hx2
      obtain ⟨y, hy, rfl⟩ := Option.map_eq_some_iff.mp hx2
      have my := List.mem_of_getElem? hy
      have gn := goS_next hy
      refine ⟨_, rfl, T.r_DOTS, [.str ".", .str ".."], rfl, .inr (T.e_DOTS H2), rfl, (by decide +kernel), _, rfl, ?_⟩
      rw [if_pos rfl]
      have ed : inV (.str y) [.str ".", .str ".."] = dotP y := rfl
      rw [ed, dot_eq]
      have lw : (goS (segs.take i)).length ≤ 900 := by
        have a1 := len_wt (goS (segs.take i))
        have a2 := wt_go (segs.take i)
        have a3 : wt segs = wt (segs.take i) + wt (segs.drop i) := by rw [← wt_append, List.take_append_drop]
        omega
      unfold goStep at gn
      by_cases d2 : y = ".."
      · rw [if_pos d2] at gn
        rw [decide_eq_true d2, Bool.true_or]
        refine iteF ?_
        refine ⟨_, rfl, rfl, _, rfl, ?_⟩
        refine ite2 (fun _ => ?_) (fun c => absurd (by rw [d2]; exact decide_eq_true rfl) c)
        refine ⟨_, rfl, _, .inl ⟨_, SqL.of hk, rfl⟩, ?_⟩
        rcases List.eq_nil_or_concat (goS (segs.take i)) with e | ⟨zs, z, e⟩
        · rw [e] at hk gn ⊢
          refine iteF ?_
          exact ⟨_, rfl, by rw [hk, gn]; rfl, kp⟩
        · rw [List.concat_eq_append] at e
          rw [e] at hk gn ⊢
          refine ite2 (fun _ => ?_) (fun c => absurd (by simp) c)
          refine ⟨_, rfl, .inl ⟨rfl, _, SqL.of hk⟩, k, _, .str z, rfl, rfl, hk, by simp, ?_⟩
          refine ⟨_, rfl, ?_, fun b o nb e => by rw [upd_ne nb]; exact kp b o nb e⟩
          rw [upd_same, gn, List.map_dropLast]
      · rw [if_neg d2] at gn
        rw [decide_eq_false d2, Bool.false_or]
        by_cases d1 : y = "."
        · rw [if_pos d1] at gn
          rw [decide_eq_true d1]
          refine iteF ?_
          refine ⟨_, rfl, rfl, _, rfl, ?_⟩
          refine ite2 (fun c => absurd (V.str.inj (of_decide_eq_true c)) d2) (fun _ => ?_)
          refine iteF ?_
          exact ⟨_, rfl, by rw [hk, gn], kp⟩
        · rw [if_neg d1] at gn
          rw [decide_eq_false d1]
          refine iteT ?_
          refine ⟨_, rfl, .inl ⟨rfl, _, SqL.of hk⟩, _, rfl, k, _, _, rfl, rfl, hk, (by rw [List.length_map, sizeLine_eq]; omega), ?_⟩
          refine ⟨_, rfl, ?_, fun b o nb e => by rw [upd_ne nb]; exact kp b o nb e⟩
          rw [upd_same, gn, List.map_append]; rfl
    · rintro σ H2 ⟨x2, rfl, hk, kp⟩
      rw [List.length_map, List.take_length] at hk
      obtain ⟨xs, v, ev⟩ : ∃ xs v, segs = xs ++ [v] := by
        rcases List.eq_nil_or_concat segs with h | ⟨xs, v, h⟩
        · exact absurd h hs
        · exact ⟨xs, v, by rw [h, List.concat_eq_append]⟩
      have sH : Same H H2 := fun b o e => kp b o (fun z => by rw [z, nk] at e; cases e) e
      have hp2 := kp _ _ ne hp
      have lw : (goS segs).length ≤ 900 := by
        have a1 := len_wt (goS segs)
        have a2 := wt_go segs
        omega
      have at1 : atI (segs.map V.str) (-1) = some (.str v) := by rw [ev, List.map_append]; exact atI_last _ _
      have eo : opn segs = dotP v := by rw [ev, opn_snoc]
      unfold wdots at q
      rw [eo] at q
      refine ⟨_, rfl, 1, rfl, p, _, -1, _, rfl, rfl, SqL.of hp2, at1, T.r_DOTS, [.str ".", .str ".."], rfl, .inr (T.e_DOTS H2), rfl, (by decide +kernel), _, rfl, ?_⟩
      rw [if_neg (by decide)]
      have ed : inV (.str v) [.str ".", .str ".."] = dotP v := rfl
      rw [ed]
      cases dv : dotP v with
      | true =>
        rw [if_pos dv] at q
        refine iteT ?_
        refine ⟨_, rfl, (by show 1 ≤ sizeLine; decide), fun p4 n4 => ?_⟩
        have s4 := same_new (o := .lst [V.str ""]) n4
        refine ⟨k, p4, _, _, rfl, rfl, SqL.of (s4 _ _ hk), SqL.of upd_same, ?_, fun p5 n5 => ?_⟩
        · rw [List.length_map, sizeLine_eq]; simp only [List.length_cons, List.length_nil]; omega
        · refine q _ p5 ((sH.trans s4).trans (same_new n5)) ?_
          rw [upd_same, List.map_append]; rfl
      | false =>
        rw [if_neg (by rw [dv]; decide)] at q
        refine iteF ?_
        exact ⟨_, rfl, q H2 k sH hk⟩
def sp__address_of : Sp := fun vs H Q _ => ∃ (h : Str) (p : Addr) (segs : List Str), vs = [.str h, .ref p] ∧ H p = some (.lst (segs.map V.str)) ∧ segs ≠ [] ∧ h.length + wt segs ≤ 480 ∧ ∀ H', Same H H' → Q (optV (addrV h segs)) H'
theorem ok__address_of (T : Txt K mg) : FnOk P w K mg base CX0 5 T.a__address_of T.d__address_of ["host", "segments"] sp__address_of := by
  refine T.F__address_of.ok sc__address_of (fun vs H Q E h => ?_) (fun cdv A outer s H vs Q E hr h => ?_)
  · obtain ⟨h, p, segs, rfl, _⟩ := h; rfl
  · obtain ⟨h, p, segs, rfl, hp, hs, hl, q⟩ := h
    refine ⟨_, (pss_cons (ps_set (i := 2) sc__address_of.nd rfl (by first | exact Or.inl rfl | exact Or.inr rfl) (pe_op op_add_str (pe_op op_add_str (pe_op op_add_str pe_str (pv 0)) pe_str) (pe_join pe_str (pe_call (ok__without_dots T) (hr.mono (by decide)) (by rfl) T.g__without_dots T.F__without_dots.kp T.b__without_dots .nil pass0 (pa_cons (pv 1) pa_nil)))))
        (pss_one (ps_ret (pe_ifExp (pt_val (pe_call (ok_is_address T) (hr.mono (by decide)) (by rfl) T.g_is_address T.F_is_address.kp T.b_is_address .nil pass0 (pa_cons (pv 2) pa_nil))) (pv 2) pe_non)))), ?_⟩
    have lh : ("//" : Str).length = 2 := by decide +kernel
    have ls : ("/" : Str).length = 1 := by decide +kernel
    have ww := wt_wdots segs
    have sw := sum_wt (wdots segs)
    have jl := join_wt (wdots segs)
    refine ⟨_, rfl, _, _, rfl, rfl, (by rw [sizeLine_eq, lh]; omega), _, _, rfl, rfl, (by rw [sizeLine_eq, strLen_append, lh, ls]; omega), ⟨_, rfl⟩, ?_⟩
    refine ⟨_, rfl, ?_⟩
    dsimp only [tNil]
    refine ⟨p, segs, rfl, hp, hs, by omega, fun H1 p1 s1 h1 => ?_⟩
    refine ⟨"/", p1, wdots segs, rfl, rfl, .inl (SqL.of h1), by rw [ls]; omega, _, _, rfl, rfl, ?_, ?_⟩
    · rw [sizeLine_eq, strLen_append, strLen_append, lh, ls]; omega
    have al := adrT_len h (wdots segs)
    have e : "//" ++ h ++ "/" ++ Txt.join "/" (wdots segs) = adrT h (wdots segs) := rfl
    rw [e]
    unfold addrV at q
    generalize adrT h (wdots segs) = z at *
    refine ⟨_, rfl, 0, .str z, "str", rfl, .str z, (by show z.length ≤ 500; omega), fun H2 s2 => ⟨_, rfl, ?_⟩⟩
    have ez : adrV (.str z) = adrP z := rfl
    rw [ez]
    cases c : adrP z with
    | true =>
      rw [if_pos c] at q
      refine iteT ?_
      exact ⟨_, rfl, q H2 (s1.trans s2)⟩
    | false =>
      rw [if_neg (by rw [c]; decide)] at q
      refine iteF ?_
      exact q H2 (s1.trans s2)
def sp_check_base : Sp := fun vs H Q _ => ∃ base : Option Str, vs = [optV base] ∧ (∀ b, base = some b → adrP b = true) ∧ ∀ H', Same H H' → Q .non H'
theorem adr_len {a : Str} (h : adrP a = true) : a.length ≤ 120 := by
  unfold adrP at h
  simp only [Bool.and_eq_true, Bool.not_eq_true', decide_eq_false_iff_not] at h
  have := h.1.1
  omega
theorem ok_check_base (T : Txt K mg) : FnOk P w K mg base (L2.CX P w) 5 T.a_check_base T.d_check_base ["base"] sp_check_base := by
  refine T.F_check_base.okX sc_check_base (fun vs H Q E h => ?_) (fun cdv A outer s H vs Q E hr h => ?_)
  · obtain ⟨b, rfl, _⟩ := h; rfl
  · obtain ⟨b, rfl, hb, q⟩ := h
    refine ⟨_, (pss_one (ps_if (PW.pt (pw_and (pt_cmpR op_notN (pv 0) pe_non (nomark _)) (pw_and1 (pt_not (pt_val (pe_call (ok_is_address T) (hr.mono (by decide)) (by rfl) T.g_is_address T.F_is_address.kp T.b_is_address .nil pass0 (pa_cons (pv 0) pa_nil))))))) (pss_one (ps_raise rfl (takes_of (E := E) rfl rfl rfl rfl) (pmk_oex T.o_BadAddress T.iC_BadAddress T.tI_BadAddress (ok_init_BadAddress T) (hr.mono (by decide)) T.bI_BadAddress .nil pass0 (by rfl) T.g_BadAddress (by exact (pa_cons (pv 0) pa_nil))))) pss_nil)), ?_⟩
    refine ⟨_, rfl, rfl, _, rfl, ?_⟩
    cases b with
    | none =>
      refine ite2 (fun c => absurd c (by decide)) (fun _ => ?_)
      refine iteF ?_
      exact q H (Same.refl H)
    | some b =>
      have hb := hb b rfl
      have lb := adr_len hb
      refine ite2 (fun _ => ?_) (fun c => absurd (by show (!decide (V.str b = V.non)) = true; simp) c)
      refine ⟨_, rfl, 0, .str b, "str", rfl, .str b, (by show b.length ≤ 500; omega), fun H1 s1 => ⟨_, rfl, ?_⟩⟩
      have ez : adrV (.str b) = adrP b := rfl
      rw [ez, hb]
      refine iteF ?_
      exact q H1 s1
def sp_resolve : Sp := fun vs H Q _ => ∃ (base : Option Str) (a : Str), vs = [optV base, .str a] ∧ (∀ b, base = some b → adrP b = true) ∧ a.length ≤ 200 ∧ asc (tl a) ∧ ∀ H', Same H H' → Q (optV (resV base a)) H'
theorem ok_resolve (T : Txt K mg) : FnOk P w K mg base (L2.CX P w) 6 T.a_resolve T.d_resolve ["base", "text"] sp_resolve := by
  refine T.F_resolve.okX sc_resolve (fun vs H Q E h => ?_) (fun cdv A outer s H vs Q E hr h => ?_)
  · obtain ⟨b, a, rfl, _⟩ := h; rfl
  · obtain ⟨b, a, rfl, hb, hl, ha, q⟩ := h
    refine ⟨_, (pss_cons (ps_expr (pe_call (ok_check_base T) (hr.mono (by decide)) (by rfl) T.g_check_base T.F_check_base.kp T.b_check_base .nil (passes_call (takes_of (E := E) rfl rfl rfl rfl) (fun _ _ _ _ h => h)) (pa_cons (pv 0) pa_nil)))
        (pss_cons (ps_if (pt_not (pt_val (pe_callB call_isi (by rfl) T.z_isinstance (by decide +kernel) (pa_cons (pv 1) (pa_cons (pe_bltn (v := .ty "str") (by rfl) T.z_str (by decide +kernel) rfl) pa_nil))))) (pss_one (ps_ret pe_non)) pss_nil)
        (pss_cons (ps_set (i := 2) sc_resolve.nd rfl (by first | exact Or.inl rfl | exact Or.inr rfl) (pe_ix ix_tup (pe_partition (pv 1) pe_str) pe_int (fun _ _ => rfl)))
        (pss_cons (ps_if (pt_val (pe_m1 F.slot_str_startswith F.type_str_startswith mt_startswith (pv 2) pe_str)) (pss_cons (ps_asg (pe_call (ok__parts T) (hr.mono (by decide)) (by rfl) T.g__parts T.F__parts.kp T.b__parts .nil pass0 (pa_cons (pv 2) pa_nil)) (pg_tup rfl (pgs_cons (pg_name (i := 3) sc_resolve.nd rfl (Or.inl rfl)) (pgs_cons (pg_name (i := 4) sc_resolve.nd rfl (Or.inl rfl)) pgs_nil))))
        (pss_one (ps_ret (pe_call (ok__address_of T) (hr.mono (by decide)) (by rfl) T.g__address_of T.F__address_of.kp T.b__address_of .nil pass0 (pa_cons (pe_lower (pv 3)) (pa_cons (pv 4) pa_nil)))))) pss_nil)
        (pss_cons (ps_if (pt_cmpR op_isN (pv 0) pe_non (nomark _)) (pss_one (ps_ret pe_non)) pss_nil)
        (pss_cons (ps_asg (pe_call (ok__parts T) (hr.mono (by decide)) (by rfl) T.g__parts T.F__parts.kp T.b__parts .nil pass0 (pa_cons (pv 0) pa_nil)) (pg_tup rfl (pgs_cons (pg_name (i := 3) sc_resolve.nd rfl (Or.inl rfl)) (pgs_cons (pg_name (i := 4) sc_resolve.nd rfl (Or.inl rfl)) pgs_nil))))
        (pss_one (ps_ret (pe_call (ok__address_of T) (hr.mono (by decide)) (by rfl) T.g__address_of T.F__address_of.kp T.b__address_of .nil pass0 (pa_cons (pv 3) (pa_cons (pe_call (ok__segments_behind T) (hr.mono (by decide)) (by rfl) T.g__segments_behind T.F__segments_behind.kp T.b__segments_behind .nil pass0 (pa_cons (pv 4) (pa_cons (pv 2) pa_nil))) pa_nil))))))))))), ?_⟩
    refine ⟨_, rfl, ?_⟩
    dsimp only [tNil]
    refine ⟨b, rfl, hb, fun H1 s1 => ?_⟩
    refine ⟨_, rfl, .str a, _, _, _, _, rfl, .ty "str", (Thg.str (d := 0) (H := H1) a).ty, (Thg.str (d := 0) (H := H1) a).k_str, _, rfl, ?_⟩
    refine iteF ?_
    refine ⟨_, rfl, ⟨_, rfl⟩, a, "#", rfl, rfl, (by decide +kernel), (by rw [sizeLine_eq]; omega), fun p2 n2 => ?_⟩
    have s2 := same_new (o := .tup [.str (Txt.partition a "#").1, .str (Txt.partition a "#").2.1, .str (Txt.partition a "#").2.2]) n2
    refine ⟨p2, _, 0, _, rfl, rfl, SqT.of upd_same, rfl, ?_⟩
    have rs := ref_small a
    have ra := ref_asc ha
    unfold resV at q
    have er : (Txt.partition a "#").1 = refP a := rfl
    rw [er] at s2 ⊢
    generalize refP a = r at *
    generalize upd H1 p2 (.tup [.str r, .str (Txt.partition a "#").2.1, .str (Txt.partition a "#").2.2]) = H2 at *
    refine ⟨_, rfl, ⟨_, rfl⟩, r, "//", rfl, rfl, _, rfl, ?_⟩
    obtain ⟨ps1, ps2, ps3⟩ := parts_small r
    cases c : Txt.startswith r "//" with
    | true =>
      rw [if_pos c] at q
      refine iteT ?_
      refine ⟨_, rfl, r, rfl, by omega, fun H3 p3 r3 s3 h3 g3 => ?_⟩
      refine ⟨r3, _, rfl, SqT.of g3, rfl, _, _, rfl, _, _, rfl, rfl, ?_⟩
      have ll := low_len (partsH_asc ra)
      refine ⟨_, rfl, ⟨_, rfl⟩, partsH r, rfl, rfl, by omega, _, rfl, ?_⟩
      dsimp only [tNil]
      refine ⟨Txt.lower (partsH r), p3, partsS r, rfl, h3, ps3, by omega, fun H4 s4 => ?_⟩
      exact q H4 (((s1.trans s2).trans s3).trans s4)
    | false =>
      rw [if_neg (by rw [c]; decide)] at q
      refine iteF ?_
      refine ⟨_, rfl, rfl, _, rfl, ?_⟩
      cases b with
      | none =>
        refine ite2 (fun _ => ?_) (fun c => absurd (by decide) c)
        exact q H2 (s1.trans s2)
      | some b =>
        have hb := hb b rfl
        have lb := adr_len hb
        obtain ⟨bs1, bs2, bs3⟩ := parts_small b
        obtain ⟨gs1, gs2⟩ := segB_small (r := r) bs3
        refine ite2 (fun c => absurd (of_decide_eq_true c) (by simp [optV])) (fun _ => ?_)
        refine ⟨_, rfl, b, rfl, by omega, fun H3 p3 r3 s3 h3 g3 => ?_⟩
        refine ⟨r3, _, rfl, SqT.of g3, rfl, _, _, rfl, _, _, rfl, rfl, ?_⟩
        refine ⟨_, rfl, _, rfl, _, rfl, p3, partsS b, r, rfl, h3, bs3, by omega, by omega, fun H4 p4 s4 h4 => ?_⟩
        dsimp only [tNil]
        refine ⟨partsH b, p4, segB (partsS b) r, rfl, h4, gs2, by omega, fun H5 s5 => ?_⟩
        exact q H5 ((((s1.trans s2).trans s3).trans s4).trans s5)
end
end Toy
set_option Elab.async false
set_option linter.all false
set_option maxRecDepth 100000
set_option maxHeartbeats 8000000
namespace Toy
open PySem PySem.Spec PyProof.Rows L2 Tx TL
theorem spl_snoc (s : Nat) (t : List Nat) : ∀ (l acc : List Nat), spl [s] 0 acc (l ++ s :: t) = spl [s] 0 acc l ++ spl [s] 0 [] t
  | [], acc => by
    have h1 : pre [s] (s :: t) = true := by unfold pre; simp
    rw [List.nil_append, spl_hit h1, spl_nil]; rfl
  | c :: r, acc => by
    by_cases e : c = s
    · have h1 : pre [s] (c :: r) = true := by unfold pre; simp [e]
      have h2 : pre [s] (c :: (r ++ s :: t)) = true := by unfold pre; simp [e]
      rw [List.cons_append, spl_hit h1, spl_hit h2]
      have e0 : [s].length - 1 = 0 := rfl
      rw [e0, spl_snoc s t r []]; rfl
    · have h1 : pre [s] (c :: r) = false := by unfold pre; simp [e]
      have h2 : pre [s] (c :: (r ++ s :: t)) = false := by unfold pre; simp [e]
      rw [List.cons_append, spl_miss h1, spl_miss h2]
      exact spl_snoc s t r (acc ++ [c])
theorem joinL_spl1 (s : Nat) : ∀ (l acc : List Nat), joinL [s] (spl [s] 0 acc l) = acc ++ l
  | [], acc => by rw [spl_nil]; simp [joinL]
  | c :: r, acc => by
    by_cases h : pre [s] (c :: r) = true
    · have e : c = s := by
        unfold pre at h
        simpa using h
      rw [spl_hit h]
      have ne := spl_ne [s] r ([s].length - 1) []
      have i := joinL_spl1 s r []
      have e0 : [s].length - 1 = 0 := rfl
      rw [e0] at ne ⊢
      cases hp : spl [s] 0 [] r with
      | nil => exact absurd hp ne
      | cons q t =>
        show acc ++ ([s] ++ joinL [s] (q :: t)) = _
        rw [← hp, i, e]; simp
    · rw [spl_miss (by simpa using h), joinL_spl1 s r (acc ++ [c])]
      simp
theorem mem_joinL {S : List Nat} {c : Nat} : ∀ ps : List (List Nat), c ∈ joinL S ps → c ∈ S ∨ ∃ p ∈ ps, c ∈ p
  | [], h => nomatch h
  | [p], h => .inr ⟨p, by simp, h⟩
  | p :: q :: r, h => by
    have h : c ∈ p ++ (S ++ joinL S (q :: r)) := h
    rcases List.mem_append.mp h with x | x
    · exact .inr ⟨p, by simp, x⟩
    · rcases List.mem_append.mp x with x | x
      · exact .inl x
      · rcases mem_joinL (q :: r) x with y | ⟨u, hu, y⟩
        · exact .inl y
        · exact .inr ⟨u, List.mem_cons_of_mem _ hu, y⟩
theorem asc_joinL {S : List Nat} (hS : asc S) : ∀ ps : List (List Nat), (∀ p ∈ ps, asc p) → asc (joinL S ps)
  | [], _ => fun c hc => nomatch hc
  | [p], h => h p (by simp)
  | p :: q :: r, h => by
    have ih := asc_joinL hS (q :: r) fun x hx => h x (List.mem_cons_of_mem _ hx)
    intro c hc
    have hc : c ∈ p ++ (S ++ joinL S (q :: r)) := hc
    rcases List.mem_append.mp hc with x | x
    · exact h p (by simp) c x
    · rcases List.mem_append.mp x with x | x
      · exact hS c x
      · exact ih c x
theorem spl_free (s : Nat) : ∀ (l acc : List Nat), s ∉ acc → ∀ p ∈ spl [s] 0 acc l, s ∉ p
  | [], acc, ha => by
    rw [spl_nil]
    intro p hp
    rw [List.mem_singleton.mp hp]; exact ha
  | c :: r, acc, ha => by
    by_cases e : c = s
    · have h1 : pre [s] (c :: r) = true := by unfold pre; simp [e]
      rw [spl_hit h1]
      intro p hp
      rcases List.mem_cons.mp hp with e | e
      · rw [e]; exact ha
      · exact spl_free s r [] (fun z => nomatch z) p e
    · have h1 : pre [s] (c :: r) = false := by unfold pre; simp [e]
      rw [spl_miss h1]
      refine spl_free s r (acc ++ [c]) fun z => ?_
      rcases List.mem_append.mp z with z | z
      · exact ha z
      · exact e (List.mem_singleton.mp z).symm
theorem split_tl (a : Str) : (Txt.split a "/").map tl = spl [47] 0 [] (tl a) := by
  rw [split_spl a "/" (by rw [tl_slash]; simp) (kind_ok (by decide +kernel)), tl_slash]
theorem split_free (a : Str) : ∀ p ∈ Txt.split a "/", 47 ∉ tl p := by
  intro p hp
  have : tl p ∈ spl [47] 0 [] (tl a) := by rw [← split_tl]; exact List.mem_map.mpr ⟨p, hp, rfl⟩
  exact spl_free 47 (tl a) [] (fun z => nomatch z) _ this
theorem split_back (a : Str) : Txt.join "/" (Txt.split a "/") = a := by
  refine ext_tl ?_
  rw [join_eq, tl_join, tl_slash, split_tl, joinL_spl1]
  rfl
theorem split_add (x y : Str) : Txt.split (x ++ "/" ++ y) "/" = Txt.split x "/" ++ Txt.split y "/" := by
  apply map_tl_inj
  rw [List.map_append, split_tl, split_tl, split_tl, tl_append, tl_append, tl_slash, List.append_assoc]
  exact spl_snoc 47 (tl y) (tl x) []
theorem empty_add (y : Str) : "/" ++ y = "" ++ "/" ++ y := by
  apply ext_tl
  rw [tl_append, tl_append, tl_append]
  have : tl ("" : Str) = [] := by decide +kernel
  rw [this]; rfl
theorem split_front (y : Str) : Txt.split ("/" ++ y) "/" = ("" : Str) :: Txt.split y "/" := by
  rw [empty_add, split_add]
  have : Txt.split ("" : Str) "/" = [("" : Str)] := by decide +kernel
  rw [this]; rfl
theorem joinL_snoc (S v : List Nat) : ∀ xs : List (List Nat), xs ≠ [] → joinL S (xs ++ [v]) = joinL S xs ++ (S ++ v)
  | [], h => absurd rfl h
  | [x], _ => rfl
  | x :: y :: r, _ => by
    have ih := joinL_snoc S v (y :: r) (by simp)
    show x ++ (S ++ joinL S ((y :: r) ++ [v])) = (x ++ (S ++ joinL S (y :: r))) ++ (S ++ v)
    rw [ih]; simp [List.append_assoc]
theorem join_snoc {xs : List Str} (v : Str) (h : xs ≠ []) : Txt.join "/" (xs ++ [v]) = Txt.join "/" xs ++ "/" ++ v := by
  apply ext_tl
  rw [join_eq, join_eq, tl_append, tl_append, tl_join, tl_join, List.map_append]
  have := joinL_snoc (tl "/") (tl v) (xs.map tl) (by simpa using h)
  rw [List.map_cons, List.map_nil, this, List.append_assoc]
/-- the front of an address but what is behind its last slash -/
theorem front_cut {p : Str} {xs : List Str} {v : Str} (e : Txt.split p "/" = xs ++ [v]) : ∃ q, "/" ++ p = q ++ "/" ++ v ∧ Txt.split q "/" = ("" : Str) :: xs := by
  have ef : Txt.split ("/" ++ p) "/" = (("" : Str) :: xs) ++ [v] := by rw [split_front, e]; rfl
  have hb := split_back ("/" ++ p)
  rw [ef, join_snoc v (by simp)] at hb
  refine ⟨_, hb.symm, ?_⟩
  refine split_join tl_slash (by decide +kernel) (by simp) fun y hy => ?_
  exact split_free ("/" ++ p) y (by rw [ef]; exact List.mem_append_left _ hy)
theorem cut_back_len (q v : Str) : cutS (q ++ "/" ++ v) none (some ((q ++ "/" ++ v).length - v.length : Int)) = q ++ "/" := by
  apply ext_tl
  have ll : (q ++ "/" ++ v : Str).length = (q ++ "/" : Str).length + v.length := strLen_append _ _
  have e0 : (((q ++ "/" ++ v : Str).length : Int) - v.length) = (((q ++ "/" : Str).length : Nat) : Int) := by omega
  rw [e0]
  have e1 : HT.sIx (q ++ "/" ++ v : Str).length (q ++ "/" ++ v : Str).length (some (((q ++ "/" : Str).length : Nat) : Int)) = min (q ++ "/" : Str).length (q ++ "/" ++ v : Str).length := HT.sIx_nat _ _ _
  show ((tl (q ++ "/" ++ v)).drop (HT.sIx (q ++ "/" ++ v : Str).length 0 none)).take (HT.sIx (q ++ "/" ++ v : Str).length (q ++ "/" ++ v : Str).length (some (((q ++ "/" : Str).length : Nat) : Int)) - HT.sIx (q ++ "/" ++ v : Str).length 0 none) = _
  rw [HT.sIx_none, e1, Nat.min_eq_left (by omega), List.drop_zero, Nat.sub_zero, tl_append (q ++ "/") v, List.take_append_of_le_length (by rw [len_tl]; exact Nat.le_refl _), List.take_of_length_le (by rw [len_tl]; exact Nat.le_refl _)]
theorem sw_one {r : Str} (h : Txt.startswith r "/" = true) : r = "/" ++ cutS r (some 1) none := by
  apply ext_tl
  rw [sw_pre (by rw [tl_slash]; simp), tl_slash] at h
  have e1 : HT.sIx r.length 0 (some 1) = min 1 r.length := HT.sIx_nat r.length 0 1
  have et : tl (cutS r (some 1) none) = (tl r).drop 1 := by
    show ((tl r).drop (HT.sIx r.length 0 (some 1))).take (HT.sIx r.length r.length none - HT.sIx r.length 0 (some 1)) = _
    rw [e1, HT.sIx_none]
    have lr := len_tl r
    cases hl : tl r with
    | nil => simp
    | cons c t =>
      rw [hl] at lr
      simp only [List.length_cons] at lr
      rw [Nat.min_eq_left (by omega)]
      show t.take (r.length - 1) = t
      rw [List.take_of_length_le (by omega)]
  rw [tl_append, tl_slash, et]
  unfold pre at h
  cases hl : tl r with
  | nil => rw [hl] at h; cases h
  | cons c t =>
    rw [hl] at h
    have : c = 47 := by simpa using h
    rw [this]; rfl
theorem segs_asc {a : Str} (h : asc (tl a)) : ∀ p ∈ Txt.split a "/", asc (tl p) := asc_split (by decide +kernel) (by decide +kernel) h
theorem partsS_asc {a : Str} (h : asc (tl a)) : ∀ p ∈ partsS a, asc (tl p) := segs_asc (asc_part (a := cutS a (some 2) none) (y := "/") (by decide +kernel) (asc_cut h)).2
theorem segB_asc {segs : List Str} {r : Str} (hs : ∀ p ∈ segs, asc (tl p)) (h : asc (tl r)) : ∀ p ∈ segB segs r, asc (tl p) := by
  unfold segB
  split
  · exact hs
  · split
    · exact segs_asc (asc_cut h)
    · intro p hp
      rcases List.mem_append.mp hp with z | z
      · exact hs p (List.dropLast_subset _ z)
      · exact segs_asc h p z
theorem asc_empty : asc (tl ("" : Str)) := by
  have : tl ("" : Str) = [] := by decide +kernel
  rw [this]; exact fun c hc => nomatch hc
theorem wdots_asc {segs : List Str} (hs : ∀ p ∈ segs, asc (tl p)) : ∀ p ∈ wdots segs, asc (tl p) := by
  have gen : ∀ (l acc : List Str), (∀ p ∈ l, asc (tl p)) → (∀ p ∈ acc, asc (tl p)) → ∀ p ∈ l.foldl goStep acc, asc (tl p) := by
    intro l
    induction l with
    | nil => intro acc _ h; exact h
    | cons x r ih =>
      intro acc hl ha
      rw [List.foldl_cons]
      refine ih _ (fun p hp => hl p (List.mem_cons_of_mem _ hp)) ?_
      unfold goStep
      split
      · exact fun p hp => ha p (List.dropLast_subset _ hp)
      · split
        · exact ha
        · intro p hp
          rcases List.mem_append.mp hp with z | z
          · exact ha p z
          · rw [List.mem_singleton.mp z]; exact hl x (by simp)
  have g := gen segs [] hs (fun p hp => nomatch hp)
  unfold wdots
  split
  · intro p hp
    rcases List.mem_append.mp hp with z | z
    · exact g p z
    · rw [List.mem_singleton.mp z]; exact asc_empty
  · exact g
theorem asc_slash : asc (tl ("/" : Str)) := by rw [tl_slash]; intro c hc; rw [List.mem_singleton.mp hc]; decide
theorem adrT_asc {h : Str} {l : List Str} (hh : asc (tl h)) (hl : ∀ p ∈ l, asc (tl p)) : asc (tl (adrT h l)) := by
  unfold adrT
  refine asc_app (asc_app (asc_app (fun c hc => ?_) hh) asc_slash) ?_
  · have t2 : tl ("//" : Str) = [47, 47] := by decide +kernel
    rw [t2] at hc
    simp only [List.mem_cons, List.not_mem_nil, or_false] at hc
    omega
  · rw [join_eq, tl_join, tl_slash]
    refine asc_joinL (fun c hc => by rw [List.mem_singleton.mp hc]; decide) _ fun p hp => ?_
    obtain ⟨u, hu, rfl⟩ := List.mem_map.mp hp
    exact hl u hu
theorem asc_low {x : Str} (h : asc (tl x)) : asc (tl (Txt.lower x)) := by
  rw [low_tl h]
  intro c hc
  obtain ⟨u, hu, rfl⟩ := List.mem_map.mp hc
  have := h u hu
  unfold lo1
  split <;> omega
theorem addrV_some {h s : Str} {segs : List Str} (e : addrV h segs = some s) : s = adrT h (wdots segs) ∧ adrP s = true := by
  unfold addrV at e
  split at e
  · cases e; exact ⟨rfl, by assumption⟩
  · cases e
theorem resV_some {base : Option Str} {a s : Str} (ha : asc (tl a)) (hb : ∀ b, base = some b → asc (tl b)) (e : resV base a = some s) : adrP s = true ∧ asc (tl s) := by
  unfold resV at e
  split at e
  · obtain ⟨e1, e2⟩ := addrV_some e
    refine ⟨e2, ?_⟩
    rw [e1]
    exact adrT_asc (asc_low (partsH_asc (ref_asc ha))) (wdots_asc (partsS_asc (ref_asc ha)))
  · split at e
    · cases e
    · rename_i b
      obtain ⟨e1, e2⟩ := addrV_some e
      refine ⟨e2, ?_⟩
      rw [e1]
      exact adrT_asc (partsH_asc (hb b rfl)) (wdots_asc (segB_asc (partsS_asc (hb b rfl)) (ref_asc ha)))
end Toy
set_option Elab.async false
set_option linter.all false
set_option maxRecDepth 100000
set_option maxHeartbeats 8000000
namespace Toy
open PySem PySem.Spec PyProof.Rows L2 Tx TL
theorem ifs_inv2 {t : TT} {b1 b2 rest : TS} {D : Ends} {σ : L2.St} {H : Hp} (Pv : L2.St → Hp → Prop) (h : ∀ D' : Ends, (∀ σ1 H1, Pv σ1 H1 → D'.nx σ1 H1) → (∀ v H1, D.rt v H1 → D'.rt v H1) → tIfS t b1 b2 D' σ H) (q : ∀ σ1 H1, Pv σ1 H1 → rest D σ1 H1) :
    tSeq (tIfS t b1 b2) rest D σ H := h _ q (fun _ _ z => z)
theorem cut_one (a : Str) : decide (V.str (cutS a none (some 1)) = V.str "/") = Txt.startswith a "/" := by
  have l1 : (("/" : Str).length : Int) = 1 := by decide +kernel
  have csw := cut_sw (n := a) (x := "/") (by decide +kernel)
  rw [l1] at csw
  rw [Bool.eq_iff_iff, decide_eq_true_eq, ← csw]
  exact ⟨fun h => V.str.inj h, fun h => by rw [h]⟩
theorem cut_dbl (a : Str) : decide (V.str (cutS a none (some 2)) = V.str "//") = Txt.startswith a "//" := by
  have l1 : (("//" : Str).length : Int) = 2 := by decide +kernel
  have csw := cut_sw (n := a) (x := "//") (by decide +kernel)
  rw [l1] at csw
  rw [Bool.eq_iff_iff, decide_eq_true_eq, ← csw]
  exact ⟨fun h => V.str.inj h, fun h => by rw [h]⟩
theorem opn_take {segs : List Str} {i : Nat} {y : Str} (hy : segs[i]? = some y) : opn (segs.take (i + 1)) = dotP y := by
  rw [List.take_add_one, hy]
  exact opn_snoc _ _
theorem cutV_one (l : List V) : cutV l (some 1) none = l.drop 1 := by
  have e1 : HT.sIx l.length 0 (some 1) = min 1 l.length := HT.sIx_nat l.length 0 1
  show (l.drop (HT.sIx l.length 0 (some 1))).take (HT.sIx l.length l.length none - HT.sIx l.length 0 (some 1)) = _
  rw [e1, HT.sIx_none]
  cases l with
  | nil => rfl
  | cons x r =>
    rw [show min 1 (x :: r).length = 1 by simp only [List.length_cons]; omega]
    exact List.take_of_length_le (by simp)
def resR (base : Option Str) (r : Str) : Option Str := if Txt.startswith r "//" = true then addrV (Txt.lower (partsH r)) (partsS r) else match base with
  | none => none
  | some b => addrV (partsH b) (segB (partsS b) r)
section
variable {P : Program} {w : World} {K : PySem.W.Frag} {mg : Str → Option Value} {base : Heap}
def okB (base : Option Str) : Prop := ∀ b, base = some b → adrP b = true ∧ asc (tl b)
/-- what the law has found before it goes over the segments -/
def MidL (H : Hp) (ans : Option Str) (σ : L2.St) (H' : Hp) : Prop := ∃ (h Pt : Str) (segs : List Str) (x0 x1 x3 x5 x6 x7 : Option V),
  σ = [x0, x1, some (.str h), x3, some (.str Pt), x5, x6, x7, none, none, none, none] ∧ Same H H' ∧ ans = addrV h segs ∧ (Txt.split Pt "/").drop 1 = segs ∧ segs ≠ [] ∧ h.length + wt segs ≤ 480 ∧ asc (tl h) ∧ (∀ p ∈ segs, asc (tl p)) ∧ Pt.length ≤ 900
def sp__law_resolved : Sp := fun vs H Q _ => ∃ (base : Option Str) (a : Str), vs = [optV base, .str a] ∧ okB base ∧ a.length ≤ 200 ∧ asc (tl a) ∧ ∀ H', Same H H' → Q (optV (resV base a)) H'
theorem ok__law_resolved (T : Txt K mg) : FnOk P w K mg base CX0 3 T.a__law_resolved T.d__law_resolved ["base", "letters"] sp__law_resolved := by
  refine T.F__law_resolved.ok sc__law_resolved (fun vs H Q E h => ?_) (fun cdv A outer s H vs Q E hr h => ?_)
  · obtain ⟨b, a, rfl, _⟩ := h; rfl
  · obtain ⟨b, a, rfl, hb, hl, ha, q⟩ := h
    refine ⟨_, (pss_cons (ps_set (i := 1) sc__law_resolved.nd rfl (by first | exact Or.inl rfl | exact Or.inr rfl) (pe_ix ix_tup (pe_partition (pv 1) pe_str) pe_int (fun _ _ => rfl)))
        (pss_cons (ps_if (pt_cmpR op_eq (pe_slice sl_str (pv 1) po_none (po_some pe_int)) pe_str (nomark _)) (pss_cons (ps_asg (pe_partition (pe_slice sl_str (pv 1) (po_some pe_int) po_none) pe_str) (pg_tup rfl (pgs_cons (pg_name (i := 2) sc__law_resolved.nd rfl (Or.inl rfl)) (pgs_cons (pg_name (i := 3) sc__law_resolved.nd rfl (Or.inl rfl)) (pgs_cons (pg_name (i := 4) sc__law_resolved.nd rfl (Or.inl rfl)) pgs_nil)))))
        (pss_one (ps_par (i := 2) (j := 4) (by rfl) sc__law_resolved.nd rfl rfl (by decide) rfl rfl (pa_cons (pe_lower (pv 2)) (pa_cons (pe_op op_add_str pe_str (pv 4)) pa_nil)) (by rfl)))) (pss_one (ps_if (pt_cmpR op_isN (pv 0) pe_non (nomark _)) (pss_one (ps_ret pe_non)) (pss_cons (ps_asg (pe_partition (pe_slice sl_str (pv 0) (po_some pe_int) po_none) pe_str) (pg_tup rfl (pgs_cons (pg_name (i := 2) sc__law_resolved.nd rfl (Or.inl rfl)) (pgs_cons (pg_name (i := 3) sc__law_resolved.nd rfl (Or.inl rfl)) (pgs_cons (pg_name (i := 4) sc__law_resolved.nd rfl (Or.inl rfl)) pgs_nil)))))
        (pss_cons (ps_set (i := 5) sc__law_resolved.nd rfl (by first | exact Or.inl rfl | exact Or.inr rfl) (pe_op op_add_str pe_str (pv 4)))
        (pss_cons (ps_set (i := 6) sc__law_resolved.nd rfl (by first | exact Or.inl rfl | exact Or.inr rfl) (pe_ix ix_list (pe_split (pv 5) pe_str) (pe_un un_neg pe_int) (fun _ _ => rfl)))
        (pss_cons (ps_set (i := 7) sc__law_resolved.nd rfl (by first | exact Or.inl rfl | exact Or.inr rfl) (pe_op op_add_str (pe_slice sl_str (pv 5) po_none (po_some (pe_op op_sub (pe_callB call_len_str (by rfl) T.z_len PySem.boot_len (pa_cons (pv 5) pa_nil)) (pe_callB call_len_str (by rfl) T.z_len PySem.boot_len (pa_cons (pv 6) pa_nil))))) (pv 1)))
        (pss_cons (ps_set (i := 4) sc__law_resolved.nd rfl (by first | exact Or.inl rfl | exact Or.inr rfl) (pe_ifExp (pt_cmpR op_eq (pe_slice sl_str (pv 1) po_none (po_some pe_int)) pe_str (nomark _)) (pv 1) (pv 7)))
        (pss_one (ps_set (i := 4) sc__law_resolved.nd rfl (by first | exact Or.inl rfl | exact Or.inr rfl) (pe_ifExp (pt_cmpR op_eq (pv 1) pe_str (nomark _)) (pv 5) (pv 4))))))))))))
        (pss_cons (ps_par (i := 8) (j := 9) (by rfl) sc__law_resolved.nd rfl rfl (by decide) rfl rfl (pa_cons (pe_lst pa_nil) (pa_cons pe_bl pa_nil)) (by rfl))
        (pss_cons (ps_for PassesOwn.never rfl (pi_list (pe_slice sl_list (pe_split (pv 4) pe_str) (po_some pe_int) po_none)) (pg_name (i := 10) sc__law_resolved.nd rfl (Or.inl rfl)) (pss_cons (ps_set (i := 9) sc__law_resolved.nd rfl (by first | exact Or.inl rfl | exact Or.inr rfl) (pe_cmpR op_in_seq (pv 10) (pe_tup (pa_cons pe_str (pa_cons pe_str pa_nil))) (by with_unfolding_all rfl)))
        (pss_one (ps_if (pt_cmpR op_eq (pv 10) pe_str (nomark _)) (pss_one (ps_set (i := 8) sc__law_resolved.nd rfl (by first | exact Or.inl rfl | exact Or.inr rfl) (pe_slice sl_list (pv 8) po_none (po_some (pe_un un_neg pe_int))))) (pss_one (ps_if (pt_cmpR op_ne (pv 10) pe_str (nomark _)) (pss_one (ps_set (i := 8) sc__law_resolved.nd rfl (by first | exact Or.inl rfl | exact Or.inr rfl) (pe_op Vz.op_catR (pv 8) (pe_lst (pa_cons (pv 10) pa_nil))))) pss_nil))))))
        (pss_cons (ps_set (i := 11) sc__law_resolved.nd rfl (by first | exact Or.inl rfl | exact Or.inr rfl) (pe_op op_add_str (pe_op op_add_str (pe_op op_add_str pe_str (pv 2)) pe_str) (pe_join pe_str (pe_ifExp (pt_val (pv 9)) (pe_op Vz.op_catR (pv 8) (pe_lst (pa_cons pe_str pa_nil))) (pv 8)))))
        (pss_one (ps_ret (pe_ifExp (pt_val (pe_call (ok__law_is_address T) (hr.mono (by decide)) (by rfl) T.g__law_is_address T.F__law_is_address.kp T.b__law_is_address .nil pass0 (pa_cons (pv 11) pa_nil))) (pv 11) pe_non)))))))), ?_⟩
    refine ⟨_, rfl, ⟨_, rfl⟩, a, "#", rfl, rfl, (by decide +kernel), (by rw [sizeLine_eq]; omega), fun p2 n2 => ?_⟩
    have s2 := same_new (o := .tup [.str (Txt.partition a "#").1, .str (Txt.partition a "#").2.1, .str (Txt.partition a "#").2.2]) n2
    refine ⟨p2, _, 0, _, rfl, rfl, SqT.of upd_same, rfl, ?_⟩
    have rs := ref_small a
    have ra := ref_asc ha
    have er : (Txt.partition a "#").1 = refP a := rfl
    rw [er] at s2 ⊢
    have ev : resV b a = resR b (refP a) := rfl
    generalize refP a = r at *
    generalize upd H p2 (.tup [.str r, .str (Txt.partition a "#").2.1, .str (Txt.partition a "#").2.2]) = H2 at *
    generalize resV b a = ans at *
    unfold resR at ev
    obtain ⟨ps1, ps2, ps3⟩ := parts_small r
    have hz : r.length ≤ sizeLine := by rw [sizeLine_eq]; omega
    dsimp only [gName]
    refine ifs_inv2 (MidL H ans) (fun D' rn rr => ?_) (fun σ3 H3 k3 => ?_)
    · refine ⟨_, rfl, ?_⟩
      dsimp only [tNoPart]
      refine ⟨2, rfl, r, rfl, hz, rfl, _, rfl, ?_⟩
      rw [cut_dbl]
      cases c : Txt.startswith r "//" with
      | true =>
        rw [if_pos c] at ev
        refine iteT ?_
        have lc := cutS_length r (some 2) none
        refine ⟨_, rfl, 2, rfl, ?_⟩
        dsimp only [tNoPart]
        refine ⟨r, rfl, hz, ⟨_, rfl⟩, _, "/", rfl, rfl, (by decide +kernel), (by rw [sizeLine_eq]; omega), fun p3 n3 => ?_⟩
        have s3 := same_new (o := .tup [.str (Txt.partition (cutS r (some 2) none) "/").1, .str (Txt.partition (cutS r (some 2) none) "/").2.1, .str (Txt.partition (cutS r (some 2) none) "/").2.2]) n3
        refine ⟨p3, _, rfl, SqT.of upd_same, rfl, _, _, rfl, _, _, rfl, _, _, rfl, rfl, ?_⟩
        have pa := partsH_asc ra
        have pt : (Txt.partition (cutS r (some 2) none) "/").2.2.length ≤ 300 := by
          have := (Tx.partition_len (x := cutS r (some 2) none) (y := "/") (by decide +kernel)).2
          omega
        have eh : (Txt.partition (cutS r (some 2) none) "/").1 = partsH r := rfl
        have es : partsS r = Txt.split (Txt.partition (cutS r (some 2) none) "/").2.2 "/" := rfl
        rw [eh] at s3 ⊢
        have l1 : ("/" : Str).length = 1 := by decide +kernel
        refine ⟨_, rfl, ⟨_, rfl⟩, partsH r, rfl, rfl, by omega, _, rfl, _, _, rfl, rfl, (by rw [sizeLine_eq, l1]; omega), ?_⟩
        dsimp only [tNil]
        refine ⟨_, _, rfl, ?_⟩
        refine rn _ _ ⟨Txt.lower (partsH r), "/" ++ (Txt.partition (cutS r (some 2) none) "/").2.2, partsS r, _, _, _, _, _, _, rfl, s2.trans s3, ev, ?_, ps3, ?_, asc_low pa, partsS_asc ra, ?_⟩
        · rw [split_front, es]; rfl
        · rw [low_len pa]; omega
        · rw [strLen_append, l1]; omega
      | false =>
        rw [if_neg (by rw [c]; decide)] at ev
        refine iteF ?_
        refine ⟨_, rfl, rfl, _, rfl, ?_⟩
        cases b with
        | none =>
          refine ite2 (fun _ => ?_) (fun c => absurd (by decide) c)
          have ev : ans = none := ev
          subst ev
          exact rr _ _ (q H2 s2)
        | some b =>
          have ev : ans = addrV (partsH b) (segB (partsS b) r) := ev
          obtain ⟨hb1, hb2⟩ := hb b rfl
          have lb := adr_len hb1
          obtain ⟨bs1, bs2, bs3⟩ := parts_small b
          obtain ⟨gs1, gs2⟩ := segB_small (r := r) bs3
          refine ite2 (fun c => absurd (of_decide_eq_true c) (by simp [optV])) (fun _ => ?_)
          have zb : b.length ≤ sizeLine := by rw [sizeLine_eq]; omega
          have lc := cutS_length b (some 2) none
          refine ⟨_, rfl, 2, rfl, ?_⟩
          dsimp only [tNoPart]
          refine ⟨b, rfl, zb, ⟨_, rfl⟩, _, "/", rfl, rfl, (by decide +kernel), (by rw [sizeLine_eq]; omega), fun p3 n3 => ?_⟩
          have s3 := same_new (o := .tup [.str (Txt.partition (cutS b (some 2) none) "/").1, .str (Txt.partition (cutS b (some 2) none) "/").2.1, .str (Txt.partition (cutS b (some 2) none) "/").2.2]) n3
          refine ⟨p3, _, rfl, SqT.of upd_same, rfl, _, _, rfl, _, _, rfl, _, _, rfl, rfl, ?_⟩
          have pa := partsH_asc hb2
          have pt : (Txt.partition (cutS b (some 2) none) "/").2.2.length ≤ 120 := by
            have := (Tx.partition_len (x := cutS b (some 2) none) (y := "/") (by decide +kernel)).2
            omega
          have eh : (Txt.partition (cutS b (some 2) none) "/").1 = partsH b := rfl
          have eS : partsS b = Txt.split (Txt.partition (cutS b (some 2) none) "/").2.2 "/" := rfl
          rw [eh] at s3 ⊢
          generalize upd H2 p3 (.tup [.str (partsH b), .str (Txt.partition (cutS b (some 2) none) "/").2.1, .str (Txt.partition (cutS b (some 2) none) "/").2.2]) = H3 at *
          generalize (Txt.partition (cutS b (some 2) none) "/").2.2 = path at *
          have l1 : ("/" : Str).length = 1 := by decide +kernel
          have lf : ("/" ++ path : Str).length = path.length + 1 := by rw [strLen_append, l1]; omega
          refine ⟨_, rfl, _, _, rfl, rfl, (by rw [sizeLine_eq, l1]; omega), ?_⟩
          obtain ⟨xs, v, exs⟩ : ∃ xs v, Txt.split path "/" = xs ++ [v] := by
            rcases List.eq_nil_or_concat (Txt.split path "/") with h | ⟨xs, v, h⟩
            · exact absurd (eS.trans h) bs3
            · exact ⟨xs, v, by rw [h, List.concat_eq_append]⟩
          obtain ⟨qq, efr, eqs⟩ := front_cut exs
          have at1 : atI ((Txt.split ("/" ++ path) "/").map V.str) (-1) = some (.str v) := by
            rw [split_front, exs, List.map_cons, List.map_append]
            exact atI_last (V.str "" :: xs.map V.str) (V.str v)
          refine ⟨_, rfl, ⟨_, rfl⟩, _, "/", rfl, rfl, (by decide +kernel), (by rw [sizeLine_eq]; omega), fun p4 n4 => ?_⟩
          have s4 := same_new (o := .lst ((Txt.split ("/" ++ path) "/").map V.str)) n4
          refine ⟨1, rfl, p4, _, -1, _, rfl, rfl, SqL.of upd_same, at1, ?_⟩
          have zf : ("/" ++ path : Str).length ≤ sizeLine := by rw [sizeLine_eq]; omega
          have lv : v.length ≤ path.length + 1 := by
            have h2 := congrArg Str.length efr
            rw [strLen_append, strLen_append, strLen_append] at h2
            omega
          have ecut := cut_back_len qq v
          rw [← efr] at ecut
          have lq : (qq ++ "/" : Str).length ≤ path.length + 1 := by
            have h2 := congrArg Str.length efr
            rw [strLen_append, strLen_append _ v] at h2
            omega
          refine ⟨_, rfl, ?_⟩
          dsimp only [tNoPart]
          refine ⟨_, rfl, _, rfl, zf, _, rfl, v, rfl, (by rw [sizeLine_eq]; omega), _, _, rfl, rfl, _, rfl, _, rfl, zf, ?_⟩
          rw [ecut]
          refine ⟨_, rfl, _, _, rfl, rfl, (by rw [sizeLine_eq]; omega), ?_⟩
          refine ⟨_, rfl, ?_⟩
          dsimp only [tNoPart]
          refine ⟨1, rfl, r, rfl, hz, rfl, _, rfl, ?_⟩
          rw [cut_one]
          have sAll := (s2.trans s3).trans s4
          have ebs : segB (partsS b) r = if r = "" then partsS b else if Txt.startswith r "/" = true then Txt.split (cutS r (some 1) none) "/" else (partsS b).dropLast ++ Txt.split r "/" := rfl
          have fin : ∀ (Pt : Str), (Txt.split Pt "/").drop 1 = segB (partsS b) r → Pt.length ≤ 900 → ∀ x0 x1 x3 x5 x6 x7, D'.nx [x0, x1, some (.str (partsH b)), x3, some (.str Pt), x5, x6, x7, none, none, none, none] (upd H3 p4 (.lst ((Txt.split ("/" ++ path) "/").map V.str))) := fun Pt e1 e2 x0 x1 x3 x5 x6 x7 =>
            rn _ _ ⟨partsH b, Pt, segB (partsS b) r, x0, x1, x3, x5, x6, x7, rfl, sAll, ev, e1, gs2, by omega, pa, segB_asc (partsS_asc hb2) ra, e2⟩
          cases c1 : Txt.startswith r "/" with
          | true =>
            have er := sw_one c1
            have ne : r ≠ "" := fun z => by rw [z] at c1; exact absurd c1 (by decide +kernel)
            rw [if_neg ne, if_pos c1] at ebs
            refine iteT ?_
            refine ⟨_, rfl, ?_⟩
            refine ⟨_, rfl, rfl, _, rfl, ?_⟩
            refine ite2 (fun c => absurd (V.str.inj (of_decide_eq_true c)) ne) (fun _ => ?_)
            refine ⟨_, rfl, ?_⟩
            refine fin r ?_ (by omega) _ _ _ _ _ _
            rw [ebs, er, split_front, ← er]; rfl
          | false =>
            refine iteF ?_
            refine ⟨_, rfl, ?_⟩
            refine ⟨_, rfl, rfl, _, rfl, ?_⟩
            refine ite2 (fun c => ?_) (fun c => ?_)
            · have e : r = "" := V.str.inj (of_decide_eq_true c)
              rw [if_pos e] at ebs
              refine ⟨_, rfl, ?_⟩
              refine fin _ ?_ (by omega) _ _ _ _ _ _
              rw [ebs, split_front, eS]; rfl
            · have e : r ≠ "" := fun z => c (by rw [z]; exact decide_eq_true rfl)
              rw [if_neg e, if_neg (by rw [c1]; decide)] at ebs
              refine ⟨_, rfl, ?_⟩
              refine fin _ ?_ (by rw [strLen_append]; omega) _ _ _ _ _ _
              rw [ebs, split_add, eqs, eS, exs, List.dropLast_concat]; rfl
    obtain ⟨h, Pt, segs, x0, x1, x3, x5, x6, x7, rfl, s3, rfl, es, sn, sw, ah, as, lP⟩ := k3
    refine ⟨(by show 0 ≤ sizeLine; decide), fun k4 n4 => ?_⟩
    dsimp only [tNil]
    refine ⟨_, _, rfl, ?_⟩
    have s4 := same_new (o := .lst []) n4
    refine ⟨_, rfl, ⟨_, rfl⟩, Pt, "/", rfl, rfl, (by decide +kernel), (by rw [sizeLine_eq]; omega), fun p5 n5 => ?_⟩
    have s5 := same_new (o := .lst ((Txt.split Pt "/").map V.str)) n5
    refine ⟨1, rfl, ?_⟩
    dsimp only [tNoPart]
    refine ⟨p5, _, rfl, SqL.of upd_same, fun p6 n6 => ?_⟩
    rw [cutV_one, ← List.map_drop, es]
    have s6 := same_new (o := .lst (segs.map V.str)) n6
    have h4 := s6 _ _ (s5 _ _ (upd_same (H := H3) (a := k4) (o := .lst [])))
    have h6 := upd_same (H := upd (upd H3 k4 (.lst [])) p5 (.lst ((Txt.split Pt "/").map V.str))) (a := p6) (o := .lst (segs.map V.str))
    have sA := ((s3.trans s4).trans s5).trans s6
    generalize upd (upd (upd H3 k4 (.lst [])) p5 (.lst ((Txt.split Pt "/").map V.str))) p6 (.lst (segs.map V.str)) = H6 at *
    refine ⟨p6, rfl, ⟨_, SqL.of h6⟩, ?_⟩
    have lw : ∀ i, (goS (segs.take i)).length ≤ 480 := fun i => by
      have a1 := len_wt (goS (segs.take i))
      have a2 := wt_go (segs.take i)
      have a3 : wt segs = wt (segs.take i) + wt (segs.drop i) := by rw [← wt_append, List.take_append_drop]
      omega
    refine for_list (D := ⟨_, _, fun _ _ => False, fun _ _ => False⟩) (xs := segs.map V.str) (fun i σ H' => ∃ (k : Addr) (x10 : Option V), σ = [x0, x1, some (.str h), x3, some (.str Pt), x5, x6, x7, some (.ref k), some (.bl (opn (segs.take i))), x10, none] ∧ Same H6 H' ∧ H' k = some (.lst ((goS (segs.take i)).map V.str))) ⟨k4, none, rfl, fun _ _ e => e, h4⟩ ?_ ?_ ?_
    · rintro i σ H' _ ⟨k, x10, _, e, _⟩
      exact SqL.of (e _ _ h6)
    · rintro i x σ H7 hx2 ⟨k, x10, rfl, s7, hk⟩
      rw [List.getElem?_map] at hx2
      obtain ⟨y, hy, rfl⟩ := Option.map_eq_some_iff.mp hx2
      have gn := goS_next hy
      have on := opn_take hy
      have lk := lw i
      refine ⟨_, rfl, (by show 2 ≤ sizeLine; decide), fun p8 n8 => ?_⟩
      have s8 := same_new (o := .tup [.str ".", .str ".."]) n8
      refine ⟨p8, _, rfl, .inr (SqT.of upd_same), rfl, (by decide +kernel), ?_⟩
      have ed : inV (.str y) [.str ".", .str ".."] = dotP y := rfl
      rw [if_neg (by decide), ed, ← on]
      refine ⟨_, rfl, rfl, _, rfl, ?_⟩
      unfold goStep at gn
      refine ite2 (fun c => ?_) (fun c => ?_)
      · have d2 : y = ".." := V.str.inj (of_decide_eq_true c)
        rw [if_pos d2] at gn
        refine ⟨_, rfl, ?_⟩
        dsimp only [tNoPart]
        refine ⟨1, rfl, -1, rfl, k, _, rfl, SqL.of (s8 _ _ hk), fun p9 n9 => ?_⟩
        refine ⟨p9, _, rfl, (s7.trans s8).trans (same_new n9), ?_⟩
        rw [upd_same, cutV_init, gn, List.map_dropLast]
      · have d2 : y ≠ ".." := fun z => c (by rw [z]; exact decide_eq_true rfl)
        rw [if_neg d2] at gn
        refine ⟨_, rfl, rfl, _, rfl, ?_⟩
        refine ite2 (fun c => ?_) (fun c => ?_)
        · have d1 : y ≠ "." := fun z => by rw [z] at c; exact absurd c (by decide)
          rw [if_neg d1] at gn
          refine ⟨_, rfl, _, rfl, (by show 1 ≤ sizeLine; decide), fun p9 n9 => ?_⟩
          have s9 := same_new (o := .lst [V.str y]) n9
          refine ⟨k, p9, _, _, rfl, rfl, SqL.of (s9 _ _ (s8 _ _ hk)), SqL.of upd_same, ?_, fun p10 n10 => ?_⟩
          · rw [List.length_map, sizeLine_eq]; simp only [List.length_cons, List.length_nil]; omega
          · refine ⟨p10, _, rfl, ((s7.trans s8).trans s9).trans (same_new n10), ?_⟩
            rw [upd_same, gn, List.map_append]; rfl
        · have d1 : y = "." := by
            have : decide (V.str y = V.str ".") = true := by
              cases e : decide (V.str y = V.str ".") with
              | true => rfl
              | false => rw [e] at c; exact absurd rfl c
            exact V.str.inj (of_decide_eq_true this)
          rw [if_pos d1] at gn
          exact ⟨k, _, rfl, s7.trans s8, by rw [s8 _ _ hk, gn]⟩
    rintro σ H8 ⟨p8, x10, rfl, s7, h8⟩
    rw [List.length_map, List.take_length] at h8
    have lks := lw segs.length
    rw [List.take_length] at lks
    have lh : ("//" : Str).length = 2 := by decide +kernel
    have ls : ("/" : Str).length = 1 := by decide +kernel
    have ww := wt_wdots segs
    have sww := sum_wt (wdots segs)
    have jl := join_wt (wdots segs)
    have s8 := sA.trans s7
    have al := adrT_len h (wdots segs)
    have az := adrT_asc ah (wdots_asc as)
    have eD : wdots segs = if opn segs = true then goS segs ++ [("" : Str)] else goS segs := rfl
    have eZ : "//" ++ h ++ "/" ++ Txt.join "/" (wdots segs) = adrT h (wdots segs) := rfl
    refine ⟨_, rfl, _, _, rfl, rfl, (by rw [sizeLine_eq, lh]; omega), _, _, rfl, rfl, (by rw [sizeLine_eq, strLen_append, lh, ls]; omega), ⟨_, rfl⟩, ?_⟩
    refine ⟨_, rfl, _, rfl, ?_⟩
    have eL : opn (segs.take (segs.map V.str).length) = opn segs := by rw [List.length_map, List.take_length]
    rw [eL]
    cases co : opn segs with
    | true =>
      rw [if_pos co] at eD
      refine iteT ?_
      refine ⟨_, rfl, (by show 1 ≤ sizeLine; decide), fun p9 n9 => ?_⟩
      have s9 := same_new (o := .lst [V.str ""]) n9
      refine ⟨p8, p9, _, _, rfl, rfl, SqL.of (s9 _ _ h8), SqL.of upd_same, ?_, fun p10 n10 => ?_⟩
      · rw [List.length_map, sizeLine_eq]; simp only [List.length_cons, List.length_nil]; omega
      have s10 := same_new (o := .lst ((goS segs).map V.str ++ [V.str ""])) n10
      refine ⟨"/", p10, wdots segs, rfl, rfl, .inl (SqL.of (by rw [upd_same, eD, List.map_append]; rfl)), by rw [ls]; omega, _, _, rfl, rfl, ?_, ?_⟩
      · rw [sizeLine_eq, strLen_append, strLen_append, lh, ls]; omega
      have s11 := (s8.trans s9).trans s10
      generalize upd (upd H8 p9 (.lst [V.str ""])) p10 (.lst ((goS segs).map V.str ++ [V.str ""])) = H11 at *
      rw [eZ]
      unfold addrV at q
      generalize adrT h (wdots segs) = z at *
      refine ⟨_, rfl, 0, .str z, "str", rfl, .str z, (by show z.length ≤ 500; omega), az, fun H9 s9 => ⟨_, rfl, ?_⟩⟩
      have ez : adrV (.str z) = adrP z := rfl
      rw [ez]
      cases c : adrP z with
      | true =>
        rw [if_pos c] at q
        refine iteT ?_
        exact ⟨_, rfl, q H9 (s11.trans s9)⟩
      | false =>
        rw [if_neg (by rw [c]; decide)] at q
        refine iteF ?_
        exact q H9 (s11.trans s9)
    | false =>
      rw [if_neg (by rw [co]; decide)] at eD
      refine iteF ?_
      refine ⟨_, rfl, ?_⟩
      refine ⟨"/", p8, wdots segs, rfl, rfl, .inl (SqL.of (by rw [h8, eD])), by rw [ls]; omega, _, _, rfl, rfl, ?_, ?_⟩
      · rw [sizeLine_eq, strLen_append, strLen_append, lh, ls]; omega
      rw [eZ]
      unfold addrV at q
      generalize adrT h (wdots segs) = z at *
      refine ⟨_, rfl, 0, .str z, "str", rfl, .str z, (by show z.length ≤ 500; omega), az, fun H9 s9 => ⟨_, rfl, ?_⟩⟩
      have ez : adrV (.str z) = adrP z := rfl
      rw [ez]
      cases c : adrP z with
      | true =>
        rw [if_pos c] at q
        refine iteT ?_
        exact ⟨_, rfl, q H9 (s8.trans s9)⟩
      | false =>
        rw [if_neg (by rw [c]; decide)] at q
        refine iteF ?_
        exact q H9 (s8.trans s9)
end
end Toy
set_option Elab.async false
set_option linter.all false
set_option maxRecDepth 100000
set_option maxHeartbeats 8000000
namespace Toy
open PySem PySem.Spec PyProof.Rows L2 Tx TL
theorem part_none {a : Str} (h : 35 ∉ tl a) : refP a = a := by
  have t : tl ("#" : Str) = [35] := by decide +kernel
  unfold refP
  rw [partition_par _ _ (by rw [t]; simp), t, par_none1 (s := 35) (S := []) h]
theorem part_some {a : Str} (h : (Txt.partition a "/").2.1 = ("/" : Str)) : a = (Txt.partition a "/").1 ++ "/" ++ (Txt.partition a "/").2.2 := by
  rw [partition_par _ _ (by rw [tl_slash]; simp)] at h ⊢
  cases hp : par (tl "/") [] (tl a) with
  | none =>
    rw [hp] at h
    have h : Str.empty = ("/" : Str) := h
    exact absurd h (by decide +kernel)
  | some pr =>
    obtain ⟨p, r⟩ := pr
    have e := par_some _ _ _ _ hp
    rw [List.nil_append] at e
    apply ext_tl
    rw [tl_append, tl_append, List.append_assoc]
    exact e
theorem sw_two_eq {s : Str} (h : Txt.startswith s "//" = true) : s = "//" ++ cutS s (some 2) none := by
  have t2 : tl ("//" : Str) = [47, 47] := by decide +kernel
  rw [sw_pre (by rw [t2]; simp), t2] at h
  apply ext_tl
  have e1 : HT.sIx s.length 0 (some 2) = min 2 s.length := HT.sIx_nat s.length 0 2
  have et : tl (cutS s (some 2) none) = (tl s).drop 2 := by
    show ((tl s).drop (HT.sIx s.length 0 (some 2))).take (HT.sIx s.length s.length none - HT.sIx s.length 0 (some 2)) = _
    rw [e1, HT.sIx_none]
    have lr := len_tl s
    by_cases c : 2 ≤ s.length
    · rw [Nat.min_eq_left c, List.take_of_length_le (by rw [List.length_drop]; omega)]
    · rw [Nat.min_eq_right (by omega), Nat.sub_self, List.take_zero]
      rw [List.drop_of_length_le (by omega)]
  rw [tl_append, t2, et]
  unfold pre at h
  have h : (tl s).take 2 = [47, 47] := by simpa using h
  rw [← h, List.take_append_drop]
theorem adr_eq {s : Str} (h : adrP s = true) : s = adrT (partsH s) (partsS s) ∧ hostP (partsH s) = true ∧ (∀ p ∈ partsS s, segP p = true) ∧ Txt.startswith s "//" = true := by
  unfold adrP at h
  simp only [Bool.and_eq_true] at h
  obtain ⟨⟨_, h1⟩, h2⟩ := h
  have h2' : (decide ((Txt.partition (cutS s (some 2) none) "/").2.1 = "/") && hostP (partsH s) && (partsS s).all segP) = true := h2
  simp only [Bool.and_eq_true, decide_eq_true_eq] at h2'
  obtain ⟨⟨m, hh⟩, hs⟩ := h2'
  have e1 := sw_two_eq h1
  have e2 := part_some m
  have e3 : Txt.join "/" (partsS s) = (Txt.partition (cutS s (some 2) none) "/").2.2 := split_back _
  refine ⟨?_, hh, List.all_eq_true.mp hs, h1⟩
  unfold adrT
  rw [e3, str_assoc "//" (partsH s) "/", str_assoc "//" (partsH s ++ "/") _]
  have e4 : partsH s ++ "/" ++ (Txt.partition (cutS s (some 2) none) "/").2.2 = cutS s (some 2) none := e2.symm
  rw [e4]
  exact e1
theorem mem_join {c : Nat} {y : Str} {ws : List Str} (h : c ∈ tl (Txt.join y ws)) : c ∈ tl y ∨ ∃ p ∈ ws, c ∈ tl p := by
  rw [join_eq, tl_join] at h
  rcases mem_joinL _ h with z | ⟨p, hp, z⟩
  · exact .inl z
  · obtain ⟨u, hu, rfl⟩ := List.mem_map.mp hp
    exact .inr ⟨u, hu, z⟩
theorem split_dot (a : Str) : Txt.join "." (Txt.split a ".") = a := by
  have td : tl ("." : Str) = [46] := by decide +kernel
  refine ext_tl ?_
  rw [join_eq, tl_join, td, split_spl a "." (by rw [td]; simp) (kind_ok (by decide +kernel)), td, joinL_spl1]
  rfl
theorem host_sign {h : Str} (hh : hostP h = true) {c : Nat} (hc : c ∈ tl h) : c ∈ lsig.cps.toList ∨ c = 46 := by
  unfold hostP at hh
  rw [Bool.and_eq_true] at hh
  rw [← split_dot h] at hc
  rcases mem_join hc with z | ⟨p, hp, z⟩
  · have td : tl ("." : Str) = [46] := by decide +kernel
    rw [td] at z
    exact .inr (List.mem_singleton.mp z)
  · have l := List.all_eq_true.mp hh.2 p hp
    unfold labP allIn at l
    simp only [Bool.and_eq_true] at l
    exact .inl (of_decide_eq_true (List.all_eq_true.mp l.2 c z))
theorem seg_in {p : Str} (hp : segP p = true) {c : Nat} (hc : c ∈ tl p) : c ∈ ssig.cps.toList := by
  unfold segP allIn at hp
  simp only [Bool.and_eq_true] at hp
  exact of_decide_eq_true (List.all_eq_true.mp hp.2 c hc)
theorem adr_nohash {s : Str} (h : adrP s = true) : 35 ∉ tl s := by
  obtain ⟨e, hh, hs, _⟩ := adr_eq h
  intro hc
  rw [e] at hc
  unfold adrT at hc
  rw [tl_append, tl_append, tl_append] at hc
  have t2 : tl ("//" : Str) = [47, 47] := by decide +kernel
  rw [t2, tl_slash] at hc
  rcases List.mem_append.mp hc with hc | hc
  · rcases List.mem_append.mp hc with hc | hc
    · rcases List.mem_append.mp hc with hc | hc
      · exact absurd hc (by decide)
      · rcases host_sign hh hc with z | z
        · exact absurd z (by decide +kernel)
        · cases z
    · exact absurd hc (by decide)
  · rcases mem_join hc with z | ⟨p, hp, z⟩
    · rw [tl_slash] at z; exact absurd z (by decide)
    · exact absurd (seg_in (hs p hp) z) (by decide +kernel)
theorem host_low {h : Str} (hh : hostP h = true) (ha : asc (tl h)) : Txt.lower h = h := by
  apply ext_tl
  rw [low_tl ha]
  have : ∀ l : List Nat, (∀ c ∈ l, c ∈ lsig.cps.toList ∨ c = 46) → l.map lo1 = l := by
    intro l
    induction l with
    | nil => intro _; rfl
    | cons c r ih =>
      intro hl
      rw [List.map_cons, ih fun x hx => hl x (List.mem_cons_of_mem _ hx)]
      have e : lo1 c = c := by
        rcases hl c (by simp) with z | z
        · exact (by decide +kernel : ∀ x ∈ lsig.cps.toList, lo1 x = x) c z
        · rw [z]; decide
      rw [e]
  exact this _ fun c hc => host_sign hh hc
theorem seg_dot {p : Str} (hp : segP p = true) : dotP p = false := by
  unfold segP at hp
  simp only [Bool.and_eq_true, Bool.not_eq_true'] at hp
  exact hp.1.2
theorem wdots_same {segs : List Str} (h : ∀ p ∈ segs, segP p = true) : wdots segs = segs := by
  have hd : ∀ p ∈ segs, dotP p = false := fun p hp => seg_dot (h p hp)
  have ho : opn segs = false := by
    unfold opn
    cases e : segs.getLast? with
    | none => rfl
    | some l => exact hd l (List.mem_of_getLast? e)
  unfold wdots
  rw [if_neg (by rw [ho]; decide), go_none hd]
theorem addr_same {s : Str} (h : adrP s = true) : addrV (partsH s) (partsS s) = some s := by
  obtain ⟨e, hh, hs, _⟩ := adr_eq h
  unfold addrV
  rw [wdots_same hs, ← e, if_pos h]
theorem res_same {s : Str} (h : adrP s = true) (ha : asc (tl s)) (base : Option Str) : resV base s = some s := by
  obtain ⟨e, hh, hs, h1⟩ := adr_eq h
  unfold resV
  rw [part_none (adr_nohash h), if_pos h1, host_low hh (partsH_asc ha)]
  exact addr_same h
theorem res_empty {b : Str} (h : adrP b = true) : resV (some b) "" = some b := by
  have e1 : refP "" = ("" : Str) := by decide +kernel
  have e2 : Txt.startswith "" "//" = false := by decide +kernel
  unfold resV
  rw [e1, if_neg (by rw [e2]; decide)]
  have e3 : segB (partsS b) "" = partsS b := by unfold segB; rw [if_pos rfl]
  show addrV (partsH b) (segB (partsS b) "") = some b
  rw [e3]
  exact addr_same h
end Toy
set_option Elab.async false
set_option linter.all false
set_option maxRecDepth 100000
set_option maxHeartbeats 8000000
namespace Toy
open PySem PySem.Spec PyProof.Rows L2 Tx TL
theorem min_or (x y : Str) : Vz.minS x y = x ∨ Vz.minS x y = y := by
  unfold Vz.minS
  split
  · exact .inr rfl
  · exact .inl rfl
theorem kD_lt {x y : Str} (h : x.length ≠ y.length) : PySem.W.dataLt (Vz.kD x) (Vz.kD y) = decide (x.length < y.length) := by
  unfold Vz.kD
  have e : PyData.eqv (.int x.length) (.int y.length) = false := by
    show (((x.length : Int)) == ((y.length : Int))) = false
    rw [beq_eq_false_iff_ne]; omega
  rw [PySem.W.dataLt_tuple, PySem.W.dataLt_all_no rfl e, PySem.W.dataLt_int]
  rw [Bool.eq_iff_iff, decide_eq_true_eq, decide_eq_true_eq]; omega
theorem min_len (x y : Str) : (Vz.minS x y).length ≤ x.length ∧ (Vz.minS x y).length ≤ y.length := by
  by_cases h : y.length = x.length
  · rcases min_or x y with e | e <;> rw [e] <;> omega
  · unfold Vz.minS
    rw [kD_lt h]
    split
    · rename_i c
      have := of_decide_eq_true c
      omega
    · rename_i c
      have : ¬ y.length < x.length := fun z => c (decide_eq_true z)
      omega
/-! ### the common beginning -/
def shc : List Str → List Str → Nat
  | a :: l, b :: m => if a = b then shc l m + 1 else 0
  | _, _ => 0
theorem shc_nil (l : List Str) : shc l [] = 0 := by cases l <;> rfl
theorem shc_le : ∀ l m : List Str, shc l m ≤ l.length ∧ shc l m ≤ m.length
  | [], m => ⟨Nat.zero_le _, Nat.zero_le _⟩
  | a :: l, [] => ⟨Nat.zero_le _, Nat.zero_le _⟩
  | a :: l, b :: m => by
    have := shc_le l m
    unfold shc
    split
    · simp only [List.length_cons]; omega
    · exact ⟨Nat.zero_le _, Nat.zero_le _⟩
theorem shc_take : ∀ l m : List Str, l.take (shc l m) = m.take (shc l m)
  | [], m => by rw [show shc [] m = 0 from rfl]; rfl
  | a :: l, [] => rfl
  | a :: l, b :: m => by
    unfold shc
    split
    · rename_i e
      rw [e, List.take_succ_cons, List.take_succ_cons, shc_take l m]
    · rfl
/-! ### the ways -/
def upsL (f g : List Str) : List Str := List.replicate (f.length - shc f g.dropLast) ".."
def restL (f g : List Str) : List Str := g.drop (shc f g.dropLast)
def rootW (g : List Str) : Str := (if 1 < g.length ∧ g.head? = some "" then "/." else "") ++ "/" ++ Txt.join "/" g
def foldW (f g : List Str) : Str :=
  if restL f g = [("" : Str)] then (if upsL f g = [] then "." else Txt.join "/" (upsL f g))
  else if upsL f g = [] ∧ (restL f g).head? = some "" then "./" ++ Txt.join "/" (restL f g)
  else Txt.join "/" (upsL f g ++ restL f g)
def shortV (b a : Str) : Str :=
  if b = a then "" else if partsH b = partsH a then Vz.minS (rootW (partsS a)) (foldW (partsS b).dropLast (partsS a))
  else if partsS a = [("" : Str)] then "//" ++ partsH a else a
theorem rest_ne {f g : List Str} (h : g ≠ []) : restL f g ≠ [] := by
  unfold restL
  have h1 := (shc_le f g.dropLast).2
  rw [List.length_dropLast] at h1
  have h2 : 0 < g.length := List.length_pos_iff.mpr h
  intro z
  have := List.drop_eq_nil_iff.mp z
  omega
theorem take_rest {f g : List Str} (h : g ≠ []) : f.take (shc f g.dropLast) ++ restL f g = g := by
  have h1 := (shc_le f g.dropLast).2
  have e : f.take (shc f g.dropLast) = g.take (shc f g.dropLast) := by
    rw [List.length_dropLast] at h1
    rw [shc_take]
    generalize shc f g.dropLast = k at *
    rw [List.dropLast_eq_take, List.take_take]
    congr 1
    omega
  unfold restL
  rw [e, List.take_append_drop]
theorem go_app (a b : List Str) : goS (a ++ b) = b.foldl goStep (goS a) := by unfold goS; rw [List.foldl_append]
theorem fold_none {l : List Str} (acc : List Str) (hx : ∀ x ∈ l, dotP x = false) : l.foldl goStep acc = acc ++ l := by
  induction l generalizing acc with
  | nil => simp
  | cons x r ih =>
    have hd := hx x (by simp)
    rw [dot_eq, Bool.or_eq_false_iff, decide_eq_false_iff_not, decide_eq_false_iff_not] at hd
    have e : goStep acc x = acc ++ [x] := by unfold goStep; rw [if_neg hd.1, if_neg hd.2]
    rw [List.foldl_cons, e, ih _ fun y hy => hx y (List.mem_cons_of_mem _ hy), List.append_assoc]
    rfl
theorem fold_ups (u : Nat) : ∀ acc : List Str, (List.replicate u ("..": Str)).foldl goStep acc = acc.take (acc.length - u) := by
  induction u with
  | zero => intro acc; rw [Nat.sub_zero, List.take_length]; rfl
  | succ u ih =>
    intro acc
    rw [List.replicate_succ, List.foldl_cons]
    have e : goStep acc ".." = acc.dropLast := by unfold goStep; rw [if_pos rfl]
    rw [e, ih, List.length_dropLast, List.dropLast_eq_take, List.take_take]
    congr 1
    omega
theorem go_ups {f g : List Str} (hf : ∀ x ∈ f, dotP x = false) : goS (f ++ upsL f g) = f.take (shc f g.dropLast) := by
  rw [go_app, go_none hf]
  unfold upsL
  rw [fold_ups]
  have := (shc_le f g.dropLast).1
  congr 1
  omega
theorem opn_app {a b : List Str} (h : b ≠ []) : opn (a ++ b) = opn b := by
  rcases List.eq_nil_or_concat b with e | ⟨xs, v, e⟩
  · exact absurd e h
  · rw [e, List.concat_eq_append, ← List.append_assoc, opn_snoc, opn_snoc]
theorem opn_good {l : List Str} (h : ∀ x ∈ l, dotP x = false) : opn l = false := by
  unfold opn
  cases e : l.getLast? with
  | none => rfl
  | some v => exact h v (List.mem_of_getLast? e)
theorem dot_up : dotP ".." = true := by decide +kernel
theorem dot_one : dotP "." = true := by decide +kernel
theorem opn_ups {f g : List Str} (h : upsL f g ≠ []) : opn (upsL f g) = true := by
  rcases List.eq_nil_or_concat (upsL f g) with e | ⟨xs, v, e⟩
  · exact absurd e h
  · have hm : v ∈ upsL f g := by rw [e]; simp
    have : v = ".." := List.eq_of_mem_replicate hm
    rw [e, List.concat_eq_append, opn_snoc, this]; exact dot_up
/-- the way from the folder, gone -/
theorem went {f g : List Str} (hg : g ≠ []) (hf : ∀ x ∈ f, dotP x = false) (hd : ∀ x ∈ g, dotP x = false) : wdots (f ++ (upsL f g ++ restL f g)) = g := by
  have hr : ∀ x ∈ restL f g, dotP x = false := fun x hx => hd x (List.mem_of_mem_drop hx)
  have ho : opn (f ++ (upsL f g ++ restL f g)) = false := by rw [← List.append_assoc, opn_app (rest_ne hg), opn_good hr]
  unfold wdots
  rw [if_neg (by rw [ho]; decide), ← List.append_assoc, go_app, go_ups hf, fold_none _ hr, take_rest hg]
theorem went_dot {f g : List Str} (hg : g ≠ []) (hf : ∀ x ∈ f, dotP x = false) (hd : ∀ x ∈ g, dotP x = false) (hu : upsL f g = []) : wdots (f ++ (("." : Str) :: restL f g)) = g := by
  have hr : ∀ x ∈ restL f g, dotP x = false := fun x hx => hd x (List.mem_of_mem_drop hx)
  have e1 : f ++ (("." : Str) :: restL f g) = (f ++ [("." : Str)]) ++ restL f g := by rw [List.append_assoc]; rfl
  have ho : opn (f ++ (("." : Str) :: restL f g)) = false := by rw [e1, opn_app (rest_ne hg), opn_good hr]
  have e2 : goS (f ++ [("." : Str)]) = goS (f ++ upsL f g) := by
    rw [hu, List.append_nil, go_app]
    show goStep (goS f) "." = goS f
    unfold goStep
    rw [if_neg (by decide +kernel), if_pos rfl]
  unfold wdots
  rw [if_neg (by rw [ho]; decide), e1, go_app, e2, go_ups hf, fold_none _ hr, take_rest hg]
theorem went_ups {f g : List Str} (hg : g ≠ []) (hf : ∀ x ∈ f, dotP x = false) (hu : upsL f g ≠ []) (hr : restL f g = [("" : Str)]) : wdots (f ++ upsL f g) = g := by
  unfold wdots
  rw [opn_app hu, opn_ups hu, if_pos rfl, go_ups hf]
  have := take_rest (f := f) hg
  rw [hr] at this
  exact this
theorem went_one {f g : List Str} (hg : g ≠ []) (hf : ∀ x ∈ f, dotP x = false) (hu : upsL f g = []) (hr : restL f g = [("" : Str)]) : wdots (f ++ [("." : Str)]) = g := by
  have e2 : goS (f ++ [("." : Str)]) = goS (f ++ upsL f g) := by
    rw [hu, List.append_nil, go_app]
    show goStep (goS f) "." = goS f
    unfold goStep
    rw [if_neg (by decide +kernel), if_pos rfl]
  unfold wdots
  rw [opn_app (by simp), show opn ["."] = true by decide +kernel, if_pos rfl, e2, go_ups hf]
  have := take_rest (f := f) hg
  rw [hr] at this
  exact this
/-! ### texts by their first sign -/
theorem app_inj {x y z : Str} (h : x ++ y = x ++ z) : y = z := by
  apply ext_tl
  have := congrArg tl h
  rw [tl_append, tl_append] at this
  exact List.append_cancel_left this
theorem sw_slash (t : Str) : Txt.startswith t "/" = (match tl t with | c :: _ => decide (c = 47) | [] => false) := by
  rw [sw_pre (by rw [tl_slash]; simp), tl_slash]
  unfold pre
  cases h : tl t with
  | nil => rfl
  | cons c r =>
    show ([c] == [47]) = decide (c = 47)
    rw [Bool.eq_iff_iff, decide_eq_true_eq, beq_iff_eq]
    exact ⟨fun h => by cases h; rfl, fun h => by rw [h]⟩
theorem sw_dbl_no {t : Str} (h : Txt.startswith t "/" = false) : Txt.startswith t "//" = false := by
  have t2 : tl ("//" : Str) = [47, 47] := by decide +kernel
  rw [sw_slash] at h
  rw [sw_pre (by rw [t2]; simp), t2]
  unfold pre
  cases e : tl t with
  | nil => rfl
  | cons c r =>
    rw [e] at h
    have hc : c ≠ 47 := of_decide_eq_false h
    rw [beq_eq_false_iff_ne]
    intro z
    cases r with
    | nil => cases z
    | cons d r2 =>
      have z : [c, d] = [47, 47] := z
      exact hc (List.cons.inj z).1
theorem tl_nil {x : Str} (h : tl x = []) : x = "" := by
  apply ext_tl
  rw [h]
  decide +kernel
theorem join_head {x : Str} {r : List Str} : ∃ s, tl (Txt.join "/" (x :: r)) = tl x ++ s ∧ (s = [] ∨ ∃ s', s = 47 :: s') := by
  rw [join_eq, tl_join, tl_slash]
  cases r with
  | nil => exact ⟨[], by simp [joinL], .inl rfl⟩
  | cons y r => exact ⟨47 :: joinL [47] ((y :: r).map tl), rfl, .inr ⟨_, rfl⟩⟩
theorem join_first {x : Str} {r : List Str} (hx : x ≠ "") (h47 : 47 ∉ tl x) : Txt.startswith (Txt.join "/" (x :: r)) "/" = false ∧ Txt.join "/" (x :: r) ≠ "" := by
  obtain ⟨s, e, _⟩ := join_head (x := x) (r := r)
  cases hl : tl x with
  | nil => exact absurd (tl_nil hl) hx
  | cons c q =>
    rw [hl] at e h47
    refine ⟨?_, fun z => ?_⟩
    · rw [sw_slash, e]
      show decide (c = 47) = false
      exact decide_eq_false fun z => h47 (by rw [z]; exact List.mem_cons_self)
    · have := congrArg tl z
      rw [e, show tl ("" : Str) = [] by decide +kernel] at this
      cases this
/-! ### a way leads there -/
theorem res_way {b t a : Str} {segs : List Str} (hh : partsH b = partsH a) (h35 : 35 ∉ tl t) (hs : Txt.startswith t "//" = false) (e : segB (partsS b) t = segs) (hw : wdots segs = partsS a) (ha : adrP a = true) : resV (some b) t = some a := by
  unfold resV
  rw [part_none h35, if_neg (by rw [hs]; decide)]
  show addrV (partsH b) (segB (partsS b) t) = some a
  rw [e]
  have h0 := addr_same ha
  obtain ⟨_, _, hsg, _⟩ := adr_eq ha
  unfold addrV at h0 ⊢
  rw [wdots_same hsg] at h0
  rw [hw, hh]
  exact h0
theorem seg_35 {p : Str} (hp : segP p = true) : 35 ∉ tl p := fun z => absurd (seg_in hp z) (by decide +kernel)
theorem parts_free (a : Str) : ∀ p ∈ partsS a, 47 ∉ tl p := split_free _
theorem join_35 {ws : List Str} (h : ∀ p ∈ ws, 35 ∉ tl p) : 35 ∉ tl (Txt.join "/" ws) := fun z => by
  rcases mem_join z with z | ⟨p, hp, z⟩
  · rw [tl_slash] at z; exact absurd z (by decide)
  · exact h p hp z
theorem up_35 : 35 ∉ tl (".." : Str) := by decide +kernel
theorem up_47 : 47 ∉ tl (".." : Str) := by decide +kernel
theorem app_35 {x y : Str} (hx : 35 ∉ tl x) (hy : 35 ∉ tl y) : 35 ∉ tl (x ++ y) := fun z => by
  rw [tl_append] at z
  rcases List.mem_append.mp z with z | z
  · exact hx z
  · exact hy z
theorem seg_sl {p : Str} {l : List Str} (hs : Txt.startswith p "/" = true) (e : p = "/" ++ Txt.join "/" l) (hl : l ≠ []) (h47 : ∀ x ∈ l, 47 ∉ tl x) (segs : List Str) : segB segs p = l := by
  have ne : p ≠ "" := fun z => by rw [z] at hs; exact absurd hs (by decide +kernel)
  unfold segB
  rw [if_neg ne, if_pos hs]
  have e2 := sw_one hs
  rw [e] at e2
  have e3 := app_inj e2
  rw [← e] at e3
  rw [← e3]
  exact split_join tl_slash (by decide +kernel) hl h47
theorem sw_app (t : Str) : Txt.startswith ("/" ++ t) "/" = true := by
  rw [sw_pre (by rw [tl_slash]; simp), tl_append]
  exact pre_self _ _
theorem root_res {b a : Str} (ha : adrP a = true) (hh : partsH b = partsH a) : resV (some b) (rootW (partsS a)) = some a := by
  obtain ⟨_, _, hsg, _⟩ := adr_eq ha
  obtain ⟨_, _, gne⟩ := parts_small a
  have h47 := parts_free a
  have h35 : ∀ p ∈ partsS a, 35 ∉ tl p := fun p hp => seg_35 (hsg p hp)
  have hd : ∀ p ∈ partsS a, dotP p = false := fun p hp => seg_dot (hsg p hp)
  have wd := wdots_same hsg
  generalize hg : partsS a = g at *
  have s35 : 35 ∉ tl ("/" : Str) := by decide +kernel
  have d35 : 35 ∉ tl ("/." : Str) := by decide +kernel
  have e35 : 35 ∉ tl ("" : Str) := by decide +kernel
  unfold rootW
  by_cases c : 1 < g.length ∧ g.head? = some ""
  · rw [if_pos c]
    have e : "/." ++ "/" ++ Txt.join "/" g = "/" ++ Txt.join "/" ("." :: g) := by
      cases g with
      | nil => exact absurd rfl gne
      | cons x r =>
        have ej : Txt.join "/" ("." :: x :: r) = "." ++ "/" ++ Txt.join "/" (x :: r) := by rw [join_eq, join_eq]; rfl
        rw [ej]
        apply ext_tl
        simp only [tl_append, List.append_assoc]
        have : tl ("/." : Str) = tl ("/" : Str) ++ tl ("." : Str) := by decide +kernel
        rw [this, List.append_assoc]
    have hs : Txt.startswith ("/." ++ "/" ++ Txt.join "/" g) "/" = true := by rw [e]; exact sw_app _
    refine res_way hh (app_35 (app_35 d35 s35) (join_35 h35)) ?_ (seg_sl hs e (by simp) (fun x hx => ?_) _) ?_ ha
    · have t2 : tl ("//" : Str) = [47, 47] := by decide +kernel
      have t3 : tl ("/." : Str) = [47, 46] := by decide +kernel
      rw [sw_pre (by rw [t2]; simp), t2, tl_append, tl_append, t3]
      rfl
    · rcases List.mem_cons.mp hx with z | z
      · rw [z]; decide +kernel
      · exact h47 x z
    · rw [hg]
      have e1 : goS ("." :: g) = goS g := by
        show g.foldl goStep (goStep [] ".") = g.foldl goStep []
        have : goStep [] "." = [] := by unfold goStep; rw [if_neg (by decide +kernel), if_pos rfl]
        rw [this]
      have e2 : opn ("." :: g) = opn g := opn_app (a := ["."]) gne
      unfold wdots at wd ⊢
      rw [e1, e2]
      exact wd
  · rw [if_neg c]
    have e : "" ++ "/" ++ Txt.join "/" g = "/" ++ Txt.join "/" g := (empty_add _).symm
    have hs : Txt.startswith ("" ++ "/" ++ Txt.join "/" g) "/" = true := by rw [e]; exact sw_app _
    refine res_way hh (app_35 (app_35 e35 s35) (join_35 h35)) ?_ (seg_sl hs e gne h47 _) (by rw [hg]; exact wd) ha
    have t2 : tl ("//" : Str) = [47, 47] := by decide +kernel
    rw [e, sw_pre (by rw [t2]; simp), t2, tl_append, tl_slash]
    cases g with
    | nil => exact absurd rfl gne
    | cons x r =>
      have hx := h47 x (by simp)
      obtain ⟨s, ej, hs2⟩ := join_head (x := x) (r := r)
      rw [ej]
      unfold pre
      rw [beq_eq_false_iff_ne]
      intro z
      cases hl : tl x with
      | cons d q =>
        rw [hl] at z hx
        have z : [47, d] = [47, 47] := z
        exact hx (by rw [(List.cons.inj (List.cons.inj z).2).1]; exact List.mem_cons_self)
      | nil =>
        have ex := tl_nil hl
        rw [hl, List.nil_append] at z
        rcases hs2 with rfl | ⟨s', rfl⟩
        · cases z
        · cases r with
          | nil =>
            have : tl (Txt.join "/" [x]) = tl x := rfl
            rw [this, hl] at ej
            cases ej
          | cons y r => exact c ⟨by simp, by rw [ex]; rfl⟩
theorem segB_app {segs : List Str} {t : Str} (ne : t ≠ "") (hs : Txt.startswith t "/" = false) : segB segs t = segs.dropLast ++ Txt.split t "/" := by
  unfold segB
  rw [if_neg ne, if_neg (by rw [hs]; decide)]
theorem fold_res {b a : Str} (hb : adrP b = true) (ha : adrP a = true) (hh : partsH b = partsH a) : resV (some b) (foldW (partsS b).dropLast (partsS a)) = some a := by
  obtain ⟨_, _, hsg, _⟩ := adr_eq ha
  obtain ⟨_, _, hsb, _⟩ := adr_eq hb
  obtain ⟨_, _, gne⟩ := parts_small a
  have h47 := parts_free a
  have hd : ∀ p ∈ partsS a, dotP p = false := fun p hp => seg_dot (hsg p hp)
  have hf : ∀ p ∈ (partsS b).dropLast, dotP p = false := fun p hp => seg_dot (hsb p (List.dropLast_subset _ hp))
  have h35 : ∀ p ∈ partsS a, 35 ∉ tl p := fun p hp => seg_35 (hsg p hp)
  generalize hg : partsS a = g at *
  have rn := rest_ne (f := (partsS b).dropLast) gne
  have r47 : ∀ x ∈ restL (partsS b).dropLast g, 47 ∉ tl x := fun x hx => h47 x (List.mem_of_mem_drop hx)
  have r35 : ∀ x ∈ restL (partsS b).dropLast g, 35 ∉ tl x := fun x hx => h35 x (List.mem_of_mem_drop hx)
  have u47 : ∀ x ∈ upsL (partsS b).dropLast g, 47 ∉ tl x := fun x hx => by rw [List.eq_of_mem_replicate hx]; exact up_47
  have u35 : ∀ x ∈ upsL (partsS b).dropLast g, 35 ∉ tl x := fun x hx => by rw [List.eq_of_mem_replicate hx]; exact up_35
  have uh : ∀ x r, upsL (partsS b).dropLast g = x :: r → x = ".." := fun x r e => List.eq_of_mem_replicate (by have : x ∈ upsL (partsS b).dropLast g := by { rw [e]; simp }; exact this)
  unfold foldW
  by_cases c1 : restL (partsS b).dropLast g = [("" : Str)]
  · rw [if_pos c1]
    by_cases c2 : upsL (partsS b).dropLast g = []
    · rw [if_pos c2]
      refine res_way hh (by decide +kernel) (by decide +kernel) (segB_app (by decide +kernel) (by decide +kernel)) ?_ ha
      rw [show Txt.split "." "/" = [("." : Str)] by decide +kernel, hg]
      exact went_one gne hf c2 c1
    · rw [if_neg c2]
      obtain ⟨x, r, e⟩ := List.exists_cons_of_ne_nil c2
      have hx := uh x r e
      obtain ⟨j1, j2⟩ := join_first (x := x) (r := r) (by rw [hx]; decide +kernel) (by rw [hx]; exact up_47)
      rw [← e] at j1 j2
      refine res_way hh (join_35 u35) (sw_dbl_no j1) (segB_app j2 j1) ?_ ha
      rw [split_join tl_slash (by decide +kernel) c2 u47, hg]
      exact went_ups gne hf c2 c1
  · rw [if_neg c1]
    by_cases c2 : upsL (partsS b).dropLast g = [] ∧ (restL (partsS b).dropLast g).head? = some ""
    · rw [if_pos c2]
      have e : "./" ++ Txt.join "/" (restL (partsS b).dropLast g) = Txt.join "/" ("." :: restL (partsS b).dropLast g) := by
        obtain ⟨x, r, e⟩ := List.exists_cons_of_ne_nil rn
        rw [e]
        have ej : Txt.join "/" ("." :: x :: r) = "." ++ "/" ++ Txt.join "/" (x :: r) := by rw [join_eq, join_eq]; rfl
        rw [ej, show "./" = "." ++ ("/" : Str) by decide +kernel]
      rw [e]
      have d47 : ∀ x ∈ ("." : Str) :: restL (partsS b).dropLast g, 47 ∉ tl x := fun x hx => by
        rcases List.mem_cons.mp hx with z | z
        · rw [z]; decide +kernel
        · exact r47 x z
      have d35 : ∀ x ∈ ("." : Str) :: restL (partsS b).dropLast g, 35 ∉ tl x := fun x hx => by
        rcases List.mem_cons.mp hx with z | z
        · rw [z]; decide +kernel
        · exact r35 x z
      obtain ⟨j1, j2⟩ := join_first (x := ".") (r := restL (partsS b).dropLast g) (by decide +kernel) (by decide +kernel)
      refine res_way hh (join_35 d35) (sw_dbl_no j1) (segB_app j2 j1) ?_ ha
      rw [split_join tl_slash (by decide +kernel) (by simp) d47, hg]
      exact went_dot gne hf hd c2.1
    · rw [if_neg c2]
      have a47 : ∀ x ∈ upsL (partsS b).dropLast g ++ restL (partsS b).dropLast g, 47 ∉ tl x := fun x hx => (List.mem_append.mp hx).elim (u47 x) (r47 x)
      have a35 : ∀ x ∈ upsL (partsS b).dropLast g ++ restL (partsS b).dropLast g, 35 ∉ tl x := fun x hx => (List.mem_append.mp hx).elim (u35 x) (r35 x)
      obtain ⟨x, r, e, hx⟩ : ∃ x r, upsL (partsS b).dropLast g ++ restL (partsS b).dropLast g = x :: r ∧ x ≠ "" := by
        cases hu : upsL (partsS b).dropLast g with
        | cons x r => exact ⟨x, _, rfl, by rw [uh x r hu]; decide +kernel⟩
        | nil =>
          obtain ⟨x, r, e⟩ := List.exists_cons_of_ne_nil rn
          exact ⟨x, r, by rw [List.nil_append, e], fun z => c2 ⟨hu, by rw [e, z]; rfl⟩⟩
      obtain ⟨j1, j2⟩ := join_first (x := x) (r := r) hx (a47 x (by rw [e]; simp))
      rw [← e] at j1 j2
      refine res_way hh (join_35 a35) (sw_dbl_no j1) (segB_app j2 j1) ?_ ha
      rw [split_join tl_slash (by decide +kernel) (by rw [e]; simp) a47, hg]
      exact went gne hf hd
end Toy
set_option Elab.async false
set_option linter.all false
set_option maxRecDepth 100000
set_option maxHeartbeats 8000000
namespace Toy
open PySem PySem.Spec PyProof.Rows L2 Tx TL
theorem at_zero (x : V) (r : List V) : atI (x :: r) 0 = some x := by
  have e : ixN (x :: r).length 0 = some 0 := by unfold ixN; simp
  unfold atI; rw [e]; rfl
theorem dS (a b : Str) : decide (V.str a = V.str b) = decide (a = b) := by
  rw [Bool.eq_iff_iff, decide_eq_true_eq, decide_eq_true_eq]
  exact ⟨fun h => V.str.inj h, fun h => by rw [h]⟩
theorem shc_step {l m : List Str} {i : Nat} {x y : Str} (hx : l[i]? = some x) (hy : m[i]? = some y) (h : l.take i = m.take i) : (x = y → l.take (i + 1) = m.take (i + 1)) ∧ (x ≠ y → shc l m = i) := by
  constructor
  · intro e
    rw [List.take_add_one, List.take_add_one, hx, hy, h, e]
  · induction i generalizing l m with
    | zero =>
      intro ne
      cases l with
      | nil => cases hx
      | cons a l =>
        cases m with
        | nil => cases hy
        | cons b m =>
          have e1 : a = x := Option.some.inj hx
          have e2 : b = y := Option.some.inj hy
          unfold shc
          rw [if_neg (by rw [e1, e2]; exact ne)]
    | succ i ih =>
      intro ne
      cases l with
      | nil => cases hx
      | cons a l =>
        cases m with
        | nil => cases hy
        | cons b m =>
          rw [List.take_succ_cons, List.take_succ_cons] at h
          unfold shc
          rw [if_pos (List.cons.inj h).1, ih (l := l) (m := m) hx hy (List.cons.inj h).2 ne]
theorem shc_all {l m : List Str} (h : l.take (min l.length m.length) = m.take (min l.length m.length)) : shc l m = min l.length m.length := by
  induction l generalizing m with
  | nil => rfl
  | cons a l ih =>
    cases m with
    | nil => rfl
    | cons b m =>
      have e : min (a :: l).length (b :: m).length = min l.length m.length + 1 := by simp only [List.length_cons]; omega
      rw [e, List.take_succ_cons, List.take_succ_cons] at h
      unfold shc
      rw [if_pos (List.cons.inj h).1, ih (List.cons.inj h).2, e]
theorem dp_all {K : PySem.W.Frag} {H : Hp} : ∀ ws : List Str, DpAll K H (ws.map V.str) (ws.map PyData.str)
  | [] => .nil
  | x :: r => .cons (.str x) (dp_all r)
theorem dp_strs {K : PySem.W.Frag} {H : Hp} {p : Addr} {ws : List Str} (h : SqL K H p (ws.map V.str)) : Dp K H (.ref p) (.list (ws.map PyData.str)) := .lst h (dp_all ws)
theorem lay_str {x : Str} (h : asc (tl x)) : PyData.canLay0 (.str x) = true := by
  show (x.cps.all (· < 0x110000)) = true
  rw [Array.all_eq_true']
  intro c hc
  have : c ∈ tl x := by simpa [tl] using hc
  have := h c this
  exact decide_eq_true (by omega)
theorem lay_strs {ws : List Str} (h : ∀ x ∈ ws, asc (tl x)) : SeqAt.shaped (.list (ws.map PyData.str)) = true := by
  have h1 : PyData.canLayAll0 (ws.map PyData.str) = true ∧ PyData.depthAll (ws.map PyData.str) = 0 := by
    induction ws with
    | nil => exact ⟨rfl, rfl⟩
    | cons x r ih =>
      obtain ⟨a, b⟩ := ih fun y hy => h y (List.mem_cons_of_mem _ hy)
      refine ⟨?_, ?_⟩
      · show (PyData.canLay0 (.str x) && PyData.canLayAll0 (r.map PyData.str)) = true
        rw [lay_str (h x (by simp)), a]; rfl
      · show max 0 (PyData.depthAll (r.map PyData.str)) = 0
        rw [b]; rfl
  show (PyData.canLayAll0 (ws.map PyData.str) && decide (PyData.depthAll (ws.map PyData.str) + 1 ≤ 64)) = true
  rw [h1.1, h1.2]; rfl
theorem eqv_empty (ws : List Str) : PyData.eqv (.list (ws.map PyData.str)) (.list [.str ""]) = decide (ws = [("" : Str)]) := by
  cases ws with
  | nil => rfl
  | cons x r =>
    cases r with
    | nil =>
      show ((x == "") && true) = _
      rw [Bool.and_true, Bool.eq_iff_iff, decide_eq_true_eq, beq_iff_eq]
      exact ⟨fun h => by rw [h], fun h => (List.cons.inj h).1⟩
    | cons y r =>
      show ((x == "") && false) = _
      rw [Bool.and_false]
      exact (decide_eq_false (fun h => List.cons_ne_nil _ _ (List.cons.inj h).2)).symm
theorem rep_flat (n : Nat) (x : V) : (List.replicate n [x]).flatten = List.replicate n x := by
  induction n with
  | zero => rfl
  | succ n ih => rw [List.replicate_succ, List.flatten_cons, ih, List.replicate_succ]; rfl
theorem cutV_from (l : List V) (k : Nat) (h : k ≤ l.length) : cutV l (some (k : Int)) none = l.drop k := by
  have e1 : HT.sIx l.length 0 (some (k : Int)) = min k l.length := HT.sIx_nat l.length 0 k
  show (l.drop (HT.sIx l.length 0 (some (k : Int)))).take (HT.sIx l.length l.length none - HT.sIx l.length 0 (some (k : Int))) = _
  rw [e1, HT.sIx_none, Nat.min_eq_left h]
  exact List.take_of_length_le (by rw [List.length_drop]; exact Nat.le_refl _)
section
variable {P : Program} {w : World} {K : PySem.W.Frag} {mg : Str → Option Value} {base : Heap}
def sp__shared_count : Sp := fun vs H Q _ => ∃ (p q : Addr) (l m : List Str), vs = [.ref p, .ref q] ∧ H p = some (.lst (l.map V.str)) ∧ H q = some (.lst (m.map V.str)) ∧ ∀ H', Same H H' → Q (.int (shc l m)) H'
theorem ok__shared_count (T : Txt K mg) : FnOk P w K mg base CX0 1 T.a__shared_count T.d__shared_count ["one", "other"] sp__shared_count := by
  refine T.F__shared_count.ok sc__shared_count (fun vs H Q E h => ?_) (fun cdv A outer s H vs Q E hr h => ?_)
  · obtain ⟨p, q, l, m, rfl, _⟩ := h; rfl
  · obtain ⟨p, q, l, m, rfl, hp, hq, ret⟩ := h
    refine ⟨_, (pss_cons (ps_set (i := 2) sc__shared_count.nd rfl (by first | exact Or.inl rfl | exact Or.inr rfl) pe_int)
        (pss_cons (ps_for PassesOwn.never rfl (pi_zip (by rfl) T.z_zip (pa_cons (pv 0) (pa_cons (pv 1) pa_nil))) (pg_tup rfl (pgs_cons (pg_name (i := 3) sc__shared_count.nd rfl (Or.inl rfl)) (pgs_cons (pg_name (i := 4) sc__shared_count.nd rfl (Or.inl rfl)) pgs_nil))) (pss_cons (ps_if (pt_cmpR op_ne (pv 3) (pv 4) (nomark _)) (pss_one (ps_ret (pv 2))) pss_nil)
        (pss_one (ps_aug (i := 2) sc__shared_count.nd rfl (Or.inl rfl) pe_int ip_add))))
        (pss_one (ps_ret (pv 2))))), ?_⟩
    refine ⟨_, rfl, _, rfl, p, q, _, _, rfl, SqL.of hp, SqL.of hq, ?_⟩
    refine for_it (walk_zip (K := K) (a := p) (b := q) (xs := l.map V.str) (ys := m.map V.str) rfl)
      (fun i σ H' => ∃ x3 x4 : Option V, σ = [some (.ref p), some (.ref q), some (.int (i : Nat)), x3, x4] ∧ Same H H' ∧ l.take i = m.take i) ⟨none, none, rfl, Same.refl H, rfl⟩ ?_ ?_ ?_
    · rintro i σ H' _ ⟨x3, x4, _, s1, _⟩
      exact ⟨SqL.of (s1 _ _ hp), SqL.of (s1 _ _ hq)⟩
    · rintro i x σ H1 H2 hi ⟨x3, x4, rfl, s1, ht⟩ ⟨t, x, y, rfl, nt, rfl, hx, hy⟩
      have hx : (l.map V.str)[i]? = some x := hx
      have hy : (m.map V.str)[i]? = some y := hy
      rw [List.getElem?_map] at hx hy
      obtain ⟨u, hu, rfl⟩ := Option.map_eq_some_iff.mp hx
      obtain ⟨v, hv, rfl⟩ := Option.map_eq_some_iff.mp hy
      obtain ⟨st1, st2⟩ := shc_step hu hv ht
      have s2 := s1.trans (same_new (o := .tup [V.str u, V.str v]) nt)
      refine ⟨t, _, rfl, SqT.of upd_same, rfl, _, _, rfl, _, _, rfl, rfl, ?_⟩
      refine ⟨_, rfl, _, rfl, rfl, _, rfl, ?_⟩
      refine ite2 (fun c => ?_) (fun c => ?_)
      · have ne : u ≠ v := fun e => by rw [e] at c; simp at c
        rw [st2 ne] at ret
        exact ⟨_, rfl, ret _ s2⟩
      · have e : u = v := by
          apply Classical.byContradiction
          intro ne
          exact c (by show (!decide (V.str u = V.str v)) = true; rw [dS, decide_eq_false ne]; rfl)
        refine ⟨_, rfl, _, _, rfl, rfl, ?_⟩
        exact ⟨_, _, rfl, s2, st1 e⟩
    · rintro σ H1 ⟨x3, x4, rfl, s1, ht⟩
      rw [List.length_map, List.length_map] at ht
      have e := shc_all ht
      refine ⟨_, rfl, ?_⟩
      rw [List.length_map, List.length_map, ← e]
      exact ret _ s1
def sp__from_root : Sp := fun vs H Q _ => ∃ (p : Addr) (g : List Str), vs = [.ref p] ∧ H p = some (.lst (g.map V.str)) ∧ g ≠ [] ∧ wt g ≤ 200 ∧ Q (.str (rootW g)) H
theorem ok__from_root (T : Txt K mg) : FnOk P w K mg base CX0 1 T.a__from_root T.d__from_root ["goal"] sp__from_root := by
  refine T.F__from_root.ok sc__from_root (fun vs H Q E h => ?_) (fun cdv A outer s H vs Q E hr h => ?_)
  · obtain ⟨p, g, rfl, _⟩ := h; rfl
  · obtain ⟨p, g, rfl, hp, gn, hw, ret⟩ := h
    refine ⟨_, (pss_cons (ps_set (i := 1) sc__from_root.nd rfl (by first | exact Or.inl rfl | exact Or.inr rfl) (pe_ifExp (PW.pt (pw_and (pt_cmpR op_gt (pe_callB call_len_seq (by rfl) T.z_len PySem.boot_len (pa_cons (pv 0) pa_nil)) pe_int (nomark _)) (pw_and1 (pt_cmpR op_eq (pe_ix ix_list (pv 0) pe_int (fun _ _ => rfl)) pe_str (nomark _))))) pe_str pe_str))
        (pss_one (ps_ret (pe_op op_add_str (pe_op op_add_str (pv 1) pe_str) (pe_join pe_str (pv 0)))))), ?_⟩
    obtain ⟨x, r, rfl⟩ := List.exists_cons_of_ne_nil gn
    have jl := join_wt (x :: r)
    have ls : ("/" : Str).length = 1 := by decide +kernel
    have ld : ("/." : Str).length = 2 := by decide +kernel
    have sw := sum_wt (x :: r)
    have at0 : atI ((x :: r).map V.str) 0 = some (.str x) := at_zero _ _
    have e0 : ("" : Str).length = 0 := by decide +kernel
    unfold rootW at ret
    refine asg_any (fun H5 v => H5 = H ∧ ∃ z : Str, v = .str z ∧ z.length ≤ 2 ∧ z = (if 1 < (x :: r).length ∧ (x :: r).head? = some "" then "/." else "")) (fun R k => ?_) ?_
    · refine ⟨_, rfl, _, _, rfl, .inl (SqL.of hp), _, _, rfl, rfl, _, rfl, ?_⟩
      refine ite2 (fun c => ?_) (fun c => ?_)
      · refine ⟨_, rfl, p, _, 0, _, rfl, rfl, SqL.of hp, at0, rfl, _, rfl, ?_⟩
        have c := of_decide_eq_true c
        rw [List.length_map] at c
        cases d : decide (V.str x = V.str "") with
        | true =>
          refine iteT (k _ _ ⟨rfl, _, rfl, by rw [ld]; omega, ?_⟩)
          rw [dS] at d
          rw [if_pos ⟨by omega, by rw [of_decide_eq_true d]; rfl⟩]
        | false =>
          refine iteF (k _ _ ⟨rfl, _, rfl, by rw [e0]; omega, ?_⟩)
          rw [dS] at d
          rw [if_neg fun z => of_decide_eq_false d (Option.some.inj z.2)]
      · refine iteF (k _ _ ⟨rfl, _, rfl, by rw [e0]; omega, ?_⟩)
        have c : ¬ (1 : Int) < ((x :: r).map V.str).length := fun z => c (decide_eq_true z)
        rw [List.length_map] at c
        rw [if_neg fun z => c (by omega)]
    · rintro H5 v ⟨rfl, z, rfl, lz, ez⟩
      rw [← ez] at ret
      refine ⟨_, rfl, _, _, rfl, rfl, (by rw [sizeLine_eq, ls]; omega), ⟨_, rfl⟩, _, rfl, "/", p, x :: r, rfl, rfl, .inl (SqL.of hp), (by rw [ls]; omega), _, _, rfl, rfl, ?_, ret⟩
      rw [sizeLine_eq, strLen_append, ls]; omega
def sp__from_folder : Sp := fun vs H Q _ => ∃ (p q : Addr) (f g : List Str), vs = [.ref p, .ref q] ∧ H p = some (.lst (f.map V.str)) ∧ H q = some (.lst (g.map V.str)) ∧ g ≠ [] ∧ wt f ≤ 200 ∧ wt g ≤ 200 ∧ (∀ x ∈ g, asc (tl x)) ∧ ∀ H', Same H H' → Q (.str (foldW f g)) H'
theorem ok__from_folder (T : Txt K mg) : FnOk P w K mg base CX0 2 T.a__from_folder T.d__from_folder ["folder", "goal"] sp__from_folder := by
  refine T.F__from_folder.ok sc__from_folder (fun vs H Q E h => ?_) (fun cdv A outer s H vs Q E hr h => ?_)
  · obtain ⟨p, q, f, g, rfl, _⟩ := h; rfl
  · obtain ⟨p, q, f, g, rfl, hp, hq, gn, hf, hg, ga, ret⟩ := h
    refine ⟨_, (pss_cons (ps_set (i := 2) sc__from_folder.nd rfl (by first | exact Or.inl rfl | exact Or.inr rfl) (pe_call (ok__shared_count T) (hr.mono (by decide)) (by rfl) T.g__shared_count T.F__shared_count.kp T.b__shared_count .nil pass0 (pa_cons (pv 0) (pa_cons (pe_slice sl_list (pv 1) po_none (po_some (pe_un un_neg pe_int))) pa_nil))))
        (pss_cons (ps_set (i := 3) sc__from_folder.nd rfl (by first | exact Or.inl rfl | exact Or.inr rfl) (pe_op op_rep (pe_lst (pa_cons pe_str pa_nil)) (pe_op op_sub (pe_callB call_len_seq (by rfl) T.z_len PySem.boot_len (pa_cons (pv 0) pa_nil)) (pv 2))))
        (pss_cons (ps_set (i := 4) sc__from_folder.nd rfl (by first | exact Or.inl rfl | exact Or.inr rfl) (pe_slice sl_list (pv 1) (po_some (pv 2)) po_none))
        (pss_cons (ps_if (pt_cmpR (op_eqD (by have := hr.units; exact this)) (pv 4) (pe_lst (pa_cons pe_str pa_nil)) (nomark _)) (pss_one (ps_ret (pe_ifExp (pt_truth (pv 3) (by intro _; rfl)) (pe_join pe_str (pv 3)) pe_str))) pss_nil)
        (pss_cons (ps_if (PW.pt (pw_and (pt_not (pt_truth (pv 3) (by intro _; rfl))) (pw_and1 (pt_cmpR op_eq (pe_ix ix_list (pv 4) pe_int (fun _ _ => rfl)) pe_str (nomark _))))) (pss_one (ps_ret (pe_op op_add_str pe_str (pe_join pe_str (pv 4))))) pss_nil)
        (pss_one (ps_ret (pe_join pe_str (pe_op Vz.op_catR (pv 3) (pv 4)))))))))), ?_⟩
    have sl := shc_le f g.dropLast
    rw [List.length_dropLast] at sl
    have lf := len_wt f
    have lg := len_wt g
    have rn := rest_ne (f := f) gn
    have rw1 : wt (restL f g) ≤ 200 := by
      have e : wt g = wt (g.take (shc f g.dropLast)) + wt (restL f g) := by unfold restL; rw [← wt_append, List.take_append_drop]
      omega
    have lr := len_wt (restL f g)
    have uw : wt (upsL f g) ≤ 600 := by
      have gen : ∀ n : Nat, wt (List.replicate n ("..": Str)) = 3 * n := by
        intro n
        induction n with
        | zero => rfl
        | succ n ih =>
          have e2 : (".." : Str).length = 2 := by decide +kernel
          rw [List.replicate_succ, wt_cons, ih, e2]; omega
      unfold upsL
      rw [gen]; omega
    have lu := len_wt (upsL f g)
    have ra : ∀ x ∈ restL f g, asc (tl x) := fun x hx => ga x (List.mem_of_mem_drop hx)
    refine ⟨_, rfl, ?_⟩
    dsimp only [tNoPart]
    refine ⟨_, rfl, 1, rfl, -1, rfl, q, _, rfl, SqL.of hq, fun p6 n6 => ?_⟩
    rw [cutV_init, ← List.map_dropLast]
    dsimp only [tNil]
    have s6 := same_new (o := .lst (g.dropLast.map V.str)) n6
    refine ⟨p, p6, f, g.dropLast, rfl, s6 _ _ hp, upd_same, fun H1 s1 => ?_⟩
    have sA := s6.trans s1
    clear s1 s6
    have hp1 := sA _ _ hp
    have hq1 := sA _ _ hq
    refine ⟨(by show 1 ≤ sizeLine; decide), fun p2 n2 => ?_⟩
    have s2 := same_new (o := .lst [V.str ".."]) n2
    refine ⟨_, rfl, _, _, rfl, .inl (SqL.of (s2 _ _ hp1)), _, rfl, _, _, rfl, rfl, ?_⟩
    have eu : (List.replicate (((f.map V.str).length : Int) - ((shc f g.dropLast : Nat) : Int)).toNat [V.str ".."]).flatten = (upsL f g).map V.str := by
      unfold upsL
      rw [rep_flat, List.map_replicate, List.length_map]
      congr 1
      omega
    have s12 : (2 : Int) ^ 63 = 9223372036854775808 := by decide
    refine ⟨p2, _, _, rfl, rfl, upd_same, (by rw [List.length_map, s12]; omega), (by rw [List.length_map, s12]; omega), (by rw [List.length_map, sizeLine_eq]; show 1 * _ ≤ _; omega), fun p3 n3 => ?_⟩
    rw [eu]
    have s3 := same_new (o := .lst ((upsL f g).map V.str)) n3
    have h3 := upd_same (H := upd H1 p2 (.lst [V.str ".."])) (a := p3) (o := .lst ((upsL f g).map V.str))
    have sB := (sA.trans s2).trans s3
    generalize upd (upd H1 p2 (.lst [V.str ".."])) p3 (.lst ((upsL f g).map V.str)) = H3 at *
    refine ⟨_, rfl, _, rfl, _, rfl, ?_⟩
    dsimp only [tNoPart]
    refine ⟨q, _, rfl, SqL.of (sB _ _ hq), fun p4 n4 => ?_⟩
    rw [cutV_from _ _ (by rw [List.length_map]; omega), ← List.map_drop]
    have s4 := same_new (o := .lst ((restL f g).map V.str)) n4
    have h4 := upd_same (H := H3) (a := p4) (o := .lst ((restL f g).map V.str))
    have h34 := s4 _ _ h3
    have sC := sB.trans s4
    have er : (g.drop (shc f g.dropLast)).map V.str = (restL f g).map V.str := rfl
    rw [er]
    generalize upd H3 p4 (.lst ((restL f g).map V.str)) = H4 at *
    clear sA sB s2 s3 s4
    refine ⟨_, rfl, (by show 1 ≤ sizeLine; decide), fun p5 n5 => ?_⟩
    have s5 := same_new (o := .lst [V.str ""]) n5
    have h5 := upd_same (H := H4) (a := p5) (o := .lst [V.str ""])
    have h45 := s5 _ _ h4
    have h35 := s5 _ _ h34
    have sD := sC.trans s5
    generalize upd H4 p5 (.lst [V.str ""]) = H5 at *
    refine ⟨_, _, dp_strs (SqL.of h45), dp_strs (ws := [""]) (SqL.of h5), lay_strs ra, by decide +kernel, _, rfl, ?_⟩
    have ee : PyData.eqv (.list ((restL f g).map PyData.str)) (.list (([""] : List Str).map PyData.str)) = decide (restL f g = [("" : Str)]) := eqv_empty _
    rw [ee]
    unfold foldW at ret
    have ls : ("/" : Str).length = 1 := by decide +kernel
    have swu := sum_wt (upsL f g)
    have swr := sum_wt (restL f g)
    have swa := sum_wt (upsL f g ++ restL f g)
    rw [wt_append] at swa
    have jlr := join_wt (restL f g)
    refine ite2 (fun c => ?_) (fun c => ?_)
    · rw [if_pos (of_decide_eq_true c)] at ret
      refine ⟨_, rfl, _, .inl ⟨_, SqL.of h35, rfl⟩, ?_⟩
      cases eU : upsL f g with
      | nil =>
        rw [if_pos eU] at ret
        refine iteF ?_
        exact ret _ sD
      | cons x r =>
        rw [if_neg (by rw [eU]; simp)] at ret
        refine iteT ?_
        rw [eU] at h35 ret swu uw
        exact ⟨⟨_, rfl⟩, _, rfl, "/", p3, x :: r, rfl, rfl, .inl (SqL.of h35), (by rw [ls]; omega), ret _ sD⟩
    · rw [if_neg fun z => c (decide_eq_true z)] at ret
      obtain ⟨x, r, eR⟩ := List.exists_cons_of_ne_nil rn
      have at0 : atI ((restL f g).map V.str) 0 = some (.str x) := by rw [eR]; exact at_zero _ _
      have mj : ∀ p9, upd H5 p9 (.lst ((upsL f g).map V.str ++ (restL f g).map V.str)) p9 = some (.lst ((upsL f g ++ restL f g).map V.str)) := fun p9 => by rw [upd_same, List.map_append]
      have sz1 : ((upsL f g).map V.str).length + ((restL f g).map V.str).length ≤ sizeLine := by rw [List.length_map, List.length_map, sizeLine_eq]; omega
      have tail : ¬ (upsL f g = [] ∧ (restL f g).head? = some "") → ∀ p9, H5 p9 = none → Q (.str (Txt.join "/" (upsL f g ++ restL f g))) (upd H5 p9 (.lst ((upsL f g).map V.str ++ (restL f g).map V.str))) := fun n p9 n9 => by
        rw [if_neg n] at ret
        exact ret _ (sD.trans (same_new n9))
      refine ⟨_, rfl, _, .inl ⟨_, SqL.of h35, rfl⟩, ?_⟩
      cases eU : upsL f g with
      | cons y u =>
        refine iteF ?_
        refine iteF ?_
        refine ⟨⟨_, rfl⟩, _, rfl, _, rfl, p3, p4, _, _, rfl, rfl, SqL.of h35, SqL.of h45, sz1, fun p9 n9 => ?_⟩
        exact ⟨"/", p9, upsL f g ++ restL f g, rfl, rfl, .inl (SqL.of (mj p9)), (by rw [ls]; omega), tail (fun z => by rw [eU] at z; exact List.cons_ne_nil _ _ z.1) p9 n9⟩
      | nil =>
        refine iteT ?_
        refine ⟨_, rfl, p4, _, 0, _, rfl, rfl, SqL.of h45, at0, rfl, _, rfl, ?_⟩
        cases d : decide (V.str x = V.str "") with
        | true =>
          rw [dS] at d
          have ex := of_decide_eq_true d
          rw [if_pos ⟨eU, by rw [eR, ex]; rfl⟩] at ret
          refine iteT ?_
          have l2 : ("./" : Str).length = 2 := by decide +kernel
          exact ⟨⟨_, rfl⟩, _, rfl, "/", p4, restL f g, rfl, rfl, .inl (SqL.of h45), (by rw [ls]; omega), _, _, rfl, rfl, (by rw [sizeLine_eq, l2]; omega), ret _ sD⟩
        | false =>
          rw [dS] at d
          refine iteF ?_
          refine ⟨⟨_, rfl⟩, _, rfl, _, rfl, p3, p4, _, _, rfl, rfl, SqL.of h35, SqL.of h45, sz1, fun p9 n9 => ?_⟩
          exact ⟨"/", p9, upsL f g ++ restL f g, rfl, rfl, .inl (SqL.of (mj p9)), (by rw [ls]; omega), tail (fun z => of_decide_eq_false d (by rw [eR] at z; exact Option.some.inj z.2)) p9 n9⟩
end
end Toy
set_option Elab.async false
set_option linter.all false
set_option maxRecDepth 100000
set_option maxHeartbeats 8000000
namespace Toy
open PySem PySem.Spec PyProof.Rows L2 Tx TL
theorem root_len {g : List Str} : (rootW g).length ≤ wt g + 3 := by
  have jl := join_wt g
  have ls : ("/" : Str).length = 1 := by decide +kernel
  have ld : ("/." : Str).length = 2 := by decide +kernel
  have e0 : ("" : Str).length = 0 := by decide +kernel
  unfold rootW
  rw [strLen_append, strLen_append, ls]
  split
  · rw [ld]; omega
  · rw [e0]; omega
theorem ups_wt (f g : List Str) : wt (upsL f g) ≤ 3 * f.length := by
  have gen : ∀ n : Nat, wt (List.replicate n ("..": Str)) = 3 * n := by
    intro n
    induction n with
    | zero => rfl
    | succ n ih =>
      have e2 : (".." : Str).length = 2 := by decide +kernel
      rw [List.replicate_succ, wt_cons, ih, e2]; omega
  unfold upsL
  rw [gen]; omega
theorem rest_wt (f g : List Str) : wt (restL f g) ≤ wt g := by
  have e : wt g = wt (g.take (shc f g.dropLast)) + wt (restL f g) := by unfold restL; rw [← wt_append, List.take_append_drop]
  omega
theorem fold_len {f g : List Str} : (foldW f g).length ≤ 3 * f.length + wt g + 2 := by
  have h1 := ups_wt f g
  have h2 := rest_wt f g
  have h3 := join_wt (upsL f g)
  have h4 := join_wt (restL f g)
  have h5 := join_wt (upsL f g ++ restL f g)
  rw [wt_append] at h5
  have l1 : ("." : Str).length = 1 := by decide +kernel
  have l2 : ("./" : Str).length = 2 := by decide +kernel
  unfold foldW
  split
  · split
    · rw [l1]; omega
    · omega
  · split
    · rw [strLen_append, l2]; omega
    · omega
section
variable {P : Program} {w : World} {K : PySem.W.Frag} {mg : Str → Option Value} {base : Heap}
def sp_shortest (p : Addr) : Sp := fun vs H Q _ => ∃ (b a : Str), vs = [.str b, .str a] ∧ adrP b = true ∧ adrP a = true ∧ asc (tl a) ∧ LamX.Tabs (Vz.tabsOf "shortest" p) H ∧ ∀ H', LamX.ExtN H H' → LamX.Tabs (Vz.tabsOf "shortest" p) H' → Q (.str (shortV b a)) H'
theorem ok_shortest (T : Txt K mg) (TB : LamX.TabB base mg T.c_shortest T.p_shortest) : FnOk P w K mg base (L2.CX P w) 5 T.a_shortest T.d_shortest ["base", "address"] (sp_shortest T.p_shortest) := by
  refine Vz.Fun.okXC T.F_shortest T.k_shortest sc_shortest (fun vs H Q E h => ?_) (fun A outer s H vs Q E hr h => ?_)
  · obtain ⟨b, a, rfl, _⟩ := h; rfl
  · obtain ⟨b, a, rfl, hb, ha, aa, hT, ret⟩ := h
    refine ⟨_, (pss_cons (ps_if (pt_not (pt_val (pe_call (ok_is_address T) (hr.mono (by decide)) (by rfl) T.g_is_address T.F_is_address.kp T.b_is_address .nil pass0 (pa_cons (pv 0) pa_nil)))) (pss_one (ps_raise rfl (takes_of (E := E) rfl rfl rfl rfl) (pmk_oex T.o_BadAddress T.iC_BadAddress T.tI_BadAddress (ok_init_BadAddress T) (hr.mono (by decide)) T.bI_BadAddress .nil pass0 (by rfl) T.g_BadAddress (by exact (pa_cons (pv 0) pa_nil))))) pss_nil)
        (pss_cons (ps_if (pt_not (pt_val (pe_call (ok_is_address T) (hr.mono (by decide)) (by rfl) T.g_is_address T.F_is_address.kp T.b_is_address .nil pass0 (pa_cons (pv 1) pa_nil)))) (pss_one (ps_raise rfl (takes_of (E := E) rfl rfl rfl rfl) (pmk_oex T.o_BadAddress T.iC_BadAddress T.tI_BadAddress (ok_init_BadAddress T) (hr.mono (by decide)) T.bI_BadAddress .nil pass0 (by rfl) T.g_BadAddress (by exact (pa_cons (pv 1) pa_nil))))) pss_nil)
        (pss_cons (ps_if (pt_cmpR op_eq (pv 0) (pv 1) (nomark _)) (pss_one (ps_ret pe_str)) pss_nil)
        (pss_cons (ps_asg (pe_call (ok__parts T) (hr.mono (by decide)) (by rfl) T.g__parts T.F__parts.kp T.b__parts .nil pass0 (pa_cons (pv 0) pa_nil)) (pg_tup rfl (pgs_cons (pg_name (i := 2) sc_shortest.nd rfl (Or.inl rfl)) (pgs_cons (pg_name (i := 3) sc_shortest.nd rfl (Or.inl rfl)) pgs_nil))))
        (pss_cons (ps_asg (pe_call (ok__parts T) (hr.mono (by decide)) (by rfl) T.g__parts T.F__parts.kp T.b__parts .nil pass0 (pa_cons (pv 1) pa_nil)) (pg_tup rfl (pgs_cons (pg_name (i := 4) sc_shortest.nd rfl (Or.inl rfl)) (pgs_cons (pg_name (i := 5) sc_shortest.nd rfl (Or.inl rfl)) pgs_nil))))
        (pss_cons (ps_if (pt_cmpR op_ne (pv 2) (pv 4) (nomark _)) (pss_one (ps_ret (pe_ifExp (pt_cmpR (op_eqD (by have := hr.units; exact this)) (pv 5) (pe_lst (pa_cons pe_str pa_nil)) (nomark _)) (pe_op op_add_str pe_str (pv 4)) (pv 1)))) pss_nil)
        (pss_cons (ps_set (i := 6) sc_shortest.nd rfl (by first | exact Or.inl rfl | exact Or.inr rfl) (pe_lst (pa_cons (pe_call (ok__from_root T) (hr.mono (by decide)) (by rfl) T.g__from_root T.F__from_root.kp T.b__from_root .nil pass0 (pa_cons (pv 5) pa_nil)) (pa_cons (pe_call (ok__from_folder T) (hr.mono (by decide)) (by rfl) T.g__from_folder T.F__from_folder.kp T.b__from_folder .nil pass0 (pa_cons (pe_slice sl_list (pv 3) po_none (po_some (pe_un un_neg pe_int))) (pa_cons (pv 5) pa_nil))) pa_nil))))
        (pss_one (ps_ret (Vz.pe_minlam (T := Vz.tabsOf "shortest" T.p_shortest) (N := ["text"]) (xn := "text") (k := 0) (by rfl) T.z_min (pa_cons (pv 6) pa_nil) TB rfl (List.Mem.head _) (fun p hp _ => by rw [List.mem_singleton.mp hp]; rfl) (hr.mono (by decide)) ⟨rfl, rfl, rfl, by decide +kernel, rfl, by decide +kernel, by decide +kernel⟩ rfl rfl (fun _ _ _ _ _ => rfl) (fun f c2 A2 outer2 s2 H2 E2 hr2 => (pe_tup (pa_cons (pe_callB call_len_str (by rfl) T.z_len PySem.boot_len (pa_cons (pv 0) pa_nil)) (pa_cons (pv 0) pa_nil)))) (by intro z H Q hz q; exact ⟨_, rfl, z, rfl, hz, _, rfl, (by show 2 ≤ sizeLine; decide), fun p np => q p np⟩))))))))))), ?_⟩
    have lb := adr_len hb
    have la := adr_len ha
    refine ⟨_, rfl, 0, .str b, "str", rfl, .str b, (by show b.length ≤ 500; omega), fun H1 s1 => ⟨_, rfl, ?_⟩⟩
    have eb : adrV (.str b) = adrP b := rfl
    rw [eb, hb]
    refine iteF ?_
    refine ⟨_, rfl, 0, .str a, "str", rfl, .str a, (by show a.length ≤ 500; omega), fun H2 s2 => ⟨_, rfl, ?_⟩⟩
    have ea : adrV (.str a) = adrP a := rfl
    rw [ea, ha]
    refine iteF ?_
    have sA := s1.trans s2
    clear s1 s2
    refine ⟨_, rfl, _, rfl, rfl, _, rfl, ?_⟩
    rw [dS]
    unfold shortV at ret
    refine ite2 (fun c => ?_) (fun c => ?_)
    · rw [if_pos (of_decide_eq_true c)] at ret
      exact ret H2 (LamX.ExtN.of sA) (hT.ext sA)
    · rw [if_neg fun z => c (decide_eq_true z)] at ret
      obtain ⟨b1, b2, b3⟩ := parts_small b
      obtain ⟨a1, a2, a3⟩ := parts_small a
      refine ⟨_, rfl, b, rfl, by omega, fun H3 p3 r3 s3 h3 g3 => ?_⟩
      refine ⟨r3, _, rfl, SqT.of g3, rfl, _, _, rfl, _, _, rfl, rfl, ?_⟩
      refine ⟨_, rfl, a, rfl, by omega, fun H4 p4 r4 s4 h4 g4 => ?_⟩
      refine ⟨r4, _, rfl, SqT.of g4, rfl, _, _, rfl, _, _, rfl, rfl, ?_⟩
      have sB := (sA.trans s3).trans s4
      have h3' := s4 _ _ h3
      refine ⟨_, rfl, _, rfl, rfl, _, rfl, ?_⟩
      rw [dS]
      cases d : decide (partsH b = partsH a) with
      | false =>
        rw [if_neg (of_decide_eq_false d)] at ret
        refine iteT ?_
        refine ⟨_, rfl, (by show 1 ≤ sizeLine; decide), fun p5 n5 => ?_⟩
        have s5 := same_new (o := .lst [V.str ""]) n5
        have h5 := upd_same (H := H4) (a := p5) (o := .lst [V.str ""])
        have sC := sB.trans s5
        refine ⟨_, _, dp_strs (SqL.of (s5 _ _ h4)), dp_strs (ws := [""]) (SqL.of h5), lay_strs (partsS_asc aa), by decide +kernel, _, rfl, ?_⟩
        have ee : PyData.eqv (.list ((partsS a).map PyData.str)) (.list (([""] : List Str).map PyData.str)) = decide (partsS a = [("" : Str)]) := eqv_empty _
        rw [ee]
        refine ite2 (fun c => ?_) (fun c => ?_)
        · rw [if_pos (of_decide_eq_true c)] at ret
          have l2 : ("//" : Str).length = 2 := by decide +kernel
          exact ⟨_, rfl, _, _, rfl, rfl, (by rw [sizeLine_eq, l2]; omega), ret _ (LamX.ExtN.of sC) (hT.ext sC)⟩
        · rw [if_neg fun z => c (decide_eq_true z)] at ret
          exact ⟨_, rfl, ret _ (LamX.ExtN.of sC) (hT.ext sC)⟩
      | true =>
        rw [if_pos (of_decide_eq_true d)] at ret
        refine iteF ?_
        have wd := wt_dropLast (partsS b)
        have ld := len_wt (partsS b).dropLast
        refine ⟨_, rfl, p4, partsS a, rfl, h4, a3, by omega, ?_⟩
        refine ⟨_, rfl, ?_⟩
        dsimp only [tNoPart]
        refine ⟨1, rfl, -1, rfl, p3, _, rfl, SqL.of h3', fun p6 n6 => ?_⟩
        rw [cutV_init, ← List.map_dropLast]
        have s6 := same_new (o := .lst ((partsS b).dropLast.map V.str)) n6
        refine ⟨_, rfl, ?_⟩
        dsimp only [tNil]
        refine ⟨p6, p4, (partsS b).dropLast, partsS a, rfl, upd_same, s6 _ _ h4, a3, by omega, by omega, partsS_asc aa, fun H7 s7 => ?_⟩
        have sC := (sB.trans s6).trans s7
        refine ⟨(by show 2 ≤ sizeLine; decide), fun p8 n8 => ?_⟩
        have s8 := same_new (o := .lst [V.str (rootW (partsS a)), V.str (foldW (partsS b).dropLast (partsS a))]) n8
        have sD := sC.trans s8
        have r1 := root_len (g := partsS a)
        have r2 := fold_len (f := (partsS b).dropLast) (g := partsS a)
        refine ⟨_, rfl, p8, _, _, rfl, upd_same, (by rw [sizeLine_eq]; omega), (by rw [sizeLine_eq]; omega), hT.ext sD, fun H9 e9 t9 => ?_⟩
        exact ret H9 ((LamX.ExtN.of sD).trans e9) t9
end
end Toy
set_option Elab.async false
set_option linter.all false
set_option maxRecDepth 100000
set_option maxHeartbeats 8000000
namespace Toy
open PySem PySem.Spec PyProof.Rows L2 Tx TL
theorem adrT_cut (h : Str) (ws : List Str) : cutS (adrT h ws) (some 2) none = h ++ "/" ++ Txt.join "/" ws := by
  have e : adrT h ws = "//" ++ (h ++ "/" ++ Txt.join "/" ws) := by
    unfold adrT
    rw [str_assoc "//" h "/", str_assoc "//" (h ++ "/") _]
  rw [e, cut_two_back]
theorem adrT_parts {h : Str} {ws : List Str} (hn : 47 ∉ tl h) (wn : ws ≠ []) (hw : ∀ x ∈ ws, 47 ∉ tl x) : partsH (adrT h ws) = h ∧ partsS (adrT h ws) = ws := by
  unfold partsH partsS
  rw [adrT_cut, part_at hn]
  exact ⟨rfl, split_join tl_slash (by decide +kernel) wn hw⟩
theorem host_47 {h : Str} (hh : hostP h = true) : 47 ∉ tl h := fun z => by
  rcases host_sign hh z with z | z
  · exact absurd z (by decide +kernel)
  · cases z
theorem split_one {h : Str} (hn : 47 ∉ tl h) : Txt.split h "/" = [h] := by
  have : Txt.join "/" [h] = h := by rw [join_eq]; rfl
  have e := split_join (y := "/") tl_slash (by decide +kernel) (parts := [h]) (by simp) (fun p hp => by rw [List.mem_singleton.mp hp]; exact hn)
  rw [this] at e
  exact e
theorem adr_cut {a : Str} (ha : adrP a = true) : cutS a (some 2) none = partsH a ++ "/" ++ Txt.join "/" (partsS a) := by
  obtain ⟨e, _⟩ := adr_eq ha
  have := adrT_cut (partsH a) (partsS a)
  rw [← e] at this
  exact this
theorem adr_split {a : Str} (ha : adrP a = true) : Txt.split (cutS a (some 2) none) "/" = partsH a :: partsS a := by
  obtain ⟨_, hh, _, _⟩ := adr_eq ha
  rw [adr_cut ha, split_add, split_one (host_47 hh), split_join tl_slash (by decide +kernel) (parts_small a).2.2 (parts_free a)]
  rfl
/-! ### the law's way -/
def upT (b a : Str) : Str := Txt.mul "../" ((upsL (partsS b).dropLast (partsS a)).length : Nat)
def wayV (b a : Str) : Str :=
  if upT b a ++ Txt.join "/" (restL (partsS b).dropLast (partsS a)) ≠ "" ∧ (tl (upT b a ++ Txt.join "/" (restL (partsS b).dropLast (partsS a)))).head? ≠ some 47 then upT b a ++ Txt.join "/" (restL (partsS b).dropLast (partsS a))
  else "./" ++ Txt.join "/" (restL (partsS b).dropLast (partsS a))
theorem up_few (n : Nat) (h : n < 8) : MulOk "../" (n : Int) ∧ (Txt.mul "../" (n : Int)).length = 3 * n ∧ (0 < n → (tl (Txt.mul "../" (n : Int))).head? = some 46) ∧ (tl (Txt.mul "../" (n : Int))).all (fun c => decide (c < 128)) = true := by
  have a := (by unfold MulOk; decide +kernel : ∀ k : Fin 8, MulOk "../" (k.val : Int)) ⟨n, h⟩
  have b := (by decide +kernel : ∀ k : Fin 8, (Txt.mul "../" (k.val : Int)).length = 3 * k.val ∧ (0 < k.val → (tl (Txt.mul "../" (k.val : Int))).head? = some 46) ∧ (tl (Txt.mul "../" (k.val : Int))).all (fun c => decide (c < 128)) = true) ⟨n, h⟩
  exact ⟨a, b⟩
theorem ups_len (f g : List Str) : (upsL f g).length = f.length - shc f g.dropLast := by unfold upsL; rw [List.length_replicate]
theorem join_ups : ∀ n : Nat, (Txt.join "/" (List.replicate n (".." : Str))).length ≤ 3 * n
  | n => by
    have := join_wt (List.replicate n (".." : Str))
    have gen : ∀ n : Nat, wt (List.replicate n ("..": Str)) = 3 * n := by
      intro n
      induction n with
      | zero => rfl
      | succ n ih =>
        have e2 : (".." : Str).length = 2 := by decide +kernel
        rw [List.replicate_succ, wt_cons, ih, e2]; omega
    rw [gen] at this
    exact this
theorem join_app_len (n : Nat) (r : List Str) (hr : r ≠ []) : (Txt.join "/" (List.replicate n (".." : Str) ++ r)).length = 3 * n + (Txt.join "/" r).length := by
  induction n with
  | zero => rw [List.replicate_zero, List.nil_append]; omega
  | succ n ih =>
    rw [List.replicate_succ, List.cons_append]
    obtain ⟨x, t, e⟩ := List.exists_cons_of_ne_nil (show List.replicate n (".." : Str) ++ r ≠ [] from fun z => hr (List.append_eq_nil_iff.mp z).2)
    rw [e] at ih ⊢
    have ej : Txt.join "/" (".." :: x :: t) = ".." ++ "/" ++ Txt.join "/" (x :: t) := by rw [join_eq, join_eq]; rfl
    have e2 : (".." : Str).length = 2 := by decide +kernel
    have ls : ("/" : Str).length = 1 := by decide +kernel
    rw [ej, strLen_append, strLen_append, e2, ls]
    omega
theorem fold_le_way {b a : Str} (hb4 : (partsS b).length ≤ 4) (ha : adrP a = true) : (foldW (partsS b).dropLast (partsS a)).length ≤ (wayV b a).length ∧ (wayV b a).length ≤ 3 * 4 + a.length + 4 := by
  obtain ⟨_, aw, gne⟩ := parts_small a
  have rn := rest_ne (f := (partsS b).dropLast) gne
  have un : (upsL (partsS b).dropLast (partsS a)).length < 8 := by rw [ups_len, List.length_dropLast]; omega
  have un2 : (upsL (partsS b).dropLast (partsS a)).length ≤ 3 := by rw [ups_len, List.length_dropLast]; omega
  obtain ⟨_, ul, uh, _⟩ := up_few _ un
  have eU : upsL (partsS b).dropLast (partsS a) = List.replicate (upsL (partsS b).dropLast (partsS a)).length (".." : Str) := by rw [ups_len]; rfl
  have rl := rest_wt (partsS b).dropLast (partsS a)
  have jl := join_wt (restL (partsS b).dropLast (partsS a))
  have l1 : ("." : Str).length = 1 := by decide +kernel
  have l2 : ("./" : Str).length = 2 := by decide +kernel
  have e0 : ("" : Str).length = 0 := by decide +kernel
  have hT : upT b a = Txt.mul "../" ((upsL (partsS b).dropLast (partsS a)).length : Nat) := rfl
  have go : 0 < (upsL (partsS b).dropLast (partsS a)).length → wayV b a = upT b a ++ Txt.join "/" (restL (partsS b).dropLast (partsS a)) := fun h0 => by
    have h1 : (tl (upT b a ++ Txt.join "/" (restL (partsS b).dropLast (partsS a)))).head? = some 46 := by
      rw [tl_append, hT]
      have := uh h0
      cases e : tl (Txt.mul "../" ((upsL (partsS b).dropLast (partsS a)).length : Nat)) with
      | nil => rw [e] at this; cases this
      | cons c r => rw [e] at this; exact this
    unfold wayV
    rw [if_pos ⟨fun z => by rw [z] at h1; exact absurd h1 (by decide +kernel), by rw [h1]; decide⟩]
  have up : (wayV b a).length ≤ (upT b a).length + (Txt.join "/" (restL (partsS b).dropLast (partsS a))).length + 2 := by
    unfold wayV
    split
    · rw [strLen_append]; omega
    · rw [strLen_append, l2]; omega
  have lo : (upsL (partsS b).dropLast (partsS a)).length = 0 → (Txt.join "/" (restL (partsS b).dropLast (partsS a))).length ≤ (wayV b a).length := fun _ => by
    unfold wayV
    split
    · rw [strLen_append]; omega
    · rw [strLen_append]; omega
  refine ⟨?_, by rw [hT, ul] at up; omega⟩
  generalize hf : (partsS b).dropLast = f at *
  generalize hg : partsS a = g at *
  generalize hu : (upsL f g).length = u at *
  unfold foldW
  by_cases c1 : restL f g = [("" : Str)]
  · rw [if_pos c1]
    by_cases c2 : upsL f g = []
    · rw [if_pos c2, l1]
      have u0 : u = 0 := by rw [← hu, c2]; rfl
      have e1 : upT b a = "" := by rw [hT, u0]; decide +kernel
      have e2 : Txt.join "/" (restL f g) = "" := by rw [c1]; decide +kernel
      unfold wayV
      rw [hf, hg, e1, e2]
      decide +kernel
    · rw [if_neg c2]
      have u0 : 0 < u := by rw [← hu]; exact List.length_pos_iff.mpr c2
      rw [go u0, strLen_append, hT, ul, eU]
      have := join_ups u
      omega
  · rw [if_neg c1]
    by_cases c2 : upsL f g = [] ∧ (restL f g).head? = some ""
    · rw [if_pos c2]
      have u0 : u = 0 := by rw [← hu, c2.1]; rfl
      have e1 : upT b a = "" := by rw [hT, u0]; decide +kernel
      obtain ⟨x, r, e⟩ := List.exists_cons_of_ne_nil rn
      rw [e] at c2 c1
      have ex : x = "" := Option.some.inj c2.2
      have hh : (tl (Txt.join "/" (restL f g))).head? = some 47 := by
        rw [e, ex]
        cases r with
        | nil => exact absurd (by rw [ex]) c1
        | cons y r => rw [join_eq, tl_join, tl_slash, List.map_cons, show tl ("" : Str) = [] by decide +kernel]; rfl
      unfold wayV
      rw [hf, hg, e1]
      have en : "" ++ Txt.join "/" (restL f g) = Txt.join "/" (restL f g) := by apply ext_tl; rw [tl_append]; rfl
      rw [en, if_neg (fun z => z.2 hh)]
      exact Nat.le_refl _
    · rw [if_neg c2, eU, join_app_len u _ rn]
      by_cases h0 : 0 < u
      · rw [go h0, strLen_append, hT, ul]
        exact Nat.le_refl _
      · have u0 : u = 0 := by omega
        have := lo u0
        omega
theorem way_asc {b a : Str} (hb4 : (partsS b).length ≤ 4) (aa : asc (tl a)) : asc (tl (wayV b a)) := by
  have un : (upsL (partsS b).dropLast (partsS a)).length < 8 := by rw [ups_len, List.length_dropLast]; omega
  obtain ⟨_, _, _, ua⟩ := up_few _ un
  have h1 : asc (tl (upT b a)) := fun c hc => of_decide_eq_true (List.all_eq_true.mp ua c hc)
  have h2 : asc (tl (Txt.join "/" (restL (partsS b).dropLast (partsS a)))) := by
    rw [join_eq, tl_join, tl_slash]
    refine asc_joinL (fun c hc => by rw [List.mem_singleton.mp hc]; decide) _ fun p hp => ?_
    obtain ⟨u, hu, rfl⟩ := List.mem_map.mp hp
    exact partsS_asc aa u (List.mem_of_mem_drop hu)
  unfold wayV
  split
  · exact asc_app h1 h2
  · refine asc_app (fun c hc => ?_) h2
    have t3 : tl ("./" : Str) = [46, 47] := by decide +kernel
    rw [t3] at hc
    simp only [List.mem_cons, List.not_mem_nil, or_false] at hc
    omega
theorem Draw.put {H : Hp} {d D : Addr} {n : Int} {o : HO} {ws : List Str} (h : Draw H d n) (hD : H D = some (.lst (ws.map V.str))) (ne : D ≠ d) : Draw (upd H D o) d n := by
  obtain ⟨c, xs, a, l, u, h1, h2, h3, r⟩ := h
  have nc : c ≠ D := by
    intro e
    subst e
    rw [h2] at hD
    cases xs with
    | nil => exact h3 rfl
    | cons x r =>
      cases ws with
      | nil => cases hD
      | cons y s => cases hD
  exact ⟨c, xs, a, l, u, by rw [upd_ne (Ne.symm ne)]; exact h1, by rw [upd_ne nc]; exact h2, h3, r⟩
theorem sum_le {ws : List Str} (h : ∀ x ∈ ws, x ∈ wordS) : (ws.map (·.length)).sum ≤ 20 * ws.length := by
  induction ws with
  | nil => simp
  | cons x r ih =>
    have := (word_ok x (h x (by simp))).1.1
    have := ih fun y hy => h y (List.mem_cons_of_mem _ hy)
    simp only [List.map_cons, List.sum_cons, List.length_cons]
    omega
section
variable {P : Program} {w : World} {K : PySem.W.Frag} {mg : Str → Option Value} {base : Heap}
def sp__law_word : Sp := fun vs H Q _ => ∃ (d : Addr) (n : Int), vs = [.ref d] ∧ Draw H d n ∧ n ≤ 800000000 ∧ ∀ H' x, Keep d H H' → Draw H' d (n + 1) → x ∈ wordS → Q (.str x) H'
def sp__law_address : Sp := fun vs H Q _ => ∃ (d : Addr) (n : Int), vs = [.ref d] ∧ Draw H d n ∧ n ≤ 700000000 ∧ ∀ H' x, Keep d H H' → Draw H' d (n + 6) → adrP x = true → x.length ≤ 97 → asc (tl x) → (partsS x).length ≤ 4 → Q (.str x) H'
end
end Toy
set_option Elab.async false
set_option linter.all false
set_option maxRecDepth 100000
set_option maxHeartbeats 8000000
namespace Toy
open PySem PySem.Spec PyProof.Rows L2 Tx TL
theorem tl_dbl : tl ("//" : Str) = [47, 47] := by decide +kernel
theorem low_host {h : Str} (hh : hostP h = true) (ha : asc (tl h)) : resV none ("//" ++ h) = addrV h [""] ∧ ∀ b, resV (some b) ("//" ++ h) = addrV h [""] := by
  have h35 : 35 ∉ tl ("//" ++ h) := by
    refine app_35 (by decide +kernel) fun z => ?_
    rcases host_sign hh z with z | z
    · exact absurd z (by decide +kernel)
    · cases z
  have hs : Txt.startswith ("//" ++ h) "//" = true := sw_two
  have hc : cutS ("//" ++ h) (some 2) none = h := cut_two_back
  have hp : Txt.partition h "/" = (h, Str.empty, Str.empty) := by
    rw [partition_par _ _ (by rw [tl_slash]; simp), tl_slash, par_none1 (s := 47) (S := []) (host_47 hh)]
  have e1 : partsH ("//" ++ h) = h := by unfold partsH; rw [hc, hp]
  have e2 : partsS ("//" ++ h) = [("" : Str)] := by unfold partsS; rw [hc, hp]; show Txt.split Str.empty "/" = [("" : Str)]; decide +kernel
  have r : ∀ o, resV o ("//" ++ h) = addrV h [""] := fun o => by
    unfold resV
    rw [part_none h35, if_pos hs, e1, e2, host_low hh ha]
  exact ⟨r none, fun b => r (some b)⟩
theorem short_res {b a : Str} (hb : adrP b = true) (ha : adrP a = true) (aa : asc (tl a)) : resV (some b) (shortV b a) = some a := by
  unfold shortV
  by_cases c1 : b = a
  · rw [if_pos c1, ← c1]; exact res_empty hb
  · rw [if_neg c1]
    by_cases c2 : partsH b = partsH a
    · rw [if_pos c2]
      rcases min_or (rootW (partsS a)) (foldW (partsS b).dropLast (partsS a)) with e | e
      · rw [e]; exact root_res ha c2
      · rw [e]; exact fold_res hb ha c2
    · rw [if_neg c2]
      by_cases c3 : partsS a = [("" : Str)]
      · rw [if_pos c3]
        obtain ⟨_, hh, _, _⟩ := adr_eq ha
        rw [(low_host hh (partsH_asc aa)).2 b, ← c3]
        exact addr_same ha
      · rw [if_neg c3]; exact res_same ha aa _
theorem short_empty {b a : Str} (hb : adrP b = true) (ha : adrP a = true) (aa : asc (tl a)) : (shortV b a = "") ↔ b = a := by
  constructor
  · intro h
    have e := short_res hb ha aa
    rw [h, res_empty hb] at e
    exact Option.some.inj e
  · intro h; unfold shortV; rw [if_pos h]
theorem adr_length {a : Str} (ha : adrP a = true) : a.length = (partsH a).length + (Txt.join "/" (partsS a)).length + 3 := by
  obtain ⟨e, _⟩ := adr_eq ha
  have l1 : ("/" : Str).length = 1 := by decide +kernel
  have l2 : ("//" : Str).length = 2 := by decide +kernel
  have := congrArg Str.length e
  unfold adrT at this
  rw [strLen_append, strLen_append, strLen_append, l1, l2] at this
  omega
theorem root_length (g : List Str) : (rootW g).length ≤ (Txt.join "/" g).length + 3 := by
  have ls : ("/" : Str).length = 1 := by decide +kernel
  have ld : ("/." : Str).length = 2 := by decide +kernel
  have e0 : ("" : Str).length = 0 := by decide +kernel
  unfold rootW
  rw [strLen_append, strLen_append, ls]
  split
  · rw [ld]; omega
  · rw [e0]; omega
theorem short_len {b a : Str} (ha : adrP a = true) : (shortV b a).length ≤ a.length := by
  have l2 : ("//" : Str).length = 2 := by decide +kernel
  have e0 : ("" : Str).length = 0 := by decide +kernel
  have la := adr_length ha
  unfold shortV
  split
  · rw [e0]; omega
  · split
    · have h1 := (min_len (rootW (partsS a)) (foldW (partsS b).dropLast (partsS a))).1
      have h2 := root_length (partsS a)
      omega
    · split
      · rw [strLen_append, l2]; omega
      · exact Nat.le_refl _
theorem join_asc {ws : List Str} (h : ∀ x ∈ ws, asc (tl x)) : asc (tl (Txt.join "/" ws)) := by
  rw [join_eq, tl_join, tl_slash]
  refine asc_joinL (fun c hc => by rw [List.mem_singleton.mp hc]; decide) _ fun p hp => ?_
  obtain ⟨u, hu, rfl⟩ := List.mem_map.mp hp
  exact h u hu
theorem asc_of {x : Str} (h : (tl x).all (fun c => decide (c < 128)) = true) : asc (tl x) := fun c hc => of_decide_eq_true (List.all_eq_true.mp h c hc)
theorem short_asc {b a : Str} (aa : asc (tl a)) : asc (tl (shortV b a)) := by
  have ga := partsS_asc aa
  have ra : ∀ x ∈ restL (partsS b).dropLast (partsS a), asc (tl x) := fun x hx => ga x (List.mem_of_mem_drop hx)
  have ua : ∀ x ∈ upsL (partsS b).dropLast (partsS a), asc (tl x) := fun x hx => by rw [List.eq_of_mem_replicate hx]; exact asc_of (by decide +kernel)
  have e0 : asc (tl ("" : Str)) := asc_of (by decide +kernel)
  have e1 : asc (tl ("/" : Str)) := asc_of (by decide +kernel)
  have e2 : asc (tl ("//" : Str)) := asc_of (by decide +kernel)
  have e3 : asc (tl ("/." : Str)) := asc_of (by decide +kernel)
  have e4 : asc (tl ("./" : Str)) := asc_of (by decide +kernel)
  have e5 : asc (tl ("." : Str)) := asc_of (by decide +kernel)
  unfold shortV
  split
  · exact e0
  · split
    · rcases min_or (rootW (partsS a)) (foldW (partsS b).dropLast (partsS a)) with e | e
      · rw [e]
        unfold rootW
        refine asc_app (asc_app ?_ e1) (join_asc ga)
        split
        · exact e3
        · exact e0
      · rw [e]
        unfold foldW
        split
        · split
          · exact e5
          · exact join_asc ua
        · split
          · exact asc_app e4 (join_asc ra)
          · exact join_asc fun x hx => (List.mem_append.mp hx).elim (ua x) (ra x)
    · split
      · exact asc_app e2 (partsH_asc aa)
      · exact aa
/-! ### an address of a host alone -/
theorem adr_tl {a : Str} (ha : adrP a = true) : tl a = 47 :: 47 :: (tl (partsH a) ++ 47 :: tl (Txt.join "/" (partsS a))) := by
  obtain ⟨e, _⟩ := adr_eq ha
  have := congrArg tl e
  unfold adrT at this
  rw [tl_append, tl_append, tl_append, tl_dbl, tl_slash] at this
  rw [this]
  simp
theorem one_empty {ws : List Str} (h : Txt.join "/" ws = "") (hn : ws ≠ []) (h47 : ∀ x ∈ ws, 47 ∉ tl x) : ws = [("" : Str)] := by
  have e := split_join tl_slash (by decide +kernel) hn h47
  rw [h] at e
  rw [← e]
  decide +kernel
theorem bare_is {a : Str} (ha : adrP a = true) {c : Nat} (hc : (tl a).getLast? = some c) : (decide (c = 47) && decide (Txt.count (cutS a (some 2) none) "/" = 1)) = decide (partsS a = [("" : Str)]) := by
  obtain ⟨_, hh, _, _⟩ := adr_eq ha
  have es : ("/" : Str) = ⟨#[47]⟩ := by decide +kernel
  have ec : Txt.count (cutS a (some 2) none) "/" = 1 + cnt 47 (tl (Txt.join "/" (partsS a))) := by
    rw [show Txt.count (cutS a (some 2) none) "/" = Txt.count (cutS a (some 2) none) ⟨#[47]⟩ from congrArg _ es, count_cnt]
    have e1 : (cutS a (some 2) none).cps.toList = tl (partsH a) ++ (47 :: tl (Txt.join "/" (partsS a))) := by
      have := congrArg tl (adr_cut ha)
      rw [tl_append, tl_append, tl_slash] at this
      exact this.trans (by simp)
    rw [e1, cnt_append, cnt_none _ _ (host_47 hh), cnt_cons, if_pos rfl]
    omega
  rw [Bool.eq_iff_iff, Bool.and_eq_true, decide_eq_true_eq, decide_eq_true_eq, decide_eq_true_eq, ec]
  have at_ := adr_tl ha
  constructor
  · rintro ⟨h1, h2⟩
    refine one_empty ?_ (parts_small a).2.2 (parts_free a)
    cases hj : tl (Txt.join "/" (partsS a)) with
    | nil => exact tl_nil hj
    | cons d r =>
      exfalso
      rw [hj] at at_ h2
      have hl : (tl a).getLast? = (d :: r).getLast? := by
        rw [at_, show (47 :: 47 :: (tl (partsH a) ++ 47 :: d :: r)) = (47 :: 47 :: (tl (partsH a) ++ [47])) ++ (d :: r) by simp, List.getLast?_append]
        obtain ⟨z, hz⟩ := Option.isSome_iff_exists.mp (show ((d :: r).getLast?).isSome = true by rw [List.getLast?_isSome]; simp)
        rw [hz]; rfl
      rw [hc, h1] at hl
      have hm : 47 ∈ d :: r := List.mem_of_getLast? hl.symm
      have pos : ∀ l : List Nat, 47 ∈ l → 1 ≤ cnt 47 l ∧ True := by
        intro l
        have nn : ∀ l : List Nat, 0 ≤ cnt 47 l := by
          intro l
          induction l with
          | nil => exact Int.le_refl _
          | cons x s ih => rw [cnt_cons]; split <;> omega
        induction l with
        | nil => intro h; cases h
        | cons x s ih =>
          intro h
          rw [cnt_cons]
          rcases List.mem_cons.mp h with h | h
          · rw [if_pos h.symm]; have := nn s; exact ⟨by omega, trivial⟩
          · have := (ih h).1; split <;> exact ⟨by omega, trivial⟩
      have := (pos _ hm).1
      omega
  · intro h
    have ej : tl (Txt.join "/" (partsS a)) = [] := by rw [h]; decide +kernel
    rw [ej] at at_ ⊢
    have hl : (tl a).getLast? = some 47 := by
      rw [at_, show (47 :: 47 :: (tl (partsH a) ++ [47])) = (47 :: 47 :: tl (partsH a)) ++ [47] by simp, List.getLast?_append]; rfl
    rw [hc] at hl
    exact ⟨Option.some.inj hl, rfl⟩
theorem bare_cut {a : Str} (ha : adrP a = true) (h : partsS a = [("" : Str)]) : cutS a none (some (-1)) = "//" ++ partsH a := by
  apply ext_tl
  have at_ := adr_tl ha
  have ej : tl (Txt.join "/" (partsS a)) = [] := by rw [h]; decide +kernel
  rw [ej] at at_
  have la := len_tl a
  have e1 : HT.sIx a.length a.length (some (-1)) = a.length - 1 := by
    show (if (-1 : Int) < 0 then ((-1 : Int) + (a.length : Int)).toNat else min (-1 : Int).toNat a.length) = _
    rw [if_pos (by decide)]; omega
  show ((tl a).drop (HT.sIx a.length 0 none)).take (HT.sIx a.length a.length (some (-1)) - HT.sIx a.length 0 none) = _
  rw [e1, HT.sIx_none, List.drop_zero, Nat.sub_zero, tl_append, tl_dbl]
  have e2 : tl a = (47 :: 47 :: tl (partsH a)) ++ [47] := by rw [at_]; simp
  have e3 : a.length - 1 = (47 :: 47 :: tl (partsH a)).length := by rw [la, e2]; simp
  rw [e3, e2, List.take_left]
  rfl
end Toy
set_option Elab.async false
set_option linter.all false
set_option maxRecDepth 100000
set_option maxHeartbeats 8000000
namespace Toy
open PySem PySem.Spec PyProof.Rows L2 Tx TL
theorem Draw.extN {H H' : Hp} {d : Addr} {n : Int} (h : Draw H d n) (e : LamX.ExtN H H') : Draw H' d n := by
  obtain ⟨c, xs, a, l, u, h1, h2, r⟩ := h
  exact ⟨c, xs, a, l, u, e _ _ h1 (fun ps => HO.noConfusion), e _ _ h2 (fun ps => HO.noConfusion), r⟩
theorem Tabs.keep {p d : Addr} {n : Int} {H H' : Hp} (t : LamX.Tabs (Vz.tabsOf "shortest" p) H) (hd : Draw H d n) (k : Keep d H H') : LamX.Tabs (Vz.tabsOf "shortest" p) H' := by
  intro q hq
  rw [List.mem_singleton.mp hq]
  obtain ⟨ps, h1, h2, h3⟩ := t _ (List.Mem.head _)
  obtain ⟨kvs, hk⟩ := hd.dic
  have nd : ∀ b o, H b = some o → (∀ kvs, o ≠ .dK kvs) → b ≠ d := fun b o e n z => by rw [z, hk] at e; cases e; exact n _ rfl
  refine ⟨ps, k _ _ (nd _ _ h1 (fun ps => HO.noConfusion)) h1, h2, fun pos cv hc => ?_⟩
  obtain ⟨c, e1, e2⟩ := h3 pos cv hc
  exact ⟨c, e1, k _ _ (nd _ _ e2 (fun ps z => by unfold LamX.CodeO at z; cases z)) e2⟩
theorem ns_bl (v : V) : ¬ (!decide (v = v)) = true := by simp
end Toy
set_option Elab.async false
set_option linter.all false
set_option maxRecDepth 100000
set_option maxHeartbeats 8000000
namespace Toy
open PySem PySem.Spec PyProof.Rows L2 Tx TL
/-! ### the same over lists of signs -/
def goC1 (kept : List (List Nat)) (s : List Nat) : List (List Nat) := if s = [46, 46] then kept.dropLast else if s = [46] then kept else kept ++ [s]
def opC (segs : List (List Nat)) : Bool := match segs.getLast? with
  | some l => l == [46] || l == [46, 46]
  | none => false
def wdC (segs : List (List Nat)) : List (List Nat) := if opC segs = true then segs.foldl goC1 [] ++ [[]] else segs.foldl goC1 []
def shC : List (List Nat) → List (List Nat) → Nat
  | a :: l, b :: m => if a = b then shC l m + 1 else 0
  | _, _ => 0
def rootC (g : List (List Nat)) : List Nat := (if 1 < g.length ∧ g.head? = some [] then [47, 46] else []) ++ (47 :: joinL [47] g)
def foldC (f g : List (List Nat)) : List Nat :=
  if g.drop (shC f g.dropLast) = [[]] then (if f.length - shC f g.dropLast = 0 then [46] else joinL [47] (List.replicate (f.length - shC f g.dropLast) [46, 46]))
  else if f.length - shC f g.dropLast = 0 ∧ (g.drop (shC f g.dropLast)).head? = some [] then [46, 47] ++ joinL [47] (g.drop (shC f g.dropLast))
  else joinL [47] (List.replicate (f.length - shC f g.dropLast) [46, 46] ++ g.drop (shC f g.dropLast))
/-- x comes first, or is y: by length, then by signs -/
def lexLe : List Nat → List Nat → Bool
  | [], _ => true
  | _ :: _, [] => false
  | a :: l, b :: m => if a < b then true else if b < a then false else lexLe l m
def keyLe (x y : List Nat) : Bool := if x.length < y.length then true else if y.length < x.length then false else lexLe x y
theorem lexLe_iff : ∀ x y : List Nat, lexLe x y = true ↔ ¬ y < x
  | [], y => by
    constructor
    · intro _ h; cases h
    · intro _; rfl
  | a :: l, [] => by
    constructor
    · intro h; cases h
    · intro h; exact absurd (List.Lex.nil) h
  | a :: l, b :: m => by
    unfold lexLe
    rw [List.cons_lt_cons_iff]
    by_cases h1 : a < b
    · rw [if_pos h1]
      exact ⟨fun _ z => (by rcases z with z | z <;> omega), fun _ => rfl⟩
    · rw [if_neg h1]
      by_cases h2 : b < a
      · rw [if_pos h2]
        exact ⟨fun h => (by cases h), fun h => absurd (Or.inl h2) h⟩
      · rw [if_neg h2, lexLe_iff l m]
        have e : b = a := by omega
        exact ⟨fun h z => z.elim (fun z => h2 z) (fun z => h z.2), fun h z => h (Or.inr ⟨e, z⟩)⟩
theorem lexLe_refl : ∀ x : List Nat, lexLe x x = true
  | [] => rfl
  | a :: l => by unfold lexLe; rw [if_neg (Nat.lt_irrefl a), if_neg (Nat.lt_irrefl a)]; exact lexLe_refl l
theorem lexLe_anti : ∀ {x y : List Nat}, lexLe x y = true → lexLe y x = true → x = y
  | [], [], _, _ => rfl
  | [], b :: m, _, h => by cases h
  | a :: l, [], h, _ => by cases h
  | a :: l, b :: m, h1, h2 => by
    unfold lexLe at h1 h2
    by_cases c1 : a < b
    · rw [if_neg (by omega), if_pos c1] at h2; cases h2
    · by_cases c2 : b < a
      · rw [if_neg c1, if_pos c2] at h1; cases h1
      · rw [if_neg c1, if_neg c2] at h1
        rw [if_neg c2, if_neg c1] at h2
        rw [lexLe_anti h1 h2, show a = b by omega]
theorem lexLe_trans : ∀ {x y z : List Nat}, lexLe x y = true → lexLe y z = true → lexLe x z = true
  | [], _, _, _, _ => rfl
  | a :: l, [], _, h, _ => by cases h
  | a :: l, b :: m, [], _, h => by cases h
  | a :: l, b :: m, c :: n, h1, h2 => by
    unfold lexLe at h1 h2 ⊢
    by_cases c1 : a < b
    · by_cases c2 : b < c
      · rw [if_pos (by omega)]
      · by_cases c3 : c < b
        · rw [if_neg c2, if_pos c3] at h2; cases h2
        · rw [if_pos (by omega)]
    · by_cases c2 : b < a
      · rw [if_neg c1, if_pos c2] at h1; cases h1
      · rw [if_neg c1, if_neg c2] at h1
        by_cases c3 : b < c
        · rw [if_pos (by omega)]
        · by_cases c4 : c < b
          · rw [if_neg c3, if_pos c4] at h2; cases h2
          · rw [if_neg c3, if_neg c4] at h2
            rw [if_neg (by omega), if_neg (by omega)]
            exact lexLe_trans h1 h2
theorem keyLe_trans {x y z : List Nat} (h1 : keyLe x y = true) (h2 : keyLe y z = true) : keyLe x z = true := by
  unfold keyLe at *
  split at h1
  · split at h2
    · rw [if_pos (by omega)]
    · split at h2
      · cases h2
      · rw [if_pos (by omega)]
  · split at h1
    · cases h1
    · split at h2
      · rw [if_pos (by omega)]
      · split at h2
        · cases h2
        · rw [if_neg (by omega), if_neg (by omega)]; exact lexLe_trans h1 h2
/-- the program's order of keys -/
theorem dataLt_key (x y : Str) : PySem.W.dataLt (Vz.kD x) (Vz.kD y) = !keyLe (tl y) (tl x) := by
  have lx := len_tl x
  have ly := len_tl y
  by_cases h : x.length = y.length
  · unfold Vz.kD
    have e : PyData.eqv (.int x.length) (.int y.length) = true := by
      show (((x.length : Int)) == ((y.length : Int))) = true
      rw [beq_iff_eq]; omega
    rw [PySem.W.dataLt_tuple, PySem.W.dataLt_all_yes rfl e]
    have r : PyProof.Rows.lexLt itemOrd (PySem.W.keyToksAll [.str x]) (PySem.W.keyToksAll [.str y]) = !lexLe (tl y) (tl x) := by
      by_cases hxy : x = y
      · subst hxy
        have e2 : PyData.eqv (.str x) (.str x) = true := by show (x == x) = true; simp
        rw [PySem.W.dataLt_all_yes rfl e2, lexLe_refl]
        decide
      · have e2 : PyData.eqv (.str x) (.str y) = false := by show (x == y) = false; rw [beq_eq_false_iff_ne]; exact hxy
        rw [PySem.W.dataLt_all_no rfl e2, PySem.W.dataLt_str]
        have := lexLe_iff (tl y) (tl x)
        cases hl : lexLe (tl y) (tl x) with
        | true =>
          exact decide_eq_false (this.mp hl)
        | false =>
          refine decide_eq_true ?_
          apply Classical.byContradiction
          intro z
          rw [this.mpr z] at hl
          cases hl
    rw [r]
    unfold keyLe
    rw [if_neg (by omega), if_neg (by omega)]
  · rw [kD_lt h]
    unfold keyLe
    by_cases h2 : x.length < y.length
    · rw [decide_eq_true h2, if_neg (by omega), if_pos (by omega)]; rfl
    · rw [decide_eq_false h2, if_pos (by omega)]; rfl
theorem keyLe_tot (x y : List Nat) : keyLe x y = true ∨ keyLe y x = true := by
  unfold keyLe
  by_cases h1 : x.length < y.length
  · exact .inl (by rw [if_pos h1])
  · by_cases h2 : y.length < x.length
    · exact .inr (by rw [if_pos h2])
    · rw [if_neg h1, if_neg h2, if_neg h2, if_neg h1]
      cases h : lexLe x y with
      | true => exact .inl rfl
      | false =>
        refine .inr ((lexLe_iff y x).mpr fun z => ?_)
        have : lexLe x y = true := (lexLe_iff x y).mpr fun z2 => List.lt_asymm z z2
        rw [h] at this
        cases this
theorem min_key (x y : Str) : keyLe (tl (Vz.minS x y)) (tl x) = true ∧ keyLe (tl (Vz.minS x y)) (tl y) = true := by
  have rf : ∀ z : List Nat, keyLe z z = true := fun z => (keyLe_tot z z).elim id id
  unfold Vz.minS
  rw [dataLt_key]
  cases h : keyLe (tl x) (tl y) with
  | true =>
    rw [if_neg (by decide)]
    exact ⟨rf _, h⟩
  | false =>
    rw [show (if (!false) = true then y else x) = y from rfl]
    refine ⟨?_, rf _⟩
    rcases keyLe_tot (tl x) (tl y) with z | z
    · rw [h] at z; cases z
    · exact z
end Toy
set_option Elab.async false
set_option linter.all false
set_option maxRecDepth 100000
set_option maxHeartbeats 8000000
namespace Toy
open PySem PySem.Spec PyProof.Rows L2 Tx TL
theorem tl_up : tl (".." : Str) = [46, 46] := by decide +kernel
theorem tl_dot : tl ("." : Str) = [46] := by decide +kernel
theorem tl_emp : tl ("" : Str) = [] := by decide +kernel
theorem eq_tl {x y : Str} : x = y ↔ tl x = tl y := ⟨fun h => by rw [h], ext_tl⟩
theorem go1_map (kept : List Str) (s : Str) : (goStep kept s).map tl = goC1 (kept.map tl) (tl s) := by
  have u1 : (tl s = [46, 46]) = (s = "..") := propext ⟨fun z => eq_tl.mpr (z.trans tl_up.symm), fun z => by rw [z, tl_up]⟩
  have u2 : (tl s = [46]) = (s = ".") := propext ⟨fun z => eq_tl.mpr (z.trans tl_dot.symm), fun z => by rw [z, tl_dot]⟩
  unfold goStep goC1
  by_cases h1 : s = ".."
  · rw [if_pos h1, if_pos (u1.mpr h1), List.map_dropLast]
  · rw [if_neg h1, if_neg (fun z => h1 (u1.mp z))]
    by_cases h2 : s = "."
    · rw [if_pos h2, if_pos (u2.mpr h2)]
    · rw [if_neg h2, if_neg (fun z => h2 (u2.mp z)), List.map_append]; rfl
theorem go_map (segs : List Str) : (goS segs).map tl = (segs.map tl).foldl goC1 [] := by
  have gen : ∀ (l acc : List Str), (l.foldl goStep acc).map tl = (l.map tl).foldl goC1 (acc.map tl) := by
    intro l
    induction l with
    | nil => intro acc; rfl
    | cons x r ih => intro acc; rw [List.foldl_cons, List.map_cons, List.foldl_cons, ih, go1_map]
  exact gen segs []
theorem op_map (segs : List Str) : opn segs = opC (segs.map tl) := by
  unfold opn opC
  rw [List.getLast?_map]
  cases segs.getLast? with
  | none => rfl
  | some l =>
    show dotP l = (tl l == [46] || tl l == [46, 46])
    rw [dot_eq, Bool.eq_iff_iff]
    simp only [Bool.or_eq_true, decide_eq_true_eq, beq_iff_eq]
    rw [eq_tl, eq_tl, tl_up, tl_dot]
    exact Or.comm
theorem wd_map (segs : List Str) : (wdots segs).map tl = wdC (segs.map tl) := by
  unfold wdots wdC
  rw [op_map]
  split
  · rw [List.map_append, go_map, List.map_cons, tl_emp]; rfl
  · exact go_map segs
theorem sh_map : ∀ l m : List Str, shc l m = shC (l.map tl) (m.map tl)
  | [], m => by cases m <;> rfl
  | a :: l, [] => rfl
  | a :: l, b :: m => by
    unfold shc
    show _ = (if tl a = tl b then shC (l.map tl) (m.map tl) + 1 else 0)
    by_cases h : a = b
    · rw [if_pos h, if_pos (by rw [h]), sh_map l m]
    · rw [if_neg h, if_neg (fun z => h (ext_tl z))]
theorem join_map (l : List Str) : tl (Txt.join "/" l) = joinL [47] (l.map tl) := by rw [join_eq, tl_join, tl_slash]
theorem head_map (g : List Str) : g.head? = some ("" : Str) ↔ (g.map tl).head? = some [] := by
  cases g with
  | nil =>
    constructor
    · intro h; cases h
    · intro h; cases h
  | cons x r =>
    show some x = some ("" : Str) ↔ some (tl x) = some []
    constructor
    · intro h; rw [Option.some.inj h, tl_emp]
    · intro h; rw [tl_nil (Option.some.inj h)]
theorem root_map (g : List Str) : tl (rootW g) = rootC (g.map tl) := by
  have h := head_map g
  unfold rootW rootC
  rw [tl_append, tl_append, tl_slash, join_map, List.length_map, List.append_assoc]
  split
  · rename_i c
    have c : 1 < g.length ∧ g.head? = some ("" : Str) := c
    rw [if_pos ⟨c.1, h.mp c.2⟩, show tl ("/." : Str) = [47, 46] by decide +kernel]; rfl
  · rename_i c
    have c : ¬ (1 < g.length ∧ g.head? = some ("" : Str)) := c
    rw [if_neg (fun z => c ⟨z.1, h.mpr z.2⟩), tl_emp]; rfl
theorem empty_map (l : List Str) : l = [("" : Str)] ↔ l.map tl = [[]] := by
  constructor
  · intro h; rw [h, List.map_cons, tl_emp]; rfl
  · intro h
    cases l with
    | nil => cases h
    | cons x r =>
      cases r with
      | nil => rw [tl_nil (List.cons.inj h).1]
      | cons y s => cases (List.cons.inj h).2
theorem fold_map (f g : List Str) : tl (foldW f g) = foldC (f.map tl) (g.map tl) := by
  unfold foldW foldC
  have e1 : restL f g = g.drop (shc f g.dropLast) := rfl
  have e2 : shc f g.dropLast = shC (f.map tl) (g.map tl).dropLast := by rw [sh_map, List.map_dropLast]
  have e3 : (restL f g).map tl = (g.map tl).drop (shC (f.map tl) (g.map tl).dropLast) := by rw [e1, e2, List.map_drop]
  have e4 : (upsL f g).map tl = List.replicate ((f.map tl).length - shC (f.map tl) (g.map tl).dropLast) [46, 46] := by unfold upsL; rw [List.map_replicate, tl_up, e2, List.length_map]
  have e5 : upsL f g = [] ↔ (f.map tl).length - shC (f.map tl) (g.map tl).dropLast = 0 := by
    unfold upsL
    rw [List.replicate_eq_nil_iff, e2, List.length_map]
  rw [← e3]
  have h1 := empty_map (restL f g)
  have h2 := head_map (restL f g)
  by_cases c1 : restL f g = [("" : Str)]
  · rw [if_pos c1, if_pos (h1.mp c1)]
    by_cases c2 : upsL f g = []
    · rw [if_pos c2, if_pos (e5.mp c2)]; exact tl_dot
    · rw [if_neg c2, if_neg (fun z => c2 (e5.mpr z)), join_map, e4]
  · rw [if_neg c1, if_neg (fun z => c1 (h1.mpr z))]
    split
    · rename_i c2
      have c2 : upsL f g = [] ∧ (restL f g).head? = some ("" : Str) := c2
      rw [if_pos ⟨e5.mp c2.1, h2.mp c2.2⟩, tl_append, join_map, show tl ("./" : Str) = [46, 47] by decide +kernel]
    · rename_i c2
      have c2 : ¬ (upsL f g = [] ∧ (restL f g).head? = some ("" : Str)) := c2
      rw [if_neg (fun z => c2 ⟨e5.mpr z.1, h2.mpr z.2⟩), join_map, List.map_append, e4]
def splC : List Nat → List Nat → List (List Nat)
  | acc, [] => [acc]
  | acc, c :: r => if c = 47 then acc :: splC [] r else splC (acc ++ [c]) r
theorem spl_is : ∀ (l acc : List Nat), spl [47] 0 acc l = splC acc l
  | [], acc => by rw [spl_nil]; rfl
  | c :: r, acc => by
    unfold splC
    by_cases h : c = 47
    · rw [if_pos h, spl_hit (by unfold pre; rw [h]; rfl)]
      show acc :: spl [47] 0 [] r = _
      rw [spl_is r []]
    · rw [if_neg h, spl_miss (by unfold pre; rw [beq_eq_false_iff_ne]; intro z; exact h (List.cons.inj z).1), spl_is r (acc ++ [c])]
theorem split_map (t : Str) : (Txt.split t "/").map tl = splC [] (tl t) := by rw [split_tl, spl_is]
/-! ### the finite checks -/
def wdsC : List (List Nat) := [[97], [98], [], [97, 98]]
def F21 : List (List (List Nat)) := [] :: (wdsC.map fun x => [x]) ++ wdsC.flatMap fun x => wdsC.map fun y => [x, y]
def allC : Nat → List (List Nat)
  | 0 => [[]]
  | k + 1 => (allC k).flatMap fun x => [x ++ [46], x ++ [47], x ++ [97], x ++ [98]]
def check1 (t : List Nat) : Bool := match t with
  | 47 :: u => (match u with | 47 :: _ => true | _ => keyLe (rootC (wdC (splC [] u))) t)
  | _ => true
def check2 (f : List (List Nat)) (t : List Nat) : Bool := match t with
  | [] => true
  | 47 :: _ => true
  | _ => keyLe (foldC f (wdC (f ++ splC [] t))) t || keyLe (rootC (wdC (f ++ splC [] t))) t
theorem checked1 : ∀ k : Fin 6, (allC k.val).all check1 = true := by decide +kernel
end Toy
set_option Elab.async false
set_option linter.all false
set_option maxRecDepth 100000
set_option maxHeartbeats 8000000
namespace Toy
open PySem PySem.Spec PyProof.Rows L2 Tx TL
def chk (f : List (List Nat)) : Bool := (allC 0).all (check2 f) && (allC 1).all (check2 f) && (allC 2).all (check2 f) && (allC 3).all (check2 f) && (allC 4).all (check2 f) && (allC 5).all (check2 f)
theorem ck0 : chk [] = true := by decide +kernel
theorem ck1 : chk [[97]] = true := by decide +kernel
theorem ck2 : chk [[98]] = true := by decide +kernel
theorem ck3 : chk [[]] = true := by decide +kernel
theorem ck4 : chk [[97, 98]] = true := by decide +kernel
theorem ck5 : chk [[97], [97]] = true := by decide +kernel
theorem ck6 : chk [[97], [98]] = true := by decide +kernel
theorem ck7 : chk [[97], []] = true := by decide +kernel
theorem ck8 : chk [[97], [97, 98]] = true := by decide +kernel
theorem ck9 : chk [[98], [97]] = true := by decide +kernel
theorem ck10 : chk [[98], [98]] = true := by decide +kernel
theorem ck11 : chk [[98], []] = true := by decide +kernel
theorem ck12 : chk [[98], [97, 98]] = true := by decide +kernel
theorem ck13 : chk [[], [97]] = true := by decide +kernel
theorem ck14 : chk [[], [98]] = true := by decide +kernel
theorem ck15 : chk [[], []] = true := by decide +kernel
theorem ck16 : chk [[], [97, 98]] = true := by decide +kernel
theorem ck17 : chk [[97, 98], [97]] = true := by decide +kernel
theorem ck18 : chk [[97, 98], [98]] = true := by decide +kernel
theorem ck19 : chk [[97, 98], []] = true := by decide +kernel
theorem ck20 : chk [[97, 98], [97, 98]] = true := by decide +kernel
theorem checked2 (f : List (List Nat)) (hf : f ∈ F21) : chk f = true := by
  have e : F21 = [[], [[97]], [[98]], [[]], [[97, 98]], [[97], [97]], [[97], [98]], [[97], []], [[97], [97, 98]], [[98], [97]], [[98], [98]], [[98], []], [[98], [97, 98]], [[], [97]], [[], [98]], [[], []], [[], [97, 98]], [[97, 98], [97]], [[97, 98], [98]], [[97, 98], []], [[97, 98], [97, 98]]] := by decide
  rw [e] at hf
  simp only [List.mem_cons, List.not_mem_nil, or_false] at hf
  rcases hf with rfl | rfl | rfl | rfl | rfl | rfl | rfl | rfl | rfl | rfl | rfl | rfl | rfl | rfl | rfl | rfl | rfl | rfl | rfl | rfl | rfl
  · exact ck0
  · exact ck1
  · exact ck2
  · exact ck3
  · exact ck4
  · exact ck5
  · exact ck6
  · exact ck7
  · exact ck8
  · exact ck9
  · exact ck10
  · exact ck11
  · exact ck12
  · exact ck13
  · exact ck14
  · exact ck15
  · exact ck16
  · exact ck17
  · exact ck18
  · exact ck19
  · exact ck20
theorem check_rel {f : List (List Nat)} {t : List Nat} {k : Nat} (hf : f ∈ F21) (hk : k < 6) (ht : t ∈ allC k) : check2 f t = true := by
  have c := checked2 f hf
  unfold chk at c
  simp only [Bool.and_eq_true] at c
  obtain ⟨⟨⟨⟨⟨c0, c1⟩, c2⟩, c3⟩, c4⟩, c5⟩ := c
  match k, hk with
  | 0, _ => exact List.all_eq_true.mp c0 t ht
  | 1, _ => exact List.all_eq_true.mp c1 t ht
  | 2, _ => exact List.all_eq_true.mp c2 t ht
  | 3, _ => exact List.all_eq_true.mp c3 t ht
  | 4, _ => exact List.all_eq_true.mp c4 t ht
  | 5, _ => exact List.all_eq_true.mp c5 t ht
theorem check_abs {t : List Nat} {k : Nat} (hk : k < 6) (ht : t ∈ allC k) : check1 t = true := List.all_eq_true.mp (checked1 ⟨k, hk⟩) t ht
/-! ### references with a host -/
def ofC (l : List Nat) : Str := ⟨l.toArray⟩
theorem tl_ofC (l : List Nat) : tl (ofC l) = l := rfl
theorem ofC_tl (x : Str) : ofC (tl x) = x := ext_tl (tl_ofC _)
def check3 (s : List Nat) : Bool := match resV none (ofC (47 :: 47 :: s)) with
  | none => true
  | some a => keyLe (rootC ((partsS a).map tl)) (47 :: 47 :: s) && keyLe (tl (if partsS a = [("" : Str)] then "//" ++ partsH a else a)) (47 :: 47 :: s)
theorem checked3 : ((allC 0).all check3 && (allC 1).all check3 && (allC 2).all check3 && (allC 3).all check3) = true := by decide +kernel
end Toy
set_option Elab.async false
set_option linter.all false
set_option maxRecDepth 100000
set_option maxHeartbeats 8000000
namespace Toy
open PySem PySem.Spec PyProof.Rows L2 Tx TL
def S4 (l : List Nat) : Prop := ∀ c ∈ l, c = 46 ∨ c = 47 ∨ c = 97 ∨ c = 98
theorem S4.app {x y : List Nat} (h : S4 x) (k : S4 y) : S4 (x ++ y) := fun c hc => (List.mem_append.mp hc).elim (h c) (k c)
theorem allC_mem : ∀ (k : Nat) (l : List Nat), l ∈ allC k ↔ l.length = k ∧ S4 l
  | 0, l => by
    constructor
    · intro h
      rw [List.mem_singleton.mp h]
      exact ⟨rfl, fun c hc => nomatch hc⟩
    · rintro ⟨h, _⟩
      rw [List.length_eq_zero_iff.mp h]
      exact List.mem_singleton.mpr rfl
  | k + 1, l => by
    show l ∈ (allC k).flatMap _ ↔ _
    rw [List.mem_flatMap]
    constructor
    · rintro ⟨x, hx, h⟩
      obtain ⟨h1, h2⟩ := (allC_mem k x).mp hx
      simp only [List.mem_cons, List.not_mem_nil, or_false] at h
      have one : ∀ d : Nat, (d = 46 ∨ d = 47 ∨ d = 97 ∨ d = 98) → l = x ++ [d] → l.length = k + 1 ∧ S4 l := fun d hd e => by
        rw [e]
        exact ⟨by rw [List.length_append, h1]; rfl, h2.app fun c hc => by rw [List.mem_singleton.mp hc]; exact hd⟩
      rcases h with h | h | h | h
      · exact one _ (by simp) h
      · exact one _ (by simp) h
      · exact one _ (by simp) h
      · exact one _ (by simp) h
    · rintro ⟨h1, h2⟩
      rcases List.eq_nil_or_concat l with h | ⟨x, d, h⟩
      · rw [h] at h1; cases h1
      · rw [List.concat_eq_append] at h
        rw [h, List.length_append] at h1
        have hx : S4 x := fun c hc => h2 c (by rw [h]; exact List.mem_append_left _ hc)
        have hd := h2 d (by rw [h]; simp)
        have h1 : x.length + 1 = k + 1 := h1
        refine ⟨x, (allC_mem k x).mpr ⟨by omega, hx⟩, ?_⟩
        rw [h]
        rcases hd with e | e | e | e <;> rw [e] <;> simp
theorem lex_snoc : ∀ (x y : List Nat) (c d : Nat), x.length = y.length → lexLe (y ++ [d]) (x ++ [c]) = (if y = x then decide (d ≤ c) else lexLe y x)
  | [], [], c, d, _ => by
    rw [if_pos rfl]
    show (if d < c then true else if c < d then false else lexLe [] []) = _
    by_cases h1 : d < c
    · rw [if_pos h1, decide_eq_true (by omega)]
    · by_cases h2 : c < d
      · rw [if_neg h1, if_pos h2, decide_eq_false (by omega)]
      · rw [if_neg h1, if_neg h2, decide_eq_true (by omega)]; rfl
  | [], _ :: _, _, _, h => by cases h
  | _ :: _, [], _, _, h => by cases h
  | a :: x, b :: y, c, d, h => by
    have ih := lex_snoc x y c d (by simpa using h)
    show (if b < a then true else if a < b then false else lexLe (y ++ [d]) (x ++ [c])) = (if b :: y = a :: x then decide (d ≤ c) else (if b < a then true else if a < b then false else lexLe y x))
    by_cases h1 : b < a
    · rw [if_pos h1, if_neg (fun z => by have := (List.cons.inj z).1; omega), if_pos h1]
    · by_cases h2 : a < b
      · rw [if_neg h1, if_pos h2, if_neg (fun z => by have := (List.cons.inj z).1; omega), if_neg h1, if_pos h2]
      · have e : b = a := by omega
        rw [if_neg h1, if_neg h2, ih]
        by_cases h3 : y = x
        · rw [if_pos h3, if_pos (by rw [e, h3])]
        · rw [if_neg h3, if_neg (fun z => h3 (List.cons.inj z).2), if_neg h1, if_neg h2]
theorem allC_up (k : Nat) : (allC k).Pairwise fun x y => lexLe y x = false := by
  induction k with
  | zero => exact List.pairwise_singleton _ _
  | succ k ih =>
    show ((allC k).flatMap _).Pairwise _
    rw [List.pairwise_flatMap]
    refine ⟨fun x hx => ?_, ?_⟩
    · have s : ∀ c d : Nat, c < d → lexLe (x ++ [d]) (x ++ [c]) = false := fun c d h => by
        rw [lex_snoc x x c d rfl, if_pos rfl, decide_eq_false (by omega)]
      simp only [List.pairwise_cons, List.mem_cons, List.not_mem_nil, or_false, forall_eq_or_imp, forall_eq, List.Pairwise.nil, and_true]
      exact ⟨⟨s _ _ (by decide), s _ _ (by decide), s _ _ (by decide)⟩, ⟨s _ _ (by decide), s _ _ (by decide)⟩, s _ _ (by decide), fun a h => nomatch h⟩
    · refine List.Pairwise.imp_of_mem (fun {x y} hx hy h => ?_) ih
      have l1 := ((allC_mem k x).mp hx).1
      have l2 := ((allC_mem k y).mp hy).1
      have ne : y ≠ x := fun z => by rw [z, lexLe_refl] at h; cases h
      have s : ∀ c d : Nat, lexLe (y ++ [d]) (x ++ [c]) = false := fun c d => by
        rw [lex_snoc x y c d (by omega), if_neg ne]; exact h
      intro u hu v hv
      simp only [List.mem_cons, List.not_mem_nil, or_false] at hu hv
      rcases hu with rfl | rfl | rfl | rfl <;> rcases hv with rfl | rfl | rfl | rfl <;> exact s _ _
theorem keyLe_nil (x : List Nat) : keyLe [] x = true := by
  show (if 0 < x.length then true else if x.length < 0 then false else true) = true
  by_cases h : 0 < x.length
  · rw [if_pos h]
  · rw [if_neg h, if_neg (by omega)]
theorem wdots_ne {segs : List Str} (h : segs ≠ []) : wdots segs ≠ [] := by
  unfold wdots
  split
  · simp
  · rename_i c
    rcases List.eq_nil_or_concat segs with e | ⟨xs, v, e⟩
    · exact absurd e h
    · rw [List.concat_eq_append] at e
      rw [e, opn_snoc] at c
      have c : dotP v = false := by simpa using c
      rw [dot_eq, Bool.or_eq_false_iff, decide_eq_false_iff_not, decide_eq_false_iff_not] at c
      rw [e, go_app]
      show goStep (goS xs) v ≠ []
      unfold goStep
      rw [if_neg c.1, if_neg c.2]
      simp
theorem wdots_47 {segs : List Str} (h : ∀ x ∈ segs, 47 ∉ tl x) : ∀ x ∈ wdots segs, 47 ∉ tl x := by
  have gen : ∀ (l acc : List Str), (∀ x ∈ l, 47 ∉ tl x) → (∀ x ∈ acc, 47 ∉ tl x) → ∀ x ∈ l.foldl goStep acc, 47 ∉ tl x := by
    intro l
    induction l with
    | nil => intro acc _ h; exact h
    | cons y r ih =>
      intro acc hl hacc
      rw [List.foldl_cons]
      refine ih _ (fun x hx => hl x (List.mem_cons_of_mem _ hx)) ?_
      unfold goStep
      split
      · exact fun x hx => hacc x (List.dropLast_subset _ hx)
      · split
        · exact hacc
        · intro x hx
          rcases List.mem_append.mp hx with z | z
          · exact hacc x z
          · rw [List.mem_singleton.mp z]; exact hl y (by simp)
  have g := gen segs [] h (fun x hx => nomatch hx)
  unfold wdots
  split
  · intro x hx
    rcases List.mem_append.mp hx with z | z
    · exact g x z
    · rw [List.mem_singleton.mp z]; decide +kernel
  · exact g
/-- what a resolved path is made of -/
theorem res_parts {h a : Str} {segs : List Str} (hh : 47 ∉ tl h) (sn : segs ≠ []) (s47 : ∀ x ∈ segs, 47 ∉ tl x) (e : addrV h segs = some a) : partsH a = h ∧ partsS a = wdots segs := by
  obtain ⟨e1, _⟩ := addrV_some e
  rw [e1]
  exact adrT_parts hh (wdots_ne sn) (wdots_47 s47)
theorem pre_cons (c : Nat) (l : List Nat) : pre [47] (c :: l) = decide (c = 47) := by
  unfold pre
  show ([c] == [47]) = _
  rw [Bool.eq_iff_iff, beq_iff_eq, decide_eq_true_eq]
  exact ⟨fun h => (List.cons.inj h).1, fun h => by rw [h]⟩
theorem least {b a t : Str} {k : Nat} (hb : adrP b = true) (ha : adrP a = true) (hf : (partsS b).dropLast.map tl ∈ F21) (hk : k < 6) (ht : tl t ∈ allC k) (hr : resV (some b) t = some a) : keyLe (tl (shortV b a)) (tl t) = true := by
  obtain ⟨tk, ts⟩ := (allC_mem k _).mp ht
  obtain ⟨_, hhb, _, _⟩ := adr_eq hb
  by_cases hba : b = a
  · have e : shortV b a = "" := by unfold shortV; rw [if_pos hba]
    rw [e, tl_emp]; exact keyLe_nil _
  · have sv : shortV b a = if partsH b = partsH a then Vz.minS (rootW (partsS a)) (foldW (partsS b).dropLast (partsS a)) else if partsS a = [("" : Str)] then "//" ++ partsH a else a := by
      unfold shortV; rw [if_neg hba]
    have h35 : 35 ∉ tl t := fun z => by rcases ts 35 z with e | e | e | e <;> cases e
    have er := part_none h35
    have mk := min_key (rootW (partsS a)) (foldW (partsS b).dropLast (partsS a))
    rw [root_map, fold_map] at mk
    cases hs : Txt.startswith t "//" with
    | true =>
      have e2 := sw_two_eq hs
      have et : tl t = 47 :: 47 :: tl (cutS t (some 2) none) := by
        have := congrArg tl e2
        rw [tl_append, tl_dbl] at this
        exact this
      have hn : resV none t = some a := by
        unfold resV at hr ⊢
        rw [er, if_pos hs] at hr ⊢
        exact hr
      generalize tl (cutS t (some 2) none) = s at *
      have hs4 : S4 s := fun c hc => ts c (by rw [et]; simp [hc])
      have sl : s.length < 4 := by rw [et] at tk; simp only [List.length_cons] at tk; omega
      have c3 : check3 s = true := by
        have all := checked3
        simp only [Bool.and_eq_true] at all
        obtain ⟨⟨⟨c0, c1⟩, c2⟩, c3⟩ := all
        have hm := (allC_mem s.length s).mpr ⟨rfl, hs4⟩
        match hl : s.length, sl with
        | 0, _ => rw [hl] at hm; exact List.all_eq_true.mp c0 s hm
        | 1, _ => rw [hl] at hm; exact List.all_eq_true.mp c1 s hm
        | 2, _ => rw [hl] at hm; exact List.all_eq_true.mp c2 s hm
        | 3, _ => rw [hl] at hm; exact List.all_eq_true.mp c3 s hm
      have eo : ofC (47 :: 47 :: s) = t := by rw [← et]; exact ofC_tl t
      unfold check3 at c3
      rw [eo, hn] at c3
      have c3 : (keyLe (rootC ((partsS a).map tl)) (47 :: 47 :: s) && keyLe (tl (if partsS a = [("" : Str)] then "//" ++ partsH a else a)) (47 :: 47 :: s)) = true := c3
      rw [Bool.and_eq_true] at c3
      rw [sv, et]
      split
      · exact keyLe_trans mk.1 c3.1
      · exact c3.2
    | false =>
      have hr2 : addrV (partsH b) (segB (partsS b) t) = some a := by
        unfold resV at hr
        rw [er, if_neg (by rw [hs]; decide)] at hr
        exact hr
      have bn := (parts_small b).2.2
      by_cases t0 : t = ""
      · rw [t0, res_empty hb] at hr
        exact absurd (Option.some.inj hr) hba
      · have tne : tl t ≠ [] := fun z => t0 (tl_nil z)
        have sn : segB (partsS b) t ≠ [] := (segB_small (r := t) bn).2
        cases hs1 : Txt.startswith t "/" with
        | true =>
          have eseg : segB (partsS b) t = Txt.split (cutS t (some 1) none) "/" := by unfold segB; rw [if_neg t0, if_pos hs1]
          have e1 := sw_one hs1
          have et : tl t = 47 :: tl (cutS t (some 1) none) := by
            have := congrArg tl e1
            rw [tl_append, tl_slash] at this
            exact this
          obtain ⟨p1, p2⟩ := res_parts (host_47 hhb) sn (by rw [eseg]; exact split_free _) hr2
          have em : (partsS a).map tl = wdC (splC [] (tl (cutS t (some 1) none))) := by rw [p2, wd_map, eseg, split_map]
          have c1 := check_abs hk ht
          generalize tl (cutS t (some 1) none) = u at *
          have cc : keyLe (rootC ((partsS a).map tl)) (tl t) = true := by
            rw [em]
            rw [et] at c1 ⊢
            unfold check1 at c1
            cases u with
            | nil => exact c1
            | cons d r =>
              by_cases hd : d = 47
              · exfalso
                have t2 : tl ("//" : Str) = [47, 47] := by decide +kernel
                rw [sw_pre (by rw [t2]; simp), t2, et, hd] at hs
                cases hs
              · have q : (match (d :: r : List Nat) with | 47 :: _ => true | _ => keyLe (rootC (wdC (splC [] (d :: r)))) (47 :: d :: r)) = true := c1
                split at q
                · rename_i z
                  exact absurd (List.cons.inj z).1 hd
                · exact q
          rw [sv, if_pos p1.symm]
          exact keyLe_trans mk.1 cc
        | false =>
          have eseg : segB (partsS b) t = (partsS b).dropLast ++ Txt.split t "/" := segB_app t0 hs1
          obtain ⟨p1, p2⟩ := res_parts (host_47 hhb) sn (by
            rw [eseg]
            exact fun x hx => (List.mem_append.mp hx).elim (fun z => parts_free b x (List.dropLast_subset _ z)) (split_free t x)) hr2
          have em : (partsS a).map tl = wdC ((partsS b).dropLast.map tl ++ splC [] (tl t)) := by rw [p2, wd_map, eseg, List.map_append, split_map]
          have c2 := check_rel hf hk ht
          rw [sw_slash] at hs1
          have cc : (keyLe (foldC ((partsS b).dropLast.map tl) ((partsS a).map tl)) (tl t) || keyLe (rootC ((partsS a).map tl)) (tl t)) = true := by
            rw [em]
            cases hl : tl t with
            | nil => exact absurd hl tne
            | cons d r =>
              rw [hl] at hs1 c2
              have hd : d ≠ 47 := of_decide_eq_false hs1
              unfold check2 at c2
              split at c2
              · rename_i z; cases z
              · rename_i z; exact absurd (List.cons.inj z).1 hd
              · exact c2
          rw [sv, if_pos p1.symm]
          rcases Bool.or_eq_true_iff.mp cc with z | z
          · exact keyLe_trans mk.2 z
          · exact keyLe_trans mk.1 z
end Toy
set_option Elab.async false
set_option linter.all false
set_option maxRecDepth 100000
set_option maxHeartbeats 8000000
namespace Toy
open PySem PySem.Spec PyProof.Rows L2 Tx TL
theorem join_mem {S : List Nat} {c : Nat} : ∀ {ps : List (List Nat)} {p : List Nat}, p ∈ ps → c ∈ p → c ∈ joinL S ps
  | [q], p, h, hc => by rw [← List.mem_singleton.mp h]; exact hc
  | q :: r :: s, p, h, hc => by
    show c ∈ q ++ (S ++ joinL S (r :: s))
    rcases List.mem_cons.mp h with e | e
    · rw [← e]; exact List.mem_append_left _ hc
    · exact List.mem_append_right _ (List.mem_append_right _ (join_mem e hc))
theorem S4_join {ws : List Str} (h : ∀ x ∈ ws, S4 (tl x)) : S4 (tl (Txt.join "/" ws)) := fun c hc => by
  rcases mem_join hc with z | ⟨p, hp, z⟩
  · rw [tl_slash] at z; exact .inr (.inl (List.mem_singleton.mp z))
  · exact h p hp c z
theorem S4_parts {a : Str} (ha : adrP a = true) (h : S4 (tl a)) : S4 (tl (partsH a)) ∧ ∀ x ∈ partsS a, S4 (tl x) := by
  have at_ := adr_tl ha
  refine ⟨fun c hc => h c (by rw [at_]; simp [hc]), fun x hx c hc => h c ?_⟩
  have : c ∈ tl (Txt.join "/" (partsS a)) := by
    rw [join_eq, tl_join]
    exact join_mem (List.mem_map.mpr ⟨x, hx, rfl⟩) hc
  rw [at_]; simp [this]
theorem S4_lit {x : Str} (h : (tl x).all (fun c => c == 46 || c == 47 || c == 97 || c == 98) = true) : S4 (tl x) := fun c hc => by
  have := List.all_eq_true.mp h c hc
  simpa [or_assoc] using this
theorem S4_short {b a : Str} (ha : adrP a = true) (h : S4 (tl a)) : S4 (tl (shortV b a)) := by
  obtain ⟨hH, hS⟩ := S4_parts ha h
  have ra : ∀ x ∈ restL (partsS b).dropLast (partsS a), S4 (tl x) := fun x hx => hS x (List.mem_of_mem_drop hx)
  have ua : ∀ x ∈ upsL (partsS b).dropLast (partsS a), S4 (tl x) := fun x hx => by rw [List.eq_of_mem_replicate hx]; exact S4_lit (by decide +kernel)
  have app : ∀ {x y : Str}, S4 (tl x) → S4 (tl y) → S4 (tl (x ++ y)) := fun hx hy => by rw [tl_append]; exact hx.app hy
  unfold shortV
  split
  · exact S4_lit (by decide +kernel)
  · split
    · rcases min_or (rootW (partsS a)) (foldW (partsS b).dropLast (partsS a)) with e | e
      · rw [e]
        unfold rootW
        refine app (app ?_ (S4_lit (by decide +kernel))) (S4_join hS)
        split
        · exact S4_lit (by decide +kernel)
        · exact S4_lit (by decide +kernel)
      · rw [e]
        unfold foldW
        split
        · split
          · exact S4_lit (by decide +kernel)
          · exact S4_join ua
        · split
          · exact app (S4_lit (by decide +kernel)) (S4_join ra)
          · exact S4_join fun x hx => (List.mem_append.mp hx).elim (ua x) (ra x)
    · split
      · exact app (S4_lit (by decide +kernel)) hH
      · exact h
structure Small (b : Str) : Prop where
  ok : adrP b = true
  sg : asc (tl b)
  s4 : S4 (tl b)
theorem due_some {b a t0 : Str} {k j : Nat} (hb : adrP b = true) (ha : Small a) (hf : (partsS b).dropLast.map tl ∈ F21) (hk : k < 6) (h0 : (allC k)[j]? = some (tl t0)) (hr : resV (some b) t0 = some a)
    (hlt : ∀ k' < k, ∀ l ∈ allC k', resV (some b) (ofC l) ≠ some a) (hj : ∀ j' < j, ∀ l, (allC k)[j']? = some l → resV (some b) (ofC l) ≠ some a) : t0 = shortV b a := by
  have m0 := List.mem_of_getElem? h0
  have kl := least hb ha.ok hf hk m0 hr
  have rs := short_res hb ha.ok ha.sg
  have s4 := S4_short (b := b) ha.ok ha.s4
  generalize shortV b a = s at *
  obtain ⟨tk, _⟩ := (allC_mem k _).mp m0
  have hm := (allC_mem (tl s).length (tl s)).mpr ⟨rfl, s4⟩
  unfold keyLe at kl
  rw [tk] at kl
  by_cases h1 : (tl s).length < k
  · exact absurd (by rw [ofC_tl]; exact rs) (hlt _ h1 _ hm)
  · rw [if_neg h1] at kl
    by_cases h2 : k < (tl s).length
    · rw [if_pos h2] at kl; cases kl
    · rw [if_neg h2] at kl
      have ek : (tl s).length = k := by omega
      rw [ek] at hm
      obtain ⟨i, hi⟩ := List.getElem?_of_mem hm
      rcases Nat.lt_trichotomy i j with c | c | c
      · exact absurd (by rw [ofC_tl]; exact rs) (hj i c _ hi)
      · rw [c, h0] at hi
        exact ext_tl (Option.some.inj hi)
      · exfalso
        have up := List.pairwise_iff_getElem.mp (allC_up k)
        obtain ⟨hj1, ej⟩ := List.getElem?_eq_some_iff.mp h0
        obtain ⟨hi1, ei⟩ := List.getElem?_eq_some_iff.mp hi
        have := up j i hj1 hi1 c
        rw [ej, ei, kl] at this
        cases this
theorem due_none {b a : Str} (hb : adrP b = true) (ha : Small a) (h : ∀ k < 6, ∀ l ∈ allC k, resV (some b) (ofC l) ≠ some a) : 5 < (shortV b a).length := by
  have rs := short_res hb ha.ok ha.sg
  have s4 := S4_short (b := b) ha.ok ha.s4
  rw [len_tl]
  apply Classical.byContradiction
  intro c
  exact h _ (by omega) _ ((allC_mem (tl (shortV b a)).length _).mpr ⟨rfl, s4⟩) (by rw [ofC_tl]; exact rs)
/-! ### the small addresses -/
def w4S : List Str := ["a", "b", "", "ab"]
def h2S : List Str := ["a", "b"]
theorem w4_ok : ∀ x ∈ w4S, (x.length ≤ 2 ∧ asc (tl x)) ∧ 47 ∉ tl x ∧ segP x = true ∧ tl x ∈ wdsC ∧ S4 (tl x) := by
  intro x hx
  have h := (by decide +kernel : ∀ x ∈ w4S, (decide (x.length ≤ 2) && ((tl x).all fun c => decide (c < 128)) && ((tl x).all fun c => c != 47) && segP x && decide (tl x ∈ wdsC) && (tl x).all (fun c => c == 46 || c == 47 || c == 97 || c == 98)) = true) x hx
  simp only [Bool.and_eq_true, decide_eq_true_eq] at h
  refine ⟨⟨h.1.1.1.1.1, fun c hc => of_decide_eq_true (List.all_eq_true.mp h.1.1.1.1.2 c hc)⟩, fun m => ?_, h.1.1.2, h.1.2, S4_lit h.2⟩
  have := List.all_eq_true.mp h.1.1.1.2 47 m
  simp at this
theorem h2_ok : ∀ x ∈ h2S, (x.length ≤ 1 ∧ asc (tl x)) ∧ 47 ∉ tl x ∧ hostP x = true ∧ S4 (tl x) := by
  intro x hx
  have h := (by decide +kernel : ∀ x ∈ h2S, (decide (x.length ≤ 1) && ((tl x).all fun c => decide (c < 128)) && ((tl x).all fun c => c != 47) && hostP x && (tl x).all (fun c => c == 46 || c == 47 || c == 97 || c == 98)) = true) x hx
  simp only [Bool.and_eq_true, decide_eq_true_eq] at h
  refine ⟨⟨h.1.1.1.1, fun c hc => of_decide_eq_true (List.all_eq_true.mp h.1.1.1.2 c hc)⟩, fun m => ?_, h.1.2, S4_lit h.2⟩
  have := List.all_eq_true.mp h.1.1.2 47 m
  simp at this
theorem sml_good {h : Str} {ws : List Str} (hh : h ∈ h2S) (wn : ws ≠ []) (wl : ws.length ≤ 3) (hw : ∀ x ∈ ws, x ∈ w4S) : Small (adrT h ws) ∧ (adrT h ws).length ≤ 13 ∧ (partsS (adrT h ws)).dropLast.map tl ∈ F21 := by
  obtain ⟨⟨a1, a2⟩, a3, a4, a5⟩ := h2_ok h hh
  obtain ⟨b1, b2⟩ := join_len (m := 2) (ws := ws) fun x hx => (w4_ok x (hw x hx)).1
  have l1 : ("/" : Str).length = 1 := by decide +kernel
  have l2 : ("//" : Str).length = 2 := by decide +kernel
  have e1 : asc (tl ("/" : Str)) := asc_of (by decide +kernel)
  have e2 : asc (tl ("//" : Str)) := asc_of (by decide +kernel)
  have ll : (adrT h ws).length ≤ 13 := by
    unfold adrT
    rw [join_eq, strLen_append, strLen_append, strLen_append, l1, l2]
    omega
  have p2 := (adrT_parts a3 wn fun x hx => (w4_ok x (hw x hx)).2.1).2
  refine ⟨⟨?_, ?_, ?_⟩, ?_, ?_⟩
  · unfold adrP
    rw [path_good a3 a4 wn fun x hx => ⟨(w4_ok x (hw x hx)).2.1, (w4_ok x (hw x hx)).2.2.1⟩]
    have e : adrT h ws = "//" ++ (h ++ "/" ++ Txt.join "/" ws) := by
      unfold adrT
      rw [str_assoc "//" h "/", str_assoc "//" (h ++ "/") _]
    rw [decide_eq_false (by omega), e, sw_two]
    rfl
  · unfold adrT
    rw [join_eq]
    exact asc_app (asc_app (asc_app e2 a2) e1) b2
  · unfold adrT
    rw [tl_append, tl_append, tl_append]
    exact ((((S4_lit (by decide +kernel) : S4 (tl ("//" : Str)))).app a5).app (S4_lit (by decide +kernel))).app (S4_join fun x hx => (w4_ok x (hw x hx)).2.2.2.2)
  · exact ll
  · rw [p2]
    have m : ∀ x ∈ ws, tl x ∈ wdsC := fun x hx => (w4_ok x (hw x hx)).2.2.2.1
    match ws, wn, wl, m with
    | [x], _, _, _ =>
      show [] ∈ F21
      decide
    | [x, y], _, _, m =>
      have h1 := m x (by simp)
      show [tl x] ∈ F21
      unfold F21
      simp only [List.cons_append, List.mem_cons, List.mem_append, List.mem_map, List.mem_flatMap]
      exact .inr (.inl ⟨_, h1, rfl⟩)
    | [x, y, z], _, _, m =>
      have h1 := m x (by simp)
      have h2 := m y (by simp)
      show [tl x, tl y] ∈ F21
      unfold F21
      simp only [List.cons_append, List.mem_cons, List.mem_append, List.mem_map, List.mem_flatMap]
      exact .inr (.inr ⟨_, h1, _, h2, rfl⟩)
end Toy
set_option Elab.async false
set_option linter.all false
set_option maxRecDepth 100000
set_option maxHeartbeats 8000000
namespace Toy
open PySem PySem.Spec PyProof.Rows L2 Tx TL
def allT (k : Nat) : List Str := (allC k).map ofC
theorem allC_len : ∀ k : Fin 6, (allC k.val).length ≤ 1024 := by decide +kernel
theorem allC_few {k : Nat} (h : k ≤ 5) : (allC k).length ≤ 1024 := allC_len ⟨k, by omega⟩
def ext4 (x : Str) : List Str := [x ++ ⟨#[46]⟩, x ++ ⟨#[47]⟩, x ++ ⟨#[97]⟩, x ++ ⟨#[98]⟩]
theorem ext_of (l : List Nat) (c : Nat) : ofC l ++ (⟨#[c]⟩ : Str) = ofC (l ++ [c]) := by apply ext_tl; rw [tl_append, tl_ofC, tl_ofC]
theorem allT_next (k : Nat) : allT (k + 1) = (allT k).flatMap ext4 := by
  unfold allT
  show ((allC k).flatMap _).map ofC = _
  rw [List.map_flatMap, List.flatMap_map]
  congr 1
  funext l
  unfold ext4
  rw [ext_of, ext_of, ext_of, ext_of]
  rfl
theorem flat_take {α β : Type} {f : α → List β} {xs : List α} {i : Nat} {x : α} (h : xs[i]? = some x) : (xs.take (i + 1)).flatMap f = (xs.take i).flatMap f ++ f x := by
  rw [List.take_add_one, h, List.flatMap_append]
  simp
theorem flat_len {xs : List Str} : (xs.flatMap ext4).length = 4 * xs.length := by
  induction xs with
  | nil => rfl
  | cons x r ih =>
    rw [List.flatMap_cons, List.length_append, ih, List.length_cons]
    show 4 + _ = _
    omega
section
variable {P : Program} {w : World} {K : PySem.W.Frag} {mg : Str → Option Value} {base : Heap}
def sp__law_all : Sp := fun vs H Q _ => ∃ k : Nat, vs = [.int (k : Int)] ∧ k ≤ 5 ∧ ∀ H' p, Same H H' → H' p = some (.lst ((allT k).map V.str)) → Q (.ref p) H'
theorem ok__law_all (T : Txt K mg) : FnOk P w K mg base CX0 1 T.a__law_all T.d__law_all ["size"] sp__law_all := by
  refine T.F__law_all.ok sc__law_all (fun vs H Q E h => ?_) (fun cdv A outer s H vs Q E hr h => ?_)
  · obtain ⟨k, rfl, _⟩ := h; rfl
  · obtain ⟨k, rfl, hk, ret⟩ := h
    refine ⟨_, (pss_cons (ps_set (i := 1) sc__law_all.nd rfl (by first | exact Or.inl rfl | exact Or.inr rfl) (pe_lst (pa_cons pe_str pa_nil)))
        (pss_cons (ps_for PassesOwn.never rfl (pi_range1 (by rfl) T.z_range (pa_cons (pv 0) pa_nil)) (pg_name (i := 2) sc__law_all.nd rfl (by first | exact Or.inl rfl | exact Or.inr rfl)) (pss_cons (ps_set (i := 3) sc__law_all.nd rfl (by first | exact Or.inl rfl | exact Or.inr rfl) (pe_lst pa_nil))
        (pss_cons (ps_for PassesOwn.never rfl (pi_list (pv 1)) (pg_name (i := 4) sc__law_all.nd rfl (by first | exact Or.inl rfl | exact Or.inr rfl)) (pss_one (ps_set (i := 3) sc__law_all.nd rfl (by first | exact Or.inl rfl | exact Or.inr rfl) (pe_op Vz.op_catR (pv 3) (pe_lc (own := [("sign", 5)]) (g := gName 5) (by rfl) sc__law_all.nd (pi_str pe_str) (blkOk_by (own := [("sign", 5)]) (N := ["size", "found", "turn", "longer", "one", "sign"]) (sc := defScope s__law_all) (by decide +kernel)) (fun _ _ _ _ _ => pg_name (i := 5) sc__law_all.nd rfl (Or.inl rfl)) (fun _ _ _ _ _ => pts_nil) (fun _ _ _ _ _ => (pe_op op_add_str (pv 4) (pv 5))))))))
        (pss_one (ps_set (i := 1) sc__law_all.nd rfl (by first | exact Or.inl rfl | exact Or.inr rfl) (pv 3))))))
        (pss_one (ps_ret (pv 1))))), ?_⟩
    refine ⟨(by show 1 ≤ sizeLine; decide), fun p np => ?_⟩
    have s1 := same_new (o := .lst [V.str ""]) np
    have h1 := upd_same (H := H) (a := p) (o := .lst [V.str ""])
    generalize upd H p (.lst [V.str ""]) = H1 at *
    have e0 : ([V.str ""] : List V) = (allT 0).map V.str := by decide +kernel
    rw [e0] at h1
    have ek : ((k : Int)).toNat = k := Int.toNat_natCast k
    refine ⟨_, rfl, _, rfl, by omega, by omega, ?_⟩
    refine for_range (fun i σ H' => ∃ (p : Addr) (x2 x3 x4 : Option V), σ = [some (.int (k : Int)), some (.ref p), x2, x3, x4, none] ∧ Same H H' ∧ H' p = some (.lst ((allT i).map V.str))) ⟨p, none, none, none, rfl, s1, h1⟩ ?_ ?_
    · rintro i σ H2 hi ⟨p2, x2, x3, x4, rfl, s2, h2⟩
      have hik : i < k := by
        have hi : i < ((k : Int)).toNat := hi
        rw [ek] at hi; exact hi
      have li := allC_few (k := i) (by omega)
      refine ⟨(by show 0 ≤ sizeLine; decide), fun q nq => ?_⟩
      have s3 := same_new (o := .lst []) nq
      have h3 := upd_same (H := H2) (a := q) (o := .lst [])
      have h23 := s3 _ _ h2
      have sA := s2.trans s3
      generalize upd H2 q (.lst []) = H3 at *
      refine ⟨_, rfl, p2, rfl, ⟨_, SqL.of h23⟩, ?_⟩
      refine for_list (xs := (allT i).map V.str) (fun j σ H' => ∃ (q : Addr) (x4 : Option V), σ = [some (.int (k : Int)), some (.ref p2), some (.int (0 + i)), some (.ref q), x4, none] ∧ Same H3 H' ∧ H' q = some (.lst ((((allT i).take j).flatMap ext4).map V.str))) ⟨q, x4, rfl, Same.refl _, h3⟩ ?_ ?_ ?_
      · rintro j σ H' _ ⟨q, x4, _, e, _⟩
        exact SqL.of (e _ _ h23)
      · rintro j x σ H4 hx ⟨q, x4, rfl, s4, h4⟩
        rw [List.getElem?_map] at hx
        obtain ⟨y, hy, rfl⟩ := Option.map_eq_some_iff.mp hx
        have ft := flat_take (f := ext4) hy
        have lt4 : (((allT i).take j).flatMap ext4).length ≤ 4096 := by
          rw [flat_len, List.length_take]
          have : (allT i).length ≤ 1024 := by unfold allT; rw [List.length_map]; exact li
          omega
        have ly : y.length ≤ 5 := by
          obtain ⟨l, hl, rfl⟩ := List.mem_map.mp (List.mem_of_getElem? hy)
          have := ((allC_mem i l).mp hl).1
          rw [len_tl, tl_ofC]; omega
        refine ⟨_, rfl, ?_⟩
        refine ⟨"./ab", rfl, fun D nD => ?_⟩
        have l4 : ("./ab" : Str).cps.toList = [46, 47, 97, 98] := by decide +kernel
        refine lc_it walk_str (fun m H' => H' = upd H4 D (.lst ((("./ab" : Str).cps.toList.take m).map fun c => V.str (y ++ (⟨#[c]⟩ : Str))))) rfl (fun _ _ _ _ => trivial) ?_ ?_
        · rintro m x H5 H6 hm rfl ⟨rfl, c, hc, rfl⟩
          refine ⟨rfl, ?_⟩
          refine ⟨_, rfl, _, rfl, _, _, rfl, rfl, (by rw [sizeLine_eq]; show y.length + 1 ≤ _; omega), _, upd_same, ?_, ?_⟩
          · rw [List.length_map, List.length_take, l4, sizeLine_eq]
            simp only [List.length_cons, List.length_nil]; omega
          · have ht : ("./ab" : Str).cps.toList.take (m + 1) = ("./ab" : Str).cps.toList.take m ++ [c] := by
              rw [List.take_add_one]
              have : ("./ab" : Str).cps.toList[m]? = some c := by simpa using hc
              rw [this]
              rfl
            rw [ht, List.map_append]
            funext b'
            by_cases e : b' = D
            · subst e; rw [upd_same, upd_same]; rfl
            · rw [upd_ne e, upd_ne e, upd_ne e]
        · rintro H5 rfl
          have ht : ("./ab" : Str).cps.toList.take ("./ab" : Str).cps.size = [46, 47, 97, 98] := by decide +kernel
          rw [ht]
          have s5 := same_new (o := .lst ([46, 47, 97, 98].map fun c => V.str (y ++ (⟨#[c]⟩ : Str)))) nD
          have h5 := upd_same (H := H4) (a := D) (o := .lst ([46, 47, 97, 98].map fun c => V.str (y ++ (⟨#[c]⟩ : Str))))
          have e5 : ([46, 47, 97, 98].map fun c => V.str (y ++ (⟨#[c]⟩ : Str))) = (ext4 y).map V.str := rfl
          rw [e5] at s5 h5 ⊢
          refine ⟨q, D, _, _, rfl, rfl, SqL.of (s5 _ _ h4), SqL.of h5, ?_, fun p9 n9 => ?_⟩
          · rw [List.length_map, List.length_map, sizeLine_eq]
            show _ + 4 ≤ _
            omega
          · exact ⟨p9, _, rfl, (s4.trans s5).trans (same_new n9), by rw [upd_same, ft, List.map_append]⟩
      · rintro σ H4 ⟨q, x4, rfl, s4, h4⟩
        rw [List.length_map, List.take_length, ← allT_next] at h4
        exact ⟨_, rfl, q, _, _, _, rfl, sA.trans s4, h4⟩
    · rintro σ H2 ⟨p2, x2, x3, x4, rfl, s2, h2⟩
      rw [ek] at h2
      exact ⟨_, rfl, ret _ _ s2 h2⟩
/-- what the law's own search answers -/
def Due (b a : Str) : Option Str → Prop
  | none => ∀ k < 6, ∀ l ∈ allC k, resV (some b) (ofC l) ≠ some a
  | some t0 => ∃ k j : Nat, k < 6 ∧ (allC k)[j]? = some (tl t0) ∧ resV (some b) t0 = some a ∧ (∀ k' < k, ∀ l ∈ allC k', resV (some b) (ofC l) ≠ some a) ∧ ∀ j' < j, ∀ l, (allC k)[j']? = some l → resV (some b) (ofC l) ≠ some a
def sp__law_least : Sp := fun vs H Q _ => ∃ b a : Str, vs = [.str b, .str a] ∧ adrP b = true ∧ asc (tl b) ∧ ∀ H' o, Same H H' → Due b a o → Q (optV o) H'
theorem ok__law_least (T : Txt K mg) : FnOk P w K mg base CX0 4 T.a__law_least T.d__law_least ["base", "address"] sp__law_least := by
  refine T.F__law_least.ok sc__law_least (fun vs H Q E h => ?_) (fun cdv A outer s H vs Q E hr h => ?_)
  · obtain ⟨b, a, rfl, _⟩ := h; rfl
  · obtain ⟨b, a, rfl, hb, ab, q⟩ := h
    refine ⟨_, (pss_cons (ps_for PassesOwn.never rfl (pi_range1 (by rfl) T.z_range (pa_cons pe_int pa_nil)) (pg_name (i := 2) sc__law_least.nd rfl (by first | exact Or.inl rfl | exact Or.inr rfl)) (pss_one (ps_for PassesOwn.never rfl (pi_list (pe_call (ok__law_all T) (hr.mono (by decide)) (by rfl) T.g__law_all T.F__law_all.kp T.b__law_all .nil pass0 (pa_cons (pv 2) pa_nil))) (pg_name (i := 3) sc__law_least.nd rfl (by first | exact Or.inl rfl | exact Or.inr rfl)) (pss_one (ps_if (pt_cmpR op_eq (pe_call (ok__law_resolved T) (hr.mono (by decide)) (by rfl) T.g__law_resolved T.F__law_resolved.kp T.b__law_resolved .nil pass0 (pa_cons (pv 0) (pa_cons (pv 3) pa_nil))) (pv 1) (nomark _)) (pss_one (ps_ret (pv 3))) pss_nil)))))
        (pss_one (ps_ret pe_non))), ?_⟩
    refine ⟨6, rfl, by decide, by decide, ?_⟩
    refine for_range (fun i σ H' => ∃ x2 x3 : Option V, σ = [some (.str b), some (.str a), x2, x3] ∧ Same H H' ∧ ∀ k < i, ∀ l ∈ allC k, resV (some b) (ofC l) ≠ some a) ⟨none, none, rfl, Same.refl H, fun k hk => absurd hk (Nat.not_lt_zero k)⟩ ?_ ?_
    · rintro i σ H1 hi ⟨x2, x3, rfl, s1, before⟩
      have i6 : i < 6 := hi
      refine ⟨_, rfl, i, by rw [Int.zero_add]; rfl, by omega, fun H2 p s2 h2 => ⟨p, rfl, ⟨_, SqL.of h2⟩, ?_⟩⟩
      have sA := s1.trans s2
      refine for_list (xs := (allT i).map V.str) (fun j σ H' => ∃ x3 : Option V, σ = [some (.str b), some (.str a), some (.int (0 + i)), x3] ∧ Same H2 H' ∧ ∀ j' < j, ∀ l, (allC i)[j']? = some l → resV (some b) (ofC l) ≠ some a) ⟨x3, rfl, Same.refl _, fun k hk => absurd hk (Nat.not_lt_zero k)⟩ ?_ ?_ ?_
      · rintro j σ H' _ ⟨x3, _, e, _⟩
        exact SqL.of (e _ _ h2)
      · rintro j x σ H4 hx ⟨x3, rfl, s4, ahead⟩
        rw [List.getElem?_map] at hx
        obtain ⟨y, hy, rfl⟩ := Option.map_eq_some_iff.mp hx
        have hy2 := hy
        unfold allT at hy2
        rw [List.getElem?_map] at hy2
        obtain ⟨l, hl, rfl⟩ := Option.map_eq_some_iff.mp hy2
        obtain ⟨lk, ls⟩ := (allC_mem i l).mp (List.mem_of_getElem? hl)
        have la : asc (tl (ofC l)) := fun c hc => by rcases ls c hc with e | e | e | e <;> omega
        refine ⟨_, rfl, _, rfl, some b, ofC l, rfl, (fun x e => by cases e; exact ⟨hb, ab⟩), (by rw [len_tl, tl_ofC]; omega), la, fun H5 s5 => ?_⟩
        have sB := (sA.trans s4).trans s5
        refine ⟨_, rfl, (by cases resV (some b) (ofC l) <;> rfl), _, rfl, ?_⟩
        refine ite2 (fun c => ?_) (fun c => ?_)
        · have c1 : optV (resV (some b) (ofC l)) = V.str a := of_decide_eq_true c
          have c2 : resV (some b) (ofC l) = some a := by
            cases e : resV (some b) (ofC l) with
            | none => rw [e] at c1; cases c1
            | some z => rw [e] at c1; rw [V.str.inj c1]
          exact ⟨_, rfl, q _ (some (ofC l)) sB ⟨i, j, i6, hl, c2, before, ahead⟩⟩
        · have c2 : resV (some b) (ofC l) ≠ some a := fun z => c (by rw [z]; exact decide_eq_true rfl)
          refine ⟨_, rfl, s4.trans s5, fun j' hj' l' hl' => ?_⟩
          by_cases e : j' = j
          · rw [e, hl] at hl'
            rw [← Option.some.inj hl']; exact c2
          · exact ahead j' (by omega) l' hl'
      · rintro σ H4 ⟨x3, rfl, s4, ahead⟩
        refine ⟨_, _, rfl, sA.trans s4, fun k hk l hl => ?_⟩
        by_cases e : k = i
        · subst e
          obtain ⟨j', hj'⟩ := List.getElem?_of_mem hl
          refine ahead j' ?_ l hj'
          have := (List.getElem?_eq_some_iff.mp hj').1
          unfold allT
          rw [List.length_map, List.length_map]; exact this
        · exact before k (by omega) l hl
    · rintro σ H1 ⟨x2, x3, rfl, s1, before⟩
      exact q _ none s1 before
end
end Toy
set_option Elab.async false
set_option linter.all false
set_option maxRecDepth 100000
set_option maxHeartbeats 8000000
namespace Toy
open PySem PySem.Spec PyProof.Rows L2 Tx TL
structure SmallB (b : Str) : Prop extends Small b where
  len : b.length ≤ 13
  fol : (partsS b).dropLast.map tl ∈ F21
section
variable {P : Program} {w : World} {K : PySem.W.Frag} {mg : Str → Option Value} {base : Heap}
def sp__law_small : Sp := fun vs H Q _ => ∃ (d : Addr) (n : Int), vs = [.ref d] ∧ Draw H d n ∧ n ≤ 700000000 ∧ ∀ H' x, Keep d H H' → Draw H' d (n + 5) → SmallB x → Q (.str x) H'
theorem ok__law_small (T : Txt K mg) : FnOk P w K mg base CX0 3 T.a__law_small T.d__law_small ["draw"] sp__law_small := by
  refine T.F__law_small.ok sc__law_small (fun vs H Q E h => ?_) (fun cdv A outer s H vs Q E hr h => ?_)
  · obtain ⟨d, n, rfl, _⟩ := h; rfl
  · obtain ⟨d, n, rfl, hD, hn, q⟩ := h
    refine ⟨_, (pss_cons (ps_setLc (i := 1) (own := [("k", 2)]) (g := gName 2) (by rfl) sc__law_small.nd rfl rfl (by rfl) (pi_range1 (by rfl) T.z_range (pa_cons (pe_op op_add pe_int (pe_call (ok__law_next T) (hr.mono (by decide)) (by rfl) T.g__law_next T.F__law_next.kp T.b__law_next .nil pass0 (pa_cons (pv 0) (pa_cons pe_int pa_nil)))) pa_nil)) (blkOk_by (own := [("k", 2)]) (N := ["draw", "some", "k"]) (sc := defScope s__law_small) (by decide +kernel)) (fun _ _ _ _ _ => pg_name (i := 2) sc__law_small.nd rfl (Or.inl rfl)) (fun _ _ _ _ _ => pts_nil) (fun _ _ _ _ _ => (pe_ix (r := L2.rIxL K) ix_list (pe_lst (pa_cons pe_str (pa_cons pe_str (pa_cons pe_str (pa_cons pe_str pa_nil))))) (pe_call (ok__law_next T) (hr.mono (by decide)) (by rfl) T.g__law_next T.F__law_next.kp T.b__law_next .nil pass0 (pa_cons (pv 0) (pa_cons pe_int pa_nil))) (fun _ _ => rfl))))
        (pss_one (ps_ret (pe_op op_add_str (pe_op op_add_str (pe_op op_add_str pe_str (pe_ix ix_list (pe_lst (pa_cons pe_str (pa_cons pe_str pa_nil))) (pe_call (ok__law_next T) (hr.mono (by decide)) (by rfl) T.g__law_next T.F__law_next.kp T.b__law_next .nil pass0 (pa_cons (pv 0) (pa_cons pe_int pa_nil))) (fun _ _ => rfl))) pe_str) (pe_join pe_str (pv 1)))))), ?_⟩
    have lh : ("//" : Str).length = 2 := by decide +kernel
    have ls : ("/" : Str).length = 1 := by decide +kernel
    refine ⟨_, rfl, d, 3, n, rfl, hD, by decide, by decide, by omega, fun H3 j kp3 D3 j0 j1 => ?_⟩
    refine ⟨_, _, rfl, rfl, ?_⟩
    dsimp only [tNil]
    refine ⟨1 + j, rfl, by omega, by omega, fun D nD => ?_⟩
    have neD : D ≠ d := Good.dictNe D3 nD
    refine lc_range (lo := 0) (n := (1 + j).toNat) (fun i H' => ∃ ws : List Str, ws.length = i ∧ (∀ x ∈ ws, x ∈ w4S) ∧ H' D = some (.lst (ws.map V.str)) ∧ Draw H' d (n + 1 + i) ∧ ∀ b o, b ≠ D → b ≠ d → H3 b = some o → H' b = some o)
      ⟨[], rfl, (fun x hx => nomatch hx), upd_same, (D3.same (same_new nD)).more (by omega), fun b o nb _ e => by rw [upd_ne nb]; exact e⟩ ?_ ?_
    · rintro i H4 hi ⟨ws, wl, ww, hDD, D4, k4⟩
      refine ⟨rfl, ?_⟩
      refine ⟨(by show 4 ≤ sizeLine; decide), fun p np => ?_⟩
      have ne : p ≠ d := Good.dictNe D4 np
      have s1 := same_new (o := .lst (w4S.map V.str)) np
      refine ⟨_, rfl, d, 4, n + 1 + i, rfl, D4.same s1, by decide, by decide, by omega, fun H5 m kp5 D5 m0 m1 => ?_⟩
      obtain ⟨v, hv, hm⟩ := at_some (xs := w4S.map V.str) m0 (by show m < (4 : Int); exact m1)
      obtain ⟨x, hx, rfl⟩ := List.mem_map.mp hm
      have hDD5 := kp5 _ _ neD (s1 _ _ hDD)
      refine ⟨p, _, m, _, rfl, rfl, SqL.of (kp5 _ _ ne upd_same), hv, _, hDD5, ?_, ws ++ [x], by simp [wl], ?_, ?_, ?_, ?_⟩
      · rw [List.length_map, sizeLine_eq]; omega
      · intro y hy
        rcases List.mem_append.mp hy with z | z
        · exact ww y z
        · rw [List.mem_singleton.mp z]; exact hx
      · rw [upd_same, List.map_append]; rfl
      · exact (D5.put hDD5 neD).more (by omega)
      · intro b o nb nd e
        rw [upd_ne nb]
        exact kp5 _ _ nd (s1 _ _ (k4 b o nb nd e))
    · rintro H4 ⟨ws, wl, ww, hDD, D4, k4⟩
      have wn : ws ≠ [] := by intro z; rw [z] at wl; simp at wl; omega
      have w3 : ws.length ≤ 3 := by omega
      have kp4 : Keep d H H4 := fun b o nb e => by
        have e3 := kp3 _ _ nb e
        exact k4 b o (fun z => by rw [z, nD] at e3; cases e3) nb e3
      refine ⟨(by show 2 ≤ sizeLine; decide), fun p np => ?_⟩
      have ne : p ≠ d := Good.dictNe D4 np
      have s1 := same_new (o := .lst (h2S.map V.str)) np
      have neDp : D ≠ p := ne_of_none hDD np
      refine ⟨_, rfl, d, 2, _, rfl, D4.same s1, by decide, by decide, by omega, fun H5 i kp5 D5 i0 i1 => ?_⟩
      obtain ⟨v, hv, hm⟩ := at_some (xs := h2S.map V.str) i0 (by show i < (2 : Int); exact i1)
      obtain ⟨h, hh, rfl⟩ := List.mem_map.mp hm
      obtain ⟨g1, g2, g3⟩ := sml_good hh wn w3 ww
      obtain ⟨⟨a1, a2⟩, a3, a4⟩ := h2_ok h hh
      have hDD5 := kp5 _ _ neD (s1 _ _ hDD)
      have sw := sum_wt ws
      have jw := join_wt ws
      have w9 : wt ws ≤ 9 := by
        have gen : ∀ l : List Str, (∀ x ∈ l, x ∈ w4S) → wt l ≤ 3 * l.length := by
          intro l
          induction l with
          | nil => intro _; exact Nat.le_refl _
          | cons x r ih =>
            intro hl
            have := (w4_ok x (hl x (by simp))).1.1
            have := ih fun y hy => hl y (List.mem_cons_of_mem _ hy)
            rw [wt_cons, List.length_cons]; omega
        have := gen ws ww
        omega
      refine ⟨p, _, i, _, rfl, rfl, SqL.of (kp5 _ _ ne upd_same), hv, _, _, rfl, rfl, (by rw [sizeLine_eq, lh]; omega), _, _, rfl, rfl, (by rw [sizeLine_eq, strLen_append, lh, ls]; omega), ⟨_, rfl⟩, _, rfl, "/", D, ws, rfl, rfl, .inl (SqL.of hDD5), (by rw [ls]; omega), _, _, rfl, rfl, (by rw [sizeLine_eq, strLen_append, strLen_append, lh, ls]; omega), ?_⟩
      exact q H5 (adrT h ws) (fun b o nb e => kp5 _ _ nb (s1 _ _ (kp4 b o nb e))) (D5.more (by omega)) ⟨g1, g2, g3⟩
def sp__law_right (p : Addr) : Sp := fun vs H Q _ => ∃ b a : Str, vs = [.str b, .str a] ∧ SmallB b ∧ Small a ∧ LamX.Tabs (Vz.tabsOf "shortest" p) H ∧ ∀ H', LamX.ExtN H H' → LamX.Tabs (Vz.tabsOf "shortest" p) H' → Q (.bl true) H'
theorem S4_low {x : Str} (h : S4 (tl x)) (ha : asc (tl x)) : Txt.lower x = x := by
  apply ext_tl
  rw [low_tl ha]
  have : ∀ l : List Nat, S4 l → l.map lo1 = l := by
    intro l
    induction l with
    | nil => intro _; rfl
    | cons c r ih =>
      intro hl
      rw [List.map_cons, ih fun x hx => hl x (List.mem_cons_of_mem _ hx)]
      have e : lo1 c = c := by rcases hl c (by simp) with z | z | z | z <;> rw [z] <;> decide
      rw [e]
  exact this _ h
theorem ok__law_right (T : Txt K mg) (TB : LamX.TabB base mg T.c_shortest T.p_shortest) : FnOk P w K mg base CX0 7 T.a__law_right T.d__law_right ["base", "address"] (sp__law_right T.p_shortest) := by
  refine T.F__law_right.ok sc__law_right (fun vs H Q E h => ?_) (fun cdv A outer s H vs Q E hr h => ?_)
  · obtain ⟨b, a, rfl, _⟩ := h; rfl
  · obtain ⟨b, a, rfl, hb, ha, hT, ret⟩ := h
    refine ⟨_, (pss_cons (ps_par (i := 2) (j := 3) (by rfl) sc__law_right.nd rfl rfl (by decide) rfl rfl (pa_cons (pe_call (ok_shortest T TB) (hr.mono (by decide)) (by rfl) T.g_shortest T.F_shortest.kp T.b_shortest .nil passL (pa_cons (pv 0) (pa_cons (pv 1) pa_nil))) (pa_cons (pe_call (ok__law_least T) (hr.mono (by decide)) (by rfl) T.g__law_least T.F__law_least.kp T.b__law_least .nil pass0 (pa_cons (pv 0) (pa_cons (pv 1) pa_nil))) pa_nil)) (by rfl))
        (pss_cons (ps_if (PW.pt (pw_or (pt_cmpR op_ne (pe_call (ok_resolve T) (hr.mono (by decide)) (by rfl) T.g_resolve T.F_resolve.kp T.b_resolve .nil passL (pa_cons (pv 0) (pa_cons (pv 2) pa_nil))) (pv 1) (nomark _)) (pw_or (pt_cmpR op_in_sign pe_str (pv 2) (by with_unfolding_all rfl)) (pw_or1 (pt_cmpR op_ne (pv 2) (pe_lower (pv 2)) (nomark _)))))) (pss_one (ps_ret pe_bl)) pss_nil)
        (pss_cons (ps_if (pt_cmpR op_isN (pv 3) pe_non (nomark _)) (pss_one (ps_ret (pe_chain op_lt op_le pe_int (pe_callB call_len_str (by rfl) T.z_len PySem.boot_len (pa_cons (pv 2) pa_nil)) (pe_callB call_len_str (by rfl) T.z_len PySem.boot_len (pa_cons (pv 1) pa_nil))))) pss_nil)
        (pss_one (ps_ret (pe_cmpR op_eq (pv 2) (pv 3) (nomark _))))))), ?_⟩
    have lb := adr_len hb.ok
    have la := adr_len ha.ok
    refine ⟨_, rfl, _, rfl, b, a, rfl, hb.ok, ha.ok, ha.sg, hT, fun H1 e1 t1 => ?_⟩
    have sr := short_res hb.ok ha.ok ha.sg
    have sl := short_len (b := b) ha.ok
    have sa := short_asc (b := b) ha.sg
    have s4 := S4_short (b := b) ha.ok ha.s4
    have dn := due_none hb.ok ha
    have ds := fun (t0 : Str) (k j : Nat) => due_some (t0 := t0) (k := k) (j := j) hb.ok ha hb.fol
    generalize shortV b a = t at *
    have zt : t.length ≤ sizeLine := by rw [sizeLine_eq]; omega
    have za : a.length ≤ sizeLine := by rw [sizeLine_eq]; omega
    refine ⟨_, rfl, _, rfl, b, a, rfl, hb.ok, hb.sg, fun H2 due s2 hd => ?_⟩
    dsimp only [tNil]
    refine ⟨_, _, rfl, ?_⟩
    have tA := t1.ext s2
    have eA := e1.trans (LamX.ExtN.of s2)
    refine ⟨_, rfl, _, rfl, some b, t, rfl, (fun x e => by cases e; exact hb.ok), by omega, sa, fun H3 s3 => ?_⟩
    rw [sr]
    have tB := tA.ext s3
    have eB := eA.trans (LamX.ExtN.of s3)
    refine ⟨_, rfl, rfl, _, rfl, ?_⟩
    refine ite2 (fun c => absurd c (ns_bl _)) (fun _ => ?_)
    refine ⟨_, rfl, 35, t, (by decide +kernel), rfl, _, rfl, ?_⟩
    have h35 : 35 ∉ t.cps.toList := fun z => by rcases s4 35 z with e | e | e | e <;> cases e
    rw [decide_eq_false h35]
    refine iteF ?_
    refine ⟨_, rfl, _, rfl, ⟨_, rfl⟩, t, rfl, rfl, by omega, rfl, _, rfl, ?_⟩
    rw [S4_low s4 sa]
    refine ite2 (fun c => absurd c (ns_bl _)) (fun _ => ?_)
    cases due with
    | none =>
      have l5 := dn hd
      refine ⟨_, rfl, rfl, _, rfl, ?_⟩
      refine ite2 (fun _ => ?_) (fun c => absurd (by decide) c)
      refine ⟨_, rfl, t, rfl, zt, _, _, rfl, rfl, _, rfl, ?_⟩
      refine ite2 (fun _ => ?_) (fun c => absurd (by exact decide_eq_true (show (5 : Int) < (t.length : Int) by omega)) c)
      refine ⟨_, rfl, a, rfl, za, _, _, rfl, rfl, ?_⟩
      have e : (V.bl true) = V.bl (decide ((t.length : Int) ≤ (a.length : Int))) := by rw [decide_eq_true (show (t.length : Int) ≤ (a.length : Int) by omega)]
      have r := ret _ eB tB
      rw [e] at r
      exact r
    | some x =>
      obtain ⟨k, j, h1, h2, h3, h4, h5⟩ := hd
      have ex := ds x k j h1 h2 h3 h4 h5
      subst ex
      refine ⟨_, rfl, rfl, _, rfl, ?_⟩
      refine ite2 (fun c => absurd (of_decide_eq_true c) (by simp [optV])) (fun _ => ?_)
      refine ⟨_, rfl, _, rfl, rfl, ?_⟩
      have e : (V.bl true) = V.bl (decide (V.str x = optV (some x))) := by rw [decide_eq_true (show V.str x = optV (some x) from rfl)]
      have r := ret _ eB tB
      rw [e] at r
      exact r
end
end Toy
set_option Elab.async false
set_option linter.all false
set_option maxRecDepth 100000
set_option maxHeartbeats 8000000
namespace Toy
open PySem PySem.Spec PyProof.Rows L2 Tx TL
def pairS : List (Str × Str) := [("//a/p/q/r", "//a//b"), ("//a/p/q/", "//a//"), ("//a/p/q", "//a/p/r"), ("//a/p", "//b/"), ("//a/", "//a///")]
def dueS : List Str := ["/.//b", "/.//", "r", "//b", ".///"]
theorem pairs_due : pairS.map (fun p => shortV p.1 p.2) = dueS := by decide +kernel
theorem pairs_ok : ∀ p ∈ pairS, adrP p.1 = true ∧ adrP p.2 = true ∧ asc (tl p.2) := by
  intro p hp
  have h := (by decide +kernel : ∀ p ∈ pairS, (adrP p.1 && adrP p.2 && (tl p.2).all fun c => decide (c < 128)) = true) p hp
  simp only [Bool.and_eq_true] at h
  exact ⟨h.1.1, h.1.2, asc_of h.2⟩
theorem seqN {K : PySem.W.Frag} {H H' : Hp} {a : Addr} {xs : List V} (e : LamX.ExtN H H') (h : SqL K H a xs) : SqL K H' a xs := by
  rcases h with (h | ⟨o, h⟩) | h
  · exact .inl (.inl (e _ _ h (fun ps => HO.noConfusion)))
  · exact .inl (.inr ⟨o, e _ _ h (fun ps => HO.noConfusion)⟩)
  · exact .inr h
theorem Tabs.putL {p D : Addr} {zs ys : List V} {H : Hp} (t : LamX.Tabs (Vz.tabsOf "shortest" p) H) (hd : H D = some (.lst zs)) : LamX.Tabs (Vz.tabsOf "shortest" p) (upd H D (.lst ys)) := by
  intro q hq
  rw [List.mem_singleton.mp hq]
  obtain ⟨ps, h1, h2, h3⟩ := t _ (List.Mem.head _)
  have nd : ∀ b o, H b = some o → (∀ zs, o ≠ .lst zs) → b ≠ D := fun b o e n z => by rw [z, hd] at e; cases e; exact n _ rfl
  refine ⟨ps, by rw [upd_ne (nd _ _ h1 (fun ps => HO.noConfusion))]; exact h1, h2, fun pos cv hc => ?_⟩
  obtain ⟨c, e1, e2⟩ := h3 pos cv hc
  exact ⟨c, e1, by rw [upd_ne (nd _ _ e2 (fun ps z => by unfold LamX.CodeO at z; cases z))]; exact e2⟩
theorem suf_ok : ∀ x ∈ (["a", "/b", "", "/"] : List Str), x.length ≤ 2 ∧ asc (tl x) ∧ S4 (tl x) := by
  intro x hx
  have h := (by decide +kernel : ∀ x ∈ (["a", "/b", "", "/"] : List Str), (decide (x.length ≤ 2) && ((tl x).all fun c => decide (c < 128)) && (tl x).all (fun c => c == 46 || c == 47 || c == 97 || c == 98)) = true) x hx
  simp only [Bool.and_eq_true, decide_eq_true_eq] at h
  exact ⟨h.1.1, asc_of h.1.2, S4_lit h.2⟩
section
variable {P : Program} {w : World} {K : PySem.W.Frag} {mg : Str → Option Value} {base : Heap}
def sp_law (K : PySem.W.Frag) (p : Addr) : Sp := fun vs H Q _ => ∃ (a : Addr) (ns : List Int), vs = [.ref a] ∧ SqL K H a (ns.map V.int) ∧ ns.length ≤ 63 ∧ H p = some (.tbl #[]) ∧ ∀ H', Q (.bl true) H'
theorem ok_law (T : Txt K mg) (TB : LamX.TabB base mg T.c_shortest T.p_shortest) : FnOk P w K mg base CX0 8 T.a_law T.d_law ["script"] (sp_law K T.p_shortest) := by
  refine T.F_law.ok sc_law (fun vs H Q E h => ?_) (fun cdv A outer s H vs Q E hr h => ?_)
  · obtain ⟨a, ns, rfl, _⟩ := h; rfl
  · obtain ⟨a, ns, rfl, hS, hl, hP, q⟩ := h
    refine ⟨_, (pss_cons (ps_set (i := 1) sc_law.nd rfl (by first | exact Or.inl rfl | exact Or.inr rfl) (pe_call (ok__law_begin T) (hr.mono (by decide)) (by rfl) T.g__law_begin T.F__law_begin.kp T.b__law_begin .nil pass0 (pa_cons (pv 0) pa_nil)))
        (pss_cons (ps_set (i := 2) sc_law.nd rfl (by first | exact Or.inl rfl | exact Or.inr rfl) (pe_lst (pa_cons (pe_tup (pa_cons pe_str (pa_cons pe_str pa_nil))) (pa_cons (pe_tup (pa_cons pe_str (pa_cons pe_str pa_nil))) (pa_cons (pe_tup (pa_cons pe_str (pa_cons pe_str pa_nil))) (pa_cons (pe_tup (pa_cons pe_str (pa_cons pe_str pa_nil))) pa_nil))))))
        (pss_cons (ps_set (i := 2) sc_law.nd rfl (by first | exact Or.inl rfl | exact Or.inr rfl) (pe_op Vz.op_catR (pv 2) (pe_lst (pa_cons (pe_tup (pa_cons pe_str (pa_cons pe_str pa_nil))) pa_nil))))
        (pss_cons (ps_if (pt_cmpR (Vz.op_neSame (by have := hr.units; exact this)) (pe_lc (own := [("root", 6), ("goal", 7)]) (g := gTup K 2 (gCons (gName 6) (gCons (gName 7) gNil))) (by rfl) sc_law.nd (pi_list (pv 2)) (blkOk_by (own := [("root", 6), ("goal", 7)]) (N := ["script", "draw", "some", "turn", "base", "address", "root", "goal"]) (sc := defScope s_law) (by decide +kernel)) (fun _ _ _ _ _ => pg_tup rfl (pgs_cons (pg_name (i := 6) sc_law.nd rfl (Or.inl rfl)) (pgs_cons (pg_name (i := 7) sc_law.nd rfl (Or.inl rfl)) pgs_nil))) (fun _ _ _ _ _ => pts_nil) (fun _ _ _ _ _ => (pe_call (ok_shortest T TB) (hr.mono (by decide)) (by rfl) T.g_shortest T.F_shortest.kp T.b_shortest .nil passL (pa_cons (pv 6) (pa_cons (pv 7) pa_nil))))) (pe_lst (pa_cons pe_str (pa_cons pe_str (pa_cons pe_str (pa_cons pe_str (pa_cons pe_str pa_nil)))))) (nomark _)) (pss_one (ps_ret pe_bl)) pss_nil)
        (pss_cons (ps_for PassesOwn.never rfl (pi_range1 (by rfl) T.z_range (pa_cons (pe_callB (call_min2 rfl) (by rfl) T.z_min (by decide +kernel) (pa_cons pe_int (pa_cons (pe_op op_add pe_int (pe_callB call_len_seq (by rfl) T.z_len PySem.boot_len (pa_cons (pv 0) pa_nil))) pa_nil))) pa_nil)) (pg_name (i := 3) sc_law.nd rfl (by first | exact Or.inl rfl | exact Or.inr rfl)) (pss_cons (ps_par (i := 4) (j := 5) (by rfl) sc_law.nd rfl rfl (by decide) rfl rfl (pa_cons (pe_call (ok__law_small T) (hr.mono (by decide)) (by rfl) T.g__law_small T.F__law_small.kp T.b__law_small .nil pass0 (pa_cons (pv 1) pa_nil)) (pa_cons (pe_call (ok__law_small T) (hr.mono (by decide)) (by rfl) T.g__law_small T.F__law_small.kp T.b__law_small .nil pass0 (pa_cons (pv 1) pa_nil)) pa_nil)) (by rfl))
        (pss_cons (ps_if (pt_cmpR op_eq (pe_call (ok__law_next T) (hr.mono (by decide)) (by rfl) T.g__law_next T.F__law_next.kp T.b__law_next .nil pass0 (pa_cons (pv 1) (pa_cons pe_int pa_nil))) pe_int (nomark _)) (pss_cons (ps_set (i := 5) sc_law.nd rfl (by first | exact Or.inl rfl | exact Or.inr rfl) (pe_op op_add_str (pe_slice sl_str (pv 4) po_none (po_some (pe_op op_add (pe_op op_add pe_int (pe_op op_fdiv (pe_callB call_len_str (by rfl) T.z_len PySem.boot_len (pa_cons (pv 4) pa_nil)) pe_int)) (pe_call (ok__law_next T) (hr.mono (by decide)) (by rfl) T.g__law_next T.F__law_next.kp T.b__law_next .nil pass0 (pa_cons (pv 1) (pa_cons pe_int pa_nil)))))) (pe_ix ix_list (pe_lst (pa_cons pe_str (pa_cons pe_str (pa_cons pe_str (pa_cons pe_str pa_nil))))) (pe_call (ok__law_next T) (hr.mono (by decide)) (by rfl) T.g__law_next T.F__law_next.kp T.b__law_next .nil pass0 (pa_cons (pv 1) (pa_cons pe_int pa_nil))) (fun _ _ => rfl))))
        (pss_one (ps_set (i := 5) sc_law.nd rfl (by first | exact Or.inl rfl | exact Or.inr rfl) (pe_ifExp (pt_val (pe_call (ok__law_is_address T) (hr.mono (by decide)) (by rfl) T.g__law_is_address T.F__law_is_address.kp T.b__law_is_address .nil pass0 (pa_cons (pv 5) pa_nil))) (pv 5) (pv 4))))) pss_nil)
        (pss_one (ps_if (PW.pt (pw_or (pt_not (pt_val (pe_call (ok__law_right T TB) (hr.mono (by decide)) (by rfl) T.g__law_right T.F__law_right.kp T.b__law_right .nil pass0 (pa_cons (pv 4) (pa_cons (pv 5) pa_nil))))) (pw_or1 (pt_cmpR op_ne (pe_call (ok_shortest T TB) (hr.mono (by decide)) (by rfl) T.g_shortest T.F_shortest.kp T.b_shortest .nil passL (pa_cons (pv 4) (pa_cons (pv 4) pa_nil))) pe_str (nomark _))))) (pss_one (ps_ret pe_bl)) pss_nil)))))
        (pss_one (ps_ret pe_bl))))))), ?_⟩
    have t0 : LamX.Tabs (Vz.tabsOf "shortest" T.p_shortest) H := fun z hz => by
      rw [List.mem_singleton.mp hz]; exact LamX.TabS.nil hP
    refine ⟨_, rfl, a, ns, rfl, hS, hl, fun H1 d s1 nd1 D1 => ?_⟩
    have t1 := t0.ext s1
    have hS1 := s1.seq hS
    refine ⟨(by show 2 ≤ sizeLine; decide), fun c1 m1 => ?_⟩
    have y1 := same_new (o := .tup [V.str "//a/p/q/r", V.str "//a//b"]) m1
    have k1 := upd_same (H := H1) (a := c1) (o := .tup [V.str "//a/p/q/r", V.str "//a//b"])
    generalize upd H1 c1 (.tup [V.str "//a/p/q/r", V.str "//a//b"]) = G1 at *
    refine ⟨(by show 2 ≤ sizeLine; decide), fun c2 m2 => ?_⟩
    have y2 := same_new (o := .tup [V.str "//a/p/q/", V.str "//a//"]) m2
    have k2 := upd_same (H := G1) (a := c2) (o := .tup [V.str "//a/p/q/", V.str "//a//"])
    generalize upd G1 c2 (.tup [V.str "//a/p/q/", V.str "//a//"]) = G2 at *
    refine ⟨(by show 2 ≤ sizeLine; decide), fun c3 m3 => ?_⟩
    have y3 := same_new (o := .tup [V.str "//a/p/q", V.str "//a/p/r"]) m3
    have k3 := upd_same (H := G2) (a := c3) (o := .tup [V.str "//a/p/q", V.str "//a/p/r"])
    generalize upd G2 c3 (.tup [V.str "//a/p/q", V.str "//a/p/r"]) = G3 at *
    refine ⟨(by show 2 ≤ sizeLine; decide), fun c4 m4 => ?_⟩
    have y4 := same_new (o := .tup [V.str "//a/p", V.str "//b/"]) m4
    have k4 := upd_same (H := G3) (a := c4) (o := .tup [V.str "//a/p", V.str "//b/"])
    generalize upd G3 c4 (.tup [V.str "//a/p", V.str "//b/"]) = G4 at *
    refine ⟨(by show 4 ≤ sizeLine; decide), fun c6 m6 => ?_⟩
    have y6 := same_new (o := .lst [V.ref c1, V.ref c2, V.ref c3, V.ref c4]) m6
    have k6 := upd_same (H := G4) (a := c6) (o := .lst [V.ref c1, V.ref c2, V.ref c3, V.ref c4])
    generalize upd G4 c6 (.lst [V.ref c1, V.ref c2, V.ref c3, V.ref c4]) = G6 at *
    refine ⟨_, rfl, (by show 2 ≤ sizeLine; decide), fun c5 m5 => ?_⟩
    have y5 := same_new (o := .tup [V.str "//a/", V.str "//a///"]) m5
    have k5 := upd_same (H := G6) (a := c5) (o := .tup [V.str "//a/", V.str "//a///"])
    generalize upd G6 c5 (.tup [V.str "//a/", V.str "//a///"]) = G5 at *
    refine ⟨(by show 1 ≤ sizeLine; decide), fun c7 m7 => ?_⟩
    have y7 := same_new (o := .lst [V.ref c5]) m7
    have k7 := upd_same (H := G5) (a := c7) (o := .lst [V.ref c5])
    generalize upd G5 c7 (.lst [V.ref c5]) = G7 at *
    refine ⟨c6, c7, _, _, rfl, rfl, SqL.of (y7 _ _ (y5 _ _ k6)), SqL.of k7, (by show 4 + 1 ≤ sizeLine; decide), fun c8 m8 => ?_⟩
    have y8 := same_new (o := .lst [V.ref c1, V.ref c2, V.ref c3, V.ref c4, V.ref c5]) m8
    have k8 := upd_same (H := G7) (a := c8) (o := .lst [V.ref c1, V.ref c2, V.ref c3, V.ref c4, V.ref c5])
    have e8 : [V.ref c1, V.ref c2, V.ref c3, V.ref c4] ++ [V.ref c5] = [V.ref c1, V.ref c2, V.ref c3, V.ref c4, V.ref c5] := rfl
    rw [e8]
    generalize upd G7 c8 (.lst [V.ref c1, V.ref c2, V.ref c3, V.ref c4, V.ref c5]) = G8 at *
    have z1 := y8 _ _ (y7 _ _ (y5 _ _ (y6 _ _ (y4 _ _ (y3 _ _ (y2 _ _ k1))))))
    have z2 := y8 _ _ (y7 _ _ (y5 _ _ (y6 _ _ (y4 _ _ (y3 _ _ k2)))))
    have z3 := y8 _ _ (y7 _ _ (y5 _ _ (y6 _ _ (y4 _ _ k3))))
    have z4 := y8 _ _ (y7 _ _ (y5 _ _ (y6 _ _ k4)))
    have z5 := y8 _ _ (y7 _ _ k5)
    have sA := ((((((y1.trans y2).trans y3).trans y4).trans y6).trans y5).trans y7).trans y8
    have D8 := D1.same sA
    have t8 := t1.ext sA
    have hS8 := sA.seq hS1
    have ix : ∀ (i : Nat) (x : V), [V.ref c1, V.ref c2, V.ref c3, V.ref c4, V.ref c5][i]? = some x → ∃ t p, x = .ref t ∧ pairS[i]? = some p ∧ G8 t = some (.tup [.str p.1, .str p.2]) := by
      intro i x h
      match i with
      | 0 => exact ⟨c1, _, (Option.some.inj h).symm, rfl, z1⟩
      | 1 => exact ⟨c2, _, (Option.some.inj h).symm, rfl, z2⟩
      | 2 => exact ⟨c3, _, (Option.some.inj h).symm, rfl, z3⟩
      | 3 => exact ⟨c4, _, (Option.some.inj h).symm, rfl, z4⟩
      | 4 => exact ⟨c5, _, (Option.some.inj h).symm, rfl, z5⟩
      | i + 5 => cases h
    clear y1 y2 y3 y4 y5 y6 y7 y8 k1 k2 k3 k4 k5 k6 k7 z1 z2 z3 z4 z5 m1 m2 m3 m4 m5 m6 m7 m8 sA D1 t1
    refine ⟨_, rfl, c8, rfl, ⟨_, SqL.of k8⟩, fun D nD => ?_⟩
    have nD : G8 D = none := nD
    have ne8 : c8 ≠ D := ne_of_none k8 nD
    refine lc_list (xs := [V.ref c1, V.ref c2, V.ref c3, V.ref c4, V.ref c5]) (fun i H' => H' D = some (.lst (((pairS.take i).map (fun p => shortV p.1 p.2)).map V.str)) ∧ (∀ b o, b ≠ D → G8 b = some o → (∀ ps, o ≠ .tbl ps) → H' b = some o) ∧ LamX.Tabs (Vz.tabsOf "shortest" T.p_shortest) H')
      ⟨upd_same, fun b o nb e _ => by rw [upd_ne nb]; exact e, t8.ext (same_new nD)⟩ ?_ ?_ ?_
    · rintro i H' _ ⟨_, k, _⟩
      exact SqL.of (k c8 _ ne8 k8 (fun ps => HO.noConfusion))
    · rintro i x H4 hx ⟨hD, k, t4⟩
      obtain ⟨t, p, rfl, hp, ht⟩ := ix i x hx
      obtain ⟨p1, p2, p3⟩ := pairs_ok p (List.mem_of_getElem? hp)
      have ht4 := k t _ (ne_of_none ht nD) ht (fun ps => HO.noConfusion)
      refine ⟨t, _, rfl, SqT.of ht4, rfl, _, _, rfl, _, _, rfl, rfl, rfl, ?_⟩
      refine ⟨_, rfl, _, rfl, p.1, p.2, rfl, p1, p2, p3, t4, fun H5 e5 t5 => ?_⟩
      have hD5 := e5 _ _ hD (fun ps => HO.noConfusion)
      refine ⟨_, hD5, ?_, ?_, ?_, Tabs.putL t5 hD5⟩
      · rw [List.length_map, List.length_map, List.length_take, sizeLine_eq]
        have : pairS.length = 5 := rfl
        omega
      · rw [upd_same, List.take_add_one, hp, List.map_append, List.map_append]; rfl
      · intro b o nb e n
        rw [upd_ne nb]
        exact e5 _ _ (k b o nb e n) n
    rintro H4 ⟨hD, k, t4⟩
    have lp : [V.ref c1, V.ref c2, V.ref c3, V.ref c4, V.ref c5].length = pairS.length := rfl
    rw [lp, List.take_length, pairs_due] at hD
    have eN : LamX.ExtN G8 H4 := fun b o e n => k b o (fun z => by rw [z, nD] at e; cases e) e n
    have D4 := D8.extN eN
    refine ⟨(by show 5 ≤ sizeLine; decide), fun p9 n9 => ?_⟩
    have y9 := same_new (o := .lst (dueS.map V.str)) n9
    have D9 := D4.same y9
    have t9 := t4.ext y9
    refine ⟨D, p9, dueS.map V.str, rfl, rfl, SqL.of (y9 _ _ hD), SqL.of upd_same, (fun v hv => by obtain ⟨o, _, rfl⟩ := List.mem_map.mp hv; exact .inl ⟨rfl, by show (o == o) = true; simp⟩), _, rfl, ?_⟩
    refine iteF ?_
    refine ⟨_, rfl, a, _, rfl, .inl (y9.seq (seqN eN hS8)), _, _, rfl, rfl, _, _, rfl, _, rfl, ?_, ?_, ?_⟩
    · rw [List.length_map]; split <;> omega
    · rw [List.length_map]; split <;> omega
    refine for_range (fun i σ H' => ∃ x3 x4 x5 x6 x7 : Option V, σ = [some (.ref a), some (.ref d), some (.ref c8), x3, x4, x5, x6, x7] ∧ Draw H' d (13 * (i : Int)) ∧ LamX.Tabs (Vz.tabsOf "shortest" T.p_shortest) H') ⟨none, none, none, none, none, rfl, D9.more (by omega), t9⟩ ?_ ?_
    · rintro i σ H5 hi ⟨x3, x4, x5, x6, x7, rfl, D5, t5⟩
      have i24 : i ≤ 70 := by
        rw [List.length_map] at hi
        have : i < ((if 1 + (ns.length : Int) < 2 then 1 + (ns.length : Int) else 2)).toNat := hi
        split at this <;> omega
      refine ⟨_, rfl, d, _, rfl, D5, by omega, fun H6 b kp6 D6 okb => ?_⟩
      have t6 := Tabs.keep t5 D5 kp6
      refine ⟨_, rfl, d, _, rfl, D6, by omega, fun H7 g kp7 D7 okg => ?_⟩
      have t7 := Tabs.keep t6 D6 kp7
      dsimp only [tNil]
      refine ⟨_, _, rfl, ?_⟩
      have lb := okb.len
      have zb : b.length ≤ sizeLine := by rw [sizeLine_eq]; omega
      refine ifs_inv2 (fun σ H' => ∃ y, σ = [some (.ref a), some (.ref d), some (.ref c8), some (.int (0 + i)), some (.str b), some (.str y), x6, x7] ∧ Small y ∧ Draw H' d (13 * (i : Int) + 13) ∧ LamX.Tabs (Vz.tabsOf "shortest" T.p_shortest) H') (fun D' rn rr => ?_) (fun σ15 H15 k15 => ?_)
      · refine ⟨_, rfl, d, 2, _, rfl, D7, by decide, by decide, by omega, fun H8 k kp8 D8 k0 k1 => ?_⟩
        have t8 := Tabs.keep t7 D7 kp8
        refine ⟨rfl, _, rfl, ?_⟩
        refine ite2 (fun c => ?_) (fun c => ?_)
        · have fd0 : 0 ≤ (b.length : Int) / 2 := by omega
          refine ⟨_, rfl, ?_⟩
          dsimp only [tNoPart]
          refine ⟨_, rfl, b, rfl, zb, _, _, rfl, rfl, ⟨by decide, by decide⟩, _, _, rfl, rfl, ?_⟩
          refine ⟨_, rfl, d, 2, _, rfl, D8, by decide, by decide, by omega, fun H9 m kp9 D9 m0 m1 => ?_⟩
          have t9 := Tabs.keep t8 D8 kp9
          refine ⟨_, _, rfl, rfl, _, rfl, b, rfl, zb, ?_⟩
          have lc := cutS_length b none (some (1 + (b.length : Int) / 2 + m))
          have ac := asc_cut (lo := none) (hi := some (1 + (b.length : Int) / 2 + m)) okb.sg
          have sc : S4 (tl (cutS b none (some (1 + (b.length : Int) / 2 + m)))) := fun c hc => by
            have hc : c ∈ ((tl b).drop (HT.sIx b.length 0 none)).take (HT.sIx b.length b.length (some (1 + (b.length : Int) / 2 + m)) - HT.sIx b.length 0 none) := hc
            exact okb.s4 c (List.mem_of_mem_drop (List.mem_of_mem_take hc))
          generalize cutS b none (some (1 + (b.length : Int) / 2 + m)) = u at *
          refine ⟨(by show 4 ≤ sizeLine; decide), fun p10 n10 => ?_⟩
          have ne : p10 ≠ d := Good.dictNe D9 n10
          have s10 := same_new (o := .lst ((["a", "/b", "", "/"] : List Str).map V.str)) n10
          refine ⟨_, rfl, d, 4, _, rfl, D9.same s10, by decide, by decide, by omega, fun H11 j kp11 D11 j0 j1 => ?_⟩
          have t11 := Tabs.keep (t9.ext s10) (D9.same s10) kp11
          obtain ⟨v, hv, hm⟩ := at_some (xs := (["a", "/b", "", "/"] : List Str).map V.str) j0 (by show j < (4 : Int); exact j1)
          obtain ⟨x, hx, rfl⟩ := List.mem_map.mp hm
          obtain ⟨x1, x2, x3⟩ := suf_ok x hx
          refine ⟨p10, _, j, _, rfl, rfl, SqL.of (kp11 _ _ ne upd_same), hv, _, _, rfl, rfl, (by rw [sizeLine_eq]; omega), ?_⟩
          have ax := asc_app ac x2
          have sx : S4 (tl (u ++ x)) := by rw [tl_append]; exact sc.app x3
          have lx : (u ++ x : Str).length ≤ 15 := by rw [strLen_append]; omega
          generalize (u ++ x : Str) = z at *
          refine ⟨_, rfl, 0, .str z, "str", rfl, .str z, (by show z.length ≤ 500; omega), ax, fun H12 s12 => ⟨_, rfl, ?_⟩⟩
          have ez : adrV (.str z) = adrP z := rfl
          rw [ez]
          cases c : adrP z with
          | true =>
            refine iteT ?_
            exact ⟨_, rfl, rn _ _ ⟨z, rfl, ⟨c, ax, sx⟩, (D11.same s12).more (by omega), t11.ext s12⟩⟩
          | false =>
            refine iteF ?_
            exact ⟨_, rfl, rn _ _ ⟨b, rfl, okb.toSmall, (D11.same s12).more (by omega), t11.ext s12⟩⟩
        · exact rn _ _ ⟨g, rfl, okg.toSmall, D8.more (by omega), t8⟩
      · obtain ⟨y, rfl, oky, D15, t15⟩ := k15
        refine ⟨_, rfl, _, rfl, b, y, rfl, okb, oky, t15, fun H16 e16 t16 => ⟨_, rfl, ?_⟩⟩
        refine iteF ?_
        refine ⟨_, rfl, _, rfl, b, b, rfl, okb.ok, okb.ok, okb.sg, t16, fun H17 e17 t17 => ?_⟩
        have e0 : shortV b b = "" := by unfold shortV; rw [if_pos rfl]
        rw [e0]
        refine ⟨rfl, _, rfl, ?_⟩
        refine ite2 (fun c => absurd c (ns_bl _)) (fun _ => ?_)
        exact ⟨_, _, _, _, _, rfl, ((D15.extN e16).extN e17).more (by omega), t17⟩
    · rintro σ H' ⟨x3, x4, x5, x6, x7, rfl, _, _⟩
      exact q _
end
end Toy
set_option Elab.async false
set_option linter.all false
set_option maxRecDepth 100000
set_option maxHeartbeats 8000000
namespace Toy
open PySem PySem.Spec PyProof.Rows L2
theorem law_in (K : PySem.W.Frag) (p : Addr) (H : Hp) (a : Addr) (ns : List Int) (hl : ns.length ≤ 63) (hS : SqL K H a (ns.map V.int)) (hT : H p = some (.tbl #[])) : sp_law K p [.ref a] H (fun v _ => v = .bl true) fun _ _ _ => False :=
  ⟨a, ns, rfl, hS, hl, hT, fun _ => rfl⟩
theorem all_mk {l : PySem.W.OpenLaw} {w : World} {K : PySem.W.Frag} {h : Heap} {mg : Str → Option Value} {fa : Addr} (X : K.In h) (G : h.Ns mainGlobals mg) (hfa : mg "law" = some (.ref fa))
    {f1 : Addr} {od1 an1 : Option Addr} {sl1 : Array (Option Value)} {oc1 kV1 dc1 pm1 cd1 ct1 : Value}
    (a1 : PySem.W.nsIn K mainGlobals "consists_of" = some (some (.ref f1))) (l1 : K.lookup f1 = some ⟨oc1, od1, .func (PySem.W.fnOf "consists_of" "consists_of" (defArgs s_consists_of) (defBody s_consists_of) (defScope s_consists_of) .none kV1 dc1 pm1 an1 cd1 ct1), sl1⟩)
    (c1 : PySem.W.codeIn K cd1 "consists_of" = true) (k1 : PySem.W.keepIn K (.ref f1) = true)
    {f2 : Addr} {od2 an2 : Option Addr} {sl2 : Array (Option Value)} {oc2 kV2 dc2 pm2 cd2 ct2 : Value}
    (a2 : PySem.W.nsIn K mainGlobals "is_address" = some (some (.ref f2))) (l2 : K.lookup f2 = some ⟨oc2, od2, .func (PySem.W.fnOf "is_address" "is_address" (defArgs s_is_address) (defBody s_is_address) (defScope s_is_address) .none kV2 dc2 pm2 an2 cd2 ct2), sl2⟩)
    (c2 : PySem.W.codeIn K cd2 "is_address" = true) (k2 : PySem.W.keepIn K (.ref f2) = true)
    {f3 : Addr} {od3 an3 : Option Addr} {sl3 : Array (Option Value)} {oc3 kV3 dc3 pm3 cd3 ct3 : Value}
    (a3 : PySem.W.nsIn K mainGlobals "resolve" = some (some (.ref f3))) (l3 : K.lookup f3 = some ⟨oc3, od3, .func (PySem.W.fnOf "resolve" "resolve" (defArgs s_resolve) (defBody s_resolve) (defScope s_resolve) .none kV3 dc3 pm3 an3 cd3 ct3), sl3⟩)
    (c3 : PySem.W.codeIn K cd3 "resolve" = true) (k3 : PySem.W.keepIn K (.ref f3) = true)
    {f4 : Addr} {od4 an4 : Option Addr} {sl4 : Array (Option Value)} {oc4 kV4 dc4 pm4 cd4 ct4 : Value}
    (a4 : PySem.W.nsIn K mainGlobals "shortest" = some (some (.ref f4))) (l4 : K.lookup f4 = some ⟨oc4, od4, .func (PySem.W.fnOf "shortest" "shortest" (defArgs s_shortest) (defBody s_shortest) (defScope s_shortest) .none kV4 dc4 pm4 an4 cd4 ct4), sl4⟩)
    (c4 : PySem.W.codeIn K cd4 "shortest" = true) (k4 : PySem.W.keepIn K (.ref f4) = true)
    {f5 : Addr} {od5 an5 : Option Addr} {sl5 : Array (Option Value)} {oc5 kV5 dc5 pm5 cd5 ct5 : Value}
    (a5 : PySem.W.nsIn K mainGlobals "check_base" = some (some (.ref f5))) (l5 : K.lookup f5 = some ⟨oc5, od5, .func (PySem.W.fnOf "check_base" "check_base" (defArgs s_check_base) (defBody s_check_base) (defScope s_check_base) .none kV5 dc5 pm5 an5 cd5 ct5), sl5⟩)
    (c5 : PySem.W.codeIn K cd5 "check_base" = true) (k5 : PySem.W.keepIn K (.ref f5) = true)
    {f6 : Addr} {od6 an6 : Option Addr} {sl6 : Array (Option Value)} {oc6 kV6 dc6 pm6 cd6 ct6 : Value}
    (a6 : PySem.W.nsIn K mainGlobals "_is_host" = some (some (.ref f6))) (l6 : K.lookup f6 = some ⟨oc6, od6, .func (PySem.W.fnOf "_is_host" "_is_host" (defArgs s__is_host) (defBody s__is_host) (defScope s__is_host) .none kV6 dc6 pm6 an6 cd6 ct6), sl6⟩)
    (c6 : PySem.W.codeIn K cd6 "_is_host" = true) (k6 : PySem.W.keepIn K (.ref f6) = true)
    {f7 : Addr} {od7 an7 : Option Addr} {sl7 : Array (Option Value)} {oc7 kV7 dc7 pm7 cd7 ct7 : Value}
    (a7 : PySem.W.nsIn K mainGlobals "_is_label" = some (some (.ref f7))) (l7 : K.lookup f7 = some ⟨oc7, od7, .func (PySem.W.fnOf "_is_label" "_is_label" (defArgs s__is_label) (defBody s__is_label) (defScope s__is_label) .none kV7 dc7 pm7 an7 cd7 ct7), sl7⟩)
    (c7 : PySem.W.codeIn K cd7 "_is_label" = true) (k7 : PySem.W.keepIn K (.ref f7) = true)
    {f8 : Addr} {od8 an8 : Option Addr} {sl8 : Array (Option Value)} {oc8 kV8 dc8 pm8 cd8 ct8 : Value}
    (a8 : PySem.W.nsIn K mainGlobals "_is_segment" = some (some (.ref f8))) (l8 : K.lookup f8 = some ⟨oc8, od8, .func (PySem.W.fnOf "_is_segment" "_is_segment" (defArgs s__is_segment) (defBody s__is_segment) (defScope s__is_segment) .none kV8 dc8 pm8 an8 cd8 ct8), sl8⟩)
    (c8 : PySem.W.codeIn K cd8 "_is_segment" = true) (k8 : PySem.W.keepIn K (.ref f8) = true)
    {f9 : Addr} {od9 an9 : Option Addr} {sl9 : Array (Option Value)} {oc9 kV9 dc9 pm9 cd9 ct9 : Value}
    (a9 : PySem.W.nsIn K mainGlobals "_parts" = some (some (.ref f9))) (l9 : K.lookup f9 = some ⟨oc9, od9, .func (PySem.W.fnOf "_parts" "_parts" (defArgs s__parts) (defBody s__parts) (defScope s__parts) .none kV9 dc9 pm9 an9 cd9 ct9), sl9⟩)
    (c9 : PySem.W.codeIn K cd9 "_parts" = true) (k9 : PySem.W.keepIn K (.ref f9) = true)
    {f10 : Addr} {od10 an10 : Option Addr} {sl10 : Array (Option Value)} {oc10 kV10 dc10 pm10 cd10 ct10 : Value}
    (a10 : PySem.W.nsIn K mainGlobals "_segments_behind" = some (some (.ref f10))) (l10 : K.lookup f10 = some ⟨oc10, od10, .func (PySem.W.fnOf "_segments_behind" "_segments_behind" (defArgs s__segments_behind) (defBody s__segments_behind) (defScope s__segments_behind) .none kV10 dc10 pm10 an10 cd10 ct10), sl10⟩)
    (c10 : PySem.W.codeIn K cd10 "_segments_behind" = true) (k10 : PySem.W.keepIn K (.ref f10) = true)
    {f11 : Addr} {od11 an11 : Option Addr} {sl11 : Array (Option Value)} {oc11 kV11 dc11 pm11 cd11 ct11 : Value}
    (a11 : PySem.W.nsIn K mainGlobals "_address_of" = some (some (.ref f11))) (l11 : K.lookup f11 = some ⟨oc11, od11, .func (PySem.W.fnOf "_address_of" "_address_of" (defArgs s__address_of) (defBody s__address_of) (defScope s__address_of) .none kV11 dc11 pm11 an11 cd11 ct11), sl11⟩)
    (c11 : PySem.W.codeIn K cd11 "_address_of" = true) (k11 : PySem.W.keepIn K (.ref f11) = true)
    {f12 : Addr} {od12 an12 : Option Addr} {sl12 : Array (Option Value)} {oc12 kV12 dc12 pm12 cd12 ct12 : Value}
    (a12 : PySem.W.nsIn K mainGlobals "_without_dots" = some (some (.ref f12))) (l12 : K.lookup f12 = some ⟨oc12, od12, .func (PySem.W.fnOf "_without_dots" "_without_dots" (defArgs s__without_dots) (defBody s__without_dots) (defScope s__without_dots) .none kV12 dc12 pm12 an12 cd12 ct12), sl12⟩)
    (c12 : PySem.W.codeIn K cd12 "_without_dots" = true) (k12 : PySem.W.keepIn K (.ref f12) = true)
    {f13 : Addr} {od13 an13 : Option Addr} {sl13 : Array (Option Value)} {oc13 kV13 dc13 pm13 cd13 ct13 : Value}
    (a13 : PySem.W.nsIn K mainGlobals "_from_root" = some (some (.ref f13))) (l13 : K.lookup f13 = some ⟨oc13, od13, .func (PySem.W.fnOf "_from_root" "_from_root" (defArgs s__from_root) (defBody s__from_root) (defScope s__from_root) .none kV13 dc13 pm13 an13 cd13 ct13), sl13⟩)
    (c13 : PySem.W.codeIn K cd13 "_from_root" = true) (k13 : PySem.W.keepIn K (.ref f13) = true)
    {f14 : Addr} {od14 an14 : Option Addr} {sl14 : Array (Option Value)} {oc14 kV14 dc14 pm14 cd14 ct14 : Value}
    (a14 : PySem.W.nsIn K mainGlobals "_from_folder" = some (some (.ref f14))) (l14 : K.lookup f14 = some ⟨oc14, od14, .func (PySem.W.fnOf "_from_folder" "_from_folder" (defArgs s__from_folder) (defBody s__from_folder) (defScope s__from_folder) .none kV14 dc14 pm14 an14 cd14 ct14), sl14⟩)
    (c14 : PySem.W.codeIn K cd14 "_from_folder" = true) (k14 : PySem.W.keepIn K (.ref f14) = true)
    {f15 : Addr} {od15 an15 : Option Addr} {sl15 : Array (Option Value)} {oc15 kV15 dc15 pm15 cd15 ct15 : Value}
    (a15 : PySem.W.nsIn K mainGlobals "_shared_count" = some (some (.ref f15))) (l15 : K.lookup f15 = some ⟨oc15, od15, .func (PySem.W.fnOf "_shared_count" "_shared_count" (defArgs s__shared_count) (defBody s__shared_count) (defScope s__shared_count) .none kV15 dc15 pm15 an15 cd15 ct15), sl15⟩)
    (c15 : PySem.W.codeIn K cd15 "_shared_count" = true) (k15 : PySem.W.keepIn K (.ref f15) = true)
    {f16 : Addr} {od16 an16 : Option Addr} {sl16 : Array (Option Value)} {oc16 kV16 dc16 pm16 cd16 ct16 : Value}
    (a16 : PySem.W.nsIn K mainGlobals "_law_begin" = some (some (.ref f16))) (l16 : K.lookup f16 = some ⟨oc16, od16, .func (PySem.W.fnOf "_law_begin" "_law_begin" (defArgs s__law_begin) (defBody s__law_begin) (defScope s__law_begin) .none kV16 dc16 pm16 an16 cd16 ct16), sl16⟩)
    (c16 : PySem.W.codeIn K cd16 "_law_begin" = true) (k16 : PySem.W.keepIn K (.ref f16) = true)
    {f17 : Addr} {od17 an17 : Option Addr} {sl17 : Array (Option Value)} {oc17 kV17 dc17 pm17 cd17 ct17 : Value}
    (a17 : PySem.W.nsIn K mainGlobals "_law_mixed" = some (some (.ref f17))) (l17 : K.lookup f17 = some ⟨oc17, od17, .func (PySem.W.fnOf "_law_mixed" "_law_mixed" (defArgs s__law_mixed) (defBody s__law_mixed) (defScope s__law_mixed) .none kV17 dc17 pm17 an17 cd17 ct17), sl17⟩)
    (c17 : PySem.W.codeIn K cd17 "_law_mixed" = true) (k17 : PySem.W.keepIn K (.ref f17) = true)
    {f18 : Addr} {od18 an18 : Option Addr} {sl18 : Array (Option Value)} {oc18 kV18 dc18 pm18 cd18 ct18 : Value}
    (a18 : PySem.W.nsIn K mainGlobals "_law_next" = some (some (.ref f18))) (l18 : K.lookup f18 = some ⟨oc18, od18, .func (PySem.W.fnOf "_law_next" "_law_next" (defArgs s__law_next) (defBody s__law_next) (defScope s__law_next) .none kV18 dc18 pm18 an18 cd18 ct18), sl18⟩)
    (c18 : PySem.W.codeIn K cd18 "_law_next" = true) (k18 : PySem.W.keepIn K (.ref f18) = true)
    {f19 : Addr} {od19 an19 : Option Addr} {sl19 : Array (Option Value)} {oc19 kV19 dc19 pm19 cd19 ct19 : Value}
    (a19 : PySem.W.nsIn K mainGlobals "_law_segments_right" = some (some (.ref f19))) (l19 : K.lookup f19 = some ⟨oc19, od19, .func (PySem.W.fnOf "_law_segments_right" "_law_segments_right" (defArgs s__law_segments_right) (defBody s__law_segments_right) (defScope s__law_segments_right) .none kV19 dc19 pm19 an19 cd19 ct19), sl19⟩)
    (c19 : PySem.W.codeIn K cd19 "_law_segments_right" = true) (k19 : PySem.W.keepIn K (.ref f19) = true)
    {f20 : Addr} {od20 an20 : Option Addr} {sl20 : Array (Option Value)} {oc20 kV20 dc20 pm20 cd20 ct20 : Value}
    (a20 : PySem.W.nsIn K mainGlobals "_law_host_right" = some (some (.ref f20))) (l20 : K.lookup f20 = some ⟨oc20, od20, .func (PySem.W.fnOf "_law_host_right" "_law_host_right" (defArgs s__law_host_right) (defBody s__law_host_right) (defScope s__law_host_right) .none kV20 dc20 pm20 an20 cd20 ct20), sl20⟩)
    (c20 : PySem.W.codeIn K cd20 "_law_host_right" = true) (k20 : PySem.W.keepIn K (.ref f20) = true)
    {f21 : Addr} {od21 an21 : Option Addr} {sl21 : Array (Option Value)} {oc21 kV21 dc21 pm21 cd21 ct21 : Value}
    (a21 : PySem.W.nsIn K mainGlobals "_law_is_address" = some (some (.ref f21))) (l21 : K.lookup f21 = some ⟨oc21, od21, .func (PySem.W.fnOf "_law_is_address" "_law_is_address" (defArgs s__law_is_address) (defBody s__law_is_address) (defScope s__law_is_address) .none kV21 dc21 pm21 an21 cd21 ct21), sl21⟩)
    (c21 : PySem.W.codeIn K cd21 "_law_is_address" = true) (k21 : PySem.W.keepIn K (.ref f21) = true)
    {f22 : Addr} {od22 an22 : Option Addr} {sl22 : Array (Option Value)} {oc22 kV22 dc22 pm22 cd22 ct22 : Value}
    (a22 : PySem.W.nsIn K mainGlobals "_law_resolved" = some (some (.ref f22))) (l22 : K.lookup f22 = some ⟨oc22, od22, .func (PySem.W.fnOf "_law_resolved" "_law_resolved" (defArgs s__law_resolved) (defBody s__law_resolved) (defScope s__law_resolved) .none kV22 dc22 pm22 an22 cd22 ct22), sl22⟩)
    (c22 : PySem.W.codeIn K cd22 "_law_resolved" = true) (k22 : PySem.W.keepIn K (.ref f22) = true)
    {f23 : Addr} {od23 an23 : Option Addr} {sl23 : Array (Option Value)} {oc23 kV23 dc23 pm23 cd23 ct23 : Value}
    (a23 : PySem.W.nsIn K mainGlobals "_law_small" = some (some (.ref f23))) (l23 : K.lookup f23 = some ⟨oc23, od23, .func (PySem.W.fnOf "_law_small" "_law_small" (defArgs s__law_small) (defBody s__law_small) (defScope s__law_small) .none kV23 dc23 pm23 an23 cd23 ct23), sl23⟩)
    (c23 : PySem.W.codeIn K cd23 "_law_small" = true) (k23 : PySem.W.keepIn K (.ref f23) = true)
    {f24 : Addr} {od24 an24 : Option Addr} {sl24 : Array (Option Value)} {oc24 kV24 dc24 pm24 cd24 ct24 : Value}
    (a24 : PySem.W.nsIn K mainGlobals "_law_all" = some (some (.ref f24))) (l24 : K.lookup f24 = some ⟨oc24, od24, .func (PySem.W.fnOf "_law_all" "_law_all" (defArgs s__law_all) (defBody s__law_all) (defScope s__law_all) .none kV24 dc24 pm24 an24 cd24 ct24), sl24⟩)
    (c24 : PySem.W.codeIn K cd24 "_law_all" = true) (k24 : PySem.W.keepIn K (.ref f24) = true)
    {f25 : Addr} {od25 an25 : Option Addr} {sl25 : Array (Option Value)} {oc25 kV25 dc25 pm25 cd25 ct25 : Value}
    (a25 : PySem.W.nsIn K mainGlobals "_law_least" = some (some (.ref f25))) (l25 : K.lookup f25 = some ⟨oc25, od25, .func (PySem.W.fnOf "_law_least" "_law_least" (defArgs s__law_least) (defBody s__law_least) (defScope s__law_least) .none kV25 dc25 pm25 an25 cd25 ct25), sl25⟩)
    (c25 : PySem.W.codeIn K cd25 "_law_least" = true) (k25 : PySem.W.keepIn K (.ref f25) = true)
    {f26 : Addr} {od26 an26 : Option Addr} {sl26 : Array (Option Value)} {oc26 kV26 dc26 pm26 cd26 ct26 : Value}
    (a26 : PySem.W.nsIn K mainGlobals "_law_right" = some (some (.ref f26))) (l26 : K.lookup f26 = some ⟨oc26, od26, .func (PySem.W.fnOf "_law_right" "_law_right" (defArgs s__law_right) (defBody s__law_right) (defScope s__law_right) .none kV26 dc26 pm26 an26 cd26 ct26), sl26⟩)
    (c26 : PySem.W.codeIn K cd26 "_law_right" = true) (k26 : PySem.W.keepIn K (.ref f26) = true)
    {f27 : Addr} {od27 an27 : Option Addr} {sl27 : Array (Option Value)} {oc27 kV27 dc27 pm27 cd27 ct27 : Value}
    (a27 : PySem.W.nsIn K mainGlobals "law" = some (some (.ref f27))) (l27 : K.lookup f27 = some ⟨oc27, od27, .func (PySem.W.fnOf "law" "law" (defArgs s_law) (defBody s_law) (defScope s_law) .none kV27 dc27 pm27 an27 cd27 ct27), sl27⟩)
    (c27 : PySem.W.codeIn K cd27 "law" = true) (k27 : PySem.W.keepIn K (.ref f27) = true)
    {C_FeedError : Addr} (g_FeedError : PySem.W.nsIn K mainGlobals "FeedError" = some (some (.ref C_FeedError)))
    {C_BadAddress : Addr} (g_BadAddress : PySem.W.nsIn K mainGlobals "BadAddress" = some (some (.ref C_BadAddress)))
    {nm_BadAddress qq_BadAddress : Str} {N_BadAddress : Addr} {bs_BadAddress : List Value} {sn_BadAddress : List Str} {sub_BadAddress : List Value} {ab_BadAddress : Bool} {col_BadAddress : Option Bool} {dd_BadAddress : Option Addr} {m0_BadAddress m1_BadAddress m2_BadAddress m3_BadAddress m5_BadAddress : Option Value}
    (x_BadAddress : K.lookup C_BadAddress = some (excClassObj nm_BadAddress qq_BadAddress C_BadAddress N_BadAddress bs_BadAddress [.ref C_FeedError, .type "ValueError", .type "Exception", .type "BaseException", .type "object"] true sn_BadAddress sub_BadAddress ab_BadAddress col_BadAddress dd_BadAddress m0_BadAddress m1_BadAddress m2_BadAddress m3_BadAddress m5_BadAddress "ValueError.__new__"))
    (sa_BadAddress : PySem.W.findIn K (.ref C_BadAddress) "__setattr__" = some (some (.builtin "object.__setattr__"))) (eC_BadAddress : PySem.W.subIn K (.ref C_BadAddress) (.type "BaseException") = some true) (tC_BadAddress : PySem.W.typeIn K (.ref C_BadAddress) = some (.type "type")) (kC_BadAddress : PySem.W.keepIn K (.ref C_BadAddress) = true)
    {I_BadAddress : Addr} {odI_BadAddress anI_BadAddress : Option Addr} {slI_BadAddress : Array (Option Value)} {ocI_BadAddress kVI_BadAddress dcI_BadAddress pmI_BadAddress cdI_BadAddress ctI_BadAddress : Value}
    (iC_BadAddress : PySem.W.findIn K (.ref C_BadAddress) "__init__" = some (some (.ref I_BadAddress))) (tI_BadAddress : PySem.W.typeIn K (.ref I_BadAddress) = some (.type "function"))
    (lI_BadAddress : K.lookup I_BadAddress = some ⟨ocI_BadAddress, odI_BadAddress, .func (PySem.W.fnOf "__init__" "BadAddress.__init__" (defArgs s_BadAddress) (defBody s_BadAddress) (defScope s_BadAddress) .none kVI_BadAddress dcI_BadAddress pmI_BadAddress anI_BadAddress cdI_BadAddress ctI_BadAddress), slI_BadAddress⟩) (cI_BadAddress : PySem.W.codeIn K cdI_BadAddress "BadAddress.__init__" = true) (kI_BadAddress : PySem.W.keepIn K (.ref I_BadAddress) = true)
    (n_BadAddress_given : PySem.W.findIn K (.ref C_BadAddress) "given" = some none)
    (z_all : PySem.W.nsIn K mainGlobals "all" = some none)
    (z_int : PySem.W.nsIn K mainGlobals "int" = some none)
    (z_isinstance : PySem.W.nsIn K mainGlobals "isinstance" = some none)
    (z_len : PySem.W.nsIn K mainGlobals "len" = some none)
    (z_min : PySem.W.nsIn K mainGlobals "min" = some none)
    (z_range : PySem.W.nsIn K mainGlobals "range" = some none)
    (z_str : PySem.W.nsIn K mainGlobals "str" = some none)
    (z_zip : PySem.W.nsIn K mainGlobals "zip" = some none)
    {t_LABEL_SIGNS : Tok} (m_LABEL_SIGNS : PySem.W.nsIn K mainGlobals "LABEL_SIGNS" = some (some (.str "abcdefghijklmnopqrstuvwxyz0123456789" t_LABEL_SIGNS)))
    {t_SEGMENT_SIGNS : Tok} (m_SEGMENT_SIGNS : PySem.W.nsIn K mainGlobals "SEGMENT_SIGNS" = some (some (.str "abcdefghijklmnopqrstuvwxyzABCDEFGHIJKLMNOPQRSTUVWXYZ0123456789-_." t_SEGMENT_SIGNS)))
    {r_DOTS : Addr} {u_DOTS_0 u_DOTS_1 : Tok} {n_DOTS : Nat} {dd_DOTS : Option Addr} {ss_DOTS : Array (Option Value)} (m_DOTS : PySem.W.nsIn K mainGlobals "DOTS" = some (some (.ref r_DOTS)))
    (o_DOTS : K.lookup r_DOTS = some ⟨.type "tuple", dd_DOTS, .seq #[.str "." u_DOTS_0, .str ".." u_DOTS_1] n_DOTS, ss_DOTS⟩)
    {cc_shortest pp_shortest : Addr} (e_shortest : cd4 = .ref cc_shortest) (t_shortest : h.get? pp_shortest = some { cls := .none, data := .fields #[] }) (h_shortest : PySem.W.codeHdIn K cc_shortest pp_shortest = true) (x_shortest : K.lookup pp_shortest = none) :
    LamX.LawAtS l w K CX0 8 63 "script" mg fa h := by
  have e := hfa.symm.trans (PySem.W.mg_of X G a27)
  cases e
  have F1 := fun_mk (st := s_consists_of) l1 c1 k1
  have b1 := F1.binds (ps := ["text", "signs"]) fun _ _ _ _ _ _ us hl => match us, hl with | [_, _], _ => rfl
  have F2 := fun_mk (st := s_is_address) l2 c2 k2
  have b2 := F2.binds (ps := ["value"]) fun _ _ _ _ _ _ us hl => match us, hl with | [_], _ => rfl
  have F3 := fun_mk (st := s_resolve) l3 c3 k3
  have b3 := F3.binds (ps := ["base", "text"]) fun _ _ _ _ _ _ us hl => match us, hl with | [_, _], _ => rfl
  have F4 := fun_mk (st := s_shortest) l4 c4 k4
  have b4 := F4.binds (ps := ["base", "address"]) fun _ _ _ _ _ _ us hl => match us, hl with | [_, _], _ => rfl
  have F5 := fun_mk (st := s_check_base) l5 c5 k5
  have b5 := F5.binds (ps := ["base"]) fun _ _ _ _ _ _ us hl => match us, hl with | [_], _ => rfl
  have F6 := fun_mk (st := s__is_host) l6 c6 k6
  have b6 := F6.binds (ps := ["text"]) fun _ _ _ _ _ _ us hl => match us, hl with | [_], _ => rfl
  have F7 := fun_mk (st := s__is_label) l7 c7 k7
  have b7 := F7.binds (ps := ["text"]) fun _ _ _ _ _ _ us hl => match us, hl with | [_], _ => rfl
  have F8 := fun_mk (st := s__is_segment) l8 c8 k8
  have b8 := F8.binds (ps := ["text"]) fun _ _ _ _ _ _ us hl => match us, hl with | [_], _ => rfl
  have F9 := fun_mk (st := s__parts) l9 c9 k9
  have b9 := F9.binds (ps := ["text"]) fun _ _ _ _ _ _ us hl => match us, hl with | [_], _ => rfl
  have F10 := fun_mk (st := s__segments_behind) l10 c10 k10
  have b10 := F10.binds (ps := ["segments", "reference"]) fun _ _ _ _ _ _ us hl => match us, hl with | [_, _], _ => rfl
  have F11 := fun_mk (st := s__address_of) l11 c11 k11
  have b11 := F11.binds (ps := ["host", "segments"]) fun _ _ _ _ _ _ us hl => match us, hl with | [_, _], _ => rfl
  have F12 := fun_mk (st := s__without_dots) l12 c12 k12
  have b12 := F12.binds (ps := ["segments"]) fun _ _ _ _ _ _ us hl => match us, hl with | [_], _ => rfl
  have F13 := fun_mk (st := s__from_root) l13 c13 k13
  have b13 := F13.binds (ps := ["goal"]) fun _ _ _ _ _ _ us hl => match us, hl with | [_], _ => rfl
  have F14 := fun_mk (st := s__from_folder) l14 c14 k14
  have b14 := F14.binds (ps := ["folder", "goal"]) fun _ _ _ _ _ _ us hl => match us, hl with | [_, _], _ => rfl
  have F15 := fun_mk (st := s__shared_count) l15 c15 k15
  have b15 := F15.binds (ps := ["one", "other"]) fun _ _ _ _ _ _ us hl => match us, hl with | [_, _], _ => rfl
  have F16 := fun_mk (st := s__law_begin) l16 c16 k16
  have b16 := F16.binds (ps := ["script"]) fun _ _ _ _ _ _ us hl => match us, hl with | [_], _ => rfl
  have F17 := fun_mk (st := s__law_mixed) l17 c17 k17
  have b17 := F17.binds (ps := ["cell", "k"]) fun _ _ _ _ _ _ us hl => match us, hl with | [_, _], _ => rfl
  have F18 := fun_mk (st := s__law_next) l18 c18 k18
  have b18 := F18.binds (ps := ["draw", "bound"]) fun _ _ _ _ _ _ us hl => match us, hl with | [_, _], _ => rfl
  have F19 := fun_mk (st := s__law_segments_right) l19 c19 k19
  have b19 := F19.binds (ps := ["segments"]) fun _ _ _ _ _ _ us hl => match us, hl with | [_], _ => rfl
  have F20 := fun_mk (st := s__law_host_right) l20 c20 k20
  have b20 := F20.binds (ps := ["host"]) fun _ _ _ _ _ _ us hl => match us, hl with | [_], _ => rfl
  have F21 := fun_mk (st := s__law_is_address) l21 c21 k21
  have b21 := F21.binds (ps := ["thing"]) fun _ _ _ _ _ _ us hl => match us, hl with | [_], _ => rfl
  have F22 := fun_mk (st := s__law_resolved) l22 c22 k22
  have b22 := F22.binds (ps := ["base", "letters"]) fun _ _ _ _ _ _ us hl => match us, hl with | [_, _], _ => rfl
  have F23 := fun_mk (st := s__law_small) l23 c23 k23
  have b23 := F23.binds (ps := ["draw"]) fun _ _ _ _ _ _ us hl => match us, hl with | [_], _ => rfl
  have F24 := fun_mk (st := s__law_all) l24 c24 k24
  have b24 := F24.binds (ps := ["size"]) fun _ _ _ _ _ _ us hl => match us, hl with | [_], _ => rfl
  have F25 := fun_mk (st := s__law_least) l25 c25 k25
  have b25 := F25.binds (ps := ["base", "address"]) fun _ _ _ _ _ _ us hl => match us, hl with | [_, _], _ => rfl
  have F26 := fun_mk (st := s__law_right) l26 c26 k26
  have b26 := F26.binds (ps := ["base", "address"]) fun _ _ _ _ _ _ us hl => match us, hl with | [_, _], _ => rfl
  have F27 := fun_mk (st := s_law) l27 c27 k27
  have b27 := F27.binds (ps := ["script"]) fun _ _ _ _ _ _ us hl => match us, hl with | [_], _ => rfl
  have FI_BadAddress := fun_mk (st := s_BadAddress) lI_BadAddress cI_BadAddress kI_BadAddress
  have bI_BadAddress := FI_BadAddress.binds (ps := ["self", "given"]) fun _ _ _ _ _ _ us hl => match us, hl with | [_, _], _ => rfl
  let T : Txt K mg := { a_consists_of := f1, d_consists_of := _, F_consists_of := F1, g_consists_of := PySem.W.mg_of X G a1, b_consists_of := b1, a_is_address := f2, d_is_address := _, F_is_address := F2, g_is_address := PySem.W.mg_of X G a2, b_is_address := b2, a_resolve := f3, d_resolve := _, F_resolve := F3, g_resolve := PySem.W.mg_of X G a3, b_resolve := b3, a_shortest := f4, d_shortest := _, F_shortest := F4, g_shortest := PySem.W.mg_of X G a4, b_shortest := b4, a_check_base := f5, d_check_base := _, F_check_base := F5, g_check_base := PySem.W.mg_of X G a5, b_check_base := b5, a__is_host := f6, d__is_host := _, F__is_host := F6, g__is_host := PySem.W.mg_of X G a6, b__is_host := b6, a__is_label := f7, d__is_label := _, F__is_label := F7, g__is_label := PySem.W.mg_of X G a7, b__is_label := b7, a__is_segment := f8, d__is_segment := _, F__is_segment := F8, g__is_segment := PySem.W.mg_of X G a8, b__is_segment := b8, a__parts := f9, d__parts := _, F__parts := F9, g__parts := PySem.W.mg_of X G a9, b__parts := b9, a__segments_behind := f10, d__segments_behind := _, F__segments_behind := F10, g__segments_behind := PySem.W.mg_of X G a10, b__segments_behind := b10, a__address_of := f11, d__address_of := _, F__address_of := F11, g__address_of := PySem.W.mg_of X G a11, b__address_of := b11, a__without_dots := f12, d__without_dots := _, F__without_dots := F12, g__without_dots := PySem.W.mg_of X G a12, b__without_dots := b12, a__from_root := f13, d__from_root := _, F__from_root := F13, g__from_root := PySem.W.mg_of X G a13, b__from_root := b13, a__from_folder := f14, d__from_folder := _, F__from_folder := F14, g__from_folder := PySem.W.mg_of X G a14, b__from_folder := b14, a__shared_count := f15, d__shared_count := _, F__shared_count := F15, g__shared_count := PySem.W.mg_of X G a15, b__shared_count := b15, a__law_begin := f16, d__law_begin := _, F__law_begin := F16, g__law_begin := PySem.W.mg_of X G a16, b__law_begin := b16, a__law_mixed := f17, d__law_mixed := _, F__law_mixed := F17, g__law_mixed := PySem.W.mg_of X G a17, b__law_mixed := b17, a__law_next := f18, d__law_next := _, F__law_next := F18, g__law_next := PySem.W.mg_of X G a18, b__law_next := b18, a__law_segments_right := f19, d__law_segments_right := _, F__law_segments_right := F19, g__law_segments_right := PySem.W.mg_of X G a19, b__law_segments_right := b19, a__law_host_right := f20, d__law_host_right := _, F__law_host_right := F20, g__law_host_right := PySem.W.mg_of X G a20, b__law_host_right := b20, a__law_is_address := f21, d__law_is_address := _, F__law_is_address := F21, g__law_is_address := PySem.W.mg_of X G a21, b__law_is_address := b21, a__law_resolved := f22, d__law_resolved := _, F__law_resolved := F22, g__law_resolved := PySem.W.mg_of X G a22, b__law_resolved := b22, a__law_small := f23, d__law_small := _, F__law_small := F23, g__law_small := PySem.W.mg_of X G a23, b__law_small := b23, a__law_all := f24, d__law_all := _, F__law_all := F24, g__law_all := PySem.W.mg_of X G a24, b__law_all := b24, a__law_least := f25, d__law_least := _, F__law_least := F25, g__law_least := PySem.W.mg_of X G a25, b__law_least := b25, a__law_right := f26, d__law_right := _, F__law_right := F26, g__law_right := PySem.W.mg_of X G a26, b__law_right := b26, a_law := fa, d_law := _, F_law := F27, g_law := PySem.W.mg_of X G a27, b_law := b27, C_FeedError := C_FeedError, g_FeedError := PySem.W.mg_of X G g_FeedError, C_BadAddress := C_BadAddress, g_BadAddress := PySem.W.mg_of X G g_BadAddress, I_BadAddress := I_BadAddress, i_BadAddress := _, o_BadAddress := ⟨⟨_, _, _, _, _, _, _, _, _, _, _, _, _, _, _, x_BadAddress, rfl⟩, sa_BadAddress, eC_BadAddress, tC_BadAddress, kC_BadAddress⟩, iC_BadAddress := iC_BadAddress, tI_BadAddress := tI_BadAddress, FI_BadAddress := FI_BadAddress, bI_BadAddress := bI_BadAddress, n_BadAddress_given := n_BadAddress_given, z_all := PySem.W.mg_none_of X G z_all, z_int := PySem.W.mg_none_of X G z_int, z_isinstance := PySem.W.mg_none_of X G z_isinstance, z_len := PySem.W.mg_none_of X G z_len, z_min := PySem.W.mg_none_of X G z_min, z_range := PySem.W.mg_none_of X G z_range, z_str := PySem.W.mg_none_of X G z_str, z_zip := PySem.W.mg_none_of X G z_zip, t_LABEL_SIGNS := t_LABEL_SIGNS, c_LABEL_SIGNS := PySem.W.mg_of X G m_LABEL_SIGNS, t_SEGMENT_SIGNS := t_SEGMENT_SIGNS, c_SEGMENT_SIGNS := PySem.W.mg_of X G m_SEGMENT_SIGNS, r_DOTS := r_DOTS, c_DOTS := PySem.W.mg_of X G m_DOTS, e_DOTS := fun H => .inr ⟨_, _, _, o_DOTS, rfl, rfl, (by show 2 ≤ sizeLine; decide), (.cons ⟨_, rfl⟩ (.cons ⟨_, rfl⟩ .nil))⟩, c_shortest := cc_shortest, p_shortest := pp_shortest, k_shortest := e_shortest }
  refine ⟨T.d_law, [(cc_shortest, pp_shortest)], sp_law K pp_shortest, fun p hp => ?_, fun p hp => ?_, fun p hp => ?_, fun s v => .of_eq rfl, fun H a ns hl _ hT hS => ?_, fun base _ _ TB => ?_⟩
  · rw [List.mem_singleton.mp hp]; exact t_shortest
  · rw [List.mem_singleton.mp hp]; exact x_shortest
  · rw [List.mem_singleton.mp hp]; exact PySem.W.codeHd_of_K X h_shortest
  · exact law_in K pp_shortest H a ns hl hS (hT _ (List.Mem.head _))
  · exact ok_law T (TB _ (List.Mem.head _))
theorem kmIn_of {K : Params → PySem.W.Frag} {as : List Addr} {e : ∀ (P : Params), as = List.map (fun x => x.fst) (K P)} {ts : List Addr} {w : World} {h : Heap} (Y : (PySem.W.kmHook K as e ts).says w h) : (K w.params).In h := Y.1
theorem walk {l : PySem.W.OpenLaw} {q : Program} {loose : List Str} {XP : (Str → Option Value) → Heap → Prop} {YP : World → Heap → Prop} {d : DefRec} {K : Params → PySem.W.Frag} (hn : l.most = some 63) (hdf : d.params.defaults = [])
    (hY : ∀ (w : World) (h : Heap), YP w h → (K w.params).In h)
    (F : ∀ (w : World) (mg : Str → Option Value) (fa : Addr) (h : Heap), YP w h → (K w.params).In h → h.Ns mainGlobals mg → mg d.name = some (.ref fa) → LamX.LawAtS l w (K w.params) CX0 8 63 "script" mg fa h) :
    PySem.W.WalkO q loose XP YP l.row.toRowW d [] (fun f vs => PySem.call f vs) :=
  LamX.walk_ofTs (CX := fun _ => CX0) (k := 8) hn (by decide) hdf ⟨rfl, by decide, by decide⟩ hY F (fun _ _ _ _ _ z => z)
end Toy
open PySem PySem.W PyProof.Rows in
set_option maxRecDepth 100000 in
set_option maxHeartbeats 0 in
theorem PySem.Challenge.cw_feedreader_k11_whole_shortest_references_holds : PySem.Challenge.rw_feedreader_k11_whole_shortest_references.Holds := by
  w_on; o_law; k_head; (case hw => w_witness2)
  k_fill
  refine Toy.walk (l := PySem.Challenge.rw_feedreader_k11_whole_shortest_references) rfl rfl (fun w h Y => Toy.kmIn_of Y) ?F
  case F =>
    intro w mg fa h Y KX G hmg
    refine' Toy.all_mk KX G hmg ?a1 ?l1 ?c1 ?k1 ?a2 ?l2 ?c2 ?k2 ?a3 ?l3 ?c3 ?k3 ?a4 ?l4 ?c4 ?k4 ?a5 ?l5 ?c5 ?k5 ?a6 ?l6 ?c6 ?k6 ?a7 ?l7 ?c7 ?k7 ?a8 ?l8 ?c8 ?k8 ?a9 ?l9 ?c9 ?k9 ?a10 ?l10 ?c10 ?k10 ?a11 ?l11 ?c11 ?k11 ?a12 ?l12 ?c12 ?k12 ?a13 ?l13 ?c13 ?k13 ?a14 ?l14 ?c14 ?k14 ?a15 ?l15 ?c15 ?k15 ?a16 ?l16 ?c16 ?k16 ?a17 ?l17 ?c17 ?k17 ?a18 ?l18 ?c18 ?k18 ?a19 ?l19 ?c19 ?k19 ?a20 ?l20 ?c20 ?k20 ?a21 ?l21 ?c21 ?k21 ?a22 ?l22 ?c22 ?k22 ?a23 ?l23 ?c23 ?k23 ?a24 ?l24 ?c24 ?k24 ?a25 ?l25 ?c25 ?k25 ?a26 ?l26 ?c26 ?k26 ?a27 ?l27 ?c27 ?k27 ?g_FeedError ?g_BadAddress ?x_BadAddress ?sa_BadAddress ?eC_BadAddress ?tC_BadAddress ?kC_BadAddress ?iC_BadAddress ?tI_BadAddress ?lI_BadAddress ?cI_BadAddress ?kI_BadAddress ?n_BadAddress_given ?z_all ?z_int ?z_isinstance ?z_len ?z_min ?z_range ?z_str ?z_zip ?m_LABEL_SIGNS ?m_SEGMENT_SIGNS ?m_DOTS ?o_DOTS ?e_shortest ?t_shortest ?h_shortest ?x_shortest
    (case a1 => first | k_is | kit_is | rfl)
    (case l1 => first | k_is | kit_is | rfl)
    (case c1 => first | k_is | kit_is | rfl)
    (case k1 => first | k_is | kit_is | rfl)
    (case a2 => first | k_is | kit_is | rfl)
    (case l2 => first | k_is | kit_is | rfl)
    (case c2 => first | k_is | kit_is | rfl)
    (case k2 => first | k_is | kit_is | rfl)
    (case a3 => first | k_is | kit_is | rfl)
    (case l3 => first | k_is | kit_is | rfl)
    (case c3 => first | k_is | kit_is | rfl)
    (case k3 => first | k_is | kit_is | rfl)
    (case a4 => first | k_is | kit_is | rfl)
    (case l4 => first | k_is | kit_is | rfl)
    (case c4 => first | k_is | kit_is | rfl)
    (case k4 => first | k_is | kit_is | rfl)
    (case a5 => first | k_is | kit_is | rfl)
    (case l5 => first | k_is | kit_is | rfl)
    (case c5 => first | k_is | kit_is | rfl)
    (case k5 => first | k_is | kit_is | rfl)
    (case a6 => first | k_is | kit_is | rfl)
    (case l6 => first | k_is | kit_is | rfl)
    (case c6 => first | k_is | kit_is | rfl)
    (case k6 => first | k_is | kit_is | rfl)
    (case a7 => first | k_is | kit_is | rfl)
    (case l7 => first | k_is | kit_is | rfl)
    (case c7 => first | k_is | kit_is | rfl)
    (case k7 => first | k_is | kit_is | rfl)
    (case a8 => first | k_is | kit_is | rfl)
    (case l8 => first | k_is | kit_is | rfl)
    (case c8 => first | k_is | kit_is | rfl)
    (case k8 => first | k_is | kit_is | rfl)
    (case a9 => first | k_is | kit_is | rfl)
    (case l9 => first | k_is | kit_is | rfl)
    (case c9 => first | k_is | kit_is | rfl)
    (case k9 => first | k_is | kit_is | rfl)
    (case a10 => first | k_is | kit_is | rfl)
    (case l10 => first | k_is | kit_is | rfl)
    (case c10 => first | k_is | kit_is | rfl)
    (case k10 => first | k_is | kit_is | rfl)
    (case a11 => first | k_is | kit_is | rfl)
    (case l11 => first | k_is | kit_is | rfl)
    (case c11 => first | k_is | kit_is | rfl)
    (case k11 => first | k_is | kit_is | rfl)
    (case a12 => first | k_is | kit_is | rfl)
    (case l12 => first | k_is | kit_is | rfl)
    (case c12 => first | k_is | kit_is | rfl)
    (case k12 => first | k_is | kit_is | rfl)
    (case a13 => first | k_is | kit_is | rfl)
    (case l13 => first | k_is | kit_is | rfl)
    (case c13 => first | k_is | kit_is | rfl)
    (case k13 => first | k_is | kit_is | rfl)
    (case a14 => first | k_is | kit_is | rfl)
    (case l14 => first | k_is | kit_is | rfl)
    (case c14 => first | k_is | kit_is | rfl)
    (case k14 => first | k_is | kit_is | rfl)
    (case a15 => first | k_is | kit_is | rfl)
    (case l15 => first | k_is | kit_is | rfl)
    (case c15 => first | k_is | kit_is | rfl)
    (case k15 => first | k_is | kit_is | rfl)
    (case a16 => first | k_is | kit_is | rfl)
    (case l16 => first | k_is | kit_is | rfl)
    (case c16 => first | k_is | kit_is | rfl)
    (case k16 => first | k_is | kit_is | rfl)
    (case a17 => first | k_is | kit_is | rfl)
    (case l17 => first | k_is | kit_is | rfl)
    (case c17 => first | k_is | kit_is | rfl)
    (case k17 => first | k_is | kit_is | rfl)
    (case a18 => first | k_is | kit_is | rfl)
    (case l18 => first | k_is | kit_is | rfl)
    (case c18 => first | k_is | kit_is | rfl)
    (case k18 => first | k_is | kit_is | rfl)
    (case a19 => first | k_is | kit_is | rfl)
    (case l19 => first | k_is | kit_is | rfl)
    (case c19 => first | k_is | kit_is | rfl)
    (case k19 => first | k_is | kit_is | rfl)
    (case a20 => first | k_is | kit_is | rfl)
    (case l20 => first | k_is | kit_is | rfl)
    (case c20 => first | k_is | kit_is | rfl)
    (case k20 => first | k_is | kit_is | rfl)
    (case a21 => first | k_is | kit_is | rfl)
    (case l21 => first | k_is | kit_is | rfl)
    (case c21 => first | k_is | kit_is | rfl)
    (case k21 => first | k_is | kit_is | rfl)
    (case a22 => first | k_is | kit_is | rfl)
    (case l22 => first | k_is | kit_is | rfl)
    (case c22 => first | k_is | kit_is | rfl)
    (case k22 => first | k_is | kit_is | rfl)
    (case a23 => first | k_is | kit_is | rfl)
    (case l23 => first | k_is | kit_is | rfl)
    (case c23 => first | k_is | kit_is | rfl)
    (case k23 => first | k_is | kit_is | rfl)
    (case a24 => first | k_is | kit_is | rfl)
    (case l24 => first | k_is | kit_is | rfl)
    (case c24 => first | k_is | kit_is | rfl)
    (case k24 => first | k_is | kit_is | rfl)
    (case a25 => first | k_is | kit_is | rfl)
    (case l25 => first | k_is | kit_is | rfl)
    (case c25 => first | k_is | kit_is | rfl)
    (case k25 => first | k_is | kit_is | rfl)
    (case a26 => first | k_is | kit_is | rfl)
    (case l26 => first | k_is | kit_is | rfl)
    (case c26 => first | k_is | kit_is | rfl)
    (case k26 => first | k_is | kit_is | rfl)
    (case a27 => first | k_is | kit_is | rfl)
    (case l27 => first | k_is | kit_is | rfl)
    (case c27 => first | k_is | kit_is | rfl)
    (case k27 => first | k_is | kit_is | rfl)
    (case g_FeedError => first | k_is | kit_is | rfl)
    (case g_BadAddress => first | k_is | kit_is | rfl)
    (case x_BadAddress => first | k_is | kit_is | rfl)
    (case sa_BadAddress => first | k_is | kit_is | rfl)
    (case eC_BadAddress => first | k_is | kit_is | rfl)
    (case tC_BadAddress => first | k_is | kit_is | rfl)
    (case kC_BadAddress => first | k_is | kit_is | rfl)
    (case iC_BadAddress => first | k_is | kit_is | rfl)
    (case tI_BadAddress => first | k_is | kit_is | rfl)
    (case lI_BadAddress => first | k_is | kit_is | rfl)
    (case cI_BadAddress => first | k_is | kit_is | rfl)
    (case kI_BadAddress => first | k_is | kit_is | rfl)
    (case n_BadAddress_given => first | k_is | kit_is | rfl)
    (case z_all => first | k_is | kit_is | rfl)
    (case z_int => first | k_is | kit_is | rfl)
    (case z_isinstance => first | k_is | kit_is | rfl)
    (case z_len => first | k_is | kit_is | rfl)
    (case z_min => first | k_is | kit_is | rfl)
    (case z_range => first | k_is | kit_is | rfl)
    (case z_str => first | k_is | kit_is | rfl)
    (case z_zip => first | k_is | kit_is | rfl)
    (case m_LABEL_SIGNS => first | k_is | kit_is | rfl)
    (case m_SEGMENT_SIGNS => first | k_is | kit_is | rfl)
    (case m_DOTS => first | k_is | kit_is | rfl)
    (case o_DOTS => first | k_is | kit_is | rfl)
    (case e_shortest => exact rfl)
    (case t_shortest => exact PySem.W.km_tabs_of Y _ (List.Mem.head _))
    (case h_shortest => first | k_is | kit_is | rfl)
    (case x_shortest => first | k_is | kit_is | rfl)

