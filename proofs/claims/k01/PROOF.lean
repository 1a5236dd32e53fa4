import PyProof.Rows.All
import Wide.All
import OpenK.AllK
import Wide.FinOn
import HandS.ForMost
import HandS.TupAny
import HandS.IsInst
import HandS.Flow
import HandS.Style
import HandS.Zip
import KE.GoesNew
import PyProof.ReprRoads
import PyProof.Rows.SeqMore
import HandS.Walk
import KE.GoesMore
import PyProof.Rows.IntBool
import HandS.ForExc
import HandS.ExcInit
import HandS.Defaults
import HandS.ExcIs
import HandS.ExcField
import HandS.ExcValue
import KE.KExcIs
import KE.KIsAll
import HandS.FStr
import PyProof.Rows.StrIntSpec
import HandS.Words
import HandS.List
import HandS.Text
import HandS.DeepEq
import PyProof.ReprBulk
import PyProof.Rows.ReprShort
import PySem.Challenge.RW_feedreader_k01_error_classes
set_option Elab.async false
set_option linter.all false
set_option maxRecDepth 100000
set_option maxHeartbeats 2000000
/-! Rules that the dates' laws want beside the layer's: repr of data, a list behind the script, zip of a tuple and a list, calls of defs where nothing is being shown by repr. -/
namespace Vz
open PySem PySem.Spec PyProof.Rows L2

/-! ### repr of data -/
def rRepr (K : PySem.W.Frag) : List V → Hp → VK → Prop := fun xs H Q =>
  ∃ (p : Addr) (d : PyData), xs = [.ref p] ∧ Dp K H (.ref p) d ∧ d.showable = true ∧ d.hasDict = false ∧ d.depth ≤ 60 ∧ d.shown.length ≤ sizeLine ∧ Q (.str d.shown) H
theorem repr_data {X : Cx} (gd : X.A.guards = some []) (un : X.A.units + 64 < cLine) : CallR X (.builtin "repr") (rRepr X.K) := by
  intro pins s σ H xs us Q I r h
  obtain ⟨p, d, rfl, hd, sh, nd, dp, sz, q⟩ := h
  obtain ⟨u, rfl, ru⟩ := vals1 r
  obtain ⟨as, rd⟩ := Dp.reads I d _ _ hd ru
  have ru' : u = Value.ref p := ru
  subst ru'
  refine repr_of_reads' rd sh (fun z => ?_) gd (by omega) (fun _ _ e => e) (fun h' tx tk kp => ?_) sz
  · rw [nd] at z; cases z
  · exact ⟨.str d.shown, H, I.kept (t' := tk) kp, ⟨tx, rfl⟩, q⟩

/-! ### a list that is only read, and another one behind it -/
def rCatR (K : PySem.W.Frag) : R2 := fun x y H Q => ∃ (a b : Addr) (xs zs : List V), x = .ref a ∧ y = .ref b ∧ SqL K H a xs ∧ SqL K H b zs ∧ xs.length + zs.length ≤ sizeLine ∧
  ∀ p, H p = none → Q (.ref p) (upd H p (.lst (xs ++ zs)))
theorem op_catR {X : Cx} : OpR X (binaryOp .Add) (rCatR X.K) := by
  intro pins s σ H x y v u Q I rx ry h
  obtain ⟨a, b, xs, zs, rfl, rfl, hA, hB, sz, q⟩ := h
  have ex : v = Value.ref a := rx
  have ey : u = Value.ref b := ry
  subst ex ey
  obtain ⟨its, r1, ⟨o1, n1, g1, c1, d1, e1⟩, _⟩ := I.list hA
  obtain ⟨its2, r2, ⟨o2, n2, g2, c2, d2, e2⟩, _⟩ := I.list hB
  obtain ⟨cl1, dd1, da1, sl1⟩ := o1
  obtain ⟨cl2, dd2, da2, sl2⟩ := o2
  simp only at c1 d1 e1 c2 d2 e2
  subst c1 d1 e1 c2 d2 e2
  have l1 := r1.length
  have l2 := r2.length
  have room : its.toArray.size + its2.toArray.size ≤ sizeLine := by rw [List.size_toArray, List.size_toArray]; omega
  refine concat_meets ⟨_, g1, rfl⟩ ⟨_, g2, rfl⟩ noFill_list_add seq_list_add PySem.F.slot_list_add PySem.F.entry_list_add (PySem.F.args_list_add_2 _ _)
    (list_addW a b its.toArray its2.toArray n1 n2 none none sl1 sl2 room) ⟨g1, g2, ?_⟩
  have ea : its.toArray ++ its2.toArray = (its ++ its2).toArray := by simp
  rw [ea]
  exact ⟨.ref _, _, I.lnew (t' := s.toks) (r1.append r2) (by rw [List.length_append]; omega), rfl, q _ I.fresh⟩

/-! ### calls where no repr is under way -/
structure FnG (P : Program) (w : World) (K : PySem.W.Frag) (mg : Str → Option Value) (base : Heap) (CX : CXT) (k : Nat) (f : Addr) (fd : FuncData) (ps : List Str) (sp : Sp) : Prop where
  many : ∀ vs H Q E, sp vs H Q E → vs.length = ps.length
  goes : ∀ (A : Around) (outer : List Env) (s : Shared) (H : Hp) (args : Args) (us : List Value) (vs : List V) (Q : VK) (E : XK),
    Room k A → A.guards = some [] → Env0 P w K mg base A outer s H → BindsTo s fd args (ps.zip us) → Vals vs us → sp vs H Q E →
    codeAny (model P w) A (.call (.ref f) args) (CR CX outer P w H s Q E) s

section
variable {X : Cx} {CX : CXT} {k : Nat} {f : Addr} {fd : FuncData} {ps : List Str} {sp : Sp} {ds : List Value} {dvs : List V} {E : XK}
theorem pe_callG {x : Str} {p pos : Pos} {e : Expr} {es : List Expr} {t : TA} (G : FnG X.prog X.w X.K X.mg X.base CX k f fd ps sp) (gd : X.A.guards = some []) (hr : Room k X.A) (gl : Gl X x)
    (at_ : X.mg x = some (.ref f)) (kp : PySem.W.keepIn X.K (.ref f) = true) (bd : Binds X.K fd ps ds) (dv : Vals dvs ds) (ps0 : Passes CX X E) (pa : PA X (e :: es) t)
    (nodb : (x == ("__debug__" : Str)) = false := by decide) (st : starEach (e :: es) X.env = (false, eval e X.env) :: starEach es X.env := by rfl)
    (pl : (backTo pos (starEach es X.env)).any (·.1) = false := by rfl) :
    PE X (.Call (.Name x p) (e :: es) [] pos) (tCall sp dvs E t) := by
  constructor
  intro pins s σ H Q I h
  apply wpAny_Call_Name_kw
  refine ld_glob I gl at_ ?_ nodb
  refine PySem.W.callWith_K (h₀ := X.base) I.ok.mod.kin kp (thn (pa.run pos pins s σ H _ I h) ?_) st pl
  rintro us s1 ⟨vs, H1, I1, r, q⟩
  refine ⟨I1.kIn, ?_⟩
  have rr : Vals (vs ++ dvs) (us ++ ds) := r.append dv
  have many : (us ++ ds).length = ps.length := by rw [← rr.length]; exact G.many _ _ _ _ q
  apply wpAny_call
  refine codeAny_mono (G.goes X.A X.stack s1 H1 ⟨us, []⟩ _ _ Q E hr gd I1.env0 (bd s1 us I1.kIn many) rr q) ?_
  rintro (err | fl) s' hq
  · exact ps0 pins σ H1 s1 err s' I1 hq
  · cases fl
    case ret u => exact I1.after hq
    all_goals exact hq.elim
end

/-- the rule for a def of the text, where no repr is under way -/
theorem Fun.okG {P : Program} {w : World} {K : PySem.W.Frag} {mg : Str → Option Value} {base : Heap} {x qual : Str} {st : Stmt} {f : Addr} {fd : FuncData} {N ps : List Str} {k : Nat} {sp : Sp}
    (F : Fun K x qual st f fd) (S : FnScope N ps (defScope st)) (many : ∀ vs H Q E, sp vs H Q E → vs.length = ps.length)
    (body : ∀ (cdv : Value) (A : Around) (outer : List Env) (s : Shared) (H : Hp) (vs : List V) (Q : VK) (E : XK), A.guards = some [] → Room k (A.deeper (envOfC qual (defScope st) s.heap.objs.size f cdv)) → sp vs H Q E →
      ∃ t, PSs (cxOf CX0 P w K mg base N qual (defScope st) f cdv A outer s H E).nox (defBody st) t ∧ t { nx := fun _ H' => Q .non H', rt := Q } (start N vs) H) :
    FnG P w K mg base CX0 (k + 1) f fd ps sp := by
  obtain ⟨oc, od, kV, doc, pm, an, cdv, ct, osl, rfl, lk, hcd⟩ := F.ex
  refine ⟨many, ?_⟩
  intro A outer s H args us vs Q E hr gd e0 hb r hsp
  have nn := many _ _ _ _ hsp
  have inn : K.In s.heap := e0.mod.kin.keeps (fun b o e => (e0.bs b o e).1)
  have li : s.heap.NoLimit := e0.mod.nolimit.keeps (fun b o e => (e0.bs b o e).1)
  have kinds : ∀ y ∈ ps.zip us, (defScope st).names.lookup y.1 = some .local ∨
      ((defScope st).names.lookup y.1 = some .cell ∧ ((cellsFrom (s.heap.objs.size + 1) (defScope st).names []).lookup y.1).isSome = true) := by
    rintro ⟨n, v⟩ hy
    cases S.par n (List.of_mem_zip hy).1 with
    | inl z => exact .inl z
    | inr z => exact .inr ⟨z, PySem.W.cellsFrom_some _ _ _ (.inl z)⟩
  refine codeAny_call_function hr.depth (inn _ _ lk) rfl S.co S.gen rfl (PySem.W.codeRec_of inn hcd) (hb _ _ _ _ ?_)
  refine wpAny_newFunctionEnv_cells S.kind kinds ?_
  intro env he s1 y
  subst he
  refine ⟨li.keeps y.toInCall.keep, ?_⟩
  apply codeAny_func
  obtain ⟨t, pt, qt⟩ := body cdv A outer s H vs Q E gd (hr.deeper _) hsp
  have I : Inv (cxOf CX0 P w K mg base N qual (defScope st) f cdv A outer s H E) [] (start N vs) H s1 := inv_start S hr.hd e0 nn r y
  refine wpAny_mono (pt.nox.run [] s1 (start N vs) H _ I qt) ?_ (fun e s' z => z)
  intro fl s' z
  have close : ∀ {σ' : L2.St} {H' : Hp} {v : V} {u : Value}, Inv (cxOf CX0 P w K mg base N qual (defScope st) f cdv A outer s H E) [] σ' H' s' → RelV v u → Q v H' → CE outer P w H s Q u s' := by
    intro σ' H' v u J rv q
    exact ⟨v, H', J.os, J.bare, J.base, J.hok, rv, q⟩
  match fl, z with
  | .ret u, z => obtain ⟨v, σ', H', J, rv, q⟩ := z; exact close J rv q
  | .next, z => obtain ⟨σ', H', J, q⟩ := z; exact close (v := V.non) (u := Value.none) J rfl q
  | .brk, z => obtain ⟨_, _, _, q⟩ := z; exact q.elim
  | .cont, z => obtain ⟨_, _, _, q⟩ := z; exact q.elim

/-! ### the end of a law, its def shown where no repr is under way -/
theorem end_call {P : Program} {w : World} {K : PySem.W.Frag} {mg mb : Str → Option Value} {k : Nat} {fa a : Addr} {fd : FuncData} {x : Str} {sp : Sp} {s₁ : Shared} {vs : List Value} {ns : List Int}
    (inn : K.In s₁.heap) (gns : s₁.heap.Ns mainGlobals mg) (bns : s₁.heap.Ns builtinsNs mb) (bb : ∀ x : Str, x ≠ "__name__" → mb x = bootBuiltins x) (li : s₁.heap.NoLimit) (nog : s₁.gens = #[])
    (obj : s₁.heap.get? a = some { cls := .type "list", data := .seq vs.toArray }) (areI : IntsAre vs ns) (few : ns.length ≤ sizeLine) (hr : Room k callerA)
    (G : ∀ base : Heap, K.In base → base.Ns mainGlobals mg → FnG P w K mg base CX0 k fa fd [x] sp) (bind : ∀ (s : Shared) (u : Value), BindsTo s fd ⟨[u], []⟩ [(x, u)])
    (hsp : ∀ H : Hp, Only H → SqL K H a (ns.map V.int) → sp [.ref a] H (fun v _ => v = .bl true) E0) :
    codeAny (model P w) callerA (.call (.ref fa) ⟨[.ref a], []⟩) (fun r s' => r = .ok (.ret (.bool true)) ∧ OldK s₁.heap s'.heap ∧ s'.os = s₁.os ∧ AllBare s'.gens) s₁ := by
  have main : ∀ H : Hp, Only H → SqL K H a (ns.map V.int) → HOk P w H s₁.heap → (∀ b, H b ≠ none → b = a) → (H a ≠ none → K.lookup a = none) →
      codeAny (model P w) callerA (.call (.ref fa) ⟨[.ref a], []⟩) (fun r s' => r = .ok (.ret (.bool true)) ∧ OldK s₁.heap s'.heap ∧ s'.os = s₁.os ∧ AllBare s'.gens) s₁ := by
    intro H only hS hok alone apart
    have shown : ∀ {b : Addr} {o : Obj}, s₁.heap.get? b = some o → H b = none → (hidT s₁.heap H).get? b = some o := fun e n => hidT_get e n
    have dicts : ∀ {b : Addr} {o : Obj} {es : Array DictEntry} {ep : Nat}, s₁.heap.get? b = some o → o.data = .dict es ep → H b = none := by
      intro b o es ep e d
      by_cases z : H b = none
      · exact z
      · have eb := alone b z
        rw [eb, obj] at e
        cases e
        cases (show Data.seq vs.toArray _ = Data.dict es ep from d)
    have nsK : ∀ {b : Addr} {m : Str → Option Value}, s₁.heap.Ns b m → (hidT s₁.heap H).Ns b m := by
      rintro b m ⟨o, es, ep, e, d, r⟩
      exact ⟨o, es, ep, shown e (dicts e d), d, r⟩
    have inb : K.In (hidT s₁.heap H) := by
      intro b o e
      refine shown (inn b o e) ?_
      by_cases z : H b = none
      · exact z
      · have eb := alone b z
        subst eb
        rw [apart z] at e
        cases e
    have md : Mod K mg (hidT s₁.heap H) := by
      obtain ⟨mc, l1, l2⟩ := li
      exact ⟨inb, nsK gns, ⟨mb, nsK bns, bb⟩, ⟨mc, nsK l1, l2⟩⟩
    have ev : Env0 P w K mg (hidT s₁.heap H) callerA [] s₁ H :=
      ⟨rfl, md, fun b o e => of_hidT e, Nat.le_of_eq (hidT_size _ _), trivial, fun b hb => absurd (show b ∈ ([] : List Addr) from hb) (by simp), hok, .of_eq nog⟩
    refine codeAny_mono ((G _ inb (nsK gns)).goes callerA [] s₁ H ⟨[.ref a], []⟩ [.ref a] [.ref a] _ _ hr rfl ev (bind s₁ (.ref a)) (.cons rfl .nil) (hsp H only hS)) ?_
    rintro (err | fl) s' z
    · exact (show False from z).elim
    · cases fl
      case ret u =>
        obtain ⟨v, H', os, bare, un, hok', rv, qv⟩ := z
        have qv' : v = .bl true := qv
        subst qv'
        have eu : u = Value.bool true := rv
        subst eu
        refine ⟨rfl, OldK.of_keep ?_, os, bare⟩
        intro b o e
        cases c : H b with
        | none => exact un.keep b o e c (by intro z; exact absurd (show b ∈ ([] : List Addr) from z) (by simp)) (by simp)
        | some ob =>
          rcases only b with z | ⟨o2, xs, z⟩
          · rw [c] at z; cases z
          · obtain ⟨e1, _⟩ := hok b _ z
            obtain ⟨e2, _⟩ := hok' b _ (un.frzs b o2 _ z)
            rw [e] at e1; cases e1
            exact e2
      all_goals exact (show False from z).elim
  have rv := vals_ints areI
  have sz := areI.length
  cases c : K.lookup a with
  | some o =>
    have e := inn a o c
    rw [obj] at e
    cases e
    refine main (fun _ => none) (fun _ => .inl rfl) (.inr ⟨_, vs.toArray, _, c, rfl, rfl, rfl, ?_, ?_⟩) (fun b u z => ?_) (fun b z => absurd rfl z) (fun z => absurd rfl z)
    · rw [List.size_toArray, sz]; exact few
    · simpa using rv
    · cases (show (none : Option HO) = some u from z)
  | none =>
    let H : Hp := fun b => if b = a then some (.frz { cls := .type "list", data := .seq vs.toArray } (.lst (ns.map V.int))) else none
    have there : H a = some (.frz { cls := .type "list", data := .seq vs.toArray } (.lst (ns.map V.int))) := if_pos rfl
    have else_ : ∀ {b}, b ≠ a → H b = none := fun h => if_neg h
    refine main H (fun b => ?_) (.inl (.inr ⟨_, there⟩)) (fun b u z => ?_) (fun b z => ?_) (fun _ => c)
    · by_cases hb : b = a
      · subst hb; exact .inr ⟨_, _, there⟩
      · exact .inl (else_ hb)
    · by_cases hb : b = a
      · subst hb
        rw [there] at z
        cases z
        exact ⟨obj, by rw [List.length_map]; exact few, vs, _, rv, obj⟩
      · rw [else_ hb] at z; cases z
    · by_cases hb : b = a
      · exact hb
      · exact absurd (else_ hb) z
theorem walk_ofG {l : PySem.W.OpenLaw} {n k : Nat} {q : Program} {loose : List Str} {XP : (Str → Option Value) → Heap → Prop} {YP : World → Heap → Prop} {d : DefRec} {K : Params → PySem.W.Frag} {sp : PySem.W.Frag → Sp} {x : Str}
    (hn : l.most = some n) (hn2 : n ≤ sizeLine) (hdf : d.params.defaults = []) (hr : Room k callerA) (hY : ∀ (w : World) (h : Heap), YP w h → (K w.params).In h)
    (F : ∀ (w : World) (mg : Str → Option Value) (fa : Addr) (h : Heap), (K w.params).In h → h.Ns mainGlobals mg → mg d.name = some (.ref fa) →
      ∃ fd : FuncData, (∀ (s : Shared) (u : Value), BindsTo s fd ⟨[u], []⟩ [(x, u)]) ∧
        ∀ base : Heap, (K w.params).In base → base.Ns mainGlobals mg → FnG l.prog w (K w.params) mg base CX0 k fa fd [x] (sp (K w.params)))
    (hsp : ∀ (K : PySem.W.Frag) (H : Hp) (a : Addr) (ns : List Int), ns.length ≤ n → Only H → SqL K H a (ns.map V.int) → sp K [.ref a] H (fun v _ => v = .bl true) E0) :
    PySem.W.WalkO q loose XP YP l.row.toRowW d [] (fun f vs => PySem.call f vs) := by
  apply Att.attach_call hn hdf
  intro w s₀ s₁ mg mb fa o pm cd doc a vs ns G Y ho hd hcd hmg hobj hints hlen hg
  have inn := hY w _ Y
  obtain ⟨fd, hb, hF⟩ := F w mg fa _ inn G.T.g hmg
  exact end_call inn G.T.g G.T.b G.T.builtins G.T.nolimit hg hobj hints (Nat.le_trans hlen hn2) hr hF hb (fun H h1 h2 => hsp (K w.params) H a ns hlen h1 h2)
end Vz
set_option Elab.async false
set_option linter.all false
set_option maxRecDepth 100000
set_option maxHeartbeats 2000000
namespace Vz
open PySem PySem.Spec PyProof.Rows L2

/-! ### a whole number or a truth value, and a whole number -/
def numI : V → Option Int
  | .int i => some i
  | .bl b => some (if b = true then 1 else 0)
  | _ => none
def rNumI (g : Int → Int → Int) : R2 := fun x y H Q => ∃ i j, numI x = some i ∧ y = .int j ∧ Q (.int (g i j)) H
theorem op_addB {X : Cx} : OpR X (binaryOp .Add) (rNumI fun i j => i + j) := by
  intro pins s σ H x y v u Q I rx ry h
  obtain ⟨i, j, e, rfl, q⟩ := h
  obtain ⟨t, rfl⟩ := ry
  cases x <;> simp only [numI, Option.some.injEq, reduceCtorEq] at e
  case bl b =>
    subst e
    have ev : v = Value.bool b := rx
    subst ev
    exact PySem.IntBool.add_bool_int ⟨.int _, H, I.tok _, ⟨_, rfl⟩, q⟩
  case int k =>
    subst e
    obtain ⟨t', rfl⟩ := rx
    exact add_int ⟨.int _, H, I.tok _, ⟨_, rfl⟩, q⟩
theorem op_subB {X : Cx} : OpR X (binaryOp .Sub) (rNumI fun i j => i - j) := by
  intro pins s σ H x y v u Q I rx ry h
  obtain ⟨i, j, e, rfl, q⟩ := h
  obtain ⟨t, rfl⟩ := ry
  cases x <;> simp only [numI, Option.some.injEq, reduceCtorEq] at e
  case bl b =>
    subst e
    have ev : v = Value.bool b := rx
    subst ev
    exact PySem.IntBool.sub_bool_int ⟨.int _, H, I.tok _, ⟨_, rfl⟩, q⟩
  case int k =>
    subst e
    obtain ⟨t', rfl⟩ := rx
    exact sub_int ⟨.int _, H, I.tok _, ⟨_, rfl⟩, q⟩

/-! ### zip of a tuple and a list -/
def ItM (K : PySem.W.Frag) (a b : Addr) : It where
  go := fun i H => ∃ (xs ys : List V) (x y : V), SqT K H a xs ∧ SqL K H b ys ∧ xs[i]? = some x ∧ ys[i]? = some y
  yld := fun i H v H' => ∃ T x y, v = .ref T ∧ H T = none ∧ H' = upd H T (.tup [x, y]) ∧ (∀ xs, SqT K H a xs → xs[i]? = some x) ∧ ∀ ys, SqL K H b ys → ys[i]? = some y
  stop := fun i H => ∃ xs ys : List V, SqT K H a xs ∧ SqL K H b ys ∧ i = min xs.length ys.length
theorem walk_zipM {K : PySem.W.Frag} {a b : Addr} {xs ys : List V} {n : Nat} (hn : n = min xs.length ys.length) :
    Walk (ItM K a b) n (fun H => SqT K H a xs ∧ SqL K H b ys) (YPair (fun i => xs[i]?) (fun i => ys[i]?)) := by
  subst hn
  constructor
  · intro i H hi g
    exact ⟨xs, ys, xs[i]'(by omega), ys[i]'(by omega), g.1, g.2, by simp, by simp⟩
  · intro H g
    exact ⟨xs, ys, g.1, g.2, rfl⟩
  · rintro i H v H' hi g ⟨T, x, y, e, nT, eH, fx, fy⟩
    exact ⟨T, x, y, e, nT, eH, fx xs g.1, fy ys g.2⟩
def MSt (z TI TO i1 i2 a b : Addr) (i : Nat) (h : Heap) : Prop :=
  IsZip h z TI TO .none ∧ IsTupOf2 h TI (.ref i1) (.ref i2) ∧ (∃ c1 c2, IsTupOf2 h TO c1 c2) ∧ h.IsTupleIter i1 a i ∧ h.IsListIter i2 b i
theorem turn_zipM {P : Program} {w : World} {K : PySem.W.Frag} {elts : List Expr} {kk : Nat} {tpos : Pos} {a b z TI TO i1 i2 : Addr} (D : ZipSep2 z TI TO i1 i2 [i1, a] [i2, b]) (n1 : a ≠ i1) (n2 : b ≠ i2) :
    Turn P w K (.Tuple elts kk tpos) (ItM K a b) [z, TI, TO, i1, i2] z (MSt z TI TO i1 i2 a b) where
  mem := by simp
  obj := by
    rintro i h ⟨hz, hTI, ⟨c1, c2, hTO⟩, ⟨o1, e1, _, d1⟩, ⟨o2, e2, _, d2⟩⟩ c hc
    simp only [List.mem_cons, List.not_mem_nil, or_false] at hc
    rcases hc with rfl | rfl | rfl | rfl | rfl
    · exact ⟨_, hz, fun v q => nomatch q⟩
    · exact ⟨_, hTI, fun v q => nomatch q⟩
    · exact ⟨_, hTO, fun v q => nomatch q⟩
    · exact ⟨o1, e1, fun v q => by rw [d1] at q; cases q⟩
    · exact ⟨o2, e2, fun v q => by rw [d2] at q; cases q⟩
  keep := by
    rintro i h h' ⟨hz, hTI, ⟨c1, c2, hTO⟩, h1, h2⟩ k
    refine ⟨k z (by simp) _ hz, k TI (by simp) _ hTI, ⟨c1, c2, k TO (by simp) _ hTO⟩, ?_, ?_⟩
    · exact h1.at (fun o q => k i1 (by simp) o q)
    · exact h2.at (fun o q => k i2 (by simp) o q)
  item := by
    intro X hP hw hK calm i pins s σ H E I free st go
    subst hP hw hK
    obtain ⟨hz, hTI, hTO, h1, h2⟩ := st
    obtain ⟨xs, ys, x, y, gx, gy, ex, ey⟩ := go
    obtain ⟨its, rv, p, _⟩ := I.tuple gx
    obtain ⟨its2, rv2, p2, _⟩ := I.list gy
    have hh : X.A.in1.handled = none := I.ok.hd calm
    have dT := Draws.tuple (prog := X.prog) (w := X.w) (A := X.A.in1) hh i1 a n1 its.toArray
    have dL := Draws.list (prog := X.prog) (w := X.w) (A := X.A.in1) hh i2 b n2 its2.toArray
    have W := GoesN.zip2 (elts := elts) (x1 := kk) (pos := tpos) D dT dL
    have l1 := rv.length
    have l2 := rv2.length
    have m1 := (List.getElem?_eq_some_iff.mp ex).1
    have m2 := (List.getElem?_eq_some_iff.mp ey).1
    have hi : i < min its.toArray.size its2.toArray.size := by rw [List.size_toArray, List.size_toArray]; omega
    refine W.goes i s (fun v s2 => ∃ x H', Inv X pins σ H' s2 ∧ RelV x v ∧ (ItM X.K a b).yld i H x H' ∧ MSt z TI TO i1 i2 a b (i + 1) s2.heap ∧ ∀ b' ∈ [z, TI, TO, i1, i2], H' b' = none) E hi
      ⟨hz, hTI, hTO, ⟨h1, p⟩, ⟨h2, p2.isList⟩⟩ ?_
    rintro v h' tk ⟨T, u1, u2, rfl, nT, e1, e2, hT⟩ ⟨hz', hTI', hTO', ⟨h1', _⟩, ⟨h2', _⟩⟩ kp _
    obtain ⟨w1, hw1, rw1⟩ := rv.get ex
    obtain ⟨w2, hw2, rw2⟩ := rv2.get ey
    have q1 : u1 = w1 := by
      have z := e1
      simp only [List.getElem?_toArray] at z
      rw [hw1] at z
      exact (Option.some.inj z).symm
    have q2 : u2 = w2 := by
      have z := e2
      simp only [List.getElem?_toArray] at z
      rw [hw2] at z
      exact (Option.some.inj z).symm
    subst q1 q2
    have new : ObjOk X.prog X.w (upd H T (.tup [x, y])) h' T (.tup [x, y]) := ⟨by show 2 ≤ sizeLine; decide, [u1, u2], .cons rw1 (.cons rw2 .nil), hT⟩
    have I1 : Inv X pins σ (upd H T (.tup [x, y])) { s with heap := h', toks := tk } := by
      refine I.turnedNew (t' := tk) (ch := [z, TI, TO, i1, i2]) (fun c o hc q => kp c o (fun hm => hc ?_) q) free nT new
      simp only [List.mem_cons, List.not_mem_nil, or_false] at hm ⊢
      rcases hm with q | q | q | q <;> simp [q]
    refine ⟨.ref T, _, I1, rfl, ⟨T, x, y, rfl, I.hok.fresh nT, rfl, fun l hl => ?_, fun l hl => ?_⟩, ⟨hz', hTI', hTO', h1', h2'⟩, fun c hc => ?_⟩
    · rw [I.tuple_inj hl gx]; exact ex
    · rw [I.list_inj hl gy]; exact ey
    · have lt : c < s.heap.objs.size := by
        simp only [List.mem_cons, List.not_mem_nil, or_false] at hc
        rcases hc with rfl | rfl | rfl | rfl | rfl
        · exact Heap.lt_size hz
        · exact Heap.lt_size hTI
        · obtain ⟨_, _, q⟩ := hTO; exact Heap.lt_size q
        · obtain ⟨_, q, _⟩ := h1; exact Heap.lt_size q
        · obtain ⟨_, q, _⟩ := h2; exact Heap.lt_size q
      rw [upd_ne (Nat.ne_of_lt (Nat.lt_of_lt_of_le lt nT))]
      exact (free c hc).1
  done := by
    intro X hP hw hK calm i pins s σ H E I free st stop
    subst hP hw hK
    obtain ⟨hz, hTI, hTO, h1, h2⟩ := st
    obtain ⟨xs, ys, gx, gy, hi⟩ := stop
    obtain ⟨its, rv, p, _⟩ := I.tuple gx
    obtain ⟨its2, rv2, p2, _⟩ := I.list gy
    have hh : X.A.in1.handled = none := I.ok.hd calm
    have dT := Draws.tuple (prog := X.prog) (w := X.w) (A := X.A.in1) hh i1 a n1 its.toArray
    have dL := Draws.list (prog := X.prog) (w := X.w) (A := X.A.in1) hh i2 b n2 its2.toArray
    have W := GoesN.zip2 (elts := elts) (x1 := kk) (pos := tpos) D dT dL
    have l1 := rv.length
    have l2 := rv2.length
    have hi' : i = min its.toArray.size its2.toArray.size := by rw [List.size_toArray, List.size_toArray]; omega
    subst hi'
    refine W.stops s (fun s1 => Inv X pins σ H s1) E ⟨hz, hTI, hTO, ⟨h1, p⟩, ⟨h2, p2.isList⟩⟩ ?_
    intro h' tk kp _
    refine I.turnedL (t' := tk) (ch := [z, TI, TO, i1, i2]) (fun c o hc q => kp c o (fun hm => hc ?_) q) free
    simp only [List.mem_cons, List.not_mem_nil, or_false] at hm ⊢
    rcases hm with q | q | q | q <;> simp [q]
  self := fun A i s Q E st h => wpAny_pyIter_zip st.1 h

def iZipM (K : PySem.W.Frag) (ta : TA) : TI := fun σ H R => ta σ H fun vs H1 => ∃ (a b : Addr) (xs ys : List V), vs = [.ref a, .ref b] ∧ SqT K H1 a xs ∧ SqL K H1 b ys ∧ R (ItM K a b) H1
theorem pi_zipM {X : Cx} {e e2 : Expr} {ta : TA} {p pos tpos : Pos} {elts : List Expr} {kk : Nat} (gl : Gl X "zip") (no : X.mg "zip" = none) (pa : PA X [e, e2] ta)
    (st : starEach [e, e2] X.env = (false, eval e X.env) :: starEach [e2] X.env := by rfl) (pl : (backTo pos (starEach [e2] X.env)).any (·.1) = false := by rfl) :
    PI X (.Tuple elts kk tpos) (.Call (.Name "zip" p) [e, e2] [] pos) (iZipM X.K ta) := by
  constructor
  intro pins s σ H R I h
  refine Call_ (ld_blt I gl no PyProof.Rows.boot_zip (PyProof.Rows.callWith_type1 (thn (pa.run pos pins s σ H _ I h) ?_) st pl))
  rintro us s1 ⟨vs, H1, I1, r1, a, b, xs, ys, ev, gx, gy, q⟩
  subst ev
  obtain ⟨v1, v2, rfl, ra, rb⟩ := vals2 r1
  have e1 : v1 = Value.ref a := ra
  have e2' : v2 = Value.ref b := rb
  subst e1 e2'
  obtain ⟨its, rv, p1, _⟩ := I1.tuple gx
  obtain ⟨its2, rv2, p2, _⟩ := I1.list gy
  have la : a < s1.heap.objs.size := by obtain ⟨o, ho, _⟩ := p1; exact Heap.lt_size ho
  have lb : b < s1.heap.objs.size := p2.lt
  refine zip_begins2 (begins_tuple a its.toArray) (begins_list b its2.toArray) p1 p2.isList ?_
  intro h' hz hTI hTO h1 h2 hsz kp
  refine wpAny_pyIter_zip hz ?_
  have I2 : Inv X pins σ H1 { s1 with heap := h' } := I1.kept (t' := s1.toks) kp
  have sep := zip_sep2 (N := s1.heap.objs.size) (fp1 := [a]) (fp2 := [b]) (fun c hc => by rw [List.mem_singleton] at hc; rw [hc]; exact la) (fun c hc => by rw [List.mem_singleton] at hc; rw [hc]; exact lb)
  refine ⟨_, _, _, _, H1, rfl, I2, turn_zipM sep (Nat.ne_of_lt la) (Nat.ne_of_lt (Nat.lt_succ_of_lt lb)), ?_, ?_, q⟩
  · exact ⟨hz, hTI, ⟨_, _, hTO⟩, ⟨_, h1, rfl, rfl⟩, ⟨_, h2, rfl, rfl⟩⟩
  · intro c hc
    have ge : s1.heap.objs.size ≤ c := by
      simp only [List.mem_cons, List.not_mem_nil, or_false] at hc
      rcases hc with rfl | rfl | rfl | rfl | rfl
      · exact Nat.le_add_right _ _
      · exact Nat.le_add_right _ _
      · exact Nat.le_add_right _ _
      · exact Nat.le_refl _
      · exact Nat.le_add_right _ _
    exact I1.fpOk ge (I1.hok.fresh ge)

/-! ### a call by a keyword alone -/
section
variable {X : Cx} {CX : CXT} {k : Nat} {f : Addr} {fd : FuncData} {ps ks : List Str} {sp : Sp} {E : XK} {g : List Value → List Value → List Value} {gV : List V → List V → List V}
theorem pe_callK0 {x : Str} {p pos : Pos} {kws : List Keyword} {tk : TA} (F : FnOk X.prog X.w X.K X.mg X.base CX k f fd ps sp) (hr : Room k X.A) (gl : Gl X x) (at_ : X.mg x = some (.ref f))
    (kp : PySem.W.keepIn X.K (.ref f) = true) (bd : KBinds X.K fd ps ks g gV) (pas : Passes CX X E) (pk : PK X kws tk)
    (al : (backToKw pos (keywordEach kws X.env)).all (·.1.isSome) = true := by rfl) (nm : (backToKw pos (keywordEach kws X.env)).filterMap (·.1) = ks := by rfl)
    (nodb : (x == ("__debug__" : Str)) = false := by decide)
    (pl : ((backTo pos (starEach [] X.env)).any (·.1) || (backToKw pos (keywordEach kws X.env)).any (·.1.isNone)) = false := by rfl) :
    PE X (.Call (.Name x p) [] kws pos) (tCallK sp gV E tNil tk) := by
  constructor
  intro pins s σ H Q I h
  apply wpAny_Call_Name_kw
  refine ld_glob I gl at_ ?_ nodb
  refine PySem.W.callWith_KW0 (h₀ := X.base) I.ok.mod.kin kp al (thn (pk.run pos pins s σ H _ I h) ?_) pl
  rintro ws s2 ⟨zs, H2, I2, rz, q2⟩
  refine ⟨I2.kIn, ?_⟩
  rw [nm]
  exact run_fnk F hr bd pas I2 .nil rz q2
end
end Vz
namespace Ma
/-- days before a year -/
def days (y : Int) : Int := 365 * (y - 1) + (y - 1) / 4 - (y - 1) / 128
/-- the year of a day -/
def yearOf (d : Int) : Int := 128 * (d / 46751) + 4 * (d % 46751 / 1461) + (if 3 < d % 46751 % 1461 / 365 then 3 else d % 46751 % 1461 / 365) + 1
def begins (y : Int) : Int := days y * 86400 + (y - 1) / 40
def leapY (y : Int) : Bool := decide (y % 4 = 0) && decide (y % 128 ≠ 0)
def dim (y m : Int) : Int := if m < 13 then 28 else if leapY y then 30 else 29
/-- seconds before a date, without leap seconds -/
def plain (y mo d h mi s z : Int) : Int := 86400 * (days y + 28 * (mo - 1) + d - 1) + 3600 * h + 60 * (mi - z) + s
def within (i lo hi : Int) : Bool := decide (lo ≤ i) && decide (i ≤ hi)
def fits (y mo d h mi s z : Int) : Bool :=
  within y 1 9999 && within mo 1 13 && within d 1 (dim y mo) && within z (-840) 840 && within h 0 23 && within mi 0 59 && within s 0 60
def isLeap (b : Int) : Bool := decide (yearOf (b / 86400) % 40 = 0) && decide (b + 1 = 86400 * days (yearOf (b / 86400) + 1))
def before (y mo d h mi s z : Int) : Int := plain y mo d h mi (if 59 < s then 59 else s) z
def isDate (y mo d h mi s z : Int) : Bool :=
  fits y mo d h mi s z && (decide (0 ≤ before y mo d h mi s z) && decide (before y mo d h mi s z < 86400 * days 10000)) && (decide (s < 60) || isLeap (before y mo d h mi s z))

theorem days_step (y : Int) : days y + 365 ≤ days (y + 1) := by unfold days; omega
theorem days_step2 (y : Int) : days (y + 1) ≤ days y + 366 := by unfold days; omega
theorem days_mono {x y : Int} (h : x < y) : days x < days y := by
  have key : ∀ n : Nat, days x + 365 * ((n : Int) + 1) ≤ days (x + 1 + n) := by
    intro n
    induction n with
    | zero => have := days_step x; simp; omega
    | succ n ih =>
      have := days_step (x + 1 + n)
      have e : x + 1 + ((n + 1 : Nat) : Int) = x + 1 + (n : Int) + 1 := by omega
      rw [e]
      have e2 : ((n + 1 : Nat) : Int) = (n : Int) + 1 := by omega
      rw [e2]; omega
  obtain ⟨n, hn⟩ : ∃ n : Nat, y = x + 1 + n := ⟨(y - x - 1).toNat, by omega⟩
  have := key n
  rw [hn]; omega
theorem days_le {x y : Int} (h : x ≤ y) : days x ≤ days y := by
  by_cases e : x = y
  · rw [e]; exact Int.le_refl _
  · have := days_mono (x := x) (y := y) (by omega); omega
theorem days_lt_iff {x y : Int} : days x < days y ↔ x < y := by
  constructor
  · intro h
    by_cases c : x < y
    · exact c
    · have := days_le (x := y) (y := x) (by omega); omega
  · exact days_mono
theorem year_spec (d : Int) : days (yearOf d) ≤ d ∧ d < days (yearOf d + 1) := by
  have key : ∀ R F m e : Int, 0 ≤ F → F ≤ 31 → 0 ≤ m → m ≤ 3 → 365 * m ≤ e → (m < 3 → e < 365 * m + 365) → e ≤ 1460 → 1461 * F + e ≤ 46750 →
      days (128 * R + 4 * F + m + 1) ≤ 46751 * R + 1461 * F + e ∧ 46751 * R + 1461 * F + e < days (128 * R + 4 * F + m + 1 + 1) := by
    intro R F m e h1 h2 h3 h4 h5 h6 h7 h8
    have a1 : (128 * R + 4 * F + m + 1 - 1) / 4 = 32 * R + F := by omega
    have a2 : (128 * R + 4 * F + m + 1 - 1) / 128 = R := by omega
    have hm : m = 0 ∨ m = 1 ∨ m = 2 ∨ m = 3 := by omega
    unfold days
    rw [a1, a2]
    rcases hm with rfl | rfl | rfl | rfl
    · have b1 : (128 * R + 4 * F + 0 + 1 + 1 - 1) / 4 = 32 * R + F := by omega
      have b2 : (128 * R + 4 * F + 0 + 1 + 1 - 1) / 128 = R := by omega
      rw [b1, b2]; omega
    · have b1 : (128 * R + 4 * F + 1 + 1 + 1 - 1) / 4 = 32 * R + F := by omega
      have b2 : (128 * R + 4 * F + 1 + 1 + 1 - 1) / 128 = R := by omega
      rw [b1, b2]; omega
    · have b1 : (128 * R + 4 * F + 2 + 1 + 1 - 1) / 4 = 32 * R + F := by omega
      have b2 : (128 * R + 4 * F + 2 + 1 + 1 - 1) / 128 = R := by omega
      rw [b1, b2]; omega
    · have b1 : (128 * R + 4 * F + 3 + 1 + 1 - 1) / 4 = 32 * R + F + 1 := by omega
      by_cases c : F = 31
      · subst c
        have b2 : (128 * R + 4 * 31 + 3 + 1 + 1 - 1) / 128 = R + 1 := by omega
        rw [b1, b2]; omega
      · have b2 : (128 * R + 4 * F + 3 + 1 + 1 - 1) / 128 = R := by omega
        rw [b1, b2]; omega
  have e0 : d = 46751 * (d / 46751) + 1461 * (d % 46751 / 1461) + d % 46751 % 1461 := by omega
  have r1 : 0 ≤ d % 46751 := by omega
  have r2 : d % 46751 ≤ 46750 := by omega
  have q1 : 0 ≤ d % 46751 % 1461 := by omega
  have q2 : d % 46751 % 1461 ≤ 1460 := by omega
  have f1 : 0 ≤ d % 46751 / 1461 := by omega
  have f2 : d % 46751 / 1461 ≤ 31 := by omega
  have f3 : 1461 * (d % 46751 / 1461) + d % 46751 % 1461 ≤ 46750 := by omega
  unfold yearOf
  split
  · have := key (d / 46751) (d % 46751 / 1461) 3 (d % 46751 % 1461) f1 f2 (by omega) (by omega) (by omega) (by omega) q2 f3
    rw [← e0] at this
    exact this
  · have := key (d / 46751) (d % 46751 / 1461) (d % 46751 % 1461 / 365) (d % 46751 % 1461) f1 f2 (by omega) (by omega) (by omega) (by omega) q2 f3
    rw [← e0] at this
    exact this
theorem year_uniq {d y : Int} (h1 : days y ≤ d) (h2 : d < days (y + 1)) : y = yearOf d := by
  obtain ⟨a, b⟩ := year_spec d
  have l1 : days y < days (yearOf d + 1) := by omega
  have l2 : days (yearOf d) < days (y + 1) := by omega
  rw [days_lt_iff] at l1 l2
  omega
theorem days_366 {n : Int} (h : 0 ≤ n) : days (n + 1) ≤ 366 * n := by unfold days; omega
theorem days_one : days 1 = 0 := rfl
theorem begins_step (y : Int) : begins y + 1 ≤ begins (y + 1) := by unfold begins days; omega

/-- what the law's own reading of a date tells: the leap second's way and the other one -/
theorem leap_way {y mo d h mi z : Int} (f : fits y mo d h mi 60 z = true) {a : Int} (ha : ∀ k, plain y mo d h mi 60 z / 31622400 ≤ k → k < a → days (k + 1) * 86400 < plain y mo d h mi 60 z)
    (h0 : plain y mo d h mi 60 z / 31622400 ≤ a) (hb : ¬ days (a + 1) * 86400 < plain y mo d h mi 60 z) :
    isDate y mo d h mi 60 z = (decide (0 < a) && decide (a % 40 = 0) && decide (days (a + 1) * 86400 = plain y mo d h mi 60 z)) := by
  have eb : before y mo d h mi 60 z = plain y mo d h mi 60 z - 1 := by unfold before plain; simp; omega
  generalize hp : plain y mo d h mi 60 z = p at *
  unfold isDate
  rw [f, eb]
  simp only [Bool.true_and]
  have s60 : decide ((60 : Int) < 60) = false := by decide
  rw [s60, Bool.false_or]
  unfold isLeap
  obtain ⟨ys1, ys2⟩ := year_spec ((p - 1) / 86400)
  generalize hY : yearOf ((p - 1) / 86400) = Y at *
  -- bound of p
  have fp : p ≤ 86400 * days 10000 + 60 * 840 + 60 := by
    unfold fits within at f
    simp only [Bool.and_eq_true, decide_eq_true_eq] at f
    obtain ⟨⟨⟨⟨⟨⟨⟨y1, y2⟩, m1, m2⟩, d1, d2⟩, z1, z2⟩, h1, h2⟩, i1, i2⟩, _⟩ := f
    have hd : days y + 28 * (mo - 1) + d - 1 ≤ days (y + 1) - 1 := by
      have : 28 * (mo - 1) + d ≤ days (y + 1) - days y := by
        unfold dim leapY at d2
        unfold days
        split at d2
        · omega
        · split at d2
          · rename_i _ hh; simp only [Bool.and_eq_true, decide_eq_true_eq] at hh; omega
          · omega
      omega
    have h10 := days_le (x := y + 1) (y := 10000) (by omega)
    rw [← hp]; unfold plain
    omega
  rw [Bool.eq_iff_iff]
  simp only [Bool.and_eq_true, decide_eq_true_eq]
  constructor
  · rintro ⟨⟨b1, b2⟩, l1, l2⟩
    have hYp : 0 < Y := by
      have : days 1 < days (Y + 1) := by rw [days_one]; omega
      rw [days_lt_iff] at this; omega
    have ep : p = 86400 * days (Y + 1) := by omega
    have le : p / 31622400 ≤ Y := by have := days_366 (n := Y) (by omega); omega
    have ea : a = Y := by
      by_cases c1 : a < Y
      · have := days_mono (x := a + 1) (y := Y + 1) (by omega); omega
      · by_cases c2 : Y < a
        · have := ha Y le c2; omega
        · omega
    subst ea
    exact ⟨⟨hYp, l1⟩, by omega⟩
  · rintro ⟨⟨a1, a2⟩, a3⟩
    have d1 := days_mono (x := a) (y := a + 1) (by omega)
    have eY : a = Y := by
      rw [← hY]; exact year_uniq (by omega) (by omega)
    subst eY
    have pos : days 1 < days (a + 1) := days_mono (by omega)
    rw [days_one] at pos
    have lt : a + 1 ≤ 10000 := by
      by_cases c : a + 1 ≤ 10000
      · exact c
      · have q1 := days_le (x := 10001) (y := a + 1) (by omega)
        have q2 : days 10001 = 3652422 := by decide
        have q3 : days 10000 = 3652056 := by decide
        omega
    have := days_le lt
    exact ⟨⟨by omega, by omega⟩, a2, by omega⟩
theorem plain_way {y mo d h mi s z : Int} (hs : ¬ s = 60) (f : fits y mo d h mi s z = true) {a : Int} (h0 : plain y mo d h mi s z / 31622400 + 1 ≤ a)
    (ha : ∀ k, plain y mo d h mi s z / 31622400 + 1 ≤ k → k < a → days (k + 1) * 86400 ≤ plain y mo d h mi s z) (hb : ¬ days (a + 1) * 86400 ≤ plain y mo d h mi s z) :
    isDate y mo d h mi s z = (decide (0 ≤ plain y mo d h mi s z) && decide (a < 10000)) := by
  have hs59 : s ≤ 59 := by
    unfold fits within at f
    simp only [Bool.and_eq_true, decide_eq_true_eq] at f
    omega
  have eb : before y mo d h mi s z = plain y mo d h mi s z := by unfold before; rw [if_neg (by omega)]
  unfold isDate
  rw [f, eb]
  generalize plain y mo d h mi s z = p at *
  rw [show decide (s < 60) = true by simp; omega]
  simp only [Bool.true_and, Bool.true_or, Bool.and_true]
  rw [Bool.eq_iff_iff]
  simp only [Bool.and_eq_true, decide_eq_true_eq]
  constructor
  · rintro ⟨p0, p1⟩
    refine ⟨p0, ?_⟩
    by_cases c : a < 10000
    · exact c
    · by_cases st : p / 31622400 + 1 ≤ 9999
      · have := ha 9999 st (by omega)
        have e1 : (9999 : Int) + 1 = 10000 := by decide
        rw [e1] at this
        omega
      · have e2 : days 10000 = 3652056 := by decide
        omega
  · rintro ⟨p0, p1⟩
    refine ⟨p0, ?_⟩
    have := days_le (x := a + 1) (y := 10000) (by omega)
    omega
end Ma
set_option Elab.async false
set_option linter.all false
set_option maxRecDepth 100000
set_option maxHeartbeats 2000000
namespace Vz
open PySem PySem.Spec PyProof.Rows L2
/-! ### an error of the text with one field -/
def sp_init (C : Addr) (f : Str) : Sp := fun vs H Q _ => ∃ (a : Addr) (v : V), vs = [.ref a, v] ∧ H a = some (exo a C none) ∧
  ∀ dx, H dx = none → dx ≠ a → Q .non (upd (upd H dx (exd dx [(f, v)])) a (exo a C (some dx)))
/-- X(v): what is to be shown is the way out, at the error's own new dict -/
theorem made_end {C : Addr} {f : Str} {v : V} {H : Hp} {Q : XK} (q : ∀ d, H d = none → Q (.ref C) (some d) (upd H d (.xd [(f, v)]))) :
    [v].length ≤ 1000 ∧ ∀ a, H a = none → sp_init C f (.ref a :: ([v] ++ [])) (upd H a (exo a C none))
      (fun z H2 => z = .non ∧ ∃ (d : Addr) (fs : List (Str × V)), H2 a = some (exo a C (some d)) ∧ H2 d = some (exd d fs) ∧ H d = none ∧ Q (.ref C) (some d) (upd (del H2 a) d (.xd fs))) (fun _ _ _ => False) := by
  refine ⟨by show 1 ≤ 1000; decide, fun a na => ⟨a, v, rfl, upd_same, fun dx ndx ne => ⟨rfl, dx, [(f, v)], upd_same, ?_, ?_, ?_⟩⟩⟩
  · rw [upd_ne ne, upd_same]
  · rw [upd_ne ne] at ndx; exact ndx
  · have hd : H dx = none := by rw [upd_ne ne] at ndx; exact ndx
    have e : upd (del (upd (upd (upd H a (exo a C none)) dx (exd dx [(f, v)])) a (exo a C (some dx))) a) dx (.xd [(f, v)]) = upd H dx (.xd [(f, v)]) := by
      funext b
      by_cases h1 : b = dx
      · subst h1; rw [upd_same, upd_same]
      · rw [upd_ne h1, upd_ne h1]
        by_cases h2 : b = a
        · subst h2; rw [del_same, na]
        · rw [del_ne h2, upd_ne h2, upd_ne h1, upd_ne h2]
    rw [e]
    exact q dx hd
theorem repr_bool {X : Cx} : CallR X (.builtin "repr") (fun xs H Q => ∃ b : Bool, xs = [.bl b] ∧ Q (.str (if b then "True" else "False")) H) := by
  intro pins s σ H xs us Q I r h
  obtain ⟨b, rfl, q⟩ := h
  obtain ⟨u, rfl, ru⟩ := vals1 r
  have eu : u = Value.bool b := ru
  subst eu
  exact PySem.P.repr_of_bool ⟨.str _, H, I.tok _, ⟨_, rfl⟩, q⟩
end Vz
set_option Elab.async false
set_option linter.all false
set_option maxRecDepth 100000
set_option maxHeartbeats 4000000
/-! An exception that an except clause names and the program keeps: it is tracked behind the clause. -/
namespace Vz
open PySem PySem.Spec PyProof.Rows L2
/-- an exception of the class cls, its own dict d, at a -/
def exq (a : Addr) (cls : Value) (d : Option Addr) : HO := .ext fun h => ∃ (oe : Obj) (vs : Array Value), h.get? a = some oe ∧ Zc cls d oe ∧ oe.data = .fields vs
theorem exq_ok {P : Program} {w : World} {H : Hp} {h : Heap} {a : Addr} {cls : Value} {d : Option Addr} {oe : Obj} {vs : Array Value} (e : h.get? a = some oe) (z : Zc cls d oe) (f : oe.data = .fields vs) : ObjOk P w H h a (exq a cls d) := by
  refine ⟨⟨oe, vs, e, z, f⟩, ⟨oe, e⟩, ?_⟩
  rintro h1 h2 ⟨o, v, e1, z1, f1⟩ k
  exact ⟨o, v, k _ e1, z1, f1⟩
theorem exq_at {P : Program} {w : World} {H : Hp} {h : Heap} {a : Addr} {cls : Value} {d : Option Addr} (hok : HOk P w H h) (e : H a = some (exq a cls d)) : ∃ (oe : Obj) (vs : Array Value), h.get? a = some oe ∧ Zc cls d oe ∧ oe.data = .fields vs := by
  have x : ObjOk P w H h a (exq a cls d) := hok a _ e
  exact x.1
/-- the wish of a clause «except x as n» whose exception is tracked -/
def wTrk (K : PySem.W.Frag) (c : Value) (i : Nat) (ts : Addr → Value → Option Addr → TS) (Wout : WX) (D : Ends) : WX := fun cls d σ H =>
  ∃ b, PySem.W.exmOne K cls c = some b ∧
    (b = true → ∀ a, H a = none → ts a cls d { nx := fun σ' H' => D.nx (σ'.set i none) H', rt := D.rt, bk := fun σ' H' => D.bk (σ'.set i none) H', ct := fun σ' H' => D.ct (σ'.set i none) H' } (σ.set i (some (.ref a))) (upd H a (exq a cls d))) ∧
    (b = false → Wout cls d σ H)
section
variable {X : Cx} {pins : List (Addr × Obj)} {σ : L2.St} {H : Hp} {s : Shared}
theorem into (I : Inv X pins σ H s) (a : Addr) : Inv (X.suite a (X.pn ++ pins)) [] σ H s :=
  { ok := I.ok.suite _ _, os := I.os, bare := I.bare, base := I.base, loc := I.loc, cell := I.cell, free := I.free, freeC := I.freeC, hok := I.hok, len := I.len,
    pin := fun p hp => I.pin p (by rw [List.append_nil] at hp; exact hp) }
theorem outof {a : Addr} {pn' : List (Addr × Obj)} (I : Inv (X.suite a (X.pn ++ pins)) pn' σ H s) (ok : X.Ok) : Inv X pins σ H s :=
  { ok := ok, os := I.os, bare := I.bare, base := I.base, loc := I.loc, cell := I.cell, free := I.free, freeC := I.freeC, hok := I.hok, len := I.len,
    pin := fun p hp => I.pin p (List.mem_append_left _ hp) }
/-- a caught exception is tracked -/
theorem track {B : Heap} {s' : Shared} {a : Addr} {cls : Value} {d : Option Addr} {oe : Obj} {vs : Array Value} (J : Inv X pins σ H s) (nb : ∀ b o, s.heap.get? b = some o → b ∉ frs X.stack → B.get? b = some o) (na : H a = none) (nfr : a ∉ frs X.stack)
    (Ba : B.get? a = none) (st : B.StaysIn s'.heap) (up : s.heap.UpToSlots s'.heap) (os : s'.os = s.os) (ag : AllBare s'.gens) (he : s'.heap.get? a = some oe) (hz : Zc cls d oe) (hd : oe.data = .fields vs) :
    Inv X pins σ (upd H a (exq a cls d)) s' := by
  obtain ⟨G, g1, g2⟩ := restrict s'.heap (fun b => decide (b ≠ a))
  have keep : ∀ b, b ≠ a → G.get? b = s'.heap.get? b := fun b hb => g1 b (decide_eq_true hb)
  have gone : G.get? a = none := g2 a (by simp)
  have sa : s.heap.get? a = none := by
    cases c : s.heap.get? a with
    | none => rfl
    | some o => rw [nb a o c nfr] at Ba; cases Ba
  obtain ⟨hp, gg, dd, tt, oo⟩ := s'
  have stG : B.StaysIn G := fun b o e => by
    have nba : b ≠ a := fun z => by rw [z, Ba] at e; cases e
    rw [keep b nba]
    exact st b o e
  have upG : s.heap.UpToSlots G := fun b o e nf => by
    have nba : b ≠ a := fun z => by rw [z, sa] at e; cases e
    obtain ⟨sl, q⟩ := up b o e nf
    exact ⟨sl, (keep b nba).trans q⟩
  have JG : Inv X pins σ H ⟨G, gg, dd, tt, oo⟩ := J.landed nb stG upG os ag
  refine Inv.laidN (t' := tt) (h' := hp) JG (fun b o e => ?_) gone na (exq_ok he hz hd)
  have nba : b ≠ a := fun z => by
    have e' : G.get? b = some o := e
    rw [z, gone] at e'
    cases e'
  exact (keep b nba).symm.trans e
end
section
variable {X : Cx} {x n : Str} {c : Value} {i : Nat} {body suite : List Stmt} {b₀ : Stmt} {np pos pos' : Pos} {tb : WX → TS} {ts : Addr → Value → Option Addr → TS} {Wout : WX}
theorem ps_try_trk (hs : X.stack = X.env :: X.outer) (hf : X.env.frame = some X.env.locals) (hN : X.N.Nodup) (hi : X.N[i]? = some n) (hln : X.env.kindOf n = some .local) (hc : Names X x c) (tk : Takes X Wout)
    (hb : ∀ (W : WX) (pn : List (Addr × Obj)) (xe : Value → Shared → Prop), Takes (X.tr pn xe) W → PassesOwn (model X.prog X.w) X.A X.env xe → PSs (X.tr pn xe) body (tb W))
    (hsu : ∀ (a : Addr) (cls : Value) (d : Option Addr) (pn : List (Addr × Obj)), PSs (X.suite a pn) (b₀ :: suite) (ts a cls d)) :
    PS X (.Try body [.ExceptHandler (some (.Name x np)) (some n) (b₀ :: suite) pos'] [] [] pos) (fun D σ H => tb (wTrk X.K c i ts Wout D) D σ H) := by
  constructor
  intro pins s σ H D I h
  have good := I.ok
  have fr : X.A.frames = some (X.env :: X.outer) := by rw [good.frames, hs]
  apply wpAny_Try_except
  refine wpAny_mono ((hb (wTrk X.K c i ts Wout D) (X.pn ++ pins) (fun e t1 => wpAny (model X.prog X.w) X.A (noteFrame e X.env) (fun _ t2 => wpAny (model X.prog X.w) X.A (setFlight e none)
    (fun _ t3 => wpAny (model X.prog X.w) X.A (handleBy e X.env [.ExceptHandler (some (.Name x np)) (some n) (b₀ :: suite) pos']) (SP X pins D) X.xe t3) X.xe t2) X.xe t1) ?air PassesOwn.looking).run [] s σ H D (I.toTry _) h) ?calm (fun _ _ z => z)
  case calm =>
    intro f s1 z
    match f, z with
    | .next, z => obtain ⟨σ', H', J, q⟩ := z; exact wpAny_execs_nil ⟨σ', H', J.ofTry good, q⟩
    | .brk, z => obtain ⟨σ', H', J, q⟩ := z; exact ⟨σ', H', J.ofTry good, q⟩
    | .cont, z => obtain ⟨σ', H', J, q⟩ := z; exact ⟨σ', H', J.ofTry good, q⟩
    | .ret u, z => obtain ⟨v, σ', H', J, r, q⟩ := z; exact ⟨v, σ', H', J.ofTry good, r, q⟩
  case air =>
    rintro u s' ⟨a, B, sI, pins', σ', H', cls, d, rfl, J0, nb, up, sky, na, os, ag, b, hb1, yes, no⟩
    have J : Inv X pins σ' H' sI := J0.ofTry good
    have sky1 : Sky B (X.env :: X.outer) a (Zc cls d) X.env.locals s'.heap := by rw [← hs]; exact sky
    show wpAny (model X.prog X.w) X.A (noteFrame (.ref a) X.env) _ _ _
    refine Sky.land Zc.steady fr hf sky1 ?_
    intro h3 fl3 up3
    have J3 : Inv X pins σ' H' { s' with heap := h3 } := J.landed nb fl3.1 (up.trans up3) os ag
    obtain ⟨oe3, vs3, he3, hz3, hd3⟩ := fl3.there
    have nfr : a ∉ frs (X.env :: X.outer) := by
      intro hm
      obtain ⟨_, o', e', hnf⟩ := fl3.2.2.1.mem hm
      rw [he3] at e'
      cases e'
      exact hnf _ hd3
    have nst : a ∉ frs X.stack := by rw [hs]; exact nfr
    have LT : PySem.W.Looks (model X.prog X.w) h3 (typeOf (.ref a)) cls := fun A Q E s k q => wpAny_typeOf_ref (k _ _ he3) (by rw [hz3.1]; exact q)
    have LM := PySem.W.exm_one (M := model X.prog X.w) J3.kIn LT hb1
    have test : ∀ {Q : Value → Shared → Prop} {E : Value → Shared → Prop}, Q c { s' with heap := h3 } → wpAny (model X.prog X.w) (X.A.mark (some (.ref a))) (eval (.Name x np) X.env) Q E { s' with heap := h3 } := by
      intro Q E q
      obtain ⟨gl, nodb, hm | ⟨hm, hv, hnn⟩⟩ := hc
      · exact ld_glob (X := X.suite a (X.pn ++ pins)) (into J3 a) gl hm q nodb
      · exact ld_blt (X := X.suite a (X.pn ++ pins)) (into J3 a) gl hm hv q hnn nodb
    refine wpAny_handleBy_cons (codeAny_handlers_test ?_) (by intro q; cases q)
    refine test (LM.here ?_)
    cases b with
    | true =>
      apply codeAny_handlers_suite_as
      refine HandSPX.lands_againZ fl3 ?_
      intro h4 fl4 up4
      obtain ⟨oe4, vs4, he4, hz4, hd4⟩ := fl4.there
      have JT : Inv X pins σ' (upd H' a (exq a cls d)) { s' with heap := h4 } := track J nb na nst fl4.2.1 fl4.1 ((up.trans up3).trans up4) os ag he4 hz4 hd4
      refine store_ok (X := X.suite a (X.pn ++ pins)) (v := .ref a) (into JT a) hN hi (.inl hln) rfl (fun s5 S5 => ?_) (.inr hln)
      have fin : ∀ {σ6 : L2.St} {H6 : Hp} {s6 : Shared} {Q : Shared → Prop}, Inv (X.suite a (X.pn ++ pins)) [] σ6 H6 s6 → (∀ s7, Inv X pins (σ6.set i none) H6 s7 → Q s7) →
          wpAny (model X.prog X.w) X.A (do bindName X.env n .none; unbindBehindTheSuite X.env n pos') (fun _ s7 => Q s7) X.xe s6 := by
        intro σ6 H6 s6 Q S6 hq
        exact gone_ok (outof S6 good) hN hi hln hq
      refine wpAny_mono ((hsu a cls d (X.pn ++ pins)).run [] s5 _ _ _ S5 (yes rfl a na)) ?_ (fun _ _ z => z.elim)
      intro f s6 z
      match f, z with
      | .next, z => obtain ⟨σ6, H6, S6, q⟩ := z; exact fin S6 fun s7 J7 => ⟨_, _, J7, q⟩
      | .brk, z => obtain ⟨σ6, H6, S6, q⟩ := z; exact fin S6 fun s7 J7 => ⟨_, _, J7, q⟩
      | .cont, z => obtain ⟨σ6, H6, S6, q⟩ := z; exact fin S6 fun s7 J7 => ⟨_, _, J7, q⟩
      | .ret u, z => obtain ⟨v6, σ6, H6, S6, r6, q⟩ := z; exact fin S6 fun s7 J7 => ⟨_, _, _, J7, r6, q⟩
    | false =>
      show wpAny _ X.A (handleBy (.ref a) X.env []) _ _ _
      apply wpAny_handleBy_nil
      obtain ⟨k1, k2, k3, oe, vs, Tb, oT, tvs, he, hz, hd, h1, hr⟩ := id fl3
      unfold PySem.passOn
      refine wpAny_bind (wpAny_field he hd h1 ?_)
      rw [if_neg (show ¬ ((Value.ref Tb == Value.none) = true) from by simp)]
      have goes : wpAny (model X.prog X.w) X.A (setFlight (.ref a) X.env.frame) (fun _ s4 => wpAny (model X.prog X.w) X.A (throw (.ref a) : Sem Flow) (SP X pins D) X.xe s4) X.xe { s' with heap := h3 } := by
        rw [hf]
        refine HandSPX.setFlight_upZ fl3 ?_
        intro h4 hh4 up4
        refine wpAny_throw (tk _ _ ?_)
        exact ⟨a, B, sI, pins, σ', H', cls, d, rfl, J, nb, (up.trans up3).trans up4, .inr (.inr (by rw [hs]; exact hh4)), na, os, ag, no rfl⟩
      first
        | exact wpAny_bind (wpAny_pure (wpAny_bind goes))
        | exact wpAny_bind goes
end
end Vz
set_option Elab.async false
set_option linter.all false
set_option maxRecDepth 100000
set_option maxHeartbeats 4000000
/-! What a caught exception that is kept is asked behind its clause; a call within try. -/
namespace Vz
open PySem PySem.Spec PyProof.Rows L2
/-- what the class must say -/
structure XcF (K : PySem.W.Frag) (C : Addr) : Prop where
  ga : PySem.W.findIn K (.ref C) "__getattribute__" = some (some (.builtin "BaseException.__getattribute__"))
  gg : PySem.W.findIn K (.ref C) "__getattr__" = some none
  su : PySem.W.subIn K (.ref C) (.type "BaseException") = some true
  hd : PySem.W.hasDictIn K C = true
  ha : PySem.W.findIn K (.ref C) "__class__" = some (some (.builtin "object.__class__"))
  hn : PySem.W.specialIn K (.builtin "object.__class__") "__get__" = some (some (.builtin "getset_descriptor.__get__"))
  ht : PySem.W.takesIn K (.builtin "object.__class__") = some true
  hm : PySem.W.mroIn K C (.type "object") = some true
theorem XcF.cl {K : PySem.W.Frag} {C : Addr} (T : XcF K C) : (PySem.W.clsIn K C).isSome = true := by
  obtain ⟨cd, hc, _⟩ := PySem.W.any_some T.hd
  rw [hc]; rfl
/-- the object at a is an exception of the class C whose own dict is at d -/
def IsX (K : PySem.W.Frag) (H : Hp) (a C d : Addr) (fs : List (Str × V)) : Prop := H a = some (exq a (.ref C) (some d)) ∧ H d = some (.xd fs)
theorem IsX.inst {X : Cx} {pins : List (Addr × Obj)} {σ : L2.St} {H : Hp} {s : Shared} {a C d : Addr} {fs : List (Str × V)} (I : Inv X pins σ H s) (h : IsX X.K H a C d fs) :
    ∃ (oe od : Obj) (mA : Str → Option Value), PySem.W.InstAt s.heap a oe C (some od) ∧ (∀ n, PySem.W.lookIn n od = some (mA n)) ∧ ∀ n, RelO (fs.lookup n) (mA n) := by
  obtain ⟨oe, vs, he, hz, hd⟩ := exq_at I.hok h.1
  have hx : ObjOk X.prog X.w H s.heap d (.xd fs) := I.hok d _ h.2
  obtain ⟨mA, hns, hr⟩ := hx
  obtain ⟨od, ho, hl⟩ := lookIn_ns hns
  refine ⟨oe, od, mA, ⟨he, hz.1, by unfold PySem.W.notCls; rw [hd] <;> rfl, by rw [hz.2]; exact ho⟩, hl, hr⟩
def rIsQ (K : PySem.W.Frag) : List V → Hp → VK → Prop := fun xs H Q => ∃ (a C d : Addr) (fs : List (Str × V)), xs = [.ref a, .ref C] ∧ XcF K C ∧ IsX K H a C d fs ∧ Q (.bl true) H
theorem call_isQ {X : Cx} : CallR X (.builtin "isinstance") (rIsQ X.K) := by
  intro pins s σ H xs us Q I r h
  obtain ⟨a, C, d, fs, rfl, T, ix, q⟩ := h
  cases r with
  | cons rx rr =>
    cases rr with
    | cons rt rr =>
      cases rr
      cases rx
      cases rt
      obtain ⟨oe, od, mA, J, _, _⟩ := ix.inst I
      have e : PySem.W.kitOne X.K (.ref C) (.ref C) = some true := by unfold PySem.W.kitOne; rw [if_pos (by simp)]
      exact PySem.W.kia_one (PySem.W.kitx_exc (od := some od) T.cl T.ga T.gg T.su T.ha T.hn T.ht T.hm) I.kIn J e (fun z => nomatch z) fun tk => ⟨.bl true, H, I.kept (t' := tk) fun _ _ z => z, rfl, q⟩
/-- e.f of a caught exception that is kept -/
def tXq (K : PySem.W.Frag) (f : Str) (te : TE) : TE := fun σ H Q => te σ H fun x H1 => ∃ (a C d : Addr) (fs : List (Str × V)) (v : V), x = .ref a ∧ XcF K C ∧ PySem.W.findIn K (.ref C) f = some none ∧ IsX K H1 a C d fs ∧ fs.lookup f = some v ∧ Q v H1
theorem pe_xq {X : Cx} {e : Expr} {te : TE} {pos : Pos} {n : Str} (he : PE X e te) (hb : attributeBase e n X.env (eval e X.env) = eval e X.env := by rfl) : PE X (.Attribute e n pos) (tXq X.K n te) := by
  refine ⟨fun pins s σ H Q I h => ?_⟩
  refine attr_of hb (thn (he.run pins s σ H _ I h) fun u s1 hh => ?_)
  obtain ⟨x, H1, I1, rx, a, C, d, fs, v, ex, T, hno, ix, l, q⟩ := hh
  subst ex
  obtain rfl : u = Value.ref a := rx
  obtain ⟨oe, od, mA, J, hl, hr⟩ := ix.inst I1
  obtain ⟨u, hu, ru⟩ := RelO.some_of (v := v) (o := mA n) (by rw [← l]; exact hr n)
  exact HandSPX.exc_get I1.kIn J T.ga T.gg T.su (PySem.W.findObj_own T.hd hno rfl (by rw [hl, hu])) (handed_of ru) ⟨v, H1, I1.tok _, ru, q⟩
/-- nothing flies -/
theorem takes_none {X : Cx} : Takes X (fun _ _ _ _ => False) := by
  rintro u s' ⟨_, _, _, _, _, _, _, _, _, _, _, _, _, _, _, _, w⟩
  exact w.elim
/-- a call within try: what flies is asked at the slots of the call -/
def tCallS (sp : Sp) (dvs : List V) (W : WX) (t : TA) : TE := fun σ H Q => t σ H fun vs H1 => sp (vs ++ dvs) H1 Q (fun cls d H' => W cls d σ H')
section
variable {X : Cx} {k : Nat} {f : Addr} {fd : FuncData} {ps : List Str} {sp : Sp} {ds : List Value} {dvs : List V} {W : WX}
theorem pe_callS {x : Str} {p pos : Pos} {e : Expr} {es : List Expr} {t : TA} (F : FnOk X.prog X.w X.K X.mg X.base (L2.CX X.prog X.w) k f fd ps sp) (hr : Room k X.A) (gl : Gl X x)
    (at_ : X.mg x = some (.ref f)) (kp : PySem.W.keepIn X.K (.ref f) = true) (bd : Binds X.K fd ps ds) (dv : Vals dvs ds) (tk : Takes X W) (pa : PA X (e :: es) t)
    (nodb : (x == ("__debug__" : Str)) = false := by decide) (st : starEach (e :: es) X.env = (false, eval e X.env) :: starEach es X.env := by rfl)
    (pl : (backTo pos (starEach es X.env)).any (·.1) = false := by rfl) :
    PE X (.Call (.Name x p) (e :: es) [] pos) (tCallS sp dvs W t) := by
  constructor
  intro pins s σ H Q I h
  apply wpAny_Call_Name_kw
  refine ld_glob I gl at_ ?_ nodb
  refine PySem.W.callWith_K (h₀ := X.base) I.ok.mod.kin kp (thn (pa.run pos pins s σ H _ I h) ?_) st pl
  rintro us s1 ⟨vs, H1, I1, r, q⟩
  refine ⟨I1.kIn, ?_⟩
  have rr : Vals (vs ++ dvs) (us ++ ds) := r.append dv
  have many : (us ++ ds).length = ps.length := by rw [← rr.length]; exact F.len _ _ _ _ q
  refine wpAny_call (codeAny_mono (F.run X.A X.stack s1 H1 ⟨us, []⟩ (us ++ ds) (vs ++ dvs) Q _ hr I1.env0 (bd s1 us I1.kIn many) rr q) ?_)
  rintro (err | fl) s' hq
  · exact tk err s' (XE.of_call I1 (fun _ _ _ z => z) hq)
  · cases fl
    case ret u => exact I1.after hq
    all_goals exact hq.elim
end
theorem vals_rev : ∀ {xs : List V} {us : List Value}, Vals xs us → Vals xs.reverse us.reverse
  | _, _, .nil => .nil
  | _, _, .cons h t => by
    rw [List.reverse_cons, List.reverse_cons]
    exact (vals_rev t).append (.cons h .nil)
theorem FunD.kb0 {K : PySem.W.Frag} {x qual : Str} {params : Arguments} {body : List Stmt} {scope : Scope} {dvs : List V} {kws : List (Str × V)} {f : Addr} {fd : FuncData} {ps : List Str} (F : FunD K x qual params body scope dvs kws f fd) (hd : dvs ≠ []) (ks : List Str) (g : List Value → List Value → List Value) (gV : List V → List V → List V)
    (rel : ∀ {vs : List V} {us : List Value} {zs : List V} {ws : List Value}, Vals vs us → Vals zs ws → Vals (gV vs zs) (g us ws))
    (h : ∀ (T : Addr) (kV doc pm : Value) (an : Option Addr) (cdv ct : Value) (us ws its : List Value), (g us ws).length = ps.length → its.length = dvs.length →
      ∃ k, bindArgs (PySem.W.fnOf x qual params body scope (.ref T) kV doc pm an cdv ct) ⟨us, ks.zip ws⟩ = seqItems? (.ref T) >>= k ∧ k (some its.toArray) = pure (ps.zip (g us ws))) : KBinds K fd ps ks g gV := by
  obtain ⟨oc, od, dV, kV, doc, pm, an, cdv, ct, osl, rfl, lk, hcd, hD, hK⟩ := F.ex
  rcases hD with ⟨e, _⟩ | ⟨_, T, o, its, m, rfl, lT, oT, rT⟩
  · exact absurd e hd
  · refine ⟨fun s us ws X hl => ?_, rel⟩
    obtain ⟨k, e1, e2⟩ := h T kV doc pm an cdv ct us ws its hl rT.length.symm
    refine BindsTo.of_looks fun M => ?_
    rw [e1]
    exact looks_items X lT oT (.of_pure e2)
end Vz
set_option Elab.async false
set_option linter.all false
set_option maxRecDepth 100000
set_option maxHeartbeats 4000000
/-! f-strings: {i:02d}. -/
namespace Vz
open PySem PySem.Spec PyProof.Rows L2
theorem ns_none {K : PySem.W.Frag} {h : Heap} {b : Addr} {mg : Str → Option Value} {n : Str} (X : K.In h) (G : h.Ns b mg) (e : PySem.W.nsIn K b n = some none) : mg n = none := by
  obtain ⟨o, es, ep, ho, hd, _, hf⟩ := G
  unfold PySem.W.nsIn at e
  split at e
  · rename_i c d es' n' sl q
    have := X _ _ q
    rw [ho] at this
    cases this
    cases hd
    split at e
    · cases e
    · rename_i he
      rw [← hf]
      unfold nsFind findBy
      rw [← Array.find?_toList, he]
      rfl
  · cases e
section
variable {X : Cx} {pins : List (Addr × Obj)} {σ : L2.St} {H : Hp} {s : Shared}
theorem noDig (I : Inv X pins σ H s) (z : PySem.W.nsIn X.K cStatics "sys.int_max_str_digits" = some none) : s.heap.NoDigits := by
  have e0 := I.env0
  obtain ⟨mc, l1, l2⟩ := e0.mod.nolimit.keeps (fun b o e => (e0.bs b o e).1)
  exact ⟨mc, l1, ns_none I.kIn l1 z⟩
def tFmtI (sp : Str) (te : TE) : TE := fun σ H Q => te σ H fun x H1 => ∃ i : Int, x = .int i ∧ 0 ≤ i ∧ i < 10 ^ 10 ∧ ((intSpecTextOf sp i).length = max (intSpecWidthOf sp) (Nat.toDigits 10 i.natAbs).length → Q (.str (intSpecTextOf sp i)) H1)
theorem pe_fmtI {e spec : Expr} {te : TE} {pos : Pos} {sp : Str} (z : PySem.W.nsIn X.K cStatics "sys.int_max_str_digits" = some none) (ok : intSpecOk sp = true) (sz : sp.length ≤ sizeLine) (he : PE X e te) (hs : PE X spec (tC (.str sp))) :
    PE X (.FormattedValue e (-1) (some spec) pos) (tFmtI sp te) := by
  refine ⟨fun pins s σ H Q I h => ?_⟩
  refine wpAny_FormattedValue_spec (thn (he.run pins s σ H _ I h) fun v s1 hv => ?_)
  obtain ⟨x, H1, I1, r1, i, rfl, i0, i1, q⟩ := hv
  obtain ⟨t, rfl⟩ := r1
  refine thn (hs.run pins s1 σ H1 (fun y H2 => y = .str sp ∧ H2 = H1) I1 ⟨rfl, rfl⟩) fun u s2 hu => ?_
  obtain ⟨y, H2, I2, r2, rfl, rfl⟩ := hu
  obtain ⟨tk, rfl⟩ := r2
  refine ⟨sp, tk, rfl, ?_⟩
  have hl : i.natAbs < 10 ^ 4300 := by
    have a : i.natAbs < 10 ^ 10 := by
      have e10 : (10 : Int) ^ 10 = 10000000000 := by decide
      have e11 : (10 : Nat) ^ 10 = 10000000000 := by decide
      rw [e10] at i1
      rw [e11]
      omega
    exact Nat.lt_of_lt_of_le a (Nat.pow_le_pow_right (by decide) (by decide))
  refine formatField_int_specOf (noDig I2 z) hl ok (fun W eW F => ?_) sz
  subst eW
  exact ⟨.str _, H2, I2.tok _, ⟨_, rfl⟩, q (F.lenNonneg i0)⟩
end
theorem digits_le {n k : Nat} (hk : 0 < k) (h : n < 10 ^ k) : (Nat.toDigits 10 n).length ≤ k := by
  have e := (Nat.length_repr_le_iff (n := n) hk).mpr h
  rwa [← String.length_toList, Nat.toList_repr] at e
/-- what is not reached -/
theorem pss_dead {X : Cx} {ss : List Stmt} : PSs X ss (fun _ _ _ => False) := ⟨fun _ _ _ _ _ _ h => h.elim⟩
end Vz
set_option Elab.async false
set_option linter.all false
set_option maxRecDepth 100000
set_option maxHeartbeats 4000000
/-! Data that stays; calls by keywords within try; isinstance with both answers of a caught exception that is kept. -/
namespace Vz
open PySem PySem.Spec PyProof.Rows L2
def KeepV (d : Addr) (H H' : Hp) : Prop := ∀ a o, a ≠ d → H a = some o → H' a = some o
section
variable {K : PySem.W.Frag} {H H' : Hp} {d : Addr} {kvs : List (Key × V)}
theorem sqL_keep (hd : H d = some (.dK kvs)) (e : KeepV d H H') {a : Addr} {xs : List V} (h : SqL K H a xs) : SqL K H' a xs := by
  have ne : ∀ {o : HO}, H a = some o → o ≠ .dK kvs → a ≠ d := fun q n z => by rw [z, hd] at q; cases q; exact n rfl
  rcases h with (h | ⟨o, h⟩) | h
  · exact .inl (.inl (e _ _ (ne h (by intro z; cases z)) h))
  · exact .inl (.inr ⟨o, e _ _ (ne h (by intro z; cases z)) h⟩)
  · exact .inr h
theorem sqT_keep (hd : H d = some (.dK kvs)) (e : KeepV d H H') {a : Addr} {xs : List V} (h : SqT K H a xs) : SqT K H' a xs := by
  have ne : ∀ {o : HO}, H a = some o → o ≠ .dK kvs → a ≠ d := fun q n z => by rw [z, hd] at q; cases q; exact n rfl
  rcases h with (h | ⟨o, h⟩) | h
  · exact .inl (.inl (e _ _ (ne h (by intro z; cases z)) h))
  · exact .inl (.inr ⟨o, e _ _ (ne h (by intro z; cases z)) h⟩)
  · exact .inr h
theorem sqT_same (e : Same H H') {a : Addr} {xs : List V} (h : SqT K H a xs) : SqT K H' a xs := by
  rcases h with (h | ⟨o, h⟩) | h
  · exact .inl (.inl (e _ _ h))
  · exact .inl (.inr ⟨o, e _ _ h⟩)
  · exact .inr h
mutual
theorem dp_map (fL : ∀ {a : Addr} {xs : List V}, SqL K H a xs → SqL K H' a xs) (fT : ∀ {a : Addr} {xs : List V}, SqT K H a xs → SqT K H' a xs) : ∀ (d : PyData) (v : V), Dp K H v d → Dp K H' v d
  | .none, _, h => by cases h; exact .non
  | .bool b, _, h => by cases h; exact .bl b
  | .int i, _, h => by cases h; exact .int i
  | .str x, _, h => by cases h; exact .str x
  | .list ds, _, h => by
    cases h with
    | lst q r => exact .lst (fL q) (dpAll_map fL fT ds _ r)
  | .tuple ds, _, h => by
    cases h with
    | tup q r => exact .tup (fT q) (dpAll_map fL fT ds _ r)
  | .dict _, _, h => by cases h
theorem dpAll_map (fL : ∀ {a : Addr} {xs : List V}, SqL K H a xs → SqL K H' a xs) (fT : ∀ {a : Addr} {xs : List V}, SqT K H a xs → SqT K H' a xs) : ∀ (ds : List PyData) (vs : List V), DpAll K H vs ds → DpAll K H' vs ds
  | [], _, h => by cases h; exact .nil
  | d :: ds, _, h => by
    cases h with
    | cons q r => exact .cons (dp_map fL fT d _ q) (dpAll_map fL fT ds _ r)
end
theorem dp_same (e : Same H H') {d : PyData} {v : V} (h : Dp K H v d) : Dp K H' v d := dp_map e.seq (sqT_same e) d v h
theorem dp_keep (hd : H d = some (.dK kvs)) (e : KeepV d H H') {pd : PyData} {v : V} (h : Dp K H v pd) : Dp K H' v pd := dp_map (sqL_keep hd e) (sqT_keep hd e) pd v h
end
/-- isinstance(e, C) of a caught exception that is kept -/
def rIsR (K : PySem.W.Frag) : List V → Hp → VK → Prop := fun xs H Q => ∃ (a C D d : Addr) (fs : List (Str × V)) (b : Bool), xs = [.ref a, .ref D] ∧ XcF K C ∧ IsX K H a C d fs ∧ PySem.W.kitOne K (.ref C) (.ref D) = some b ∧ Q (.bl b) H
theorem call_isR {X : Cx} : CallR X (.builtin "isinstance") (rIsR X.K) := by
  intro pins s σ H xs us Q I r h
  obtain ⟨a, C, D, d, fs, b, rfl, T, ix, e, q⟩ := h
  cases r with
  | cons rx rr =>
    cases rr with
    | cons rt rr =>
      cases rr
      cases rx
      cases rt
      obtain ⟨oe, od, mA, J, _, _⟩ := ix.inst I
      exact PySem.W.kia_one (PySem.W.kitx_exc (od := some od) T.cl T.ga T.gg T.su T.ha T.hn T.ht T.hm) I.kIn J e (fun z => nomatch z) fun tk => ⟨.bl b, H, I.kept (t' := tk) fun _ _ z => z, rfl, q⟩
theorem kit_refl {K : PySem.W.Frag} {C : Addr} : PySem.W.kitOne K (.ref C) (.ref C) = some true := by unfold PySem.W.kitOne; rw [if_pos (by simp)]
/-- a call by keywords within try -/
def tCallKS (sp : Sp) (gV : List V → List V → List V) (W : WX) (t tk : TA) : TE := fun σ H Q => t σ H fun vs H1 => tk σ H1 fun zs H2 => sp (gV vs zs) H2 Q (fun cls d H' => W cls d σ H')
section
variable {X : Cx} {k : Nat} {f : Addr} {fd : FuncData} {ps ks : List Str} {sp : Sp} {W : WX} {g : List Value → List Value → List Value} {gV : List V → List V → List V}
theorem run_fnkS {pins : List (Addr × Obj)} {σ : L2.St} {H : Hp} {s : Shared} {Q : VK} {us ws : List Value} {vs zs : List V} (F : FnOk X.prog X.w X.K X.mg X.base (L2.CX X.prog X.w) k f fd ps sp) (hr : Room k X.A) (hb : KBinds X.K fd ps ks g gV) (tk : Takes X W)
    (I : Inv X pins σ H s) (r : Vals vs us) (rz : Vals zs ws) (h : sp (gV vs zs) H Q (fun cls d H' => W cls d σ H')) : wpAny (model X.prog X.w) X.A (call (.ref f) us (ks.zip ws)) (EP X pins σ Q) X.xe s := by
  have r2 := hb.rel r rz
  have hl : (g us ws).length = ps.length := by rw [← r2.length]; exact F.len _ _ _ _ h
  refine wpAny_call (codeAny_mono (F.run X.A X.stack s H ⟨us, ks.zip ws⟩ (g us ws) (gV vs zs) Q _ hr I.env0 (hb.to s us ws I.kIn hl) r2 h) ?_)
  rintro (err | fl) s' hq
  · exact tk err s' (XE.of_call I (fun _ _ _ z => z) hq)
  · cases fl
    case ret u => exact I.after hq
    all_goals exact hq.elim
theorem pe_callKS0 {x : Str} {p pos : Pos} {kws : List Keyword} {tkw : TA} (F : FnOk X.prog X.w X.K X.mg X.base (L2.CX X.prog X.w) k f fd ps sp) (hr : Room k X.A) (gl : Gl X x) (at_ : X.mg x = some (.ref f))
    (kp : PySem.W.keepIn X.K (.ref f) = true) (bd : KBinds X.K fd ps ks g gV) (tk : Takes X W) (pk : PK X kws tkw)
    (al : (backToKw pos (keywordEach kws X.env)).all (·.1.isSome) = true := by rfl) (nm : (backToKw pos (keywordEach kws X.env)).filterMap (·.1) = ks := by rfl)
    (nodb : (x == ("__debug__" : Str)) = false := by decide)
    (pl : ((backTo pos (starEach [] X.env)).any (·.1) || (backToKw pos (keywordEach kws X.env)).any (·.1.isNone)) = false := by rfl) :
    PE X (.Call (.Name x p) [] kws pos) (tCallKS sp gV W tNil tkw) := by
  constructor
  intro pins s σ H Q I h
  apply wpAny_Call_Name_kw
  refine ld_glob I gl at_ ?_ nodb
  refine PySem.W.callWith_KW0 (h₀ := X.base) I.ok.mod.kin kp al (thn (pk.run pos pins s σ H _ I h) ?_) pl
  rintro ws s2 ⟨zs, H2, I2, rz, q2⟩
  refine ⟨I2.kIn, ?_⟩
  rw [nm]
  exact run_fnkS F hr bd tk I2 .nil rz q2
theorem pe_callKS1 {x : Str} {p pos : Pos} {e : Expr} {es : List Expr} {kws : List Keyword} {t tkw : TA} (F : FnOk X.prog X.w X.K X.mg X.base (L2.CX X.prog X.w) k f fd ps sp) (hr : Room k X.A) (gl : Gl X x) (at_ : X.mg x = some (.ref f))
    (kp : PySem.W.keepIn X.K (.ref f) = true) (bd : KBinds X.K fd ps ks g gV) (tk : Takes X W) (pa : PA X (e :: es) t) (pk : PK X kws tkw)
    (al : (backToKw pos (keywordEach kws X.env)).all (·.1.isSome) = true := by rfl) (nm : (backToKw pos (keywordEach kws X.env)).filterMap (·.1) = ks := by rfl)
    (nodb : (x == ("__debug__" : Str)) = false := by decide) (st : starEach (e :: es) X.env = (false, eval e X.env) :: starEach es X.env := by rfl)
    (pl : ((backTo pos (starEach (e :: es) X.env)).any (·.1) || (backToKw pos (keywordEach kws X.env)).any (·.1.isNone)) = false := by rfl) :
    PE X (.Call (.Name x p) (e :: es) kws pos) (tCallKS sp gV W t tkw) := by
  constructor
  intro pins s σ H Q I h
  apply wpAny_Call_Name_kw
  refine ld_glob I gl at_ ?_ nodb
  refine PySem.W.callWith_KW (h₀ := X.base) I.ok.mod.kin kp al (thn (pa.run pos pins s σ H _ I h) fun us s1 ⟨vs, H1, I1, r, q⟩ => ?_) pl st
  refine thn (pk.run pos pins s1 σ H1 _ I1 q) fun ws s2 ⟨zs, H2, I2, rz, q2⟩ => ⟨I2.kIn, ?_⟩
  rw [nm]
  exact run_fnkS F hr bd tk I2 r rz q2
end
end Vz
set_option Elab.async false
set_option linter.all false
set_option maxRecDepth 100000
set_option maxHeartbeats 2000000
namespace Vz
open PySem PySem.Spec PyProof.Rows L2
/-! ### repr of None or data -/
def rReprN (K : PySem.W.Frag) : List V → Hp → VK → Prop := fun xs H Q => (xs = [.non] ∧ Q (.str "None") H) ∨ rRepr K xs H Q
theorem repr_orNone {X : Cx} (gd : X.A.guards = some []) (un : X.A.units + 64 < cLine) : CallR X (.builtin "repr") (rReprN X.K) := by
  intro pins s σ H xs us Q I r h
  rcases h with ⟨rfl, q⟩ | h
  · obtain ⟨u, rfl, ru⟩ := vals1 r
    have eu : u = Value.none := ru
    subst eu
    exact PySem.P.repr_of_none ⟨.str _, H, I.tok _, ⟨_, rfl⟩, q⟩
  · exact repr_data gd un pins s σ H xs us Q I r h
end Vz
set_option Elab.async false
set_option linter.all false
set_option maxRecDepth 100000
set_option maxHeartbeats 2000000
namespace Vz
open PySem PySem.Spec PyProof.Rows L2
/-! ### a text so many times; lists that are not equal -/
theorem op_repS {X : Cx} : OpR X (binaryOp .Mult) (fun x y H Q => ∃ (a : Str) (n : Int), x = .str a ∧ y = .int n ∧ MulOk a n ∧ Q (.str (Txt.mul a n)) H) := by
  rintro pins s σ H x y v u Q I rv ru ⟨a, n, rfl, rfl, ok, q⟩
  obtain ⟨t1, rfl⟩ := rv
  obtain ⟨t2, rfl⟩ := ru
  exact SB.mul ok fun t' k => ⟨.str _, H, I.tok _, ⟨_, rfl⟩, q⟩
/-- two lists with the same items, each of which is flat or one object -/
def rNeSame (K : PySem.W.Frag) : R2 := fun x y H Q => ∃ p q xs, x = .ref p ∧ y = .ref q ∧ SqL K H p xs ∧ SqL K H q xs ∧ (∀ v ∈ xs, (flatV v = true ∧ eqV v v = true) ∨ ∃ a, v = .ref a) ∧ Q (.bl false) H
theorem op_neSame {X : Cx} (hu : X.A.units + 64 < cLine) : OpR X (compareOp .NotEq) (rNeSame X.K) := by
  rintro pins s σ H x y v u Q I rv ru ⟨p, q, xs, rfl, rfl, h1, h2, hs, k⟩
  have e1 : v = .ref p := rv
  have e2 : u = .ref q := ru
  subst e1 e2
  obtain ⟨i1, r1, p1, _⟩ := I.list h1
  obtain ⟨i2, r2, p2, _⟩ := I.list h2
  have l1 := r1.length
  have l2 := r2.length
  have W := SeqAt.RcNeAt.lists (A := X.A) (s := s) (e := fun _ => true) p1.isList p2.isList (by simp only [List.size_toArray]; omega) (by omega) (fun j a b => ?_)
  · refine W X.prog X.w X.xe _ ?_
    have e : (List.range i1.toArray.size).all (fun _ => true) = true := by simp
    rw [e]
    exact ⟨.bl false, H, I, rfl, k⟩
  · have hj : j < xs.length := by rw [List.size_toArray] at a; omega
    have m := List.getElem_mem hj
    have g : xs[j]? = some xs[j] := by simp
    obtain ⟨u1, g1, w1⟩ := r1.get g
    obtain ⟨u2, g2, w2⟩ := r2.get g
    have q1 : i1.toArray[j] = u1 := by
      have := List.getElem?_eq_some_iff.mp g1
      obtain ⟨_, z⟩ := this
      simpa using z
    have q2 : i2.toArray[j] = u2 := by
      have := List.getElem?_eq_some_iff.mp g2
      obtain ⟨_, z⟩ := this
      simpa using z
    rw [q1, q2]
    rcases hs _ m with ⟨f, e⟩ | ⟨c, e⟩
    · have z := eqAt_V (A := X.A.in1) (s := s) w1 w2 f f
      rw [e] at z
      exact z
    · rw [e] at w1 w2
      have z1 : u1 = .ref c := w1
      have z2 : u2 = .ref c := w2
      rw [z1, z2]
      exact SeqAt.EqAt.same _
/-- a list and the empty list -/
def rNeNil (K : PySem.W.Frag) : R2 := fun x y H Q => ∃ p q xs, x = .ref p ∧ y = .ref q ∧ SqL K H p xs ∧ SqL K H q [] ∧ Q (.bl (!xs.isEmpty)) H
theorem op_neNil {X : Cx} (hu : X.A.units + 64 < cLine) : OpR X (compareOp .NotEq) (rNeNil X.K) := by
  rintro pins s σ H x y v u Q I rv ru ⟨p, q, xs, rfl, rfl, h1, h2, k⟩
  have e1 : v = .ref p := rv
  have e2 : u = .ref q := ru
  subst e1 e2
  obtain ⟨i1, r1, p1, _⟩ := I.list h1
  obtain ⟨i2, r2, p2, _⟩ := I.list h2
  have l1 := r1.length
  have l2 := r2.length
  cases xs with
  | nil =>
    have W := SeqAt.RcNeAt.lists (A := X.A) (s := s) (e := fun _ => true) p1.isList p2.isList (by simp only [List.size_toArray]; omega) (by omega) (fun j a b => by simp only [List.size_toArray] at b; simp at l2; omega)
    refine W X.prog X.w X.xe _ ?_
    have e : (List.range i1.toArray.size).all (fun _ => true) = true := by simp
    rw [e]
    exact ⟨.bl false, H, I, rfl, k⟩
  | cons a r =>
    have W := SeqAt.RcNeAt.lists_lengths (A := X.A) (s := s) p1.isList p2.isList (by simp only [List.size_toArray, bne_iff_ne]; simp at l1 l2; omega) (by omega)
    exact W X.prog X.w X.xe _ ⟨.bl true, H, I, rfl, k⟩
/-- two keywords in the order of the def, nothing by place -/
def kwO {α : Type} (us ws : List α) : List α := match us with
  | [] => ws
  | _ :: _ => []
theorem kb2 {K : PySem.W.Frag} {fd : FuncData} {p q : Str} (h : ∀ (s : Shared) (a b : Value), K.In s.heap → BindsTo s fd ⟨[], [p, q].zip [a, b]⟩ ([p, q].zip [a, b])) : KBinds K fd [p, q] [p, q] kwO kwO where
  to := by
    intro s us ws hk hl
    match us, ws, hl with
    | [], [a, b], _ => exact h s a b hk
    | [], [], z => cases z
    | [], [_], z => cases z
    | [], _ :: _ :: _ :: _, z => simp [kwO] at z
    | _ :: _, _, z => cases z
  rel := by
    intro vs us zs ws r z
    cases r with
    | nil => exact z
    | cons _ _ => exact .nil
end Vz
set_option Elab.async false
set_option linter.all false
set_option maxRecDepth 100000
set_option maxHeartbeats 4000000
/-! An own error class called with keywords, as a value. -/
namespace PySem.VzK
open PySem.Calls PyProof.Rows PySem.HandSPX
section
variable {prog : Program} {w : World} {M : Model} {A : Around} {E : Value → Shared → Prop} {R : Result → Shared → Prop} {h : Heap} {g : Array GenState} {d : Drawn} {t : Nat} {os : OsState}
variable {nm q : Str} {C N : Addr} {bs bm bmB : List Value} {hdct : Bool} {sn : List Str} {sub : List Value} {ab : Bool} {col : Option Bool} {dd : Option Addr} {k0 k1 k2 k3 k5 : Option Value} {B newId initId : String}
theorem kw_check_new (F : ExcBaseFacts B newId initId bmB) (hT : ∀ X : String, bm.contains (.type X) = bmB.contains (.type X)) {rest : List Value} {kw : List (Str × Value)} {Q : Unit → Shared → Prop}
    (hC : h.get? C = some (excClassObj nm q C N bs bm hdct sn sub ab col dd k0 k1 k2 k3 k5 newId)) (hq : Q () ⟨h, g, d, t, os⟩) : wpAny M A (checkBuiltinCall newId ⟨.ref C :: rest, kw⟩) Q E ⟨h, g, d, t, os⟩ := by
  have has : (Value.ref C :: bm).contains (.type B) = true := by rw [List.contains_cons, hT, F.hasB, Bool.or_true]
  have star := F.noStar
  simp only [checkBuiltinCall, F.newKind, F.newSplit, F.newRow]
  repeat (first | refine wpAny_loadPart_at hC ?_ | (refine wpAny_isSubtype_exc hC ?_; rw [has]) | refine wpAny_staticBase_exc hC ?_ | refine wpAny_madeBy_exc hC ?_ | simp only [bne_self_eq_false, Bool.false_eq_true, if_false] | wp_step)
  exact hq
theorem kw_new (F : ExcBaseFacts B newId initId bmB) (hT : ∀ X : String, bm.contains (.type X) = bmB.contains (.type X)) {rest : List Value} {kw : List (Str × Value)}
    (hC : h.get? C = some (excClassObj nm q C N bs bm hdct sn sub ab col dd k0 k1 k2 k3 k5 newId))
    (hq : R (.ok (.ret (.ref (h.objs.size + 1)))) ⟨(h.push (W.kdv_tup rest)).push (excO C h.objs.size), g, d, t, os⟩) (fit : rest.length ≤ sizeLine) :
    codeAny (model prog w) A (.builtin newId ⟨.ref C :: rest, kw⟩) R ⟨h, g, d, t, os⟩ := by
  have e1 := F.ends
  have e2 : (Value.ref C :: bm).contains (.type B) = true := by rw [List.contains_cons, hT, F.hasB, Bool.or_true]
  have e3 : (Value.ref C :: bm).contains (.type "AttributeError") = false := by rw [List.contains_cons, hT, F.noAttr]; rfl
  have e4 : (Value.ref C :: bm).contains (.type "NameError") = false := by rw [List.contains_cons, hT, F.noName]; rfl
  refine codeAny_builtinAt F.entry ?_
  unfold Builtin.«BaseException.__new__»
  refine wpAt_bind ?_
  show wpAt _ _ _ (stack >>= _) _ _ _
  refine wpAt_bind (wpAt_stack fun p below => wpAt_of_wpAny ?_)
  wp_walk
  refine wpAt_of_wpAny ?_
  rw [F.owner]
  repeat (first | with_reducible refine wpAny_madeHere_exc F.canon hC ?_ | with_reducible refine wpAny_loadPart_at hC ?_ | (with_reducible refine wpAny_isSubtype_exc hC ?_; first | rw [e2] | rw [e3] | rw [e4]) | wp_step)
  show R _ _
  rw [Heap.size_push]
  exact hq
theorem kw_type_call (F : ExcBaseFacts B newId initId bmB) (hT : ∀ X : String, bm.contains (.type X) = bmB.contains (.type X)) {rest : List Value} {kw : List (Str × Value)} {fI : Addr} {Q : Fin → Shared → Prop}
    (hC : h.get? C = some (excClassObj nm q C N bs bm hdct sn sub ab col dd k0 k1 k2 k3 k5 newId))
    (hi : W.Looks (model prog w) h (typeLookup (.ref C) "__init__") (some (.ref fI))) (hb : ∀ self, W.Looks (model prog w) h (bindSpecial (.ref fI) self) (.ref fI, [self])) (fit : rest.length ≤ sizeLine)
    (hq : codeAny (model prog w) A (.call (.ref fI) ⟨.ref (h.objs.size + 1) :: rest, kw⟩)
      (fun r s' => match r with | .ok (.ret v) => v = .none ∧ Q (.done (.ret (.ref (h.objs.size + 1)))) s' | .ok _ => False | .error e => E e s')
      ⟨(h.push (W.kdv_tup rest)).push (excO C h.objs.size), g, d, t, os⟩) :
    wpAny (model prog w) A (Builtin.«type.__call__» ⟨.ref C :: rest, kw⟩) Q E ⟨h, g, d, t, os⟩ := by
  repeat (first | with_reducible refine wpAny_loadPart_at hC ?_ | with_reducible refine wpAny_madeBy_exc hC ?_ | wp_step)
  refine codeAny_call_builtin_code (Code.quiet_builtin _ F.quiet) (kw_check_new F hT hC ?_)
  refine kw_new F hT hC ?_ fit
  show wpAny _ _ _ _ _ _
  have k : ∀ b o, h.get? b = some o → ((h.push (W.kdv_tup rest)).push (excO C h.objs.size)).get? b = some o := fun b o e => Heap.get?_push_of_some _ (Heap.get?_push_of_some _ e)
  have hC2 := k _ _ hC
  have there : ((h.push (W.kdv_tup rest)).push (excO C h.objs.size)).get? (h.objs.size + 1) = some (excO C h.objs.size) := by heap_get
  have own : (Value.ref C :: bm).contains (.ref C) = true := by simp
  have i1 := hi.keeps k
  have b1 := (hb (.ref (h.objs.size + 1))).keeps k
  unfold isInstance
  repeat (first | with_reducible refine wpAny_loadPart_at there ?_ | (with_reducible refine wpAny_isSubtype_exc hC2 ?_; rw [own]) | wp_step)
  show wpAny _ _ (typeLookup (.ref C) _) _ _ _
  refine i1.at ?_
  refine wpAny_holding (wpAny_bind (b1.at ?_))
  refine wpAny_bind (wpAny_call (codeAny_mono hq fun r s' z => ?_))
  rcases r with e | (v | _ | _ | _) <;> first | exact z | exact z.elim | skip
  obtain ⟨rfl, z⟩ := z
  first
    | exact wpAny_pure (wpAny_pure z)
    | (wp_walk; exact z)
theorem kw_check_type (hC : h.get? C = some (excClassObj nm q C N bs bm hdct sn sub ab col dd k0 k1 k2 k3 k5 newId)) {rest : List Value} {kw : List (Str × Value)} {Q : Unit → Shared → Prop}
    (hq : Q () ⟨h, g, d, t, os⟩) : wpAny M A (checkBuiltinCall "type.__call__" ⟨.ref C :: rest, kw⟩) Q E ⟨h, g, d, t, os⟩ := by
  have f3 := tc_sub
  have hT : (⟨h, g, d, t, os⟩ : Shared).TypeIs (.ref C) "type" := ⟨_, hC, rfl⟩
  simp only [checkBuiltinCall, tc_kind, tc_split]
  repeat (any_goals (first | assumption | with_reducible refine wpAny_loadPart_at hC ?_ | with_reducible refine wpAny_onRaise ?_ | with_reducible refine wpAny_map ?_ | wp_step))
theorem kw_call (F : ExcBaseFacts B newId initId bmB) (hT : ∀ X : String, bm.contains (.type X) = bmB.contains (.type X)) {rest : List Value} {kw : List (Str × Value)} {fI : Addr}
    (hC : h.get? C = some (excClassObj nm q C N bs bm hdct sn sub ab col dd k0 k1 k2 k3 k5 newId))
    (hi : W.Looks (model prog w) h (typeLookup (.ref C) "__init__") (some (.ref fI))) (hb : ∀ self, W.Looks (model prog w) h (bindSpecial (.ref fI) self) (.ref fI, [self])) (fit : rest.length ≤ sizeLine)
    (hq : codeAny (model prog w) (A.under (.builtin "type.__call__" ⟨.ref C :: rest, kw⟩)) (.call (.ref fI) ⟨.ref (h.objs.size + 1) :: rest, kw⟩) (W.InitBack (h.objs.size + 1) R)
      ⟨(h.push (W.kdv_tup rest)).push (excO C h.objs.size), g, d, t, os⟩) :
    codeAny (model prog w) A (.call (.ref C) ⟨rest, kw⟩) R ⟨h, g, d, t, os⟩ := by
  have f1 := tc_lookup
  have f2 := tc_bind (.ref C)
  have hTy : (⟨h, g, d, t, os⟩ : Shared).TypeIs (.ref C) "type" := ⟨_, hC, rfl⟩
  refine codeAny_of_tree ?_
  show wpAny _ _ (callAny (.ref C) _) _ _ _
  repeat (any_goals (first | assumption | with_reducible refine wpAny_loadPart_at hC ?_ | wp_step))
  refine ⟨rfl, ?_⟩
  refine codeAny_call_builtin_at (Code.quiet_builtin _ (by decide +kernel)) entry_typeCall (kw_check_type hC (kw_type_call F hT hC hi hb fit ?_))
  refine codeAny_mono hq fun r s' z => ?_
  rcases r with e | (v | _ | _ | _) <;> exact z
end
end PySem.VzK
set_option Elab.async false
set_option linter.all false
set_option maxRecDepth 100000
set_option maxHeartbeats 4000000
/-! Errors as values: made by place or by name, asked for their class and their fields; repr of data that has an empty dict. -/
namespace Vz
open PySem PySem.Spec PyProof.Rows L2
/-- the object at e is an error of the class C whose own dict holds fs -/
def Made (H : Hp) (e C : Addr) (fs : List (Str × V)) : Prop := ∃ dx, H e = some (exo e C (some dx)) ∧ H dx = some (exd dx fs)
theorem made_map {H H' : Hp} {e C : Addr} {fs : List (Str × V)} (h : Made H e C fs) (k : ∀ a o, H a = some o → H' a = some o) : Made H' e C fs := by
  obtain ⟨dx, h1, h2⟩ := h
  exact ⟨dx, k _ _ h1, k _ _ h2⟩
theorem made_inst {X : Cx} {pins : List (Addr × Obj)} {σ : L2.St} {H : Hp} {s : Shared} {a C : Addr} {fs : List (Str × V)} (I : Inv X pins σ H s) (h : Made H a C fs) :
    ∃ (oe od : Obj) (mA : Str → Option Value), PySem.W.InstAt s.heap a oe C (some od) ∧ (∀ n, PySem.W.lookIn n od = some (mA n)) ∧ ∀ n, RelO (fs.lookup n) (mA n) := by
  obtain ⟨dx, h1, h2⟩ := h
  obtain ⟨t1, ho⟩ := exo_at I.hok h1
  obtain ⟨mA, hns, hr⟩ := exd_at I.hok h2
  obtain ⟨od, hod, hl⟩ := lookIn_ns hns
  exact ⟨_, od, mA, ⟨ho, rfl, rfl, hod⟩, hl, hr⟩
/-! ### the call -/
section
variable {X : Cx} {CX : CXT} {k : Nat} {f C : Addr} {fd : FuncData} {ps ks : List Str} {sp : Sp} {g : List Value → List Value → List Value} {gV : List V → List V → List V}
theorem run_mkx {pins : List (Addr × Obj)} {σ : L2.St} {H : Hp} {s : Shared} {Q : VK} {us ws : List Value} {vs zs : List V} (T : OexC X.K C) (iC : PySem.W.findIn X.K (.ref C) "__init__" = some (some (.ref f))) (tI : PySem.W.typeIn X.K (.ref f) = some (.type "function"))
    (F : FnOk X.prog X.w X.K X.mg X.base CX k f fd ps sp) (hr : Room (k + 1) X.A) (hb : KBinds X.K fd ps ks g gV) (hx : Passes CX X (fun _ _ _ => False)) (I : Inv X pins σ H s) (r : Vals vs us) (rz : Vals zs ws) (fit : us.length ≤ sizeLine)
    (h : ∀ a, H a = none → sp (gV (.ref a :: vs) zs) (upd H a (exo a C none)) (fun z H3 => z = .non ∧ Q (.ref a) H3) (fun _ _ _ => False)) :
    wpAny (model X.prog X.w) X.A (call (.ref C) us (ks.zip ws)) (EP X pins σ Q) X.xe s := by
  obtain ⟨nm, q, N, bs, bm, sn, sub, ab, col, dd, k0, k1, k2, k3, k5, hC, hbm⟩ := T.cls
  obtain ⟨hp, g0, dr, tk, os⟩ := s
  have hsz : hp.objs.size ≤ hp.objs.size + 1 := Nat.le_succ _
  have hn : H (hp.objs.size + 1) = none := I.hok.fresh hsz
  have hq := h (hp.objs.size + 1) hn
  have kk : ∀ b o, hp.get? b = some o → ((hp.push (PySem.W.kdv_tup us)).push (PySem.HandSPX.excO C hp.objs.size)).get? b = some o := fun b o e => Heap.get?_push_of_some _ (Heap.get?_push_of_some _ e)
  have hget : ((hp.push (PySem.W.kdv_tup us)).push (PySem.HandSPX.excO C hp.objs.size)).get? (hp.objs.size + 1) = some (PySem.HandSPX.excO C hp.objs.size) := by heap_get
  have I2 : Inv X pins σ (upd H (hp.objs.size + 1) (exo (hp.objs.size + 1) C none)) ⟨(hp.push (PySem.W.kdv_tup us)).push (PySem.HandSPX.excO C hp.objs.size), g0, dr, tk, os⟩ :=
    I.laid (t' := tk) (a := hp.objs.size + 1) (o := exo (hp.objs.size + 1) C none) (h' := (hp.push (PySem.W.kdv_tup us)).push (PySem.HandSPX.excO C hp.objs.size)) kk hsz (exo_ok hget)
  have r2 : Vals (gV (V.ref (hp.objs.size + 1) :: vs) zs) (g (Value.ref (hp.objs.size + 1) :: us) ws) := hb.rel (.cons rfl r) rz
  have hl : (g (Value.ref (hp.objs.size + 1) :: us) ws).length = ps.length := by rw [← r2.length]; exact F.len _ _ _ _ hq
  refine wpAny_call (PySem.VzK.kw_call PySem.F.excBase_ValueError (fun Y => PySem.HandSPX.refsVE_contains Y bm hbm) (I.kIn _ _ hC) (PySem.W.looks_findIn I.kIn iC) (fun self => PySem.W.bind_fn I.kIn self tI) fit
    (codeAny_mono (F.run _ X.stack _ _ ⟨Value.ref (hp.objs.size + 1) :: us, ks.zip ws⟩ _ _ _ (fun _ _ _ => False) (hr.make C us (ks.zip ws)) (I2.env0.make C us (ks.zip ws)) (hb.to _ (Value.ref (hp.objs.size + 1) :: us) ws I2.kIn hl) r2 hq) fun r s' hq' => ?_))
  cases r with
  | error er => exact hx pins σ _ _ er s' I2 hq'
  | ok fl =>
    cases fl with
    | ret u =>
      obtain ⟨v, H', I3, rv, ev, q3⟩ := I2.after hq'
      subst ev
      exact ⟨rv, ⟨V.ref (hp.objs.size + 1), H', I3, rfl, q3⟩⟩
    | next => exact False.elim hq'
    | brk => exact False.elim hq'
    | cont => exact False.elim hq'
def tMk (C : Addr) (sp : Sp) (gV : List V → List V → List V) (t tk : TA) : TE := fun σ H Q => t σ H fun vs H1 => tk σ H1 fun zs H2 => vs.length ≤ sizeLine ∧ ∀ a, H2 a = none → sp (gV (.ref a :: vs) zs) (upd H2 a (exo a C none)) (fun z H3 => z = .non ∧ Q (.ref a) H3) (fun _ _ _ => False)
/-- X(e, ..) -/
theorem pe_mkx {x : Str} {p pos : Pos} {e : Expr} {es : List Expr} {t : TA} (T : OexC X.K C) (iC : PySem.W.findIn X.K (.ref C) "__init__" = some (some (.ref f))) (tI : PySem.W.typeIn X.K (.ref f) = some (.type "function"))
    (F : FnOk X.prog X.w X.K X.mg X.base CX k f fd ps sp) (hr : Room (k + 1) X.A) (bd : Binds X.K fd ps []) (hx : Passes CX X (fun _ _ _ => False)) (gl : Gl X x) (at_ : X.mg x = some (.ref C)) (pa : PA X (e :: es) t)
    (nodb : (x == ("__debug__" : Str)) = false := by decide) (st : starEach (e :: es) X.env = (false, eval e X.env) :: starEach es X.env := by rfl) (pl : (backTo pos (starEach es X.env)).any (·.1) = false := by rfl) :
    PE X (.Call (.Name x p) (e :: es) [] pos) (tMk C sp (fun vs _ => vs) t tNil) := by
  have hb : KBinds X.K fd ps [] (fun us _ => us) (fun vs _ => vs) := ⟨fun s us ws X hl => by have z := bd s us X (by rw [List.append_nil]; exact hl); rw [List.append_nil] at z; exact z, fun r _ => r⟩
  constructor
  intro pins s σ H Q I h
  apply wpAny_Call_Name_kw
  refine ld_glob I gl at_ ?_ nodb
  refine PySem.W.callWith_K (h₀ := X.base) I.ok.mod.kin T.kC (thn (pa.run pos pins s σ H _ I h) ?_) st pl
  rintro us s1 ⟨vs, H1, I1, r, fit, q⟩
  refine ⟨I1.kIn, ?_⟩
  exact run_mkx (ks := []) (ws := []) (zs := []) T iC tI F hr hb hx I1 r .nil (by rw [List.nil_append, ← r.length]; exact fit) q
/-- X(k = e, ..) -/
theorem pe_mkxK {x : Str} {p pos : Pos} {kws : List Keyword} {tkw : TA} (T : OexC X.K C) (iC : PySem.W.findIn X.K (.ref C) "__init__" = some (some (.ref f))) (tI : PySem.W.typeIn X.K (.ref f) = some (.type "function"))
    (F : FnOk X.prog X.w X.K X.mg X.base CX k f fd ps sp) (hr : Room (k + 1) X.A) (hb : KBinds X.K fd ps ks g gV) (hx : Passes CX X (fun _ _ _ => False)) (gl : Gl X x) (at_ : X.mg x = some (.ref C)) (pk : PK X kws tkw)
    (al : (backToKw pos (keywordEach kws X.env)).all (·.1.isSome) = true := by rfl) (nm : (backToKw pos (keywordEach kws X.env)).filterMap (·.1) = ks := by rfl) (nodb : (x == ("__debug__" : Str)) = false := by decide)
    (pl : ((backTo pos (starEach [] X.env)).any (·.1) || (backToKw pos (keywordEach kws X.env)).any (·.1.isNone)) = false := by rfl) :
    PE X (.Call (.Name x p) [] kws pos) (tMk C sp gV tNil tkw) := by
  constructor
  intro pins s σ H Q I h
  apply wpAny_Call_Name_kw
  refine ld_glob I gl at_ ?_ nodb
  refine PySem.W.callWith_KW0 (h₀ := X.base) I.ok.mod.kin T.kC al (thn (pk.run pos pins s σ H _ I h) ?_) pl
  rintro ws s2 ⟨zs, H2, I2, rz, fit, q2⟩
  refine ⟨I2.kIn, ?_⟩
  rw [nm]
  exact run_mkx (us := []) (vs := []) T iC tI F hr hb hx I2 .nil rz (Nat.zero_le _) q2
end
/-! ### the two kinds of __init__ -/
def sp_iniA (C : Addr) (f : Str) : Sp := fun vs H Q _ => ∃ (a : Addr) (v : V), vs = [.ref a, v] ∧ H a = some (exo a C none) ∧ ∀ dx, H dx = none → dx ≠ a → Q .non (upd (upd H dx (exd dx [(f, v)])) a (exo a C (some dx)))
def sp_iniB (C : Addr) (f1 f2 : Str) : Sp := fun vs H Q _ => ∃ (a : Addr) (v y : V), vs = [.ref a, v, y] ∧ H a = some (exo a C none) ∧ ∀ dx, H dx = none → dx ≠ a → Q .non (upd (upd (upd H dx (exd dx [(f1, v)])) a (exo a C (some dx))) dx (exd dx [(f2, y), (f1, v)]))
def kwA {α : Type} : List α → List α → List α
  | [s], [a] => [s, a]
  | _, _ => []
def kwB {α : Type} : List α → List α → List α
  | [s], [a, b] => [s, b, a]
  | _, _ => []
theorem kwA_rel : ∀ {vs zs : List V} {us ws : List Value}, Vals vs us → Vals zs ws → Vals (kwA vs zs) (kwA us ws)
  | _, _, _, _, .cons h .nil, .cons k .nil => .cons h (.cons k .nil)
  | _, _, _, _, .nil, _ => .nil
  | _, _, _, _, .cons _ .nil, .nil => .nil
  | _, _, _, _, .cons _ .nil, .cons _ (.cons _ _) => .nil
  | _, _, _, _, .cons _ (.cons _ _), _ => .nil
theorem kwB_rel : ∀ {vs zs : List V} {us ws : List Value}, Vals vs us → Vals zs ws → Vals (kwB vs zs) (kwB us ws)
  | _, _, _, _, .cons h .nil, .cons k (.cons l .nil) => .cons h (.cons l (.cons k .nil))
  | _, _, _, _, .nil, _ => .nil
  | _, _, _, _, .cons _ .nil, .nil => .nil
  | _, _, _, _, .cons _ .nil, .cons _ .nil => .nil
  | _, _, _, _, .cons _ .nil, .cons _ (.cons _ (.cons _ _)) => .nil
  | _, _, _, _, .cons _ (.cons _ _), _ => .nil
theorem made_new {H : Hp} {a C : Addr} {fs : List (Str × V)} {dx : Addr} (na : H a = none) (nd : H dx = none) (ne : dx ≠ a) (Z : Hp) (e1 : Z a = some (exo a C (some dx))) (e2 : Z dx = some (exd dx fs)) (e3 : ∀ b, b ≠ a → b ≠ dx → Z b = H b) :
    (∀ b o, H b = some o → Z b = some o) ∧ Made Z a C fs :=
  ⟨fun b o e => by rw [e3 b (fun z => by rw [z, na] at e; cases e) (fun z => by rw [z, nd] at e; cases e)]; exact e, ⟨dx, e1, e2⟩⟩
/-- X(v), as a value: an error of the class, all else as it was -/
theorem tMk_A {C : Addr} {f : Str} {us : List V} {v : V} {H : Hp} {Q : Addr → Hp → Prop} (hl : us.length ≤ 1000)
    (q : ∀ e H', (∀ b o, H b = some o → H' b = some o) → Made H' e C [(f, v)] → Q e H') :
    us.length ≤ sizeLine ∧ ∀ a, H a = none → sp_iniA C f [.ref a, v] (upd H a (exo a C none)) (fun z H3 => z = .non ∧ Q a H3) (fun _ _ _ => False) := by
  refine ⟨Nat.le_trans hl (by decide), fun a na => ⟨a, v, rfl, upd_same, fun dx nd ne => ⟨rfl, ?_⟩⟩⟩
  rw [upd_ne ne] at nd
  obtain ⟨z1, z2⟩ := made_new (C := C) (fs := [(f, v)]) na nd ne (upd (upd (upd H a (exo a C none)) dx (exd dx [(f, v)])) a (exo a C (some dx))) upd_same (by rw [upd_ne ne, upd_same]) (fun b h1 h2 => by rw [upd_ne h1, upd_ne h2, upd_ne h1])
  exact q a _ z1 z2
theorem tMk_B {C : Addr} {f1 f2 : Str} {us : List V} {v y : V} {H : Hp} {Q : Addr → Hp → Prop} (hl : us.length ≤ 1000)
    (q : ∀ e H', (∀ b o, H b = some o → H' b = some o) → Made H' e C [(f2, y), (f1, v)] → Q e H') :
    us.length ≤ sizeLine ∧ ∀ a, H a = none → sp_iniB C f1 f2 [.ref a, v, y] (upd H a (exo a C none)) (fun z H3 => z = .non ∧ Q a H3) (fun _ _ _ => False) := by
  refine ⟨Nat.le_trans hl (by decide), fun a na => ⟨a, v, y, rfl, upd_same, fun dx nd ne => ⟨rfl, ?_⟩⟩⟩
  rw [upd_ne ne] at nd
  obtain ⟨z1, z2⟩ := made_new (C := C) (fs := [(f2, y), (f1, v)]) na nd ne (upd (upd (upd (upd H a (exo a C none)) dx (exd dx [(f1, v)])) a (exo a C (some dx))) dx (exd dx [(f2, y), (f1, v)])) (by rw [upd_ne (Ne.symm ne), upd_same]) upd_same
    (fun b h1 h2 => by rw [upd_ne h2, upd_ne h1, upd_ne h2, upd_ne h1])
  exact q a _ z1 z2
/-! ### isinstance and the fields -/
def rIsO (K : PySem.W.Frag) : List V → Hp → VK → Prop := fun xs H Q => ∃ (a C : Addr) (c : V) (fs : List (Str × V)) (b : Bool), xs = [.ref a, c] ∧ XcF K C ∧ Made H a C fs ∧
  ((∃ cv : Value, (∀ u, RelV c u → u = cv) ∧ PySem.W.kitOne K (.ref C) cv = some b) ∨ (∃ (p : Addr) (cs : List V) (its : List Value), c = .ref p ∧ SqT K H p cs ∧ (∀ us, Vals cs us → us = its) ∧ PySem.W.kitAny K (.ref C) its = some b)) ∧ Q (.bl b) H
theorem call_isO {X : Cx} : CallR X (.builtin "isinstance") (rIsO X.K) := by
  intro pins s σ H xs us Q I r h
  obtain ⟨a, C, c, fs, b, rfl, T, mk, way, q⟩ := h
  cases r with
  | cons rx rr =>
    cases rr with
    | cons rt rr =>
      cases rr
      cases rx
      obtain ⟨oe, od, mA, J, _, _⟩ := made_inst I mk
      rcases way with ⟨cv, hcv, e⟩ | ⟨p, cs, its, rfl, hs, hi, e⟩
      · have ec := hcv _ rt
        subst ec
        exact PySem.W.kia_one (PySem.W.kitx_exc (od := some od) T.cl T.ga T.gg T.su T.ha T.hn T.ht T.hm) I.kIn J e (fun z => nomatch z) fun tk => ⟨.bl b, H, I.kept (t' := tk) fun _ _ z => z, rfl, q⟩
      · cases rt
        obtain ⟨us, rv, ⟨o, ho, hc, n, hd⟩, _⟩ := I.tuple hs
        have eu := hi _ rv
        subst eu
        obtain ⟨ocl, odd, oda, osl⟩ := o
        simp only at hc hd
        subst hc hd
        exact PySem.W.kia_tup (PySem.W.kitx_exc (od := some od) T.cl T.ga T.gg T.su T.ha T.hn T.ht T.hm) I.kIn J ho e (fun z => nomatch z) fun tk => ⟨.bl b, H, I.kept (t' := tk) fun _ _ z => z, rfl, q⟩
def tXo (K : PySem.W.Frag) (f : Str) (te : TE) : TE := fun σ H Q => te σ H fun x H1 => ∃ (a C : Addr) (fs : List (Str × V)) (v : V), x = .ref a ∧ XcF K C ∧ PySem.W.findIn K (.ref C) f = some none ∧ Made H1 a C fs ∧ fs.lookup f = some v ∧ Q v H1
theorem pe_xo {X : Cx} {e : Expr} {te : TE} {pos : Pos} {n : Str} (he : PE X e te) (hb : attributeBase e n X.env (eval e X.env) = eval e X.env := by rfl) : PE X (.Attribute e n pos) (tXo X.K n te) := by
  refine ⟨fun pins s σ H Q I h => ?_⟩
  refine attr_of hb (thn (he.run pins s σ H _ I h) fun u s1 hh => ?_)
  obtain ⟨x, H1, I1, rx, a, C, fs, v, ex, T, hno, ix, l, q⟩ := hh
  subst ex
  obtain rfl : u = Value.ref a := rx
  obtain ⟨oe, od, mA, J, hl, hr⟩ := made_inst I1 ix
  obtain ⟨u, hu, ru⟩ := RelO.some_of (v := v) (o := mA n) (by rw [← l]; exact hr n)
  exact HandSPX.exc_get I1.kIn J T.ga T.gg T.su (PySem.W.findObj_own T.hd hno rfl (by rw [hl, hu])) (handed_of ru) ⟨v, H1, I1.tok _, ru, q⟩
theorem pe_xoK {X : Cx} {K : PySem.W.Frag} {e : Expr} {te : TE} {pos : Pos} {n : Str} (hK : X.K = K) (he : PE X e te) (hb : attributeBase e n X.env (eval e X.env) = eval e X.env := by rfl) : PE X (.Attribute e n pos) (tXo K n te) := by
  subst hK
  exact pe_xo he hb
/-! ### lists that are surely none of the machine's own -/
def tLstN (t : TA) : TE := fun σ H Q => t σ H fun xs H1 => xs.length ≤ sizeLine ∧ ∀ p, H1 p = none → p ≠ sysModules → Q (.ref p) (upd H1 p (.lst xs))
theorem pe_lstN {X : Cx} {es : List Expr} {pos : Pos} {t : TA} (h : PA X es t) : PE X (.List es pos) (tLstN t) := by
  refine ⟨fun pins s σ H Q I hq => ?_⟩
  refine wpAny_List_spliced (thn (h.run pos pins s σ H _ I hq) fun us s1 ⟨xs, H1, I1, r, z, q⟩ => ⟨by rw [← r.length]; exact z, ?_⟩)
  have hf : H1 s1.heap.objs.size = none := I1.hok.fresh (Nat.le_refl _)
  refine ⟨.ref s1.heap.objs.size, upd H1 s1.heap.objs.size (.lst xs), I1.laid (t' := s1.toks) (fun b u e => Heap.get?_push_of_some _ e) (Nat.le_refl _) ⟨z, us, 0, r, Heap.get?_push_size _ rfl⟩, rfl, q _ hf (Nat.ne_of_gt I1.big)⟩
def rCatN (K : PySem.W.Frag) : R2 := fun x y H Q => ∃ (a b : Addr) (xs zs : List V), x = .ref a ∧ y = .ref b ∧ SqL K H a xs ∧ SqL K H b zs ∧ xs.length + zs.length ≤ sizeLine ∧
  ∀ p, H p = none → p ≠ sysModules → Q (.ref p) (upd H p (.lst (xs ++ zs)))
theorem op_catN {X : Cx} : OpR X (binaryOp .Add) (rCatN X.K) := by
  intro pins s σ H x y v u Q I rx ry h
  obtain ⟨a, b, xs, zs, rfl, rfl, hA, hB, sz, q⟩ := h
  have ex : v = Value.ref a := rx
  have ey : u = Value.ref b := ry
  subst ex ey
  obtain ⟨its, r1, ⟨o1, n1, g1, c1, d1, e1⟩, _⟩ := I.list hA
  obtain ⟨its2, r2, ⟨o2, n2, g2, c2, d2, e2⟩, _⟩ := I.list hB
  obtain ⟨cl1, dd1, da1, sl1⟩ := o1
  obtain ⟨cl2, dd2, da2, sl2⟩ := o2
  simp only at c1 d1 e1 c2 d2 e2
  subst c1 d1 e1 c2 d2 e2
  have l1 := r1.length
  have l2 := r2.length
  have room : its.toArray.size + its2.toArray.size ≤ sizeLine := by rw [List.size_toArray, List.size_toArray]; omega
  refine concat_meets ⟨_, g1, rfl⟩ ⟨_, g2, rfl⟩ noFill_list_add seq_list_add PySem.F.slot_list_add PySem.F.entry_list_add (PySem.F.args_list_add_2 _ _)
    (list_addW a b its.toArray its2.toArray n1 n2 none none sl1 sl2 room) ⟨g1, g2, ?_⟩
  have ea : its.toArray ++ its2.toArray = (its ++ its2).toArray := by simp
  rw [ea]
  exact ⟨.ref _, _, I.lnew (t' := s.toks) (r1.append r2) (by rw [List.length_append]; omega), rfl, q _ I.fresh (Nat.ne_of_gt I.big)⟩
/-! ### repr of data with an empty dict in it -/
mutual
inductive Dd (K : PySem.W.Frag) (H : Hp) : V → PyData → Prop
  | non : Dd K H .non .none
  | bl (b : Bool) : Dd K H (.bl b) (.bool b)
  | int (i : Int) : Dd K H (.int i) (.int i)
  | str (x : Str) : Dd K H (.str x) (.str x)
  | lst {a : Addr} {xs : List V} {ds : List PyData} : SqL K H a xs → a ≠ sysModules → DdAll K H xs ds → Dd K H (.ref a) (.list ds)
  | tup {a : Addr} {xs : List V} {ds : List PyData} : SqT K H a xs → DdAll K H xs ds → Dd K H (.ref a) (.tuple ds)
  | dic0 {a : Addr} : H a = some (.dK []) → Dd K H (.ref a) (.dict [])
inductive DdAll (K : PySem.W.Frag) (H : Hp) : List V → List PyData → Prop
  | nil : DdAll K H [] []
  | cons {v : V} {vs : List V} {d : PyData} {ds : List PyData} : Dd K H v d → DdAll K H vs ds → DdAll K H (v :: vs) (d :: ds)
end
section
variable {X : Cx} {pins : List (Addr × Obj)} {σ : L2.St} {H : Hp} {s : Shared}
mutual
theorem dd_reads (I : Inv X pins σ H s) : ∀ (d : PyData) (v : V) (u : Value), Dd X.K H v d → RelV v u → ∃ as, Reads s.heap u d as ∧ sysModules ∉ as
  | .none, _, _, h, r => by cases h; cases r; exact ⟨_, .none, by simp⟩
  | .bool b, _, _, h, r => by cases h; cases r; exact ⟨_, .bool b, by simp⟩
  | .int i, _, _, h, r => by cases h; obtain ⟨t, rfl⟩ := r; exact ⟨_, .int i t, by simp⟩
  | .str x, _, _, h, r => by cases h; obtain ⟨t, rfl⟩ := r; exact ⟨_, .str x t, by simp⟩
  | .list ds, _, _, h, r => by
    cases h with
    | lst hs hn ha =>
      cases r
      obtain ⟨its, rv, ⟨o, n, ho, hc, _, hd⟩, _⟩ := I.list hs
      obtain ⟨as, hr, hm⟩ := dd_readsAll I ds _ its ha rv
      exact ⟨_, .list ho hc hd hr, fun z => by rcases List.mem_cons.mp z with z | z; exact hn z.symm; exact hm z⟩
  | .tuple ds, _, _, h, r => by
    cases h with
    | tup hs ha =>
      cases r
      obtain ⟨its, rv, ⟨o, ho, hc, n, hd⟩, _⟩ := I.tuple hs
      obtain ⟨as, hr, hm⟩ := dd_readsAll I ds _ its ha rv
      exact ⟨_, .tuple ho hc hd hr, hm⟩
  | .dict kvs, v, u, h, r => by
    generalize he : PyData.dict kvs = d at h
    cases h <;> cases he
    rename_i a ha
    cases r
    have x : ObjOk X.prog X.w H s.heap a (.dK []) := I.hok a _ ha
    obtain ⟨_, hn, vs, hv, o, es, ep, ho, hx, hdat, _, hp, _⟩ := x
    cases hv
    have e0 : es.toList = [] := by
      generalize es.toList = l at hp
      cases hp
      rfl
    refine ⟨_, .dict (as := []) (bs := []) (kvs := []) ho hx.1 hdat (by rw [e0]; exact .nil) (by rw [e0]; exact .nil), ?_⟩
    intro z
    rcases List.mem_cons.mp z with z | z
    · rw [← z] at hn; exact absurd hn (by decide)
    · exact absurd z (by simp)
theorem dd_readsAll (I : Inv X pins σ H s) : ∀ (ds : List PyData) (vs : List V) (us : List Value), DdAll X.K H vs ds → Vals vs us → ∃ as, ReadsAll s.heap us ds as ∧ sysModules ∉ as
  | [], _, _, h, r => by cases h; cases r; exact ⟨_, .nil, by simp⟩
  | d :: ds, _, _, h, r => by
    cases h with
    | cons h1 h2 =>
      cases r with
      | cons r1 r2 =>
        obtain ⟨as, q1, m1⟩ := dd_reads I d _ _ h1 r1
        obtain ⟨bs, q2, m2⟩ := dd_readsAll I ds _ _ h2 r2
        exact ⟨_, .cons q1 q2, fun z => by rcases List.mem_append.mp z with z | z; exact m1 z; exact m2 z⟩
end
end
mutual
theorem dd_map {K : PySem.W.Frag} {H H' : Hp} (fL : ∀ {a : Addr} {xs : List V}, SqL K H a xs → SqL K H' a xs) (fT : ∀ {a : Addr} {xs : List V}, SqT K H a xs → SqT K H' a xs) (fD : ∀ {a : Addr}, H a = some (.dK []) → H' a = some (.dK [])) : ∀ (d : PyData) (v : V), Dd K H v d → Dd K H' v d
  | .none, _, h => by cases h; exact .non
  | .bool b, _, h => by cases h; exact .bl b
  | .int i, _, h => by cases h; exact .int i
  | .str x, _, h => by cases h; exact .str x
  | .list ds, _, h => by
    cases h with
    | lst q n r => exact .lst (fL q) n (ddAll_map fL fT fD ds _ r)
  | .tuple ds, _, h => by
    cases h with
    | tup q r => exact .tup (fT q) (ddAll_map fL fT fD ds _ r)
  | .dict kvs, v, h => by
    generalize he : PyData.dict kvs = d at h
    cases h <;> cases he
    rename_i a ha
    exact .dic0 (fD ha)
theorem ddAll_map {K : PySem.W.Frag} {H H' : Hp} (fL : ∀ {a : Addr} {xs : List V}, SqL K H a xs → SqL K H' a xs) (fT : ∀ {a : Addr} {xs : List V}, SqT K H a xs → SqT K H' a xs) (fD : ∀ {a : Addr}, H a = some (.dK []) → H' a = some (.dK [])) : ∀ (ds : List PyData) (vs : List V), DdAll K H vs ds → DdAll K H' vs ds
  | [], _, h => by cases h; exact .nil
  | d :: ds, _, h => by
    cases h with
    | cons q r => exact .cons (dd_map fL fT fD d _ q) (ddAll_map fL fT fD ds _ r)
end
def rReprD (K : PySem.W.Frag) : List V → Hp → VK → Prop := fun xs H Q => ∃ (p : Addr) (d : PyData), xs = [.ref p] ∧ Dd K H (.ref p) d ∧ d.showable = true ∧ d.depth ≤ 60 ∧ d.shown.length ≤ sizeLine ∧ Q (.str d.shown) H
theorem repr_dd {X : Cx} (gd : X.A.guards = some []) (un : X.A.units + 64 < cLine) : CallR X (.builtin "repr") (rReprD X.K) := by
  intro pins s σ H xs us Q I r h
  obtain ⟨p, d, rfl, hd, sh, dp, sz, q⟩ := h
  obtain ⟨u, rfl, ru⟩ := vals1 r
  obtain ⟨as, rd, hm⟩ := dd_reads I d _ _ hd ru
  have ru' : u = Value.ref p := ru
  subst ru'
  refine repr_of_reads' rd sh (fun _ => hm) gd (by omega) (fun _ _ e => e) (fun h' tx tk kp => ?_) sz
  exact ⟨.str d.shown, H, I.kept (t' := tk) kp, ⟨tx, rfl⟩, q⟩
/-- what every class of the errors says, and that none is under another -/
def xcB (K : PySem.W.Frag) (C : Addr) : Bool :=
  decide (PySem.W.findIn K (.ref C) "__getattribute__" = some (some (.builtin "BaseException.__getattribute__"))) && (decide (PySem.W.findIn K (.ref C) "__getattr__" = some none) && (decide (PySem.W.subIn K (.ref C) (.type "BaseException") = some true) &&
  (decide (PySem.W.hasDictIn K C = true) && (decide (PySem.W.findIn K (.ref C) "__class__" = some (some (.builtin "object.__class__"))) && (decide (PySem.W.specialIn K (.builtin "object.__class__") "__get__" = some (some (.builtin "getset_descriptor.__get__"))) &&
  (decide (PySem.W.takesIn K (.builtin "object.__class__") = some true) && decide (PySem.W.mroIn K C (.type "object") = some true)))))))
theorem xcB_ok {K : PySem.W.Frag} {C : Addr} (h : xcB K C = true) : XcF K C := by
  unfold xcB at h
  obtain ⟨h1, h⟩ := Bool.and_eq_true_iff.mp h
  obtain ⟨h2, h⟩ := Bool.and_eq_true_iff.mp h
  obtain ⟨h3, h⟩ := Bool.and_eq_true_iff.mp h
  obtain ⟨h4, h⟩ := Bool.and_eq_true_iff.mp h
  obtain ⟨h5, h⟩ := Bool.and_eq_true_iff.mp h
  obtain ⟨h6, h⟩ := Bool.and_eq_true_iff.mp h
  obtain ⟨h7, h8⟩ := Bool.and_eq_true_iff.mp h
  exact ⟨of_decide_eq_true h1, of_decide_eq_true h2, of_decide_eq_true h3, of_decide_eq_true h4, of_decide_eq_true h5, of_decide_eq_true h6, of_decide_eq_true h7, of_decide_eq_true h8⟩
def famC (K : PySem.W.Frag) (F C : Addr) : Bool := xcB K C && (decide (PySem.W.kitOne K (.ref C) (.ref F) = some true) && (decide (PySem.W.kitOne K (.ref C) (.type "ValueError") = some true) && decide (PySem.W.kitAny K (.ref C) [.type "LookupError", .type "RuntimeError"] = some false)))
def famB (K : PySem.W.Frag) (F : Addr) (cs : List Addr) : Bool := cs.all (famC K F) && (List.range cs.length).all fun i => (List.range cs.length).all fun k => decide (PySem.W.kitOne K (.ref (cs.getD i 0)) (.ref (cs.getD k 0)) = some (i == k))
theorem famB_ok {K : PySem.W.Frag} {F : Addr} {cs : List Addr} (h : famB K F cs = true) {i : Nat} {C : Addr} (hi : cs[i]? = some C) :
    XcF K C ∧ PySem.W.kitOne K (.ref C) (.ref F) = some true ∧ PySem.W.kitOne K (.ref C) (.type "ValueError") = some true ∧ PySem.W.kitAny K (.ref C) [.type "LookupError", .type "RuntimeError"] = some false ∧
    ∀ k, k < cs.length → PySem.W.kitOne K (.ref C) (.ref (cs.getD k 0)) = some (i == k) := by
  obtain ⟨h1, h2⟩ := Bool.and_eq_true_iff.mp h
  have a := List.all_eq_true.mp h1 C (List.mem_of_getElem? hi)
  obtain ⟨a1, a⟩ := Bool.and_eq_true_iff.mp a
  obtain ⟨a2, a⟩ := Bool.and_eq_true_iff.mp a
  obtain ⟨a3, a4⟩ := Bool.and_eq_true_iff.mp a
  refine ⟨xcB_ok a1, of_decide_eq_true a2, of_decide_eq_true a3, of_decide_eq_true a4, fun k hk => ?_⟩
  have il : i < cs.length := (List.getElem?_eq_some_iff.mp hi).1
  have b := List.all_eq_true.mp (List.all_eq_true.mp h2 i (List.mem_range.mpr il)) k (List.mem_range.mpr hk)
  have e : cs.getD i 0 = C := by rw [List.getD_eq_getElem?_getD, hi]; rfl
  rw [e] at b
  exact of_decide_eq_true b
theorem kwA_two {P : Prop} : ∀ {us ws : List Value}, (kwA us ws).length = 2 → (∀ s a, us = [s] → ws = [a] → P) → P
  | [s], [a], _, h => h s a rfl rfl
  | [], _, h, _ => absurd (show (0 : Nat) = 2 from h) (by decide)
  | [_], [], h, _ => absurd (show (0 : Nat) = 2 from h) (by decide)
  | [_], _ :: _ :: _, h, _ => absurd (show (0 : Nat) = 2 from h) (by decide)
  | _ :: _ :: _, _, h, _ => absurd (show (0 : Nat) = 2 from h) (by decide)
theorem kwB_three {P : Prop} : ∀ {us ws : List Value}, (kwB us ws).length = 3 → (∀ s a b, us = [s] → ws = [a, b] → P) → P
  | [s], [a, b], _, h => h s a b rfl rfl
  | [], _, h, _ => absurd (show (0 : Nat) = 3 from h) (by decide)
  | [_], [], h, _ => absurd (show (0 : Nat) = 3 from h) (by decide)
  | [_], [_], h, _ => absurd (show (0 : Nat) = 3 from h) (by decide)
  | [_], _ :: _ :: _ :: _, h, _ => absurd (show (0 : Nat) = 3 from h) (by decide)
  | _ :: _ :: _, _, h, _ => absurd (show (0 : Nat) = 3 from h) (by decide)
/-- the things of a list, each an error of the class that stands there, with the fields that stand there -/
def MadeAll (H : Hp) : List V → List Addr → List (List (Str × V)) → Prop
  | [], [], [] => True
  | x :: xs, C :: cs, f :: fs => (∃ e, x = .ref e ∧ Made H e C f) ∧ MadeAll H xs cs fs
  | _, _, _ => False
theorem madeAll_map {H H' : Hp} (k : ∀ a o, H a = some o → H' a = some o) : ∀ {xs : List V} {cs : List Addr} {fs : List (List (Str × V))}, MadeAll H xs cs fs → MadeAll H' xs cs fs
  | [], [], [], _ => True.intro
  | _ :: _, _ :: _, _ :: _, ⟨⟨e, h1, h2⟩, h⟩ => ⟨⟨e, h1, made_map h2 k⟩, madeAll_map k h⟩
theorem madeAll_app {H : Hp} : ∀ {xs ys : List V} {cs ds : List Addr} {fs gs : List (List (Str × V))}, MadeAll H xs cs fs → MadeAll H ys ds gs → MadeAll H (xs ++ ys) (cs ++ ds) (fs ++ gs)
  | [], _, [], _, [], _, _, b => b
  | _ :: _, _, _ :: _, _, _ :: _, _, ⟨p, h⟩, b => ⟨p, madeAll_app h b⟩
theorem madeAll_at {H : Hp} : ∀ {xs : List V} {cs : List Addr} {fs : List (List (Str × V))}, MadeAll H xs cs fs → ∀ {i : Nat} {x : V}, xs[i]? = some x → ∃ C f e, cs[i]? = some C ∧ fs[i]? = some f ∧ x = .ref e ∧ Made H e C f
  | x :: _, C :: _, f :: _, ⟨⟨e, h1, h2⟩, h⟩, 0, y, hx => ⟨C, f, e, rfl, rfl, by cases hx; exact h1, h2⟩
  | _ :: _, _ :: _, _ :: _, ⟨_, h⟩, i + 1, y, hx => madeAll_at h (i := i) (x := y) hx
  | [], [], [], _, i, y, hx => by cases hx
theorem madeAll_len {H : Hp} : ∀ {xs : List V} {cs : List Addr} {fs : List (List (Str × V))}, MadeAll H xs cs fs → xs.length = cs.length
  | [], [], [], _ => rfl
  | _ :: _, _ :: _, _ :: _, ⟨_, h⟩ => by rw [List.length_cons, List.length_cons, madeAll_len h]
theorem madeAll_cons {H : Hp} {C : Addr} {cs : List Addr} {f : List (Str × V)} {fs : List (List (Str × V))} : ∀ {xs : List V}, MadeAll H xs (C :: cs) (f :: fs) → ∃ e ys, xs = .ref e :: ys ∧ Made H e C f ∧ MadeAll H ys cs fs
  | x :: ys, ⟨⟨e, h1, h2⟩, h⟩ => ⟨e, ys, by rw [h1], h2, h⟩
theorem madeAll_nil {H : Hp} : ∀ {xs : List V}, MadeAll H xs [] [] → xs = []
  | [], _ => rfl
/-- each of them has v in its field f -/
def PartAll (K : PySem.W.Frag) (H : Hp) (f : Str) (v : V) : List V → Prop
  | [] => True
  | x :: xs => (∃ e C fs, x = .ref e ∧ XcF K C ∧ PySem.W.findIn K (.ref C) f = some none ∧ Made H e C fs ∧ fs.lookup f = some v) ∧ PartAll K H f v xs
theorem partAll_at {K : PySem.W.Frag} {H : Hp} {f : Str} {v : V} : ∀ {xs : List V}, PartAll K H f v xs → ∀ {i : Nat} {x : V}, xs[i]? = some x → ∃ e C fs, x = .ref e ∧ XcF K C ∧ PySem.W.findIn K (.ref C) f = some none ∧ Made H e C fs ∧ fs.lookup f = some v
  | _ :: _, ⟨p, _⟩, 0, x, hx => by cases hx; exact p
  | _ :: _, ⟨_, h⟩, i + 1, x, hx => partAll_at h (i := i) (x := x) hx
  | [], _, i, x, hx => by cases hx
/-! ### a class of the program's errors -/
structure XClA (K : PySem.W.Frag) (mg : Str → Option Value) (x f : Str) (st : Stmt) where
  C : Addr
  I : Addr
  i : FuncData
  g : mg x = some (.ref C)
  o : OexC K C
  iC : PySem.W.findIn K (.ref C) "__init__" = some (some (.ref I))
  tI : PySem.W.typeIn K (.ref I) = some (.type "function")
  F : ∃ q, Fun K "__init__" q st I i
  b : Binds K i ["self", f] []
  n : PySem.W.findIn K (.ref C) f = some none
  q : KBinds K i ["self", f] [f] kwA kwA
structure XClB (K : PySem.W.Frag) (mg : Str → Option Value) (x f1 f2 : Str) (st : Stmt) where
  C : Addr
  I : Addr
  i : FuncData
  g : mg x = some (.ref C)
  o : OexC K C
  iC : PySem.W.findIn K (.ref C) "__init__" = some (some (.ref I))
  tI : PySem.W.typeIn K (.ref I) = some (.type "function")
  F : ∃ q, Fun K "__init__" q st I i
  b : Binds K i ["self", f1, f2] []
  n1 : PySem.W.findIn K (.ref C) f1 = some none
  n2 : PySem.W.findIn K (.ref C) f2 = some none
  q : KBinds K i ["self", f1, f2] [f2, f1] kwB kwB
end Vz
set_option Elab.async false
set_option linter.all false
set_option maxRecDepth 100000
set_option maxHeartbeats 2000000
namespace Toy
open PySem PySem.Spec PyProof.Rows L2
def topS (i : Nat) : Stmt := PySem.Challenge.pw_feedreader_k01_error_classes.main.body.getD i (.Pass ⟨0, 0, 0, 0⟩)
abbrev s_BadMoment : Stmt := inClass (topS 2) 0
theorem sc_BadMoment : FnScope ["self", "given"] ["self", "given"] (defScope s_BadMoment) := ⟨rfl, rfl, rfl, by decide +kernel, rfl, by decide +kernel, by decide +kernel⟩
abbrev s_BadZone : Stmt := inClass (topS 3) 0
theorem sc_BadZone : FnScope ["self", "given"] ["self", "given"] (defScope s_BadZone) := ⟨rfl, rfl, rfl, by decide +kernel, rfl, by decide +kernel, by decide +kernel⟩
abbrev s_BadDate : Stmt := inClass (topS 4) 0
theorem sc_BadDate : FnScope ["self", "given"] ["self", "given"] (defScope s_BadDate) := ⟨rfl, rfl, rfl, by decide +kernel, rfl, by decide +kernel, by decide +kernel⟩
abbrev s_BadAddress : Stmt := inClass (topS 5) 0
theorem sc_BadAddress : FnScope ["self", "given"] ["self", "given"] (defScope s_BadAddress) := ⟨rfl, rfl, rfl, by decide +kernel, rfl, by decide +kernel, by decide +kernel⟩
abbrev s_BadEntry : Stmt := inClass (topS 6) 0
theorem sc_BadEntry : FnScope ["self", "field"] ["self", "field"] (defScope s_BadEntry) := ⟨rfl, rfl, rfl, by decide +kernel, rfl, by decide +kernel, by decide +kernel⟩
abbrev s_BadPage : Stmt := inClass (topS 7) 0
theorem sc_BadPage : FnScope ["self", "field", "number"] ["self", "field", "number"] (defScope s_BadPage) := ⟨rfl, rfl, rfl, by decide +kernel, rfl, by decide +kernel, by decide +kernel⟩
abbrev s_BadText : Stmt := inClass (topS 8) 0
theorem sc_BadText : FnScope ["self", "line", "column"] ["self", "line", "column"] (defScope s_BadText) := ⟨rfl, rfl, rfl, by decide +kernel, rfl, by decide +kernel, by decide +kernel⟩
abbrev s_BadNumber : Stmt := inClass (topS 9) 0
theorem sc_BadNumber : FnScope ["self", "field"] ["self", "field"] (defScope s_BadNumber) := ⟨rfl, rfl, rfl, by decide +kernel, rfl, by decide +kernel, by decide +kernel⟩
abbrev s_NoEntry : Stmt := inClass (topS 10) 0
theorem sc_NoEntry : FnScope ["self", "given"] ["self", "given"] (defScope s_NoEntry) := ⟨rfl, rfl, rfl, by decide +kernel, rfl, by decide +kernel, by decide +kernel⟩
abbrev s_Taken : Stmt := inClass (topS 11) 0
theorem sc_Taken : FnScope ["self", "given"] ["self", "given"] (defScope s_Taken) := ⟨rfl, rfl, rfl, by decide +kernel, rfl, by decide +kernel, by decide +kernel⟩
abbrev s_TooMany : Stmt := inClass (topS 12) 0
theorem sc_TooMany : FnScope ["self", "what"] ["self", "what"] (defScope s_TooMany) := ⟨rfl, rfl, rfl, by decide +kernel, rfl, by decide +kernel, by decide +kernel⟩
abbrev s_BadWorld : Stmt := inClass (topS 13) 0
theorem sc_BadWorld : FnScope ["self", "number"] ["self", "number"] (defScope s_BadWorld) := ⟨rfl, rfl, rfl, by decide +kernel, rfl, by decide +kernel, by decide +kernel⟩
abbrev s_BadTrouble : Stmt := inClass (topS 14) 0
theorem sc_BadTrouble : FnScope ["self", "number"] ["self", "number"] (defScope s_BadTrouble) := ⟨rfl, rfl, rfl, by decide +kernel, rfl, by decide +kernel, by decide +kernel⟩
abbrev s_BadThing : Stmt := inClass (topS 15) 0
theorem sc_BadThing : FnScope ["self", "given"] ["self", "given"] (defScope s_BadThing) := ⟨rfl, rfl, rfl, by decide +kernel, rfl, by decide +kernel, by decide +kernel⟩
abbrev s_BadShelf : Stmt := inClass (topS 16) 0
theorem sc_BadShelf : FnScope ["self", "number"] ["self", "number"] (defScope s_BadShelf) := ⟨rfl, rfl, rfl, by decide +kernel, rfl, by decide +kernel, by decide +kernel⟩
abbrev s_NoSighting : Stmt := inClass (topS 17) 0
theorem sc_NoSighting : FnScope ["self", "number"] ["self", "number"] (defScope s_NoSighting) := ⟨rfl, rfl, rfl, by decide +kernel, rfl, by decide +kernel, by decide +kernel⟩
abbrev s_BadDevice : Stmt := inClass (topS 18) 0
theorem sc_BadDevice : FnScope ["self", "given"] ["self", "given"] (defScope s_BadDevice) := ⟨rfl, rfl, rfl, by decide +kernel, rfl, by decide +kernel, by decide +kernel⟩
abbrev s_BadLibrary : Stmt := inClass (topS 19) 0
theorem sc_BadLibrary : FnScope ["self", "number"] ["self", "number"] (defScope s_BadLibrary) := ⟨rfl, rfl, rfl, by decide +kernel, rfl, by decide +kernel, by decide +kernel⟩
abbrev s_Torn : Stmt := inClass (topS 20) 0
theorem sc_Torn : FnScope ["self", "stamp"] ["self", "stamp"] (defScope s_Torn) := ⟨rfl, rfl, rfl, by decide +kernel, rfl, by decide +kernel, by decide +kernel⟩
abbrev s_NoItem : Stmt := inClass (topS 21) 0
theorem sc_NoItem : FnScope ["self", "given"] ["self", "given"] (defScope s_NoItem) := ⟨rfl, rfl, rfl, by decide +kernel, rfl, by decide +kernel, by decide +kernel⟩
abbrev s_BadFolder : Stmt := inClass (topS 22) 0
theorem sc_BadFolder : FnScope ["self", "given"] ["self", "given"] (defScope s_BadFolder) := ⟨rfl, rfl, rfl, by decide +kernel, rfl, by decide +kernel, by decide +kernel⟩
abbrev s_NoNote : Stmt := inClass (topS 23) 0
theorem sc_NoNote : FnScope ["self", "stamp"] ["self", "stamp"] (defScope s_NoNote) := ⟨rfl, rfl, rfl, by decide +kernel, rfl, by decide +kernel, by decide +kernel⟩
abbrev s_BadQuery : Stmt := inClass (topS 24) 0
theorem sc_BadQuery : FnScope ["self", "path"] ["self", "path"] (defScope s_BadQuery) := ⟨rfl, rfl, rfl, by decide +kernel, rfl, by decide +kernel, by decide +kernel⟩
abbrev s_BadWindow : Stmt := inClass (topS 25) 0
theorem sc_BadWindow : FnScope ["self", "number"] ["self", "number"] (defScope s_BadWindow) := ⟨rfl, rfl, rfl, by decide +kernel, rfl, by decide +kernel, by decide +kernel⟩
abbrev s_BadOffer : Stmt := inClass (topS 26) 0
theorem sc_BadOffer : FnScope ["self", "number"] ["self", "number"] (defScope s_BadOffer) := ⟨rfl, rfl, rfl, by decide +kernel, rfl, by decide +kernel, by decide +kernel⟩
abbrev s_BadLog : Stmt := inClass (topS 27) 0
theorem sc_BadLog : FnScope ["self", "number"] ["self", "number"] (defScope s_BadLog) := ⟨rfl, rfl, rfl, by decide +kernel, rfl, by decide +kernel, by decide +kernel⟩
abbrev s_NoAnswer : Stmt := inClass (topS 28) 0
theorem sc_NoAnswer : FnScope ["self", "number"] ["self", "number"] (defScope s_NoAnswer) := ⟨rfl, rfl, rfl, by decide +kernel, rfl, by decide +kernel, by decide +kernel⟩
abbrev s_BadVector : Stmt := inClass (topS 29) 0
theorem sc_BadVector : FnScope ["self", "given"] ["self", "given"] (defScope s_BadVector) := ⟨rfl, rfl, rfl, by decide +kernel, rfl, by decide +kernel, by decide +kernel⟩
abbrev s_BadBundle : Stmt := inClass (topS 30) 0
theorem sc_BadBundle : FnScope ["self", "number"] ["self", "number"] (defScope s_BadBundle) := ⟨rfl, rfl, rfl, by decide +kernel, rfl, by decide +kernel, by decide +kernel⟩
abbrev s_Gap : Stmt := inClass (topS 31) 0
theorem sc_Gap : FnScope ["self", "device"] ["self", "device"] (defScope s_Gap) := ⟨rfl, rfl, rfl, by decide +kernel, rfl, by decide +kernel, by decide +kernel⟩
abbrev s__law_begin : Stmt := topS 33
theorem sc__law_begin : FnScope ["script"] ["script"] (defScope s__law_begin) := ⟨rfl, rfl, rfl, by decide +kernel, rfl, by decide +kernel, by decide +kernel⟩
abbrev s__law_mixed : Stmt := topS 34
theorem sc__law_mixed : FnScope ["cell", "k", "mixed"] ["cell", "k"] (defScope s__law_mixed) := ⟨rfl, rfl, rfl, by decide +kernel, rfl, by decide +kernel, by decide +kernel⟩
abbrev s__law_next : Stmt := topS 35
theorem sc__law_next : FnScope ["draw", "bound", "found", "every", "cell"] ["draw", "bound"] (defScope s__law_next) := ⟨rfl, rfl, rfl, by decide +kernel, rfl, by decide +kernel, by decide +kernel⟩
abbrev s__law_made : Stmt := topS 36
theorem sc__law_made : FnScope ["worth", "more", "made"] ["worth", "more"] (defScope s__law_made) := ⟨rfl, rfl, rfl, by decide +kernel, rfl, by decide +kernel, by decide +kernel⟩
abbrev s__law_kinds : Stmt := topS 37
theorem sc__law_kinds : FnScope ["e", "told"] ["e"] (defScope s__law_kinds) := ⟨rfl, rfl, rfl, by decide +kernel, rfl, by decide +kernel, by decide +kernel⟩
abbrev s__law_families_right : Stmt := topS 38
theorem sc__law_families_right : FnScope ["made", "at", "e", "k"] ["made"] (defScope s__law_families_right) := ⟨rfl, rfl, rfl, by decide +kernel, rfl, by decide +kernel, by decide +kernel⟩
abbrev s__law_fields : Stmt := topS 39
theorem sc__law_fields : FnScope ["made", "told", "e"] ["made"] (defScope s__law_fields) := ⟨rfl, rfl, rfl, by decide +kernel, rfl, by decide +kernel, by decide +kernel⟩
abbrev s__law_named : Stmt := topS 40
theorem sc__law_named : FnScope ["worth", "more", "made"] ["worth", "more"] (defScope s__law_named) := ⟨rfl, rfl, rfl, by decide +kernel, rfl, by decide +kernel, by decide +kernel⟩
abbrev s_law : Stmt := topS 41
theorem sc_law : FnScope ["script", "draw", "turn", "amount", "some", "worth", "more", "due", "made"] ["script"] (defScope s_law) := ⟨rfl, rfl, rfl, by decide +kernel, rfl, by decide +kernel, by decide +kernel⟩

structure Txt (K : PySem.W.Frag) (mg : Str → Option Value) where
  a__law_begin : Addr
  d__law_begin : FuncData
  g__law_begin : mg "_law_begin" = some (.ref a__law_begin)
  F__law_begin : Fun K "_law_begin" "_law_begin" s__law_begin a__law_begin d__law_begin
  b__law_begin : Binds K d__law_begin ["script"] []
  a__law_mixed : Addr
  d__law_mixed : FuncData
  g__law_mixed : mg "_law_mixed" = some (.ref a__law_mixed)
  F__law_mixed : Fun K "_law_mixed" "_law_mixed" s__law_mixed a__law_mixed d__law_mixed
  b__law_mixed : Binds K d__law_mixed ["cell", "k"] []
  a__law_next : Addr
  d__law_next : FuncData
  g__law_next : mg "_law_next" = some (.ref a__law_next)
  F__law_next : Fun K "_law_next" "_law_next" s__law_next a__law_next d__law_next
  b__law_next : Binds K d__law_next ["draw", "bound"] []
  a__law_made : Addr
  d__law_made : FuncData
  g__law_made : mg "_law_made" = some (.ref a__law_made)
  F__law_made : Fun K "_law_made" "_law_made" s__law_made a__law_made d__law_made
  b__law_made : Binds K d__law_made ["worth", "more"] []
  a__law_kinds : Addr
  d__law_kinds : FuncData
  g__law_kinds : mg "_law_kinds" = some (.ref a__law_kinds)
  F__law_kinds : Fun K "_law_kinds" "_law_kinds" s__law_kinds a__law_kinds d__law_kinds
  b__law_kinds : Binds K d__law_kinds ["e"] []
  a__law_families_right : Addr
  d__law_families_right : FuncData
  g__law_families_right : mg "_law_families_right" = some (.ref a__law_families_right)
  F__law_families_right : Fun K "_law_families_right" "_law_families_right" s__law_families_right a__law_families_right d__law_families_right
  b__law_families_right : Binds K d__law_families_right ["made"] []
  a__law_fields : Addr
  d__law_fields : FuncData
  g__law_fields : mg "_law_fields" = some (.ref a__law_fields)
  F__law_fields : Fun K "_law_fields" "_law_fields" s__law_fields a__law_fields d__law_fields
  b__law_fields : Binds K d__law_fields ["made"] []
  a__law_named : Addr
  d__law_named : FuncData
  g__law_named : mg "_law_named" = some (.ref a__law_named)
  F__law_named : Fun K "_law_named" "_law_named" s__law_named a__law_named d__law_named
  b__law_named : Binds K d__law_named ["worth", "more"] []
  a_law : Addr
  d_law : FuncData
  g_law : mg "law" = some (.ref a_law)
  F_law : Fun K "law" "law" s_law a_law d_law
  b_law : Binds K d_law ["script"] []
  C_FeedError : Addr
  g_FeedError : mg "FeedError" = some (.ref C_FeedError)
  c_BadMoment : Vz.XClA K mg "BadMoment" "given" s_BadMoment
  c_BadZone : Vz.XClA K mg "BadZone" "given" s_BadZone
  c_BadDate : Vz.XClA K mg "BadDate" "given" s_BadDate
  c_BadAddress : Vz.XClA K mg "BadAddress" "given" s_BadAddress
  c_BadEntry : Vz.XClA K mg "BadEntry" "field" s_BadEntry
  c_BadPage : Vz.XClB K mg "BadPage" "field" "number" s_BadPage
  c_BadText : Vz.XClB K mg "BadText" "line" "column" s_BadText
  c_BadNumber : Vz.XClA K mg "BadNumber" "field" s_BadNumber
  c_NoEntry : Vz.XClA K mg "NoEntry" "given" s_NoEntry
  c_Taken : Vz.XClA K mg "Taken" "given" s_Taken
  c_TooMany : Vz.XClA K mg "TooMany" "what" s_TooMany
  c_BadWorld : Vz.XClA K mg "BadWorld" "number" s_BadWorld
  c_BadTrouble : Vz.XClA K mg "BadTrouble" "number" s_BadTrouble
  c_BadThing : Vz.XClA K mg "BadThing" "given" s_BadThing
  c_BadShelf : Vz.XClA K mg "BadShelf" "number" s_BadShelf
  c_NoSighting : Vz.XClA K mg "NoSighting" "number" s_NoSighting
  c_BadDevice : Vz.XClA K mg "BadDevice" "given" s_BadDevice
  c_BadLibrary : Vz.XClA K mg "BadLibrary" "number" s_BadLibrary
  c_Torn : Vz.XClA K mg "Torn" "stamp" s_Torn
  c_NoItem : Vz.XClA K mg "NoItem" "given" s_NoItem
  c_BadFolder : Vz.XClA K mg "BadFolder" "given" s_BadFolder
  c_NoNote : Vz.XClA K mg "NoNote" "stamp" s_NoNote
  c_BadQuery : Vz.XClA K mg "BadQuery" "path" s_BadQuery
  c_BadWindow : Vz.XClA K mg "BadWindow" "number" s_BadWindow
  c_BadOffer : Vz.XClA K mg "BadOffer" "number" s_BadOffer
  c_BadLog : Vz.XClA K mg "BadLog" "number" s_BadLog
  c_NoAnswer : Vz.XClA K mg "NoAnswer" "number" s_NoAnswer
  c_BadVector : Vz.XClA K mg "BadVector" "given" s_BadVector
  c_BadBundle : Vz.XClA K mg "BadBundle" "number" s_BadBundle
  c_Gap : Vz.XClA K mg "Gap" "device" s_Gap
  fam : Vz.famB K C_FeedError [c_BadMoment.C, c_BadZone.C, c_BadDate.C, c_BadAddress.C, c_BadThing.C, c_BadDevice.C, c_NoEntry.C, c_Taken.C, c_NoItem.C, c_BadFolder.C, c_BadVector.C, c_BadEntry.C, c_BadNumber.C, c_BadWorld.C, c_BadTrouble.C, c_BadShelf.C, c_NoSighting.C, c_BadLibrary.C, c_BadWindow.C, c_BadOffer.C, c_BadLog.C, c_NoAnswer.C, c_BadBundle.C, c_TooMany.C, c_Torn.C, c_NoNote.C, c_BadQuery.C, c_Gap.C, c_BadPage.C, c_BadText.C] = true
  z_LookupError : mg "LookupError" = none
  z_RuntimeError : mg "RuntimeError" = none
  z_ValueError : mg "ValueError" = none
  z_enumerate : mg "enumerate" = none
  z_int : mg "int" = none
  z_isinstance : mg "isinstance" = none
  z_len : mg "len" = none
  z_min : mg "min" = none
  z_range : mg "range" = none
  z_repr : mg "repr" = none
theorem ok_init_BadMoment {P : Program} {w : World} {K : PySem.W.Frag} {mg : Str → Option Value} {base : Heap} (T : Txt K mg) : FnOk P w K mg base CX0 1 T.c_BadMoment.I T.c_BadMoment.i ["self", "given"] (Vz.sp_iniA T.c_BadMoment.C "given") := by
  obtain ⟨qn, F⟩ := T.c_BadMoment.F
  refine F.ok sc_BadMoment (fun vs H Q E h => ?_) (fun cdv A outer s H vs Q E hr h => ?_)
  · obtain ⟨a, v, rfl, _⟩ := h; rfl
  · obtain ⟨a, v, rfl, ha, q⟩ := h
    refine ⟨_, pss_one (ps_ost (pv 0) (pv 1)), ?_⟩
    exact ⟨_, rfl, _, rfl, a, T.c_BadMoment.C, rfl, T.c_BadMoment.o, T.c_BadMoment.n, .inl ⟨ha, fun dx n ne => q dx n ne⟩⟩
theorem ok_init_BadZone {P : Program} {w : World} {K : PySem.W.Frag} {mg : Str → Option Value} {base : Heap} (T : Txt K mg) : FnOk P w K mg base CX0 1 T.c_BadZone.I T.c_BadZone.i ["self", "given"] (Vz.sp_iniA T.c_BadZone.C "given") := by
  obtain ⟨qn, F⟩ := T.c_BadZone.F
  refine F.ok sc_BadZone (fun vs H Q E h => ?_) (fun cdv A outer s H vs Q E hr h => ?_)
  · obtain ⟨a, v, rfl, _⟩ := h; rfl
  · obtain ⟨a, v, rfl, ha, q⟩ := h
    refine ⟨_, pss_one (ps_ost (pv 0) (pv 1)), ?_⟩
    exact ⟨_, rfl, _, rfl, a, T.c_BadZone.C, rfl, T.c_BadZone.o, T.c_BadZone.n, .inl ⟨ha, fun dx n ne => q dx n ne⟩⟩
theorem ok_init_BadDate {P : Program} {w : World} {K : PySem.W.Frag} {mg : Str → Option Value} {base : Heap} (T : Txt K mg) : FnOk P w K mg base CX0 1 T.c_BadDate.I T.c_BadDate.i ["self", "given"] (Vz.sp_iniA T.c_BadDate.C "given") := by
  obtain ⟨qn, F⟩ := T.c_BadDate.F
  refine F.ok sc_BadDate (fun vs H Q E h => ?_) (fun cdv A outer s H vs Q E hr h => ?_)
  · obtain ⟨a, v, rfl, _⟩ := h; rfl
  · obtain ⟨a, v, rfl, ha, q⟩ := h
    refine ⟨_, pss_one (ps_ost (pv 0) (pv 1)), ?_⟩
    exact ⟨_, rfl, _, rfl, a, T.c_BadDate.C, rfl, T.c_BadDate.o, T.c_BadDate.n, .inl ⟨ha, fun dx n ne => q dx n ne⟩⟩
theorem ok_init_BadAddress {P : Program} {w : World} {K : PySem.W.Frag} {mg : Str → Option Value} {base : Heap} (T : Txt K mg) : FnOk P w K mg base CX0 1 T.c_BadAddress.I T.c_BadAddress.i ["self", "given"] (Vz.sp_iniA T.c_BadAddress.C "given") := by
  obtain ⟨qn, F⟩ := T.c_BadAddress.F
  refine F.ok sc_BadAddress (fun vs H Q E h => ?_) (fun cdv A outer s H vs Q E hr h => ?_)
  · obtain ⟨a, v, rfl, _⟩ := h; rfl
  · obtain ⟨a, v, rfl, ha, q⟩ := h
    refine ⟨_, pss_one (ps_ost (pv 0) (pv 1)), ?_⟩
    exact ⟨_, rfl, _, rfl, a, T.c_BadAddress.C, rfl, T.c_BadAddress.o, T.c_BadAddress.n, .inl ⟨ha, fun dx n ne => q dx n ne⟩⟩
theorem ok_init_BadEntry {P : Program} {w : World} {K : PySem.W.Frag} {mg : Str → Option Value} {base : Heap} (T : Txt K mg) : FnOk P w K mg base CX0 1 T.c_BadEntry.I T.c_BadEntry.i ["self", "field"] (Vz.sp_iniA T.c_BadEntry.C "field") := by
  obtain ⟨qn, F⟩ := T.c_BadEntry.F
  refine F.ok sc_BadEntry (fun vs H Q E h => ?_) (fun cdv A outer s H vs Q E hr h => ?_)
  · obtain ⟨a, v, rfl, _⟩ := h; rfl
  · obtain ⟨a, v, rfl, ha, q⟩ := h
    refine ⟨_, pss_one (ps_ost (pv 0) (pv 1)), ?_⟩
    exact ⟨_, rfl, _, rfl, a, T.c_BadEntry.C, rfl, T.c_BadEntry.o, T.c_BadEntry.n, .inl ⟨ha, fun dx n ne => q dx n ne⟩⟩
theorem ok_init_BadPage {P : Program} {w : World} {K : PySem.W.Frag} {mg : Str → Option Value} {base : Heap} (T : Txt K mg) : FnOk P w K mg base CX0 1 T.c_BadPage.I T.c_BadPage.i ["self", "field", "number"] (Vz.sp_iniB T.c_BadPage.C "field" "number") := by
  obtain ⟨qn, F⟩ := T.c_BadPage.F
  refine F.ok sc_BadPage (fun vs H Q E h => ?_) (fun cdv A outer s H vs Q E hr h => ?_)
  · obtain ⟨a, v, y, rfl, _⟩ := h; rfl
  · obtain ⟨a, v, y, rfl, ha, q⟩ := h
    refine ⟨_, pss_cons (ps_ost (pv 0) (pv 1)) (pss_one (ps_ost (pv 0) (pv 2))), ?_⟩
    refine ⟨_, rfl, _, rfl, a, T.c_BadPage.C, rfl, T.c_BadPage.o, T.c_BadPage.n1, .inl ⟨ha, fun dx n ne => ?_⟩⟩
    exact ⟨_, rfl, _, rfl, a, T.c_BadPage.C, rfl, T.c_BadPage.o, T.c_BadPage.n2, .inr ⟨dx, _, upd_same, by rw [upd_ne ne, upd_same], (by show 1 ≤ 900; decide), q dx n ne⟩⟩
theorem ok_init_BadText {P : Program} {w : World} {K : PySem.W.Frag} {mg : Str → Option Value} {base : Heap} (T : Txt K mg) : FnOk P w K mg base CX0 1 T.c_BadText.I T.c_BadText.i ["self", "line", "column"] (Vz.sp_iniB T.c_BadText.C "line" "column") := by
  obtain ⟨qn, F⟩ := T.c_BadText.F
  refine F.ok sc_BadText (fun vs H Q E h => ?_) (fun cdv A outer s H vs Q E hr h => ?_)
  · obtain ⟨a, v, y, rfl, _⟩ := h; rfl
  · obtain ⟨a, v, y, rfl, ha, q⟩ := h
    refine ⟨_, pss_cons (ps_ost (pv 0) (pv 1)) (pss_one (ps_ost (pv 0) (pv 2))), ?_⟩
    refine ⟨_, rfl, _, rfl, a, T.c_BadText.C, rfl, T.c_BadText.o, T.c_BadText.n1, .inl ⟨ha, fun dx n ne => ?_⟩⟩
    exact ⟨_, rfl, _, rfl, a, T.c_BadText.C, rfl, T.c_BadText.o, T.c_BadText.n2, .inr ⟨dx, _, upd_same, by rw [upd_ne ne, upd_same], (by show 1 ≤ 900; decide), q dx n ne⟩⟩
theorem ok_init_BadNumber {P : Program} {w : World} {K : PySem.W.Frag} {mg : Str → Option Value} {base : Heap} (T : Txt K mg) : FnOk P w K mg base CX0 1 T.c_BadNumber.I T.c_BadNumber.i ["self", "field"] (Vz.sp_iniA T.c_BadNumber.C "field") := by
  obtain ⟨qn, F⟩ := T.c_BadNumber.F
  refine F.ok sc_BadNumber (fun vs H Q E h => ?_) (fun cdv A outer s H vs Q E hr h => ?_)
  · obtain ⟨a, v, rfl, _⟩ := h; rfl
  · obtain ⟨a, v, rfl, ha, q⟩ := h
    refine ⟨_, pss_one (ps_ost (pv 0) (pv 1)), ?_⟩
    exact ⟨_, rfl, _, rfl, a, T.c_BadNumber.C, rfl, T.c_BadNumber.o, T.c_BadNumber.n, .inl ⟨ha, fun dx n ne => q dx n ne⟩⟩
theorem ok_init_NoEntry {P : Program} {w : World} {K : PySem.W.Frag} {mg : Str → Option Value} {base : Heap} (T : Txt K mg) : FnOk P w K mg base CX0 1 T.c_NoEntry.I T.c_NoEntry.i ["self", "given"] (Vz.sp_iniA T.c_NoEntry.C "given") := by
  obtain ⟨qn, F⟩ := T.c_NoEntry.F
  refine F.ok sc_NoEntry (fun vs H Q E h => ?_) (fun cdv A outer s H vs Q E hr h => ?_)
  · obtain ⟨a, v, rfl, _⟩ := h; rfl
  · obtain ⟨a, v, rfl, ha, q⟩ := h
    refine ⟨_, pss_one (ps_ost (pv 0) (pv 1)), ?_⟩
    exact ⟨_, rfl, _, rfl, a, T.c_NoEntry.C, rfl, T.c_NoEntry.o, T.c_NoEntry.n, .inl ⟨ha, fun dx n ne => q dx n ne⟩⟩
theorem ok_init_Taken {P : Program} {w : World} {K : PySem.W.Frag} {mg : Str → Option Value} {base : Heap} (T : Txt K mg) : FnOk P w K mg base CX0 1 T.c_Taken.I T.c_Taken.i ["self", "given"] (Vz.sp_iniA T.c_Taken.C "given") := by
  obtain ⟨qn, F⟩ := T.c_Taken.F
  refine F.ok sc_Taken (fun vs H Q E h => ?_) (fun cdv A outer s H vs Q E hr h => ?_)
  · obtain ⟨a, v, rfl, _⟩ := h; rfl
  · obtain ⟨a, v, rfl, ha, q⟩ := h
    refine ⟨_, pss_one (ps_ost (pv 0) (pv 1)), ?_⟩
    exact ⟨_, rfl, _, rfl, a, T.c_Taken.C, rfl, T.c_Taken.o, T.c_Taken.n, .inl ⟨ha, fun dx n ne => q dx n ne⟩⟩
theorem ok_init_TooMany {P : Program} {w : World} {K : PySem.W.Frag} {mg : Str → Option Value} {base : Heap} (T : Txt K mg) : FnOk P w K mg base CX0 1 T.c_TooMany.I T.c_TooMany.i ["self", "what"] (Vz.sp_iniA T.c_TooMany.C "what") := by
  obtain ⟨qn, F⟩ := T.c_TooMany.F
  refine F.ok sc_TooMany (fun vs H Q E h => ?_) (fun cdv A outer s H vs Q E hr h => ?_)
  · obtain ⟨a, v, rfl, _⟩ := h; rfl
  · obtain ⟨a, v, rfl, ha, q⟩ := h
    refine ⟨_, pss_one (ps_ost (pv 0) (pv 1)), ?_⟩
    exact ⟨_, rfl, _, rfl, a, T.c_TooMany.C, rfl, T.c_TooMany.o, T.c_TooMany.n, .inl ⟨ha, fun dx n ne => q dx n ne⟩⟩
theorem ok_init_BadWorld {P : Program} {w : World} {K : PySem.W.Frag} {mg : Str → Option Value} {base : Heap} (T : Txt K mg) : FnOk P w K mg base CX0 1 T.c_BadWorld.I T.c_BadWorld.i ["self", "number"] (Vz.sp_iniA T.c_BadWorld.C "number") := by
  obtain ⟨qn, F⟩ := T.c_BadWorld.F
  refine F.ok sc_BadWorld (fun vs H Q E h => ?_) (fun cdv A outer s H vs Q E hr h => ?_)
  · obtain ⟨a, v, rfl, _⟩ := h; rfl
  · obtain ⟨a, v, rfl, ha, q⟩ := h
    refine ⟨_, pss_one (ps_ost (pv 0) (pv 1)), ?_⟩
    exact ⟨_, rfl, _, rfl, a, T.c_BadWorld.C, rfl, T.c_BadWorld.o, T.c_BadWorld.n, .inl ⟨ha, fun dx n ne => q dx n ne⟩⟩
theorem ok_init_BadTrouble {P : Program} {w : World} {K : PySem.W.Frag} {mg : Str → Option Value} {base : Heap} (T : Txt K mg) : FnOk P w K mg base CX0 1 T.c_BadTrouble.I T.c_BadTrouble.i ["self", "number"] (Vz.sp_iniA T.c_BadTrouble.C "number") := by
  obtain ⟨qn, F⟩ := T.c_BadTrouble.F
  refine F.ok sc_BadTrouble (fun vs H Q E h => ?_) (fun cdv A outer s H vs Q E hr h => ?_)
  · obtain ⟨a, v, rfl, _⟩ := h; rfl
  · obtain ⟨a, v, rfl, ha, q⟩ := h
    refine ⟨_, pss_one (ps_ost (pv 0) (pv 1)), ?_⟩
    exact ⟨_, rfl, _, rfl, a, T.c_BadTrouble.C, rfl, T.c_BadTrouble.o, T.c_BadTrouble.n, .inl ⟨ha, fun dx n ne => q dx n ne⟩⟩
theorem ok_init_BadThing {P : Program} {w : World} {K : PySem.W.Frag} {mg : Str → Option Value} {base : Heap} (T : Txt K mg) : FnOk P w K mg base CX0 1 T.c_BadThing.I T.c_BadThing.i ["self", "given"] (Vz.sp_iniA T.c_BadThing.C "given") := by
  obtain ⟨qn, F⟩ := T.c_BadThing.F
  refine F.ok sc_BadThing (fun vs H Q E h => ?_) (fun cdv A outer s H vs Q E hr h => ?_)
  · obtain ⟨a, v, rfl, _⟩ := h; rfl
  · obtain ⟨a, v, rfl, ha, q⟩ := h
    refine ⟨_, pss_one (ps_ost (pv 0) (pv 1)), ?_⟩
    exact ⟨_, rfl, _, rfl, a, T.c_BadThing.C, rfl, T.c_BadThing.o, T.c_BadThing.n, .inl ⟨ha, fun dx n ne => q dx n ne⟩⟩
theorem ok_init_BadShelf {P : Program} {w : World} {K : PySem.W.Frag} {mg : Str → Option Value} {base : Heap} (T : Txt K mg) : FnOk P w K mg base CX0 1 T.c_BadShelf.I T.c_BadShelf.i ["self", "number"] (Vz.sp_iniA T.c_BadShelf.C "number") := by
  obtain ⟨qn, F⟩ := T.c_BadShelf.F
  refine F.ok sc_BadShelf (fun vs H Q E h => ?_) (fun cdv A outer s H vs Q E hr h => ?_)
  · obtain ⟨a, v, rfl, _⟩ := h; rfl
  · obtain ⟨a, v, rfl, ha, q⟩ := h
    refine ⟨_, pss_one (ps_ost (pv 0) (pv 1)), ?_⟩
    exact ⟨_, rfl, _, rfl, a, T.c_BadShelf.C, rfl, T.c_BadShelf.o, T.c_BadShelf.n, .inl ⟨ha, fun dx n ne => q dx n ne⟩⟩
theorem ok_init_NoSighting {P : Program} {w : World} {K : PySem.W.Frag} {mg : Str → Option Value} {base : Heap} (T : Txt K mg) : FnOk P w K mg base CX0 1 T.c_NoSighting.I T.c_NoSighting.i ["self", "number"] (Vz.sp_iniA T.c_NoSighting.C "number") := by
  obtain ⟨qn, F⟩ := T.c_NoSighting.F
  refine F.ok sc_NoSighting (fun vs H Q E h => ?_) (fun cdv A outer s H vs Q E hr h => ?_)
  · obtain ⟨a, v, rfl, _⟩ := h; rfl
  · obtain ⟨a, v, rfl, ha, q⟩ := h
    refine ⟨_, pss_one (ps_ost (pv 0) (pv 1)), ?_⟩
    exact ⟨_, rfl, _, rfl, a, T.c_NoSighting.C, rfl, T.c_NoSighting.o, T.c_NoSighting.n, .inl ⟨ha, fun dx n ne => q dx n ne⟩⟩
theorem ok_init_BadDevice {P : Program} {w : World} {K : PySem.W.Frag} {mg : Str → Option Value} {base : Heap} (T : Txt K mg) : FnOk P w K mg base CX0 1 T.c_BadDevice.I T.c_BadDevice.i ["self", "given"] (Vz.sp_iniA T.c_BadDevice.C "given") := by
  obtain ⟨qn, F⟩ := T.c_BadDevice.F
  refine F.ok sc_BadDevice (fun vs H Q E h => ?_) (fun cdv A outer s H vs Q E hr h => ?_)
  · obtain ⟨a, v, rfl, _⟩ := h; rfl
  · obtain ⟨a, v, rfl, ha, q⟩ := h
    refine ⟨_, pss_one (ps_ost (pv 0) (pv 1)), ?_⟩
    exact ⟨_, rfl, _, rfl, a, T.c_BadDevice.C, rfl, T.c_BadDevice.o, T.c_BadDevice.n, .inl ⟨ha, fun dx n ne => q dx n ne⟩⟩
theorem ok_init_BadLibrary {P : Program} {w : World} {K : PySem.W.Frag} {mg : Str → Option Value} {base : Heap} (T : Txt K mg) : FnOk P w K mg base CX0 1 T.c_BadLibrary.I T.c_BadLibrary.i ["self", "number"] (Vz.sp_iniA T.c_BadLibrary.C "number") := by
  obtain ⟨qn, F⟩ := T.c_BadLibrary.F
  refine F.ok sc_BadLibrary (fun vs H Q E h => ?_) (fun cdv A outer s H vs Q E hr h => ?_)
  · obtain ⟨a, v, rfl, _⟩ := h; rfl
  · obtain ⟨a, v, rfl, ha, q⟩ := h
    refine ⟨_, pss_one (ps_ost (pv 0) (pv 1)), ?_⟩
    exact ⟨_, rfl, _, rfl, a, T.c_BadLibrary.C, rfl, T.c_BadLibrary.o, T.c_BadLibrary.n, .inl ⟨ha, fun dx n ne => q dx n ne⟩⟩
theorem ok_init_Torn {P : Program} {w : World} {K : PySem.W.Frag} {mg : Str → Option Value} {base : Heap} (T : Txt K mg) : FnOk P w K mg base CX0 1 T.c_Torn.I T.c_Torn.i ["self", "stamp"] (Vz.sp_iniA T.c_Torn.C "stamp") := by
  obtain ⟨qn, F⟩ := T.c_Torn.F
  refine F.ok sc_Torn (fun vs H Q E h => ?_) (fun cdv A outer s H vs Q E hr h => ?_)
  · obtain ⟨a, v, rfl, _⟩ := h; rfl
  · obtain ⟨a, v, rfl, ha, q⟩ := h
    refine ⟨_, pss_one (ps_ost (pv 0) (pv 1)), ?_⟩
    exact ⟨_, rfl, _, rfl, a, T.c_Torn.C, rfl, T.c_Torn.o, T.c_Torn.n, .inl ⟨ha, fun dx n ne => q dx n ne⟩⟩
theorem ok_init_NoItem {P : Program} {w : World} {K : PySem.W.Frag} {mg : Str → Option Value} {base : Heap} (T : Txt K mg) : FnOk P w K mg base CX0 1 T.c_NoItem.I T.c_NoItem.i ["self", "given"] (Vz.sp_iniA T.c_NoItem.C "given") := by
  obtain ⟨qn, F⟩ := T.c_NoItem.F
  refine F.ok sc_NoItem (fun vs H Q E h => ?_) (fun cdv A outer s H vs Q E hr h => ?_)
  · obtain ⟨a, v, rfl, _⟩ := h; rfl
  · obtain ⟨a, v, rfl, ha, q⟩ := h
    refine ⟨_, pss_one (ps_ost (pv 0) (pv 1)), ?_⟩
    exact ⟨_, rfl, _, rfl, a, T.c_NoItem.C, rfl, T.c_NoItem.o, T.c_NoItem.n, .inl ⟨ha, fun dx n ne => q dx n ne⟩⟩
theorem ok_init_BadFolder {P : Program} {w : World} {K : PySem.W.Frag} {mg : Str → Option Value} {base : Heap} (T : Txt K mg) : FnOk P w K mg base CX0 1 T.c_BadFolder.I T.c_BadFolder.i ["self", "given"] (Vz.sp_iniA T.c_BadFolder.C "given") := by
  obtain ⟨qn, F⟩ := T.c_BadFolder.F
  refine F.ok sc_BadFolder (fun vs H Q E h => ?_) (fun cdv A outer s H vs Q E hr h => ?_)
  · obtain ⟨a, v, rfl, _⟩ := h; rfl
  · obtain ⟨a, v, rfl, ha, q⟩ := h
    refine ⟨_, pss_one (ps_ost (pv 0) (pv 1)), ?_⟩
    exact ⟨_, rfl, _, rfl, a, T.c_BadFolder.C, rfl, T.c_BadFolder.o, T.c_BadFolder.n, .inl ⟨ha, fun dx n ne => q dx n ne⟩⟩
theorem ok_init_NoNote {P : Program} {w : World} {K : PySem.W.Frag} {mg : Str → Option Value} {base : Heap} (T : Txt K mg) : FnOk P w K mg base CX0 1 T.c_NoNote.I T.c_NoNote.i ["self", "stamp"] (Vz.sp_iniA T.c_NoNote.C "stamp") := by
  obtain ⟨qn, F⟩ := T.c_NoNote.F
  refine F.ok sc_NoNote (fun vs H Q E h => ?_) (fun cdv A outer s H vs Q E hr h => ?_)
  · obtain ⟨a, v, rfl, _⟩ := h; rfl
  · obtain ⟨a, v, rfl, ha, q⟩ := h
    refine ⟨_, pss_one (ps_ost (pv 0) (pv 1)), ?_⟩
    exact ⟨_, rfl, _, rfl, a, T.c_NoNote.C, rfl, T.c_NoNote.o, T.c_NoNote.n, .inl ⟨ha, fun dx n ne => q dx n ne⟩⟩
theorem ok_init_BadQuery {P : Program} {w : World} {K : PySem.W.Frag} {mg : Str → Option Value} {base : Heap} (T : Txt K mg) : FnOk P w K mg base CX0 1 T.c_BadQuery.I T.c_BadQuery.i ["self", "path"] (Vz.sp_iniA T.c_BadQuery.C "path") := by
  obtain ⟨qn, F⟩ := T.c_BadQuery.F
  refine F.ok sc_BadQuery (fun vs H Q E h => ?_) (fun cdv A outer s H vs Q E hr h => ?_)
  · obtain ⟨a, v, rfl, _⟩ := h; rfl
  · obtain ⟨a, v, rfl, ha, q⟩ := h
    refine ⟨_, pss_one (ps_ost (pv 0) (pv 1)), ?_⟩
    exact ⟨_, rfl, _, rfl, a, T.c_BadQuery.C, rfl, T.c_BadQuery.o, T.c_BadQuery.n, .inl ⟨ha, fun dx n ne => q dx n ne⟩⟩
theorem ok_init_BadWindow {P : Program} {w : World} {K : PySem.W.Frag} {mg : Str → Option Value} {base : Heap} (T : Txt K mg) : FnOk P w K mg base CX0 1 T.c_BadWindow.I T.c_BadWindow.i ["self", "number"] (Vz.sp_iniA T.c_BadWindow.C "number") := by
  obtain ⟨qn, F⟩ := T.c_BadWindow.F
  refine F.ok sc_BadWindow (fun vs H Q E h => ?_) (fun cdv A outer s H vs Q E hr h => ?_)
  · obtain ⟨a, v, rfl, _⟩ := h; rfl
  · obtain ⟨a, v, rfl, ha, q⟩ := h
    refine ⟨_, pss_one (ps_ost (pv 0) (pv 1)), ?_⟩
    exact ⟨_, rfl, _, rfl, a, T.c_BadWindow.C, rfl, T.c_BadWindow.o, T.c_BadWindow.n, .inl ⟨ha, fun dx n ne => q dx n ne⟩⟩
theorem ok_init_BadOffer {P : Program} {w : World} {K : PySem.W.Frag} {mg : Str → Option Value} {base : Heap} (T : Txt K mg) : FnOk P w K mg base CX0 1 T.c_BadOffer.I T.c_BadOffer.i ["self", "number"] (Vz.sp_iniA T.c_BadOffer.C "number") := by
  obtain ⟨qn, F⟩ := T.c_BadOffer.F
  refine F.ok sc_BadOffer (fun vs H Q E h => ?_) (fun cdv A outer s H vs Q E hr h => ?_)
  · obtain ⟨a, v, rfl, _⟩ := h; rfl
  · obtain ⟨a, v, rfl, ha, q⟩ := h
    refine ⟨_, pss_one (ps_ost (pv 0) (pv 1)), ?_⟩
    exact ⟨_, rfl, _, rfl, a, T.c_BadOffer.C, rfl, T.c_BadOffer.o, T.c_BadOffer.n, .inl ⟨ha, fun dx n ne => q dx n ne⟩⟩
theorem ok_init_BadLog {P : Program} {w : World} {K : PySem.W.Frag} {mg : Str → Option Value} {base : Heap} (T : Txt K mg) : FnOk P w K mg base CX0 1 T.c_BadLog.I T.c_BadLog.i ["self", "number"] (Vz.sp_iniA T.c_BadLog.C "number") := by
  obtain ⟨qn, F⟩ := T.c_BadLog.F
  refine F.ok sc_BadLog (fun vs H Q E h => ?_) (fun cdv A outer s H vs Q E hr h => ?_)
  · obtain ⟨a, v, rfl, _⟩ := h; rfl
  · obtain ⟨a, v, rfl, ha, q⟩ := h
    refine ⟨_, pss_one (ps_ost (pv 0) (pv 1)), ?_⟩
    exact ⟨_, rfl, _, rfl, a, T.c_BadLog.C, rfl, T.c_BadLog.o, T.c_BadLog.n, .inl ⟨ha, fun dx n ne => q dx n ne⟩⟩
theorem ok_init_NoAnswer {P : Program} {w : World} {K : PySem.W.Frag} {mg : Str → Option Value} {base : Heap} (T : Txt K mg) : FnOk P w K mg base CX0 1 T.c_NoAnswer.I T.c_NoAnswer.i ["self", "number"] (Vz.sp_iniA T.c_NoAnswer.C "number") := by
  obtain ⟨qn, F⟩ := T.c_NoAnswer.F
  refine F.ok sc_NoAnswer (fun vs H Q E h => ?_) (fun cdv A outer s H vs Q E hr h => ?_)
  · obtain ⟨a, v, rfl, _⟩ := h; rfl
  · obtain ⟨a, v, rfl, ha, q⟩ := h
    refine ⟨_, pss_one (ps_ost (pv 0) (pv 1)), ?_⟩
    exact ⟨_, rfl, _, rfl, a, T.c_NoAnswer.C, rfl, T.c_NoAnswer.o, T.c_NoAnswer.n, .inl ⟨ha, fun dx n ne => q dx n ne⟩⟩
theorem ok_init_BadVector {P : Program} {w : World} {K : PySem.W.Frag} {mg : Str → Option Value} {base : Heap} (T : Txt K mg) : FnOk P w K mg base CX0 1 T.c_BadVector.I T.c_BadVector.i ["self", "given"] (Vz.sp_iniA T.c_BadVector.C "given") := by
  obtain ⟨qn, F⟩ := T.c_BadVector.F
  refine F.ok sc_BadVector (fun vs H Q E h => ?_) (fun cdv A outer s H vs Q E hr h => ?_)
  · obtain ⟨a, v, rfl, _⟩ := h; rfl
  · obtain ⟨a, v, rfl, ha, q⟩ := h
    refine ⟨_, pss_one (ps_ost (pv 0) (pv 1)), ?_⟩
    exact ⟨_, rfl, _, rfl, a, T.c_BadVector.C, rfl, T.c_BadVector.o, T.c_BadVector.n, .inl ⟨ha, fun dx n ne => q dx n ne⟩⟩
theorem ok_init_BadBundle {P : Program} {w : World} {K : PySem.W.Frag} {mg : Str → Option Value} {base : Heap} (T : Txt K mg) : FnOk P w K mg base CX0 1 T.c_BadBundle.I T.c_BadBundle.i ["self", "number"] (Vz.sp_iniA T.c_BadBundle.C "number") := by
  obtain ⟨qn, F⟩ := T.c_BadBundle.F
  refine F.ok sc_BadBundle (fun vs H Q E h => ?_) (fun cdv A outer s H vs Q E hr h => ?_)
  · obtain ⟨a, v, rfl, _⟩ := h; rfl
  · obtain ⟨a, v, rfl, ha, q⟩ := h
    refine ⟨_, pss_one (ps_ost (pv 0) (pv 1)), ?_⟩
    exact ⟨_, rfl, _, rfl, a, T.c_BadBundle.C, rfl, T.c_BadBundle.o, T.c_BadBundle.n, .inl ⟨ha, fun dx n ne => q dx n ne⟩⟩
theorem ok_init_Gap {P : Program} {w : World} {K : PySem.W.Frag} {mg : Str → Option Value} {base : Heap} (T : Txt K mg) : FnOk P w K mg base CX0 1 T.c_Gap.I T.c_Gap.i ["self", "device"] (Vz.sp_iniA T.c_Gap.C "device") := by
  obtain ⟨qn, F⟩ := T.c_Gap.F
  refine F.ok sc_Gap (fun vs H Q E h => ?_) (fun cdv A outer s H vs Q E hr h => ?_)
  · obtain ⟨a, v, rfl, _⟩ := h; rfl
  · obtain ⟨a, v, rfl, ha, q⟩ := h
    refine ⟨_, pss_one (ps_ost (pv 0) (pv 1)), ?_⟩
    exact ⟨_, rfl, _, rfl, a, T.c_Gap.C, rfl, T.c_Gap.o, T.c_Gap.n, .inl ⟨ha, fun dx n ne => q dx n ne⟩⟩

/-! ### the things that are asked about -/
/-- a value of a plain kind, by its type's name; a dict is none that stands at d -/
inductive Thg (d : Addr) (H : Hp) : V → String → Prop where
  | non : Thg d H .non "NoneType"
  | bl (b : Bool) : Thg d H (.bl b) "bool"
  | int (i : Int) : Thg d H (.int i) "int"
  | str (x : Str) : Thg d H (.str x) "str"
  | lst {a : Addr} {xs : List V} (e : H a = some (.lst xs)) : Thg d H (.ref a) "list"
  | tup {a : Addr} {xs : List V} (e : H a = some (.tup xs)) : Thg d H (.ref a) "tuple"
  | dic {a : Addr} {kvs : List (Key × V)} (e : H a = some (.dK kvs)) (ne : a ≠ d) : Thg d H (.ref a) "dict"
/-- all but the object at d stands as it stood -/
def Keep (d : Addr) (H H' : Hp) : Prop := ∀ a o, a ≠ d → H a = some o → H' a = some o
theorem Keep.refl {d : Addr} (H : Hp) : Keep d H H := fun _ _ _ h => h
theorem Keep.trans {d : Addr} {H H1 H2 : Hp} (a : Keep d H H1) (b : Keep d H1 H2) : Keep d H H2 := fun x o n h => b x o n (a x o n h)
theorem Keep.of {d : Addr} {H H' : Hp} (s : Same H H') : Keep d H H' := fun a o _ h => s a o h
theorem same_new {H : Hp} {p : Addr} {o : HO} (h : H p = none) : Same H (upd H p o) := fun b u e => by rw [upd_ne (ne_of_none e h)]; exact e
theorem Thg.ty {d : Addr} {K : PySem.W.Frag} {H : Hp} {v : V} {s : String} (h : Thg d H v s) : TyX K H v (.type s) := by
  cases h with
  | non => exact .base .non
  | bl b => exact .base (.bl b)
  | int i => exact .base (.int i)
  | str x => exact .base (.str x)
  | lst e => exact .base (.lst e)
  | tup e => exact .base (.tup e)
  | dic e _ => exact .base (.dK e)
theorem Thg.same {d : Addr} {H H' : Hp} {v : V} {s : String} (h : Thg d H v s) (e : Same H H') : Thg d H' v s := by
  cases h with
  | non => exact .non
  | bl b => exact .bl b
  | int i => exact .int i
  | str x => exact .str x
  | lst q => exact .lst (e _ _ q)
  | tup q => exact .tup (e _ _ q)
  | dic q n => exact .dic (e _ _ q) n
theorem Thg.keep {d : Addr} {H H' : Hp} {kvs : List (Key × V)} {v : V} {s : String} (h : Thg d H v s) (hd : H d = some (.dK kvs)) (e : Keep d H H') : Thg d H' v s := by
  cases h with
  | non => exact .non
  | bl b => exact .bl b
  | int i => exact .int i
  | str x => exact .str x
  | lst q => exact .lst (e _ _ (ne_of q hd (by intro z; cases z)) q)
  | tup q => exact .tup (e _ _ (ne_of q hd (by intro z; cases z)) q)
  | dic q n => exact .dic (e _ _ n q) n
def isI : V → Bool
  | .int _ => true
  | _ => false
def inR (v : V) (lo hi : Int) : Bool := match v with
  | .int i => Ma.within i lo hi
  | _ => false
def intI : V → Bool
  | .int _ => true
  | .bl _ => true
  | _ => false
def blI : V → Bool
  | .bl _ => true
  | _ => false
def tupS (s : String) : Bool := s == "tuple"
theorem Thg.k_int {d : Addr} {K : PySem.W.Frag} {H : Hp} {v : V} {s : String} (h : Thg d H v s) : PySem.W.kitOne K (.type s) (.type "int") = some (intI v) := by
  cases h <;> first | exact kit_ty (r := true) (by decide +kernel) | exact kit_ty (r := false) (by decide +kernel)
theorem Thg.k_bool {d : Addr} {K : PySem.W.Frag} {H : Hp} {v : V} {s : String} (h : Thg d H v s) : PySem.W.kitOne K (.type s) (.type "bool") = some (blI v) := by
  cases h <;> first | exact kit_ty (r := true) (by decide +kernel) | exact kit_ty (r := false) (by decide +kernel)
theorem Thg.k_tup {d : Addr} {K : PySem.W.Frag} {H : Hp} {v : V} {s : String} (h : Thg d H v s) : PySem.W.kitOne K (.type s) (.type "tuple") = some (tupS s) := by
  cases h <;> first | exact kit_ty (r := true) (by decide +kernel) | exact kit_ty (r := false) (by decide +kernel)
theorem isI_eq (v : V) : (if intI v = true then !blI v else false) = isI v := by cases v <;> rfl

section
variable {P : Program} {w : World} {K : PySem.W.Frag} {mg : Str → Option Value} {base : Heap}

/-! ### the program -/
def sp_is_int : Sp := fun vs H Q _ => ∃ d v s, vs = [v] ∧ Thg d H v s ∧ Q (.bl (isI v)) H
def sp_is_within : Sp := fun vs H Q _ => ∃ d v s lo hi, vs = [v, .int lo, .int hi] ∧ Thg d H v s ∧ Q (.bl (inR v lo hi)) H
def sp_is_moment : Sp := fun vs H Q _ => ∃ d v s, vs = [v] ∧ Thg d H v s ∧ Q (.bl (inR v 0 315537638648)) H
def sp_is_zone : Sp := fun vs H Q _ => ∃ d v s, vs = [v] ∧ Thg d H v s ∧ Q (.bl (inR v (-840) 840)) H
def sp__days_before : Sp := fun vs H Q _ => ∃ y, vs = [.int y] ∧ Q (.int (Ma.days y)) H
def sp__year_of_day : Sp := fun vs H Q _ => ∃ y, vs = [.int y] ∧ ∀ H', Same H H' → Q (.int (Ma.yearOf y)) H'
end
end Toy
set_option Elab.async false
set_option linter.all false
set_option maxRecDepth 100000
set_option maxHeartbeats 2000000
namespace Toy
open PySem PySem.Spec PyProof.Rows L2
theorem dI (a b : Int) : decide (V.int a = V.int b) = decide (a = b) := by
  rw [Bool.eq_iff_iff]
  simp only [decide_eq_true_eq]
  exact ⟨fun h => V.int.inj h, fun h => by rw [h]⟩
theorem inR_int {v : V} {lo hi : Int} (h : inR v lo hi = true) : ∃ i, v = .int i := by
  cases v <;> first | exact ⟨_, rfl⟩ | cases h
theorem Thg.is_tup {d : Addr} {H : Hp} {v : V} {s : String} (h : Thg d H v s) (e : tupS s = true) : ∃ a xs, v = .ref a ∧ H a = some (.tup xs) := by
  cases h with
  | tup q => exact ⟨_, _, rfl, q⟩
  | _ => exact absurd e (by decide)
def dayV (y mo d : V) : Bool := match y, mo with
  | .int y', .int m' => inR d 1 (Ma.dim y' m')
  | _, _ => false
def fitsV (y mo d h mi s z : V) : Bool := inR y 1 9999 && inR mo 1 13 && dayV y mo d && inR z (-840) 840 && inR h 0 23 && inR mi 0 59 && inR s 0 60
theorem fitsV_int (y mo d h mi s z : Int) : fitsV (.int y) (.int mo) (.int d) (.int h) (.int mi) (.int s) (.int z) = Ma.fits y mo d h mi s z := rfl
theorem fitsV_ints {y mo d h mi s z : V} (f : fitsV y mo d h mi s z = true) : ∃ y' mo' d' h' mi' s' z' : Int, y = .int y' ∧ mo = .int mo' ∧ d = .int d' ∧ h = .int h' ∧ mi = .int mi' ∧ s = .int s' ∧ z = .int z' := by
  unfold fitsV at f
  simp only [Bool.and_eq_true] at f
  obtain ⟨⟨⟨⟨⟨⟨f1, f2⟩, f3⟩, f4⟩, f5⟩, f6⟩, f7⟩ := f
  obtain ⟨y', rfl⟩ := inR_int f1
  obtain ⟨mo', rfl⟩ := inR_int f2
  obtain ⟨d', rfl⟩ := inR_int (v := d) f3
  obtain ⟨z', rfl⟩ := inR_int f4
  obtain ⟨h', rfl⟩ := inR_int f5
  obtain ⟨mi', rfl⟩ := inR_int f6
  obtain ⟨s', rfl⟩ := inR_int f7
  exact ⟨_, _, _, _, _, _, _, rfl, rfl, rfl, rfl, rfl, rfl, rfl⟩
def isDateL : List V → Bool
  | [.int y, .int mo, .int d, .int h, .int mi, .int s, .int z] => Ma.isDate y mo d h mi s z
  | _ => false
def isDateV (H : Hp) (v : V) : Bool := match v with
  | .ref a => match H a with
    | some (.tup xs) => isDateL xs
    | _ => false
  | _ => false
section
variable {P : Program} {w : World} {K : PySem.W.Frag} {mg : Str → Option Value} {base : Heap}
def sp__days_in_month : Sp := fun vs H Q _ => ∃ y m, vs = [.int y, .int m] ∧ Q (.int (Ma.dim y m)) H
def sp__fits_calendar : Sp := fun vs H Q _ => ∃ (dd a : Addr) (y mo d h mi s z : V), vs = [.ref a] ∧ H a = some (.tup [y, mo, d, h, mi, s, z]) ∧ (∀ x ∈ [y, mo, d, h, mi, s, z], ∃ k, Thg dd H x k) ∧ Q (.bl (fitsV y mo d h mi s z)) H
def sp__seconds_before : Sp := fun vs H Q _ => ∃ (a : Addr) (y mo d h mi s z : Int), vs = [.ref a] ∧ H a = some (.tup [.int y, .int mo, .int d, .int h, .int mi, .int s, .int z]) ∧ Q (.int (Ma.before y mo d h mi s z)) H
def sp__is_before_leap_second : Sp := fun vs H Q _ => ∃ b, vs = [.int b] ∧ ∀ H', Same H H' → Q (.bl (Ma.isLeap b)) H'
def sp_is_date : Sp := fun vs H Q _ => ∃ (dd : Addr) (v : V) (k : String), vs = [v] ∧ Thg dd H v k ∧ (∀ a xs, v = .ref a → H a = some (.tup xs) → ∀ x ∈ xs, ∃ k, Thg dd H x k) ∧ ∀ H', Same H H' → Q (.bl (isDateV H v)) H'
end
end Toy
set_option Elab.async false
set_option linter.all false
set_option maxRecDepth 100000
set_option maxHeartbeats 2000000
namespace Toy
open PySem PySem.Spec PyProof.Rows L2
/-! ### the draws -/
theorem s_ca : ¬ (("cells" : Str) = ("at" : Str)) := by decide +kernel
theorem s_ac : ¬ (("at" : Str) = ("cells" : Str)) := by decide +kernel
theorem n_ca : ¬ ((Sum.inr ("cells" : Str) : Key) = Sum.inr ("at" : Str)) := by decide +kernel
theorem s_cl : ¬ (("cells" : Str) = ("left" : Str)) := by decide +kernel
theorem s_lc : ¬ (("left" : Str) = ("cells" : Str)) := by decide +kernel
theorem n_cl : ¬ ((Sum.inr ("cells" : Str) : Key) = Sum.inr ("left" : Str)) := by decide +kernel
theorem s_cu : ¬ (("cells" : Str) = ("used" : Str)) := by decide +kernel
theorem s_uc : ¬ (("used" : Str) = ("cells" : Str)) := by decide +kernel
theorem n_cu : ¬ ((Sum.inr ("cells" : Str) : Key) = Sum.inr ("used" : Str)) := by decide +kernel
theorem s_al : ¬ (("at" : Str) = ("left" : Str)) := by decide +kernel
theorem s_la : ¬ (("left" : Str) = ("at" : Str)) := by decide +kernel
theorem n_al : ¬ ((Sum.inr ("at" : Str) : Key) = Sum.inr ("left" : Str)) := by decide +kernel
theorem s_au : ¬ (("at" : Str) = ("used" : Str)) := by decide +kernel
theorem s_ua : ¬ (("used" : Str) = ("at" : Str)) := by decide +kernel
theorem n_au : ¬ ((Sum.inr ("at" : Str) : Key) = Sum.inr ("used" : Str)) := by decide +kernel
theorem s_lu : ¬ (("left" : Str) = ("used" : Str)) := by decide +kernel
theorem s_ul : ¬ (("used" : Str) = ("left" : Str)) := by decide +kernel
theorem n_lu : ¬ ((Sum.inr ("left" : Str) : Key) = Sum.inr ("used" : Str)) := by decide +kernel
def dkv (c : Addr) (a l u : Int) : List (Key × V) := [(Sum.inr ("cells" : Str), .ref c), (Sum.inr ("at" : Str), .int a), (Sum.inr ("left" : Str), .int l), (Sum.inr ("used" : Str), .int u)]
theorem dkv_merge (c : Addr) (a l u : Int) : mergeK [] [(Sum.inr ("cells" : Str), V.ref c), (Sum.inr ("at" : Str), .int a), (Sum.inr ("left" : Str), .int l), (Sum.inr ("used" : Str), .int u)] = dkv c a l u := by
  simp [mergeK, putK, dkv, s_ca, s_ac, s_cl, s_lc, s_cu, s_uc, s_al, s_la, s_au, s_ua, s_lu, s_ul]
theorem put_at (c : Addr) (a l u x : Int) : putK (dkv c a l u) (Sum.inr ("at" : Str)) (.int x) = dkv c x l u := by
  simp [putK, dkv, s_ca, s_ac, s_cl, s_lc, s_cu, s_uc, s_al, s_la, s_au, s_ua, s_lu, s_ul]
theorem put_left (c : Addr) (a l u x : Int) : putK (dkv c a l u) (Sum.inr ("left" : Str)) (.int x) = dkv c a x u := by
  simp [putK, dkv, s_ca, s_ac, s_cl, s_lc, s_cu, s_uc, s_al, s_la, s_au, s_ua, s_lu, s_ul]
theorem put_used (c : Addr) (a l u x : Int) : putK (dkv c a l u) (Sum.inr ("used" : Str)) (.int x) = dkv c a l x := by
  simp [putK, dkv, s_ca, s_ac, s_cl, s_lc, s_cu, s_uc, s_al, s_la, s_au, s_ua, s_lu, s_ul]
section
variable {H : Hp} {d c : Addr} {a l u : Int}
theorem get_cells (h : H d = some (.dK (dkv c a l u))) : DGet H d (.str "cells") (some (.ref c)) := by
  have g := DGet.k (k := Sum.inr ("cells" : Str)) h
  rw [show valV (dkv c a l u) (Sum.inr ("cells" : Str)) = some (.ref c) from valV_pos rfl] at g
  exact g
theorem get_at (h : H d = some (.dK (dkv c a l u))) : DGet H d (.str "at") (some (.int a)) := by
  have g := DGet.k (k := Sum.inr ("at" : Str)) h
  rw [show valV (dkv c a l u) (Sum.inr ("at" : Str)) = some (.int a) by unfold dkv; rw [valV_neg n_ca, valV_pos rfl]] at g
  exact g
theorem get_left (h : H d = some (.dK (dkv c a l u))) : DGet H d (.str "left") (some (.int l)) := by
  have g := DGet.k (k := Sum.inr ("left" : Str)) h
  rw [show valV (dkv c a l u) (Sum.inr ("left" : Str)) = some (.int l) by unfold dkv; rw [valV_neg n_cl, valV_neg n_al, valV_pos rfl]] at g
  exact g
theorem get_used (h : H d = some (.dK (dkv c a l u))) : DGet H d (.str "used") (some (.int u)) := by
  have g := DGet.k (k := Sum.inr ("used" : Str)) h
  rw [show valV (dkv c a l u) (Sum.inr ("used" : Str)) = some (.int u) by unfold dkv; rw [valV_neg n_cu, valV_neg n_au, valV_neg n_lu, valV_pos rfl]] at g
  exact g
theorem dkv_few : (dkv c a l u).length < sizeLine := Nat.lt_of_lt_of_le (show 4 < 1000 by decide) (by decide)
theorem set_at (x : Int) (h : H d = some (.dK (dkv c a l u))) : DPut H d (.str "at") (.int x) (upd H d (.dK (dkv c x l u))) := by
  have g := DPut.k (k := Sum.inr ("at" : Str)) (v := .int x) h dkv_few
  rw [put_at] at g
  exact g
theorem set_left (x : Int) (h : H d = some (.dK (dkv c a l u))) : DPut H d (.str "left") (.int x) (upd H d (.dK (dkv c a x u))) := by
  have g := DPut.k (k := Sum.inr ("left" : Str)) (v := .int x) h dkv_few
  rw [put_left] at g
  exact g
theorem set_used (x : Int) (h : H d = some (.dK (dkv c a l u))) : DPut H d (.str "used") (.int x) (upd H d (.dK (dkv c a l x))) := by
  have g := DPut.k (k := Sum.inr ("used" : Str)) (v := .int x) h dkv_few
  rw [put_used] at g
  exact g
end
/-- a drawing at d, after at most n draws -/
def Draw (H : Hp) (d : Addr) (n : Int) : Prop := ∃ (c : Addr) (xs : List Int) (a l u : Int), H d = some (.dK (dkv c a l u)) ∧ H c = some (.lst (xs.map V.int)) ∧ xs ≠ [] ∧ 0 ≤ a ∧ a ≤ n ∧ 0 ≤ u ∧ u ≤ n
theorem Draw.same {H H' : Hp} {d : Addr} {n : Int} (h : Draw H d n) (e : Same H H') : Draw H' d n := by
  obtain ⟨c, xs, a, l, u, h1, h2, r⟩ := h
  exact ⟨c, xs, a, l, u, e _ _ h1, e _ _ h2, r⟩
theorem Draw.more {H : Hp} {d : Addr} {n m : Int} (h : Draw H d n) (e : n ≤ m) : Draw H d m := by
  obtain ⟨c, xs, a, l, u, h1, h2, h3, r1, r2, r3, r4⟩ := h
  exact ⟨c, xs, a, l, u, h1, h2, h3, r1, by omega, r3, by omega⟩
theorem Draw.dic {H : Hp} {d : Addr} {n : Int} (h : Draw H d n) : ∃ kvs, H d = some (.dK kvs) := by
  obtain ⟨c, xs, a, l, u, h1, _⟩ := h
  exact ⟨_, h1⟩
theorem at_some {α : Type} {xs : List α} {i : Int} (h0 : 0 ≤ i) (h1 : i < xs.length) : ∃ v, atI xs i = some v ∧ v ∈ xs := by
  have h2 : i.toNat < xs.length := by omega
  refine ⟨xs[i.toNat], ?_, List.getElem_mem _⟩
  have e : i = ((i.toNat : Nat) : Int) := by omega
  have h3 := atI_nat (xs := xs) (j := i.toNat) (v := xs[i.toNat]) (by simp [h2])
  rw [← e] at h3
  exact h3
theorem keep_upd {d : Addr} {H : Hp} {o : HO} : Keep d H (upd H d o) := fun a u n h => by rw [upd_ne n]; exact h
theorem mod_few (x m : Int) (h : 0 < m) (h2 : m < 2 ^ 64) : -(2 ^ 64) < x % m ∧ x % m < 2 ^ 64 := by
  have a := Int.emod_nonneg x (show m ≠ 0 by omega)
  have b := Int.emod_lt_of_pos x h
  omega

section
variable {P : Program} {w : World} {K : PySem.W.Frag} {mg : Str → Option Value} {base : Heap}
def sp__law_begin (K : PySem.W.Frag) : Sp := fun vs H Q _ => ∃ (s : Addr) (ns : List Int), vs = [.ref s] ∧ SqL K H s (ns.map V.int) ∧ ns.length ≤ 63 ∧ ∀ H' d, Same H H' → H d = none → Draw H' d 0 → Q (.ref d) H'
theorem ok__law_begin (T : Txt K mg) : FnOk P w K mg base CX0 1 T.a__law_begin T.d__law_begin ["script"] (sp__law_begin K) := by
  refine T.F__law_begin.ok sc__law_begin (fun vs H Q E h => ?_) (fun cdv A outer s H vs Q E hr h => ?_)
  · obtain ⟨s, ns, rfl, _⟩ := h; rfl
  · obtain ⟨s, ns, rfl, hs, hl, q⟩ := h
    refine ⟨_, (pss_one (ps_ret (pe_disp (pps_cons pe_str (pe_op Vz.op_catR (pv 0) (pe_lst (pa_cons pe_int pa_nil))) (pps_cons pe_str pe_int (pps_cons pe_str pe_int (pps_cons pe_str pe_int pps_nil)))) (by rfl) (by rfl) (fun z => by cases z) (by decide)))), ?_⟩
    refine fun p np => ?_
    have s1 := same_new (o := .dK []) np
    refine ⟨_, rfl, (by show 1 ≤ sizeLine; decide), fun b nb => ?_⟩
    have s2 := same_new (o := .lst [V.int 0]) nb
    refine ⟨s, b, ns.map V.int, [.int 0], rfl, rfl, s2.seq (s1.seq hs), SqL.of upd_same, ?_, fun c nc => ?_⟩
    · rw [List.length_map]; exact Nat.le_trans (Nat.add_le_add_right hl 1) (by decide)
    · have hp : upd (upd (upd H p (.dK [])) b (.lst [V.int 0])) c (.lst (ns.map V.int ++ [V.int 0])) p = some (.dK []) := by
        rw [upd_ne (ne_of_none (o := .dK []) (s2 _ _ upd_same) nc), upd_ne (ne_of_none (o := .dK []) upd_same nb), upd_same]
      refine ⟨hp, [(Sum.inr ("cells" : Str), V.ref c), (Sum.inr ("at" : Str), .int 0), (Sum.inr ("left" : Str), .int 0), (Sum.inr ("used" : Str), .int 0)], rfl, (by show 4 ≤ 15; decide), ?_⟩
      rw [dkv_merge]
      have ncp : c ≠ p := by intro z; subst z; rw [s2 _ _ upd_same] at nc; cases nc
      refine q _ p (fun x o e => ?_) np ⟨c, ns ++ [0], 0, 0, 0, upd_same, ?_, by simp, by omega, by omega, by omega, by omega⟩
      · rw [upd_ne (ne_of_none e np)]
        exact same_new nc _ _ (s2 _ _ (s1 _ _ e))
      · rw [upd_ne ncp, upd_same]; simp
def sp__law_mixed : Sp := fun vs H Q _ => ∃ c k, vs = [.int c, .int k] ∧ 0 ≤ k ∧ k ≤ 1099511627776 ∧ ∀ m, Q (.int m) H
theorem ok__law_mixed (T : Txt K mg) : FnOk P w K mg base CX0 1 T.a__law_mixed T.d__law_mixed ["cell", "k"] sp__law_mixed := by
  refine T.F__law_mixed.ok sc__law_mixed (fun vs H Q E h => ?_) (fun cdv A outer s H vs Q E hr h => ?_)
  · obtain ⟨c, k, rfl, _⟩ := h; rfl
  · obtain ⟨c, k, rfl, k0, k1, q⟩ := h
    refine ⟨_, (pss_cons (ps_set (i := 2) sc__law_mixed.nd rfl (by first | exact Or.inl rfl | exact Or.inr rfl) (pe_op op_mod (pe_callTy call_int1 (by rfl) T.z_int (by decide +kernel) (pa_cons (pe_op op_add (pe_op op_add (pe_op op_add (pe_op op_mod (pe_callTy call_int1 (by rfl) T.z_int (by decide +kernel) (pa_cons (pv 0) pa_nil)) pe_int) (pe_op op_mul (pe_op op_mul pe_int (pv 1)) (pv 1))) (pe_op op_mul pe_int (pv 1))) pe_int) pa_nil)) pe_int))
        (pss_cons (ps_set (i := 2) sc__law_mixed.nd rfl (by first | exact Or.inl rfl | exact Or.inr rfl) (pe_op op_mod (pe_callTy call_int1 (by rfl) T.z_int (by decide +kernel) (pa_cons (pe_op op_mul (pe_op op_mod (pe_callTy call_int1 (by rfl) T.z_int (by decide +kernel) (pa_cons (pe_op op_mul (pv 2) (pv 2)) pa_nil)) pe_int) (pv 2)) pa_nil)) pe_int))
        (pss_one (ps_ret (pe_op op_fdiv (pe_op op_mod (pe_callTy call_int1 (by rfl) T.z_int (by decide +kernel) (pa_cons (pe_op op_mul (pv 2) (pe_op op_add pe_int (pe_op op_mul pe_int (pe_op op_mod (pe_callTy call_int1 (by rfl) T.z_int (by decide +kernel) (pa_cons (pv 1) pa_nil)) pe_int)))) pa_nil)) pe_int) pe_int))))), ?_⟩
    refine ⟨_, rfl, .inl ⟨_, rfl, ?_⟩⟩
    refine ⟨_, _, rfl, rfl, (by show (0 : Int) < 1000000007; decide), _, rfl, _, _, rfl, rfl, .inl ⟨by decide, by decide⟩, _, rfl, _, _, rfl, rfl, .inl ⟨by omega, by omega⟩, _, _, rfl, rfl, _, rfl, _, _, rfl, rfl, .inl ⟨by decide, by decide⟩, _, _, rfl, rfl, _, _, rfl, rfl, .inl ⟨_, rfl, ?_⟩⟩
    refine ⟨_, _, rfl, rfl, (by show (0 : Int) < 2147483647; decide), ?_⟩
    refine ⟨_, rfl, _, rfl, _, _, rfl, rfl, .inl (mod_few _ _ (by decide) (by decide)), .inl ⟨_, rfl, ?_⟩⟩
    refine ⟨_, _, rfl, rfl, (by show (0 : Int) < 2147483647; decide), _, rfl, _, _, rfl, rfl, .inl (mod_few _ _ (by decide) (by decide)), .inl ⟨_, rfl, ?_⟩⟩
    refine ⟨_, _, rfl, rfl, (by show (0 : Int) < 2147483629; decide), ?_⟩
    refine ⟨_, rfl, _, rfl, .inl ⟨_, rfl, ?_⟩⟩
    refine ⟨_, _, rfl, rfl, (by show (0 : Int) < 1000; decide), _, _, rfl, rfl, .inl ⟨by decide, by decide⟩, _, _, rfl, rfl, _, _, rfl, rfl, .inl (mod_few _ _ (by decide) (by decide)), .inl ⟨_, rfl, ?_⟩⟩
    refine ⟨_, _, rfl, rfl, (by show (0 : Int) < 2147483647; decide), _, _, rfl, rfl, ⟨by decide, by decide⟩, ?_⟩
    exact q _
def sp__law_next : Sp := fun vs H Q _ => ∃ (d : Addr) (m n : Int), vs = [.ref d, .int m] ∧ Draw H d n ∧ 0 < m ∧ m < 1073741824 ∧ n ≤ 1000000000 ∧ ∀ H' k, Keep d H H' → Draw H' d (n + 1) → 0 ≤ k → k < m → Q (.int k) H'
theorem ok__law_next (T : Txt K mg) : FnOk P w K mg base CX0 2 T.a__law_next T.d__law_next ["draw", "bound"] sp__law_next := by
  refine T.F__law_next.ok sc__law_next (fun vs H Q E h => ?_) (fun cdv A outer s H vs Q E hr h => ?_)
  · obtain ⟨d, m, n, rfl, _⟩ := h; rfl
  · obtain ⟨d, m, n, rfl, ⟨c, xs, a, l, u, h1, h2, h3, a0, a1, u0, u1⟩, m0, m1, n1, q⟩ := h
    have hu := hu_of hr
    have small : ∀ x : Int, 0 ≤ x % m ∧ x % m < m := fun x => ⟨Int.emod_nonneg x (by omega), Int.emod_lt_of_pos x m0⟩
    have ncd : c ≠ d := ne_of h2 h1 (by intro z; cases z)
    refine ⟨_, (pss_cons (ps_if (pt_cmpR op_gt (pe_dget hu (pv 0) pe_str (fun _ _ => rfl)) pe_int (nomark _)) (pss_cons (ps_set (i := 2) sc__law_next.nd rfl (by first | exact Or.inl rfl | exact Or.inr rfl) (pe_op op_mod (pe_callTy call_int1 (by rfl) T.z_int (by decide +kernel) (pa_cons (pe_dget hu (pv 0) pe_str (fun _ _ => rfl)) pa_nil)) (pv 1)))
        (pss_cons (ps_dput hu (pv 0) pe_str (pe_op op_fdiv (pe_dget hu (pv 0) pe_str (fun _ _ => rfl)) (pv 1)) rfl)
        (pss_one (ps_ret (pv 2))))) pss_nil)
        (pss_cons (ps_set (i := 3) sc__law_next.nd rfl (by first | exact Or.inl rfl | exact Or.inr rfl) (pe_dget hu (pv 0) pe_str (fun _ _ => rfl)))
        (pss_cons (ps_set (i := 4) sc__law_next.nd rfl (by first | exact Or.inl rfl | exact Or.inr rfl) (pe_ix ix_list (pv 3) (pe_op op_mod (pe_callTy call_int1 (by rfl) T.z_int (by decide +kernel) (pa_cons (pe_dget hu (pv 0) pe_str (fun _ _ => rfl)) pa_nil)) (pe_callB call_len_seq (by rfl) T.z_len PySem.boot_len (pa_cons (pv 3) pa_nil))) (fun _ _ => rfl)))
        (pss_cons (ps_dput hu (pv 0) pe_str (pe_op op_add (pe_dget hu (pv 0) pe_str (fun _ _ => rfl)) pe_int) rfl)
        (pss_cons (ps_if (PW.pt (pw_and (pt_cmpR op_ge (pv 4) (pe_op op_pow pe_int pe_int) (nomark _)) (pw_and1 (pt_cmpR op_le (pe_dget hu (pv 0) pe_str (fun _ _ => rfl)) (pe_callB call_len_seq (by rfl) T.z_len PySem.boot_len (pa_cons (pv 3) pa_nil)) (nomark _))))) (pss_cons (ps_dput hu (pv 0) pe_str (pe_op op_fdiv (pv 4) (pv 1)) rfl)
        (pss_one (ps_ret (pe_op op_mod (pe_callTy call_int1 (by rfl) T.z_int (by decide +kernel) (pa_cons (pv 4) pa_nil)) (pv 1))))) pss_nil)
        (pss_cons (ps_dput hu (pv 0) pe_str (pe_op op_add (pe_dget hu (pv 0) pe_str (fun _ _ => rfl)) pe_int) rfl)
        (pss_one (ps_ret (pe_op op_mod (pe_callTy call_int1 (by rfl) T.z_int (by decide +kernel) (pa_cons (pe_call (ok__law_mixed T) (hr.mono (by decide)) (by rfl) T.g__law_mixed T.F__law_mixed.kp T.b__law_mixed .nil pass0 (pa_cons (pe_call (ok__law_mixed T) (hr.mono (by decide)) (by rfl) T.g__law_mixed T.F__law_mixed.kp T.b__law_mixed .nil pass0 (pa_cons (pv 4) (pa_cons (pe_dget hu (pv 0) pe_str (fun _ _ => rfl)) pa_nil))) (pa_cons (pe_dget hu (pv 0) pe_str (fun _ _ => rfl)) pa_nil))) pa_nil)) (pv 1)))))))))), ?_⟩
    refine ⟨_, rfl, _, _, rfl, get_left h1, _, _, rfl, rfl, _, rfl, ?_⟩
    refine ite2 (fun cc => ?_) (fun cc => ?_)
    · refine ⟨_, rfl, _, _, rfl, get_left h1, .inl ⟨_, rfl, _, rfl, _, _, rfl, rfl, m0, ?_⟩⟩
      refine ⟨_, rfl, _, _, rfl, get_left h1, _, rfl, _, _, rfl, rfl, ⟨m0, m1⟩, _, rfl, _, _, rfl, set_left _ h1, ?_⟩
      exact ⟨_, rfl, q _ _ keep_upd ⟨c, xs, a, _, u, upd_same, by rw [upd_ne ncd]; exact h2, h3, a0, by omega, u0, by omega⟩ (small _).1 (small _).2⟩
    · have len0 : 0 < (xs.map V.int).length := by
        cases xs with
        | nil => exact absurd rfl h3
        | cons x r => simp
      have i0 : 0 ≤ a % ((xs.map V.int).length : Int) := Int.emod_nonneg _ (by omega)
      have i1 : a % ((xs.map V.int).length : Int) < ((xs.map V.int).length : Int) := Int.emod_lt_of_pos _ (by omega)
      obtain ⟨v, hv, hm⟩ := at_some i0 i1
      obtain ⟨x, _, rfl⟩ := List.mem_map.mp hm
      refine ⟨_, rfl, _, _, rfl, get_cells h1, ?_⟩
      refine ⟨_, rfl, _, rfl, _, _, rfl, get_at h1, .inl ⟨_, rfl, _, rfl, _, _, rfl, .inl (SqL.of h2), _, _, rfl, rfl, (by show (0 : Int) < ((xs.map V.int).length : Int); omega), _, _, _, _, rfl, rfl, SqL.of h2, hv, ?_⟩⟩
      refine ⟨_, rfl, _, _, rfl, get_at h1, _, _, rfl, rfl, _, rfl, _, _, rfl, set_at _ h1, ?_⟩
      have h1' : upd H d (.dK (dkv c (a + 1) l u)) d = some (.dK (dkv c (a + 1) l u)) := upd_same
      have h2' : upd H d (.dK (dkv c (a + 1) l u)) c = some (.lst (xs.map V.int)) := by rw [upd_ne ncd]; exact h2
      have last : ∀ H2, Keep d H H2 → H2 d = some (.dK (dkv c (a + 1) l u)) → H2 c = some (.lst (xs.map V.int)) → ∀ k, 0 ≤ k → k < m → Q (.int k) (upd H2 d (.dK (dkv c (a + 1) l (u + 1)))) := fun H2 e1 e2 e3 k k0 k1 =>
        q _ _ (e1.trans keep_upd) ⟨c, xs, a + 1, l, u + 1, upd_same, by rw [upd_ne ncd]; exact e3, h3, by omega, by omega, by omega, by omega⟩ k0 k1
      have ending : ∀ z : Prop, z → z := fun _ h => h
      refine ⟨_, rfl, _, _, rfl, rfl, ⟨by decide, by decide, by decide⟩, _, _, rfl, rfl, _, rfl, ?_⟩
      refine ite2 (fun c1 => ?_) (fun c1 => ?_)
      · refine ⟨_, rfl, _, _, rfl, get_at h1', _, rfl, _, _, rfl, .inl (SqL.of h2'), _, _, rfl, rfl, _, rfl, ?_⟩
        refine ite2 (fun c2 => ?_) (fun c2 => ?_)
        · refine ⟨_, rfl, _, rfl, _, _, rfl, rfl, ⟨m0, m1⟩, _, rfl, _, _, rfl, set_left _ h1', ?_⟩
          refine ⟨_, rfl, .inl ⟨_, rfl, _, rfl, _, _, rfl, rfl, m0, ?_⟩⟩
          exact q _ _ (keep_upd.trans keep_upd) ⟨c, xs, a + 1, _, u, upd_same, by rw [upd_ne ncd]; exact h2', h3, by omega, by omega, u0, by omega⟩ (small _).1 (small _).2
        · refine ⟨_, rfl, _, _, rfl, get_used h1', _, _, rfl, rfl, _, rfl, _, _, rfl, set_used _ h1', ?_⟩
          refine ⟨_, rfl, _, rfl, _, _, rfl, get_at upd_same, _, _, rfl, by omega, by omega, fun m1 => ?_⟩
          refine ⟨_, rfl, _, _, rfl, get_used upd_same, _, _, rfl, by omega, by omega, fun m2 => .inl ⟨_, rfl, _, rfl, _, _, rfl, rfl, m0, ?_⟩⟩
          exact last _ keep_upd h1' h2' _ (small _).1 (small _).2
      · refine iteF ?_
        refine ⟨_, rfl, _, _, rfl, get_used h1', _, _, rfl, rfl, _, rfl, _, _, rfl, set_used _ h1', ?_⟩
        refine ⟨_, rfl, _, rfl, _, _, rfl, get_at upd_same, _, _, rfl, by omega, by omega, fun m1 => ?_⟩
        refine ⟨_, rfl, _, _, rfl, get_used upd_same, _, _, rfl, by omega, by omega, fun m2 => .inl ⟨_, rfl, _, rfl, _, _, rfl, rfl, m0, ?_⟩⟩
        exact last _ keep_upd h1' h2' _ (small _).1 (small _).2
end
end Toy
set_option Elab.async false
set_option linter.all false
set_option maxRecDepth 100000
set_option maxHeartbeats 8000000
namespace Toy
open PySem PySem.Spec PyProof.Rows L2
section
variable {P : Program} {w : World} {K : PySem.W.Frag} {mg : Str → Option Value} {base : Heap}
/-- the classes, in the law's order -/
def csT (T : Txt K mg) : List Addr := [T.c_BadMoment.C, T.c_BadZone.C, T.c_BadDate.C, T.c_BadAddress.C, T.c_BadThing.C, T.c_BadDevice.C, T.c_NoEntry.C, T.c_Taken.C, T.c_NoItem.C, T.c_BadFolder.C, T.c_BadVector.C, T.c_BadEntry.C, T.c_BadNumber.C, T.c_BadWorld.C, T.c_BadTrouble.C, T.c_BadShelf.C, T.c_NoSighting.C, T.c_BadLibrary.C, T.c_BadWindow.C, T.c_BadOffer.C, T.c_BadLog.C, T.c_NoAnswer.C, T.c_BadBundle.C, T.c_TooMany.C, T.c_Torn.C, T.c_NoNote.C, T.c_BadQuery.C, T.c_Gap.C, T.c_BadPage.C, T.c_BadText.C]
/-- their fields: v the first thing that is given, y the second -/
def fsT (v y : V) : List (List (Str × V)) := [[("given", v)], [("given", v)], [("given", v)], [("given", v)], [("given", v)], [("given", v)], [("given", v)], [("given", v)], [("given", v)], [("given", v)], [("given", v)], [("field", v)], [("field", v)], [("number", v)], [("number", v)], [("number", v)], [("number", v)], [("number", v)], [("number", v)], [("number", v)], [("number", v)], [("number", v)], [("number", v)], [("what", v)], [("stamp", v)], [("stamp", v)], [("path", v)], [("device", v)], [("number", y), ("field", v)], [("column", y), ("line", v)]]
def sp_made (T : Txt K mg) : Sp := fun vs H Q _ => ∃ v y : V, vs = [v, y] ∧ ∀ H' p xs, Same H H' → H' p = some (.lst xs) → Vz.MadeAll H' xs (csT T) (fsT v y) → Q (.ref p) H'

theorem ok__law_made (T : Txt K mg) : FnOk P w K mg base CX0 3 T.a__law_made T.d__law_made ["worth", "more"] (sp_made T) := by
  refine T.F__law_made.ok sc__law_made (fun vs H Q E h => ?_) (fun cdv A outer s H vs Q E hr h => ?_)
  · obtain ⟨v, y, rfl, _⟩ := h; rfl
  · obtain ⟨v, y, rfl, q⟩ := h
    refine ⟨_, (pss_cons (ps_set (i := 2) sc__law_made.nd rfl (by first | exact Or.inl rfl | exact Or.inr rfl) (pe_lst (pa_cons (Vz.pe_mkx T.c_BadMoment.o T.c_BadMoment.iC T.c_BadMoment.tI (ok_init_BadMoment T) (hr.mono (by decide)) T.c_BadMoment.b pass0 (by rfl) T.c_BadMoment.g (pa_cons (pv 0) pa_nil)) (pa_cons (Vz.pe_mkx T.c_BadZone.o T.c_BadZone.iC T.c_BadZone.tI (ok_init_BadZone T) (hr.mono (by decide)) T.c_BadZone.b pass0 (by rfl) T.c_BadZone.g (pa_cons (pv 0) pa_nil)) (pa_cons (Vz.pe_mkx T.c_BadDate.o T.c_BadDate.iC T.c_BadDate.tI (ok_init_BadDate T) (hr.mono (by decide)) T.c_BadDate.b pass0 (by rfl) T.c_BadDate.g (pa_cons (pv 0) pa_nil)) (pa_cons (Vz.pe_mkx T.c_BadAddress.o T.c_BadAddress.iC T.c_BadAddress.tI (ok_init_BadAddress T) (hr.mono (by decide)) T.c_BadAddress.b pass0 (by rfl) T.c_BadAddress.g (pa_cons (pv 0) pa_nil)) (pa_cons (Vz.pe_mkx T.c_BadThing.o T.c_BadThing.iC T.c_BadThing.tI (ok_init_BadThing T) (hr.mono (by decide)) T.c_BadThing.b pass0 (by rfl) T.c_BadThing.g (pa_cons (pv 0) pa_nil)) (pa_cons (Vz.pe_mkx T.c_BadDevice.o T.c_BadDevice.iC T.c_BadDevice.tI (ok_init_BadDevice T) (hr.mono (by decide)) T.c_BadDevice.b pass0 (by rfl) T.c_BadDevice.g (pa_cons (pv 0) pa_nil)) pa_nil))))))))
        (pss_cons (ps_set (i := 2) sc__law_made.nd rfl (by first | exact Or.inl rfl | exact Or.inr rfl) (pe_op Vz.op_catR (pv 2) (pe_lst (pa_cons (Vz.pe_mkx T.c_NoEntry.o T.c_NoEntry.iC T.c_NoEntry.tI (ok_init_NoEntry T) (hr.mono (by decide)) T.c_NoEntry.b pass0 (by rfl) T.c_NoEntry.g (pa_cons (pv 0) pa_nil)) (pa_cons (Vz.pe_mkx T.c_Taken.o T.c_Taken.iC T.c_Taken.tI (ok_init_Taken T) (hr.mono (by decide)) T.c_Taken.b pass0 (by rfl) T.c_Taken.g (pa_cons (pv 0) pa_nil)) (pa_cons (Vz.pe_mkx T.c_NoItem.o T.c_NoItem.iC T.c_NoItem.tI (ok_init_NoItem T) (hr.mono (by decide)) T.c_NoItem.b pass0 (by rfl) T.c_NoItem.g (pa_cons (pv 0) pa_nil)) (pa_cons (Vz.pe_mkx T.c_BadFolder.o T.c_BadFolder.iC T.c_BadFolder.tI (ok_init_BadFolder T) (hr.mono (by decide)) T.c_BadFolder.b pass0 (by rfl) T.c_BadFolder.g (pa_cons (pv 0) pa_nil)) (pa_cons (Vz.pe_mkx T.c_BadVector.o T.c_BadVector.iC T.c_BadVector.tI (ok_init_BadVector T) (hr.mono (by decide)) T.c_BadVector.b pass0 (by rfl) T.c_BadVector.g (pa_cons (pv 0) pa_nil)) (pa_cons (Vz.pe_mkx T.c_BadEntry.o T.c_BadEntry.iC T.c_BadEntry.tI (ok_init_BadEntry T) (hr.mono (by decide)) T.c_BadEntry.b pass0 (by rfl) T.c_BadEntry.g (pa_cons (pv 0) pa_nil)) pa_nil)))))))))
        (pss_cons (ps_set (i := 2) sc__law_made.nd rfl (by first | exact Or.inl rfl | exact Or.inr rfl) (pe_op Vz.op_catR (pv 2) (pe_lst (pa_cons (Vz.pe_mkx T.c_BadNumber.o T.c_BadNumber.iC T.c_BadNumber.tI (ok_init_BadNumber T) (hr.mono (by decide)) T.c_BadNumber.b pass0 (by rfl) T.c_BadNumber.g (pa_cons (pv 0) pa_nil)) (pa_cons (Vz.pe_mkx T.c_BadWorld.o T.c_BadWorld.iC T.c_BadWorld.tI (ok_init_BadWorld T) (hr.mono (by decide)) T.c_BadWorld.b pass0 (by rfl) T.c_BadWorld.g (pa_cons (pv 0) pa_nil)) (pa_cons (Vz.pe_mkx T.c_BadTrouble.o T.c_BadTrouble.iC T.c_BadTrouble.tI (ok_init_BadTrouble T) (hr.mono (by decide)) T.c_BadTrouble.b pass0 (by rfl) T.c_BadTrouble.g (pa_cons (pv 0) pa_nil)) (pa_cons (Vz.pe_mkx T.c_BadShelf.o T.c_BadShelf.iC T.c_BadShelf.tI (ok_init_BadShelf T) (hr.mono (by decide)) T.c_BadShelf.b pass0 (by rfl) T.c_BadShelf.g (pa_cons (pv 0) pa_nil)) (pa_cons (Vz.pe_mkx T.c_NoSighting.o T.c_NoSighting.iC T.c_NoSighting.tI (ok_init_NoSighting T) (hr.mono (by decide)) T.c_NoSighting.b pass0 (by rfl) T.c_NoSighting.g (pa_cons (pv 0) pa_nil)) pa_nil))))))))
        (pss_cons (ps_set (i := 2) sc__law_made.nd rfl (by first | exact Or.inl rfl | exact Or.inr rfl) (pe_op Vz.op_catR (pv 2) (pe_lst (pa_cons (Vz.pe_mkx T.c_BadLibrary.o T.c_BadLibrary.iC T.c_BadLibrary.tI (ok_init_BadLibrary T) (hr.mono (by decide)) T.c_BadLibrary.b pass0 (by rfl) T.c_BadLibrary.g (pa_cons (pv 0) pa_nil)) (pa_cons (Vz.pe_mkx T.c_BadWindow.o T.c_BadWindow.iC T.c_BadWindow.tI (ok_init_BadWindow T) (hr.mono (by decide)) T.c_BadWindow.b pass0 (by rfl) T.c_BadWindow.g (pa_cons (pv 0) pa_nil)) (pa_cons (Vz.pe_mkx T.c_BadOffer.o T.c_BadOffer.iC T.c_BadOffer.tI (ok_init_BadOffer T) (hr.mono (by decide)) T.c_BadOffer.b pass0 (by rfl) T.c_BadOffer.g (pa_cons (pv 0) pa_nil)) (pa_cons (Vz.pe_mkx T.c_BadLog.o T.c_BadLog.iC T.c_BadLog.tI (ok_init_BadLog T) (hr.mono (by decide)) T.c_BadLog.b pass0 (by rfl) T.c_BadLog.g (pa_cons (pv 0) pa_nil)) (pa_cons (Vz.pe_mkx T.c_NoAnswer.o T.c_NoAnswer.iC T.c_NoAnswer.tI (ok_init_NoAnswer T) (hr.mono (by decide)) T.c_NoAnswer.b pass0 (by rfl) T.c_NoAnswer.g (pa_cons (pv 0) pa_nil)) pa_nil))))))))
        (pss_cons (ps_set (i := 2) sc__law_made.nd rfl (by first | exact Or.inl rfl | exact Or.inr rfl) (pe_op Vz.op_catR (pv 2) (pe_lst (pa_cons (Vz.pe_mkx T.c_BadBundle.o T.c_BadBundle.iC T.c_BadBundle.tI (ok_init_BadBundle T) (hr.mono (by decide)) T.c_BadBundle.b pass0 (by rfl) T.c_BadBundle.g (pa_cons (pv 0) pa_nil)) pa_nil))))
        (pss_cons (ps_set (i := 2) sc__law_made.nd rfl (by first | exact Or.inl rfl | exact Or.inr rfl) (pe_op Vz.op_catR (pv 2) (pe_lst (pa_cons (Vz.pe_mkx T.c_TooMany.o T.c_TooMany.iC T.c_TooMany.tI (ok_init_TooMany T) (hr.mono (by decide)) T.c_TooMany.b pass0 (by rfl) T.c_TooMany.g (pa_cons (pv 0) pa_nil)) (pa_cons (Vz.pe_mkx T.c_Torn.o T.c_Torn.iC T.c_Torn.tI (ok_init_Torn T) (hr.mono (by decide)) T.c_Torn.b pass0 (by rfl) T.c_Torn.g (pa_cons (pv 0) pa_nil)) (pa_cons (Vz.pe_mkx T.c_NoNote.o T.c_NoNote.iC T.c_NoNote.tI (ok_init_NoNote T) (hr.mono (by decide)) T.c_NoNote.b pass0 (by rfl) T.c_NoNote.g (pa_cons (pv 0) pa_nil)) (pa_cons (Vz.pe_mkx T.c_BadQuery.o T.c_BadQuery.iC T.c_BadQuery.tI (ok_init_BadQuery T) (hr.mono (by decide)) T.c_BadQuery.b pass0 (by rfl) T.c_BadQuery.g (pa_cons (pv 0) pa_nil)) (pa_cons (Vz.pe_mkx T.c_Gap.o T.c_Gap.iC T.c_Gap.tI (ok_init_Gap T) (hr.mono (by decide)) T.c_Gap.b pass0 (by rfl) T.c_Gap.g (pa_cons (pv 0) pa_nil)) pa_nil))))))))
        (pss_one (ps_ret (pe_op Vz.op_catR (pv 2) (pe_lst (pa_cons (Vz.pe_mkx T.c_BadPage.o T.c_BadPage.iC T.c_BadPage.tI (ok_init_BadPage T) (hr.mono (by decide)) T.c_BadPage.b pass0 (by rfl) T.c_BadPage.g (pa_cons (pv 0) (pa_cons (pv 1) pa_nil))) (pa_cons (Vz.pe_mkx T.c_BadText.o T.c_BadText.iC T.c_BadText.tI (ok_init_BadText T) (hr.mono (by decide)) T.c_BadText.b pass0 (by rfl) T.c_BadText.g (pa_cons (pv 0) (pa_cons (pv 1) pa_nil))) pa_nil)))))))))))), ?_⟩
    refine ⟨_, rfl, ?_⟩
    dsimp only [tNil, Vz.kwA]
    refine Vz.tMk_A (v := v) (by show 1 ≤ 1000; decide) fun e1 H1 s1 m1 => ?_
    refine ⟨_, rfl, ?_⟩
    dsimp only [tNil, Vz.kwA]
    refine Vz.tMk_A (v := v) (by show 1 ≤ 1000; decide) fun e2 H2 s2 m2 => ?_
    refine ⟨_, rfl, ?_⟩
    dsimp only [tNil, Vz.kwA]
    refine Vz.tMk_A (v := v) (by show 1 ≤ 1000; decide) fun e3 H3 s3 m3 => ?_
    refine ⟨_, rfl, ?_⟩
    dsimp only [tNil, Vz.kwA]
    refine Vz.tMk_A (v := v) (by show 1 ≤ 1000; decide) fun e4 H4 s4 m4 => ?_
    refine ⟨_, rfl, ?_⟩
    dsimp only [tNil, Vz.kwA]
    refine Vz.tMk_A (v := v) (by show 1 ≤ 1000; decide) fun e5 H5 s5 m5 => ?_
    refine ⟨_, rfl, ?_⟩
    dsimp only [tNil, Vz.kwA]
    refine Vz.tMk_A (v := v) (by show 1 ≤ 1000; decide) fun e6 H6 s6 m6 => ?_
    refine ⟨(by show 6 ≤ sizeLine; decide), fun p1 n1 => ?_⟩
    have t1 := same_new (o := .lst [V.ref e1, V.ref e2, V.ref e3, V.ref e4, V.ref e5, V.ref e6]) n1
    have w1 := (Vz.made_map (Vz.made_map (Vz.made_map (Vz.made_map (Vz.made_map (Vz.made_map m1 s2) s3) s4) s5) s6) t1)
    have w2 := (Vz.made_map (Vz.made_map (Vz.made_map (Vz.made_map (Vz.made_map m2 s3) s4) s5) s6) t1)
    have w3 := (Vz.made_map (Vz.made_map (Vz.made_map (Vz.made_map m3 s4) s5) s6) t1)
    have w4 := (Vz.made_map (Vz.made_map (Vz.made_map m4 s5) s6) t1)
    have w5 := (Vz.made_map (Vz.made_map m5 s6) t1)
    have w6 := (Vz.made_map m6 t1)
    have b1 : Same H _ := Same.trans (Same.trans (Same.trans (Same.trans (Same.trans (Same.trans s1 s2) s3) s4) s5) s6) t1
    have a1 : Vz.MadeAll _ [V.ref e1, V.ref e2, V.ref e3, V.ref e4, V.ref e5, V.ref e6] [T.c_BadMoment.C, T.c_BadZone.C, T.c_BadDate.C, T.c_BadAddress.C, T.c_BadThing.C, T.c_BadDevice.C] [[("given", v)], [("given", v)], [("given", v)], [("given", v)], [("given", v)], [("given", v)]] := ⟨⟨e1, rfl, w1⟩, ⟨e2, rfl, w2⟩, ⟨e3, rfl, w3⟩, ⟨e4, rfl, w4⟩, ⟨e5, rfl, w5⟩, ⟨e6, rfl, w6⟩, True.intro⟩
    have L1 := (SqL.of (K := K) (H := (upd H6 p1 (.lst [V.ref e1, V.ref e2, V.ref e3, V.ref e4, V.ref e5, V.ref e6]))) (a := p1) upd_same)
    have A1 := a1
    have B1 := b1
    have X1 : (upd H6 p1 (.lst [V.ref e1, V.ref e2, V.ref e3, V.ref e4, V.ref e5, V.ref e6])) p1 = some (.lst [V.ref e1, V.ref e2, V.ref e3, V.ref e4, V.ref e5, V.ref e6]) := upd_same
    clear w1 m1 w2 m2 w3 m3 w4 m4 w5 m5 w6 m6
    refine ⟨_, rfl, ?_⟩
    refine ⟨_, rfl, ?_⟩
    dsimp only [tNil, Vz.kwA]
    refine Vz.tMk_A (v := v) (by show 1 ≤ 1000; decide) fun e7 H7 s7 m7 => ?_
    refine ⟨_, rfl, ?_⟩
    dsimp only [tNil, Vz.kwA]
    refine Vz.tMk_A (v := v) (by show 1 ≤ 1000; decide) fun e8 H8 s8 m8 => ?_
    refine ⟨_, rfl, ?_⟩
    dsimp only [tNil, Vz.kwA]
    refine Vz.tMk_A (v := v) (by show 1 ≤ 1000; decide) fun e9 H9 s9 m9 => ?_
    refine ⟨_, rfl, ?_⟩
    dsimp only [tNil, Vz.kwA]
    refine Vz.tMk_A (v := v) (by show 1 ≤ 1000; decide) fun e10 H10 s10 m10 => ?_
    refine ⟨_, rfl, ?_⟩
    dsimp only [tNil, Vz.kwA]
    refine Vz.tMk_A (v := v) (by show 1 ≤ 1000; decide) fun e11 H11 s11 m11 => ?_
    refine ⟨_, rfl, ?_⟩
    dsimp only [tNil, Vz.kwA]
    refine Vz.tMk_A (v := v) (by show 1 ≤ 1000; decide) fun e12 H12 s12 m12 => ?_
    refine ⟨(by show 6 ≤ sizeLine; decide), fun p2 n2 => ?_⟩
    have t2 := same_new (o := .lst [V.ref e7, V.ref e8, V.ref e9, V.ref e10, V.ref e11, V.ref e12]) n2
    have w7 := (Vz.made_map (Vz.made_map (Vz.made_map (Vz.made_map (Vz.made_map (Vz.made_map m7 s8) s9) s10) s11) s12) t2)
    have w8 := (Vz.made_map (Vz.made_map (Vz.made_map (Vz.made_map (Vz.made_map m8 s9) s10) s11) s12) t2)
    have w9 := (Vz.made_map (Vz.made_map (Vz.made_map (Vz.made_map m9 s10) s11) s12) t2)
    have w10 := (Vz.made_map (Vz.made_map (Vz.made_map m10 s11) s12) t2)
    have w11 := (Vz.made_map (Vz.made_map m11 s12) t2)
    have w12 := (Vz.made_map m12 t2)
    have b2 : Same (upd H6 p1 (.lst [V.ref e1, V.ref e2, V.ref e3, V.ref e4, V.ref e5, V.ref e6])) _ := Same.trans (Same.trans (Same.trans (Same.trans (Same.trans (Same.trans s7 s8) s9) s10) s11) s12) t2
    have a2 : Vz.MadeAll _ [V.ref e7, V.ref e8, V.ref e9, V.ref e10, V.ref e11, V.ref e12] [T.c_NoEntry.C, T.c_Taken.C, T.c_NoItem.C, T.c_BadFolder.C, T.c_BadVector.C, T.c_BadEntry.C] [[("given", v)], [("given", v)], [("given", v)], [("given", v)], [("given", v)], [("field", v)]] := ⟨⟨e7, rfl, w7⟩, ⟨e8, rfl, w8⟩, ⟨e9, rfl, w9⟩, ⟨e10, rfl, w10⟩, ⟨e11, rfl, w11⟩, ⟨e12, rfl, w12⟩, True.intro⟩
    refine ⟨_, _, _, _, rfl, rfl, SqL.of (b2 _ _ X1), SqL.of upd_same, (by show 12 ≤ sizeLine; decide), fun r2 nr2 => ?_⟩
    have z2 := same_new (o := .lst ([V.ref e1, V.ref e2, V.ref e3, V.ref e4, V.ref e5, V.ref e6] ++ [V.ref e7, V.ref e8, V.ref e9, V.ref e10, V.ref e11, V.ref e12])) nr2
    have A2 := Vz.madeAll_map z2 (Vz.madeAll_app (Vz.madeAll_map b2 A1) a2)
    have B2 := Same.trans (Same.trans B1 b2) z2
    have X2 : (upd (upd H12 p2 (.lst [V.ref e7, V.ref e8, V.ref e9, V.ref e10, V.ref e11, V.ref e12])) r2 (.lst [V.ref e1, V.ref e2, V.ref e3, V.ref e4, V.ref e5, V.ref e6, V.ref e7, V.ref e8, V.ref e9, V.ref e10, V.ref e11, V.ref e12])) r2 = some (.lst [V.ref e1, V.ref e2, V.ref e3, V.ref e4, V.ref e5, V.ref e6, V.ref e7, V.ref e8, V.ref e9, V.ref e10, V.ref e11, V.ref e12]) := upd_same
    clear w7 m7 w8 m8 w9 m9 w10 m10 w11 m11 w12 m12 a2 A1 X1
    refine ⟨_, rfl, ?_⟩
    refine ⟨_, rfl, ?_⟩
    dsimp only [tNil, Vz.kwA]
    refine Vz.tMk_A (v := v) (by show 1 ≤ 1000; decide) fun e13 H13 s13 m13 => ?_
    refine ⟨_, rfl, ?_⟩
    dsimp only [tNil, Vz.kwA]
    refine Vz.tMk_A (v := v) (by show 1 ≤ 1000; decide) fun e14 H14 s14 m14 => ?_
    refine ⟨_, rfl, ?_⟩
    dsimp only [tNil, Vz.kwA]
    refine Vz.tMk_A (v := v) (by show 1 ≤ 1000; decide) fun e15 H15 s15 m15 => ?_
    refine ⟨_, rfl, ?_⟩
    dsimp only [tNil, Vz.kwA]
    refine Vz.tMk_A (v := v) (by show 1 ≤ 1000; decide) fun e16 H16 s16 m16 => ?_
    refine ⟨_, rfl, ?_⟩
    dsimp only [tNil, Vz.kwA]
    refine Vz.tMk_A (v := v) (by show 1 ≤ 1000; decide) fun e17 H17 s17 m17 => ?_
    refine ⟨(by show 5 ≤ sizeLine; decide), fun p3 n3 => ?_⟩
    have t3 := same_new (o := .lst [V.ref e13, V.ref e14, V.ref e15, V.ref e16, V.ref e17]) n3
    have w13 := (Vz.made_map (Vz.made_map (Vz.made_map (Vz.made_map (Vz.made_map m13 s14) s15) s16) s17) t3)
    have w14 := (Vz.made_map (Vz.made_map (Vz.made_map (Vz.made_map m14 s15) s16) s17) t3)
    have w15 := (Vz.made_map (Vz.made_map (Vz.made_map m15 s16) s17) t3)
    have w16 := (Vz.made_map (Vz.made_map m16 s17) t3)
    have w17 := (Vz.made_map m17 t3)
    have b3 : Same (upd (upd H12 p2 (.lst [V.ref e7, V.ref e8, V.ref e9, V.ref e10, V.ref e11, V.ref e12])) r2 (.lst [V.ref e1, V.ref e2, V.ref e3, V.ref e4, V.ref e5, V.ref e6, V.ref e7, V.ref e8, V.ref e9, V.ref e10, V.ref e11, V.ref e12])) _ := Same.trans (Same.trans (Same.trans (Same.trans (Same.trans s13 s14) s15) s16) s17) t3
    have a3 : Vz.MadeAll _ [V.ref e13, V.ref e14, V.ref e15, V.ref e16, V.ref e17] [T.c_BadNumber.C, T.c_BadWorld.C, T.c_BadTrouble.C, T.c_BadShelf.C, T.c_NoSighting.C] [[("field", v)], [("number", v)], [("number", v)], [("number", v)], [("number", v)]] := ⟨⟨e13, rfl, w13⟩, ⟨e14, rfl, w14⟩, ⟨e15, rfl, w15⟩, ⟨e16, rfl, w16⟩, ⟨e17, rfl, w17⟩, True.intro⟩
    refine ⟨_, _, _, _, rfl, rfl, SqL.of (b3 _ _ X2), SqL.of upd_same, (by show 17 ≤ sizeLine; decide), fun r3 nr3 => ?_⟩
    have z3 := same_new (o := .lst ([V.ref e1, V.ref e2, V.ref e3, V.ref e4, V.ref e5, V.ref e6, V.ref e7, V.ref e8, V.ref e9, V.ref e10, V.ref e11, V.ref e12] ++ [V.ref e13, V.ref e14, V.ref e15, V.ref e16, V.ref e17])) nr3
    have A3 := Vz.madeAll_map z3 (Vz.madeAll_app (Vz.madeAll_map b3 A2) a3)
    have B3 := Same.trans (Same.trans B2 b3) z3
    have X3 : (upd (upd H17 p3 (.lst [V.ref e13, V.ref e14, V.ref e15, V.ref e16, V.ref e17])) r3 (.lst [V.ref e1, V.ref e2, V.ref e3, V.ref e4, V.ref e5, V.ref e6, V.ref e7, V.ref e8, V.ref e9, V.ref e10, V.ref e11, V.ref e12, V.ref e13, V.ref e14, V.ref e15, V.ref e16, V.ref e17])) r3 = some (.lst [V.ref e1, V.ref e2, V.ref e3, V.ref e4, V.ref e5, V.ref e6, V.ref e7, V.ref e8, V.ref e9, V.ref e10, V.ref e11, V.ref e12, V.ref e13, V.ref e14, V.ref e15, V.ref e16, V.ref e17]) := upd_same
    clear w13 m13 w14 m14 w15 m15 w16 m16 w17 m17 a3 A2 X2
    refine ⟨_, rfl, ?_⟩
    refine ⟨_, rfl, ?_⟩
    dsimp only [tNil, Vz.kwA]
    refine Vz.tMk_A (v := v) (by show 1 ≤ 1000; decide) fun e18 H18 s18 m18 => ?_
    refine ⟨_, rfl, ?_⟩
    dsimp only [tNil, Vz.kwA]
    refine Vz.tMk_A (v := v) (by show 1 ≤ 1000; decide) fun e19 H19 s19 m19 => ?_
    refine ⟨_, rfl, ?_⟩
    dsimp only [tNil, Vz.kwA]
    refine Vz.tMk_A (v := v) (by show 1 ≤ 1000; decide) fun e20 H20 s20 m20 => ?_
    refine ⟨_, rfl, ?_⟩
    dsimp only [tNil, Vz.kwA]
    refine Vz.tMk_A (v := v) (by show 1 ≤ 1000; decide) fun e21 H21 s21 m21 => ?_
    refine ⟨_, rfl, ?_⟩
    dsimp only [tNil, Vz.kwA]
    refine Vz.tMk_A (v := v) (by show 1 ≤ 1000; decide) fun e22 H22 s22 m22 => ?_
    refine ⟨(by show 5 ≤ sizeLine; decide), fun p4 n4 => ?_⟩
    have t4 := same_new (o := .lst [V.ref e18, V.ref e19, V.ref e20, V.ref e21, V.ref e22]) n4
    have w18 := (Vz.made_map (Vz.made_map (Vz.made_map (Vz.made_map (Vz.made_map m18 s19) s20) s21) s22) t4)
    have w19 := (Vz.made_map (Vz.made_map (Vz.made_map (Vz.made_map m19 s20) s21) s22) t4)
    have w20 := (Vz.made_map (Vz.made_map (Vz.made_map m20 s21) s22) t4)
    have w21 := (Vz.made_map (Vz.made_map m21 s22) t4)
    have w22 := (Vz.made_map m22 t4)
    have b4 : Same (upd (upd H17 p3 (.lst [V.ref e13, V.ref e14, V.ref e15, V.ref e16, V.ref e17])) r3 (.lst [V.ref e1, V.ref e2, V.ref e3, V.ref e4, V.ref e5, V.ref e6, V.ref e7, V.ref e8, V.ref e9, V.ref e10, V.ref e11, V.ref e12, V.ref e13, V.ref e14, V.ref e15, V.ref e16, V.ref e17])) _ := Same.trans (Same.trans (Same.trans (Same.trans (Same.trans s18 s19) s20) s21) s22) t4
    have a4 : Vz.MadeAll _ [V.ref e18, V.ref e19, V.ref e20, V.ref e21, V.ref e22] [T.c_BadLibrary.C, T.c_BadWindow.C, T.c_BadOffer.C, T.c_BadLog.C, T.c_NoAnswer.C] [[("number", v)], [("number", v)], [("number", v)], [("number", v)], [("number", v)]] := ⟨⟨e18, rfl, w18⟩, ⟨e19, rfl, w19⟩, ⟨e20, rfl, w20⟩, ⟨e21, rfl, w21⟩, ⟨e22, rfl, w22⟩, True.intro⟩
    refine ⟨_, _, _, _, rfl, rfl, SqL.of (b4 _ _ X3), SqL.of upd_same, (by show 22 ≤ sizeLine; decide), fun r4 nr4 => ?_⟩
    have z4 := same_new (o := .lst ([V.ref e1, V.ref e2, V.ref e3, V.ref e4, V.ref e5, V.ref e6, V.ref e7, V.ref e8, V.ref e9, V.ref e10, V.ref e11, V.ref e12, V.ref e13, V.ref e14, V.ref e15, V.ref e16, V.ref e17] ++ [V.ref e18, V.ref e19, V.ref e20, V.ref e21, V.ref e22])) nr4
    have A4 := Vz.madeAll_map z4 (Vz.madeAll_app (Vz.madeAll_map b4 A3) a4)
    have B4 := Same.trans (Same.trans B3 b4) z4
    have X4 : (upd (upd H22 p4 (.lst [V.ref e18, V.ref e19, V.ref e20, V.ref e21, V.ref e22])) r4 (.lst [V.ref e1, V.ref e2, V.ref e3, V.ref e4, V.ref e5, V.ref e6, V.ref e7, V.ref e8, V.ref e9, V.ref e10, V.ref e11, V.ref e12, V.ref e13, V.ref e14, V.ref e15, V.ref e16, V.ref e17, V.ref e18, V.ref e19, V.ref e20, V.ref e21, V.ref e22])) r4 = some (.lst [V.ref e1, V.ref e2, V.ref e3, V.ref e4, V.ref e5, V.ref e6, V.ref e7, V.ref e8, V.ref e9, V.ref e10, V.ref e11, V.ref e12, V.ref e13, V.ref e14, V.ref e15, V.ref e16, V.ref e17, V.ref e18, V.ref e19, V.ref e20, V.ref e21, V.ref e22]) := upd_same
    clear w18 m18 w19 m19 w20 m20 w21 m21 w22 m22 a4 A3 X3
    refine ⟨_, rfl, ?_⟩
    refine ⟨_, rfl, ?_⟩
    dsimp only [tNil, Vz.kwA]
    refine Vz.tMk_A (v := v) (by show 1 ≤ 1000; decide) fun e23 H23 s23 m23 => ?_
    refine ⟨(by show 1 ≤ sizeLine; decide), fun p5 n5 => ?_⟩
    have t5 := same_new (o := .lst [V.ref e23]) n5
    have w23 := (Vz.made_map m23 t5)
    have b5 : Same (upd (upd H22 p4 (.lst [V.ref e18, V.ref e19, V.ref e20, V.ref e21, V.ref e22])) r4 (.lst [V.ref e1, V.ref e2, V.ref e3, V.ref e4, V.ref e5, V.ref e6, V.ref e7, V.ref e8, V.ref e9, V.ref e10, V.ref e11, V.ref e12, V.ref e13, V.ref e14, V.ref e15, V.ref e16, V.ref e17, V.ref e18, V.ref e19, V.ref e20, V.ref e21, V.ref e22])) _ := Same.trans s23 t5
    have a5 : Vz.MadeAll _ [V.ref e23] [T.c_BadBundle.C] [[("number", v)]] := ⟨⟨e23, rfl, w23⟩, True.intro⟩
    refine ⟨_, _, _, _, rfl, rfl, SqL.of (b5 _ _ X4), SqL.of upd_same, (by show 23 ≤ sizeLine; decide), fun r5 nr5 => ?_⟩
    have z5 := same_new (o := .lst ([V.ref e1, V.ref e2, V.ref e3, V.ref e4, V.ref e5, V.ref e6, V.ref e7, V.ref e8, V.ref e9, V.ref e10, V.ref e11, V.ref e12, V.ref e13, V.ref e14, V.ref e15, V.ref e16, V.ref e17, V.ref e18, V.ref e19, V.ref e20, V.ref e21, V.ref e22] ++ [V.ref e23])) nr5
    have A5 := Vz.madeAll_map z5 (Vz.madeAll_app (Vz.madeAll_map b5 A4) a5)
    have B5 := Same.trans (Same.trans B4 b5) z5
    have X5 : (upd (upd H23 p5 (.lst [V.ref e23])) r5 (.lst [V.ref e1, V.ref e2, V.ref e3, V.ref e4, V.ref e5, V.ref e6, V.ref e7, V.ref e8, V.ref e9, V.ref e10, V.ref e11, V.ref e12, V.ref e13, V.ref e14, V.ref e15, V.ref e16, V.ref e17, V.ref e18, V.ref e19, V.ref e20, V.ref e21, V.ref e22, V.ref e23])) r5 = some (.lst [V.ref e1, V.ref e2, V.ref e3, V.ref e4, V.ref e5, V.ref e6, V.ref e7, V.ref e8, V.ref e9, V.ref e10, V.ref e11, V.ref e12, V.ref e13, V.ref e14, V.ref e15, V.ref e16, V.ref e17, V.ref e18, V.ref e19, V.ref e20, V.ref e21, V.ref e22, V.ref e23]) := upd_same
    clear w23 m23 a5 A4 X4
    refine ⟨_, rfl, ?_⟩
    refine ⟨_, rfl, ?_⟩
    dsimp only [tNil, Vz.kwA]
    refine Vz.tMk_A (v := v) (by show 1 ≤ 1000; decide) fun e24 H24 s24 m24 => ?_
    refine ⟨_, rfl, ?_⟩
    dsimp only [tNil, Vz.kwA]
    refine Vz.tMk_A (v := v) (by show 1 ≤ 1000; decide) fun e25 H25 s25 m25 => ?_
    refine ⟨_, rfl, ?_⟩
    dsimp only [tNil, Vz.kwA]
    refine Vz.tMk_A (v := v) (by show 1 ≤ 1000; decide) fun e26 H26 s26 m26 => ?_
    refine ⟨_, rfl, ?_⟩
    dsimp only [tNil, Vz.kwA]
    refine Vz.tMk_A (v := v) (by show 1 ≤ 1000; decide) fun e27 H27 s27 m27 => ?_
    refine ⟨_, rfl, ?_⟩
    dsimp only [tNil, Vz.kwA]
    refine Vz.tMk_A (v := v) (by show 1 ≤ 1000; decide) fun e28 H28 s28 m28 => ?_
    refine ⟨(by show 5 ≤ sizeLine; decide), fun p6 n6 => ?_⟩
    have t6 := same_new (o := .lst [V.ref e24, V.ref e25, V.ref e26, V.ref e27, V.ref e28]) n6
    have w24 := (Vz.made_map (Vz.made_map (Vz.made_map (Vz.made_map (Vz.made_map m24 s25) s26) s27) s28) t6)
    have w25 := (Vz.made_map (Vz.made_map (Vz.made_map (Vz.made_map m25 s26) s27) s28) t6)
    have w26 := (Vz.made_map (Vz.made_map (Vz.made_map m26 s27) s28) t6)
    have w27 := (Vz.made_map (Vz.made_map m27 s28) t6)
    have w28 := (Vz.made_map m28 t6)
    have b6 : Same (upd (upd H23 p5 (.lst [V.ref e23])) r5 (.lst [V.ref e1, V.ref e2, V.ref e3, V.ref e4, V.ref e5, V.ref e6, V.ref e7, V.ref e8, V.ref e9, V.ref e10, V.ref e11, V.ref e12, V.ref e13, V.ref e14, V.ref e15, V.ref e16, V.ref e17, V.ref e18, V.ref e19, V.ref e20, V.ref e21, V.ref e22, V.ref e23])) _ := Same.trans (Same.trans (Same.trans (Same.trans (Same.trans s24 s25) s26) s27) s28) t6
    have a6 : Vz.MadeAll _ [V.ref e24, V.ref e25, V.ref e26, V.ref e27, V.ref e28] [T.c_TooMany.C, T.c_Torn.C, T.c_NoNote.C, T.c_BadQuery.C, T.c_Gap.C] [[("what", v)], [("stamp", v)], [("stamp", v)], [("path", v)], [("device", v)]] := ⟨⟨e24, rfl, w24⟩, ⟨e25, rfl, w25⟩, ⟨e26, rfl, w26⟩, ⟨e27, rfl, w27⟩, ⟨e28, rfl, w28⟩, True.intro⟩
    refine ⟨_, _, _, _, rfl, rfl, SqL.of (b6 _ _ X5), SqL.of upd_same, (by show 28 ≤ sizeLine; decide), fun r6 nr6 => ?_⟩
    have z6 := same_new (o := .lst ([V.ref e1, V.ref e2, V.ref e3, V.ref e4, V.ref e5, V.ref e6, V.ref e7, V.ref e8, V.ref e9, V.ref e10, V.ref e11, V.ref e12, V.ref e13, V.ref e14, V.ref e15, V.ref e16, V.ref e17, V.ref e18, V.ref e19, V.ref e20, V.ref e21, V.ref e22, V.ref e23] ++ [V.ref e24, V.ref e25, V.ref e26, V.ref e27, V.ref e28])) nr6
    have A6 := Vz.madeAll_map z6 (Vz.madeAll_app (Vz.madeAll_map b6 A5) a6)
    have B6 := Same.trans (Same.trans B5 b6) z6
    have X6 : (upd (upd H28 p6 (.lst [V.ref e24, V.ref e25, V.ref e26, V.ref e27, V.ref e28])) r6 (.lst [V.ref e1, V.ref e2, V.ref e3, V.ref e4, V.ref e5, V.ref e6, V.ref e7, V.ref e8, V.ref e9, V.ref e10, V.ref e11, V.ref e12, V.ref e13, V.ref e14, V.ref e15, V.ref e16, V.ref e17, V.ref e18, V.ref e19, V.ref e20, V.ref e21, V.ref e22, V.ref e23, V.ref e24, V.ref e25, V.ref e26, V.ref e27, V.ref e28])) r6 = some (.lst [V.ref e1, V.ref e2, V.ref e3, V.ref e4, V.ref e5, V.ref e6, V.ref e7, V.ref e8, V.ref e9, V.ref e10, V.ref e11, V.ref e12, V.ref e13, V.ref e14, V.ref e15, V.ref e16, V.ref e17, V.ref e18, V.ref e19, V.ref e20, V.ref e21, V.ref e22, V.ref e23, V.ref e24, V.ref e25, V.ref e26, V.ref e27, V.ref e28]) := upd_same
    clear w24 m24 w25 m25 w26 m26 w27 m27 w28 m28 a6 A5 X5
    refine ⟨_, rfl, ?_⟩
    refine ⟨_, rfl, _, rfl, ?_⟩
    dsimp only [tNil, Vz.kwB]
    refine Vz.tMk_B (v := v) (y := y) (by show 2 ≤ 1000; decide) fun e29 H29 s29 m29 => ?_
    refine ⟨_, rfl, _, rfl, ?_⟩
    dsimp only [tNil, Vz.kwB]
    refine Vz.tMk_B (v := v) (y := y) (by show 2 ≤ 1000; decide) fun e30 H30 s30 m30 => ?_
    refine ⟨(by show 2 ≤ sizeLine; decide), fun p7 n7 => ?_⟩
    have t7 := same_new (o := .lst [V.ref e29, V.ref e30]) n7
    have w29 := (Vz.made_map (Vz.made_map m29 s30) t7)
    have w30 := (Vz.made_map m30 t7)
    have b7 : Same (upd (upd H28 p6 (.lst [V.ref e24, V.ref e25, V.ref e26, V.ref e27, V.ref e28])) r6 (.lst [V.ref e1, V.ref e2, V.ref e3, V.ref e4, V.ref e5, V.ref e6, V.ref e7, V.ref e8, V.ref e9, V.ref e10, V.ref e11, V.ref e12, V.ref e13, V.ref e14, V.ref e15, V.ref e16, V.ref e17, V.ref e18, V.ref e19, V.ref e20, V.ref e21, V.ref e22, V.ref e23, V.ref e24, V.ref e25, V.ref e26, V.ref e27, V.ref e28])) _ := Same.trans (Same.trans s29 s30) t7
    have a7 : Vz.MadeAll _ [V.ref e29, V.ref e30] [T.c_BadPage.C, T.c_BadText.C] [[("number", y), ("field", v)], [("column", y), ("line", v)]] := ⟨⟨e29, rfl, w29⟩, ⟨e30, rfl, w30⟩, True.intro⟩
    refine ⟨_, _, _, _, rfl, rfl, SqL.of (b7 _ _ X6), SqL.of upd_same, (by show 30 ≤ sizeLine; decide), fun r7 nr7 => ?_⟩
    have z7 := same_new (o := .lst ([V.ref e1, V.ref e2, V.ref e3, V.ref e4, V.ref e5, V.ref e6, V.ref e7, V.ref e8, V.ref e9, V.ref e10, V.ref e11, V.ref e12, V.ref e13, V.ref e14, V.ref e15, V.ref e16, V.ref e17, V.ref e18, V.ref e19, V.ref e20, V.ref e21, V.ref e22, V.ref e23, V.ref e24, V.ref e25, V.ref e26, V.ref e27, V.ref e28] ++ [V.ref e29, V.ref e30])) nr7
    have A7 := Vz.madeAll_map z7 (Vz.madeAll_app (Vz.madeAll_map b7 A6) a7)
    have B7 := Same.trans (Same.trans B6 b7) z7
    have X7 : (upd (upd H30 p7 (.lst [V.ref e29, V.ref e30])) r7 (.lst [V.ref e1, V.ref e2, V.ref e3, V.ref e4, V.ref e5, V.ref e6, V.ref e7, V.ref e8, V.ref e9, V.ref e10, V.ref e11, V.ref e12, V.ref e13, V.ref e14, V.ref e15, V.ref e16, V.ref e17, V.ref e18, V.ref e19, V.ref e20, V.ref e21, V.ref e22, V.ref e23, V.ref e24, V.ref e25, V.ref e26, V.ref e27, V.ref e28, V.ref e29, V.ref e30])) r7 = some (.lst [V.ref e1, V.ref e2, V.ref e3, V.ref e4, V.ref e5, V.ref e6, V.ref e7, V.ref e8, V.ref e9, V.ref e10, V.ref e11, V.ref e12, V.ref e13, V.ref e14, V.ref e15, V.ref e16, V.ref e17, V.ref e18, V.ref e19, V.ref e20, V.ref e21, V.ref e22, V.ref e23, V.ref e24, V.ref e25, V.ref e26, V.ref e27, V.ref e28, V.ref e29, V.ref e30]) := upd_same
    clear w29 m29 w30 m30 a7 A6 X6
    exact q _ r7 _ B7 X7 A7
theorem ok__law_named (T : Txt K mg) : FnOk P w K mg base CX0 3 T.a__law_named T.d__law_named ["worth", "more"] (sp_made T) := by
  refine T.F__law_named.ok sc__law_named (fun vs H Q E h => ?_) (fun cdv A outer s H vs Q E hr h => ?_)
  · obtain ⟨v, y, rfl, _⟩ := h; rfl
  · obtain ⟨v, y, rfl, q⟩ := h
    refine ⟨_, (pss_cons (ps_set (i := 2) sc__law_named.nd rfl (by first | exact Or.inl rfl | exact Or.inr rfl) (pe_lst (pa_cons (Vz.pe_mkxK T.c_BadMoment.o T.c_BadMoment.iC T.c_BadMoment.tI (ok_init_BadMoment T) (hr.mono (by decide)) T.c_BadMoment.q pass0 (by rfl) T.c_BadMoment.g (pk_cons (pv 0) pk_nil)) (pa_cons (Vz.pe_mkxK T.c_BadZone.o T.c_BadZone.iC T.c_BadZone.tI (ok_init_BadZone T) (hr.mono (by decide)) T.c_BadZone.q pass0 (by rfl) T.c_BadZone.g (pk_cons (pv 0) pk_nil)) (pa_cons (Vz.pe_mkxK T.c_BadDate.o T.c_BadDate.iC T.c_BadDate.tI (ok_init_BadDate T) (hr.mono (by decide)) T.c_BadDate.q pass0 (by rfl) T.c_BadDate.g (pk_cons (pv 0) pk_nil)) (pa_cons (Vz.pe_mkxK T.c_BadAddress.o T.c_BadAddress.iC T.c_BadAddress.tI (ok_init_BadAddress T) (hr.mono (by decide)) T.c_BadAddress.q pass0 (by rfl) T.c_BadAddress.g (pk_cons (pv 0) pk_nil)) pa_nil))))))
        (pss_cons (ps_set (i := 2) sc__law_named.nd rfl (by first | exact Or.inl rfl | exact Or.inr rfl) (pe_op Vz.op_catR (pv 2) (pe_lst (pa_cons (Vz.pe_mkxK T.c_BadThing.o T.c_BadThing.iC T.c_BadThing.tI (ok_init_BadThing T) (hr.mono (by decide)) T.c_BadThing.q pass0 (by rfl) T.c_BadThing.g (pk_cons (pv 0) pk_nil)) (pa_cons (Vz.pe_mkxK T.c_BadDevice.o T.c_BadDevice.iC T.c_BadDevice.tI (ok_init_BadDevice T) (hr.mono (by decide)) T.c_BadDevice.q pass0 (by rfl) T.c_BadDevice.g (pk_cons (pv 0) pk_nil)) (pa_cons (Vz.pe_mkxK T.c_NoEntry.o T.c_NoEntry.iC T.c_NoEntry.tI (ok_init_NoEntry T) (hr.mono (by decide)) T.c_NoEntry.q pass0 (by rfl) T.c_NoEntry.g (pk_cons (pv 0) pk_nil)) (pa_cons (Vz.pe_mkxK T.c_Taken.o T.c_Taken.iC T.c_Taken.tI (ok_init_Taken T) (hr.mono (by decide)) T.c_Taken.q pass0 (by rfl) T.c_Taken.g (pk_cons (pv 0) pk_nil)) pa_nil)))))))
        (pss_cons (ps_set (i := 2) sc__law_named.nd rfl (by first | exact Or.inl rfl | exact Or.inr rfl) (pe_op Vz.op_catR (pv 2) (pe_lst (pa_cons (Vz.pe_mkxK T.c_NoItem.o T.c_NoItem.iC T.c_NoItem.tI (ok_init_NoItem T) (hr.mono (by decide)) T.c_NoItem.q pass0 (by rfl) T.c_NoItem.g (pk_cons (pv 0) pk_nil)) (pa_cons (Vz.pe_mkxK T.c_BadFolder.o T.c_BadFolder.iC T.c_BadFolder.tI (ok_init_BadFolder T) (hr.mono (by decide)) T.c_BadFolder.q pass0 (by rfl) T.c_BadFolder.g (pk_cons (pv 0) pk_nil)) (pa_cons (Vz.pe_mkxK T.c_BadVector.o T.c_BadVector.iC T.c_BadVector.tI (ok_init_BadVector T) (hr.mono (by decide)) T.c_BadVector.q pass0 (by rfl) T.c_BadVector.g (pk_cons (pv 0) pk_nil)) (pa_cons (Vz.pe_mkxK T.c_BadEntry.o T.c_BadEntry.iC T.c_BadEntry.tI (ok_init_BadEntry T) (hr.mono (by decide)) T.c_BadEntry.q pass0 (by rfl) T.c_BadEntry.g (pk_cons (pv 0) pk_nil)) pa_nil)))))))
        (pss_cons (ps_set (i := 2) sc__law_named.nd rfl (by first | exact Or.inl rfl | exact Or.inr rfl) (pe_op Vz.op_catR (pv 2) (pe_lst (pa_cons (Vz.pe_mkxK T.c_BadNumber.o T.c_BadNumber.iC T.c_BadNumber.tI (ok_init_BadNumber T) (hr.mono (by decide)) T.c_BadNumber.q pass0 (by rfl) T.c_BadNumber.g (pk_cons (pv 0) pk_nil)) (pa_cons (Vz.pe_mkxK T.c_BadWorld.o T.c_BadWorld.iC T.c_BadWorld.tI (ok_init_BadWorld T) (hr.mono (by decide)) T.c_BadWorld.q pass0 (by rfl) T.c_BadWorld.g (pk_cons (pv 0) pk_nil)) (pa_cons (Vz.pe_mkxK T.c_BadTrouble.o T.c_BadTrouble.iC T.c_BadTrouble.tI (ok_init_BadTrouble T) (hr.mono (by decide)) T.c_BadTrouble.q pass0 (by rfl) T.c_BadTrouble.g (pk_cons (pv 0) pk_nil)) (pa_cons (Vz.pe_mkxK T.c_BadShelf.o T.c_BadShelf.iC T.c_BadShelf.tI (ok_init_BadShelf T) (hr.mono (by decide)) T.c_BadShelf.q pass0 (by rfl) T.c_BadShelf.g (pk_cons (pv 0) pk_nil)) pa_nil)))))))
        (pss_cons (ps_set (i := 2) sc__law_named.nd rfl (by first | exact Or.inl rfl | exact Or.inr rfl) (pe_op Vz.op_catR (pv 2) (pe_lst (pa_cons (Vz.pe_mkxK T.c_NoSighting.o T.c_NoSighting.iC T.c_NoSighting.tI (ok_init_NoSighting T) (hr.mono (by decide)) T.c_NoSighting.q pass0 (by rfl) T.c_NoSighting.g (pk_cons (pv 0) pk_nil)) (pa_cons (Vz.pe_mkxK T.c_BadLibrary.o T.c_BadLibrary.iC T.c_BadLibrary.tI (ok_init_BadLibrary T) (hr.mono (by decide)) T.c_BadLibrary.q pass0 (by rfl) T.c_BadLibrary.g (pk_cons (pv 0) pk_nil)) (pa_cons (Vz.pe_mkxK T.c_BadWindow.o T.c_BadWindow.iC T.c_BadWindow.tI (ok_init_BadWindow T) (hr.mono (by decide)) T.c_BadWindow.q pass0 (by rfl) T.c_BadWindow.g (pk_cons (pv 0) pk_nil)) (pa_cons (Vz.pe_mkxK T.c_BadOffer.o T.c_BadOffer.iC T.c_BadOffer.tI (ok_init_BadOffer T) (hr.mono (by decide)) T.c_BadOffer.q pass0 (by rfl) T.c_BadOffer.g (pk_cons (pv 0) pk_nil)) pa_nil)))))))
        (pss_cons (ps_set (i := 2) sc__law_named.nd rfl (by first | exact Or.inl rfl | exact Or.inr rfl) (pe_op Vz.op_catR (pv 2) (pe_lst (pa_cons (Vz.pe_mkxK T.c_BadLog.o T.c_BadLog.iC T.c_BadLog.tI (ok_init_BadLog T) (hr.mono (by decide)) T.c_BadLog.q pass0 (by rfl) T.c_BadLog.g (pk_cons (pv 0) pk_nil)) (pa_cons (Vz.pe_mkxK T.c_NoAnswer.o T.c_NoAnswer.iC T.c_NoAnswer.tI (ok_init_NoAnswer T) (hr.mono (by decide)) T.c_NoAnswer.q pass0 (by rfl) T.c_NoAnswer.g (pk_cons (pv 0) pk_nil)) (pa_cons (Vz.pe_mkxK T.c_BadBundle.o T.c_BadBundle.iC T.c_BadBundle.tI (ok_init_BadBundle T) (hr.mono (by decide)) T.c_BadBundle.q pass0 (by rfl) T.c_BadBundle.g (pk_cons (pv 0) pk_nil)) (pa_cons (Vz.pe_mkxK T.c_TooMany.o T.c_TooMany.iC T.c_TooMany.tI (ok_init_TooMany T) (hr.mono (by decide)) T.c_TooMany.q pass0 (by rfl) T.c_TooMany.g (pk_cons (pv 0) pk_nil)) pa_nil)))))))
        (pss_cons (ps_set (i := 2) sc__law_named.nd rfl (by first | exact Or.inl rfl | exact Or.inr rfl) (pe_op Vz.op_catR (pv 2) (pe_lst (pa_cons (Vz.pe_mkxK T.c_Torn.o T.c_Torn.iC T.c_Torn.tI (ok_init_Torn T) (hr.mono (by decide)) T.c_Torn.q pass0 (by rfl) T.c_Torn.g (pk_cons (pv 0) pk_nil)) (pa_cons (Vz.pe_mkxK T.c_NoNote.o T.c_NoNote.iC T.c_NoNote.tI (ok_init_NoNote T) (hr.mono (by decide)) T.c_NoNote.q pass0 (by rfl) T.c_NoNote.g (pk_cons (pv 0) pk_nil)) (pa_cons (Vz.pe_mkxK T.c_BadQuery.o T.c_BadQuery.iC T.c_BadQuery.tI (ok_init_BadQuery T) (hr.mono (by decide)) T.c_BadQuery.q pass0 (by rfl) T.c_BadQuery.g (pk_cons (pv 0) pk_nil)) (pa_cons (Vz.pe_mkxK T.c_Gap.o T.c_Gap.iC T.c_Gap.tI (ok_init_Gap T) (hr.mono (by decide)) T.c_Gap.q pass0 (by rfl) T.c_Gap.g (pk_cons (pv 0) pk_nil)) pa_nil)))))))
        (pss_one (ps_ret (pe_op Vz.op_catR (pv 2) (pe_lst (pa_cons (Vz.pe_mkxK T.c_BadPage.o T.c_BadPage.iC T.c_BadPage.tI (ok_init_BadPage T) (hr.mono (by decide)) T.c_BadPage.q pass0 (by rfl) T.c_BadPage.g (pk_cons (pv 1) (pk_cons (pv 0) pk_nil))) (pa_cons (Vz.pe_mkxK T.c_BadText.o T.c_BadText.iC T.c_BadText.tI (ok_init_BadText T) (hr.mono (by decide)) T.c_BadText.q pass0 (by rfl) T.c_BadText.g (pk_cons (pv 1) (pk_cons (pv 0) pk_nil))) pa_nil))))))))))))), ?_⟩
    refine ⟨_, rfl, ?_⟩
    dsimp only [tNil, Vz.kwA]
    refine Vz.tMk_A (v := v) (Nat.zero_le _) fun e1 H1 s1 m1 => ?_
    refine ⟨_, rfl, ?_⟩
    dsimp only [tNil, Vz.kwA]
    refine Vz.tMk_A (v := v) (Nat.zero_le _) fun e2 H2 s2 m2 => ?_
    refine ⟨_, rfl, ?_⟩
    dsimp only [tNil, Vz.kwA]
    refine Vz.tMk_A (v := v) (Nat.zero_le _) fun e3 H3 s3 m3 => ?_
    refine ⟨_, rfl, ?_⟩
    dsimp only [tNil, Vz.kwA]
    refine Vz.tMk_A (v := v) (Nat.zero_le _) fun e4 H4 s4 m4 => ?_
    refine ⟨(by show 4 ≤ sizeLine; decide), fun p1 n1 => ?_⟩
    have t1 := same_new (o := .lst [V.ref e1, V.ref e2, V.ref e3, V.ref e4]) n1
    have w1 := (Vz.made_map (Vz.made_map (Vz.made_map (Vz.made_map m1 s2) s3) s4) t1)
    have w2 := (Vz.made_map (Vz.made_map (Vz.made_map m2 s3) s4) t1)
    have w3 := (Vz.made_map (Vz.made_map m3 s4) t1)
    have w4 := (Vz.made_map m4 t1)
    have b1 : Same H _ := Same.trans (Same.trans (Same.trans (Same.trans s1 s2) s3) s4) t1
    have a1 : Vz.MadeAll _ [V.ref e1, V.ref e2, V.ref e3, V.ref e4] [T.c_BadMoment.C, T.c_BadZone.C, T.c_BadDate.C, T.c_BadAddress.C] [[("given", v)], [("given", v)], [("given", v)], [("given", v)]] := ⟨⟨e1, rfl, w1⟩, ⟨e2, rfl, w2⟩, ⟨e3, rfl, w3⟩, ⟨e4, rfl, w4⟩, True.intro⟩
    have L1 := (SqL.of (K := K) (H := (upd H4 p1 (.lst [V.ref e1, V.ref e2, V.ref e3, V.ref e4]))) (a := p1) upd_same)
    have A1 := a1
    have B1 := b1
    have X1 : (upd H4 p1 (.lst [V.ref e1, V.ref e2, V.ref e3, V.ref e4])) p1 = some (.lst [V.ref e1, V.ref e2, V.ref e3, V.ref e4]) := upd_same
    clear w1 m1 w2 m2 w3 m3 w4 m4
    refine ⟨_, rfl, ?_⟩
    refine ⟨_, rfl, ?_⟩
    dsimp only [tNil, Vz.kwA]
    refine Vz.tMk_A (v := v) (Nat.zero_le _) fun e5 H5 s5 m5 => ?_
    refine ⟨_, rfl, ?_⟩
    dsimp only [tNil, Vz.kwA]
    refine Vz.tMk_A (v := v) (Nat.zero_le _) fun e6 H6 s6 m6 => ?_
    refine ⟨_, rfl, ?_⟩
    dsimp only [tNil, Vz.kwA]
    refine Vz.tMk_A (v := v) (Nat.zero_le _) fun e7 H7 s7 m7 => ?_
    refine ⟨_, rfl, ?_⟩
    dsimp only [tNil, Vz.kwA]
    refine Vz.tMk_A (v := v) (Nat.zero_le _) fun e8 H8 s8 m8 => ?_
    refine ⟨(by show 4 ≤ sizeLine; decide), fun p2 n2 => ?_⟩
    have t2 := same_new (o := .lst [V.ref e5, V.ref e6, V.ref e7, V.ref e8]) n2
    have w5 := (Vz.made_map (Vz.made_map (Vz.made_map (Vz.made_map m5 s6) s7) s8) t2)
    have w6 := (Vz.made_map (Vz.made_map (Vz.made_map m6 s7) s8) t2)
    have w7 := (Vz.made_map (Vz.made_map m7 s8) t2)
    have w8 := (Vz.made_map m8 t2)
    have b2 : Same (upd H4 p1 (.lst [V.ref e1, V.ref e2, V.ref e3, V.ref e4])) _ := Same.trans (Same.trans (Same.trans (Same.trans s5 s6) s7) s8) t2
    have a2 : Vz.MadeAll _ [V.ref e5, V.ref e6, V.ref e7, V.ref e8] [T.c_BadThing.C, T.c_BadDevice.C, T.c_NoEntry.C, T.c_Taken.C] [[("given", v)], [("given", v)], [("given", v)], [("given", v)]] := ⟨⟨e5, rfl, w5⟩, ⟨e6, rfl, w6⟩, ⟨e7, rfl, w7⟩, ⟨e8, rfl, w8⟩, True.intro⟩
    refine ⟨_, _, _, _, rfl, rfl, SqL.of (b2 _ _ X1), SqL.of upd_same, (by show 8 ≤ sizeLine; decide), fun r2 nr2 => ?_⟩
    have z2 := same_new (o := .lst ([V.ref e1, V.ref e2, V.ref e3, V.ref e4] ++ [V.ref e5, V.ref e6, V.ref e7, V.ref e8])) nr2
    have A2 := Vz.madeAll_map z2 (Vz.madeAll_app (Vz.madeAll_map b2 A1) a2)
    have B2 := Same.trans (Same.trans B1 b2) z2
    have X2 : (upd (upd H8 p2 (.lst [V.ref e5, V.ref e6, V.ref e7, V.ref e8])) r2 (.lst [V.ref e1, V.ref e2, V.ref e3, V.ref e4, V.ref e5, V.ref e6, V.ref e7, V.ref e8])) r2 = some (.lst [V.ref e1, V.ref e2, V.ref e3, V.ref e4, V.ref e5, V.ref e6, V.ref e7, V.ref e8]) := upd_same
    clear w5 m5 w6 m6 w7 m7 w8 m8 a2 A1 X1
    refine ⟨_, rfl, ?_⟩
    refine ⟨_, rfl, ?_⟩
    dsimp only [tNil, Vz.kwA]
    refine Vz.tMk_A (v := v) (Nat.zero_le _) fun e9 H9 s9 m9 => ?_
    refine ⟨_, rfl, ?_⟩
    dsimp only [tNil, Vz.kwA]
    refine Vz.tMk_A (v := v) (Nat.zero_le _) fun e10 H10 s10 m10 => ?_
    refine ⟨_, rfl, ?_⟩
    dsimp only [tNil, Vz.kwA]
    refine Vz.tMk_A (v := v) (Nat.zero_le _) fun e11 H11 s11 m11 => ?_
    refine ⟨_, rfl, ?_⟩
    dsimp only [tNil, Vz.kwA]
    refine Vz.tMk_A (v := v) (Nat.zero_le _) fun e12 H12 s12 m12 => ?_
    refine ⟨(by show 4 ≤ sizeLine; decide), fun p3 n3 => ?_⟩
    have t3 := same_new (o := .lst [V.ref e9, V.ref e10, V.ref e11, V.ref e12]) n3
    have w9 := (Vz.made_map (Vz.made_map (Vz.made_map (Vz.made_map m9 s10) s11) s12) t3)
    have w10 := (Vz.made_map (Vz.made_map (Vz.made_map m10 s11) s12) t3)
    have w11 := (Vz.made_map (Vz.made_map m11 s12) t3)
    have w12 := (Vz.made_map m12 t3)
    have b3 : Same (upd (upd H8 p2 (.lst [V.ref e5, V.ref e6, V.ref e7, V.ref e8])) r2 (.lst [V.ref e1, V.ref e2, V.ref e3, V.ref e4, V.ref e5, V.ref e6, V.ref e7, V.ref e8])) _ := Same.trans (Same.trans (Same.trans (Same.trans s9 s10) s11) s12) t3
    have a3 : Vz.MadeAll _ [V.ref e9, V.ref e10, V.ref e11, V.ref e12] [T.c_NoItem.C, T.c_BadFolder.C, T.c_BadVector.C, T.c_BadEntry.C] [[("given", v)], [("given", v)], [("given", v)], [("field", v)]] := ⟨⟨e9, rfl, w9⟩, ⟨e10, rfl, w10⟩, ⟨e11, rfl, w11⟩, ⟨e12, rfl, w12⟩, True.intro⟩
    refine ⟨_, _, _, _, rfl, rfl, SqL.of (b3 _ _ X2), SqL.of upd_same, (by show 12 ≤ sizeLine; decide), fun r3 nr3 => ?_⟩
    have z3 := same_new (o := .lst ([V.ref e1, V.ref e2, V.ref e3, V.ref e4, V.ref e5, V.ref e6, V.ref e7, V.ref e8] ++ [V.ref e9, V.ref e10, V.ref e11, V.ref e12])) nr3
    have A3 := Vz.madeAll_map z3 (Vz.madeAll_app (Vz.madeAll_map b3 A2) a3)
    have B3 := Same.trans (Same.trans B2 b3) z3
    have X3 : (upd (upd H12 p3 (.lst [V.ref e9, V.ref e10, V.ref e11, V.ref e12])) r3 (.lst [V.ref e1, V.ref e2, V.ref e3, V.ref e4, V.ref e5, V.ref e6, V.ref e7, V.ref e8, V.ref e9, V.ref e10, V.ref e11, V.ref e12])) r3 = some (.lst [V.ref e1, V.ref e2, V.ref e3, V.ref e4, V.ref e5, V.ref e6, V.ref e7, V.ref e8, V.ref e9, V.ref e10, V.ref e11, V.ref e12]) := upd_same
    clear w9 m9 w10 m10 w11 m11 w12 m12 a3 A2 X2
    refine ⟨_, rfl, ?_⟩
    refine ⟨_, rfl, ?_⟩
    dsimp only [tNil, Vz.kwA]
    refine Vz.tMk_A (v := v) (Nat.zero_le _) fun e13 H13 s13 m13 => ?_
    refine ⟨_, rfl, ?_⟩
    dsimp only [tNil, Vz.kwA]
    refine Vz.tMk_A (v := v) (Nat.zero_le _) fun e14 H14 s14 m14 => ?_
    refine ⟨_, rfl, ?_⟩
    dsimp only [tNil, Vz.kwA]
    refine Vz.tMk_A (v := v) (Nat.zero_le _) fun e15 H15 s15 m15 => ?_
    refine ⟨_, rfl, ?_⟩
    dsimp only [tNil, Vz.kwA]
    refine Vz.tMk_A (v := v) (Nat.zero_le _) fun e16 H16 s16 m16 => ?_
    refine ⟨(by show 4 ≤ sizeLine; decide), fun p4 n4 => ?_⟩
    have t4 := same_new (o := .lst [V.ref e13, V.ref e14, V.ref e15, V.ref e16]) n4
    have w13 := (Vz.made_map (Vz.made_map (Vz.made_map (Vz.made_map m13 s14) s15) s16) t4)
    have w14 := (Vz.made_map (Vz.made_map (Vz.made_map m14 s15) s16) t4)
    have w15 := (Vz.made_map (Vz.made_map m15 s16) t4)
    have w16 := (Vz.made_map m16 t4)
    have b4 : Same (upd (upd H12 p3 (.lst [V.ref e9, V.ref e10, V.ref e11, V.ref e12])) r3 (.lst [V.ref e1, V.ref e2, V.ref e3, V.ref e4, V.ref e5, V.ref e6, V.ref e7, V.ref e8, V.ref e9, V.ref e10, V.ref e11, V.ref e12])) _ := Same.trans (Same.trans (Same.trans (Same.trans s13 s14) s15) s16) t4
    have a4 : Vz.MadeAll _ [V.ref e13, V.ref e14, V.ref e15, V.ref e16] [T.c_BadNumber.C, T.c_BadWorld.C, T.c_BadTrouble.C, T.c_BadShelf.C] [[("field", v)], [("number", v)], [("number", v)], [("number", v)]] := ⟨⟨e13, rfl, w13⟩, ⟨e14, rfl, w14⟩, ⟨e15, rfl, w15⟩, ⟨e16, rfl, w16⟩, True.intro⟩
    refine ⟨_, _, _, _, rfl, rfl, SqL.of (b4 _ _ X3), SqL.of upd_same, (by show 16 ≤ sizeLine; decide), fun r4 nr4 => ?_⟩
    have z4 := same_new (o := .lst ([V.ref e1, V.ref e2, V.ref e3, V.ref e4, V.ref e5, V.ref e6, V.ref e7, V.ref e8, V.ref e9, V.ref e10, V.ref e11, V.ref e12] ++ [V.ref e13, V.ref e14, V.ref e15, V.ref e16])) nr4
    have A4 := Vz.madeAll_map z4 (Vz.madeAll_app (Vz.madeAll_map b4 A3) a4)
    have B4 := Same.trans (Same.trans B3 b4) z4
    have X4 : (upd (upd H16 p4 (.lst [V.ref e13, V.ref e14, V.ref e15, V.ref e16])) r4 (.lst [V.ref e1, V.ref e2, V.ref e3, V.ref e4, V.ref e5, V.ref e6, V.ref e7, V.ref e8, V.ref e9, V.ref e10, V.ref e11, V.ref e12, V.ref e13, V.ref e14, V.ref e15, V.ref e16])) r4 = some (.lst [V.ref e1, V.ref e2, V.ref e3, V.ref e4, V.ref e5, V.ref e6, V.ref e7, V.ref e8, V.ref e9, V.ref e10, V.ref e11, V.ref e12, V.ref e13, V.ref e14, V.ref e15, V.ref e16]) := upd_same
    clear w13 m13 w14 m14 w15 m15 w16 m16 a4 A3 X3
    refine ⟨_, rfl, ?_⟩
    refine ⟨_, rfl, ?_⟩
    dsimp only [tNil, Vz.kwA]
    refine Vz.tMk_A (v := v) (Nat.zero_le _) fun e17 H17 s17 m17 => ?_
    refine ⟨_, rfl, ?_⟩
    dsimp only [tNil, Vz.kwA]
    refine Vz.tMk_A (v := v) (Nat.zero_le _) fun e18 H18 s18 m18 => ?_
    refine ⟨_, rfl, ?_⟩
    dsimp only [tNil, Vz.kwA]
    refine Vz.tMk_A (v := v) (Nat.zero_le _) fun e19 H19 s19 m19 => ?_
    refine ⟨_, rfl, ?_⟩
    dsimp only [tNil, Vz.kwA]
    refine Vz.tMk_A (v := v) (Nat.zero_le _) fun e20 H20 s20 m20 => ?_
    refine ⟨(by show 4 ≤ sizeLine; decide), fun p5 n5 => ?_⟩
    have t5 := same_new (o := .lst [V.ref e17, V.ref e18, V.ref e19, V.ref e20]) n5
    have w17 := (Vz.made_map (Vz.made_map (Vz.made_map (Vz.made_map m17 s18) s19) s20) t5)
    have w18 := (Vz.made_map (Vz.made_map (Vz.made_map m18 s19) s20) t5)
    have w19 := (Vz.made_map (Vz.made_map m19 s20) t5)
    have w20 := (Vz.made_map m20 t5)
    have b5 : Same (upd (upd H16 p4 (.lst [V.ref e13, V.ref e14, V.ref e15, V.ref e16])) r4 (.lst [V.ref e1, V.ref e2, V.ref e3, V.ref e4, V.ref e5, V.ref e6, V.ref e7, V.ref e8, V.ref e9, V.ref e10, V.ref e11, V.ref e12, V.ref e13, V.ref e14, V.ref e15, V.ref e16])) _ := Same.trans (Same.trans (Same.trans (Same.trans s17 s18) s19) s20) t5
    have a5 : Vz.MadeAll _ [V.ref e17, V.ref e18, V.ref e19, V.ref e20] [T.c_NoSighting.C, T.c_BadLibrary.C, T.c_BadWindow.C, T.c_BadOffer.C] [[("number", v)], [("number", v)], [("number", v)], [("number", v)]] := ⟨⟨e17, rfl, w17⟩, ⟨e18, rfl, w18⟩, ⟨e19, rfl, w19⟩, ⟨e20, rfl, w20⟩, True.intro⟩
    refine ⟨_, _, _, _, rfl, rfl, SqL.of (b5 _ _ X4), SqL.of upd_same, (by show 20 ≤ sizeLine; decide), fun r5 nr5 => ?_⟩
    have z5 := same_new (o := .lst ([V.ref e1, V.ref e2, V.ref e3, V.ref e4, V.ref e5, V.ref e6, V.ref e7, V.ref e8, V.ref e9, V.ref e10, V.ref e11, V.ref e12, V.ref e13, V.ref e14, V.ref e15, V.ref e16] ++ [V.ref e17, V.ref e18, V.ref e19, V.ref e20])) nr5
    have A5 := Vz.madeAll_map z5 (Vz.madeAll_app (Vz.madeAll_map b5 A4) a5)
    have B5 := Same.trans (Same.trans B4 b5) z5
    have X5 : (upd (upd H20 p5 (.lst [V.ref e17, V.ref e18, V.ref e19, V.ref e20])) r5 (.lst [V.ref e1, V.ref e2, V.ref e3, V.ref e4, V.ref e5, V.ref e6, V.ref e7, V.ref e8, V.ref e9, V.ref e10, V.ref e11, V.ref e12, V.ref e13, V.ref e14, V.ref e15, V.ref e16, V.ref e17, V.ref e18, V.ref e19, V.ref e20])) r5 = some (.lst [V.ref e1, V.ref e2, V.ref e3, V.ref e4, V.ref e5, V.ref e6, V.ref e7, V.ref e8, V.ref e9, V.ref e10, V.ref e11, V.ref e12, V.ref e13, V.ref e14, V.ref e15, V.ref e16, V.ref e17, V.ref e18, V.ref e19, V.ref e20]) := upd_same
    clear w17 m17 w18 m18 w19 m19 w20 m20 a5 A4 X4
    refine ⟨_, rfl, ?_⟩
    refine ⟨_, rfl, ?_⟩
    dsimp only [tNil, Vz.kwA]
    refine Vz.tMk_A (v := v) (Nat.zero_le _) fun e21 H21 s21 m21 => ?_
    refine ⟨_, rfl, ?_⟩
    dsimp only [tNil, Vz.kwA]
    refine Vz.tMk_A (v := v) (Nat.zero_le _) fun e22 H22 s22 m22 => ?_
    refine ⟨_, rfl, ?_⟩
    dsimp only [tNil, Vz.kwA]
    refine Vz.tMk_A (v := v) (Nat.zero_le _) fun e23 H23 s23 m23 => ?_
    refine ⟨_, rfl, ?_⟩
    dsimp only [tNil, Vz.kwA]
    refine Vz.tMk_A (v := v) (Nat.zero_le _) fun e24 H24 s24 m24 => ?_
    refine ⟨(by show 4 ≤ sizeLine; decide), fun p6 n6 => ?_⟩
    have t6 := same_new (o := .lst [V.ref e21, V.ref e22, V.ref e23, V.ref e24]) n6
    have w21 := (Vz.made_map (Vz.made_map (Vz.made_map (Vz.made_map m21 s22) s23) s24) t6)
    have w22 := (Vz.made_map (Vz.made_map (Vz.made_map m22 s23) s24) t6)
    have w23 := (Vz.made_map (Vz.made_map m23 s24) t6)
    have w24 := (Vz.made_map m24 t6)
    have b6 : Same (upd (upd H20 p5 (.lst [V.ref e17, V.ref e18, V.ref e19, V.ref e20])) r5 (.lst [V.ref e1, V.ref e2, V.ref e3, V.ref e4, V.ref e5, V.ref e6, V.ref e7, V.ref e8, V.ref e9, V.ref e10, V.ref e11, V.ref e12, V.ref e13, V.ref e14, V.ref e15, V.ref e16, V.ref e17, V.ref e18, V.ref e19, V.ref e20])) _ := Same.trans (Same.trans (Same.trans (Same.trans s21 s22) s23) s24) t6
    have a6 : Vz.MadeAll _ [V.ref e21, V.ref e22, V.ref e23, V.ref e24] [T.c_BadLog.C, T.c_NoAnswer.C, T.c_BadBundle.C, T.c_TooMany.C] [[("number", v)], [("number", v)], [("number", v)], [("what", v)]] := ⟨⟨e21, rfl, w21⟩, ⟨e22, rfl, w22⟩, ⟨e23, rfl, w23⟩, ⟨e24, rfl, w24⟩, True.intro⟩
    refine ⟨_, _, _, _, rfl, rfl, SqL.of (b6 _ _ X5), SqL.of upd_same, (by show 24 ≤ sizeLine; decide), fun r6 nr6 => ?_⟩
    have z6 := same_new (o := .lst ([V.ref e1, V.ref e2, V.ref e3, V.ref e4, V.ref e5, V.ref e6, V.ref e7, V.ref e8, V.ref e9, V.ref e10, V.ref e11, V.ref e12, V.ref e13, V.ref e14, V.ref e15, V.ref e16, V.ref e17, V.ref e18, V.ref e19, V.ref e20] ++ [V.ref e21, V.ref e22, V.ref e23, V.ref e24])) nr6
    have A6 := Vz.madeAll_map z6 (Vz.madeAll_app (Vz.madeAll_map b6 A5) a6)
    have B6 := Same.trans (Same.trans B5 b6) z6
    have X6 : (upd (upd H24 p6 (.lst [V.ref e21, V.ref e22, V.ref e23, V.ref e24])) r6 (.lst [V.ref e1, V.ref e2, V.ref e3, V.ref e4, V.ref e5, V.ref e6, V.ref e7, V.ref e8, V.ref e9, V.ref e10, V.ref e11, V.ref e12, V.ref e13, V.ref e14, V.ref e15, V.ref e16, V.ref e17, V.ref e18, V.ref e19, V.ref e20, V.ref e21, V.ref e22, V.ref e23, V.ref e24])) r6 = some (.lst [V.ref e1, V.ref e2, V.ref e3, V.ref e4, V.ref e5, V.ref e6, V.ref e7, V.ref e8, V.ref e9, V.ref e10, V.ref e11, V.ref e12, V.ref e13, V.ref e14, V.ref e15, V.ref e16, V.ref e17, V.ref e18, V.ref e19, V.ref e20, V.ref e21, V.ref e22, V.ref e23, V.ref e24]) := upd_same
    clear w21 m21 w22 m22 w23 m23 w24 m24 a6 A5 X5
    refine ⟨_, rfl, ?_⟩
    refine ⟨_, rfl, ?_⟩
    dsimp only [tNil, Vz.kwA]
    refine Vz.tMk_A (v := v) (Nat.zero_le _) fun e25 H25 s25 m25 => ?_
    refine ⟨_, rfl, ?_⟩
    dsimp only [tNil, Vz.kwA]
    refine Vz.tMk_A (v := v) (Nat.zero_le _) fun e26 H26 s26 m26 => ?_
    refine ⟨_, rfl, ?_⟩
    dsimp only [tNil, Vz.kwA]
    refine Vz.tMk_A (v := v) (Nat.zero_le _) fun e27 H27 s27 m27 => ?_
    refine ⟨_, rfl, ?_⟩
    dsimp only [tNil, Vz.kwA]
    refine Vz.tMk_A (v := v) (Nat.zero_le _) fun e28 H28 s28 m28 => ?_
    refine ⟨(by show 4 ≤ sizeLine; decide), fun p7 n7 => ?_⟩
    have t7 := same_new (o := .lst [V.ref e25, V.ref e26, V.ref e27, V.ref e28]) n7
    have w25 := (Vz.made_map (Vz.made_map (Vz.made_map (Vz.made_map m25 s26) s27) s28) t7)
    have w26 := (Vz.made_map (Vz.made_map (Vz.made_map m26 s27) s28) t7)
    have w27 := (Vz.made_map (Vz.made_map m27 s28) t7)
    have w28 := (Vz.made_map m28 t7)
    have b7 : Same (upd (upd H24 p6 (.lst [V.ref e21, V.ref e22, V.ref e23, V.ref e24])) r6 (.lst [V.ref e1, V.ref e2, V.ref e3, V.ref e4, V.ref e5, V.ref e6, V.ref e7, V.ref e8, V.ref e9, V.ref e10, V.ref e11, V.ref e12, V.ref e13, V.ref e14, V.ref e15, V.ref e16, V.ref e17, V.ref e18, V.ref e19, V.ref e20, V.ref e21, V.ref e22, V.ref e23, V.ref e24])) _ := Same.trans (Same.trans (Same.trans (Same.trans s25 s26) s27) s28) t7
    have a7 : Vz.MadeAll _ [V.ref e25, V.ref e26, V.ref e27, V.ref e28] [T.c_Torn.C, T.c_NoNote.C, T.c_BadQuery.C, T.c_Gap.C] [[("stamp", v)], [("stamp", v)], [("path", v)], [("device", v)]] := ⟨⟨e25, rfl, w25⟩, ⟨e26, rfl, w26⟩, ⟨e27, rfl, w27⟩, ⟨e28, rfl, w28⟩, True.intro⟩
    refine ⟨_, _, _, _, rfl, rfl, SqL.of (b7 _ _ X6), SqL.of upd_same, (by show 28 ≤ sizeLine; decide), fun r7 nr7 => ?_⟩
    have z7 := same_new (o := .lst ([V.ref e1, V.ref e2, V.ref e3, V.ref e4, V.ref e5, V.ref e6, V.ref e7, V.ref e8, V.ref e9, V.ref e10, V.ref e11, V.ref e12, V.ref e13, V.ref e14, V.ref e15, V.ref e16, V.ref e17, V.ref e18, V.ref e19, V.ref e20, V.ref e21, V.ref e22, V.ref e23, V.ref e24] ++ [V.ref e25, V.ref e26, V.ref e27, V.ref e28])) nr7
    have A7 := Vz.madeAll_map z7 (Vz.madeAll_app (Vz.madeAll_map b7 A6) a7)
    have B7 := Same.trans (Same.trans B6 b7) z7
    have X7 : (upd (upd H28 p7 (.lst [V.ref e25, V.ref e26, V.ref e27, V.ref e28])) r7 (.lst [V.ref e1, V.ref e2, V.ref e3, V.ref e4, V.ref e5, V.ref e6, V.ref e7, V.ref e8, V.ref e9, V.ref e10, V.ref e11, V.ref e12, V.ref e13, V.ref e14, V.ref e15, V.ref e16, V.ref e17, V.ref e18, V.ref e19, V.ref e20, V.ref e21, V.ref e22, V.ref e23, V.ref e24, V.ref e25, V.ref e26, V.ref e27, V.ref e28])) r7 = some (.lst [V.ref e1, V.ref e2, V.ref e3, V.ref e4, V.ref e5, V.ref e6, V.ref e7, V.ref e8, V.ref e9, V.ref e10, V.ref e11, V.ref e12, V.ref e13, V.ref e14, V.ref e15, V.ref e16, V.ref e17, V.ref e18, V.ref e19, V.ref e20, V.ref e21, V.ref e22, V.ref e23, V.ref e24, V.ref e25, V.ref e26, V.ref e27, V.ref e28]) := upd_same
    clear w25 m25 w26 m26 w27 m27 w28 m28 a7 A6 X6
    refine ⟨_, rfl, ?_⟩
    refine ⟨_, rfl, _, rfl, ?_⟩
    dsimp only [tNil, Vz.kwB]
    refine Vz.tMk_B (v := v) (y := y) (Nat.zero_le _) fun e29 H29 s29 m29 => ?_
    refine ⟨_, rfl, _, rfl, ?_⟩
    dsimp only [tNil, Vz.kwB]
    refine Vz.tMk_B (v := v) (y := y) (Nat.zero_le _) fun e30 H30 s30 m30 => ?_
    refine ⟨(by show 2 ≤ sizeLine; decide), fun p8 n8 => ?_⟩
    have t8 := same_new (o := .lst [V.ref e29, V.ref e30]) n8
    have w29 := (Vz.made_map (Vz.made_map m29 s30) t8)
    have w30 := (Vz.made_map m30 t8)
    have b8 : Same (upd (upd H28 p7 (.lst [V.ref e25, V.ref e26, V.ref e27, V.ref e28])) r7 (.lst [V.ref e1, V.ref e2, V.ref e3, V.ref e4, V.ref e5, V.ref e6, V.ref e7, V.ref e8, V.ref e9, V.ref e10, V.ref e11, V.ref e12, V.ref e13, V.ref e14, V.ref e15, V.ref e16, V.ref e17, V.ref e18, V.ref e19, V.ref e20, V.ref e21, V.ref e22, V.ref e23, V.ref e24, V.ref e25, V.ref e26, V.ref e27, V.ref e28])) _ := Same.trans (Same.trans s29 s30) t8
    have a8 : Vz.MadeAll _ [V.ref e29, V.ref e30] [T.c_BadPage.C, T.c_BadText.C] [[("number", y), ("field", v)], [("column", y), ("line", v)]] := ⟨⟨e29, rfl, w29⟩, ⟨e30, rfl, w30⟩, True.intro⟩
    refine ⟨_, _, _, _, rfl, rfl, SqL.of (b8 _ _ X7), SqL.of upd_same, (by show 30 ≤ sizeLine; decide), fun r8 nr8 => ?_⟩
    have z8 := same_new (o := .lst ([V.ref e1, V.ref e2, V.ref e3, V.ref e4, V.ref e5, V.ref e6, V.ref e7, V.ref e8, V.ref e9, V.ref e10, V.ref e11, V.ref e12, V.ref e13, V.ref e14, V.ref e15, V.ref e16, V.ref e17, V.ref e18, V.ref e19, V.ref e20, V.ref e21, V.ref e22, V.ref e23, V.ref e24, V.ref e25, V.ref e26, V.ref e27, V.ref e28] ++ [V.ref e29, V.ref e30])) nr8
    have A8 := Vz.madeAll_map z8 (Vz.madeAll_app (Vz.madeAll_map b8 A7) a8)
    have B8 := Same.trans (Same.trans B7 b8) z8
    have X8 : (upd (upd H30 p8 (.lst [V.ref e29, V.ref e30])) r8 (.lst [V.ref e1, V.ref e2, V.ref e3, V.ref e4, V.ref e5, V.ref e6, V.ref e7, V.ref e8, V.ref e9, V.ref e10, V.ref e11, V.ref e12, V.ref e13, V.ref e14, V.ref e15, V.ref e16, V.ref e17, V.ref e18, V.ref e19, V.ref e20, V.ref e21, V.ref e22, V.ref e23, V.ref e24, V.ref e25, V.ref e26, V.ref e27, V.ref e28, V.ref e29, V.ref e30])) r8 = some (.lst [V.ref e1, V.ref e2, V.ref e3, V.ref e4, V.ref e5, V.ref e6, V.ref e7, V.ref e8, V.ref e9, V.ref e10, V.ref e11, V.ref e12, V.ref e13, V.ref e14, V.ref e15, V.ref e16, V.ref e17, V.ref e18, V.ref e19, V.ref e20, V.ref e21, V.ref e22, V.ref e23, V.ref e24, V.ref e25, V.ref e26, V.ref e27, V.ref e28, V.ref e29, V.ref e30]) := upd_same
    clear w29 m29 w30 m30 a8 A7 X7
    exact q _ r8 _ B8 X8 A8
/-- what the law tells of the kinds of the i-th -/
def kindL (i : Nat) : List V := (List.range 30).map fun k => V.bl (i == k)
def sp_kinds (T : Txt K mg) : Sp := fun vs H Q _ => ∃ (e : Addr) (i : Nat) (C : Addr) (fs : List (Str × V)), vs = [.ref e] ∧ (csT T)[i]? = some C ∧ Vz.Made H e C fs ∧ ∀ H' p, Same H H' → H' p = some (.lst (kindL i)) → Q (.ref p) H'

theorem ok__law_kinds (T : Txt K mg) : FnOk P w K mg base CX0 1 T.a__law_kinds T.d__law_kinds ["e"] (sp_kinds T) := by
  refine T.F__law_kinds.ok sc__law_kinds (fun vs H Q E h => ?_) (fun cdv A outer s H vs Q E hr h => ?_)
  · obtain ⟨e, i, C, fs, rfl, _⟩ := h; rfl
  · obtain ⟨e, i, C, fs, rfl, hi, mk, q⟩ := h
    obtain ⟨xc, _, _, _, kt⟩ := Vz.famB_ok T.fam hi
    refine ⟨_, (pss_cons (ps_set (i := 1) sc__law_kinds.nd rfl (by first | exact Or.inl rfl | exact Or.inr rfl) (pe_lst (pa_cons (pe_callB Vz.call_isO (by rfl) T.z_isinstance (by decide +kernel) (pa_cons (pv 0) (pa_cons (pe_glob (v := .ref T.c_BadMoment.C) (by rfl) T.c_BadMoment.g rfl) pa_nil))) (pa_cons (pe_callB Vz.call_isO (by rfl) T.z_isinstance (by decide +kernel) (pa_cons (pv 0) (pa_cons (pe_glob (v := .ref T.c_BadZone.C) (by rfl) T.c_BadZone.g rfl) pa_nil))) (pa_cons (pe_callB Vz.call_isO (by rfl) T.z_isinstance (by decide +kernel) (pa_cons (pv 0) (pa_cons (pe_glob (v := .ref T.c_BadDate.C) (by rfl) T.c_BadDate.g rfl) pa_nil))) (pa_cons (pe_callB Vz.call_isO (by rfl) T.z_isinstance (by decide +kernel) (pa_cons (pv 0) (pa_cons (pe_glob (v := .ref T.c_BadAddress.C) (by rfl) T.c_BadAddress.g rfl) pa_nil))) pa_nil))))))
        (pss_cons (ps_set (i := 1) sc__law_kinds.nd rfl (by first | exact Or.inl rfl | exact Or.inr rfl) (pe_op Vz.op_catR (pv 1) (pe_lst (pa_cons (pe_callB Vz.call_isO (by rfl) T.z_isinstance (by decide +kernel) (pa_cons (pv 0) (pa_cons (pe_glob (v := .ref T.c_BadThing.C) (by rfl) T.c_BadThing.g rfl) pa_nil))) (pa_cons (pe_callB Vz.call_isO (by rfl) T.z_isinstance (by decide +kernel) (pa_cons (pv 0) (pa_cons (pe_glob (v := .ref T.c_BadDevice.C) (by rfl) T.c_BadDevice.g rfl) pa_nil))) (pa_cons (pe_callB Vz.call_isO (by rfl) T.z_isinstance (by decide +kernel) (pa_cons (pv 0) (pa_cons (pe_glob (v := .ref T.c_NoEntry.C) (by rfl) T.c_NoEntry.g rfl) pa_nil))) (pa_cons (pe_callB Vz.call_isO (by rfl) T.z_isinstance (by decide +kernel) (pa_cons (pv 0) (pa_cons (pe_glob (v := .ref T.c_Taken.C) (by rfl) T.c_Taken.g rfl) pa_nil))) pa_nil)))))))
        (pss_cons (ps_set (i := 1) sc__law_kinds.nd rfl (by first | exact Or.inl rfl | exact Or.inr rfl) (pe_op Vz.op_catR (pv 1) (pe_lst (pa_cons (pe_callB Vz.call_isO (by rfl) T.z_isinstance (by decide +kernel) (pa_cons (pv 0) (pa_cons (pe_glob (v := .ref T.c_NoItem.C) (by rfl) T.c_NoItem.g rfl) pa_nil))) (pa_cons (pe_callB Vz.call_isO (by rfl) T.z_isinstance (by decide +kernel) (pa_cons (pv 0) (pa_cons (pe_glob (v := .ref T.c_BadFolder.C) (by rfl) T.c_BadFolder.g rfl) pa_nil))) (pa_cons (pe_callB Vz.call_isO (by rfl) T.z_isinstance (by decide +kernel) (pa_cons (pv 0) (pa_cons (pe_glob (v := .ref T.c_BadVector.C) (by rfl) T.c_BadVector.g rfl) pa_nil))) (pa_cons (pe_callB Vz.call_isO (by rfl) T.z_isinstance (by decide +kernel) (pa_cons (pv 0) (pa_cons (pe_glob (v := .ref T.c_BadEntry.C) (by rfl) T.c_BadEntry.g rfl) pa_nil))) pa_nil)))))))
        (pss_cons (ps_set (i := 1) sc__law_kinds.nd rfl (by first | exact Or.inl rfl | exact Or.inr rfl) (pe_op Vz.op_catR (pv 1) (pe_lst (pa_cons (pe_callB Vz.call_isO (by rfl) T.z_isinstance (by decide +kernel) (pa_cons (pv 0) (pa_cons (pe_glob (v := .ref T.c_BadNumber.C) (by rfl) T.c_BadNumber.g rfl) pa_nil))) (pa_cons (pe_callB Vz.call_isO (by rfl) T.z_isinstance (by decide +kernel) (pa_cons (pv 0) (pa_cons (pe_glob (v := .ref T.c_BadWorld.C) (by rfl) T.c_BadWorld.g rfl) pa_nil))) (pa_cons (pe_callB Vz.call_isO (by rfl) T.z_isinstance (by decide +kernel) (pa_cons (pv 0) (pa_cons (pe_glob (v := .ref T.c_BadTrouble.C) (by rfl) T.c_BadTrouble.g rfl) pa_nil))) pa_nil))))))
        (pss_cons (ps_set (i := 1) sc__law_kinds.nd rfl (by first | exact Or.inl rfl | exact Or.inr rfl) (pe_op Vz.op_catR (pv 1) (pe_lst (pa_cons (pe_callB Vz.call_isO (by rfl) T.z_isinstance (by decide +kernel) (pa_cons (pv 0) (pa_cons (pe_glob (v := .ref T.c_BadShelf.C) (by rfl) T.c_BadShelf.g rfl) pa_nil))) (pa_cons (pe_callB Vz.call_isO (by rfl) T.z_isinstance (by decide +kernel) (pa_cons (pv 0) (pa_cons (pe_glob (v := .ref T.c_NoSighting.C) (by rfl) T.c_NoSighting.g rfl) pa_nil))) (pa_cons (pe_callB Vz.call_isO (by rfl) T.z_isinstance (by decide +kernel) (pa_cons (pv 0) (pa_cons (pe_glob (v := .ref T.c_BadLibrary.C) (by rfl) T.c_BadLibrary.g rfl) pa_nil))) pa_nil))))))
        (pss_cons (ps_set (i := 1) sc__law_kinds.nd rfl (by first | exact Or.inl rfl | exact Or.inr rfl) (pe_op Vz.op_catR (pv 1) (pe_lst (pa_cons (pe_callB Vz.call_isO (by rfl) T.z_isinstance (by decide +kernel) (pa_cons (pv 0) (pa_cons (pe_glob (v := .ref T.c_BadWindow.C) (by rfl) T.c_BadWindow.g rfl) pa_nil))) (pa_cons (pe_callB Vz.call_isO (by rfl) T.z_isinstance (by decide +kernel) (pa_cons (pv 0) (pa_cons (pe_glob (v := .ref T.c_BadOffer.C) (by rfl) T.c_BadOffer.g rfl) pa_nil))) (pa_cons (pe_callB Vz.call_isO (by rfl) T.z_isinstance (by decide +kernel) (pa_cons (pv 0) (pa_cons (pe_glob (v := .ref T.c_BadLog.C) (by rfl) T.c_BadLog.g rfl) pa_nil))) (pa_cons (pe_callB Vz.call_isO (by rfl) T.z_isinstance (by decide +kernel) (pa_cons (pv 0) (pa_cons (pe_glob (v := .ref T.c_NoAnswer.C) (by rfl) T.c_NoAnswer.g rfl) pa_nil))) pa_nil)))))))
        (pss_cons (ps_set (i := 1) sc__law_kinds.nd rfl (by first | exact Or.inl rfl | exact Or.inr rfl) (pe_op Vz.op_catR (pv 1) (pe_lst (pa_cons (pe_callB Vz.call_isO (by rfl) T.z_isinstance (by decide +kernel) (pa_cons (pv 0) (pa_cons (pe_glob (v := .ref T.c_BadBundle.C) (by rfl) T.c_BadBundle.g rfl) pa_nil))) (pa_cons (pe_callB Vz.call_isO (by rfl) T.z_isinstance (by decide +kernel) (pa_cons (pv 0) (pa_cons (pe_glob (v := .ref T.c_TooMany.C) (by rfl) T.c_TooMany.g rfl) pa_nil))) (pa_cons (pe_callB Vz.call_isO (by rfl) T.z_isinstance (by decide +kernel) (pa_cons (pv 0) (pa_cons (pe_glob (v := .ref T.c_Torn.C) (by rfl) T.c_Torn.g rfl) pa_nil))) (pa_cons (pe_callB Vz.call_isO (by rfl) T.z_isinstance (by decide +kernel) (pa_cons (pv 0) (pa_cons (pe_glob (v := .ref T.c_NoNote.C) (by rfl) T.c_NoNote.g rfl) pa_nil))) pa_nil)))))))
        (pss_one (ps_ret (pe_op Vz.op_catR (pv 1) (pe_lst (pa_cons (pe_callB Vz.call_isO (by rfl) T.z_isinstance (by decide +kernel) (pa_cons (pv 0) (pa_cons (pe_glob (v := .ref T.c_BadQuery.C) (by rfl) T.c_BadQuery.g rfl) pa_nil))) (pa_cons (pe_callB Vz.call_isO (by rfl) T.z_isinstance (by decide +kernel) (pa_cons (pv 0) (pa_cons (pe_glob (v := .ref T.c_Gap.C) (by rfl) T.c_Gap.g rfl) pa_nil))) (pa_cons (pe_callB Vz.call_isO (by rfl) T.z_isinstance (by decide +kernel) (pa_cons (pv 0) (pa_cons (pe_glob (v := .ref T.c_BadPage.C) (by rfl) T.c_BadPage.g rfl) pa_nil))) (pa_cons (pe_callB Vz.call_isO (by rfl) T.z_isinstance (by decide +kernel) (pa_cons (pv 0) (pa_cons (pe_glob (v := .ref T.c_BadText.C) (by rfl) T.c_BadText.g rfl) pa_nil))) pa_nil))))))))))))))), ?_⟩
    refine ⟨_, rfl, _, C, _, fs, _, rfl, xc, mk, .inl ⟨.ref T.c_BadMoment.C, fun u r => r, kt 0 (by show 0 < 30; decide)⟩, ?_⟩
    refine ⟨_, rfl, _, C, _, fs, _, rfl, xc, mk, .inl ⟨.ref T.c_BadZone.C, fun u r => r, kt 1 (by show 1 < 30; decide)⟩, ?_⟩
    refine ⟨_, rfl, _, C, _, fs, _, rfl, xc, mk, .inl ⟨.ref T.c_BadDate.C, fun u r => r, kt 2 (by show 2 < 30; decide)⟩, ?_⟩
    refine ⟨_, rfl, _, C, _, fs, _, rfl, xc, mk, .inl ⟨.ref T.c_BadAddress.C, fun u r => r, kt 3 (by show 3 < 30; decide)⟩, ?_⟩
    refine ⟨(by show 4 ≤ sizeLine; decide), fun p1 n1 => ?_⟩
    have t1 := same_new (o := .lst [V.bl (i == 0), V.bl (i == 1), V.bl (i == 2), V.bl (i == 3)]) n1
    have B1 := t1
    have X1 : upd H p1 (.lst [V.bl (i == 0), V.bl (i == 1), V.bl (i == 2), V.bl (i == 3)]) p1 = some (.lst [V.bl (i == 0), V.bl (i == 1), V.bl (i == 2), V.bl (i == 3)]) := upd_same
    replace mk := Vz.made_map mk t1
    refine ⟨_, rfl, ?_⟩
    refine ⟨_, rfl, _, C, _, fs, _, rfl, xc, mk, .inl ⟨.ref T.c_BadThing.C, fun u r => r, kt 4 (by show 4 < 30; decide)⟩, ?_⟩
    refine ⟨_, rfl, _, C, _, fs, _, rfl, xc, mk, .inl ⟨.ref T.c_BadDevice.C, fun u r => r, kt 5 (by show 5 < 30; decide)⟩, ?_⟩
    refine ⟨_, rfl, _, C, _, fs, _, rfl, xc, mk, .inl ⟨.ref T.c_NoEntry.C, fun u r => r, kt 6 (by show 6 < 30; decide)⟩, ?_⟩
    refine ⟨_, rfl, _, C, _, fs, _, rfl, xc, mk, .inl ⟨.ref T.c_Taken.C, fun u r => r, kt 7 (by show 7 < 30; decide)⟩, ?_⟩
    refine ⟨(by show 4 ≤ sizeLine; decide), fun p2 n2 => ?_⟩
    have t2 := same_new (o := .lst [V.bl (i == 4), V.bl (i == 5), V.bl (i == 6), V.bl (i == 7)]) n2
    refine ⟨_, _, _, _, rfl, rfl, SqL.of (t2 _ _ X1), SqL.of upd_same, (by show 8 ≤ sizeLine; decide), fun r2 nr2 => ?_⟩
    have z2 := same_new (o := .lst [V.bl (i == 0), V.bl (i == 1), V.bl (i == 2), V.bl (i == 3), V.bl (i == 4), V.bl (i == 5), V.bl (i == 6), V.bl (i == 7)]) nr2
    have B2 := Same.trans (Same.trans B1 t2) z2
    have X2 : (upd (upd (upd H p1 (.lst [V.bl (i == 0), V.bl (i == 1), V.bl (i == 2), V.bl (i == 3)])) p2 (.lst [V.bl (i == 4), V.bl (i == 5), V.bl (i == 6), V.bl (i == 7)])) r2 (.lst [V.bl (i == 0), V.bl (i == 1), V.bl (i == 2), V.bl (i == 3), V.bl (i == 4), V.bl (i == 5), V.bl (i == 6), V.bl (i == 7)])) r2 = some (.lst [V.bl (i == 0), V.bl (i == 1), V.bl (i == 2), V.bl (i == 3), V.bl (i == 4), V.bl (i == 5), V.bl (i == 6), V.bl (i == 7)]) := upd_same
    replace mk := Vz.made_map (Vz.made_map mk t2) z2
    refine ⟨_, rfl, ?_⟩
    refine ⟨_, rfl, _, C, _, fs, _, rfl, xc, mk, .inl ⟨.ref T.c_NoItem.C, fun u r => r, kt 8 (by show 8 < 30; decide)⟩, ?_⟩
    refine ⟨_, rfl, _, C, _, fs, _, rfl, xc, mk, .inl ⟨.ref T.c_BadFolder.C, fun u r => r, kt 9 (by show 9 < 30; decide)⟩, ?_⟩
    refine ⟨_, rfl, _, C, _, fs, _, rfl, xc, mk, .inl ⟨.ref T.c_BadVector.C, fun u r => r, kt 10 (by show 10 < 30; decide)⟩, ?_⟩
    refine ⟨_, rfl, _, C, _, fs, _, rfl, xc, mk, .inl ⟨.ref T.c_BadEntry.C, fun u r => r, kt 11 (by show 11 < 30; decide)⟩, ?_⟩
    refine ⟨(by show 4 ≤ sizeLine; decide), fun p3 n3 => ?_⟩
    have t3 := same_new (o := .lst [V.bl (i == 8), V.bl (i == 9), V.bl (i == 10), V.bl (i == 11)]) n3
    refine ⟨_, _, _, _, rfl, rfl, SqL.of (t3 _ _ X2), SqL.of upd_same, (by show 12 ≤ sizeLine; decide), fun r3 nr3 => ?_⟩
    have z3 := same_new (o := .lst [V.bl (i == 0), V.bl (i == 1), V.bl (i == 2), V.bl (i == 3), V.bl (i == 4), V.bl (i == 5), V.bl (i == 6), V.bl (i == 7), V.bl (i == 8), V.bl (i == 9), V.bl (i == 10), V.bl (i == 11)]) nr3
    have B3 := Same.trans (Same.trans B2 t3) z3
    have X3 : (upd (upd (upd (upd (upd H p1 (.lst [V.bl (i == 0), V.bl (i == 1), V.bl (i == 2), V.bl (i == 3)])) p2 (.lst [V.bl (i == 4), V.bl (i == 5), V.bl (i == 6), V.bl (i == 7)])) r2 (.lst [V.bl (i == 0), V.bl (i == 1), V.bl (i == 2), V.bl (i == 3), V.bl (i == 4), V.bl (i == 5), V.bl (i == 6), V.bl (i == 7)])) p3 (.lst [V.bl (i == 8), V.bl (i == 9), V.bl (i == 10), V.bl (i == 11)])) r3 (.lst [V.bl (i == 0), V.bl (i == 1), V.bl (i == 2), V.bl (i == 3), V.bl (i == 4), V.bl (i == 5), V.bl (i == 6), V.bl (i == 7), V.bl (i == 8), V.bl (i == 9), V.bl (i == 10), V.bl (i == 11)])) r3 = some (.lst [V.bl (i == 0), V.bl (i == 1), V.bl (i == 2), V.bl (i == 3), V.bl (i == 4), V.bl (i == 5), V.bl (i == 6), V.bl (i == 7), V.bl (i == 8), V.bl (i == 9), V.bl (i == 10), V.bl (i == 11)]) := upd_same
    replace mk := Vz.made_map (Vz.made_map mk t3) z3
    refine ⟨_, rfl, ?_⟩
    refine ⟨_, rfl, _, C, _, fs, _, rfl, xc, mk, .inl ⟨.ref T.c_BadNumber.C, fun u r => r, kt 12 (by show 12 < 30; decide)⟩, ?_⟩
    refine ⟨_, rfl, _, C, _, fs, _, rfl, xc, mk, .inl ⟨.ref T.c_BadWorld.C, fun u r => r, kt 13 (by show 13 < 30; decide)⟩, ?_⟩
    refine ⟨_, rfl, _, C, _, fs, _, rfl, xc, mk, .inl ⟨.ref T.c_BadTrouble.C, fun u r => r, kt 14 (by show 14 < 30; decide)⟩, ?_⟩
    refine ⟨(by show 3 ≤ sizeLine; decide), fun p4 n4 => ?_⟩
    have t4 := same_new (o := .lst [V.bl (i == 12), V.bl (i == 13), V.bl (i == 14)]) n4
    refine ⟨_, _, _, _, rfl, rfl, SqL.of (t4 _ _ X3), SqL.of upd_same, (by show 15 ≤ sizeLine; decide), fun r4 nr4 => ?_⟩
    have z4 := same_new (o := .lst [V.bl (i == 0), V.bl (i == 1), V.bl (i == 2), V.bl (i == 3), V.bl (i == 4), V.bl (i == 5), V.bl (i == 6), V.bl (i == 7), V.bl (i == 8), V.bl (i == 9), V.bl (i == 10), V.bl (i == 11), V.bl (i == 12), V.bl (i == 13), V.bl (i == 14)]) nr4
    have B4 := Same.trans (Same.trans B3 t4) z4
    have X4 : (upd (upd (upd (upd (upd (upd (upd H p1 (.lst [V.bl (i == 0), V.bl (i == 1), V.bl (i == 2), V.bl (i == 3)])) p2 (.lst [V.bl (i == 4), V.bl (i == 5), V.bl (i == 6), V.bl (i == 7)])) r2 (.lst [V.bl (i == 0), V.bl (i == 1), V.bl (i == 2), V.bl (i == 3), V.bl (i == 4), V.bl (i == 5), V.bl (i == 6), V.bl (i == 7)])) p3 (.lst [V.bl (i == 8), V.bl (i == 9), V.bl (i == 10), V.bl (i == 11)])) r3 (.lst [V.bl (i == 0), V.bl (i == 1), V.bl (i == 2), V.bl (i == 3), V.bl (i == 4), V.bl (i == 5), V.bl (i == 6), V.bl (i == 7), V.bl (i == 8), V.bl (i == 9), V.bl (i == 10), V.bl (i == 11)])) p4 (.lst [V.bl (i == 12), V.bl (i == 13), V.bl (i == 14)])) r4 (.lst [V.bl (i == 0), V.bl (i == 1), V.bl (i == 2), V.bl (i == 3), V.bl (i == 4), V.bl (i == 5), V.bl (i == 6), V.bl (i == 7), V.bl (i == 8), V.bl (i == 9), V.bl (i == 10), V.bl (i == 11), V.bl (i == 12), V.bl (i == 13), V.bl (i == 14)])) r4 = some (.lst [V.bl (i == 0), V.bl (i == 1), V.bl (i == 2), V.bl (i == 3), V.bl (i == 4), V.bl (i == 5), V.bl (i == 6), V.bl (i == 7), V.bl (i == 8), V.bl (i == 9), V.bl (i == 10), V.bl (i == 11), V.bl (i == 12), V.bl (i == 13), V.bl (i == 14)]) := upd_same
    replace mk := Vz.made_map (Vz.made_map mk t4) z4
    refine ⟨_, rfl, ?_⟩
    refine ⟨_, rfl, _, C, _, fs, _, rfl, xc, mk, .inl ⟨.ref T.c_BadShelf.C, fun u r => r, kt 15 (by show 15 < 30; decide)⟩, ?_⟩
    refine ⟨_, rfl, _, C, _, fs, _, rfl, xc, mk, .inl ⟨.ref T.c_NoSighting.C, fun u r => r, kt 16 (by show 16 < 30; decide)⟩, ?_⟩
    refine ⟨_, rfl, _, C, _, fs, _, rfl, xc, mk, .inl ⟨.ref T.c_BadLibrary.C, fun u r => r, kt 17 (by show 17 < 30; decide)⟩, ?_⟩
    refine ⟨(by show 3 ≤ sizeLine; decide), fun p5 n5 => ?_⟩
    have t5 := same_new (o := .lst [V.bl (i == 15), V.bl (i == 16), V.bl (i == 17)]) n5
    refine ⟨_, _, _, _, rfl, rfl, SqL.of (t5 _ _ X4), SqL.of upd_same, (by show 18 ≤ sizeLine; decide), fun r5 nr5 => ?_⟩
    have z5 := same_new (o := .lst [V.bl (i == 0), V.bl (i == 1), V.bl (i == 2), V.bl (i == 3), V.bl (i == 4), V.bl (i == 5), V.bl (i == 6), V.bl (i == 7), V.bl (i == 8), V.bl (i == 9), V.bl (i == 10), V.bl (i == 11), V.bl (i == 12), V.bl (i == 13), V.bl (i == 14), V.bl (i == 15), V.bl (i == 16), V.bl (i == 17)]) nr5
    have B5 := Same.trans (Same.trans B4 t5) z5
    have X5 : (upd (upd (upd (upd (upd (upd (upd (upd (upd H p1 (.lst [V.bl (i == 0), V.bl (i == 1), V.bl (i == 2), V.bl (i == 3)])) p2 (.lst [V.bl (i == 4), V.bl (i == 5), V.bl (i == 6), V.bl (i == 7)])) r2 (.lst [V.bl (i == 0), V.bl (i == 1), V.bl (i == 2), V.bl (i == 3), V.bl (i == 4), V.bl (i == 5), V.bl (i == 6), V.bl (i == 7)])) p3 (.lst [V.bl (i == 8), V.bl (i == 9), V.bl (i == 10), V.bl (i == 11)])) r3 (.lst [V.bl (i == 0), V.bl (i == 1), V.bl (i == 2), V.bl (i == 3), V.bl (i == 4), V.bl (i == 5), V.bl (i == 6), V.bl (i == 7), V.bl (i == 8), V.bl (i == 9), V.bl (i == 10), V.bl (i == 11)])) p4 (.lst [V.bl (i == 12), V.bl (i == 13), V.bl (i == 14)])) r4 (.lst [V.bl (i == 0), V.bl (i == 1), V.bl (i == 2), V.bl (i == 3), V.bl (i == 4), V.bl (i == 5), V.bl (i == 6), V.bl (i == 7), V.bl (i == 8), V.bl (i == 9), V.bl (i == 10), V.bl (i == 11), V.bl (i == 12), V.bl (i == 13), V.bl (i == 14)])) p5 (.lst [V.bl (i == 15), V.bl (i == 16), V.bl (i == 17)])) r5 (.lst [V.bl (i == 0), V.bl (i == 1), V.bl (i == 2), V.bl (i == 3), V.bl (i == 4), V.bl (i == 5), V.bl (i == 6), V.bl (i == 7), V.bl (i == 8), V.bl (i == 9), V.bl (i == 10), V.bl (i == 11), V.bl (i == 12), V.bl (i == 13), V.bl (i == 14), V.bl (i == 15), V.bl (i == 16), V.bl (i == 17)])) r5 = some (.lst [V.bl (i == 0), V.bl (i == 1), V.bl (i == 2), V.bl (i == 3), V.bl (i == 4), V.bl (i == 5), V.bl (i == 6), V.bl (i == 7), V.bl (i == 8), V.bl (i == 9), V.bl (i == 10), V.bl (i == 11), V.bl (i == 12), V.bl (i == 13), V.bl (i == 14), V.bl (i == 15), V.bl (i == 16), V.bl (i == 17)]) := upd_same
    replace mk := Vz.made_map (Vz.made_map mk t5) z5
    refine ⟨_, rfl, ?_⟩
    refine ⟨_, rfl, _, C, _, fs, _, rfl, xc, mk, .inl ⟨.ref T.c_BadWindow.C, fun u r => r, kt 18 (by show 18 < 30; decide)⟩, ?_⟩
    refine ⟨_, rfl, _, C, _, fs, _, rfl, xc, mk, .inl ⟨.ref T.c_BadOffer.C, fun u r => r, kt 19 (by show 19 < 30; decide)⟩, ?_⟩
    refine ⟨_, rfl, _, C, _, fs, _, rfl, xc, mk, .inl ⟨.ref T.c_BadLog.C, fun u r => r, kt 20 (by show 20 < 30; decide)⟩, ?_⟩
    refine ⟨_, rfl, _, C, _, fs, _, rfl, xc, mk, .inl ⟨.ref T.c_NoAnswer.C, fun u r => r, kt 21 (by show 21 < 30; decide)⟩, ?_⟩
    refine ⟨(by show 4 ≤ sizeLine; decide), fun p6 n6 => ?_⟩
    have t6 := same_new (o := .lst [V.bl (i == 18), V.bl (i == 19), V.bl (i == 20), V.bl (i == 21)]) n6
    refine ⟨_, _, _, _, rfl, rfl, SqL.of (t6 _ _ X5), SqL.of upd_same, (by show 22 ≤ sizeLine; decide), fun r6 nr6 => ?_⟩
    have z6 := same_new (o := .lst [V.bl (i == 0), V.bl (i == 1), V.bl (i == 2), V.bl (i == 3), V.bl (i == 4), V.bl (i == 5), V.bl (i == 6), V.bl (i == 7), V.bl (i == 8), V.bl (i == 9), V.bl (i == 10), V.bl (i == 11), V.bl (i == 12), V.bl (i == 13), V.bl (i == 14), V.bl (i == 15), V.bl (i == 16), V.bl (i == 17), V.bl (i == 18), V.bl (i == 19), V.bl (i == 20), V.bl (i == 21)]) nr6
    have B6 := Same.trans (Same.trans B5 t6) z6
    have X6 : (upd (upd (upd (upd (upd (upd (upd (upd (upd (upd (upd H p1 (.lst [V.bl (i == 0), V.bl (i == 1), V.bl (i == 2), V.bl (i == 3)])) p2 (.lst [V.bl (i == 4), V.bl (i == 5), V.bl (i == 6), V.bl (i == 7)])) r2 (.lst [V.bl (i == 0), V.bl (i == 1), V.bl (i == 2), V.bl (i == 3), V.bl (i == 4), V.bl (i == 5), V.bl (i == 6), V.bl (i == 7)])) p3 (.lst [V.bl (i == 8), V.bl (i == 9), V.bl (i == 10), V.bl (i == 11)])) r3 (.lst [V.bl (i == 0), V.bl (i == 1), V.bl (i == 2), V.bl (i == 3), V.bl (i == 4), V.bl (i == 5), V.bl (i == 6), V.bl (i == 7), V.bl (i == 8), V.bl (i == 9), V.bl (i == 10), V.bl (i == 11)])) p4 (.lst [V.bl (i == 12), V.bl (i == 13), V.bl (i == 14)])) r4 (.lst [V.bl (i == 0), V.bl (i == 1), V.bl (i == 2), V.bl (i == 3), V.bl (i == 4), V.bl (i == 5), V.bl (i == 6), V.bl (i == 7), V.bl (i == 8), V.bl (i == 9), V.bl (i == 10), V.bl (i == 11), V.bl (i == 12), V.bl (i == 13), V.bl (i == 14)])) p5 (.lst [V.bl (i == 15), V.bl (i == 16), V.bl (i == 17)])) r5 (.lst [V.bl (i == 0), V.bl (i == 1), V.bl (i == 2), V.bl (i == 3), V.bl (i == 4), V.bl (i == 5), V.bl (i == 6), V.bl (i == 7), V.bl (i == 8), V.bl (i == 9), V.bl (i == 10), V.bl (i == 11), V.bl (i == 12), V.bl (i == 13), V.bl (i == 14), V.bl (i == 15), V.bl (i == 16), V.bl (i == 17)])) p6 (.lst [V.bl (i == 18), V.bl (i == 19), V.bl (i == 20), V.bl (i == 21)])) r6 (.lst [V.bl (i == 0), V.bl (i == 1), V.bl (i == 2), V.bl (i == 3), V.bl (i == 4), V.bl (i == 5), V.bl (i == 6), V.bl (i == 7), V.bl (i == 8), V.bl (i == 9), V.bl (i == 10), V.bl (i == 11), V.bl (i == 12), V.bl (i == 13), V.bl (i == 14), V.bl (i == 15), V.bl (i == 16), V.bl (i == 17), V.bl (i == 18), V.bl (i == 19), V.bl (i == 20), V.bl (i == 21)])) r6 = some (.lst [V.bl (i == 0), V.bl (i == 1), V.bl (i == 2), V.bl (i == 3), V.bl (i == 4), V.bl (i == 5), V.bl (i == 6), V.bl (i == 7), V.bl (i == 8), V.bl (i == 9), V.bl (i == 10), V.bl (i == 11), V.bl (i == 12), V.bl (i == 13), V.bl (i == 14), V.bl (i == 15), V.bl (i == 16), V.bl (i == 17), V.bl (i == 18), V.bl (i == 19), V.bl (i == 20), V.bl (i == 21)]) := upd_same
    replace mk := Vz.made_map (Vz.made_map mk t6) z6
    refine ⟨_, rfl, ?_⟩
    refine ⟨_, rfl, _, C, _, fs, _, rfl, xc, mk, .inl ⟨.ref T.c_BadBundle.C, fun u r => r, kt 22 (by show 22 < 30; decide)⟩, ?_⟩
    refine ⟨_, rfl, _, C, _, fs, _, rfl, xc, mk, .inl ⟨.ref T.c_TooMany.C, fun u r => r, kt 23 (by show 23 < 30; decide)⟩, ?_⟩
    refine ⟨_, rfl, _, C, _, fs, _, rfl, xc, mk, .inl ⟨.ref T.c_Torn.C, fun u r => r, kt 24 (by show 24 < 30; decide)⟩, ?_⟩
    refine ⟨_, rfl, _, C, _, fs, _, rfl, xc, mk, .inl ⟨.ref T.c_NoNote.C, fun u r => r, kt 25 (by show 25 < 30; decide)⟩, ?_⟩
    refine ⟨(by show 4 ≤ sizeLine; decide), fun p7 n7 => ?_⟩
    have t7 := same_new (o := .lst [V.bl (i == 22), V.bl (i == 23), V.bl (i == 24), V.bl (i == 25)]) n7
    refine ⟨_, _, _, _, rfl, rfl, SqL.of (t7 _ _ X6), SqL.of upd_same, (by show 26 ≤ sizeLine; decide), fun r7 nr7 => ?_⟩
    have z7 := same_new (o := .lst [V.bl (i == 0), V.bl (i == 1), V.bl (i == 2), V.bl (i == 3), V.bl (i == 4), V.bl (i == 5), V.bl (i == 6), V.bl (i == 7), V.bl (i == 8), V.bl (i == 9), V.bl (i == 10), V.bl (i == 11), V.bl (i == 12), V.bl (i == 13), V.bl (i == 14), V.bl (i == 15), V.bl (i == 16), V.bl (i == 17), V.bl (i == 18), V.bl (i == 19), V.bl (i == 20), V.bl (i == 21), V.bl (i == 22), V.bl (i == 23), V.bl (i == 24), V.bl (i == 25)]) nr7
    have B7 := Same.trans (Same.trans B6 t7) z7
    have X7 : (upd (upd (upd (upd (upd (upd (upd (upd (upd (upd (upd (upd (upd H p1 (.lst [V.bl (i == 0), V.bl (i == 1), V.bl (i == 2), V.bl (i == 3)])) p2 (.lst [V.bl (i == 4), V.bl (i == 5), V.bl (i == 6), V.bl (i == 7)])) r2 (.lst [V.bl (i == 0), V.bl (i == 1), V.bl (i == 2), V.bl (i == 3), V.bl (i == 4), V.bl (i == 5), V.bl (i == 6), V.bl (i == 7)])) p3 (.lst [V.bl (i == 8), V.bl (i == 9), V.bl (i == 10), V.bl (i == 11)])) r3 (.lst [V.bl (i == 0), V.bl (i == 1), V.bl (i == 2), V.bl (i == 3), V.bl (i == 4), V.bl (i == 5), V.bl (i == 6), V.bl (i == 7), V.bl (i == 8), V.bl (i == 9), V.bl (i == 10), V.bl (i == 11)])) p4 (.lst [V.bl (i == 12), V.bl (i == 13), V.bl (i == 14)])) r4 (.lst [V.bl (i == 0), V.bl (i == 1), V.bl (i == 2), V.bl (i == 3), V.bl (i == 4), V.bl (i == 5), V.bl (i == 6), V.bl (i == 7), V.bl (i == 8), V.bl (i == 9), V.bl (i == 10), V.bl (i == 11), V.bl (i == 12), V.bl (i == 13), V.bl (i == 14)])) p5 (.lst [V.bl (i == 15), V.bl (i == 16), V.bl (i == 17)])) r5 (.lst [V.bl (i == 0), V.bl (i == 1), V.bl (i == 2), V.bl (i == 3), V.bl (i == 4), V.bl (i == 5), V.bl (i == 6), V.bl (i == 7), V.bl (i == 8), V.bl (i == 9), V.bl (i == 10), V.bl (i == 11), V.bl (i == 12), V.bl (i == 13), V.bl (i == 14), V.bl (i == 15), V.bl (i == 16), V.bl (i == 17)])) p6 (.lst [V.bl (i == 18), V.bl (i == 19), V.bl (i == 20), V.bl (i == 21)])) r6 (.lst [V.bl (i == 0), V.bl (i == 1), V.bl (i == 2), V.bl (i == 3), V.bl (i == 4), V.bl (i == 5), V.bl (i == 6), V.bl (i == 7), V.bl (i == 8), V.bl (i == 9), V.bl (i == 10), V.bl (i == 11), V.bl (i == 12), V.bl (i == 13), V.bl (i == 14), V.bl (i == 15), V.bl (i == 16), V.bl (i == 17), V.bl (i == 18), V.bl (i == 19), V.bl (i == 20), V.bl (i == 21)])) p7 (.lst [V.bl (i == 22), V.bl (i == 23), V.bl (i == 24), V.bl (i == 25)])) r7 (.lst [V.bl (i == 0), V.bl (i == 1), V.bl (i == 2), V.bl (i == 3), V.bl (i == 4), V.bl (i == 5), V.bl (i == 6), V.bl (i == 7), V.bl (i == 8), V.bl (i == 9), V.bl (i == 10), V.bl (i == 11), V.bl (i == 12), V.bl (i == 13), V.bl (i == 14), V.bl (i == 15), V.bl (i == 16), V.bl (i == 17), V.bl (i == 18), V.bl (i == 19), V.bl (i == 20), V.bl (i == 21), V.bl (i == 22), V.bl (i == 23), V.bl (i == 24), V.bl (i == 25)])) r7 = some (.lst [V.bl (i == 0), V.bl (i == 1), V.bl (i == 2), V.bl (i == 3), V.bl (i == 4), V.bl (i == 5), V.bl (i == 6), V.bl (i == 7), V.bl (i == 8), V.bl (i == 9), V.bl (i == 10), V.bl (i == 11), V.bl (i == 12), V.bl (i == 13), V.bl (i == 14), V.bl (i == 15), V.bl (i == 16), V.bl (i == 17), V.bl (i == 18), V.bl (i == 19), V.bl (i == 20), V.bl (i == 21), V.bl (i == 22), V.bl (i == 23), V.bl (i == 24), V.bl (i == 25)]) := upd_same
    replace mk := Vz.made_map (Vz.made_map mk t7) z7
    refine ⟨_, rfl, ?_⟩
    refine ⟨_, rfl, _, C, _, fs, _, rfl, xc, mk, .inl ⟨.ref T.c_BadQuery.C, fun u r => r, kt 26 (by show 26 < 30; decide)⟩, ?_⟩
    refine ⟨_, rfl, _, C, _, fs, _, rfl, xc, mk, .inl ⟨.ref T.c_Gap.C, fun u r => r, kt 27 (by show 27 < 30; decide)⟩, ?_⟩
    refine ⟨_, rfl, _, C, _, fs, _, rfl, xc, mk, .inl ⟨.ref T.c_BadPage.C, fun u r => r, kt 28 (by show 28 < 30; decide)⟩, ?_⟩
    refine ⟨_, rfl, _, C, _, fs, _, rfl, xc, mk, .inl ⟨.ref T.c_BadText.C, fun u r => r, kt 29 (by show 29 < 30; decide)⟩, ?_⟩
    refine ⟨(by show 4 ≤ sizeLine; decide), fun p8 n8 => ?_⟩
    have t8 := same_new (o := .lst [V.bl (i == 26), V.bl (i == 27), V.bl (i == 28), V.bl (i == 29)]) n8
    refine ⟨_, _, _, _, rfl, rfl, SqL.of (t8 _ _ X7), SqL.of upd_same, (by show 30 ≤ sizeLine; decide), fun r8 nr8 => ?_⟩
    have z8 := same_new (o := .lst [V.bl (i == 0), V.bl (i == 1), V.bl (i == 2), V.bl (i == 3), V.bl (i == 4), V.bl (i == 5), V.bl (i == 6), V.bl (i == 7), V.bl (i == 8), V.bl (i == 9), V.bl (i == 10), V.bl (i == 11), V.bl (i == 12), V.bl (i == 13), V.bl (i == 14), V.bl (i == 15), V.bl (i == 16), V.bl (i == 17), V.bl (i == 18), V.bl (i == 19), V.bl (i == 20), V.bl (i == 21), V.bl (i == 22), V.bl (i == 23), V.bl (i == 24), V.bl (i == 25), V.bl (i == 26), V.bl (i == 27), V.bl (i == 28), V.bl (i == 29)]) nr8
    have B8 := Same.trans (Same.trans B7 t8) z8
    have X8 : (upd (upd (upd (upd (upd (upd (upd (upd (upd (upd (upd (upd (upd (upd (upd H p1 (.lst [V.bl (i == 0), V.bl (i == 1), V.bl (i == 2), V.bl (i == 3)])) p2 (.lst [V.bl (i == 4), V.bl (i == 5), V.bl (i == 6), V.bl (i == 7)])) r2 (.lst [V.bl (i == 0), V.bl (i == 1), V.bl (i == 2), V.bl (i == 3), V.bl (i == 4), V.bl (i == 5), V.bl (i == 6), V.bl (i == 7)])) p3 (.lst [V.bl (i == 8), V.bl (i == 9), V.bl (i == 10), V.bl (i == 11)])) r3 (.lst [V.bl (i == 0), V.bl (i == 1), V.bl (i == 2), V.bl (i == 3), V.bl (i == 4), V.bl (i == 5), V.bl (i == 6), V.bl (i == 7), V.bl (i == 8), V.bl (i == 9), V.bl (i == 10), V.bl (i == 11)])) p4 (.lst [V.bl (i == 12), V.bl (i == 13), V.bl (i == 14)])) r4 (.lst [V.bl (i == 0), V.bl (i == 1), V.bl (i == 2), V.bl (i == 3), V.bl (i == 4), V.bl (i == 5), V.bl (i == 6), V.bl (i == 7), V.bl (i == 8), V.bl (i == 9), V.bl (i == 10), V.bl (i == 11), V.bl (i == 12), V.bl (i == 13), V.bl (i == 14)])) p5 (.lst [V.bl (i == 15), V.bl (i == 16), V.bl (i == 17)])) r5 (.lst [V.bl (i == 0), V.bl (i == 1), V.bl (i == 2), V.bl (i == 3), V.bl (i == 4), V.bl (i == 5), V.bl (i == 6), V.bl (i == 7), V.bl (i == 8), V.bl (i == 9), V.bl (i == 10), V.bl (i == 11), V.bl (i == 12), V.bl (i == 13), V.bl (i == 14), V.bl (i == 15), V.bl (i == 16), V.bl (i == 17)])) p6 (.lst [V.bl (i == 18), V.bl (i == 19), V.bl (i == 20), V.bl (i == 21)])) r6 (.lst [V.bl (i == 0), V.bl (i == 1), V.bl (i == 2), V.bl (i == 3), V.bl (i == 4), V.bl (i == 5), V.bl (i == 6), V.bl (i == 7), V.bl (i == 8), V.bl (i == 9), V.bl (i == 10), V.bl (i == 11), V.bl (i == 12), V.bl (i == 13), V.bl (i == 14), V.bl (i == 15), V.bl (i == 16), V.bl (i == 17), V.bl (i == 18), V.bl (i == 19), V.bl (i == 20), V.bl (i == 21)])) p7 (.lst [V.bl (i == 22), V.bl (i == 23), V.bl (i == 24), V.bl (i == 25)])) r7 (.lst [V.bl (i == 0), V.bl (i == 1), V.bl (i == 2), V.bl (i == 3), V.bl (i == 4), V.bl (i == 5), V.bl (i == 6), V.bl (i == 7), V.bl (i == 8), V.bl (i == 9), V.bl (i == 10), V.bl (i == 11), V.bl (i == 12), V.bl (i == 13), V.bl (i == 14), V.bl (i == 15), V.bl (i == 16), V.bl (i == 17), V.bl (i == 18), V.bl (i == 19), V.bl (i == 20), V.bl (i == 21), V.bl (i == 22), V.bl (i == 23), V.bl (i == 24), V.bl (i == 25)])) p8 (.lst [V.bl (i == 26), V.bl (i == 27), V.bl (i == 28), V.bl (i == 29)])) r8 (.lst [V.bl (i == 0), V.bl (i == 1), V.bl (i == 2), V.bl (i == 3), V.bl (i == 4), V.bl (i == 5), V.bl (i == 6), V.bl (i == 7), V.bl (i == 8), V.bl (i == 9), V.bl (i == 10), V.bl (i == 11), V.bl (i == 12), V.bl (i == 13), V.bl (i == 14), V.bl (i == 15), V.bl (i == 16), V.bl (i == 17), V.bl (i == 18), V.bl (i == 19), V.bl (i == 20), V.bl (i == 21), V.bl (i == 22), V.bl (i == 23), V.bl (i == 24), V.bl (i == 25), V.bl (i == 26), V.bl (i == 27), V.bl (i == 28), V.bl (i == 29)])) r8 = some (.lst [V.bl (i == 0), V.bl (i == 1), V.bl (i == 2), V.bl (i == 3), V.bl (i == 4), V.bl (i == 5), V.bl (i == 6), V.bl (i == 7), V.bl (i == 8), V.bl (i == 9), V.bl (i == 10), V.bl (i == 11), V.bl (i == 12), V.bl (i == 13), V.bl (i == 14), V.bl (i == 15), V.bl (i == 16), V.bl (i == 17), V.bl (i == 18), V.bl (i == 19), V.bl (i == 20), V.bl (i == 21), V.bl (i == 22), V.bl (i == 23), V.bl (i == 24), V.bl (i == 25), V.bl (i == 26), V.bl (i == 27), V.bl (i == 28), V.bl (i == 29)]) := upd_same
    replace mk := Vz.made_map (Vz.made_map mk t8) z8
    exact q _ r8 B8 X8
end
end Toy
set_option Elab.async false
set_option linter.all false
set_option maxRecDepth 100000
set_option maxHeartbeats 8000000
namespace Toy
open PySem PySem.Spec PyProof.Rows L2
section
variable {P : Program} {w : World} {K : PySem.W.Frag} {mg : Str → Option Value} {base : Heap}
theorem csT_len (T : Txt K mg) : (csT T).length = 30 := rfl
def sp_fam (T : Txt K mg) : Sp := fun vs H Q _ => ∃ (p : Addr) (xs : List V) (fs : List (List (Str × V))), vs = [.ref p] ∧ SqL K H p xs ∧ Vz.MadeAll H xs (csT T) fs ∧ ∀ H', Same H H' → Q (.bl true) H'
theorem ok__law_families_right (T : Txt K mg) : FnOk P w K mg base CX0 2 T.a__law_families_right T.d__law_families_right ["made"] (sp_fam T) := by
  refine T.F__law_families_right.ok sc__law_families_right (fun vs H Q E h => ?_) (fun cdv A outer s H vs Q E hr h => ?_)
  · obtain ⟨p, xs, fs, rfl, _⟩ := h; rfl
  · obtain ⟨p, xs, fs, rfl, hS, hM, q⟩ := h
    have l30 : xs.length = 30 := (Vz.madeAll_len hM).trans (csT_len T)
    refine ⟨_, (pss_cons (ps_for PassesOwn.never rfl (pi_enum (by rfl) T.z_enumerate (pa_cons (pv 0) pa_nil)) (pg_tup rfl (pgs_cons (pg_name (i := 1) sc__law_families_right.nd rfl (by first | exact Or.inl rfl | exact Or.inr rfl)) (pgs_cons (pg_name (i := 2) sc__law_families_right.nd rfl (by first | exact Or.inl rfl | exact Or.inr rfl)) pgs_nil))) (pss_cons (ps_if (PW.pt (pw_or (pt_cmpR (Vz.op_neSame (by have := hr.units; exact this)) (pe_call (ok__law_kinds T) (hr.mono (by decide)) (by rfl) T.g__law_kinds T.F__law_kinds.kp T.b__law_kinds .nil pass0 (pa_cons (pv 2) pa_nil)) (pe_lc (own := [("k", 3)]) (g := gName 3) (by rfl) sc__law_families_right.nd (pi_range1 (by rfl) T.z_range (pa_cons pe_int pa_nil)) (blkOk_by (own := [("k", 3)]) (N := ["made", "at", "e", "k"]) (sc := defScope s__law_families_right) (by decide +kernel)) (fun _ _ _ _ _ => pg_name (i := 3) sc__law_families_right.nd rfl (Or.inl rfl)) (fun _ _ _ _ _ => pts_nil) (fun _ _ _ _ _ => (pe_cmpR op_eq (pv 3) (pv 1) (nomark _)))) (nomark _)) (pw_or1 (pt_not (pt_val (pe_callB Vz.call_isO (by rfl) T.z_isinstance (by decide +kernel) (pa_cons (pv 2) (pa_cons (pe_glob (v := .ref T.C_FeedError) (by rfl) T.g_FeedError rfl) pa_nil)))))))) (pss_one (ps_ret pe_bl)) pss_nil)
        (pss_one (ps_if (PW.pt (pw_or (pt_not (pt_val (pe_callB Vz.call_isO (by rfl) T.z_isinstance (by decide +kernel) (pa_cons (pv 2) (pa_cons (pe_bltn (v := .ty "ValueError") (by rfl) T.z_ValueError (by decide +kernel) rfl) pa_nil))))) (pw_or1 (pt_val (pe_callB Vz.call_isO (by rfl) T.z_isinstance (by decide +kernel) (pa_cons (pv 2) (pa_cons (pe_tup (pa_cons (pe_bltn (v := .ty "LookupError") (by rfl) T.z_LookupError (by decide +kernel) rfl) (pa_cons (pe_bltn (v := .ty "RuntimeError") (by rfl) T.z_RuntimeError (by decide +kernel) rfl) pa_nil))) pa_nil))))))) (pss_one (ps_ret pe_bl)) pss_nil))))
        (pss_one (ps_ret (pe_cmpR op_eq (pe_callB call_len_seq (by rfl) T.z_len PySem.boot_len (pa_cons (pv 0) pa_nil)) pe_int (nomark _))))), ?_⟩
    refine ⟨_, rfl, p, xs, rfl, hS, ?_⟩
    refine for_it (walk_enum (K := K) (a := p) (xs := xs)) (fun i σ H' => ∃ x1 x2 x3, σ = [some (.ref p), x1, x2, x3] ∧ Same H H') ⟨none, none, none, rfl, Same.refl _⟩ ?_ ?_ ?_
    · rintro i σ H' _ ⟨_, _, _, rfl, s1⟩; exact s1.seq hS
    · rintro i x σ H1 H2 hi ⟨x1, x2, x3, rfl, s1⟩ ⟨t, a, b, rfl, nt, rfl, ea, eb⟩
      cases ea
      obtain ⟨C, f, e, hC, hf, rfl, mk⟩ := Vz.madeAll_at hM eb
      have s2 := same_new (o := .tup [.int (i : Nat), .ref e]) nt
      refine ⟨t, _, rfl, SqT.of upd_same, rfl, _, _, rfl, _, _, rfl, rfl, ?_⟩
      refine ⟨_, rfl, ?_⟩
      dsimp only [tNil]
      have s12 := Same.trans s1 s2
      refine ⟨e, i, C, f, rfl, hC, Vz.made_map mk s12, fun H3 r s3 h3 => ?_⟩
      refine ⟨30, rfl, by decide, by decide, fun D nD => ?_⟩
      refine lc_range (lo := 0) (n := (30 : Int).toNat) (fun j H' => H' = upd H3 D (.lst ((List.range j).map fun k => V.bl (i == k)))) rfl ?_ ?_
      · rintro j H4 hj rfl
        refine ⟨rfl, ?_⟩
        refine ⟨_, rfl, _, rfl, rfl, _, upd_same, ?_, ?_⟩
        · rw [List.length_map, List.length_range, sizeLine_eq]
          have : j < 30 := hj
          omega
        · have eb2 : (decide (V.int (0 + (j : Int)) = V.int (i : Int))) = (i == j) := by
            rw [dI, Bool.eq_iff_iff, decide_eq_true_iff, beq_iff_eq]
            omega
          rw [List.range_succ, List.map_append, eb2, upd_upd]
          rfl
      · rintro H4 rfl
        have s4 := same_new (o := .lst (kindL i)) nD
        refine ⟨r, D, kindL i, rfl, rfl, SqL.of (s4 _ _ h3), SqL.of upd_same, (fun v hv => by obtain ⟨o, _, rfl⟩ := List.mem_map.mp hv; exact .inl ⟨rfl, by show (_ == _) = true; simp⟩), _, rfl, ?_⟩
        obtain ⟨xc, k1, k2, k3, _⟩ := Vz.famB_ok T.fam hC
        have s14 := Same.trans (Same.trans s12 s3) s4
        refine iteF ?_
        refine ⟨_, rfl, _, C, _, f, _, rfl, xc, Vz.made_map mk s14, .inl ⟨.ref T.C_FeedError, fun u r => r, k1⟩, ?_⟩
        refine ⟨_, rfl, ?_⟩
        refine iteF ?_
        refine ⟨_, rfl, _, C, _, f, _, rfl, xc, Vz.made_map mk s14, .inl ⟨.type "ValueError", fun u r => r, k2⟩, ?_⟩
        refine ⟨_, rfl, ?_⟩
        refine iteF ?_
        refine ⟨_, rfl, (by show 2 ≤ sizeLine; decide), fun pt npt => ?_⟩
        have s5 := same_new (o := .tup [.ty "LookupError", .ty "RuntimeError"]) npt
        have s15 := Same.trans s14 s5
        refine ⟨_, C, .ref pt, f, _, rfl, xc, Vz.made_map mk s15, .inr ⟨pt, [.ty "LookupError", .ty "RuntimeError"], [.type "LookupError", .type "RuntimeError"], rfl, SqT.of upd_same, fun us r => ?_, k3⟩, ?_⟩
        · cases r with
          | cons h1 r2 =>
            cases r2 with
            | cons h2 r3 =>
              cases r3
              have e1 : _ = Value.type "LookupError" := h1
              have e2 : _ = Value.type "RuntimeError" := h2
              rw [e1, e2]
        · refine ⟨_, rfl, ?_⟩
          refine iteF ?_
          exact ⟨_, _, _, rfl, s15⟩
    · rintro σ H1 ⟨x1, x2, x3, rfl, s1⟩
      refine ⟨_, rfl, p, xs, rfl, .inl (s1.seq hS), rfl, ?_⟩
      have e : decide (V.int (xs.length : Int) = V.int 30) = true := by rw [l30]; rfl
      have fin := q _ s1
      rw [← e] at fin
      exact fin
end
end Toy
set_option Elab.async false
set_option linter.all false
set_option maxRecDepth 100000
set_option maxHeartbeats 8000000
namespace Toy
open PySem PySem.Spec PyProof.Rows L2
section
variable {P : Program} {w : World} {K : PySem.W.Frag} {mg : Str → Option Value} {base : Heap}
/-- what the law tells of the fields -/
def fldL (v y : V) : List V := List.replicate 28 v ++ [v, y, v, y]
def sp_fld (T : Txt K mg) : Sp := fun vs H Q _ => ∃ (p : Addr) (xs : List V) (v y : V), vs = [.ref p] ∧ SqL K H p xs ∧ Vz.MadeAll H xs (csT T) (fsT v y) ∧ ∀ H' r, Same H H' → H' r = some (.lst (fldL v y)) → r ≠ sysModules → Q (.ref r) H'
theorem ok__law_fields (T : Txt K mg) : FnOk P w K mg base CX0 1 T.a__law_fields T.d__law_fields ["made"] (sp_fld T) := by
  refine T.F__law_fields.ok sc__law_fields (fun vs H Q E h => ?_) (fun cdv A outer s H vs Q E hr h => ?_)
  · obtain ⟨p, xs, v, y, rfl, _⟩ := h; rfl
  · obtain ⟨p, xs, v, y, rfl, hS, hM, q⟩ := h
    have fam : ∀ {i : Nat} {C : Addr}, (csT T)[i]? = some C → Vz.XcF K C := fun h => (Vz.famB_ok T.fam h).1
    obtain ⟨e1, x1, rfl, m1, hM⟩ := Vz.madeAll_cons hM
    obtain ⟨e2, x2, rfl, m2, hM⟩ := Vz.madeAll_cons hM
    obtain ⟨e3, x3, rfl, m3, hM⟩ := Vz.madeAll_cons hM
    obtain ⟨e4, x4, rfl, m4, hM⟩ := Vz.madeAll_cons hM
    obtain ⟨e5, x5, rfl, m5, hM⟩ := Vz.madeAll_cons hM
    obtain ⟨e6, x6, rfl, m6, hM⟩ := Vz.madeAll_cons hM
    obtain ⟨e7, x7, rfl, m7, hM⟩ := Vz.madeAll_cons hM
    obtain ⟨e8, x8, rfl, m8, hM⟩ := Vz.madeAll_cons hM
    obtain ⟨e9, x9, rfl, m9, hM⟩ := Vz.madeAll_cons hM
    obtain ⟨e10, x10, rfl, m10, hM⟩ := Vz.madeAll_cons hM
    obtain ⟨e11, x11, rfl, m11, hM⟩ := Vz.madeAll_cons hM
    obtain ⟨e12, x12, rfl, m12, hM⟩ := Vz.madeAll_cons hM
    obtain ⟨e13, x13, rfl, m13, hM⟩ := Vz.madeAll_cons hM
    obtain ⟨e14, x14, rfl, m14, hM⟩ := Vz.madeAll_cons hM
    obtain ⟨e15, x15, rfl, m15, hM⟩ := Vz.madeAll_cons hM
    obtain ⟨e16, x16, rfl, m16, hM⟩ := Vz.madeAll_cons hM
    obtain ⟨e17, x17, rfl, m17, hM⟩ := Vz.madeAll_cons hM
    obtain ⟨e18, x18, rfl, m18, hM⟩ := Vz.madeAll_cons hM
    obtain ⟨e19, x19, rfl, m19, hM⟩ := Vz.madeAll_cons hM
    obtain ⟨e20, x20, rfl, m20, hM⟩ := Vz.madeAll_cons hM
    obtain ⟨e21, x21, rfl, m21, hM⟩ := Vz.madeAll_cons hM
    obtain ⟨e22, x22, rfl, m22, hM⟩ := Vz.madeAll_cons hM
    obtain ⟨e23, x23, rfl, m23, hM⟩ := Vz.madeAll_cons hM
    obtain ⟨e24, x24, rfl, m24, hM⟩ := Vz.madeAll_cons hM
    obtain ⟨e25, x25, rfl, m25, hM⟩ := Vz.madeAll_cons hM
    obtain ⟨e26, x26, rfl, m26, hM⟩ := Vz.madeAll_cons hM
    obtain ⟨e27, x27, rfl, m27, hM⟩ := Vz.madeAll_cons hM
    obtain ⟨e28, x28, rfl, m28, hM⟩ := Vz.madeAll_cons hM
    obtain ⟨e29, x29, rfl, m29, hM⟩ := Vz.madeAll_cons hM
    obtain ⟨e30, x30, rfl, m30, hM⟩ := Vz.madeAll_cons hM
    obtain rfl := Vz.madeAll_nil hM
    clear hM
    have f1 : Vz.XcF K T.c_BadMoment.C := fam (i := 0) rfl
    have f2 : Vz.XcF K T.c_BadZone.C := fam (i := 1) rfl
    have f3 : Vz.XcF K T.c_BadDate.C := fam (i := 2) rfl
    have f4 : Vz.XcF K T.c_BadAddress.C := fam (i := 3) rfl
    have f5 : Vz.XcF K T.c_BadThing.C := fam (i := 4) rfl
    have f6 : Vz.XcF K T.c_BadDevice.C := fam (i := 5) rfl
    have f7 : Vz.XcF K T.c_NoEntry.C := fam (i := 6) rfl
    have f8 : Vz.XcF K T.c_Taken.C := fam (i := 7) rfl
    have f9 : Vz.XcF K T.c_NoItem.C := fam (i := 8) rfl
    have f10 : Vz.XcF K T.c_BadFolder.C := fam (i := 9) rfl
    have f11 : Vz.XcF K T.c_BadVector.C := fam (i := 10) rfl
    have f12 : Vz.XcF K T.c_BadEntry.C := fam (i := 11) rfl
    have f13 : Vz.XcF K T.c_BadNumber.C := fam (i := 12) rfl
    have f14 : Vz.XcF K T.c_BadWorld.C := fam (i := 13) rfl
    have f15 : Vz.XcF K T.c_BadTrouble.C := fam (i := 14) rfl
    have f16 : Vz.XcF K T.c_BadShelf.C := fam (i := 15) rfl
    have f17 : Vz.XcF K T.c_NoSighting.C := fam (i := 16) rfl
    have f18 : Vz.XcF K T.c_BadLibrary.C := fam (i := 17) rfl
    have f19 : Vz.XcF K T.c_BadWindow.C := fam (i := 18) rfl
    have f20 : Vz.XcF K T.c_BadOffer.C := fam (i := 19) rfl
    have f21 : Vz.XcF K T.c_BadLog.C := fam (i := 20) rfl
    have f22 : Vz.XcF K T.c_NoAnswer.C := fam (i := 21) rfl
    have f23 : Vz.XcF K T.c_BadBundle.C := fam (i := 22) rfl
    have f24 : Vz.XcF K T.c_TooMany.C := fam (i := 23) rfl
    have f25 : Vz.XcF K T.c_Torn.C := fam (i := 24) rfl
    have f26 : Vz.XcF K T.c_NoNote.C := fam (i := 25) rfl
    have f27 : Vz.XcF K T.c_BadQuery.C := fam (i := 26) rfl
    have f28 : Vz.XcF K T.c_Gap.C := fam (i := 27) rfl
    have f29 : Vz.XcF K T.c_BadPage.C := fam (i := 28) rfl
    have f30 : Vz.XcF K T.c_BadText.C := fam (i := 29) rfl
    refine ⟨_, (pss_cons (ps_set (i := 1) sc__law_fields.nd rfl (by first | exact Or.inl rfl | exact Or.inr rfl) (pe_op Vz.op_catN (pe_op Vz.op_catN (pe_lc (own := [("e", 2)]) (g := gName 2) (by rfl) sc__law_fields.nd (pi_list (pe_slice sl_list (pv 0) po_none (po_some pe_int))) (blkOk_by (own := [("e", 2)]) (N := ["made", "told", "e"]) (sc := defScope s__law_fields) (by decide +kernel)) (fun _ _ _ _ _ => pg_name (i := 2) sc__law_fields.nd rfl (Or.inl rfl)) (fun _ _ _ _ _ => pts_nil) (fun _ _ _ _ _ => (Vz.pe_xoK (K := K) rfl (pv 2)))) (pe_lc (own := [("e", 2)]) (g := gName 2) (by rfl) sc__law_fields.nd (pi_list (pe_slice sl_list (pv 0) (po_some pe_int) (po_some pe_int))) (blkOk_by (own := [("e", 2)]) (N := ["made", "told", "e"]) (sc := defScope s__law_fields) (by decide +kernel)) (fun _ _ _ _ _ => pg_name (i := 2) sc__law_fields.nd rfl (Or.inl rfl)) (fun _ _ _ _ _ => pts_nil) (fun _ _ _ _ _ => (Vz.pe_xoK (K := K) rfl (pv 2))))) (pe_lc (own := [("e", 2)]) (g := gName 2) (by rfl) sc__law_fields.nd (pi_list (pe_slice sl_list (pv 0) (po_some pe_int) (po_some pe_int))) (blkOk_by (own := [("e", 2)]) (N := ["made", "told", "e"]) (sc := defScope s__law_fields) (by decide +kernel)) (fun _ _ _ _ _ => pg_name (i := 2) sc__law_fields.nd rfl (Or.inl rfl)) (fun _ _ _ _ _ => pts_nil) (fun _ _ _ _ _ => (Vz.pe_xoK (K := K) rfl (pv 2))))))
        (pss_cons (ps_set (i := 1) sc__law_fields.nd rfl (by first | exact Or.inl rfl | exact Or.inr rfl) (pe_op Vz.op_catN (pv 1) (Vz.pe_lstN (pa_cons (Vz.pe_xo (pe_ix ix_list (pv 0) pe_int (fun _ _ => rfl))) (pa_cons (Vz.pe_xo (pe_ix ix_list (pv 0) pe_int (fun _ _ => rfl))) (pa_cons (Vz.pe_xo (pe_ix ix_list (pv 0) pe_int (fun _ _ => rfl))) (pa_cons (Vz.pe_xo (pe_ix ix_list (pv 0) pe_int (fun _ _ => rfl))) (pa_cons (Vz.pe_xo (pe_ix ix_list (pv 0) pe_int (fun _ _ => rfl))) pa_nil))))))))
        (pss_one (ps_ret (pe_op Vz.op_catN (pv 1) (Vz.pe_lstN (pa_cons (Vz.pe_xo (pe_ix ix_list (pv 0) pe_int (fun _ _ => rfl))) (pa_cons (Vz.pe_xo (pe_ix ix_list (pv 0) pe_int (fun _ _ => rfl))) (pa_cons (Vz.pe_xo (pe_ix ix_list (pv 0) pe_int (fun _ _ => rfl))) (pa_cons (Vz.pe_xo (pe_ix ix_list (pv 0) pe_int (fun _ _ => rfl))) pa_nil)))))))))), ?_⟩
    refine ⟨_, rfl, ?_⟩
    dsimp only [tNoPart]
    refine ⟨11, rfl, p, _, rfl, (Same.refl H).seq hS, fun q0 nq0 => ?_⟩
    have ec0 : cutV [V.ref e1, V.ref e2, V.ref e3, V.ref e4, V.ref e5, V.ref e6, V.ref e7, V.ref e8, V.ref e9, V.ref e10, V.ref e11, V.ref e12, V.ref e13, V.ref e14, V.ref e15, V.ref e16, V.ref e17, V.ref e18, V.ref e19, V.ref e20, V.ref e21, V.ref e22, V.ref e23, V.ref e24, V.ref e25, V.ref e26, V.ref e27, V.ref e28, V.ref e29, V.ref e30] none (some 11) = [V.ref e1, V.ref e2, V.ref e3, V.ref e4, V.ref e5, V.ref e6, V.ref e7, V.ref e8, V.ref e9, V.ref e10, V.ref e11] := rfl
    rw [ec0]
    have tq0 := same_new (H := H) (o := .lst [V.ref e1, V.ref e2, V.ref e3, V.ref e4, V.ref e5, V.ref e6, V.ref e7, V.ref e8, V.ref e9, V.ref e10, V.ref e11]) nq0
    have sq0 : Same H (upd H q0 (.lst [V.ref e1, V.ref e2, V.ref e3, V.ref e4, V.ref e5, V.ref e6, V.ref e7, V.ref e8, V.ref e9, V.ref e10, V.ref e11])) := Same.trans (Same.refl H) tq0
    have hq0 : (upd H q0 (.lst [V.ref e1, V.ref e2, V.ref e3, V.ref e4, V.ref e5, V.ref e6, V.ref e7, V.ref e8, V.ref e9, V.ref e10, V.ref e11])) q0 = some (.lst [V.ref e1, V.ref e2, V.ref e3, V.ref e4, V.ref e5, V.ref e6, V.ref e7, V.ref e8, V.ref e9, V.ref e10, V.ref e11]) := upd_same
    have pa0 : Vz.PartAll K (upd H q0 (.lst [V.ref e1, V.ref e2, V.ref e3, V.ref e4, V.ref e5, V.ref e6, V.ref e7, V.ref e8, V.ref e9, V.ref e10, V.ref e11])) "given" v [V.ref e1, V.ref e2, V.ref e3, V.ref e4, V.ref e5, V.ref e6, V.ref e7, V.ref e8, V.ref e9, V.ref e10, V.ref e11] := ⟨⟨e1, _, _, rfl, f1, T.c_BadMoment.n, Vz.made_map m1 sq0, rfl⟩, ⟨e2, _, _, rfl, f2, T.c_BadZone.n, Vz.made_map m2 sq0, rfl⟩, ⟨e3, _, _, rfl, f3, T.c_BadDate.n, Vz.made_map m3 sq0, rfl⟩, ⟨e4, _, _, rfl, f4, T.c_BadAddress.n, Vz.made_map m4 sq0, rfl⟩, ⟨e5, _, _, rfl, f5, T.c_BadThing.n, Vz.made_map m5 sq0, rfl⟩, ⟨e6, _, _, rfl, f6, T.c_BadDevice.n, Vz.made_map m6 sq0, rfl⟩, ⟨e7, _, _, rfl, f7, T.c_NoEntry.n, Vz.made_map m7 sq0, rfl⟩, ⟨e8, _, _, rfl, f8, T.c_Taken.n, Vz.made_map m8 sq0, rfl⟩, ⟨e9, _, _, rfl, f9, T.c_NoItem.n, Vz.made_map m9 sq0, rfl⟩, ⟨e10, _, _, rfl, f10, T.c_BadFolder.n, Vz.made_map m10 sq0, rfl⟩, ⟨e11, _, _, rfl, f11, T.c_BadVector.n, Vz.made_map m11 sq0, rfl⟩, True.intro⟩
    refine ⟨q0, rfl, ⟨_, SqL.of hq0⟩, fun D0 nD0 => ?_⟩
    refine lc_list (xs := [V.ref e1, V.ref e2, V.ref e3, V.ref e4, V.ref e5, V.ref e6, V.ref e7, V.ref e8, V.ref e9, V.ref e10, V.ref e11]) (fun i H1 => H1 = upd (upd H q0 (.lst [V.ref e1, V.ref e2, V.ref e3, V.ref e4, V.ref e5, V.ref e6, V.ref e7, V.ref e8, V.ref e9, V.ref e10, V.ref e11])) D0 (.lst (List.replicate i v))) rfl ?_ ?_ ?_
    · rintro i H1 _ rfl; exact SqL.of ((same_new nD0) _ _ hq0)
    · rintro i x H1 hx rfl
      obtain ⟨e, C, fs, rfl, xc, no, mk, lk⟩ := Vz.partAll_at pa0 hx
      have lt := (List.getElem?_eq_some_iff.mp hx).1
      have lt2 : i < 11 := lt
      refine ⟨rfl, ?_⟩
      refine ⟨_, rfl, e, C, fs, v, rfl, xc, no, Vz.made_map mk (same_new nD0), lk, _, upd_same, (by rw [List.length_replicate, sizeLine_eq]; omega), ?_⟩
      rw [upd_upd, ← List.replicate_succ']
    rintro H1 rfl
    have tD0 := same_new (H := (upd H q0 (.lst [V.ref e1, V.ref e2, V.ref e3, V.ref e4, V.ref e5, V.ref e6, V.ref e7, V.ref e8, V.ref e9, V.ref e10, V.ref e11]))) (o := .lst [v, v, v, v, v, v, v, v, v, v, v]) nD0
    have sD0 : Same H (upd (upd H q0 (.lst [V.ref e1, V.ref e2, V.ref e3, V.ref e4, V.ref e5, V.ref e6, V.ref e7, V.ref e8, V.ref e9, V.ref e10, V.ref e11])) D0 (.lst [v, v, v, v, v, v, v, v, v, v, v])) := Same.trans sq0 tD0
    have hD0 : (upd (upd H q0 (.lst [V.ref e1, V.ref e2, V.ref e3, V.ref e4, V.ref e5, V.ref e6, V.ref e7, V.ref e8, V.ref e9, V.ref e10, V.ref e11])) D0 (.lst [v, v, v, v, v, v, v, v, v, v, v])) D0 = some (.lst [v, v, v, v, v, v, v, v, v, v, v]) := upd_same
    clear pa0 hq0
    refine ⟨_, rfl, ?_⟩
    refine ⟨11, rfl, 13, rfl, p, _, rfl, sD0.seq hS, fun q1 nq1 => ?_⟩
    have ec1 : cutV [V.ref e1, V.ref e2, V.ref e3, V.ref e4, V.ref e5, V.ref e6, V.ref e7, V.ref e8, V.ref e9, V.ref e10, V.ref e11, V.ref e12, V.ref e13, V.ref e14, V.ref e15, V.ref e16, V.ref e17, V.ref e18, V.ref e19, V.ref e20, V.ref e21, V.ref e22, V.ref e23, V.ref e24, V.ref e25, V.ref e26, V.ref e27, V.ref e28, V.ref e29, V.ref e30] (some 11) (some 13) = [V.ref e12, V.ref e13] := rfl
    rw [ec1]
    have tq1 := same_new (H := (upd (upd H q0 (.lst [V.ref e1, V.ref e2, V.ref e3, V.ref e4, V.ref e5, V.ref e6, V.ref e7, V.ref e8, V.ref e9, V.ref e10, V.ref e11])) D0 (.lst [v, v, v, v, v, v, v, v, v, v, v]))) (o := .lst [V.ref e12, V.ref e13]) nq1
    have sq1 : Same H (upd (upd (upd H q0 (.lst [V.ref e1, V.ref e2, V.ref e3, V.ref e4, V.ref e5, V.ref e6, V.ref e7, V.ref e8, V.ref e9, V.ref e10, V.ref e11])) D0 (.lst [v, v, v, v, v, v, v, v, v, v, v])) q1 (.lst [V.ref e12, V.ref e13])) := Same.trans sD0 tq1
    have hq1 : (upd (upd (upd H q0 (.lst [V.ref e1, V.ref e2, V.ref e3, V.ref e4, V.ref e5, V.ref e6, V.ref e7, V.ref e8, V.ref e9, V.ref e10, V.ref e11])) D0 (.lst [v, v, v, v, v, v, v, v, v, v, v])) q1 (.lst [V.ref e12, V.ref e13])) q1 = some (.lst [V.ref e12, V.ref e13]) := upd_same
    have pa1 : Vz.PartAll K (upd (upd (upd H q0 (.lst [V.ref e1, V.ref e2, V.ref e3, V.ref e4, V.ref e5, V.ref e6, V.ref e7, V.ref e8, V.ref e9, V.ref e10, V.ref e11])) D0 (.lst [v, v, v, v, v, v, v, v, v, v, v])) q1 (.lst [V.ref e12, V.ref e13])) "field" v [V.ref e12, V.ref e13] := ⟨⟨e12, _, _, rfl, f12, T.c_BadEntry.n, Vz.made_map m12 sq1, rfl⟩, ⟨e13, _, _, rfl, f13, T.c_BadNumber.n, Vz.made_map m13 sq1, rfl⟩, True.intro⟩
    refine ⟨q1, rfl, ⟨_, SqL.of hq1⟩, fun D1 nD1 => ?_⟩
    refine lc_list (xs := [V.ref e12, V.ref e13]) (fun i H1 => H1 = upd (upd (upd (upd H q0 (.lst [V.ref e1, V.ref e2, V.ref e3, V.ref e4, V.ref e5, V.ref e6, V.ref e7, V.ref e8, V.ref e9, V.ref e10, V.ref e11])) D0 (.lst [v, v, v, v, v, v, v, v, v, v, v])) q1 (.lst [V.ref e12, V.ref e13])) D1 (.lst (List.replicate i v))) rfl ?_ ?_ ?_
    · rintro i H1 _ rfl; exact SqL.of ((same_new nD1) _ _ hq1)
    · rintro i x H1 hx rfl
      obtain ⟨e, C, fs, rfl, xc, no, mk, lk⟩ := Vz.partAll_at pa1 hx
      have lt := (List.getElem?_eq_some_iff.mp hx).1
      have lt2 : i < 2 := lt
      refine ⟨rfl, ?_⟩
      refine ⟨_, rfl, e, C, fs, v, rfl, xc, no, Vz.made_map mk (same_new nD1), lk, _, upd_same, (by rw [List.length_replicate, sizeLine_eq]; omega), ?_⟩
      rw [upd_upd, ← List.replicate_succ']
    rintro H1 rfl
    have tD1 := same_new (H := (upd (upd (upd H q0 (.lst [V.ref e1, V.ref e2, V.ref e3, V.ref e4, V.ref e5, V.ref e6, V.ref e7, V.ref e8, V.ref e9, V.ref e10, V.ref e11])) D0 (.lst [v, v, v, v, v, v, v, v, v, v, v])) q1 (.lst [V.ref e12, V.ref e13]))) (o := .lst [v, v]) nD1
    have sD1 : Same H (upd (upd (upd (upd H q0 (.lst [V.ref e1, V.ref e2, V.ref e3, V.ref e4, V.ref e5, V.ref e6, V.ref e7, V.ref e8, V.ref e9, V.ref e10, V.ref e11])) D0 (.lst [v, v, v, v, v, v, v, v, v, v, v])) q1 (.lst [V.ref e12, V.ref e13])) D1 (.lst [v, v])) := Same.trans sq1 tD1
    have hD1 : (upd (upd (upd (upd H q0 (.lst [V.ref e1, V.ref e2, V.ref e3, V.ref e4, V.ref e5, V.ref e6, V.ref e7, V.ref e8, V.ref e9, V.ref e10, V.ref e11])) D0 (.lst [v, v, v, v, v, v, v, v, v, v, v])) q1 (.lst [V.ref e12, V.ref e13])) D1 (.lst [v, v])) D1 = some (.lst [v, v]) := upd_same
    clear pa1 hq1
    refine ⟨_, _, [v, v, v, v, v, v, v, v, v, v, v], [v, v], rfl, rfl, SqL.of (tD1 _ _ (tq1 _ _ hD0)), SqL.of hD1, (by show 11 + 2 ≤ sizeLine; decide), fun ra nra nsa => ?_⟩
    have tra := same_new (H := (upd (upd (upd (upd H q0 (.lst [V.ref e1, V.ref e2, V.ref e3, V.ref e4, V.ref e5, V.ref e6, V.ref e7, V.ref e8, V.ref e9, V.ref e10, V.ref e11])) D0 (.lst [v, v, v, v, v, v, v, v, v, v, v])) q1 (.lst [V.ref e12, V.ref e13])) D1 (.lst [v, v]))) (o := .lst [v, v, v, v, v, v, v, v, v, v, v, v, v]) nra
    have sra : Same H (upd (upd (upd (upd (upd H q0 (.lst [V.ref e1, V.ref e2, V.ref e3, V.ref e4, V.ref e5, V.ref e6, V.ref e7, V.ref e8, V.ref e9, V.ref e10, V.ref e11])) D0 (.lst [v, v, v, v, v, v, v, v, v, v, v])) q1 (.lst [V.ref e12, V.ref e13])) D1 (.lst [v, v])) ra (.lst [v, v, v, v, v, v, v, v, v, v, v, v, v])) := Same.trans sD1 tra
    have hra : (upd (upd (upd (upd (upd H q0 (.lst [V.ref e1, V.ref e2, V.ref e3, V.ref e4, V.ref e5, V.ref e6, V.ref e7, V.ref e8, V.ref e9, V.ref e10, V.ref e11])) D0 (.lst [v, v, v, v, v, v, v, v, v, v, v])) q1 (.lst [V.ref e12, V.ref e13])) D1 (.lst [v, v])) ra (.lst [v, v, v, v, v, v, v, v, v, v, v, v, v])) ra = some (.lst [v, v, v, v, v, v, v, v, v, v, v, v, v]) := upd_same
    refine ⟨_, rfl, ?_⟩
    refine ⟨13, rfl, 23, rfl, p, _, rfl, sra.seq hS, fun q2 nq2 => ?_⟩
    have ec2 : cutV [V.ref e1, V.ref e2, V.ref e3, V.ref e4, V.ref e5, V.ref e6, V.ref e7, V.ref e8, V.ref e9, V.ref e10, V.ref e11, V.ref e12, V.ref e13, V.ref e14, V.ref e15, V.ref e16, V.ref e17, V.ref e18, V.ref e19, V.ref e20, V.ref e21, V.ref e22, V.ref e23, V.ref e24, V.ref e25, V.ref e26, V.ref e27, V.ref e28, V.ref e29, V.ref e30] (some 13) (some 23) = [V.ref e14, V.ref e15, V.ref e16, V.ref e17, V.ref e18, V.ref e19, V.ref e20, V.ref e21, V.ref e22, V.ref e23] := rfl
    rw [ec2]
    have tq2 := same_new (H := (upd (upd (upd (upd (upd H q0 (.lst [V.ref e1, V.ref e2, V.ref e3, V.ref e4, V.ref e5, V.ref e6, V.ref e7, V.ref e8, V.ref e9, V.ref e10, V.ref e11])) D0 (.lst [v, v, v, v, v, v, v, v, v, v, v])) q1 (.lst [V.ref e12, V.ref e13])) D1 (.lst [v, v])) ra (.lst [v, v, v, v, v, v, v, v, v, v, v, v, v]))) (o := .lst [V.ref e14, V.ref e15, V.ref e16, V.ref e17, V.ref e18, V.ref e19, V.ref e20, V.ref e21, V.ref e22, V.ref e23]) nq2
    have sq2 : Same H (upd (upd (upd (upd (upd (upd H q0 (.lst [V.ref e1, V.ref e2, V.ref e3, V.ref e4, V.ref e5, V.ref e6, V.ref e7, V.ref e8, V.ref e9, V.ref e10, V.ref e11])) D0 (.lst [v, v, v, v, v, v, v, v, v, v, v])) q1 (.lst [V.ref e12, V.ref e13])) D1 (.lst [v, v])) ra (.lst [v, v, v, v, v, v, v, v, v, v, v, v, v])) q2 (.lst [V.ref e14, V.ref e15, V.ref e16, V.ref e17, V.ref e18, V.ref e19, V.ref e20, V.ref e21, V.ref e22, V.ref e23])) := Same.trans sra tq2
    have hq2 : (upd (upd (upd (upd (upd (upd H q0 (.lst [V.ref e1, V.ref e2, V.ref e3, V.ref e4, V.ref e5, V.ref e6, V.ref e7, V.ref e8, V.ref e9, V.ref e10, V.ref e11])) D0 (.lst [v, v, v, v, v, v, v, v, v, v, v])) q1 (.lst [V.ref e12, V.ref e13])) D1 (.lst [v, v])) ra (.lst [v, v, v, v, v, v, v, v, v, v, v, v, v])) q2 (.lst [V.ref e14, V.ref e15, V.ref e16, V.ref e17, V.ref e18, V.ref e19, V.ref e20, V.ref e21, V.ref e22, V.ref e23])) q2 = some (.lst [V.ref e14, V.ref e15, V.ref e16, V.ref e17, V.ref e18, V.ref e19, V.ref e20, V.ref e21, V.ref e22, V.ref e23]) := upd_same
    have pa2 : Vz.PartAll K (upd (upd (upd (upd (upd (upd H q0 (.lst [V.ref e1, V.ref e2, V.ref e3, V.ref e4, V.ref e5, V.ref e6, V.ref e7, V.ref e8, V.ref e9, V.ref e10, V.ref e11])) D0 (.lst [v, v, v, v, v, v, v, v, v, v, v])) q1 (.lst [V.ref e12, V.ref e13])) D1 (.lst [v, v])) ra (.lst [v, v, v, v, v, v, v, v, v, v, v, v, v])) q2 (.lst [V.ref e14, V.ref e15, V.ref e16, V.ref e17, V.ref e18, V.ref e19, V.ref e20, V.ref e21, V.ref e22, V.ref e23])) "number" v [V.ref e14, V.ref e15, V.ref e16, V.ref e17, V.ref e18, V.ref e19, V.ref e20, V.ref e21, V.ref e22, V.ref e23] := ⟨⟨e14, _, _, rfl, f14, T.c_BadWorld.n, Vz.made_map m14 sq2, rfl⟩, ⟨e15, _, _, rfl, f15, T.c_BadTrouble.n, Vz.made_map m15 sq2, rfl⟩, ⟨e16, _, _, rfl, f16, T.c_BadShelf.n, Vz.made_map m16 sq2, rfl⟩, ⟨e17, _, _, rfl, f17, T.c_NoSighting.n, Vz.made_map m17 sq2, rfl⟩, ⟨e18, _, _, rfl, f18, T.c_BadLibrary.n, Vz.made_map m18 sq2, rfl⟩, ⟨e19, _, _, rfl, f19, T.c_BadWindow.n, Vz.made_map m19 sq2, rfl⟩, ⟨e20, _, _, rfl, f20, T.c_BadOffer.n, Vz.made_map m20 sq2, rfl⟩, ⟨e21, _, _, rfl, f21, T.c_BadLog.n, Vz.made_map m21 sq2, rfl⟩, ⟨e22, _, _, rfl, f22, T.c_NoAnswer.n, Vz.made_map m22 sq2, rfl⟩, ⟨e23, _, _, rfl, f23, T.c_BadBundle.n, Vz.made_map m23 sq2, rfl⟩, True.intro⟩
    refine ⟨q2, rfl, ⟨_, SqL.of hq2⟩, fun D2 nD2 => ?_⟩
    refine lc_list (xs := [V.ref e14, V.ref e15, V.ref e16, V.ref e17, V.ref e18, V.ref e19, V.ref e20, V.ref e21, V.ref e22, V.ref e23]) (fun i H1 => H1 = upd (upd (upd (upd (upd (upd (upd H q0 (.lst [V.ref e1, V.ref e2, V.ref e3, V.ref e4, V.ref e5, V.ref e6, V.ref e7, V.ref e8, V.ref e9, V.ref e10, V.ref e11])) D0 (.lst [v, v, v, v, v, v, v, v, v, v, v])) q1 (.lst [V.ref e12, V.ref e13])) D1 (.lst [v, v])) ra (.lst [v, v, v, v, v, v, v, v, v, v, v, v, v])) q2 (.lst [V.ref e14, V.ref e15, V.ref e16, V.ref e17, V.ref e18, V.ref e19, V.ref e20, V.ref e21, V.ref e22, V.ref e23])) D2 (.lst (List.replicate i v))) rfl ?_ ?_ ?_
    · rintro i H1 _ rfl; exact SqL.of ((same_new nD2) _ _ hq2)
    · rintro i x H1 hx rfl
      obtain ⟨e, C, fs, rfl, xc, no, mk, lk⟩ := Vz.partAll_at pa2 hx
      have lt := (List.getElem?_eq_some_iff.mp hx).1
      have lt2 : i < 10 := lt
      refine ⟨rfl, ?_⟩
      refine ⟨_, rfl, e, C, fs, v, rfl, xc, no, Vz.made_map mk (same_new nD2), lk, _, upd_same, (by rw [List.length_replicate, sizeLine_eq]; omega), ?_⟩
      rw [upd_upd, ← List.replicate_succ']
    rintro H1 rfl
    have tD2 := same_new (H := (upd (upd (upd (upd (upd (upd H q0 (.lst [V.ref e1, V.ref e2, V.ref e3, V.ref e4, V.ref e5, V.ref e6, V.ref e7, V.ref e8, V.ref e9, V.ref e10, V.ref e11])) D0 (.lst [v, v, v, v, v, v, v, v, v, v, v])) q1 (.lst [V.ref e12, V.ref e13])) D1 (.lst [v, v])) ra (.lst [v, v, v, v, v, v, v, v, v, v, v, v, v])) q2 (.lst [V.ref e14, V.ref e15, V.ref e16, V.ref e17, V.ref e18, V.ref e19, V.ref e20, V.ref e21, V.ref e22, V.ref e23]))) (o := .lst [v, v, v, v, v, v, v, v, v, v]) nD2
    have sD2 : Same H (upd (upd (upd (upd (upd (upd (upd H q0 (.lst [V.ref e1, V.ref e2, V.ref e3, V.ref e4, V.ref e5, V.ref e6, V.ref e7, V.ref e8, V.ref e9, V.ref e10, V.ref e11])) D0 (.lst [v, v, v, v, v, v, v, v, v, v, v])) q1 (.lst [V.ref e12, V.ref e13])) D1 (.lst [v, v])) ra (.lst [v, v, v, v, v, v, v, v, v, v, v, v, v])) q2 (.lst [V.ref e14, V.ref e15, V.ref e16, V.ref e17, V.ref e18, V.ref e19, V.ref e20, V.ref e21, V.ref e22, V.ref e23])) D2 (.lst [v, v, v, v, v, v, v, v, v, v])) := Same.trans sq2 tD2
    have hD2 : (upd (upd (upd (upd (upd (upd (upd H q0 (.lst [V.ref e1, V.ref e2, V.ref e3, V.ref e4, V.ref e5, V.ref e6, V.ref e7, V.ref e8, V.ref e9, V.ref e10, V.ref e11])) D0 (.lst [v, v, v, v, v, v, v, v, v, v, v])) q1 (.lst [V.ref e12, V.ref e13])) D1 (.lst [v, v])) ra (.lst [v, v, v, v, v, v, v, v, v, v, v, v, v])) q2 (.lst [V.ref e14, V.ref e15, V.ref e16, V.ref e17, V.ref e18, V.ref e19, V.ref e20, V.ref e21, V.ref e22, V.ref e23])) D2 (.lst [v, v, v, v, v, v, v, v, v, v])) D2 = some (.lst [v, v, v, v, v, v, v, v, v, v]) := upd_same
    clear pa2 hq2
    refine ⟨_, _, [v, v, v, v, v, v, v, v, v, v, v, v, v], [v, v, v, v, v, v, v, v, v, v], rfl, rfl, SqL.of (tD2 _ _ (tq2 _ _ hra)), SqL.of hD2, (by show 13 + 10 ≤ sizeLine; decide), fun rb nrb nsb => ?_⟩
    have trb := same_new (H := (upd (upd (upd (upd (upd (upd (upd H q0 (.lst [V.ref e1, V.ref e2, V.ref e3, V.ref e4, V.ref e5, V.ref e6, V.ref e7, V.ref e8, V.ref e9, V.ref e10, V.ref e11])) D0 (.lst [v, v, v, v, v, v, v, v, v, v, v])) q1 (.lst [V.ref e12, V.ref e13])) D1 (.lst [v, v])) ra (.lst [v, v, v, v, v, v, v, v, v, v, v, v, v])) q2 (.lst [V.ref e14, V.ref e15, V.ref e16, V.ref e17, V.ref e18, V.ref e19, V.ref e20, V.ref e21, V.ref e22, V.ref e23])) D2 (.lst [v, v, v, v, v, v, v, v, v, v]))) (o := .lst [v, v, v, v, v, v, v, v, v, v, v, v, v, v, v, v, v, v, v, v, v, v, v]) nrb
    have srb : Same H (upd (upd (upd (upd (upd (upd (upd (upd H q0 (.lst [V.ref e1, V.ref e2, V.ref e3, V.ref e4, V.ref e5, V.ref e6, V.ref e7, V.ref e8, V.ref e9, V.ref e10, V.ref e11])) D0 (.lst [v, v, v, v, v, v, v, v, v, v, v])) q1 (.lst [V.ref e12, V.ref e13])) D1 (.lst [v, v])) ra (.lst [v, v, v, v, v, v, v, v, v, v, v, v, v])) q2 (.lst [V.ref e14, V.ref e15, V.ref e16, V.ref e17, V.ref e18, V.ref e19, V.ref e20, V.ref e21, V.ref e22, V.ref e23])) D2 (.lst [v, v, v, v, v, v, v, v, v, v])) rb (.lst [v, v, v, v, v, v, v, v, v, v, v, v, v, v, v, v, v, v, v, v, v, v, v])) := Same.trans sD2 trb
    have hrb : (upd (upd (upd (upd (upd (upd (upd (upd H q0 (.lst [V.ref e1, V.ref e2, V.ref e3, V.ref e4, V.ref e5, V.ref e6, V.ref e7, V.ref e8, V.ref e9, V.ref e10, V.ref e11])) D0 (.lst [v, v, v, v, v, v, v, v, v, v, v])) q1 (.lst [V.ref e12, V.ref e13])) D1 (.lst [v, v])) ra (.lst [v, v, v, v, v, v, v, v, v, v, v, v, v])) q2 (.lst [V.ref e14, V.ref e15, V.ref e16, V.ref e17, V.ref e18, V.ref e19, V.ref e20, V.ref e21, V.ref e22, V.ref e23])) D2 (.lst [v, v, v, v, v, v, v, v, v, v])) rb (.lst [v, v, v, v, v, v, v, v, v, v, v, v, v, v, v, v, v, v, v, v, v, v, v])) rb = some (.lst [v, v, v, v, v, v, v, v, v, v, v, v, v, v, v, v, v, v, v, v, v, v, v]) := upd_same
    refine ⟨_, rfl, ?_⟩
    refine ⟨_, rfl, p, _, 23, _, rfl, rfl, srb.seq hS, rfl, e24, _, _, v, rfl, f24, T.c_TooMany.n, Vz.made_map m24 srb, rfl, ?_⟩
    refine ⟨_, rfl, p, _, 24, _, rfl, rfl, srb.seq hS, rfl, e25, _, _, v, rfl, f25, T.c_Torn.n, Vz.made_map m25 srb, rfl, ?_⟩
    refine ⟨_, rfl, p, _, 25, _, rfl, rfl, srb.seq hS, rfl, e26, _, _, v, rfl, f26, T.c_NoNote.n, Vz.made_map m26 srb, rfl, ?_⟩
    refine ⟨_, rfl, p, _, 26, _, rfl, rfl, srb.seq hS, rfl, e27, _, _, v, rfl, f27, T.c_BadQuery.n, Vz.made_map m27 srb, rfl, ?_⟩
    refine ⟨_, rfl, p, _, 27, _, rfl, rfl, srb.seq hS, rfl, e28, _, _, v, rfl, f28, T.c_Gap.n, Vz.made_map m28 srb, rfl, ?_⟩
    refine ⟨(by show 5 ≤ sizeLine; decide), fun lc nlc nzc => ?_⟩
    have tlc := same_new (H := (upd (upd (upd (upd (upd (upd (upd (upd H q0 (.lst [V.ref e1, V.ref e2, V.ref e3, V.ref e4, V.ref e5, V.ref e6, V.ref e7, V.ref e8, V.ref e9, V.ref e10, V.ref e11])) D0 (.lst [v, v, v, v, v, v, v, v, v, v, v])) q1 (.lst [V.ref e12, V.ref e13])) D1 (.lst [v, v])) ra (.lst [v, v, v, v, v, v, v, v, v, v, v, v, v])) q2 (.lst [V.ref e14, V.ref e15, V.ref e16, V.ref e17, V.ref e18, V.ref e19, V.ref e20, V.ref e21, V.ref e22, V.ref e23])) D2 (.lst [v, v, v, v, v, v, v, v, v, v])) rb (.lst [v, v, v, v, v, v, v, v, v, v, v, v, v, v, v, v, v, v, v, v, v, v, v]))) (o := .lst [v, v, v, v, v]) nlc
    have slc : Same H (upd (upd (upd (upd (upd (upd (upd (upd (upd H q0 (.lst [V.ref e1, V.ref e2, V.ref e3, V.ref e4, V.ref e5, V.ref e6, V.ref e7, V.ref e8, V.ref e9, V.ref e10, V.ref e11])) D0 (.lst [v, v, v, v, v, v, v, v, v, v, v])) q1 (.lst [V.ref e12, V.ref e13])) D1 (.lst [v, v])) ra (.lst [v, v, v, v, v, v, v, v, v, v, v, v, v])) q2 (.lst [V.ref e14, V.ref e15, V.ref e16, V.ref e17, V.ref e18, V.ref e19, V.ref e20, V.ref e21, V.ref e22, V.ref e23])) D2 (.lst [v, v, v, v, v, v, v, v, v, v])) rb (.lst [v, v, v, v, v, v, v, v, v, v, v, v, v, v, v, v, v, v, v, v, v, v, v])) lc (.lst [v, v, v, v, v])) := Same.trans srb tlc
    have hlc : (upd (upd (upd (upd (upd (upd (upd (upd (upd H q0 (.lst [V.ref e1, V.ref e2, V.ref e3, V.ref e4, V.ref e5, V.ref e6, V.ref e7, V.ref e8, V.ref e9, V.ref e10, V.ref e11])) D0 (.lst [v, v, v, v, v, v, v, v, v, v, v])) q1 (.lst [V.ref e12, V.ref e13])) D1 (.lst [v, v])) ra (.lst [v, v, v, v, v, v, v, v, v, v, v, v, v])) q2 (.lst [V.ref e14, V.ref e15, V.ref e16, V.ref e17, V.ref e18, V.ref e19, V.ref e20, V.ref e21, V.ref e22, V.ref e23])) D2 (.lst [v, v, v, v, v, v, v, v, v, v])) rb (.lst [v, v, v, v, v, v, v, v, v, v, v, v, v, v, v, v, v, v, v, v, v, v, v])) lc (.lst [v, v, v, v, v])) lc = some (.lst [v, v, v, v, v]) := upd_same
    refine ⟨_, _, [v, v, v, v, v, v, v, v, v, v, v, v, v, v, v, v, v, v, v, v, v, v, v], [v, v, v, v, v], rfl, rfl, SqL.of (tlc _ _ hrb), SqL.of hlc, (by show 23 + 5 ≤ sizeLine; decide), fun rc nrc nsc => ?_⟩
    have trc := same_new (H := (upd (upd (upd (upd (upd (upd (upd (upd (upd H q0 (.lst [V.ref e1, V.ref e2, V.ref e3, V.ref e4, V.ref e5, V.ref e6, V.ref e7, V.ref e8, V.ref e9, V.ref e10, V.ref e11])) D0 (.lst [v, v, v, v, v, v, v, v, v, v, v])) q1 (.lst [V.ref e12, V.ref e13])) D1 (.lst [v, v])) ra (.lst [v, v, v, v, v, v, v, v, v, v, v, v, v])) q2 (.lst [V.ref e14, V.ref e15, V.ref e16, V.ref e17, V.ref e18, V.ref e19, V.ref e20, V.ref e21, V.ref e22, V.ref e23])) D2 (.lst [v, v, v, v, v, v, v, v, v, v])) rb (.lst [v, v, v, v, v, v, v, v, v, v, v, v, v, v, v, v, v, v, v, v, v, v, v])) lc (.lst [v, v, v, v, v]))) (o := .lst [v, v, v, v, v, v, v, v, v, v, v, v, v, v, v, v, v, v, v, v, v, v, v, v, v, v, v, v]) nrc
    have src : Same H (upd (upd (upd (upd (upd (upd (upd (upd (upd (upd H q0 (.lst [V.ref e1, V.ref e2, V.ref e3, V.ref e4, V.ref e5, V.ref e6, V.ref e7, V.ref e8, V.ref e9, V.ref e10, V.ref e11])) D0 (.lst [v, v, v, v, v, v, v, v, v, v, v])) q1 (.lst [V.ref e12, V.ref e13])) D1 (.lst [v, v])) ra (.lst [v, v, v, v, v, v, v, v, v, v, v, v, v])) q2 (.lst [V.ref e14, V.ref e15, V.ref e16, V.ref e17, V.ref e18, V.ref e19, V.ref e20, V.ref e21, V.ref e22, V.ref e23])) D2 (.lst [v, v, v, v, v, v, v, v, v, v])) rb (.lst [v, v, v, v, v, v, v, v, v, v, v, v, v, v, v, v, v, v, v, v, v, v, v])) lc (.lst [v, v, v, v, v])) rc (.lst [v, v, v, v, v, v, v, v, v, v, v, v, v, v, v, v, v, v, v, v, v, v, v, v, v, v, v, v])) := Same.trans slc trc
    have hrc : (upd (upd (upd (upd (upd (upd (upd (upd (upd (upd H q0 (.lst [V.ref e1, V.ref e2, V.ref e3, V.ref e4, V.ref e5, V.ref e6, V.ref e7, V.ref e8, V.ref e9, V.ref e10, V.ref e11])) D0 (.lst [v, v, v, v, v, v, v, v, v, v, v])) q1 (.lst [V.ref e12, V.ref e13])) D1 (.lst [v, v])) ra (.lst [v, v, v, v, v, v, v, v, v, v, v, v, v])) q2 (.lst [V.ref e14, V.ref e15, V.ref e16, V.ref e17, V.ref e18, V.ref e19, V.ref e20, V.ref e21, V.ref e22, V.ref e23])) D2 (.lst [v, v, v, v, v, v, v, v, v, v])) rb (.lst [v, v, v, v, v, v, v, v, v, v, v, v, v, v, v, v, v, v, v, v, v, v, v])) lc (.lst [v, v, v, v, v])) rc (.lst [v, v, v, v, v, v, v, v, v, v, v, v, v, v, v, v, v, v, v, v, v, v, v, v, v, v, v, v])) rc = some (.lst [v, v, v, v, v, v, v, v, v, v, v, v, v, v, v, v, v, v, v, v, v, v, v, v, v, v, v, v]) := upd_same
    refine ⟨_, rfl, ?_⟩
    refine ⟨_, rfl, p, _, 28, _, rfl, rfl, src.seq hS, rfl, e29, _, _, v, rfl, f29, T.c_BadPage.n1, Vz.made_map m29 src, rfl, ?_⟩
    refine ⟨_, rfl, p, _, 28, _, rfl, rfl, src.seq hS, rfl, e29, _, _, y, rfl, f29, T.c_BadPage.n2, Vz.made_map m29 src, rfl, ?_⟩
    refine ⟨_, rfl, p, _, 29, _, rfl, rfl, src.seq hS, rfl, e30, _, _, v, rfl, f30, T.c_BadText.n1, Vz.made_map m30 src, rfl, ?_⟩
    refine ⟨_, rfl, p, _, 29, _, rfl, rfl, src.seq hS, rfl, e30, _, _, y, rfl, f30, T.c_BadText.n2, Vz.made_map m30 src, rfl, ?_⟩
    refine ⟨(by show 4 ≤ sizeLine; decide), fun ld nld nzd => ?_⟩
    have tld := same_new (H := (upd (upd (upd (upd (upd (upd (upd (upd (upd (upd H q0 (.lst [V.ref e1, V.ref e2, V.ref e3, V.ref e4, V.ref e5, V.ref e6, V.ref e7, V.ref e8, V.ref e9, V.ref e10, V.ref e11])) D0 (.lst [v, v, v, v, v, v, v, v, v, v, v])) q1 (.lst [V.ref e12, V.ref e13])) D1 (.lst [v, v])) ra (.lst [v, v, v, v, v, v, v, v, v, v, v, v, v])) q2 (.lst [V.ref e14, V.ref e15, V.ref e16, V.ref e17, V.ref e18, V.ref e19, V.ref e20, V.ref e21, V.ref e22, V.ref e23])) D2 (.lst [v, v, v, v, v, v, v, v, v, v])) rb (.lst [v, v, v, v, v, v, v, v, v, v, v, v, v, v, v, v, v, v, v, v, v, v, v])) lc (.lst [v, v, v, v, v])) rc (.lst [v, v, v, v, v, v, v, v, v, v, v, v, v, v, v, v, v, v, v, v, v, v, v, v, v, v, v, v]))) (o := .lst [v, y, v, y]) nld
    have sld : Same H (upd (upd (upd (upd (upd (upd (upd (upd (upd (upd (upd H q0 (.lst [V.ref e1, V.ref e2, V.ref e3, V.ref e4, V.ref e5, V.ref e6, V.ref e7, V.ref e8, V.ref e9, V.ref e10, V.ref e11])) D0 (.lst [v, v, v, v, v, v, v, v, v, v, v])) q1 (.lst [V.ref e12, V.ref e13])) D1 (.lst [v, v])) ra (.lst [v, v, v, v, v, v, v, v, v, v, v, v, v])) q2 (.lst [V.ref e14, V.ref e15, V.ref e16, V.ref e17, V.ref e18, V.ref e19, V.ref e20, V.ref e21, V.ref e22, V.ref e23])) D2 (.lst [v, v, v, v, v, v, v, v, v, v])) rb (.lst [v, v, v, v, v, v, v, v, v, v, v, v, v, v, v, v, v, v, v, v, v, v, v])) lc (.lst [v, v, v, v, v])) rc (.lst [v, v, v, v, v, v, v, v, v, v, v, v, v, v, v, v, v, v, v, v, v, v, v, v, v, v, v, v])) ld (.lst [v, y, v, y])) := Same.trans src tld
    have hld : (upd (upd (upd (upd (upd (upd (upd (upd (upd (upd (upd H q0 (.lst [V.ref e1, V.ref e2, V.ref e3, V.ref e4, V.ref e5, V.ref e6, V.ref e7, V.ref e8, V.ref e9, V.ref e10, V.ref e11])) D0 (.lst [v, v, v, v, v, v, v, v, v, v, v])) q1 (.lst [V.ref e12, V.ref e13])) D1 (.lst [v, v])) ra (.lst [v, v, v, v, v, v, v, v, v, v, v, v, v])) q2 (.lst [V.ref e14, V.ref e15, V.ref e16, V.ref e17, V.ref e18, V.ref e19, V.ref e20, V.ref e21, V.ref e22, V.ref e23])) D2 (.lst [v, v, v, v, v, v, v, v, v, v])) rb (.lst [v, v, v, v, v, v, v, v, v, v, v, v, v, v, v, v, v, v, v, v, v, v, v])) lc (.lst [v, v, v, v, v])) rc (.lst [v, v, v, v, v, v, v, v, v, v, v, v, v, v, v, v, v, v, v, v, v, v, v, v, v, v, v, v])) ld (.lst [v, y, v, y])) ld = some (.lst [v, y, v, y]) := upd_same
    refine ⟨_, _, [v, v, v, v, v, v, v, v, v, v, v, v, v, v, v, v, v, v, v, v, v, v, v, v, v, v, v, v], [v, y, v, y], rfl, rfl, SqL.of (tld _ _ hrc), SqL.of hld, (by show 28 + 4 ≤ sizeLine; decide), fun rd nrd nsd => ?_⟩
    have trd := same_new (H := (upd (upd (upd (upd (upd (upd (upd (upd (upd (upd (upd H q0 (.lst [V.ref e1, V.ref e2, V.ref e3, V.ref e4, V.ref e5, V.ref e6, V.ref e7, V.ref e8, V.ref e9, V.ref e10, V.ref e11])) D0 (.lst [v, v, v, v, v, v, v, v, v, v, v])) q1 (.lst [V.ref e12, V.ref e13])) D1 (.lst [v, v])) ra (.lst [v, v, v, v, v, v, v, v, v, v, v, v, v])) q2 (.lst [V.ref e14, V.ref e15, V.ref e16, V.ref e17, V.ref e18, V.ref e19, V.ref e20, V.ref e21, V.ref e22, V.ref e23])) D2 (.lst [v, v, v, v, v, v, v, v, v, v])) rb (.lst [v, v, v, v, v, v, v, v, v, v, v, v, v, v, v, v, v, v, v, v, v, v, v])) lc (.lst [v, v, v, v, v])) rc (.lst [v, v, v, v, v, v, v, v, v, v, v, v, v, v, v, v, v, v, v, v, v, v, v, v, v, v, v, v])) ld (.lst [v, y, v, y]))) (o := .lst [v, v, v, v, v, v, v, v, v, v, v, v, v, v, v, v, v, v, v, v, v, v, v, v, v, v, v, v, v, y, v, y]) nrd
    have srd : Same H (upd (upd (upd (upd (upd (upd (upd (upd (upd (upd (upd (upd H q0 (.lst [V.ref e1, V.ref e2, V.ref e3, V.ref e4, V.ref e5, V.ref e6, V.ref e7, V.ref e8, V.ref e9, V.ref e10, V.ref e11])) D0 (.lst [v, v, v, v, v, v, v, v, v, v, v])) q1 (.lst [V.ref e12, V.ref e13])) D1 (.lst [v, v])) ra (.lst [v, v, v, v, v, v, v, v, v, v, v, v, v])) q2 (.lst [V.ref e14, V.ref e15, V.ref e16, V.ref e17, V.ref e18, V.ref e19, V.ref e20, V.ref e21, V.ref e22, V.ref e23])) D2 (.lst [v, v, v, v, v, v, v, v, v, v])) rb (.lst [v, v, v, v, v, v, v, v, v, v, v, v, v, v, v, v, v, v, v, v, v, v, v])) lc (.lst [v, v, v, v, v])) rc (.lst [v, v, v, v, v, v, v, v, v, v, v, v, v, v, v, v, v, v, v, v, v, v, v, v, v, v, v, v])) ld (.lst [v, y, v, y])) rd (.lst [v, v, v, v, v, v, v, v, v, v, v, v, v, v, v, v, v, v, v, v, v, v, v, v, v, v, v, v, v, y, v, y])) := Same.trans sld trd
    have hrd : (upd (upd (upd (upd (upd (upd (upd (upd (upd (upd (upd (upd H q0 (.lst [V.ref e1, V.ref e2, V.ref e3, V.ref e4, V.ref e5, V.ref e6, V.ref e7, V.ref e8, V.ref e9, V.ref e10, V.ref e11])) D0 (.lst [v, v, v, v, v, v, v, v, v, v, v])) q1 (.lst [V.ref e12, V.ref e13])) D1 (.lst [v, v])) ra (.lst [v, v, v, v, v, v, v, v, v, v, v, v, v])) q2 (.lst [V.ref e14, V.ref e15, V.ref e16, V.ref e17, V.ref e18, V.ref e19, V.ref e20, V.ref e21, V.ref e22, V.ref e23])) D2 (.lst [v, v, v, v, v, v, v, v, v, v])) rb (.lst [v, v, v, v, v, v, v, v, v, v, v, v, v, v, v, v, v, v, v, v, v, v, v])) lc (.lst [v, v, v, v, v])) rc (.lst [v, v, v, v, v, v, v, v, v, v, v, v, v, v, v, v, v, v, v, v, v, v, v, v, v, v, v, v])) ld (.lst [v, y, v, y])) rd (.lst [v, v, v, v, v, v, v, v, v, v, v, v, v, v, v, v, v, v, v, v, v, v, v, v, v, v, v, v, v, y, v, y])) rd = some (.lst [v, v, v, v, v, v, v, v, v, v, v, v, v, v, v, v, v, v, v, v, v, v, v, v, v, v, v, v, v, y, v, y]) := upd_same
    exact q _ rd srd hrd nsd
end
end Toy
set_option Elab.async false
set_option linter.all false
set_option maxRecDepth 100000
set_option maxHeartbeats 1000000
namespace Toy
open PySem PySem.Spec PyProof.Rows L2
/-- data that can be shown, short -/
def okD (d : PyData) : Prop := d.showable = true ∧ d.depth ≤ 5 ∧ d.leavesShort 13 = true ∧ d.bulk ≤ 20
theorem showAll_of : ∀ {xs : List PyData}, (∀ x ∈ xs, x.showable = true) → PyData.showableAll xs = true
  | [], _ => by simp only [PyData.showableAll]
  | x :: xs, h => by
    simp only [PyData.showableAll, h x (List.mem_cons_self ..), showAll_of (xs := xs) fun y hy => h y (List.mem_cons_of_mem _ hy), Bool.and_self]
theorem shortAll_of : ∀ {xs : List PyData}, (∀ x ∈ xs, x.leavesShort 13 = true) → PyData.leavesShortAll 13 xs = true
  | [], _ => by simp only [PyData.leavesShortAll]
  | x :: xs, h => by
    simp only [PyData.leavesShortAll, h x (List.mem_cons_self ..), shortAll_of (xs := xs) fun y hy => h y (List.mem_cons_of_mem _ hy), Bool.and_self]
theorem depthAll_of {n : Nat} : ∀ {xs : List PyData}, (∀ x ∈ xs, x.depth ≤ n) → PyData.depthAll xs ≤ n
  | [], _ => by simp only [PyData.depthAll]; omega
  | x :: xs, h => by
    have a := h x (List.mem_cons_self ..)
    have b := depthAll_of (xs := xs) fun y hy => h y (List.mem_cons_of_mem _ hy)
    simp only [PyData.depthAll]
    omega
theorem bulkAll_of {n : Nat} : ∀ {xs : List PyData}, (∀ x ∈ xs, x.bulk ≤ n) → PyData.bulkAll xs ≤ xs.length * (n + 1)
  | [], _ => by simp only [PyData.bulkAll]; omega
  | x :: xs, h => by
    have a := h x (List.mem_cons_self ..)
    have b := bulkAll_of (xs := xs) fun y hy => h y (List.mem_cons_of_mem _ hy)
    simp only [PyData.bulkAll]
    rw [List.length_cons, Nat.add_mul, Nat.one_mul]
    omega
def l32 (dv dy : PyData) : List PyData := List.replicate 28 dv ++ [dv, dy, dv, dy]
theorem mem_32 {dv dy x : PyData} (h : x ∈ l32 dv dy) : x = dv ∨ x = dy := by
  rcases List.mem_append.mp h with z | z
  · exact .inl (List.mem_replicate.mp z).2
  · simp only [List.mem_cons, List.not_mem_nil, or_false] at z
    rcases z with z | z | z | z
    · exact .inl z
    · exact .inr z
    · exact .inl z
    · exact .inr z
theorem len_32 {dv dy : PyData} : (l32 dv dy).length = 32 := by unfold l32; rw [List.length_append, List.length_replicate]; rfl
def d32 (dv dy : PyData) : PyData := .list (l32 dv dy)
theorem okD_32 {dv dy : PyData} (h : okD dv) (k : okD dy) : (d32 dv dy).showable = true ∧ (d32 dv dy).depth ≤ 60 ∧ (d32 dv dy).shown.length ≤ sizeLine := by
  obtain ⟨h1, h2, h3, h4⟩ := h
  obtain ⟨k1, k2, k3, k4⟩ := k
  have both : ∀ {p : PyData → Prop}, p dv → p dy → ∀ x ∈ l32 dv dy, p x := fun a b x hx => by
    rcases mem_32 hx with z | z <;> rw [z]
    · exact a
    · exact b
  refine ⟨?_, ?_, PyData.shown_fits_bulk (B := 13) (by decide) (by decide) ?_ ?_⟩
  · unfold d32; simp only [PyData.showable]; exact showAll_of (both h1 k1)
  · have := depthAll_of (both (p := fun d => d.depth ≤ 5) h2 k2)
    unfold d32; simp only [PyData.depth]; omega
  · unfold d32; simp only [PyData.leavesShort]; exact shortAll_of (both h3 k3)
  · have := bulkAll_of (both (p := fun d => d.bulk ≤ 20) h4 k4)
    rw [len_32] at this
    unfold d32; simp only [PyData.bulk]; omega
theorem ddAll_rep {K : PySem.W.Frag} {H : Hp} {v : V} {d : PyData} (h : Vz.Dd K H v d) : ∀ n, Vz.DdAll K H (List.replicate n v) (List.replicate n d)
  | 0 => .nil
  | n + 1 => .cons h (ddAll_rep h n)
theorem ddAll_app {K : PySem.W.Frag} {H : Hp} : ∀ {xs ys : List V} {ds es : List PyData}, Vz.DdAll K H xs ds → Vz.DdAll K H ys es → Vz.DdAll K H (xs ++ ys) (ds ++ es)
  | _, _, _, _, .nil, b => b
  | _, _, _, _, .cons h t, b => .cons h (ddAll_app t b)
theorem dd_32 {K : PySem.W.Frag} {H : Hp} {v y : V} {dv dy : PyData} (hv : Vz.Dd K H v dv) (hy : Vz.Dd K H y dy) : Vz.DdAll K H (fldL v y) (l32 dv dy) :=
  ddAll_app (ddAll_rep hv 28) (.cons hv (.cons hy (.cons hv (.cons hy .nil))))
theorem repr_32 {K : PySem.W.Frag} {H : Hp} {v y : V} {dv dy : PyData} {p : Addr} {Q : VK} (hv : Vz.Dd K H v dv) (hy : Vz.Dd K H y dy) (ov : okD dv) (oy : okD dy) (hp : H p = some (.lst (fldL v y))) (np : p ≠ sysModules) {S : Str} (hS : S = (d32 dv dy).shown) (q : Q (.str S) H) :
    Vz.rReprD K [.ref p] H Q := by
  obtain ⟨o1, o2, o3⟩ := okD_32 ov oy
  subst hS
  exact ⟨p, d32 dv dy, rfl, .lst (SqL.of hp) np (dd_32 hv hy), o1, o2, o3, q⟩
theorem dd_same {K : PySem.W.Frag} {H H' : Hp} {v : V} {d : PyData} (s : Same H H') (h : Vz.Dd K H v d) : Vz.Dd K H' v d := Vz.dd_map s.seq (Vz.sqT_same s) (fun e => s _ _ e) d v h
theorem ok_int {i : Int} (h1 : -1000 ≤ i) (h2 : i ≤ 1000) : okD (.int i) := by
  refine ⟨?_, ?_, ?_, ?_⟩
  · simp only [PyData.showable, decide_eq_true_eq]
    by_cases z : i.natAbs = 0
    · rw [z]; decide
    · have : i.natAbs.log2 < 10 := (Nat.log2_lt z).mpr (by omega)
      omega
  · simp only [PyData.depth]; omega
  · simp only [PyData.leavesShort, decide_eq_true_eq]; exact PyData.shown_int_le2 (by omega) (by omega)
  · simp only [PyData.bulk]; omega
theorem ok_non : okD .none := ⟨by simp only [PyData.showable], by simp only [PyData.depth]; omega, by simp only [PyData.leavesShort], by simp only [PyData.bulk]; omega⟩
theorem ok_bl (b : Bool) : okD (.bool b) := ⟨by simp only [PyData.showable], by simp only [PyData.depth]; omega, by simp only [PyData.leavesShort], by simp only [PyData.bulk]; omega⟩
theorem ok_told : okD (.str "told") := ⟨by decide +kernel, by decide +kernel, by decide +kernel, by decide +kernel⟩
theorem ok_pair {i : Int} (h1 : -1000 ≤ i) (h2 : i ≤ 1000) : okD (.tuple [.int i, .int 7]) := by
  obtain ⟨a1, a2, a3, a4⟩ := ok_int h1 h2
  obtain ⟨b1, b2, b3, b4⟩ := ok_int (i := 7) (by decide) (by decide)
  refine ⟨?_, ?_, ?_, ?_⟩
  · simp only [PyData.showable, PyData.showableAll] at *; rw [a1, b1]; rfl
  · simp only [PyData.depth, PyData.depthAll] at *; omega
  · simp only [PyData.leavesShort, PyData.leavesShortAll] at *; simp only [a3, b3, Bool.and_self]
  · simp only [PyData.bulk, PyData.bulkAll] at *; omega
theorem ok_one {i : Int} (h1 : -1000 ≤ i) (h2 : i ≤ 1000) : okD (.list [.int i]) := by
  obtain ⟨a1, a2, a3, a4⟩ := ok_int h1 h2
  refine ⟨?_, ?_, ?_, ?_⟩
  · simp only [PyData.showable, PyData.showableAll] at *; simp [a1]
  · simp only [PyData.depth, PyData.depthAll] at *; omega
  · simp only [PyData.leavesShort, PyData.leavesShortAll] at *; simp only [a3, Bool.and_self]
  · simp only [PyData.bulk, PyData.bulkAll] at *; omega
theorem ok_nest : okD (.tuple [.str "a", .tuple []]) := ⟨by decide +kernel, by decide +kernel, by decide +kernel, by decide +kernel⟩
theorem ok_dic : okD (.dict []) := ⟨by decide +kernel, by decide +kernel, by decide +kernel, by decide +kernel⟩
section
variable {P : Program} {w : World} {K : PySem.W.Frag} {mg : Str → Option Value} {base : Heap}
def sp_law (K : PySem.W.Frag) : Sp := fun vs H Q _ => ∃ (a : Addr) (ns : List Int), vs = [.ref a] ∧ SqL K H a (ns.map V.int) ∧ ns.length ≤ 63 ∧ ∀ H', Q (.bl true) H'
theorem law_in (K : PySem.W.Frag) (H : Hp) (a : Addr) (ns : List Int) (hl : ns.length ≤ 63) (hO : Only H) (hS : SqL K H a (ns.map V.int)) : sp_law K [.ref a] H (fun v _ => v = .bl true) E0 :=
  ⟨a, ns, rfl, hS, hl, fun _ => rfl⟩
theorem ok_law (T : Txt K mg) : Vz.FnG P w K mg base CX0 4 T.a_law T.d_law ["script"] (sp_law K) := by
  refine Vz.Fun.okG T.F_law sc_law (fun vs H Q E h => ?_) (fun cdv A outer s H vs Q E gd hr h => ?_)
  · obtain ⟨a, ns, rfl, _⟩ := h; rfl
  · obtain ⟨a, ns, rfl, hS, hl, q⟩ := h
    refine ⟨_, (pss_cons (ps_set (i := 1) sc_law.nd rfl (by first | exact Or.inl rfl | exact Or.inr rfl) (pe_call (ok__law_begin T) (hr.mono (by decide)) (by rfl) T.g__law_begin T.F__law_begin.kp T.b__law_begin .nil pass0 (pa_cons (pv 0) pa_nil)))
        (pss_cons (ps_for PassesOwn.never rfl (pi_range1 (by rfl) T.z_range (pa_cons (pe_callB (call_min2 rfl) (by rfl) T.z_min (by decide +kernel) (pa_cons pe_int (pa_cons (pe_op op_add pe_int (pe_callB call_len_seq (by rfl) T.z_len PySem.boot_len (pa_cons (pv 0) pa_nil))) pa_nil))) pa_nil)) (pg_name (i := 2) sc_law.nd rfl (by first | exact Or.inl rfl | exact Or.inr rfl)) (pss_cons (ps_set (i := 3) sc_law.nd rfl (by first | exact Or.inl rfl | exact Or.inr rfl) (pe_op op_sub (pe_call (ok__law_next T) (hr.mono (by decide)) (by rfl) T.g__law_next T.F__law_next.kp T.b__law_next .nil pass0 (pa_cons (pv 1) (pa_cons pe_int pa_nil))) pe_int))
        (pss_cons (ps_set (i := 4) sc_law.nd rfl (by first | exact Or.inl rfl | exact Or.inr rfl) (Vz.pe_lstN (pa_cons pe_non (pa_cons (pv 3) (pa_cons pe_str (pa_cons (pe_tup (pa_cons (pv 3) (pa_cons pe_int pa_nil))) (pa_cons (Vz.pe_lstN (pa_cons (pv 3) pa_nil)) (pa_cons (pe_tup (pa_cons pe_str (pa_cons (pe_tup pa_nil) pa_nil))) (pa_cons pe_dnewK (pa_cons pe_bl pa_nil))))))))))
        (pss_cons (ps_par (i := 5) (j := 6) (by rfl) sc_law.nd rfl rfl (by decide) rfl rfl (pa_cons (pe_ix ix_list (pv 4) (pe_call (ok__law_next T) (hr.mono (by decide)) (by rfl) T.g__law_next T.F__law_next.kp T.b__law_next .nil pass0 (pa_cons (pv 1) (pa_cons pe_int pa_nil))) (fun _ _ => rfl)) (pa_cons (pe_ix ix_list (pv 4) (pe_call (ok__law_next T) (hr.mono (by decide)) (by rfl) T.g__law_next T.F__law_next.kp T.b__law_next .nil pass0 (pa_cons (pv 1) (pa_cons pe_int pa_nil))) (fun _ _ => rfl)) pa_nil)) (by rfl))
        (pss_cons (ps_set (i := 7) sc_law.nd rfl (by first | exact Or.inl rfl | exact Or.inr rfl) (pe_op Vz.op_catN (pe_op op_rep (Vz.pe_lstN (pa_cons (pv 5) pa_nil)) pe_int) (Vz.pe_lstN (pa_cons (pv 5) (pa_cons (pv 6) (pa_cons (pv 5) (pa_cons (pv 6) pa_nil)))))))
        (pss_one (ps_for PassesOwn.never rfl (pi_tup (pe_tup (pa_cons (pe_call (ok__law_made T) (hr.mono (by decide)) (by rfl) T.g__law_made T.F__law_made.kp T.b__law_made .nil pass0 (pa_cons (pv 5) (pa_cons (pv 6) pa_nil))) (pa_cons (pe_call (ok__law_named T) (hr.mono (by decide)) (by rfl) T.g__law_named T.F__law_named.kp T.b__law_named .nil pass0 (pa_cons (pv 5) (pa_cons (pv 6) pa_nil))) pa_nil)))) (pg_name (i := 8) sc_law.nd rfl (by first | exact Or.inl rfl | exact Or.inr rfl)) (pss_one (ps_if (PW.pt (pw_or (pt_not (pt_val (pe_call (ok__law_families_right T) (hr.mono (by decide)) (by rfl) T.g__law_families_right T.F__law_families_right.kp T.b__law_families_right .nil pass0 (pa_cons (pv 8) pa_nil)))) (pw_or1 (pt_cmpR op_ne (pe_callB (Vz.repr_dd gd hr.units) (by rfl) T.z_repr (by decide +kernel) (pa_cons (pe_call (ok__law_fields T) (hr.mono (by decide)) (by rfl) T.g__law_fields T.F__law_fields.kp T.b__law_fields .nil pass0 (pa_cons (pv 8) pa_nil)) pa_nil)) (pe_callB (Vz.repr_dd gd hr.units) (by rfl) T.z_repr (by decide +kernel) (pa_cons (pv 7) pa_nil)) (nomark _))))) (pss_one (ps_ret pe_bl)) pss_nil)))))))))
        (pss_one (ps_ret pe_bl)))), ?_⟩
    refine ⟨_, rfl, a, ns, rfl, hS, hl, fun H1 d s1 nd1 D1 => ?_⟩
    refine ⟨_, rfl, a, _, rfl, .inl (s1.seq hS), _, _, rfl, rfl, _, _, rfl, _, rfl, ?_, ?_, ?_⟩
    · rw [List.length_map]; split <;> omega
    · rw [List.length_map]; split <;> omega
    refine for_range (fun i σ H' => ∃ x2 x3 x4 x5 x6 x7 x8 : Option V, σ = [some (.ref a), some (.ref d), x2, x3, x4, x5, x6, x7, x8] ∧ Draw H' d (3 * (i : Int))) ⟨none, none, none, none, none, none, none, rfl, D1.more (by omega)⟩ ?_ ?_
    · rintro i σ H2 hi ⟨x2, x3, x4, x5, x6, x7, x8, rfl, D2⟩
      have i20 : i ≤ 70 := by
        rw [List.length_map] at hi
        have : i < ((if 3 + (ns.length : Int) < 12 then 3 + (ns.length : Int) else 12)).toNat := hi
        split at this <;> omega
      refine ⟨_, rfl, d, 2001, _, rfl, D2, by decide, by decide, by omega, fun H3 k3 kp3 D3 a3 b3 => ?_⟩
      refine ⟨_, _, rfl, rfl, ?_⟩
      have m0 : -1000 ≤ k3 - 1000 := by omega
      have m1 : k3 - 1000 ≤ 1000 := by omega
      refine ⟨_, rfl, _, rfl, (by show 2 ≤ sizeLine; decide), fun p1 n1 => ?_⟩
      refine ⟨_, rfl, (by show 1 ≤ sizeLine; decide), fun p2 n2 z2 => ?_⟩
      refine ⟨(by show 0 ≤ sizeLine; decide), fun p3 n3 => ?_⟩
      refine ⟨(by show 2 ≤ sizeLine; decide), fun p4 n4 => ?_⟩
      intro p5 n5
      refine ⟨(by show 8 ≤ sizeLine; decide), fun p6 n6 z6 => ?_⟩
      have G1 := same_new (o := .tup [.int (k3 - 1000), .int 7]) n1
      have G2 := same_new (o := .lst [.int (k3 - 1000)]) n2
      have G3 := same_new (o := .tup []) n3
      have G4 := same_new (o := .tup [.str "a", .ref p3]) n4
      have G5 := same_new (o := .dK []) n5
      have G6 := same_new (o := .lst [.non, .int (k3 - 1000), .str "told", .ref p1, .ref p2, .ref p4, .ref p5, .bl true]) n6
      have y1 := G6 _ _ (G5 _ _ (G4 _ _ (G3 _ _ (G2 _ _ (upd_same (H := H3) (a := p1) (o := .tup [.int (k3 - 1000), .int 7]))))))
      have y2 := G6 _ _ (G5 _ _ (G4 _ _ (G3 _ _ (upd_same (H := upd H3 p1 (.tup [.int (k3 - 1000), .int 7])) (a := p2) (o := .lst [.int (k3 - 1000)])))))
      have y3 := G6 _ _ (G5 _ _ (G4 _ _ (upd_same (H := upd (upd H3 p1 (.tup [.int (k3 - 1000), .int 7])) p2 (.lst [.int (k3 - 1000)])) (a := p3) (o := .tup []))))
      have y4 := G6 _ _ (G5 _ _ (upd_same (H := upd (upd (upd H3 p1 (.tup [.int (k3 - 1000), .int 7])) p2 (.lst [.int (k3 - 1000)])) p3 (.tup [])) (a := p4) (o := .tup [.str "a", .ref p3])))
      have y5 := G6 _ _ (upd_same (H := upd (upd (upd (upd H3 p1 (.tup [.int (k3 - 1000), .int 7])) p2 (.lst [.int (k3 - 1000)])) p3 (.tup [])) p4 (.tup [.str "a", .ref p3])) (a := p5) (o := .dK []))
      have y6 := upd_same (H := upd (upd (upd (upd (upd H3 p1 (.tup [.int (k3 - 1000), .int 7])) p2 (.lst [.int (k3 - 1000)])) p3 (.tup [])) p4 (.tup [.str "a", .ref p3])) p5 (.dK [])) (a := p6) (o := .lst [.non, .int (k3 - 1000), .str "told", .ref p1, .ref p2, .ref p4, .ref p5, .bl true])
      have D4 := D3.same (((((G1.trans G2).trans G3).trans G4).trans G5).trans G6)
      clear G1 G2 G3 G4 G5 G6
      obtain ⟨H4, hH4⟩ : ∃ Z, Z = upd (upd (upd (upd (upd (upd H3 p1 (.tup [.int (k3 - 1000), .int 7])) p2 (.lst [.int (k3 - 1000)])) p3 (.tup [])) p4 (.tup [.str "a", .ref p3])) p5 (.dK [])) p6 (.lst [.non, .int (k3 - 1000), .str "told", .ref p1, .ref p2, .ref p4, .ref p5, .bl true]) := ⟨_, rfl⟩
      rw [← hH4] at y1 y2 y3 y4 y5 y6 D4
      -- the eight things, behind any draws
      have eight : ∀ H', Keep d H4 H' → ∀ v ∈ ([.non, .int (k3 - 1000), .str "told", .ref p1, .ref p2, .ref p4, .ref p5, .bl true] : List V), ∃ dv, Vz.Dd K H' v dv ∧ okD dv := by
        intro H' kp v hv
        obtain ⟨c0, xs0, a0, l0, u0, hd0, _⟩ := D4
        have ne : ∀ {b : Addr} {o : HO}, H4 b = some o → (∀ c a l u, o ≠ .dK (dkv c a l u)) → H' b = some o := fun hb n => kp _ _ (fun z => by rw [z, hd0] at hb; exact n _ _ _ _ (Option.some.inj hb).symm) hb
        have w1 := ne y1 (fun c a l u => HO.noConfusion)
        have w2 := ne y2 (fun c a l u => HO.noConfusion)
        have w3 := ne y3 (fun c a l u => HO.noConfusion)
        have w4 := ne y4 (fun c a l u => HO.noConfusion)
        have w5 := ne y5 (fun c a l u z => by injection z with z; cases z)
        simp only [List.mem_cons, List.not_mem_nil, or_false] at hv
        rcases hv with z | z | z | z | z | z | z | z <;> subst z
        · exact ⟨_, .non, ok_non⟩
        · exact ⟨_, .int _, ok_int m0 m1⟩
        · exact ⟨_, .str _, ok_told⟩
        · exact ⟨_, .tup (SqT.of w1) (.cons (.int _) (.cons (.int _) .nil)), ok_pair m0 m1⟩
        · exact ⟨_, .lst (SqL.of w2) z2 (.cons (.int _) .nil), ok_one m0 m1⟩
        · exact ⟨_, .tup (SqT.of w4) (.cons (.str _) (.cons (.tup (SqT.of w3) .nil) .nil)), ok_nest⟩
        · exact ⟨_, .dic0 w5, ok_dic⟩
        · exact ⟨_, .bl _, ok_bl _⟩
      have n6d : p6 ≠ d := fun z => by
        obtain ⟨c0, xs0, a0, l0, u0, hd0, _⟩ := D4
        rw [z, hd0] at y6
        cases y6
      subst hH4
      refine ⟨_, rfl, _, rfl, d, 8, _, rfl, D4, by decide, by decide, by omega, fun H5 k5 kp5 D5 a5 b5 => ?_⟩
      obtain ⟨v, hv, mv⟩ := at_some (α := V) (xs := [.non, .int (k3 - 1000), .str "told", .ref p1, .ref p2, .ref p4, .ref p5, .bl true]) a5 (by show k5 < (8 : Int); exact b5)
      have w6 := kp5 _ _ n6d y6
      refine ⟨p6, _, k5, v, rfl, rfl, SqL.of w6, hv, ?_⟩
      refine ⟨_, rfl, _, rfl, d, 8, _, rfl, D5, by decide, by decide, by omega, fun H6 k6 kp6 D6 a6 b6 => ?_⟩
      obtain ⟨y, hy, my⟩ := at_some (α := V) (xs := [.non, .int (k3 - 1000), .str "told", .ref p1, .ref p2, .ref p4, .ref p5, .bl true]) a6 (by show k6 < (8 : Int); exact b6)
      refine ⟨p6, _, k6, y, rfl, rfl, SqL.of (kp6 _ _ n6d w6), hy, ?_⟩
      obtain ⟨dv, hdv, ov⟩ := eight H6 (kp5.trans kp6) v mv
      obtain ⟨dy, hdy, oy⟩ := eight H6 (kp5.trans kp6) y my
      obtain ⟨S, hSS⟩ : ∃ S, S = (d32 dv dy).shown := ⟨_, rfl⟩
      clear eight hv hy mv my y1 y2 y3 y4 y5 y6 w6 D5 D4
      refine ⟨_, _, rfl, ?_⟩
      refine ⟨_, rfl, (by show 1 ≤ sizeLine; decide), fun q1 m1 zq1 => ?_⟩
      refine ⟨q1, 28, [v], rfl, rfl, upd_same, by decide, by decide, (by show 1 * 28 ≤ sizeLine; decide), fun q2 m2 => ?_⟩
      refine ⟨_, rfl, _, rfl, _, rfl, _, rfl, (by show 4 ≤ sizeLine; decide), fun q3 m3 zq3 => ?_⟩
      have g1 := same_new (o := .lst [v]) m1
      have g2 := same_new (o := .lst (List.replicate 28 v)) m2
      have g3 := same_new (o := .lst [v, y, v, y]) m3
      refine ⟨q2, q3, List.replicate 28 v, [v, y, v, y], rfl, rfl, SqL.of (g3 _ _ (upd_same (H := upd H6 q1 (.lst [v])) (a := q2) (o := .lst (List.replicate 28 v)))), SqL.of upd_same, (by show 28 + 4 ≤ sizeLine; decide), fun q4 m4 zq4 => ?_⟩
      have g4 := same_new (o := .lst (fldL v y)) m4
      have h4 := upd_same (H := upd (upd (upd H6 q1 (.lst [v])) q2 (.lst (List.replicate 28 v))) q3 (.lst [v, y, v, y])) (a := q4) (o := .lst (fldL v y))
      have t4 := ((Same.trans g1 g2).trans g3).trans g4
      clear g1 g2 g3 g4
      refine ⟨_, rfl, _, rfl, v, y, rfl, fun H7 r1 xs1 s7 h7 M7 => ?_⟩
      refine ⟨_, rfl, _, rfl, v, y, rfl, fun H8 r2 xs2 s8 h8 M8 => ?_⟩
      refine ⟨(by show 2 ≤ sizeLine; decide), fun t nt => ?_⟩
      have s9 := same_new (o := .tup [.ref r1, .ref r2]) nt
      have t9 := (Same.trans t4 s7).trans (Same.trans s8 s9)
      have h49 := s9 _ _ (s8 _ _ (s7 _ _ h4))
      have h79 := s9 _ _ (s8 _ _ h7)
      have h89 := s9 _ _ h8
      have M79 := Vz.madeAll_map (fun b o e => s9 _ _ (s8 _ _ e)) M7
      have M89 := Vz.madeAll_map s9 M8
      clear s7 s8 h7 h8 M7 M8 h4 t4
      refine ⟨t, rfl, ⟨_, SqT.of upd_same⟩, ?_⟩
      have tt := upd_same (H := H8) (a := t) (o := .tup [.ref r1, .ref r2])
      have hdv9 := dd_same t9 hdv
      have hdy9 := dd_same t9 hdy
      have D9 := D6.same t9
      generalize upd H8 t (.tup [.ref r1, .ref r2]) = H9 at *
      refine for_tup (xs := [.ref r1, .ref r2]) (fun j σ H' => ∃ x8 : Option V, σ = [some (.ref a), some (.ref d), some (.int (0 + i)), some (.int (k3 - 1000)), some (.ref p6), some v, some y, some (.ref q4), x8] ∧ Same H9 H') ⟨x8, rfl, Same.refl _⟩ ?_ ?_ ?_
      · rintro j σ H' _ ⟨_, _, s10⟩
        exact SqT.of (s10 _ _ tt)
      · rintro j x σ H10 hx ⟨x8, rfl, s10⟩
        obtain ⟨r, ys, rfl, hr, Mr⟩ : ∃ r ys, x = .ref r ∧ H10 r = some (.lst ys) ∧ Vz.MadeAll H10 ys (csT T) (fsT v y) := by
          match j, hx with
          | 0, hx => exact ⟨r1, xs1, (Option.some.inj hx).symm, s10 _ _ h79, Vz.madeAll_map s10 M79⟩
          | 1, hx => exact ⟨r2, xs2, (Option.some.inj hx).symm, s10 _ _ h89, Vz.madeAll_map s10 M89⟩
          | j + 2, hx => cases hx
        refine ⟨_, rfl, r, ys, fsT v y, rfl, SqL.of hr, Mr, fun H11 s11 => ⟨_, rfl, iteF ?_⟩⟩
        refine ⟨_, rfl, r, ys, v, y, rfl, SqL.of (s11 _ _ hr), Vz.madeAll_map s11 Mr, fun H12 u s12 hu zu => ?_⟩
        have tA := (Same.trans s10 s11).trans s12
        dsimp only [tNil]
        refine repr_32 (dd_same tA hdv9) (dd_same tA hdy9) ov oy hu zu hSS ?_
        refine ⟨_, rfl, ?_⟩
        dsimp only [tNil]
        refine repr_32 (dd_same tA hdv9) (dd_same tA hdy9) ov oy (tA _ _ h49) zq4 hSS ?_
        refine ⟨rfl, _, rfl, ?_⟩
        refine ite2 (fun c => absurd c (by simp)) (fun _ => ?_)
        exact ⟨_, rfl, tA⟩
      · rintro σ H10 ⟨x8, rfl, s10⟩
        exact ⟨_, _, _, _, _, _, _, rfl, (D9.same s10).more (by omega)⟩
    · rintro σ H' ⟨x2, x3, x4, x5, x6, x7, x8, rfl, D2⟩
      exact q _
end
end Toy
set_option Elab.async false
set_option linter.all false
set_option maxRecDepth 100000
set_option maxHeartbeats 8000000
namespace Toy
open PySem PySem.Spec PyProof.Rows L2
def xm_BadMoment {K : PySem.W.Frag} {h : Heap} {mg : Str → Option Value} (X : K.In h) (G : h.Ns mainGlobals mg) {C : Addr} (g : PySem.W.nsIn K mainGlobals "BadMoment" = some (some (.ref C)))
    {nm qq : Str} {N : Addr} {bs bm : List Value} {sn : List Str} {sub : List Value} {ab : Bool} {col : Option Bool} {dd : Option Addr} {m0 m1 m2 m3 m5 : Option Value}
    (xo : K.lookup C = some (excClassObj nm qq C N bs bm true sn sub ab col dd m0 m1 m2 m3 m5 "ValueError.__new__")) (hb : PySem.HandSPX.refsVE bm = true)
    (sa : PySem.W.findIn K (.ref C) "__setattr__" = some (some (.builtin "object.__setattr__"))) (eC : PySem.W.subIn K (.ref C) (.type "BaseException") = some true) (tC : PySem.W.typeIn K (.ref C) = some (.type "type")) (kC : PySem.W.keepIn K (.ref C) = true)
    {I : Addr} {od an : Option Addr} {sl : Array (Option Value)} {oc kV dc pm cd ct : Value} (iC : PySem.W.findIn K (.ref C) "__init__" = some (some (.ref I))) (tI : PySem.W.typeIn K (.ref I) = some (.type "function"))
    (l : K.lookup I = some ⟨oc, od, .func (PySem.W.fnOf "__init__" "BadMoment.__init__" (defArgs s_BadMoment) (defBody s_BadMoment) (defScope s_BadMoment) .none kV dc pm an cd ct), sl⟩) (c : PySem.W.codeIn K cd "BadMoment.__init__" = true) (k : PySem.W.keepIn K (.ref I) = true)
    (n : PySem.W.findIn K (.ref C) "given" = some none) : Vz.XClA K mg "BadMoment" "given" s_BadMoment :=
  have F := fun_mk (st := s_BadMoment) l c k
  { C := C, I := I, i := _, g := PySem.W.mg_of X G g, o := ⟨⟨_, _, _, _, _, _, _, _, _, _, _, _, _, _, _, xo, hb⟩, sa, eC, tC, kC⟩, iC := iC, tI := tI, F := ⟨_, F⟩, b := F.binds (ps := ["self", "given"]) fun _ _ _ _ _ _ us hl => match us, hl with | [_, _], _ => rfl, n := n, q := ⟨fun s us ws _ hl => Vz.kwA_two hl fun a b e1 e2 => by subst e1 e2; exact .of_eq rfl, Vz.kwA_rel⟩ }
def xm_BadZone {K : PySem.W.Frag} {h : Heap} {mg : Str → Option Value} (X : K.In h) (G : h.Ns mainGlobals mg) {C : Addr} (g : PySem.W.nsIn K mainGlobals "BadZone" = some (some (.ref C)))
    {nm qq : Str} {N : Addr} {bs bm : List Value} {sn : List Str} {sub : List Value} {ab : Bool} {col : Option Bool} {dd : Option Addr} {m0 m1 m2 m3 m5 : Option Value}
    (xo : K.lookup C = some (excClassObj nm qq C N bs bm true sn sub ab col dd m0 m1 m2 m3 m5 "ValueError.__new__")) (hb : PySem.HandSPX.refsVE bm = true)
    (sa : PySem.W.findIn K (.ref C) "__setattr__" = some (some (.builtin "object.__setattr__"))) (eC : PySem.W.subIn K (.ref C) (.type "BaseException") = some true) (tC : PySem.W.typeIn K (.ref C) = some (.type "type")) (kC : PySem.W.keepIn K (.ref C) = true)
    {I : Addr} {od an : Option Addr} {sl : Array (Option Value)} {oc kV dc pm cd ct : Value} (iC : PySem.W.findIn K (.ref C) "__init__" = some (some (.ref I))) (tI : PySem.W.typeIn K (.ref I) = some (.type "function"))
    (l : K.lookup I = some ⟨oc, od, .func (PySem.W.fnOf "__init__" "BadZone.__init__" (defArgs s_BadZone) (defBody s_BadZone) (defScope s_BadZone) .none kV dc pm an cd ct), sl⟩) (c : PySem.W.codeIn K cd "BadZone.__init__" = true) (k : PySem.W.keepIn K (.ref I) = true)
    (n : PySem.W.findIn K (.ref C) "given" = some none) : Vz.XClA K mg "BadZone" "given" s_BadZone :=
  have F := fun_mk (st := s_BadZone) l c k
  { C := C, I := I, i := _, g := PySem.W.mg_of X G g, o := ⟨⟨_, _, _, _, _, _, _, _, _, _, _, _, _, _, _, xo, hb⟩, sa, eC, tC, kC⟩, iC := iC, tI := tI, F := ⟨_, F⟩, b := F.binds (ps := ["self", "given"]) fun _ _ _ _ _ _ us hl => match us, hl with | [_, _], _ => rfl, n := n, q := ⟨fun s us ws _ hl => Vz.kwA_two hl fun a b e1 e2 => by subst e1 e2; exact .of_eq rfl, Vz.kwA_rel⟩ }
def xm_BadDate {K : PySem.W.Frag} {h : Heap} {mg : Str → Option Value} (X : K.In h) (G : h.Ns mainGlobals mg) {C : Addr} (g : PySem.W.nsIn K mainGlobals "BadDate" = some (some (.ref C)))
    {nm qq : Str} {N : Addr} {bs bm : List Value} {sn : List Str} {sub : List Value} {ab : Bool} {col : Option Bool} {dd : Option Addr} {m0 m1 m2 m3 m5 : Option Value}
    (xo : K.lookup C = some (excClassObj nm qq C N bs bm true sn sub ab col dd m0 m1 m2 m3 m5 "ValueError.__new__")) (hb : PySem.HandSPX.refsVE bm = true)
    (sa : PySem.W.findIn K (.ref C) "__setattr__" = some (some (.builtin "object.__setattr__"))) (eC : PySem.W.subIn K (.ref C) (.type "BaseException") = some true) (tC : PySem.W.typeIn K (.ref C) = some (.type "type")) (kC : PySem.W.keepIn K (.ref C) = true)
    {I : Addr} {od an : Option Addr} {sl : Array (Option Value)} {oc kV dc pm cd ct : Value} (iC : PySem.W.findIn K (.ref C) "__init__" = some (some (.ref I))) (tI : PySem.W.typeIn K (.ref I) = some (.type "function"))
    (l : K.lookup I = some ⟨oc, od, .func (PySem.W.fnOf "__init__" "BadDate.__init__" (defArgs s_BadDate) (defBody s_BadDate) (defScope s_BadDate) .none kV dc pm an cd ct), sl⟩) (c : PySem.W.codeIn K cd "BadDate.__init__" = true) (k : PySem.W.keepIn K (.ref I) = true)
    (n : PySem.W.findIn K (.ref C) "given" = some none) : Vz.XClA K mg "BadDate" "given" s_BadDate :=
  have F := fun_mk (st := s_BadDate) l c k
  { C := C, I := I, i := _, g := PySem.W.mg_of X G g, o := ⟨⟨_, _, _, _, _, _, _, _, _, _, _, _, _, _, _, xo, hb⟩, sa, eC, tC, kC⟩, iC := iC, tI := tI, F := ⟨_, F⟩, b := F.binds (ps := ["self", "given"]) fun _ _ _ _ _ _ us hl => match us, hl with | [_, _], _ => rfl, n := n, q := ⟨fun s us ws _ hl => Vz.kwA_two hl fun a b e1 e2 => by subst e1 e2; exact .of_eq rfl, Vz.kwA_rel⟩ }
def xm_BadAddress {K : PySem.W.Frag} {h : Heap} {mg : Str → Option Value} (X : K.In h) (G : h.Ns mainGlobals mg) {C : Addr} (g : PySem.W.nsIn K mainGlobals "BadAddress" = some (some (.ref C)))
    {nm qq : Str} {N : Addr} {bs bm : List Value} {sn : List Str} {sub : List Value} {ab : Bool} {col : Option Bool} {dd : Option Addr} {m0 m1 m2 m3 m5 : Option Value}
    (xo : K.lookup C = some (excClassObj nm qq C N bs bm true sn sub ab col dd m0 m1 m2 m3 m5 "ValueError.__new__")) (hb : PySem.HandSPX.refsVE bm = true)
    (sa : PySem.W.findIn K (.ref C) "__setattr__" = some (some (.builtin "object.__setattr__"))) (eC : PySem.W.subIn K (.ref C) (.type "BaseException") = some true) (tC : PySem.W.typeIn K (.ref C) = some (.type "type")) (kC : PySem.W.keepIn K (.ref C) = true)
    {I : Addr} {od an : Option Addr} {sl : Array (Option Value)} {oc kV dc pm cd ct : Value} (iC : PySem.W.findIn K (.ref C) "__init__" = some (some (.ref I))) (tI : PySem.W.typeIn K (.ref I) = some (.type "function"))
    (l : K.lookup I = some ⟨oc, od, .func (PySem.W.fnOf "__init__" "BadAddress.__init__" (defArgs s_BadAddress) (defBody s_BadAddress) (defScope s_BadAddress) .none kV dc pm an cd ct), sl⟩) (c : PySem.W.codeIn K cd "BadAddress.__init__" = true) (k : PySem.W.keepIn K (.ref I) = true)
    (n : PySem.W.findIn K (.ref C) "given" = some none) : Vz.XClA K mg "BadAddress" "given" s_BadAddress :=
  have F := fun_mk (st := s_BadAddress) l c k
  { C := C, I := I, i := _, g := PySem.W.mg_of X G g, o := ⟨⟨_, _, _, _, _, _, _, _, _, _, _, _, _, _, _, xo, hb⟩, sa, eC, tC, kC⟩, iC := iC, tI := tI, F := ⟨_, F⟩, b := F.binds (ps := ["self", "given"]) fun _ _ _ _ _ _ us hl => match us, hl with | [_, _], _ => rfl, n := n, q := ⟨fun s us ws _ hl => Vz.kwA_two hl fun a b e1 e2 => by subst e1 e2; exact .of_eq rfl, Vz.kwA_rel⟩ }
def xm_BadThing {K : PySem.W.Frag} {h : Heap} {mg : Str → Option Value} (X : K.In h) (G : h.Ns mainGlobals mg) {C : Addr} (g : PySem.W.nsIn K mainGlobals "BadThing" = some (some (.ref C)))
    {nm qq : Str} {N : Addr} {bs bm : List Value} {sn : List Str} {sub : List Value} {ab : Bool} {col : Option Bool} {dd : Option Addr} {m0 m1 m2 m3 m5 : Option Value}
    (xo : K.lookup C = some (excClassObj nm qq C N bs bm true sn sub ab col dd m0 m1 m2 m3 m5 "ValueError.__new__")) (hb : PySem.HandSPX.refsVE bm = true)
    (sa : PySem.W.findIn K (.ref C) "__setattr__" = some (some (.builtin "object.__setattr__"))) (eC : PySem.W.subIn K (.ref C) (.type "BaseException") = some true) (tC : PySem.W.typeIn K (.ref C) = some (.type "type")) (kC : PySem.W.keepIn K (.ref C) = true)
    {I : Addr} {od an : Option Addr} {sl : Array (Option Value)} {oc kV dc pm cd ct : Value} (iC : PySem.W.findIn K (.ref C) "__init__" = some (some (.ref I))) (tI : PySem.W.typeIn K (.ref I) = some (.type "function"))
    (l : K.lookup I = some ⟨oc, od, .func (PySem.W.fnOf "__init__" "BadThing.__init__" (defArgs s_BadThing) (defBody s_BadThing) (defScope s_BadThing) .none kV dc pm an cd ct), sl⟩) (c : PySem.W.codeIn K cd "BadThing.__init__" = true) (k : PySem.W.keepIn K (.ref I) = true)
    (n : PySem.W.findIn K (.ref C) "given" = some none) : Vz.XClA K mg "BadThing" "given" s_BadThing :=
  have F := fun_mk (st := s_BadThing) l c k
  { C := C, I := I, i := _, g := PySem.W.mg_of X G g, o := ⟨⟨_, _, _, _, _, _, _, _, _, _, _, _, _, _, _, xo, hb⟩, sa, eC, tC, kC⟩, iC := iC, tI := tI, F := ⟨_, F⟩, b := F.binds (ps := ["self", "given"]) fun _ _ _ _ _ _ us hl => match us, hl with | [_, _], _ => rfl, n := n, q := ⟨fun s us ws _ hl => Vz.kwA_two hl fun a b e1 e2 => by subst e1 e2; exact .of_eq rfl, Vz.kwA_rel⟩ }
def xm_BadDevice {K : PySem.W.Frag} {h : Heap} {mg : Str → Option Value} (X : K.In h) (G : h.Ns mainGlobals mg) {C : Addr} (g : PySem.W.nsIn K mainGlobals "BadDevice" = some (some (.ref C)))
    {nm qq : Str} {N : Addr} {bs bm : List Value} {sn : List Str} {sub : List Value} {ab : Bool} {col : Option Bool} {dd : Option Addr} {m0 m1 m2 m3 m5 : Option Value}
    (xo : K.lookup C = some (excClassObj nm qq C N bs bm true sn sub ab col dd m0 m1 m2 m3 m5 "ValueError.__new__")) (hb : PySem.HandSPX.refsVE bm = true)
    (sa : PySem.W.findIn K (.ref C) "__setattr__" = some (some (.builtin "object.__setattr__"))) (eC : PySem.W.subIn K (.ref C) (.type "BaseException") = some true) (tC : PySem.W.typeIn K (.ref C) = some (.type "type")) (kC : PySem.W.keepIn K (.ref C) = true)
    {I : Addr} {od an : Option Addr} {sl : Array (Option Value)} {oc kV dc pm cd ct : Value} (iC : PySem.W.findIn K (.ref C) "__init__" = some (some (.ref I))) (tI : PySem.W.typeIn K (.ref I) = some (.type "function"))
    (l : K.lookup I = some ⟨oc, od, .func (PySem.W.fnOf "__init__" "BadDevice.__init__" (defArgs s_BadDevice) (defBody s_BadDevice) (defScope s_BadDevice) .none kV dc pm an cd ct), sl⟩) (c : PySem.W.codeIn K cd "BadDevice.__init__" = true) (k : PySem.W.keepIn K (.ref I) = true)
    (n : PySem.W.findIn K (.ref C) "given" = some none) : Vz.XClA K mg "BadDevice" "given" s_BadDevice :=
  have F := fun_mk (st := s_BadDevice) l c k
  { C := C, I := I, i := _, g := PySem.W.mg_of X G g, o := ⟨⟨_, _, _, _, _, _, _, _, _, _, _, _, _, _, _, xo, hb⟩, sa, eC, tC, kC⟩, iC := iC, tI := tI, F := ⟨_, F⟩, b := F.binds (ps := ["self", "given"]) fun _ _ _ _ _ _ us hl => match us, hl with | [_, _], _ => rfl, n := n, q := ⟨fun s us ws _ hl => Vz.kwA_two hl fun a b e1 e2 => by subst e1 e2; exact .of_eq rfl, Vz.kwA_rel⟩ }
def xm_NoEntry {K : PySem.W.Frag} {h : Heap} {mg : Str → Option Value} (X : K.In h) (G : h.Ns mainGlobals mg) {C : Addr} (g : PySem.W.nsIn K mainGlobals "NoEntry" = some (some (.ref C)))
    {nm qq : Str} {N : Addr} {bs bm : List Value} {sn : List Str} {sub : List Value} {ab : Bool} {col : Option Bool} {dd : Option Addr} {m0 m1 m2 m3 m5 : Option Value}
    (xo : K.lookup C = some (excClassObj nm qq C N bs bm true sn sub ab col dd m0 m1 m2 m3 m5 "ValueError.__new__")) (hb : PySem.HandSPX.refsVE bm = true)
    (sa : PySem.W.findIn K (.ref C) "__setattr__" = some (some (.builtin "object.__setattr__"))) (eC : PySem.W.subIn K (.ref C) (.type "BaseException") = some true) (tC : PySem.W.typeIn K (.ref C) = some (.type "type")) (kC : PySem.W.keepIn K (.ref C) = true)
    {I : Addr} {od an : Option Addr} {sl : Array (Option Value)} {oc kV dc pm cd ct : Value} (iC : PySem.W.findIn K (.ref C) "__init__" = some (some (.ref I))) (tI : PySem.W.typeIn K (.ref I) = some (.type "function"))
    (l : K.lookup I = some ⟨oc, od, .func (PySem.W.fnOf "__init__" "NoEntry.__init__" (defArgs s_NoEntry) (defBody s_NoEntry) (defScope s_NoEntry) .none kV dc pm an cd ct), sl⟩) (c : PySem.W.codeIn K cd "NoEntry.__init__" = true) (k : PySem.W.keepIn K (.ref I) = true)
    (n : PySem.W.findIn K (.ref C) "given" = some none) : Vz.XClA K mg "NoEntry" "given" s_NoEntry :=
  have F := fun_mk (st := s_NoEntry) l c k
  { C := C, I := I, i := _, g := PySem.W.mg_of X G g, o := ⟨⟨_, _, _, _, _, _, _, _, _, _, _, _, _, _, _, xo, hb⟩, sa, eC, tC, kC⟩, iC := iC, tI := tI, F := ⟨_, F⟩, b := F.binds (ps := ["self", "given"]) fun _ _ _ _ _ _ us hl => match us, hl with | [_, _], _ => rfl, n := n, q := ⟨fun s us ws _ hl => Vz.kwA_two hl fun a b e1 e2 => by subst e1 e2; exact .of_eq rfl, Vz.kwA_rel⟩ }
def xm_Taken {K : PySem.W.Frag} {h : Heap} {mg : Str → Option Value} (X : K.In h) (G : h.Ns mainGlobals mg) {C : Addr} (g : PySem.W.nsIn K mainGlobals "Taken" = some (some (.ref C)))
    {nm qq : Str} {N : Addr} {bs bm : List Value} {sn : List Str} {sub : List Value} {ab : Bool} {col : Option Bool} {dd : Option Addr} {m0 m1 m2 m3 m5 : Option Value}
    (xo : K.lookup C = some (excClassObj nm qq C N bs bm true sn sub ab col dd m0 m1 m2 m3 m5 "ValueError.__new__")) (hb : PySem.HandSPX.refsVE bm = true)
    (sa : PySem.W.findIn K (.ref C) "__setattr__" = some (some (.builtin "object.__setattr__"))) (eC : PySem.W.subIn K (.ref C) (.type "BaseException") = some true) (tC : PySem.W.typeIn K (.ref C) = some (.type "type")) (kC : PySem.W.keepIn K (.ref C) = true)
    {I : Addr} {od an : Option Addr} {sl : Array (Option Value)} {oc kV dc pm cd ct : Value} (iC : PySem.W.findIn K (.ref C) "__init__" = some (some (.ref I))) (tI : PySem.W.typeIn K (.ref I) = some (.type "function"))
    (l : K.lookup I = some ⟨oc, od, .func (PySem.W.fnOf "__init__" "Taken.__init__" (defArgs s_Taken) (defBody s_Taken) (defScope s_Taken) .none kV dc pm an cd ct), sl⟩) (c : PySem.W.codeIn K cd "Taken.__init__" = true) (k : PySem.W.keepIn K (.ref I) = true)
    (n : PySem.W.findIn K (.ref C) "given" = some none) : Vz.XClA K mg "Taken" "given" s_Taken :=
  have F := fun_mk (st := s_Taken) l c k
  { C := C, I := I, i := _, g := PySem.W.mg_of X G g, o := ⟨⟨_, _, _, _, _, _, _, _, _, _, _, _, _, _, _, xo, hb⟩, sa, eC, tC, kC⟩, iC := iC, tI := tI, F := ⟨_, F⟩, b := F.binds (ps := ["self", "given"]) fun _ _ _ _ _ _ us hl => match us, hl with | [_, _], _ => rfl, n := n, q := ⟨fun s us ws _ hl => Vz.kwA_two hl fun a b e1 e2 => by subst e1 e2; exact .of_eq rfl, Vz.kwA_rel⟩ }
def xm_NoItem {K : PySem.W.Frag} {h : Heap} {mg : Str → Option Value} (X : K.In h) (G : h.Ns mainGlobals mg) {C : Addr} (g : PySem.W.nsIn K mainGlobals "NoItem" = some (some (.ref C)))
    {nm qq : Str} {N : Addr} {bs bm : List Value} {sn : List Str} {sub : List Value} {ab : Bool} {col : Option Bool} {dd : Option Addr} {m0 m1 m2 m3 m5 : Option Value}
    (xo : K.lookup C = some (excClassObj nm qq C N bs bm true sn sub ab col dd m0 m1 m2 m3 m5 "ValueError.__new__")) (hb : PySem.HandSPX.refsVE bm = true)
    (sa : PySem.W.findIn K (.ref C) "__setattr__" = some (some (.builtin "object.__setattr__"))) (eC : PySem.W.subIn K (.ref C) (.type "BaseException") = some true) (tC : PySem.W.typeIn K (.ref C) = some (.type "type")) (kC : PySem.W.keepIn K (.ref C) = true)
    {I : Addr} {od an : Option Addr} {sl : Array (Option Value)} {oc kV dc pm cd ct : Value} (iC : PySem.W.findIn K (.ref C) "__init__" = some (some (.ref I))) (tI : PySem.W.typeIn K (.ref I) = some (.type "function"))
    (l : K.lookup I = some ⟨oc, od, .func (PySem.W.fnOf "__init__" "NoItem.__init__" (defArgs s_NoItem) (defBody s_NoItem) (defScope s_NoItem) .none kV dc pm an cd ct), sl⟩) (c : PySem.W.codeIn K cd "NoItem.__init__" = true) (k : PySem.W.keepIn K (.ref I) = true)
    (n : PySem.W.findIn K (.ref C) "given" = some none) : Vz.XClA K mg "NoItem" "given" s_NoItem :=
  have F := fun_mk (st := s_NoItem) l c k
  { C := C, I := I, i := _, g := PySem.W.mg_of X G g, o := ⟨⟨_, _, _, _, _, _, _, _, _, _, _, _, _, _, _, xo, hb⟩, sa, eC, tC, kC⟩, iC := iC, tI := tI, F := ⟨_, F⟩, b := F.binds (ps := ["self", "given"]) fun _ _ _ _ _ _ us hl => match us, hl with | [_, _], _ => rfl, n := n, q := ⟨fun s us ws _ hl => Vz.kwA_two hl fun a b e1 e2 => by subst e1 e2; exact .of_eq rfl, Vz.kwA_rel⟩ }
def xm_BadFolder {K : PySem.W.Frag} {h : Heap} {mg : Str → Option Value} (X : K.In h) (G : h.Ns mainGlobals mg) {C : Addr} (g : PySem.W.nsIn K mainGlobals "BadFolder" = some (some (.ref C)))
    {nm qq : Str} {N : Addr} {bs bm : List Value} {sn : List Str} {sub : List Value} {ab : Bool} {col : Option Bool} {dd : Option Addr} {m0 m1 m2 m3 m5 : Option Value}
    (xo : K.lookup C = some (excClassObj nm qq C N bs bm true sn sub ab col dd m0 m1 m2 m3 m5 "ValueError.__new__")) (hb : PySem.HandSPX.refsVE bm = true)
    (sa : PySem.W.findIn K (.ref C) "__setattr__" = some (some (.builtin "object.__setattr__"))) (eC : PySem.W.subIn K (.ref C) (.type "BaseException") = some true) (tC : PySem.W.typeIn K (.ref C) = some (.type "type")) (kC : PySem.W.keepIn K (.ref C) = true)
    {I : Addr} {od an : Option Addr} {sl : Array (Option Value)} {oc kV dc pm cd ct : Value} (iC : PySem.W.findIn K (.ref C) "__init__" = some (some (.ref I))) (tI : PySem.W.typeIn K (.ref I) = some (.type "function"))
    (l : K.lookup I = some ⟨oc, od, .func (PySem.W.fnOf "__init__" "BadFolder.__init__" (defArgs s_BadFolder) (defBody s_BadFolder) (defScope s_BadFolder) .none kV dc pm an cd ct), sl⟩) (c : PySem.W.codeIn K cd "BadFolder.__init__" = true) (k : PySem.W.keepIn K (.ref I) = true)
    (n : PySem.W.findIn K (.ref C) "given" = some none) : Vz.XClA K mg "BadFolder" "given" s_BadFolder :=
  have F := fun_mk (st := s_BadFolder) l c k
  { C := C, I := I, i := _, g := PySem.W.mg_of X G g, o := ⟨⟨_, _, _, _, _, _, _, _, _, _, _, _, _, _, _, xo, hb⟩, sa, eC, tC, kC⟩, iC := iC, tI := tI, F := ⟨_, F⟩, b := F.binds (ps := ["self", "given"]) fun _ _ _ _ _ _ us hl => match us, hl with | [_, _], _ => rfl, n := n, q := ⟨fun s us ws _ hl => Vz.kwA_two hl fun a b e1 e2 => by subst e1 e2; exact .of_eq rfl, Vz.kwA_rel⟩ }
def xm_BadVector {K : PySem.W.Frag} {h : Heap} {mg : Str → Option Value} (X : K.In h) (G : h.Ns mainGlobals mg) {C : Addr} (g : PySem.W.nsIn K mainGlobals "BadVector" = some (some (.ref C)))
    {nm qq : Str} {N : Addr} {bs bm : List Value} {sn : List Str} {sub : List Value} {ab : Bool} {col : Option Bool} {dd : Option Addr} {m0 m1 m2 m3 m5 : Option Value}
    (xo : K.lookup C = some (excClassObj nm qq C N bs bm true sn sub ab col dd m0 m1 m2 m3 m5 "ValueError.__new__")) (hb : PySem.HandSPX.refsVE bm = true)
    (sa : PySem.W.findIn K (.ref C) "__setattr__" = some (some (.builtin "object.__setattr__"))) (eC : PySem.W.subIn K (.ref C) (.type "BaseException") = some true) (tC : PySem.W.typeIn K (.ref C) = some (.type "type")) (kC : PySem.W.keepIn K (.ref C) = true)
    {I : Addr} {od an : Option Addr} {sl : Array (Option Value)} {oc kV dc pm cd ct : Value} (iC : PySem.W.findIn K (.ref C) "__init__" = some (some (.ref I))) (tI : PySem.W.typeIn K (.ref I) = some (.type "function"))
    (l : K.lookup I = some ⟨oc, od, .func (PySem.W.fnOf "__init__" "BadVector.__init__" (defArgs s_BadVector) (defBody s_BadVector) (defScope s_BadVector) .none kV dc pm an cd ct), sl⟩) (c : PySem.W.codeIn K cd "BadVector.__init__" = true) (k : PySem.W.keepIn K (.ref I) = true)
    (n : PySem.W.findIn K (.ref C) "given" = some none) : Vz.XClA K mg "BadVector" "given" s_BadVector :=
  have F := fun_mk (st := s_BadVector) l c k
  { C := C, I := I, i := _, g := PySem.W.mg_of X G g, o := ⟨⟨_, _, _, _, _, _, _, _, _, _, _, _, _, _, _, xo, hb⟩, sa, eC, tC, kC⟩, iC := iC, tI := tI, F := ⟨_, F⟩, b := F.binds (ps := ["self", "given"]) fun _ _ _ _ _ _ us hl => match us, hl with | [_, _], _ => rfl, n := n, q := ⟨fun s us ws _ hl => Vz.kwA_two hl fun a b e1 e2 => by subst e1 e2; exact .of_eq rfl, Vz.kwA_rel⟩ }
def xm_BadEntry {K : PySem.W.Frag} {h : Heap} {mg : Str → Option Value} (X : K.In h) (G : h.Ns mainGlobals mg) {C : Addr} (g : PySem.W.nsIn K mainGlobals "BadEntry" = some (some (.ref C)))
    {nm qq : Str} {N : Addr} {bs bm : List Value} {sn : List Str} {sub : List Value} {ab : Bool} {col : Option Bool} {dd : Option Addr} {m0 m1 m2 m3 m5 : Option Value}
    (xo : K.lookup C = some (excClassObj nm qq C N bs bm true sn sub ab col dd m0 m1 m2 m3 m5 "ValueError.__new__")) (hb : PySem.HandSPX.refsVE bm = true)
    (sa : PySem.W.findIn K (.ref C) "__setattr__" = some (some (.builtin "object.__setattr__"))) (eC : PySem.W.subIn K (.ref C) (.type "BaseException") = some true) (tC : PySem.W.typeIn K (.ref C) = some (.type "type")) (kC : PySem.W.keepIn K (.ref C) = true)
    {I : Addr} {od an : Option Addr} {sl : Array (Option Value)} {oc kV dc pm cd ct : Value} (iC : PySem.W.findIn K (.ref C) "__init__" = some (some (.ref I))) (tI : PySem.W.typeIn K (.ref I) = some (.type "function"))
    (l : K.lookup I = some ⟨oc, od, .func (PySem.W.fnOf "__init__" "BadEntry.__init__" (defArgs s_BadEntry) (defBody s_BadEntry) (defScope s_BadEntry) .none kV dc pm an cd ct), sl⟩) (c : PySem.W.codeIn K cd "BadEntry.__init__" = true) (k : PySem.W.keepIn K (.ref I) = true)
    (n : PySem.W.findIn K (.ref C) "field" = some none) : Vz.XClA K mg "BadEntry" "field" s_BadEntry :=
  have F := fun_mk (st := s_BadEntry) l c k
  { C := C, I := I, i := _, g := PySem.W.mg_of X G g, o := ⟨⟨_, _, _, _, _, _, _, _, _, _, _, _, _, _, _, xo, hb⟩, sa, eC, tC, kC⟩, iC := iC, tI := tI, F := ⟨_, F⟩, b := F.binds (ps := ["self", "field"]) fun _ _ _ _ _ _ us hl => match us, hl with | [_, _], _ => rfl, n := n, q := ⟨fun s us ws _ hl => Vz.kwA_two hl fun a b e1 e2 => by subst e1 e2; exact .of_eq rfl, Vz.kwA_rel⟩ }
def xm_BadNumber {K : PySem.W.Frag} {h : Heap} {mg : Str → Option Value} (X : K.In h) (G : h.Ns mainGlobals mg) {C : Addr} (g : PySem.W.nsIn K mainGlobals "BadNumber" = some (some (.ref C)))
    {nm qq : Str} {N : Addr} {bs bm : List Value} {sn : List Str} {sub : List Value} {ab : Bool} {col : Option Bool} {dd : Option Addr} {m0 m1 m2 m3 m5 : Option Value}
    (xo : K.lookup C = some (excClassObj nm qq C N bs bm true sn sub ab col dd m0 m1 m2 m3 m5 "ValueError.__new__")) (hb : PySem.HandSPX.refsVE bm = true)
    (sa : PySem.W.findIn K (.ref C) "__setattr__" = some (some (.builtin "object.__setattr__"))) (eC : PySem.W.subIn K (.ref C) (.type "BaseException") = some true) (tC : PySem.W.typeIn K (.ref C) = some (.type "type")) (kC : PySem.W.keepIn K (.ref C) = true)
    {I : Addr} {od an : Option Addr} {sl : Array (Option Value)} {oc kV dc pm cd ct : Value} (iC : PySem.W.findIn K (.ref C) "__init__" = some (some (.ref I))) (tI : PySem.W.typeIn K (.ref I) = some (.type "function"))
    (l : K.lookup I = some ⟨oc, od, .func (PySem.W.fnOf "__init__" "BadNumber.__init__" (defArgs s_BadNumber) (defBody s_BadNumber) (defScope s_BadNumber) .none kV dc pm an cd ct), sl⟩) (c : PySem.W.codeIn K cd "BadNumber.__init__" = true) (k : PySem.W.keepIn K (.ref I) = true)
    (n : PySem.W.findIn K (.ref C) "field" = some none) : Vz.XClA K mg "BadNumber" "field" s_BadNumber :=
  have F := fun_mk (st := s_BadNumber) l c k
  { C := C, I := I, i := _, g := PySem.W.mg_of X G g, o := ⟨⟨_, _, _, _, _, _, _, _, _, _, _, _, _, _, _, xo, hb⟩, sa, eC, tC, kC⟩, iC := iC, tI := tI, F := ⟨_, F⟩, b := F.binds (ps := ["self", "field"]) fun _ _ _ _ _ _ us hl => match us, hl with | [_, _], _ => rfl, n := n, q := ⟨fun s us ws _ hl => Vz.kwA_two hl fun a b e1 e2 => by subst e1 e2; exact .of_eq rfl, Vz.kwA_rel⟩ }
def xm_BadWorld {K : PySem.W.Frag} {h : Heap} {mg : Str → Option Value} (X : K.In h) (G : h.Ns mainGlobals mg) {C : Addr} (g : PySem.W.nsIn K mainGlobals "BadWorld" = some (some (.ref C)))
    {nm qq : Str} {N : Addr} {bs bm : List Value} {sn : List Str} {sub : List Value} {ab : Bool} {col : Option Bool} {dd : Option Addr} {m0 m1 m2 m3 m5 : Option Value}
    (xo : K.lookup C = some (excClassObj nm qq C N bs bm true sn sub ab col dd m0 m1 m2 m3 m5 "ValueError.__new__")) (hb : PySem.HandSPX.refsVE bm = true)
    (sa : PySem.W.findIn K (.ref C) "__setattr__" = some (some (.builtin "object.__setattr__"))) (eC : PySem.W.subIn K (.ref C) (.type "BaseException") = some true) (tC : PySem.W.typeIn K (.ref C) = some (.type "type")) (kC : PySem.W.keepIn K (.ref C) = true)
    {I : Addr} {od an : Option Addr} {sl : Array (Option Value)} {oc kV dc pm cd ct : Value} (iC : PySem.W.findIn K (.ref C) "__init__" = some (some (.ref I))) (tI : PySem.W.typeIn K (.ref I) = some (.type "function"))
    (l : K.lookup I = some ⟨oc, od, .func (PySem.W.fnOf "__init__" "BadWorld.__init__" (defArgs s_BadWorld) (defBody s_BadWorld) (defScope s_BadWorld) .none kV dc pm an cd ct), sl⟩) (c : PySem.W.codeIn K cd "BadWorld.__init__" = true) (k : PySem.W.keepIn K (.ref I) = true)
    (n : PySem.W.findIn K (.ref C) "number" = some none) : Vz.XClA K mg "BadWorld" "number" s_BadWorld :=
  have F := fun_mk (st := s_BadWorld) l c k
  { C := C, I := I, i := _, g := PySem.W.mg_of X G g, o := ⟨⟨_, _, _, _, _, _, _, _, _, _, _, _, _, _, _, xo, hb⟩, sa, eC, tC, kC⟩, iC := iC, tI := tI, F := ⟨_, F⟩, b := F.binds (ps := ["self", "number"]) fun _ _ _ _ _ _ us hl => match us, hl with | [_, _], _ => rfl, n := n, q := ⟨fun s us ws _ hl => Vz.kwA_two hl fun a b e1 e2 => by subst e1 e2; exact .of_eq rfl, Vz.kwA_rel⟩ }
def xm_BadTrouble {K : PySem.W.Frag} {h : Heap} {mg : Str → Option Value} (X : K.In h) (G : h.Ns mainGlobals mg) {C : Addr} (g : PySem.W.nsIn K mainGlobals "BadTrouble" = some (some (.ref C)))
    {nm qq : Str} {N : Addr} {bs bm : List Value} {sn : List Str} {sub : List Value} {ab : Bool} {col : Option Bool} {dd : Option Addr} {m0 m1 m2 m3 m5 : Option Value}
    (xo : K.lookup C = some (excClassObj nm qq C N bs bm true sn sub ab col dd m0 m1 m2 m3 m5 "ValueError.__new__")) (hb : PySem.HandSPX.refsVE bm = true)
    (sa : PySem.W.findIn K (.ref C) "__setattr__" = some (some (.builtin "object.__setattr__"))) (eC : PySem.W.subIn K (.ref C) (.type "BaseException") = some true) (tC : PySem.W.typeIn K (.ref C) = some (.type "type")) (kC : PySem.W.keepIn K (.ref C) = true)
    {I : Addr} {od an : Option Addr} {sl : Array (Option Value)} {oc kV dc pm cd ct : Value} (iC : PySem.W.findIn K (.ref C) "__init__" = some (some (.ref I))) (tI : PySem.W.typeIn K (.ref I) = some (.type "function"))
    (l : K.lookup I = some ⟨oc, od, .func (PySem.W.fnOf "__init__" "BadTrouble.__init__" (defArgs s_BadTrouble) (defBody s_BadTrouble) (defScope s_BadTrouble) .none kV dc pm an cd ct), sl⟩) (c : PySem.W.codeIn K cd "BadTrouble.__init__" = true) (k : PySem.W.keepIn K (.ref I) = true)
    (n : PySem.W.findIn K (.ref C) "number" = some none) : Vz.XClA K mg "BadTrouble" "number" s_BadTrouble :=
  have F := fun_mk (st := s_BadTrouble) l c k
  { C := C, I := I, i := _, g := PySem.W.mg_of X G g, o := ⟨⟨_, _, _, _, _, _, _, _, _, _, _, _, _, _, _, xo, hb⟩, sa, eC, tC, kC⟩, iC := iC, tI := tI, F := ⟨_, F⟩, b := F.binds (ps := ["self", "number"]) fun _ _ _ _ _ _ us hl => match us, hl with | [_, _], _ => rfl, n := n, q := ⟨fun s us ws _ hl => Vz.kwA_two hl fun a b e1 e2 => by subst e1 e2; exact .of_eq rfl, Vz.kwA_rel⟩ }
def xm_BadShelf {K : PySem.W.Frag} {h : Heap} {mg : Str → Option Value} (X : K.In h) (G : h.Ns mainGlobals mg) {C : Addr} (g : PySem.W.nsIn K mainGlobals "BadShelf" = some (some (.ref C)))
    {nm qq : Str} {N : Addr} {bs bm : List Value} {sn : List Str} {sub : List Value} {ab : Bool} {col : Option Bool} {dd : Option Addr} {m0 m1 m2 m3 m5 : Option Value}
    (xo : K.lookup C = some (excClassObj nm qq C N bs bm true sn sub ab col dd m0 m1 m2 m3 m5 "ValueError.__new__")) (hb : PySem.HandSPX.refsVE bm = true)
    (sa : PySem.W.findIn K (.ref C) "__setattr__" = some (some (.builtin "object.__setattr__"))) (eC : PySem.W.subIn K (.ref C) (.type "BaseException") = some true) (tC : PySem.W.typeIn K (.ref C) = some (.type "type")) (kC : PySem.W.keepIn K (.ref C) = true)
    {I : Addr} {od an : Option Addr} {sl : Array (Option Value)} {oc kV dc pm cd ct : Value} (iC : PySem.W.findIn K (.ref C) "__init__" = some (some (.ref I))) (tI : PySem.W.typeIn K (.ref I) = some (.type "function"))
    (l : K.lookup I = some ⟨oc, od, .func (PySem.W.fnOf "__init__" "BadShelf.__init__" (defArgs s_BadShelf) (defBody s_BadShelf) (defScope s_BadShelf) .none kV dc pm an cd ct), sl⟩) (c : PySem.W.codeIn K cd "BadShelf.__init__" = true) (k : PySem.W.keepIn K (.ref I) = true)
    (n : PySem.W.findIn K (.ref C) "number" = some none) : Vz.XClA K mg "BadShelf" "number" s_BadShelf :=
  have F := fun_mk (st := s_BadShelf) l c k
  { C := C, I := I, i := _, g := PySem.W.mg_of X G g, o := ⟨⟨_, _, _, _, _, _, _, _, _, _, _, _, _, _, _, xo, hb⟩, sa, eC, tC, kC⟩, iC := iC, tI := tI, F := ⟨_, F⟩, b := F.binds (ps := ["self", "number"]) fun _ _ _ _ _ _ us hl => match us, hl with | [_, _], _ => rfl, n := n, q := ⟨fun s us ws _ hl => Vz.kwA_two hl fun a b e1 e2 => by subst e1 e2; exact .of_eq rfl, Vz.kwA_rel⟩ }
def xm_NoSighting {K : PySem.W.Frag} {h : Heap} {mg : Str → Option Value} (X : K.In h) (G : h.Ns mainGlobals mg) {C : Addr} (g : PySem.W.nsIn K mainGlobals "NoSighting" = some (some (.ref C)))
    {nm qq : Str} {N : Addr} {bs bm : List Value} {sn : List Str} {sub : List Value} {ab : Bool} {col : Option Bool} {dd : Option Addr} {m0 m1 m2 m3 m5 : Option Value}
    (xo : K.lookup C = some (excClassObj nm qq C N bs bm true sn sub ab col dd m0 m1 m2 m3 m5 "ValueError.__new__")) (hb : PySem.HandSPX.refsVE bm = true)
    (sa : PySem.W.findIn K (.ref C) "__setattr__" = some (some (.builtin "object.__setattr__"))) (eC : PySem.W.subIn K (.ref C) (.type "BaseException") = some true) (tC : PySem.W.typeIn K (.ref C) = some (.type "type")) (kC : PySem.W.keepIn K (.ref C) = true)
    {I : Addr} {od an : Option Addr} {sl : Array (Option Value)} {oc kV dc pm cd ct : Value} (iC : PySem.W.findIn K (.ref C) "__init__" = some (some (.ref I))) (tI : PySem.W.typeIn K (.ref I) = some (.type "function"))
    (l : K.lookup I = some ⟨oc, od, .func (PySem.W.fnOf "__init__" "NoSighting.__init__" (defArgs s_NoSighting) (defBody s_NoSighting) (defScope s_NoSighting) .none kV dc pm an cd ct), sl⟩) (c : PySem.W.codeIn K cd "NoSighting.__init__" = true) (k : PySem.W.keepIn K (.ref I) = true)
    (n : PySem.W.findIn K (.ref C) "number" = some none) : Vz.XClA K mg "NoSighting" "number" s_NoSighting :=
  have F := fun_mk (st := s_NoSighting) l c k
  { C := C, I := I, i := _, g := PySem.W.mg_of X G g, o := ⟨⟨_, _, _, _, _, _, _, _, _, _, _, _, _, _, _, xo, hb⟩, sa, eC, tC, kC⟩, iC := iC, tI := tI, F := ⟨_, F⟩, b := F.binds (ps := ["self", "number"]) fun _ _ _ _ _ _ us hl => match us, hl with | [_, _], _ => rfl, n := n, q := ⟨fun s us ws _ hl => Vz.kwA_two hl fun a b e1 e2 => by subst e1 e2; exact .of_eq rfl, Vz.kwA_rel⟩ }
def xm_BadLibrary {K : PySem.W.Frag} {h : Heap} {mg : Str → Option Value} (X : K.In h) (G : h.Ns mainGlobals mg) {C : Addr} (g : PySem.W.nsIn K mainGlobals "BadLibrary" = some (some (.ref C)))
    {nm qq : Str} {N : Addr} {bs bm : List Value} {sn : List Str} {sub : List Value} {ab : Bool} {col : Option Bool} {dd : Option Addr} {m0 m1 m2 m3 m5 : Option Value}
    (xo : K.lookup C = some (excClassObj nm qq C N bs bm true sn sub ab col dd m0 m1 m2 m3 m5 "ValueError.__new__")) (hb : PySem.HandSPX.refsVE bm = true)
    (sa : PySem.W.findIn K (.ref C) "__setattr__" = some (some (.builtin "object.__setattr__"))) (eC : PySem.W.subIn K (.ref C) (.type "BaseException") = some true) (tC : PySem.W.typeIn K (.ref C) = some (.type "type")) (kC : PySem.W.keepIn K (.ref C) = true)
    {I : Addr} {od an : Option Addr} {sl : Array (Option Value)} {oc kV dc pm cd ct : Value} (iC : PySem.W.findIn K (.ref C) "__init__" = some (some (.ref I))) (tI : PySem.W.typeIn K (.ref I) = some (.type "function"))
    (l : K.lookup I = some ⟨oc, od, .func (PySem.W.fnOf "__init__" "BadLibrary.__init__" (defArgs s_BadLibrary) (defBody s_BadLibrary) (defScope s_BadLibrary) .none kV dc pm an cd ct), sl⟩) (c : PySem.W.codeIn K cd "BadLibrary.__init__" = true) (k : PySem.W.keepIn K (.ref I) = true)
    (n : PySem.W.findIn K (.ref C) "number" = some none) : Vz.XClA K mg "BadLibrary" "number" s_BadLibrary :=
  have F := fun_mk (st := s_BadLibrary) l c k
  { C := C, I := I, i := _, g := PySem.W.mg_of X G g, o := ⟨⟨_, _, _, _, _, _, _, _, _, _, _, _, _, _, _, xo, hb⟩, sa, eC, tC, kC⟩, iC := iC, tI := tI, F := ⟨_, F⟩, b := F.binds (ps := ["self", "number"]) fun _ _ _ _ _ _ us hl => match us, hl with | [_, _], _ => rfl, n := n, q := ⟨fun s us ws _ hl => Vz.kwA_two hl fun a b e1 e2 => by subst e1 e2; exact .of_eq rfl, Vz.kwA_rel⟩ }
def xm_BadWindow {K : PySem.W.Frag} {h : Heap} {mg : Str → Option Value} (X : K.In h) (G : h.Ns mainGlobals mg) {C : Addr} (g : PySem.W.nsIn K mainGlobals "BadWindow" = some (some (.ref C)))
    {nm qq : Str} {N : Addr} {bs bm : List Value} {sn : List Str} {sub : List Value} {ab : Bool} {col : Option Bool} {dd : Option Addr} {m0 m1 m2 m3 m5 : Option Value}
    (xo : K.lookup C = some (excClassObj nm qq C N bs bm true sn sub ab col dd m0 m1 m2 m3 m5 "ValueError.__new__")) (hb : PySem.HandSPX.refsVE bm = true)
    (sa : PySem.W.findIn K (.ref C) "__setattr__" = some (some (.builtin "object.__setattr__"))) (eC : PySem.W.subIn K (.ref C) (.type "BaseException") = some true) (tC : PySem.W.typeIn K (.ref C) = some (.type "type")) (kC : PySem.W.keepIn K (.ref C) = true)
    {I : Addr} {od an : Option Addr} {sl : Array (Option Value)} {oc kV dc pm cd ct : Value} (iC : PySem.W.findIn K (.ref C) "__init__" = some (some (.ref I))) (tI : PySem.W.typeIn K (.ref I) = some (.type "function"))
    (l : K.lookup I = some ⟨oc, od, .func (PySem.W.fnOf "__init__" "BadWindow.__init__" (defArgs s_BadWindow) (defBody s_BadWindow) (defScope s_BadWindow) .none kV dc pm an cd ct), sl⟩) (c : PySem.W.codeIn K cd "BadWindow.__init__" = true) (k : PySem.W.keepIn K (.ref I) = true)
    (n : PySem.W.findIn K (.ref C) "number" = some none) : Vz.XClA K mg "BadWindow" "number" s_BadWindow :=
  have F := fun_mk (st := s_BadWindow) l c k
  { C := C, I := I, i := _, g := PySem.W.mg_of X G g, o := ⟨⟨_, _, _, _, _, _, _, _, _, _, _, _, _, _, _, xo, hb⟩, sa, eC, tC, kC⟩, iC := iC, tI := tI, F := ⟨_, F⟩, b := F.binds (ps := ["self", "number"]) fun _ _ _ _ _ _ us hl => match us, hl with | [_, _], _ => rfl, n := n, q := ⟨fun s us ws _ hl => Vz.kwA_two hl fun a b e1 e2 => by subst e1 e2; exact .of_eq rfl, Vz.kwA_rel⟩ }
def xm_BadOffer {K : PySem.W.Frag} {h : Heap} {mg : Str → Option Value} (X : K.In h) (G : h.Ns mainGlobals mg) {C : Addr} (g : PySem.W.nsIn K mainGlobals "BadOffer" = some (some (.ref C)))
    {nm qq : Str} {N : Addr} {bs bm : List Value} {sn : List Str} {sub : List Value} {ab : Bool} {col : Option Bool} {dd : Option Addr} {m0 m1 m2 m3 m5 : Option Value}
    (xo : K.lookup C = some (excClassObj nm qq C N bs bm true sn sub ab col dd m0 m1 m2 m3 m5 "ValueError.__new__")) (hb : PySem.HandSPX.refsVE bm = true)
    (sa : PySem.W.findIn K (.ref C) "__setattr__" = some (some (.builtin "object.__setattr__"))) (eC : PySem.W.subIn K (.ref C) (.type "BaseException") = some true) (tC : PySem.W.typeIn K (.ref C) = some (.type "type")) (kC : PySem.W.keepIn K (.ref C) = true)
    {I : Addr} {od an : Option Addr} {sl : Array (Option Value)} {oc kV dc pm cd ct : Value} (iC : PySem.W.findIn K (.ref C) "__init__" = some (some (.ref I))) (tI : PySem.W.typeIn K (.ref I) = some (.type "function"))
    (l : K.lookup I = some ⟨oc, od, .func (PySem.W.fnOf "__init__" "BadOffer.__init__" (defArgs s_BadOffer) (defBody s_BadOffer) (defScope s_BadOffer) .none kV dc pm an cd ct), sl⟩) (c : PySem.W.codeIn K cd "BadOffer.__init__" = true) (k : PySem.W.keepIn K (.ref I) = true)
    (n : PySem.W.findIn K (.ref C) "number" = some none) : Vz.XClA K mg "BadOffer" "number" s_BadOffer :=
  have F := fun_mk (st := s_BadOffer) l c k
  { C := C, I := I, i := _, g := PySem.W.mg_of X G g, o := ⟨⟨_, _, _, _, _, _, _, _, _, _, _, _, _, _, _, xo, hb⟩, sa, eC, tC, kC⟩, iC := iC, tI := tI, F := ⟨_, F⟩, b := F.binds (ps := ["self", "number"]) fun _ _ _ _ _ _ us hl => match us, hl with | [_, _], _ => rfl, n := n, q := ⟨fun s us ws _ hl => Vz.kwA_two hl fun a b e1 e2 => by subst e1 e2; exact .of_eq rfl, Vz.kwA_rel⟩ }
def xm_BadLog {K : PySem.W.Frag} {h : Heap} {mg : Str → Option Value} (X : K.In h) (G : h.Ns mainGlobals mg) {C : Addr} (g : PySem.W.nsIn K mainGlobals "BadLog" = some (some (.ref C)))
    {nm qq : Str} {N : Addr} {bs bm : List Value} {sn : List Str} {sub : List Value} {ab : Bool} {col : Option Bool} {dd : Option Addr} {m0 m1 m2 m3 m5 : Option Value}
    (xo : K.lookup C = some (excClassObj nm qq C N bs bm true sn sub ab col dd m0 m1 m2 m3 m5 "ValueError.__new__")) (hb : PySem.HandSPX.refsVE bm = true)
    (sa : PySem.W.findIn K (.ref C) "__setattr__" = some (some (.builtin "object.__setattr__"))) (eC : PySem.W.subIn K (.ref C) (.type "BaseException") = some true) (tC : PySem.W.typeIn K (.ref C) = some (.type "type")) (kC : PySem.W.keepIn K (.ref C) = true)
    {I : Addr} {od an : Option Addr} {sl : Array (Option Value)} {oc kV dc pm cd ct : Value} (iC : PySem.W.findIn K (.ref C) "__init__" = some (some (.ref I))) (tI : PySem.W.typeIn K (.ref I) = some (.type "function"))
    (l : K.lookup I = some ⟨oc, od, .func (PySem.W.fnOf "__init__" "BadLog.__init__" (defArgs s_BadLog) (defBody s_BadLog) (defScope s_BadLog) .none kV dc pm an cd ct), sl⟩) (c : PySem.W.codeIn K cd "BadLog.__init__" = true) (k : PySem.W.keepIn K (.ref I) = true)
    (n : PySem.W.findIn K (.ref C) "number" = some none) : Vz.XClA K mg "BadLog" "number" s_BadLog :=
  have F := fun_mk (st := s_BadLog) l c k
  { C := C, I := I, i := _, g := PySem.W.mg_of X G g, o := ⟨⟨_, _, _, _, _, _, _, _, _, _, _, _, _, _, _, xo, hb⟩, sa, eC, tC, kC⟩, iC := iC, tI := tI, F := ⟨_, F⟩, b := F.binds (ps := ["self", "number"]) fun _ _ _ _ _ _ us hl => match us, hl with | [_, _], _ => rfl, n := n, q := ⟨fun s us ws _ hl => Vz.kwA_two hl fun a b e1 e2 => by subst e1 e2; exact .of_eq rfl, Vz.kwA_rel⟩ }
def xm_NoAnswer {K : PySem.W.Frag} {h : Heap} {mg : Str → Option Value} (X : K.In h) (G : h.Ns mainGlobals mg) {C : Addr} (g : PySem.W.nsIn K mainGlobals "NoAnswer" = some (some (.ref C)))
    {nm qq : Str} {N : Addr} {bs bm : List Value} {sn : List Str} {sub : List Value} {ab : Bool} {col : Option Bool} {dd : Option Addr} {m0 m1 m2 m3 m5 : Option Value}
    (xo : K.lookup C = some (excClassObj nm qq C N bs bm true sn sub ab col dd m0 m1 m2 m3 m5 "ValueError.__new__")) (hb : PySem.HandSPX.refsVE bm = true)
    (sa : PySem.W.findIn K (.ref C) "__setattr__" = some (some (.builtin "object.__setattr__"))) (eC : PySem.W.subIn K (.ref C) (.type "BaseException") = some true) (tC : PySem.W.typeIn K (.ref C) = some (.type "type")) (kC : PySem.W.keepIn K (.ref C) = true)
    {I : Addr} {od an : Option Addr} {sl : Array (Option Value)} {oc kV dc pm cd ct : Value} (iC : PySem.W.findIn K (.ref C) "__init__" = some (some (.ref I))) (tI : PySem.W.typeIn K (.ref I) = some (.type "function"))
    (l : K.lookup I = some ⟨oc, od, .func (PySem.W.fnOf "__init__" "NoAnswer.__init__" (defArgs s_NoAnswer) (defBody s_NoAnswer) (defScope s_NoAnswer) .none kV dc pm an cd ct), sl⟩) (c : PySem.W.codeIn K cd "NoAnswer.__init__" = true) (k : PySem.W.keepIn K (.ref I) = true)
    (n : PySem.W.findIn K (.ref C) "number" = some none) : Vz.XClA K mg "NoAnswer" "number" s_NoAnswer :=
  have F := fun_mk (st := s_NoAnswer) l c k
  { C := C, I := I, i := _, g := PySem.W.mg_of X G g, o := ⟨⟨_, _, _, _, _, _, _, _, _, _, _, _, _, _, _, xo, hb⟩, sa, eC, tC, kC⟩, iC := iC, tI := tI, F := ⟨_, F⟩, b := F.binds (ps := ["self", "number"]) fun _ _ _ _ _ _ us hl => match us, hl with | [_, _], _ => rfl, n := n, q := ⟨fun s us ws _ hl => Vz.kwA_two hl fun a b e1 e2 => by subst e1 e2; exact .of_eq rfl, Vz.kwA_rel⟩ }
def xm_BadBundle {K : PySem.W.Frag} {h : Heap} {mg : Str → Option Value} (X : K.In h) (G : h.Ns mainGlobals mg) {C : Addr} (g : PySem.W.nsIn K mainGlobals "BadBundle" = some (some (.ref C)))
    {nm qq : Str} {N : Addr} {bs bm : List Value} {sn : List Str} {sub : List Value} {ab : Bool} {col : Option Bool} {dd : Option Addr} {m0 m1 m2 m3 m5 : Option Value}
    (xo : K.lookup C = some (excClassObj nm qq C N bs bm true sn sub ab col dd m0 m1 m2 m3 m5 "ValueError.__new__")) (hb : PySem.HandSPX.refsVE bm = true)
    (sa : PySem.W.findIn K (.ref C) "__setattr__" = some (some (.builtin "object.__setattr__"))) (eC : PySem.W.subIn K (.ref C) (.type "BaseException") = some true) (tC : PySem.W.typeIn K (.ref C) = some (.type "type")) (kC : PySem.W.keepIn K (.ref C) = true)
    {I : Addr} {od an : Option Addr} {sl : Array (Option Value)} {oc kV dc pm cd ct : Value} (iC : PySem.W.findIn K (.ref C) "__init__" = some (some (.ref I))) (tI : PySem.W.typeIn K (.ref I) = some (.type "function"))
    (l : K.lookup I = some ⟨oc, od, .func (PySem.W.fnOf "__init__" "BadBundle.__init__" (defArgs s_BadBundle) (defBody s_BadBundle) (defScope s_BadBundle) .none kV dc pm an cd ct), sl⟩) (c : PySem.W.codeIn K cd "BadBundle.__init__" = true) (k : PySem.W.keepIn K (.ref I) = true)
    (n : PySem.W.findIn K (.ref C) "number" = some none) : Vz.XClA K mg "BadBundle" "number" s_BadBundle :=
  have F := fun_mk (st := s_BadBundle) l c k
  { C := C, I := I, i := _, g := PySem.W.mg_of X G g, o := ⟨⟨_, _, _, _, _, _, _, _, _, _, _, _, _, _, _, xo, hb⟩, sa, eC, tC, kC⟩, iC := iC, tI := tI, F := ⟨_, F⟩, b := F.binds (ps := ["self", "number"]) fun _ _ _ _ _ _ us hl => match us, hl with | [_, _], _ => rfl, n := n, q := ⟨fun s us ws _ hl => Vz.kwA_two hl fun a b e1 e2 => by subst e1 e2; exact .of_eq rfl, Vz.kwA_rel⟩ }
def xm_TooMany {K : PySem.W.Frag} {h : Heap} {mg : Str → Option Value} (X : K.In h) (G : h.Ns mainGlobals mg) {C : Addr} (g : PySem.W.nsIn K mainGlobals "TooMany" = some (some (.ref C)))
    {nm qq : Str} {N : Addr} {bs bm : List Value} {sn : List Str} {sub : List Value} {ab : Bool} {col : Option Bool} {dd : Option Addr} {m0 m1 m2 m3 m5 : Option Value}
    (xo : K.lookup C = some (excClassObj nm qq C N bs bm true sn sub ab col dd m0 m1 m2 m3 m5 "ValueError.__new__")) (hb : PySem.HandSPX.refsVE bm = true)
    (sa : PySem.W.findIn K (.ref C) "__setattr__" = some (some (.builtin "object.__setattr__"))) (eC : PySem.W.subIn K (.ref C) (.type "BaseException") = some true) (tC : PySem.W.typeIn K (.ref C) = some (.type "type")) (kC : PySem.W.keepIn K (.ref C) = true)
    {I : Addr} {od an : Option Addr} {sl : Array (Option Value)} {oc kV dc pm cd ct : Value} (iC : PySem.W.findIn K (.ref C) "__init__" = some (some (.ref I))) (tI : PySem.W.typeIn K (.ref I) = some (.type "function"))
    (l : K.lookup I = some ⟨oc, od, .func (PySem.W.fnOf "__init__" "TooMany.__init__" (defArgs s_TooMany) (defBody s_TooMany) (defScope s_TooMany) .none kV dc pm an cd ct), sl⟩) (c : PySem.W.codeIn K cd "TooMany.__init__" = true) (k : PySem.W.keepIn K (.ref I) = true)
    (n : PySem.W.findIn K (.ref C) "what" = some none) : Vz.XClA K mg "TooMany" "what" s_TooMany :=
  have F := fun_mk (st := s_TooMany) l c k
  { C := C, I := I, i := _, g := PySem.W.mg_of X G g, o := ⟨⟨_, _, _, _, _, _, _, _, _, _, _, _, _, _, _, xo, hb⟩, sa, eC, tC, kC⟩, iC := iC, tI := tI, F := ⟨_, F⟩, b := F.binds (ps := ["self", "what"]) fun _ _ _ _ _ _ us hl => match us, hl with | [_, _], _ => rfl, n := n, q := ⟨fun s us ws _ hl => Vz.kwA_two hl fun a b e1 e2 => by subst e1 e2; exact .of_eq rfl, Vz.kwA_rel⟩ }
def xm_Torn {K : PySem.W.Frag} {h : Heap} {mg : Str → Option Value} (X : K.In h) (G : h.Ns mainGlobals mg) {C : Addr} (g : PySem.W.nsIn K mainGlobals "Torn" = some (some (.ref C)))
    {nm qq : Str} {N : Addr} {bs bm : List Value} {sn : List Str} {sub : List Value} {ab : Bool} {col : Option Bool} {dd : Option Addr} {m0 m1 m2 m3 m5 : Option Value}
    (xo : K.lookup C = some (excClassObj nm qq C N bs bm true sn sub ab col dd m0 m1 m2 m3 m5 "ValueError.__new__")) (hb : PySem.HandSPX.refsVE bm = true)
    (sa : PySem.W.findIn K (.ref C) "__setattr__" = some (some (.builtin "object.__setattr__"))) (eC : PySem.W.subIn K (.ref C) (.type "BaseException") = some true) (tC : PySem.W.typeIn K (.ref C) = some (.type "type")) (kC : PySem.W.keepIn K (.ref C) = true)
    {I : Addr} {od an : Option Addr} {sl : Array (Option Value)} {oc kV dc pm cd ct : Value} (iC : PySem.W.findIn K (.ref C) "__init__" = some (some (.ref I))) (tI : PySem.W.typeIn K (.ref I) = some (.type "function"))
    (l : K.lookup I = some ⟨oc, od, .func (PySem.W.fnOf "__init__" "Torn.__init__" (defArgs s_Torn) (defBody s_Torn) (defScope s_Torn) .none kV dc pm an cd ct), sl⟩) (c : PySem.W.codeIn K cd "Torn.__init__" = true) (k : PySem.W.keepIn K (.ref I) = true)
    (n : PySem.W.findIn K (.ref C) "stamp" = some none) : Vz.XClA K mg "Torn" "stamp" s_Torn :=
  have F := fun_mk (st := s_Torn) l c k
  { C := C, I := I, i := _, g := PySem.W.mg_of X G g, o := ⟨⟨_, _, _, _, _, _, _, _, _, _, _, _, _, _, _, xo, hb⟩, sa, eC, tC, kC⟩, iC := iC, tI := tI, F := ⟨_, F⟩, b := F.binds (ps := ["self", "stamp"]) fun _ _ _ _ _ _ us hl => match us, hl with | [_, _], _ => rfl, n := n, q := ⟨fun s us ws _ hl => Vz.kwA_two hl fun a b e1 e2 => by subst e1 e2; exact .of_eq rfl, Vz.kwA_rel⟩ }
def xm_NoNote {K : PySem.W.Frag} {h : Heap} {mg : Str → Option Value} (X : K.In h) (G : h.Ns mainGlobals mg) {C : Addr} (g : PySem.W.nsIn K mainGlobals "NoNote" = some (some (.ref C)))
    {nm qq : Str} {N : Addr} {bs bm : List Value} {sn : List Str} {sub : List Value} {ab : Bool} {col : Option Bool} {dd : Option Addr} {m0 m1 m2 m3 m5 : Option Value}
    (xo : K.lookup C = some (excClassObj nm qq C N bs bm true sn sub ab col dd m0 m1 m2 m3 m5 "ValueError.__new__")) (hb : PySem.HandSPX.refsVE bm = true)
    (sa : PySem.W.findIn K (.ref C) "__setattr__" = some (some (.builtin "object.__setattr__"))) (eC : PySem.W.subIn K (.ref C) (.type "BaseException") = some true) (tC : PySem.W.typeIn K (.ref C) = some (.type "type")) (kC : PySem.W.keepIn K (.ref C) = true)
    {I : Addr} {od an : Option Addr} {sl : Array (Option Value)} {oc kV dc pm cd ct : Value} (iC : PySem.W.findIn K (.ref C) "__init__" = some (some (.ref I))) (tI : PySem.W.typeIn K (.ref I) = some (.type "function"))
    (l : K.lookup I = some ⟨oc, od, .func (PySem.W.fnOf "__init__" "NoNote.__init__" (defArgs s_NoNote) (defBody s_NoNote) (defScope s_NoNote) .none kV dc pm an cd ct), sl⟩) (c : PySem.W.codeIn K cd "NoNote.__init__" = true) (k : PySem.W.keepIn K (.ref I) = true)
    (n : PySem.W.findIn K (.ref C) "stamp" = some none) : Vz.XClA K mg "NoNote" "stamp" s_NoNote :=
  have F := fun_mk (st := s_NoNote) l c k
  { C := C, I := I, i := _, g := PySem.W.mg_of X G g, o := ⟨⟨_, _, _, _, _, _, _, _, _, _, _, _, _, _, _, xo, hb⟩, sa, eC, tC, kC⟩, iC := iC, tI := tI, F := ⟨_, F⟩, b := F.binds (ps := ["self", "stamp"]) fun _ _ _ _ _ _ us hl => match us, hl with | [_, _], _ => rfl, n := n, q := ⟨fun s us ws _ hl => Vz.kwA_two hl fun a b e1 e2 => by subst e1 e2; exact .of_eq rfl, Vz.kwA_rel⟩ }
def xm_BadQuery {K : PySem.W.Frag} {h : Heap} {mg : Str → Option Value} (X : K.In h) (G : h.Ns mainGlobals mg) {C : Addr} (g : PySem.W.nsIn K mainGlobals "BadQuery" = some (some (.ref C)))
    {nm qq : Str} {N : Addr} {bs bm : List Value} {sn : List Str} {sub : List Value} {ab : Bool} {col : Option Bool} {dd : Option Addr} {m0 m1 m2 m3 m5 : Option Value}
    (xo : K.lookup C = some (excClassObj nm qq C N bs bm true sn sub ab col dd m0 m1 m2 m3 m5 "ValueError.__new__")) (hb : PySem.HandSPX.refsVE bm = true)
    (sa : PySem.W.findIn K (.ref C) "__setattr__" = some (some (.builtin "object.__setattr__"))) (eC : PySem.W.subIn K (.ref C) (.type "BaseException") = some true) (tC : PySem.W.typeIn K (.ref C) = some (.type "type")) (kC : PySem.W.keepIn K (.ref C) = true)
    {I : Addr} {od an : Option Addr} {sl : Array (Option Value)} {oc kV dc pm cd ct : Value} (iC : PySem.W.findIn K (.ref C) "__init__" = some (some (.ref I))) (tI : PySem.W.typeIn K (.ref I) = some (.type "function"))
    (l : K.lookup I = some ⟨oc, od, .func (PySem.W.fnOf "__init__" "BadQuery.__init__" (defArgs s_BadQuery) (defBody s_BadQuery) (defScope s_BadQuery) .none kV dc pm an cd ct), sl⟩) (c : PySem.W.codeIn K cd "BadQuery.__init__" = true) (k : PySem.W.keepIn K (.ref I) = true)
    (n : PySem.W.findIn K (.ref C) "path" = some none) : Vz.XClA K mg "BadQuery" "path" s_BadQuery :=
  have F := fun_mk (st := s_BadQuery) l c k
  { C := C, I := I, i := _, g := PySem.W.mg_of X G g, o := ⟨⟨_, _, _, _, _, _, _, _, _, _, _, _, _, _, _, xo, hb⟩, sa, eC, tC, kC⟩, iC := iC, tI := tI, F := ⟨_, F⟩, b := F.binds (ps := ["self", "path"]) fun _ _ _ _ _ _ us hl => match us, hl with | [_, _], _ => rfl, n := n, q := ⟨fun s us ws _ hl => Vz.kwA_two hl fun a b e1 e2 => by subst e1 e2; exact .of_eq rfl, Vz.kwA_rel⟩ }
def xm_Gap {K : PySem.W.Frag} {h : Heap} {mg : Str → Option Value} (X : K.In h) (G : h.Ns mainGlobals mg) {C : Addr} (g : PySem.W.nsIn K mainGlobals "Gap" = some (some (.ref C)))
    {nm qq : Str} {N : Addr} {bs bm : List Value} {sn : List Str} {sub : List Value} {ab : Bool} {col : Option Bool} {dd : Option Addr} {m0 m1 m2 m3 m5 : Option Value}
    (xo : K.lookup C = some (excClassObj nm qq C N bs bm true sn sub ab col dd m0 m1 m2 m3 m5 "ValueError.__new__")) (hb : PySem.HandSPX.refsVE bm = true)
    (sa : PySem.W.findIn K (.ref C) "__setattr__" = some (some (.builtin "object.__setattr__"))) (eC : PySem.W.subIn K (.ref C) (.type "BaseException") = some true) (tC : PySem.W.typeIn K (.ref C) = some (.type "type")) (kC : PySem.W.keepIn K (.ref C) = true)
    {I : Addr} {od an : Option Addr} {sl : Array (Option Value)} {oc kV dc pm cd ct : Value} (iC : PySem.W.findIn K (.ref C) "__init__" = some (some (.ref I))) (tI : PySem.W.typeIn K (.ref I) = some (.type "function"))
    (l : K.lookup I = some ⟨oc, od, .func (PySem.W.fnOf "__init__" "Gap.__init__" (defArgs s_Gap) (defBody s_Gap) (defScope s_Gap) .none kV dc pm an cd ct), sl⟩) (c : PySem.W.codeIn K cd "Gap.__init__" = true) (k : PySem.W.keepIn K (.ref I) = true)
    (n : PySem.W.findIn K (.ref C) "device" = some none) : Vz.XClA K mg "Gap" "device" s_Gap :=
  have F := fun_mk (st := s_Gap) l c k
  { C := C, I := I, i := _, g := PySem.W.mg_of X G g, o := ⟨⟨_, _, _, _, _, _, _, _, _, _, _, _, _, _, _, xo, hb⟩, sa, eC, tC, kC⟩, iC := iC, tI := tI, F := ⟨_, F⟩, b := F.binds (ps := ["self", "device"]) fun _ _ _ _ _ _ us hl => match us, hl with | [_, _], _ => rfl, n := n, q := ⟨fun s us ws _ hl => Vz.kwA_two hl fun a b e1 e2 => by subst e1 e2; exact .of_eq rfl, Vz.kwA_rel⟩ }
def xm_BadPage {K : PySem.W.Frag} {h : Heap} {mg : Str → Option Value} (X : K.In h) (G : h.Ns mainGlobals mg) {C : Addr} (g : PySem.W.nsIn K mainGlobals "BadPage" = some (some (.ref C)))
    {nm qq : Str} {N : Addr} {bs bm : List Value} {sn : List Str} {sub : List Value} {ab : Bool} {col : Option Bool} {dd : Option Addr} {m0 m1 m2 m3 m5 : Option Value}
    (xo : K.lookup C = some (excClassObj nm qq C N bs bm true sn sub ab col dd m0 m1 m2 m3 m5 "ValueError.__new__")) (hb : PySem.HandSPX.refsVE bm = true)
    (sa : PySem.W.findIn K (.ref C) "__setattr__" = some (some (.builtin "object.__setattr__"))) (eC : PySem.W.subIn K (.ref C) (.type "BaseException") = some true) (tC : PySem.W.typeIn K (.ref C) = some (.type "type")) (kC : PySem.W.keepIn K (.ref C) = true)
    {I : Addr} {od an : Option Addr} {sl : Array (Option Value)} {oc kV dc pm cd ct : Value} (iC : PySem.W.findIn K (.ref C) "__init__" = some (some (.ref I))) (tI : PySem.W.typeIn K (.ref I) = some (.type "function"))
    (l : K.lookup I = some ⟨oc, od, .func (PySem.W.fnOf "__init__" "BadPage.__init__" (defArgs s_BadPage) (defBody s_BadPage) (defScope s_BadPage) .none kV dc pm an cd ct), sl⟩) (c : PySem.W.codeIn K cd "BadPage.__init__" = true) (k : PySem.W.keepIn K (.ref I) = true)
    (n1 : PySem.W.findIn K (.ref C) "field" = some none) (n2 : PySem.W.findIn K (.ref C) "number" = some none) : Vz.XClB K mg "BadPage" "field" "number" s_BadPage :=
  have F := fun_mk (st := s_BadPage) l c k
  { C := C, I := I, i := _, g := PySem.W.mg_of X G g, o := ⟨⟨_, _, _, _, _, _, _, _, _, _, _, _, _, _, _, xo, hb⟩, sa, eC, tC, kC⟩, iC := iC, tI := tI, F := ⟨_, F⟩, b := F.binds (ps := ["self", "field", "number"]) fun _ _ _ _ _ _ us hl => match us, hl with | [_, _, _], _ => rfl, n1 := n1, n2 := n2, q := ⟨fun s us ws _ hl => Vz.kwB_three hl fun a b c e1 e2 => by subst e1 e2; exact .of_eq rfl, Vz.kwB_rel⟩ }
def xm_BadText {K : PySem.W.Frag} {h : Heap} {mg : Str → Option Value} (X : K.In h) (G : h.Ns mainGlobals mg) {C : Addr} (g : PySem.W.nsIn K mainGlobals "BadText" = some (some (.ref C)))
    {nm qq : Str} {N : Addr} {bs bm : List Value} {sn : List Str} {sub : List Value} {ab : Bool} {col : Option Bool} {dd : Option Addr} {m0 m1 m2 m3 m5 : Option Value}
    (xo : K.lookup C = some (excClassObj nm qq C N bs bm true sn sub ab col dd m0 m1 m2 m3 m5 "ValueError.__new__")) (hb : PySem.HandSPX.refsVE bm = true)
    (sa : PySem.W.findIn K (.ref C) "__setattr__" = some (some (.builtin "object.__setattr__"))) (eC : PySem.W.subIn K (.ref C) (.type "BaseException") = some true) (tC : PySem.W.typeIn K (.ref C) = some (.type "type")) (kC : PySem.W.keepIn K (.ref C) = true)
    {I : Addr} {od an : Option Addr} {sl : Array (Option Value)} {oc kV dc pm cd ct : Value} (iC : PySem.W.findIn K (.ref C) "__init__" = some (some (.ref I))) (tI : PySem.W.typeIn K (.ref I) = some (.type "function"))
    (l : K.lookup I = some ⟨oc, od, .func (PySem.W.fnOf "__init__" "BadText.__init__" (defArgs s_BadText) (defBody s_BadText) (defScope s_BadText) .none kV dc pm an cd ct), sl⟩) (c : PySem.W.codeIn K cd "BadText.__init__" = true) (k : PySem.W.keepIn K (.ref I) = true)
    (n1 : PySem.W.findIn K (.ref C) "line" = some none) (n2 : PySem.W.findIn K (.ref C) "column" = some none) : Vz.XClB K mg "BadText" "line" "column" s_BadText :=
  have F := fun_mk (st := s_BadText) l c k
  { C := C, I := I, i := _, g := PySem.W.mg_of X G g, o := ⟨⟨_, _, _, _, _, _, _, _, _, _, _, _, _, _, _, xo, hb⟩, sa, eC, tC, kC⟩, iC := iC, tI := tI, F := ⟨_, F⟩, b := F.binds (ps := ["self", "line", "column"]) fun _ _ _ _ _ _ us hl => match us, hl with | [_, _, _], _ => rfl, n1 := n1, n2 := n2, q := ⟨fun s us ws _ hl => Vz.kwB_three hl fun a b c e1 e2 => by subst e1 e2; exact .of_eq rfl, Vz.kwB_rel⟩ }

theorem all_mk {l : PySem.W.OpenLaw} {w : World} {K : PySem.W.Frag} {h : Heap} {mg : Str → Option Value} {fa : Addr} (X : K.In h) (G : h.Ns mainGlobals mg) (hfa : mg "law" = some (.ref fa))
    {f1 : Addr} {od1 an1 : Option Addr} {sl1 : Array (Option Value)} {oc1 kV1 dc1 pm1 cd1 ct1 : Value}
    (a1 : PySem.W.nsIn K mainGlobals "_law_begin" = some (some (.ref f1))) (l1 : K.lookup f1 = some ⟨oc1, od1, .func (PySem.W.fnOf "_law_begin" "_law_begin" (defArgs s__law_begin) (defBody s__law_begin) (defScope s__law_begin) .none kV1 dc1 pm1 an1 cd1 ct1), sl1⟩)
    (c1 : PySem.W.codeIn K cd1 "_law_begin" = true) (k1 : PySem.W.keepIn K (.ref f1) = true)
    {f2 : Addr} {od2 an2 : Option Addr} {sl2 : Array (Option Value)} {oc2 kV2 dc2 pm2 cd2 ct2 : Value}
    (a2 : PySem.W.nsIn K mainGlobals "_law_mixed" = some (some (.ref f2))) (l2 : K.lookup f2 = some ⟨oc2, od2, .func (PySem.W.fnOf "_law_mixed" "_law_mixed" (defArgs s__law_mixed) (defBody s__law_mixed) (defScope s__law_mixed) .none kV2 dc2 pm2 an2 cd2 ct2), sl2⟩)
    (c2 : PySem.W.codeIn K cd2 "_law_mixed" = true) (k2 : PySem.W.keepIn K (.ref f2) = true)
    {f3 : Addr} {od3 an3 : Option Addr} {sl3 : Array (Option Value)} {oc3 kV3 dc3 pm3 cd3 ct3 : Value}
    (a3 : PySem.W.nsIn K mainGlobals "_law_next" = some (some (.ref f3))) (l3 : K.lookup f3 = some ⟨oc3, od3, .func (PySem.W.fnOf "_law_next" "_law_next" (defArgs s__law_next) (defBody s__law_next) (defScope s__law_next) .none kV3 dc3 pm3 an3 cd3 ct3), sl3⟩)
    (c3 : PySem.W.codeIn K cd3 "_law_next" = true) (k3 : PySem.W.keepIn K (.ref f3) = true)
    {f4 : Addr} {od4 an4 : Option Addr} {sl4 : Array (Option Value)} {oc4 kV4 dc4 pm4 cd4 ct4 : Value}
    (a4 : PySem.W.nsIn K mainGlobals "_law_made" = some (some (.ref f4))) (l4 : K.lookup f4 = some ⟨oc4, od4, .func (PySem.W.fnOf "_law_made" "_law_made" (defArgs s__law_made) (defBody s__law_made) (defScope s__law_made) .none kV4 dc4 pm4 an4 cd4 ct4), sl4⟩)
    (c4 : PySem.W.codeIn K cd4 "_law_made" = true) (k4 : PySem.W.keepIn K (.ref f4) = true)
    {f5 : Addr} {od5 an5 : Option Addr} {sl5 : Array (Option Value)} {oc5 kV5 dc5 pm5 cd5 ct5 : Value}
    (a5 : PySem.W.nsIn K mainGlobals "_law_kinds" = some (some (.ref f5))) (l5 : K.lookup f5 = some ⟨oc5, od5, .func (PySem.W.fnOf "_law_kinds" "_law_kinds" (defArgs s__law_kinds) (defBody s__law_kinds) (defScope s__law_kinds) .none kV5 dc5 pm5 an5 cd5 ct5), sl5⟩)
    (c5 : PySem.W.codeIn K cd5 "_law_kinds" = true) (k5 : PySem.W.keepIn K (.ref f5) = true)
    {f6 : Addr} {od6 an6 : Option Addr} {sl6 : Array (Option Value)} {oc6 kV6 dc6 pm6 cd6 ct6 : Value}
    (a6 : PySem.W.nsIn K mainGlobals "_law_families_right" = some (some (.ref f6))) (l6 : K.lookup f6 = some ⟨oc6, od6, .func (PySem.W.fnOf "_law_families_right" "_law_families_right" (defArgs s__law_families_right) (defBody s__law_families_right) (defScope s__law_families_right) .none kV6 dc6 pm6 an6 cd6 ct6), sl6⟩)
    (c6 : PySem.W.codeIn K cd6 "_law_families_right" = true) (k6 : PySem.W.keepIn K (.ref f6) = true)
    {f7 : Addr} {od7 an7 : Option Addr} {sl7 : Array (Option Value)} {oc7 kV7 dc7 pm7 cd7 ct7 : Value}
    (a7 : PySem.W.nsIn K mainGlobals "_law_fields" = some (some (.ref f7))) (l7 : K.lookup f7 = some ⟨oc7, od7, .func (PySem.W.fnOf "_law_fields" "_law_fields" (defArgs s__law_fields) (defBody s__law_fields) (defScope s__law_fields) .none kV7 dc7 pm7 an7 cd7 ct7), sl7⟩)
    (c7 : PySem.W.codeIn K cd7 "_law_fields" = true) (k7 : PySem.W.keepIn K (.ref f7) = true)
    {f8 : Addr} {od8 an8 : Option Addr} {sl8 : Array (Option Value)} {oc8 kV8 dc8 pm8 cd8 ct8 : Value}
    (a8 : PySem.W.nsIn K mainGlobals "_law_named" = some (some (.ref f8))) (l8 : K.lookup f8 = some ⟨oc8, od8, .func (PySem.W.fnOf "_law_named" "_law_named" (defArgs s__law_named) (defBody s__law_named) (defScope s__law_named) .none kV8 dc8 pm8 an8 cd8 ct8), sl8⟩)
    (c8 : PySem.W.codeIn K cd8 "_law_named" = true) (k8 : PySem.W.keepIn K (.ref f8) = true)
    {f9 : Addr} {od9 an9 : Option Addr} {sl9 : Array (Option Value)} {oc9 kV9 dc9 pm9 cd9 ct9 : Value}
    (a9 : PySem.W.nsIn K mainGlobals "law" = some (some (.ref f9))) (l9 : K.lookup f9 = some ⟨oc9, od9, .func (PySem.W.fnOf "law" "law" (defArgs s_law) (defBody s_law) (defScope s_law) .none kV9 dc9 pm9 an9 cd9 ct9), sl9⟩)
    (c9 : PySem.W.codeIn K cd9 "law" = true) (k9 : PySem.W.keepIn K (.ref f9) = true)
    {C_FeedError : Addr} (g_FeedError : PySem.W.nsIn K mainGlobals "FeedError" = some (some (.ref C_FeedError)))
    (c_BadMoment : Vz.XClA K mg "BadMoment" "given" s_BadMoment)
    (c_BadZone : Vz.XClA K mg "BadZone" "given" s_BadZone)
    (c_BadDate : Vz.XClA K mg "BadDate" "given" s_BadDate)
    (c_BadAddress : Vz.XClA K mg "BadAddress" "given" s_BadAddress)
    (c_BadEntry : Vz.XClA K mg "BadEntry" "field" s_BadEntry)
    (c_BadPage : Vz.XClB K mg "BadPage" "field" "number" s_BadPage)
    (c_BadText : Vz.XClB K mg "BadText" "line" "column" s_BadText)
    (c_BadNumber : Vz.XClA K mg "BadNumber" "field" s_BadNumber)
    (c_NoEntry : Vz.XClA K mg "NoEntry" "given" s_NoEntry)
    (c_Taken : Vz.XClA K mg "Taken" "given" s_Taken)
    (c_TooMany : Vz.XClA K mg "TooMany" "what" s_TooMany)
    (c_BadWorld : Vz.XClA K mg "BadWorld" "number" s_BadWorld)
    (c_BadTrouble : Vz.XClA K mg "BadTrouble" "number" s_BadTrouble)
    (c_BadThing : Vz.XClA K mg "BadThing" "given" s_BadThing)
    (c_BadShelf : Vz.XClA K mg "BadShelf" "number" s_BadShelf)
    (c_NoSighting : Vz.XClA K mg "NoSighting" "number" s_NoSighting)
    (c_BadDevice : Vz.XClA K mg "BadDevice" "given" s_BadDevice)
    (c_BadLibrary : Vz.XClA K mg "BadLibrary" "number" s_BadLibrary)
    (c_Torn : Vz.XClA K mg "Torn" "stamp" s_Torn)
    (c_NoItem : Vz.XClA K mg "NoItem" "given" s_NoItem)
    (c_BadFolder : Vz.XClA K mg "BadFolder" "given" s_BadFolder)
    (c_NoNote : Vz.XClA K mg "NoNote" "stamp" s_NoNote)
    (c_BadQuery : Vz.XClA K mg "BadQuery" "path" s_BadQuery)
    (c_BadWindow : Vz.XClA K mg "BadWindow" "number" s_BadWindow)
    (c_BadOffer : Vz.XClA K mg "BadOffer" "number" s_BadOffer)
    (c_BadLog : Vz.XClA K mg "BadLog" "number" s_BadLog)
    (c_NoAnswer : Vz.XClA K mg "NoAnswer" "number" s_NoAnswer)
    (c_BadVector : Vz.XClA K mg "BadVector" "given" s_BadVector)
    (c_BadBundle : Vz.XClA K mg "BadBundle" "number" s_BadBundle)
    (c_Gap : Vz.XClA K mg "Gap" "device" s_Gap)
    (fam : Vz.famB K C_FeedError [c_BadMoment.C, c_BadZone.C, c_BadDate.C, c_BadAddress.C, c_BadThing.C, c_BadDevice.C, c_NoEntry.C, c_Taken.C, c_NoItem.C, c_BadFolder.C, c_BadVector.C, c_BadEntry.C, c_BadNumber.C, c_BadWorld.C, c_BadTrouble.C, c_BadShelf.C, c_NoSighting.C, c_BadLibrary.C, c_BadWindow.C, c_BadOffer.C, c_BadLog.C, c_NoAnswer.C, c_BadBundle.C, c_TooMany.C, c_Torn.C, c_NoNote.C, c_BadQuery.C, c_Gap.C, c_BadPage.C, c_BadText.C] = true)
    (z_LookupError : PySem.W.nsIn K mainGlobals "LookupError" = some none)
    (z_RuntimeError : PySem.W.nsIn K mainGlobals "RuntimeError" = some none)
    (z_ValueError : PySem.W.nsIn K mainGlobals "ValueError" = some none)
    (z_enumerate : PySem.W.nsIn K mainGlobals "enumerate" = some none)
    (z_int : PySem.W.nsIn K mainGlobals "int" = some none)
    (z_isinstance : PySem.W.nsIn K mainGlobals "isinstance" = some none)
    (z_len : PySem.W.nsIn K mainGlobals "len" = some none)
    (z_min : PySem.W.nsIn K mainGlobals "min" = some none)
    (z_range : PySem.W.nsIn K mainGlobals "range" = some none)
    (z_repr : PySem.W.nsIn K mainGlobals "repr" = some none) :
    ∃ fd : FuncData, (∀ (s : Shared) (v : Value), BindsTo s fd ⟨[v], []⟩ [("script", v)]) ∧ ∀ base : Heap, K.In base → base.Ns mainGlobals mg → Vz.FnG l.prog w K mg base CX0 4 fa fd ["script"] (sp_law K) := by
  have e := hfa.symm.trans (PySem.W.mg_of X G a9)
  cases e
  have F1 := fun_mk (st := s__law_begin) l1 c1 k1
  have b1 := F1.binds (ps := ["script"]) fun _ _ _ _ _ _ us hl => match us, hl with | [_], _ => rfl
  have F2 := fun_mk (st := s__law_mixed) l2 c2 k2
  have b2 := F2.binds (ps := ["cell", "k"]) fun _ _ _ _ _ _ us hl => match us, hl with | [_, _], _ => rfl
  have F3 := fun_mk (st := s__law_next) l3 c3 k3
  have b3 := F3.binds (ps := ["draw", "bound"]) fun _ _ _ _ _ _ us hl => match us, hl with | [_, _], _ => rfl
  have F4 := fun_mk (st := s__law_made) l4 c4 k4
  have b4 := F4.binds (ps := ["worth", "more"]) fun _ _ _ _ _ _ us hl => match us, hl with | [_, _], _ => rfl
  have F5 := fun_mk (st := s__law_kinds) l5 c5 k5
  have b5 := F5.binds (ps := ["e"]) fun _ _ _ _ _ _ us hl => match us, hl with | [_], _ => rfl
  have F6 := fun_mk (st := s__law_families_right) l6 c6 k6
  have b6 := F6.binds (ps := ["made"]) fun _ _ _ _ _ _ us hl => match us, hl with | [_], _ => rfl
  have F7 := fun_mk (st := s__law_fields) l7 c7 k7
  have b7 := F7.binds (ps := ["made"]) fun _ _ _ _ _ _ us hl => match us, hl with | [_], _ => rfl
  have F8 := fun_mk (st := s__law_named) l8 c8 k8
  have b8 := F8.binds (ps := ["worth", "more"]) fun _ _ _ _ _ _ us hl => match us, hl with | [_, _], _ => rfl
  have F9 := fun_mk (st := s_law) l9 c9 k9
  have b9 := F9.binds (ps := ["script"]) fun _ _ _ _ _ _ us hl => match us, hl with | [_], _ => rfl
  let T : Txt K mg := { a__law_begin := f1, d__law_begin := _, F__law_begin := F1, g__law_begin := PySem.W.mg_of X G a1, b__law_begin := b1, a__law_mixed := f2, d__law_mixed := _, F__law_mixed := F2, g__law_mixed := PySem.W.mg_of X G a2, b__law_mixed := b2, a__law_next := f3, d__law_next := _, F__law_next := F3, g__law_next := PySem.W.mg_of X G a3, b__law_next := b3, a__law_made := f4, d__law_made := _, F__law_made := F4, g__law_made := PySem.W.mg_of X G a4, b__law_made := b4, a__law_kinds := f5, d__law_kinds := _, F__law_kinds := F5, g__law_kinds := PySem.W.mg_of X G a5, b__law_kinds := b5, a__law_families_right := f6, d__law_families_right := _, F__law_families_right := F6, g__law_families_right := PySem.W.mg_of X G a6, b__law_families_right := b6, a__law_fields := f7, d__law_fields := _, F__law_fields := F7, g__law_fields := PySem.W.mg_of X G a7, b__law_fields := b7, a__law_named := f8, d__law_named := _, F__law_named := F8, g__law_named := PySem.W.mg_of X G a8, b__law_named := b8, a_law := fa, d_law := _, F_law := F9, g_law := PySem.W.mg_of X G a9, b_law := b9, C_FeedError := C_FeedError, g_FeedError := PySem.W.mg_of X G g_FeedError, c_BadMoment := c_BadMoment, c_BadZone := c_BadZone, c_BadDate := c_BadDate, c_BadAddress := c_BadAddress, c_BadEntry := c_BadEntry, c_BadPage := c_BadPage, c_BadText := c_BadText, c_BadNumber := c_BadNumber, c_NoEntry := c_NoEntry, c_Taken := c_Taken, c_TooMany := c_TooMany, c_BadWorld := c_BadWorld, c_BadTrouble := c_BadTrouble, c_BadThing := c_BadThing, c_BadShelf := c_BadShelf, c_NoSighting := c_NoSighting, c_BadDevice := c_BadDevice, c_BadLibrary := c_BadLibrary, c_Torn := c_Torn, c_NoItem := c_NoItem, c_BadFolder := c_BadFolder, c_NoNote := c_NoNote, c_BadQuery := c_BadQuery, c_BadWindow := c_BadWindow, c_BadOffer := c_BadOffer, c_BadLog := c_BadLog, c_NoAnswer := c_NoAnswer, c_BadVector := c_BadVector, c_BadBundle := c_BadBundle, c_Gap := c_Gap, fam := fam, z_LookupError := PySem.W.mg_none_of X G z_LookupError, z_RuntimeError := PySem.W.mg_none_of X G z_RuntimeError, z_ValueError := PySem.W.mg_none_of X G z_ValueError, z_enumerate := PySem.W.mg_none_of X G z_enumerate, z_int := PySem.W.mg_none_of X G z_int, z_isinstance := PySem.W.mg_none_of X G z_isinstance, z_len := PySem.W.mg_none_of X G z_len, z_min := PySem.W.mg_none_of X G z_min, z_range := PySem.W.mg_none_of X G z_range, z_repr := PySem.W.mg_none_of X G z_repr }
  exact ⟨T.d_law, fun s v => .of_eq rfl, fun base _ _ => ok_law T⟩
theorem walk {l : PySem.W.OpenLaw} {q : Program} {loose : List Str} {XP : (Str → Option Value) → Heap → Prop} {YP : World → Heap → Prop} {d : DefRec} {K : Params → PySem.W.Frag} (hn : l.most = some 63) (hdf : d.params.defaults = [])
    (hY : ∀ (w : World) (h : Heap), YP w h → (K w.params).In h)
    (F : ∀ (w : World) (mg : Str → Option Value) (fa : Addr) (h : Heap), (K w.params).In h → h.Ns mainGlobals mg → mg d.name = some (.ref fa) →
      ∃ fd : FuncData, (∀ (s : Shared) (u : Value), BindsTo s fd ⟨[u], []⟩ [("script", u)]) ∧ ∀ base : Heap, (K w.params).In base → base.Ns mainGlobals mg → Vz.FnG l.prog w (K w.params) mg base CX0 4 fa fd ["script"] (sp_law (K w.params))) :
    PySem.W.WalkO q loose XP YP l.row.toRowW d [] (fun f vs => PySem.call f vs) :=
  Vz.walk_ofG (n := 63) (k := 4) (x := "script") (sp := fun K => sp_law K) hn (by decide) hdf ⟨rfl, by decide, by decide⟩ hY F (fun K H a ns hl hO hS => law_in K H a ns hl hO hS)
end Toy
open PySem PySem.W PyProof.Rows in
set_option maxRecDepth 100000 in
set_option maxHeartbeats 0 in
theorem PySem.Challenge.cw_feedreader_k01_error_classes_holds : PySem.Challenge.rw_feedreader_k01_error_classes.Holds := by
  w_on; o_law; k_head; (case hw => w_witness2)
  k_fill
  refine Toy.walk (l := PySem.Challenge.rw_feedreader_k01_error_classes) rfl rfl (fun w h Y => PySem.W.kIn_of Y) ?F
  case F =>
    intro w mg fa h KX G hmg
    refine' Toy.all_mk KX G hmg ?a1 ?l1 ?c1 ?k1 ?a2 ?l2 ?c2 ?k2 ?a3 ?l3 ?c3 ?k3 ?a4 ?l4 ?c4 ?k4 ?a5 ?l5 ?c5 ?k5 ?a6 ?l6 ?c6 ?k6 ?a7 ?l7 ?c7 ?k7 ?a8 ?l8 ?c8 ?k8 ?a9 ?l9 ?c9 ?k9 ?g_FeedError ?c_BadMoment ?c_BadZone ?c_BadDate ?c_BadAddress ?c_BadEntry ?c_BadPage ?c_BadText ?c_BadNumber ?c_NoEntry ?c_Taken ?c_TooMany ?c_BadWorld ?c_BadTrouble ?c_BadThing ?c_BadShelf ?c_NoSighting ?c_BadDevice ?c_BadLibrary ?c_Torn ?c_NoItem ?c_BadFolder ?c_NoNote ?c_BadQuery ?c_BadWindow ?c_BadOffer ?c_BadLog ?c_NoAnswer ?c_BadVector ?c_BadBundle ?c_Gap ?fam ?z_LookupError ?z_RuntimeError ?z_ValueError ?z_enumerate ?z_int ?z_isinstance ?z_len ?z_min ?z_range ?z_repr
    (case a1 => first | k_is | kit_is)
    (case l1 => first | k_is | kit_is)
    (case c1 => first | k_is | kit_is)
    (case k1 => first | k_is | kit_is)
    (case a2 => first | k_is | kit_is)
    (case l2 => first | k_is | kit_is)
    (case c2 => first | k_is | kit_is)
    (case k2 => first | k_is | kit_is)
    (case a3 => first | k_is | kit_is)
    (case l3 => first | k_is | kit_is)
    (case c3 => first | k_is | kit_is)
    (case k3 => first | k_is | kit_is)
    (case a4 => first | k_is | kit_is)
    (case l4 => first | k_is | kit_is)
    (case c4 => first | k_is | kit_is)
    (case k4 => first | k_is | kit_is)
    (case a5 => first | k_is | kit_is)
    (case l5 => first | k_is | kit_is)
    (case c5 => first | k_is | kit_is)
    (case k5 => first | k_is | kit_is)
    (case a6 => first | k_is | kit_is)
    (case l6 => first | k_is | kit_is)
    (case c6 => first | k_is | kit_is)
    (case k6 => first | k_is | kit_is)
    (case a7 => first | k_is | kit_is)
    (case l7 => first | k_is | kit_is)
    (case c7 => first | k_is | kit_is)
    (case k7 => first | k_is | kit_is)
    (case a8 => first | k_is | kit_is)
    (case l8 => first | k_is | kit_is)
    (case c8 => first | k_is | kit_is)
    (case k8 => first | k_is | kit_is)
    (case a9 => first | k_is | kit_is)
    (case l9 => first | k_is | kit_is)
    (case c9 => first | k_is | kit_is)
    (case k9 => first | k_is | kit_is)
    (case g_FeedError => first | k_is | kit_is)
    (case c_BadMoment => (refine' Toy.xm_BadMoment KX G ?u0 ?u1 ?u2 ?u3 ?u4 ?u5 ?u6 ?u7 ?u8 ?u9 ?u10 ?u11 ?u12; (case u0 => first | k_is | kit_is | exact rfl); (case u1 => first | k_is | kit_is | exact rfl); (case u2 => first | k_is | kit_is | exact rfl); (case u3 => first | k_is | kit_is | exact rfl); (case u4 => first | k_is | kit_is | exact rfl); (case u5 => first | k_is | kit_is | exact rfl); (case u6 => first | k_is | kit_is | exact rfl); (case u7 => first | k_is | kit_is | exact rfl); (case u8 => first | k_is | kit_is | exact rfl); (case u9 => first | k_is | kit_is | exact rfl); (case u10 => first | k_is | kit_is | exact rfl); (case u11 => first | k_is | kit_is | exact rfl); (case u12 => first | k_is | kit_is | exact rfl)))
    (case c_BadZone => (refine' Toy.xm_BadZone KX G ?u0 ?u1 ?u2 ?u3 ?u4 ?u5 ?u6 ?u7 ?u8 ?u9 ?u10 ?u11 ?u12; (case u0 => first | k_is | kit_is | exact rfl); (case u1 => first | k_is | kit_is | exact rfl); (case u2 => first | k_is | kit_is | exact rfl); (case u3 => first | k_is | kit_is | exact rfl); (case u4 => first | k_is | kit_is | exact rfl); (case u5 => first | k_is | kit_is | exact rfl); (case u6 => first | k_is | kit_is | exact rfl); (case u7 => first | k_is | kit_is | exact rfl); (case u8 => first | k_is | kit_is | exact rfl); (case u9 => first | k_is | kit_is | exact rfl); (case u10 => first | k_is | kit_is | exact rfl); (case u11 => first | k_is | kit_is | exact rfl); (case u12 => first | k_is | kit_is | exact rfl)))
    (case c_BadDate => (refine' Toy.xm_BadDate KX G ?u0 ?u1 ?u2 ?u3 ?u4 ?u5 ?u6 ?u7 ?u8 ?u9 ?u10 ?u11 ?u12; (case u0 => first | k_is | kit_is | exact rfl); (case u1 => first | k_is | kit_is | exact rfl); (case u2 => first | k_is | kit_is | exact rfl); (case u3 => first | k_is | kit_is | exact rfl); (case u4 => first | k_is | kit_is | exact rfl); (case u5 => first | k_is | kit_is | exact rfl); (case u6 => first | k_is | kit_is | exact rfl); (case u7 => first | k_is | kit_is | exact rfl); (case u8 => first | k_is | kit_is | exact rfl); (case u9 => first | k_is | kit_is | exact rfl); (case u10 => first | k_is | kit_is | exact rfl); (case u11 => first | k_is | kit_is | exact rfl); (case u12 => first | k_is | kit_is | exact rfl)))
    (case c_BadAddress => (refine' Toy.xm_BadAddress KX G ?u0 ?u1 ?u2 ?u3 ?u4 ?u5 ?u6 ?u7 ?u8 ?u9 ?u10 ?u11 ?u12; (case u0 => first | k_is | kit_is | exact rfl); (case u1 => first | k_is | kit_is | exact rfl); (case u2 => first | k_is | kit_is | exact rfl); (case u3 => first | k_is | kit_is | exact rfl); (case u4 => first | k_is | kit_is | exact rfl); (case u5 => first | k_is | kit_is | exact rfl); (case u6 => first | k_is | kit_is | exact rfl); (case u7 => first | k_is | kit_is | exact rfl); (case u8 => first | k_is | kit_is | exact rfl); (case u9 => first | k_is | kit_is | exact rfl); (case u10 => first | k_is | kit_is | exact rfl); (case u11 => first | k_is | kit_is | exact rfl); (case u12 => first | k_is | kit_is | exact rfl)))
    (case c_BadEntry => (refine' Toy.xm_BadEntry KX G ?u0 ?u1 ?u2 ?u3 ?u4 ?u5 ?u6 ?u7 ?u8 ?u9 ?u10 ?u11 ?u12; (case u0 => first | k_is | kit_is | exact rfl); (case u1 => first | k_is | kit_is | exact rfl); (case u2 => first | k_is | kit_is | exact rfl); (case u3 => first | k_is | kit_is | exact rfl); (case u4 => first | k_is | kit_is | exact rfl); (case u5 => first | k_is | kit_is | exact rfl); (case u6 => first | k_is | kit_is | exact rfl); (case u7 => first | k_is | kit_is | exact rfl); (case u8 => first | k_is | kit_is | exact rfl); (case u9 => first | k_is | kit_is | exact rfl); (case u10 => first | k_is | kit_is | exact rfl); (case u11 => first | k_is | kit_is | exact rfl); (case u12 => first | k_is | kit_is | exact rfl)))
    (case c_BadPage => (refine' Toy.xm_BadPage KX G ?u0 ?u1 ?u2 ?u3 ?u4 ?u5 ?u6 ?u7 ?u8 ?u9 ?u10 ?u11 ?u12 ?u13; (case u0 => first | k_is | kit_is | exact rfl); (case u1 => first | k_is | kit_is | exact rfl); (case u2 => first | k_is | kit_is | exact rfl); (case u3 => first | k_is | kit_is | exact rfl); (case u4 => first | k_is | kit_is | exact rfl); (case u5 => first | k_is | kit_is | exact rfl); (case u6 => first | k_is | kit_is | exact rfl); (case u7 => first | k_is | kit_is | exact rfl); (case u8 => first | k_is | kit_is | exact rfl); (case u9 => first | k_is | kit_is | exact rfl); (case u10 => first | k_is | kit_is | exact rfl); (case u11 => first | k_is | kit_is | exact rfl); (case u12 => first | k_is | kit_is | exact rfl); (case u13 => first | k_is | kit_is | exact rfl)))
    (case c_BadText => (refine' Toy.xm_BadText KX G ?u0 ?u1 ?u2 ?u3 ?u4 ?u5 ?u6 ?u7 ?u8 ?u9 ?u10 ?u11 ?u12 ?u13; (case u0 => first | k_is | kit_is | exact rfl); (case u1 => first | k_is | kit_is | exact rfl); (case u2 => first | k_is | kit_is | exact rfl); (case u3 => first | k_is | kit_is | exact rfl); (case u4 => first | k_is | kit_is | exact rfl); (case u5 => first | k_is | kit_is | exact rfl); (case u6 => first | k_is | kit_is | exact rfl); (case u7 => first | k_is | kit_is | exact rfl); (case u8 => first | k_is | kit_is | exact rfl); (case u9 => first | k_is | kit_is | exact rfl); (case u10 => first | k_is | kit_is | exact rfl); (case u11 => first | k_is | kit_is | exact rfl); (case u12 => first | k_is | kit_is | exact rfl); (case u13 => first | k_is | kit_is | exact rfl)))
    (case c_BadNumber => (refine' Toy.xm_BadNumber KX G ?u0 ?u1 ?u2 ?u3 ?u4 ?u5 ?u6 ?u7 ?u8 ?u9 ?u10 ?u11 ?u12; (case u0 => first | k_is | kit_is | exact rfl); (case u1 => first | k_is | kit_is | exact rfl); (case u2 => first | k_is | kit_is | exact rfl); (case u3 => first | k_is | kit_is | exact rfl); (case u4 => first | k_is | kit_is | exact rfl); (case u5 => first | k_is | kit_is | exact rfl); (case u6 => first | k_is | kit_is | exact rfl); (case u7 => first | k_is | kit_is | exact rfl); (case u8 => first | k_is | kit_is | exact rfl); (case u9 => first | k_is | kit_is | exact rfl); (case u10 => first | k_is | kit_is | exact rfl); (case u11 => first | k_is | kit_is | exact rfl); (case u12 => first | k_is | kit_is | exact rfl)))
    (case c_NoEntry => (refine' Toy.xm_NoEntry KX G ?u0 ?u1 ?u2 ?u3 ?u4 ?u5 ?u6 ?u7 ?u8 ?u9 ?u10 ?u11 ?u12; (case u0 => first | k_is | kit_is | exact rfl); (case u1 => first | k_is | kit_is | exact rfl); (case u2 => first | k_is | kit_is | exact rfl); (case u3 => first | k_is | kit_is | exact rfl); (case u4 => first | k_is | kit_is | exact rfl); (case u5 => first | k_is | kit_is | exact rfl); (case u6 => first | k_is | kit_is | exact rfl); (case u7 => first | k_is | kit_is | exact rfl); (case u8 => first | k_is | kit_is | exact rfl); (case u9 => first | k_is | kit_is | exact rfl); (case u10 => first | k_is | kit_is | exact rfl); (case u11 => first | k_is | kit_is | exact rfl); (case u12 => first | k_is | kit_is | exact rfl)))
    (case c_Taken => (refine' Toy.xm_Taken KX G ?u0 ?u1 ?u2 ?u3 ?u4 ?u5 ?u6 ?u7 ?u8 ?u9 ?u10 ?u11 ?u12; (case u0 => first | k_is | kit_is | exact rfl); (case u1 => first | k_is | kit_is | exact rfl); (case u2 => first | k_is | kit_is | exact rfl); (case u3 => first | k_is | kit_is | exact rfl); (case u4 => first | k_is | kit_is | exact rfl); (case u5 => first | k_is | kit_is | exact rfl); (case u6 => first | k_is | kit_is | exact rfl); (case u7 => first | k_is | kit_is | exact rfl); (case u8 => first | k_is | kit_is | exact rfl); (case u9 => first | k_is | kit_is | exact rfl); (case u10 => first | k_is | kit_is | exact rfl); (case u11 => first | k_is | kit_is | exact rfl); (case u12 => first | k_is | kit_is | exact rfl)))
    (case c_TooMany => (refine' Toy.xm_TooMany KX G ?u0 ?u1 ?u2 ?u3 ?u4 ?u5 ?u6 ?u7 ?u8 ?u9 ?u10 ?u11 ?u12; (case u0 => first | k_is | kit_is | exact rfl); (case u1 => first | k_is | kit_is | exact rfl); (case u2 => first | k_is | kit_is | exact rfl); (case u3 => first | k_is | kit_is | exact rfl); (case u4 => first | k_is | kit_is | exact rfl); (case u5 => first | k_is | kit_is | exact rfl); (case u6 => first | k_is | kit_is | exact rfl); (case u7 => first | k_is | kit_is | exact rfl); (case u8 => first | k_is | kit_is | exact rfl); (case u9 => first | k_is | kit_is | exact rfl); (case u10 => first | k_is | kit_is | exact rfl); (case u11 => first | k_is | kit_is | exact rfl); (case u12 => first | k_is | kit_is | exact rfl)))
    (case c_BadWorld => (refine' Toy.xm_BadWorld KX G ?u0 ?u1 ?u2 ?u3 ?u4 ?u5 ?u6 ?u7 ?u8 ?u9 ?u10 ?u11 ?u12; (case u0 => first | k_is | kit_is | exact rfl); (case u1 => first | k_is | kit_is | exact rfl); (case u2 => first | k_is | kit_is | exact rfl); (case u3 => first | k_is | kit_is | exact rfl); (case u4 => first | k_is | kit_is | exact rfl); (case u5 => first | k_is | kit_is | exact rfl); (case u6 => first | k_is | kit_is | exact rfl); (case u7 => first | k_is | kit_is | exact rfl); (case u8 => first | k_is | kit_is | exact rfl); (case u9 => first | k_is | kit_is | exact rfl); (case u10 => first | k_is | kit_is | exact rfl); (case u11 => first | k_is | kit_is | exact rfl); (case u12 => first | k_is | kit_is | exact rfl)))
    (case c_BadTrouble => (refine' Toy.xm_BadTrouble KX G ?u0 ?u1 ?u2 ?u3 ?u4 ?u5 ?u6 ?u7 ?u8 ?u9 ?u10 ?u11 ?u12; (case u0 => first | k_is | kit_is | exact rfl); (case u1 => first | k_is | kit_is | exact rfl); (case u2 => first | k_is | kit_is | exact rfl); (case u3 => first | k_is | kit_is | exact rfl); (case u4 => first | k_is | kit_is | exact rfl); (case u5 => first | k_is | kit_is | exact rfl); (case u6 => first | k_is | kit_is | exact rfl); (case u7 => first | k_is | kit_is | exact rfl); (case u8 => first | k_is | kit_is | exact rfl); (case u9 => first | k_is | kit_is | exact rfl); (case u10 => first | k_is | kit_is | exact rfl); (case u11 => first | k_is | kit_is | exact rfl); (case u12 => first | k_is | kit_is | exact rfl)))
    (case c_BadThing => (refine' Toy.xm_BadThing KX G ?u0 ?u1 ?u2 ?u3 ?u4 ?u5 ?u6 ?u7 ?u8 ?u9 ?u10 ?u11 ?u12; (case u0 => first | k_is | kit_is | exact rfl); (case u1 => first | k_is | kit_is | exact rfl); (case u2 => first | k_is | kit_is | exact rfl); (case u3 => first | k_is | kit_is | exact rfl); (case u4 => first | k_is | kit_is | exact rfl); (case u5 => first | k_is | kit_is | exact rfl); (case u6 => first | k_is | kit_is | exact rfl); (case u7 => first | k_is | kit_is | exact rfl); (case u8 => first | k_is | kit_is | exact rfl); (case u9 => first | k_is | kit_is | exact rfl); (case u10 => first | k_is | kit_is | exact rfl); (case u11 => first | k_is | kit_is | exact rfl); (case u12 => first | k_is | kit_is | exact rfl)))
    (case c_BadShelf => (refine' Toy.xm_BadShelf KX G ?u0 ?u1 ?u2 ?u3 ?u4 ?u5 ?u6 ?u7 ?u8 ?u9 ?u10 ?u11 ?u12; (case u0 => first | k_is | kit_is | exact rfl); (case u1 => first | k_is | kit_is | exact rfl); (case u2 => first | k_is | kit_is | exact rfl); (case u3 => first | k_is | kit_is | exact rfl); (case u4 => first | k_is | kit_is | exact rfl); (case u5 => first | k_is | kit_is | exact rfl); (case u6 => first | k_is | kit_is | exact rfl); (case u7 => first | k_is | kit_is | exact rfl); (case u8 => first | k_is | kit_is | exact rfl); (case u9 => first | k_is | kit_is | exact rfl); (case u10 => first | k_is | kit_is | exact rfl); (case u11 => first | k_is | kit_is | exact rfl); (case u12 => first | k_is | kit_is | exact rfl)))
    (case c_NoSighting => (refine' Toy.xm_NoSighting KX G ?u0 ?u1 ?u2 ?u3 ?u4 ?u5 ?u6 ?u7 ?u8 ?u9 ?u10 ?u11 ?u12; (case u0 => first | k_is | kit_is | exact rfl); (case u1 => first | k_is | kit_is | exact rfl); (case u2 => first | k_is | kit_is | exact rfl); (case u3 => first | k_is | kit_is | exact rfl); (case u4 => first | k_is | kit_is | exact rfl); (case u5 => first | k_is | kit_is | exact rfl); (case u6 => first | k_is | kit_is | exact rfl); (case u7 => first | k_is | kit_is | exact rfl); (case u8 => first | k_is | kit_is | exact rfl); (case u9 => first | k_is | kit_is | exact rfl); (case u10 => first | k_is | kit_is | exact rfl); (case u11 => first | k_is | kit_is | exact rfl); (case u12 => first | k_is | kit_is | exact rfl)))
    (case c_BadDevice => (refine' Toy.xm_BadDevice KX G ?u0 ?u1 ?u2 ?u3 ?u4 ?u5 ?u6 ?u7 ?u8 ?u9 ?u10 ?u11 ?u12; (case u0 => first | k_is | kit_is | exact rfl); (case u1 => first | k_is | kit_is | exact rfl); (case u2 => first | k_is | kit_is | exact rfl); (case u3 => first | k_is | kit_is | exact rfl); (case u4 => first | k_is | kit_is | exact rfl); (case u5 => first | k_is | kit_is | exact rfl); (case u6 => first | k_is | kit_is | exact rfl); (case u7 => first | k_is | kit_is | exact rfl); (case u8 => first | k_is | kit_is | exact rfl); (case u9 => first | k_is | kit_is | exact rfl); (case u10 => first | k_is | kit_is | exact rfl); (case u11 => first | k_is | kit_is | exact rfl); (case u12 => first | k_is | kit_is | exact rfl)))
    (case c_BadLibrary => (refine' Toy.xm_BadLibrary KX G ?u0 ?u1 ?u2 ?u3 ?u4 ?u5 ?u6 ?u7 ?u8 ?u9 ?u10 ?u11 ?u12; (case u0 => first | k_is | kit_is | exact rfl); (case u1 => first | k_is | kit_is | exact rfl); (case u2 => first | k_is | kit_is | exact rfl); (case u3 => first | k_is | kit_is | exact rfl); (case u4 => first | k_is | kit_is | exact rfl); (case u5 => first | k_is | kit_is | exact rfl); (case u6 => first | k_is | kit_is | exact rfl); (case u7 => first | k_is | kit_is | exact rfl); (case u8 => first | k_is | kit_is | exact rfl); (case u9 => first | k_is | kit_is | exact rfl); (case u10 => first | k_is | kit_is | exact rfl); (case u11 => first | k_is | kit_is | exact rfl); (case u12 => first | k_is | kit_is | exact rfl)))
    (case c_Torn => (refine' Toy.xm_Torn KX G ?u0 ?u1 ?u2 ?u3 ?u4 ?u5 ?u6 ?u7 ?u8 ?u9 ?u10 ?u11 ?u12; (case u0 => first | k_is | kit_is | exact rfl); (case u1 => first | k_is | kit_is | exact rfl); (case u2 => first | k_is | kit_is | exact rfl); (case u3 => first | k_is | kit_is | exact rfl); (case u4 => first | k_is | kit_is | exact rfl); (case u5 => first | k_is | kit_is | exact rfl); (case u6 => first | k_is | kit_is | exact rfl); (case u7 => first | k_is | kit_is | exact rfl); (case u8 => first | k_is | kit_is | exact rfl); (case u9 => first | k_is | kit_is | exact rfl); (case u10 => first | k_is | kit_is | exact rfl); (case u11 => first | k_is | kit_is | exact rfl); (case u12 => first | k_is | kit_is | exact rfl)))
    (case c_NoItem => (refine' Toy.xm_NoItem KX G ?u0 ?u1 ?u2 ?u3 ?u4 ?u5 ?u6 ?u7 ?u8 ?u9 ?u10 ?u11 ?u12; (case u0 => first | k_is | kit_is | exact rfl); (case u1 => first | k_is | kit_is | exact rfl); (case u2 => first | k_is | kit_is | exact rfl); (case u3 => first | k_is | kit_is | exact rfl); (case u4 => first | k_is | kit_is | exact rfl); (case u5 => first | k_is | kit_is | exact rfl); (case u6 => first | k_is | kit_is | exact rfl); (case u7 => first | k_is | kit_is | exact rfl); (case u8 => first | k_is | kit_is | exact rfl); (case u9 => first | k_is | kit_is | exact rfl); (case u10 => first | k_is | kit_is | exact rfl); (case u11 => first | k_is | kit_is | exact rfl); (case u12 => first | k_is | kit_is | exact rfl)))
    (case c_BadFolder => (refine' Toy.xm_BadFolder KX G ?u0 ?u1 ?u2 ?u3 ?u4 ?u5 ?u6 ?u7 ?u8 ?u9 ?u10 ?u11 ?u12; (case u0 => first | k_is | kit_is | exact rfl); (case u1 => first | k_is | kit_is | exact rfl); (case u2 => first | k_is | kit_is | exact rfl); (case u3 => first | k_is | kit_is | exact rfl); (case u4 => first | k_is | kit_is | exact rfl); (case u5 => first | k_is | kit_is | exact rfl); (case u6 => first | k_is | kit_is | exact rfl); (case u7 => first | k_is | kit_is | exact rfl); (case u8 => first | k_is | kit_is | exact rfl); (case u9 => first | k_is | kit_is | exact rfl); (case u10 => first | k_is | kit_is | exact rfl); (case u11 => first | k_is | kit_is | exact rfl); (case u12 => first | k_is | kit_is | exact rfl)))
    (case c_NoNote => (refine' Toy.xm_NoNote KX G ?u0 ?u1 ?u2 ?u3 ?u4 ?u5 ?u6 ?u7 ?u8 ?u9 ?u10 ?u11 ?u12; (case u0 => first | k_is | kit_is | exact rfl); (case u1 => first | k_is | kit_is | exact rfl); (case u2 => first | k_is | kit_is | exact rfl); (case u3 => first | k_is | kit_is | exact rfl); (case u4 => first | k_is | kit_is | exact rfl); (case u5 => first | k_is | kit_is | exact rfl); (case u6 => first | k_is | kit_is | exact rfl); (case u7 => first | k_is | kit_is | exact rfl); (case u8 => first | k_is | kit_is | exact rfl); (case u9 => first | k_is | kit_is | exact rfl); (case u10 => first | k_is | kit_is | exact rfl); (case u11 => first | k_is | kit_is | exact rfl); (case u12 => first | k_is | kit_is | exact rfl)))
    (case c_BadQuery => (refine' Toy.xm_BadQuery KX G ?u0 ?u1 ?u2 ?u3 ?u4 ?u5 ?u6 ?u7 ?u8 ?u9 ?u10 ?u11 ?u12; (case u0 => first | k_is | kit_is | exact rfl); (case u1 => first | k_is | kit_is | exact rfl); (case u2 => first | k_is | kit_is | exact rfl); (case u3 => first | k_is | kit_is | exact rfl); (case u4 => first | k_is | kit_is | exact rfl); (case u5 => first | k_is | kit_is | exact rfl); (case u6 => first | k_is | kit_is | exact rfl); (case u7 => first | k_is | kit_is | exact rfl); (case u8 => first | k_is | kit_is | exact rfl); (case u9 => first | k_is | kit_is | exact rfl); (case u10 => first | k_is | kit_is | exact rfl); (case u11 => first | k_is | kit_is | exact rfl); (case u12 => first | k_is | kit_is | exact rfl)))
    (case c_BadWindow => (refine' Toy.xm_BadWindow KX G ?u0 ?u1 ?u2 ?u3 ?u4 ?u5 ?u6 ?u7 ?u8 ?u9 ?u10 ?u11 ?u12; (case u0 => first | k_is | kit_is | exact rfl); (case u1 => first | k_is | kit_is | exact rfl); (case u2 => first | k_is | kit_is | exact rfl); (case u3 => first | k_is | kit_is | exact rfl); (case u4 => first | k_is | kit_is | exact rfl); (case u5 => first | k_is | kit_is | exact rfl); (case u6 => first | k_is | kit_is | exact rfl); (case u7 => first | k_is | kit_is | exact rfl); (case u8 => first | k_is | kit_is | exact rfl); (case u9 => first | k_is | kit_is | exact rfl); (case u10 => first | k_is | kit_is | exact rfl); (case u11 => first | k_is | kit_is | exact rfl); (case u12 => first | k_is | kit_is | exact rfl)))
    (case c_BadOffer => (refine' Toy.xm_BadOffer KX G ?u0 ?u1 ?u2 ?u3 ?u4 ?u5 ?u6 ?u7 ?u8 ?u9 ?u10 ?u11 ?u12; (case u0 => first | k_is | kit_is | exact rfl); (case u1 => first | k_is | kit_is | exact rfl); (case u2 => first | k_is | kit_is | exact rfl); (case u3 => first | k_is | kit_is | exact rfl); (case u4 => first | k_is | kit_is | exact rfl); (case u5 => first | k_is | kit_is | exact rfl); (case u6 => first | k_is | kit_is | exact rfl); (case u7 => first | k_is | kit_is | exact rfl); (case u8 => first | k_is | kit_is | exact rfl); (case u9 => first | k_is | kit_is | exact rfl); (case u10 => first | k_is | kit_is | exact rfl); (case u11 => first | k_is | kit_is | exact rfl); (case u12 => first | k_is | kit_is | exact rfl)))
    (case c_BadLog => (refine' Toy.xm_BadLog KX G ?u0 ?u1 ?u2 ?u3 ?u4 ?u5 ?u6 ?u7 ?u8 ?u9 ?u10 ?u11 ?u12; (case u0 => first | k_is | kit_is | exact rfl); (case u1 => first | k_is | kit_is | exact rfl); (case u2 => first | k_is | kit_is | exact rfl); (case u3 => first | k_is | kit_is | exact rfl); (case u4 => first | k_is | kit_is | exact rfl); (case u5 => first | k_is | kit_is | exact rfl); (case u6 => first | k_is | kit_is | exact rfl); (case u7 => first | k_is | kit_is | exact rfl); (case u8 => first | k_is | kit_is | exact rfl); (case u9 => first | k_is | kit_is | exact rfl); (case u10 => first | k_is | kit_is | exact rfl); (case u11 => first | k_is | kit_is | exact rfl); (case u12 => first | k_is | kit_is | exact rfl)))
    (case c_NoAnswer => (refine' Toy.xm_NoAnswer KX G ?u0 ?u1 ?u2 ?u3 ?u4 ?u5 ?u6 ?u7 ?u8 ?u9 ?u10 ?u11 ?u12; (case u0 => first | k_is | kit_is | exact rfl); (case u1 => first | k_is | kit_is | exact rfl); (case u2 => first | k_is | kit_is | exact rfl); (case u3 => first | k_is | kit_is | exact rfl); (case u4 => first | k_is | kit_is | exact rfl); (case u5 => first | k_is | kit_is | exact rfl); (case u6 => first | k_is | kit_is | exact rfl); (case u7 => first | k_is | kit_is | exact rfl); (case u8 => first | k_is | kit_is | exact rfl); (case u9 => first | k_is | kit_is | exact rfl); (case u10 => first | k_is | kit_is | exact rfl); (case u11 => first | k_is | kit_is | exact rfl); (case u12 => first | k_is | kit_is | exact rfl)))
    (case c_BadVector => (refine' Toy.xm_BadVector KX G ?u0 ?u1 ?u2 ?u3 ?u4 ?u5 ?u6 ?u7 ?u8 ?u9 ?u10 ?u11 ?u12; (case u0 => first | k_is | kit_is | exact rfl); (case u1 => first | k_is | kit_is | exact rfl); (case u2 => first | k_is | kit_is | exact rfl); (case u3 => first | k_is | kit_is | exact rfl); (case u4 => first | k_is | kit_is | exact rfl); (case u5 => first | k_is | kit_is | exact rfl); (case u6 => first | k_is | kit_is | exact rfl); (case u7 => first | k_is | kit_is | exact rfl); (case u8 => first | k_is | kit_is | exact rfl); (case u9 => first | k_is | kit_is | exact rfl); (case u10 => first | k_is | kit_is | exact rfl); (case u11 => first | k_is | kit_is | exact rfl); (case u12 => first | k_is | kit_is | exact rfl)))
    (case c_BadBundle => (refine' Toy.xm_BadBundle KX G ?u0 ?u1 ?u2 ?u3 ?u4 ?u5 ?u6 ?u7 ?u8 ?u9 ?u10 ?u11 ?u12; (case u0 => first | k_is | kit_is | exact rfl); (case u1 => first | k_is | kit_is | exact rfl); (case u2 => first | k_is | kit_is | exact rfl); (case u3 => first | k_is | kit_is | exact rfl); (case u4 => first | k_is | kit_is | exact rfl); (case u5 => first | k_is | kit_is | exact rfl); (case u6 => first | k_is | kit_is | exact rfl); (case u7 => first | k_is | kit_is | exact rfl); (case u8 => first | k_is | kit_is | exact rfl); (case u9 => first | k_is | kit_is | exact rfl); (case u10 => first | k_is | kit_is | exact rfl); (case u11 => first | k_is | kit_is | exact rfl); (case u12 => first | k_is | kit_is | exact rfl)))
    (case c_Gap => (refine' Toy.xm_Gap KX G ?u0 ?u1 ?u2 ?u3 ?u4 ?u5 ?u6 ?u7 ?u8 ?u9 ?u10 ?u11 ?u12; (case u0 => first | k_is | kit_is | exact rfl); (case u1 => first | k_is | kit_is | exact rfl); (case u2 => first | k_is | kit_is | exact rfl); (case u3 => first | k_is | kit_is | exact rfl); (case u4 => first | k_is | kit_is | exact rfl); (case u5 => first | k_is | kit_is | exact rfl); (case u6 => first | k_is | kit_is | exact rfl); (case u7 => first | k_is | kit_is | exact rfl); (case u8 => first | k_is | kit_is | exact rfl); (case u9 => first | k_is | kit_is | exact rfl); (case u10 => first | k_is | kit_is | exact rfl); (case u11 => first | k_is | kit_is | exact rfl); (case u12 => first | k_is | kit_is | exact rfl)))
    (case fam => kernel_rfl)
    (case z_LookupError => first | k_is | kit_is)
    (case z_RuntimeError => first | k_is | kit_is)
    (case z_ValueError => first | k_is | kit_is)
    (case z_enumerate => first | k_is | kit_is)
    (case z_int => first | k_is | kit_is)
    (case z_isinstance => first | k_is | kit_is)
    (case z_len => first | k_is | kit_is)
    (case z_min => first | k_is | kit_is)
    (case z_range => first | k_is | kit_is)
    (case z_repr => first | k_is | kit_is)

