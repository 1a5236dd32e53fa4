import PyProof.Rows.All
import Wide.All
import OpenK.AllK
import Wide.FinOn
import HandS.ForMost
import HandS.TupAny
import HandS.IsInst
import HandS.Flow
import HandS.Style
import HandS.Zip
import KE.GoesNew
import PyProof.ReprRoads
import PyProof.Rows.SeqMore
import HandS.Walk
import KE.GoesMore
import PyProof.Rows.IntBool
import KE.GoesEnumKw
import PyProof.Rows.CallKwBuiltin
import HandS.ForExc
import HandS.ExcInit
import HandS.Defaults
import HandS.ExcIs
import HandS.ExcField
import HandS.ExcValue
import KE.KExcIs
import KE.KIsAll
import HandS.FStr
import PyProof.Rows.StrIntSpec
import HandS.Words
import PyProof.ReprLen
import HandS.Text
import PyProof.Rows.StrFit
import HandS.List
import HandS.Comp
import HandS.Iter
import KE.IntTextLaws
import KE.KIntText
import HandS.Conv
import HandS.NoneIn
import PyProof.Rows.StrCase
import PyProof.Rows.StrCountLaw
import PyProof.Rows.RegReprOcc
import HandS.RaiseMore
import PySem.Challenge.RW_feedreader_k07_whole_lenient_texts
set_option Elab.async false
set_option linter.all false
set_option maxRecDepth 100000
set_option maxHeartbeats 2000000
/-! Rules that the dates' laws want beside the layer's: repr of data, a list behind the script, zip of a tuple and a list, calls of defs where nothing is being shown by repr. -/
namespace Vz
open PySem PySem.Spec PyProof.Rows L2

/-! ### repr of data -/
def rRepr (K : PySem.W.Frag) : List V → Hp → VK → Prop := fun xs H Q =>
  ∃ (p : Addr) (d : PyData), xs = [.ref p] ∧ Dp K H (.ref p) d ∧ d.showable = true ∧ d.hasDict = false ∧ d.depth ≤ 60 ∧ d.shown.length ≤ sizeLine ∧ Q (.str d.shown) H
theorem repr_data {X : Cx} (gd : X.A.guards = some []) (un : X.A.units + 64 < cLine) : CallR X (.builtin "repr") (rRepr X.K) := by
  intro pins s σ H xs us Q I r h
  obtain ⟨p, d, rfl, hd, sh, nd, dp, sz, q⟩ := h
  obtain ⟨u, rfl, ru⟩ := vals1 r
  obtain ⟨as, rd⟩ := Dp.reads I d _ _ hd ru
  have ru' : u = Value.ref p := ru
  subst ru'
  refine repr_of_reads' rd sh (fun z => ?_) gd (by omega) (fun _ _ e => e) (fun h' tx tk kp => ?_) sz
  · rw [nd] at z; cases z
  · exact ⟨.str d.shown, H, I.kept (t' := tk) kp, ⟨tx, rfl⟩, q⟩

/-! ### a list that is only read, and another one behind it -/
def rCatR (K : PySem.W.Frag) : R2 := fun x y H Q => ∃ (a b : Addr) (xs zs : List V), x = .ref a ∧ y = .ref b ∧ SqL K H a xs ∧ SqL K H b zs ∧ xs.length + zs.length ≤ sizeLine ∧
  ∀ p, H p = none → Q (.ref p) (upd H p (.lst (xs ++ zs)))
theorem op_catR {X : Cx} : OpR X (binaryOp .Add) (rCatR X.K) := by
  intro pins s σ H x y v u Q I rx ry h
  obtain ⟨a, b, xs, zs, rfl, rfl, hA, hB, sz, q⟩ := h
  have ex : v = Value.ref a := rx
  have ey : u = Value.ref b := ry
  subst ex ey
  obtain ⟨its, r1, ⟨o1, n1, g1, c1, d1, e1⟩, _⟩ := I.list hA
  obtain ⟨its2, r2, ⟨o2, n2, g2, c2, d2, e2⟩, _⟩ := I.list hB
  obtain ⟨cl1, dd1, da1, sl1⟩ := o1
  obtain ⟨cl2, dd2, da2, sl2⟩ := o2
  simp only at c1 d1 e1 c2 d2 e2
  subst c1 d1 e1 c2 d2 e2
  have l1 := r1.length
  have l2 := r2.length
  have room : its.toArray.size + its2.toArray.size ≤ sizeLine := by rw [List.size_toArray, List.size_toArray]; omega
  refine concat_meets ⟨_, g1, rfl⟩ ⟨_, g2, rfl⟩ noFill_list_add seq_list_add PySem.F.slot_list_add PySem.F.entry_list_add (PySem.F.args_list_add_2 _ _)
    (list_addW a b its.toArray its2.toArray n1 n2 none none sl1 sl2 room) ⟨g1, g2, ?_⟩
  have ea : its.toArray ++ its2.toArray = (its ++ its2).toArray := by simp
  rw [ea]
  exact ⟨.ref _, _, I.lnew (t' := s.toks) (r1.append r2) (by rw [List.length_append]; omega), rfl, q _ I.fresh⟩

/-! ### calls where no repr is under way -/
structure FnG (P : Program) (w : World) (K : PySem.W.Frag) (mg : Str → Option Value) (base : Heap) (CX : CXT) (k : Nat) (f : Addr) (fd : FuncData) (ps : List Str) (sp : Sp) : Prop where
  many : ∀ vs H Q E, sp vs H Q E → vs.length = ps.length
  goes : ∀ (A : Around) (outer : List Env) (s : Shared) (H : Hp) (args : Args) (us : List Value) (vs : List V) (Q : VK) (E : XK),
    Room k A → A.guards = some [] → Env0 P w K mg base A outer s H → BindsTo s fd args (ps.zip us) → Vals vs us → sp vs H Q E →
    codeAny (model P w) A (.call (.ref f) args) (CR CX outer P w H s Q E) s

section
variable {X : Cx} {CX : CXT} {k : Nat} {f : Addr} {fd : FuncData} {ps : List Str} {sp : Sp} {ds : List Value} {dvs : List V} {E : XK}
theorem pe_callG {x : Str} {p pos : Pos} {e : Expr} {es : List Expr} {t : TA} (G : FnG X.prog X.w X.K X.mg X.base CX k f fd ps sp) (gd : X.A.guards = some []) (hr : Room k X.A) (gl : Gl X x)
    (at_ : X.mg x = some (.ref f)) (kp : PySem.W.keepIn X.K (.ref f) = true) (bd : Binds X.K fd ps ds) (dv : Vals dvs ds) (ps0 : Passes CX X E) (pa : PA X (e :: es) t)
    (nodb : (x == ("__debug__" : Str)) = false := by decide) (st : starEach (e :: es) X.env = (false, eval e X.env) :: starEach es X.env := by rfl)
    (pl : (backTo pos (starEach es X.env)).any (·.1) = false := by rfl) :
    PE X (.Call (.Name x p) (e :: es) [] pos) (tCall sp dvs E t) := by
  constructor
  intro pins s σ H Q I h
  apply wpAny_Call_Name_kw
  refine ld_glob I gl at_ ?_ nodb
  refine PySem.W.callWith_K (h₀ := X.base) I.ok.mod.kin kp (thn (pa.run pos pins s σ H _ I h) ?_) st pl
  rintro us s1 ⟨vs, H1, I1, r, q⟩
  refine ⟨I1.kIn, ?_⟩
  have rr : Vals (vs ++ dvs) (us ++ ds) := r.append dv
  have many : (us ++ ds).length = ps.length := by rw [← rr.length]; exact G.many _ _ _ _ q
  apply wpAny_call
  refine codeAny_mono (G.goes X.A X.stack s1 H1 ⟨us, []⟩ _ _ Q E hr gd I1.env0 (bd s1 us I1.kIn many) rr q) ?_
  rintro (err | fl) s' hq
  · exact ps0 pins σ H1 s1 err s' I1 hq
  · cases fl
    case ret u => exact I1.after hq
    all_goals exact hq.elim
end

/-- the rule for a def of the text, where no repr is under way -/
theorem Fun.okG {P : Program} {w : World} {K : PySem.W.Frag} {mg : Str → Option Value} {base : Heap} {x qual : Str} {st : Stmt} {f : Addr} {fd : FuncData} {N ps : List Str} {k : Nat} {sp : Sp}
    (F : Fun K x qual st f fd) (S : FnScope N ps (defScope st)) (many : ∀ vs H Q E, sp vs H Q E → vs.length = ps.length)
    (body : ∀ (cdv : Value) (A : Around) (outer : List Env) (s : Shared) (H : Hp) (vs : List V) (Q : VK) (E : XK), A.guards = some [] → Room k (A.deeper (envOfC qual (defScope st) s.heap.objs.size f cdv)) → sp vs H Q E →
      ∃ t, PSs (cxOf CX0 P w K mg base N qual (defScope st) f cdv A outer s H E).nox (defBody st) t ∧ t { nx := fun _ H' => Q .non H', rt := Q } (start N vs) H) :
    FnG P w K mg base CX0 (k + 1) f fd ps sp := by
  obtain ⟨oc, od, kV, doc, pm, an, cdv, ct, osl, rfl, lk, hcd⟩ := F.ex
  refine ⟨many, ?_⟩
  intro A outer s H args us vs Q E hr gd e0 hb r hsp
  have nn := many _ _ _ _ hsp
  have inn : K.In s.heap := e0.mod.kin.keeps (fun b o e => (e0.bs b o e).1)
  have li : s.heap.NoLimit := e0.mod.nolimit.keeps (fun b o e => (e0.bs b o e).1)
  have kinds : ∀ y ∈ ps.zip us, (defScope st).names.lookup y.1 = some .local ∨
      ((defScope st).names.lookup y.1 = some .cell ∧ ((cellsFrom (s.heap.objs.size + 1) (defScope st).names []).lookup y.1).isSome = true) := by
    rintro ⟨n, v⟩ hy
    cases S.par n (List.of_mem_zip hy).1 with
    | inl z => exact .inl z
    | inr z => exact .inr ⟨z, PySem.W.cellsFrom_some _ _ _ (.inl z)⟩
  refine codeAny_call_function hr.depth (inn _ _ lk) rfl S.co S.gen rfl (PySem.W.codeRec_of inn hcd) (hb _ _ _ _ ?_)
  refine wpAny_newFunctionEnv_cells S.kind kinds ?_
  intro env he s1 y
  subst he
  refine ⟨li.keeps y.toInCall.keep, ?_⟩
  apply codeAny_func
  obtain ⟨t, pt, qt⟩ := body cdv A outer s H vs Q E gd (hr.deeper _) hsp
  have I : Inv (cxOf CX0 P w K mg base N qual (defScope st) f cdv A outer s H E) [] (start N vs) H s1 := inv_start S hr.hd e0 nn r y
  refine wpAny_mono (pt.nox.run [] s1 (start N vs) H _ I qt) ?_ (fun e s' z => z)
  intro fl s' z
  have close : ∀ {σ' : L2.St} {H' : Hp} {v : V} {u : Value}, Inv (cxOf CX0 P w K mg base N qual (defScope st) f cdv A outer s H E) [] σ' H' s' → RelV v u → Q v H' → CE outer P w H s Q u s' := by
    intro σ' H' v u J rv q
    exact ⟨v, H', J.os, J.bare, J.base, J.hok, rv, q⟩
  match fl, z with
  | .ret u, z => obtain ⟨v, σ', H', J, rv, q⟩ := z; exact close J rv q
  | .next, z => obtain ⟨σ', H', J, q⟩ := z; exact close (v := V.non) (u := Value.none) J rfl q
  | .brk, z => obtain ⟨_, _, _, q⟩ := z; exact q.elim
  | .cont, z => obtain ⟨_, _, _, q⟩ := z; exact q.elim

/-! ### the end of a law, its def shown where no repr is under way -/
theorem end_call {P : Program} {w : World} {K : PySem.W.Frag} {mg mb : Str → Option Value} {k : Nat} {fa a : Addr} {fd : FuncData} {x : Str} {sp : Sp} {s₁ : Shared} {vs : List Value} {ns : List Int}
    (inn : K.In s₁.heap) (gns : s₁.heap.Ns mainGlobals mg) (bns : s₁.heap.Ns builtinsNs mb) (bb : ∀ x : Str, x ≠ "__name__" → mb x = bootBuiltins x) (li : s₁.heap.NoLimit) (nog : s₁.gens = #[])
    (obj : s₁.heap.get? a = some { cls := .type "list", data := .seq vs.toArray }) (areI : IntsAre vs ns) (few : ns.length ≤ sizeLine) (hr : Room k callerA)
    (G : ∀ base : Heap, K.In base → base.Ns mainGlobals mg → FnG P w K mg base CX0 k fa fd [x] sp) (bind : ∀ (s : Shared) (u : Value), BindsTo s fd ⟨[u], []⟩ [(x, u)])
    (hsp : ∀ H : Hp, Only H → SqL K H a (ns.map V.int) → sp [.ref a] H (fun v _ => v = .bl true) E0) :
    codeAny (model P w) callerA (.call (.ref fa) ⟨[.ref a], []⟩) (fun r s' => r = .ok (.ret (.bool true)) ∧ OldK s₁.heap s'.heap ∧ s'.os = s₁.os ∧ AllBare s'.gens) s₁ := by
  have main : ∀ H : Hp, Only H → SqL K H a (ns.map V.int) → HOk P w H s₁.heap → (∀ b, H b ≠ none → b = a) → (H a ≠ none → K.lookup a = none) →
      codeAny (model P w) callerA (.call (.ref fa) ⟨[.ref a], []⟩) (fun r s' => r = .ok (.ret (.bool true)) ∧ OldK s₁.heap s'.heap ∧ s'.os = s₁.os ∧ AllBare s'.gens) s₁ := by
    intro H only hS hok alone apart
    have shown : ∀ {b : Addr} {o : Obj}, s₁.heap.get? b = some o → H b = none → (hidT s₁.heap H).get? b = some o := fun e n => hidT_get e n
    have dicts : ∀ {b : Addr} {o : Obj} {es : Array DictEntry} {ep : Nat}, s₁.heap.get? b = some o → o.data = .dict es ep → H b = none := by
      intro b o es ep e d
      by_cases z : H b = none
      · exact z
      · have eb := alone b z
        rw [eb, obj] at e
        cases e
        cases (show Data.seq vs.toArray _ = Data.dict es ep from d)
    have nsK : ∀ {b : Addr} {m : Str → Option Value}, s₁.heap.Ns b m → (hidT s₁.heap H).Ns b m := by
      rintro b m ⟨o, es, ep, e, d, r⟩
      exact ⟨o, es, ep, shown e (dicts e d), d, r⟩
    have inb : K.In (hidT s₁.heap H) := by
      intro b o e
      refine shown (inn b o e) ?_
      by_cases z : H b = none
      · exact z
      · have eb := alone b z
        subst eb
        rw [apart z] at e
        cases e
    have md : Mod K mg (hidT s₁.heap H) := by
      obtain ⟨mc, l1, l2⟩ := li
      exact ⟨inb, nsK gns, ⟨mb, nsK bns, bb⟩, ⟨mc, nsK l1, l2⟩⟩
    have ev : Env0 P w K mg (hidT s₁.heap H) callerA [] s₁ H :=
      ⟨rfl, md, fun b o e => of_hidT e, Nat.le_of_eq (hidT_size _ _), trivial, fun b hb => absurd (show b ∈ ([] : List Addr) from hb) (by simp), hok, .of_eq nog⟩
    refine codeAny_mono ((G _ inb (nsK gns)).goes callerA [] s₁ H ⟨[.ref a], []⟩ [.ref a] [.ref a] _ _ hr rfl ev (bind s₁ (.ref a)) (.cons rfl .nil) (hsp H only hS)) ?_
    rintro (err | fl) s' z
    · exact (show False from z).elim
    · cases fl
      case ret u =>
        obtain ⟨v, H', os, bare, un, hok', rv, qv⟩ := z
        have qv' : v = .bl true := qv
        subst qv'
        have eu : u = Value.bool true := rv
        subst eu
        refine ⟨rfl, OldK.of_keep ?_, os, bare⟩
        intro b o e
        cases c : H b with
        | none => exact un.keep b o e c (by intro z; exact absurd (show b ∈ ([] : List Addr) from z) (by simp)) (by simp)
        | some ob =>
          rcases only b with z | ⟨o2, xs, z⟩
          · rw [c] at z; cases z
          · obtain ⟨e1, _⟩ := hok b _ z
            obtain ⟨e2, _⟩ := hok' b _ (un.frzs b o2 _ z)
            rw [e] at e1; cases e1
            exact e2
      all_goals exact (show False from z).elim
  have rv := vals_ints areI
  have sz := areI.length
  cases c : K.lookup a with
  | some o =>
    have e := inn a o c
    rw [obj] at e
    cases e
    refine main (fun _ => none) (fun _ => .inl rfl) (.inr ⟨_, vs.toArray, _, c, rfl, rfl, rfl, ?_, ?_⟩) (fun b u z => ?_) (fun b z => absurd rfl z) (fun z => absurd rfl z)
    · rw [List.size_toArray, sz]; exact few
    · simpa using rv
    · cases (show (none : Option HO) = some u from z)
  | none =>
    let H : Hp := fun b => if b = a then some (.frz { cls := .type "list", data := .seq vs.toArray } (.lst (ns.map V.int))) else none
    have there : H a = some (.frz { cls := .type "list", data := .seq vs.toArray } (.lst (ns.map V.int))) := if_pos rfl
    have else_ : ∀ {b}, b ≠ a → H b = none := fun h => if_neg h
    refine main H (fun b => ?_) (.inl (.inr ⟨_, there⟩)) (fun b u z => ?_) (fun b z => ?_) (fun _ => c)
    · by_cases hb : b = a
      · subst hb; exact .inr ⟨_, _, there⟩
      · exact .inl (else_ hb)
    · by_cases hb : b = a
      · subst hb
        rw [there] at z
        cases z
        exact ⟨obj, by rw [List.length_map]; exact few, vs, _, rv, obj⟩
      · rw [else_ hb] at z; cases z
    · by_cases hb : b = a
      · exact hb
      · exact absurd (else_ hb) z
theorem walk_ofG {l : PySem.W.OpenLaw} {n k : Nat} {q : Program} {loose : List Str} {XP : (Str → Option Value) → Heap → Prop} {YP : World → Heap → Prop} {d : DefRec} {K : Params → PySem.W.Frag} {sp : PySem.W.Frag → Sp} {x : Str}
    (hn : l.most = some n) (hn2 : n ≤ sizeLine) (hdf : d.params.defaults = []) (hr : Room k callerA) (hY : ∀ (w : World) (h : Heap), YP w h → (K w.params).In h)
    (F : ∀ (w : World) (mg : Str → Option Value) (fa : Addr) (h : Heap), (K w.params).In h → h.Ns mainGlobals mg → mg d.name = some (.ref fa) →
      ∃ fd : FuncData, (∀ (s : Shared) (u : Value), BindsTo s fd ⟨[u], []⟩ [(x, u)]) ∧
        ∀ base : Heap, (K w.params).In base → base.Ns mainGlobals mg → FnG l.prog w (K w.params) mg base CX0 k fa fd [x] (sp (K w.params)))
    (hsp : ∀ (K : PySem.W.Frag) (H : Hp) (a : Addr) (ns : List Int), ns.length ≤ n → Only H → SqL K H a (ns.map V.int) → sp K [.ref a] H (fun v _ => v = .bl true) E0) :
    PySem.W.WalkO q loose XP YP l.row.toRowW d [] (fun f vs => PySem.call f vs) := by
  apply Att.attach_call hn hdf
  intro w s₀ s₁ mg mb fa o pm cd doc a vs ns G Y ho hd hcd hmg hobj hints hlen hg
  have inn := hY w _ Y
  obtain ⟨fd, hb, hF⟩ := F w mg fa _ inn G.T.g hmg
  exact end_call inn G.T.g G.T.b G.T.builtins G.T.nolimit hg hobj hints (Nat.le_trans hlen hn2) hr hF hb (fun H h1 h2 => hsp (K w.params) H a ns hlen h1 h2)
end Vz
set_option Elab.async false
set_option linter.all false
set_option maxRecDepth 100000
set_option maxHeartbeats 2000000
namespace Vz
open PySem PySem.Spec PyProof.Rows L2

/-! ### a whole number or a truth value, and a whole number -/
def numI : V → Option Int
  | .int i => some i
  | .bl b => some (if b = true then 1 else 0)
  | _ => none
def rNumI (g : Int → Int → Int) : R2 := fun x y H Q => ∃ i j, numI x = some i ∧ y = .int j ∧ Q (.int (g i j)) H
theorem op_addB {X : Cx} : OpR X (binaryOp .Add) (rNumI fun i j => i + j) := by
  intro pins s σ H x y v u Q I rx ry h
  obtain ⟨i, j, e, rfl, q⟩ := h
  obtain ⟨t, rfl⟩ := ry
  cases x <;> simp only [numI, Option.some.injEq, reduceCtorEq] at e
  case bl b =>
    subst e
    have ev : v = Value.bool b := rx
    subst ev
    exact PySem.IntBool.add_bool_int ⟨.int _, H, I.tok _, ⟨_, rfl⟩, q⟩
  case int k =>
    subst e
    obtain ⟨t', rfl⟩ := rx
    exact add_int ⟨.int _, H, I.tok _, ⟨_, rfl⟩, q⟩
theorem op_subB {X : Cx} : OpR X (binaryOp .Sub) (rNumI fun i j => i - j) := by
  intro pins s σ H x y v u Q I rx ry h
  obtain ⟨i, j, e, rfl, q⟩ := h
  obtain ⟨t, rfl⟩ := ry
  cases x <;> simp only [numI, Option.some.injEq, reduceCtorEq] at e
  case bl b =>
    subst e
    have ev : v = Value.bool b := rx
    subst ev
    exact PySem.IntBool.sub_bool_int ⟨.int _, H, I.tok _, ⟨_, rfl⟩, q⟩
  case int k =>
    subst e
    obtain ⟨t', rfl⟩ := rx
    exact sub_int ⟨.int _, H, I.tok _, ⟨_, rfl⟩, q⟩

/-! ### zip of a tuple and a list -/
def ItM (K : PySem.W.Frag) (a b : Addr) : It where
  go := fun i H => ∃ (xs ys : List V) (x y : V), SqT K H a xs ∧ SqL K H b ys ∧ xs[i]? = some x ∧ ys[i]? = some y
  yld := fun i H v H' => ∃ T x y, v = .ref T ∧ H T = none ∧ H' = upd H T (.tup [x, y]) ∧ (∀ xs, SqT K H a xs → xs[i]? = some x) ∧ ∀ ys, SqL K H b ys → ys[i]? = some y
  stop := fun i H => ∃ xs ys : List V, SqT K H a xs ∧ SqL K H b ys ∧ i = min xs.length ys.length
theorem walk_zipM {K : PySem.W.Frag} {a b : Addr} {xs ys : List V} {n : Nat} (hn : n = min xs.length ys.length) :
    Walk (ItM K a b) n (fun H => SqT K H a xs ∧ SqL K H b ys) (YPair (fun i => xs[i]?) (fun i => ys[i]?)) := by
  subst hn
  constructor
  · intro i H hi g
    exact ⟨xs, ys, xs[i]'(by omega), ys[i]'(by omega), g.1, g.2, by simp, by simp⟩
  · intro H g
    exact ⟨xs, ys, g.1, g.2, rfl⟩
  · rintro i H v H' hi g ⟨T, x, y, e, nT, eH, fx, fy⟩
    exact ⟨T, x, y, e, nT, eH, fx xs g.1, fy ys g.2⟩
def MSt (z TI TO i1 i2 a b : Addr) (i : Nat) (h : Heap) : Prop :=
  IsZip h z TI TO .none ∧ IsTupOf2 h TI (.ref i1) (.ref i2) ∧ (∃ c1 c2, IsTupOf2 h TO c1 c2) ∧ h.IsTupleIter i1 a i ∧ h.IsListIter i2 b i
theorem turn_zipM {P : Program} {w : World} {K : PySem.W.Frag} {elts : List Expr} {kk : Nat} {tpos : Pos} {a b z TI TO i1 i2 : Addr} (D : ZipSep2 z TI TO i1 i2 [i1, a] [i2, b]) (n1 : a ≠ i1) (n2 : b ≠ i2) :
    Turn P w K (.Tuple elts kk tpos) (ItM K a b) [z, TI, TO, i1, i2] z (MSt z TI TO i1 i2 a b) where
  mem := by simp
  obj := by
    rintro i h ⟨hz, hTI, ⟨c1, c2, hTO⟩, ⟨o1, e1, _, d1⟩, ⟨o2, e2, _, d2⟩⟩ c hc
    simp only [List.mem_cons, List.not_mem_nil, or_false] at hc
    rcases hc with rfl | rfl | rfl | rfl | rfl
    · exact ⟨_, hz, fun v q => nomatch q⟩
    · exact ⟨_, hTI, fun v q => nomatch q⟩
    · exact ⟨_, hTO, fun v q => nomatch q⟩
    · exact ⟨o1, e1, fun v q => by rw [d1] at q; cases q⟩
    · exact ⟨o2, e2, fun v q => by rw [d2] at q; cases q⟩
  keep := by
    rintro i h h' ⟨hz, hTI, ⟨c1, c2, hTO⟩, h1, h2⟩ k
    refine ⟨k z (by simp) _ hz, k TI (by simp) _ hTI, ⟨c1, c2, k TO (by simp) _ hTO⟩, ?_, ?_⟩
    · exact h1.at (fun o q => k i1 (by simp) o q)
    · exact h2.at (fun o q => k i2 (by simp) o q)
  item := by
    intro X hP hw hK calm i pins s σ H E I free st go
    subst hP hw hK
    obtain ⟨hz, hTI, hTO, h1, h2⟩ := st
    obtain ⟨xs, ys, x, y, gx, gy, ex, ey⟩ := go
    obtain ⟨its, rv, p, _⟩ := I.tuple gx
    obtain ⟨its2, rv2, p2, _⟩ := I.list gy
    have hh : X.A.in1.handled = none := I.ok.hd calm
    have dT := Draws.tuple (prog := X.prog) (w := X.w) (A := X.A.in1) hh i1 a n1 its.toArray
    have dL := Draws.list (prog := X.prog) (w := X.w) (A := X.A.in1) hh i2 b n2 its2.toArray
    have W := GoesN.zip2 (elts := elts) (x1 := kk) (pos := tpos) D dT dL
    have l1 := rv.length
    have l2 := rv2.length
    have m1 := (List.getElem?_eq_some_iff.mp ex).1
    have m2 := (List.getElem?_eq_some_iff.mp ey).1
    have hi : i < min its.toArray.size its2.toArray.size := by rw [List.size_toArray, List.size_toArray]; omega
    refine W.goes i s (fun v s2 => ∃ x H', Inv X pins σ H' s2 ∧ RelV x v ∧ (ItM X.K a b).yld i H x H' ∧ MSt z TI TO i1 i2 a b (i + 1) s2.heap ∧ ∀ b' ∈ [z, TI, TO, i1, i2], H' b' = none) E hi
      ⟨hz, hTI, hTO, ⟨h1, p⟩, ⟨h2, p2.isList⟩⟩ ?_
    rintro v h' tk ⟨T, u1, u2, rfl, nT, e1, e2, hT⟩ ⟨hz', hTI', hTO', ⟨h1', _⟩, ⟨h2', _⟩⟩ kp _
    obtain ⟨w1, hw1, rw1⟩ := rv.get ex
    obtain ⟨w2, hw2, rw2⟩ := rv2.get ey
    have q1 : u1 = w1 := by
      have z := e1
      simp only [List.getElem?_toArray] at z
      rw [hw1] at z
      exact (Option.some.inj z).symm
    have q2 : u2 = w2 := by
      have z := e2
      simp only [List.getElem?_toArray] at z
      rw [hw2] at z
      exact (Option.some.inj z).symm
    subst q1 q2
    have new : ObjOk X.prog X.w (upd H T (.tup [x, y])) h' T (.tup [x, y]) := ⟨by show 2 ≤ sizeLine; decide, [u1, u2], .cons rw1 (.cons rw2 .nil), hT⟩
    have I1 : Inv X pins σ (upd H T (.tup [x, y])) { s with heap := h', toks := tk } := by
      refine I.turnedNew (t' := tk) (ch := [z, TI, TO, i1, i2]) (fun c o hc q => kp c o (fun hm => hc ?_) q) free nT new
      simp only [List.mem_cons, List.not_mem_nil, or_false] at hm ⊢
      rcases hm with q | q | q | q <;> simp [q]
    refine ⟨.ref T, _, I1, rfl, ⟨T, x, y, rfl, I.hok.fresh nT, rfl, fun l hl => ?_, fun l hl => ?_⟩, ⟨hz', hTI', hTO', h1', h2'⟩, fun c hc => ?_⟩
    · rw [I.tuple_inj hl gx]; exact ex
    · rw [I.list_inj hl gy]; exact ey
    · have lt : c < s.heap.objs.size := by
        simp only [List.mem_cons, List.not_mem_nil, or_false] at hc
        rcases hc with rfl | rfl | rfl | rfl | rfl
        · exact Heap.lt_size hz
        · exact Heap.lt_size hTI
        · obtain ⟨_, _, q⟩ := hTO; exact Heap.lt_size q
        · obtain ⟨_, q, _⟩ := h1; exact Heap.lt_size q
        · obtain ⟨_, q, _⟩ := h2; exact Heap.lt_size q
      rw [upd_ne (Nat.ne_of_lt (Nat.lt_of_lt_of_le lt nT))]
      exact (free c hc).1
  done := by
    intro X hP hw hK calm i pins s σ H E I free st stop
    subst hP hw hK
    obtain ⟨hz, hTI, hTO, h1, h2⟩ := st
    obtain ⟨xs, ys, gx, gy, hi⟩ := stop
    obtain ⟨its, rv, p, _⟩ := I.tuple gx
    obtain ⟨its2, rv2, p2, _⟩ := I.list gy
    have hh : X.A.in1.handled = none := I.ok.hd calm
    have dT := Draws.tuple (prog := X.prog) (w := X.w) (A := X.A.in1) hh i1 a n1 its.toArray
    have dL := Draws.list (prog := X.prog) (w := X.w) (A := X.A.in1) hh i2 b n2 its2.toArray
    have W := GoesN.zip2 (elts := elts) (x1 := kk) (pos := tpos) D dT dL
    have l1 := rv.length
    have l2 := rv2.length
    have hi' : i = min its.toArray.size its2.toArray.size := by rw [List.size_toArray, List.size_toArray]; omega
    subst hi'
    refine W.stops s (fun s1 => Inv X pins σ H s1) E ⟨hz, hTI, hTO, ⟨h1, p⟩, ⟨h2, p2.isList⟩⟩ ?_
    intro h' tk kp _
    refine I.turnedL (t' := tk) (ch := [z, TI, TO, i1, i2]) (fun c o hc q => kp c o (fun hm => hc ?_) q) free
    simp only [List.mem_cons, List.not_mem_nil, or_false] at hm ⊢
    rcases hm with q | q | q | q <;> simp [q]
  self := fun A i s Q E st h => wpAny_pyIter_zip st.1 h

def iZipM (K : PySem.W.Frag) (ta : TA) : TI := fun σ H R => ta σ H fun vs H1 => ∃ (a b : Addr) (xs ys : List V), vs = [.ref a, .ref b] ∧ SqT K H1 a xs ∧ SqL K H1 b ys ∧ R (ItM K a b) H1
theorem pi_zipM {X : Cx} {e e2 : Expr} {ta : TA} {p pos tpos : Pos} {elts : List Expr} {kk : Nat} (gl : Gl X "zip") (no : X.mg "zip" = none) (pa : PA X [e, e2] ta)
    (st : starEach [e, e2] X.env = (false, eval e X.env) :: starEach [e2] X.env := by rfl) (pl : (backTo pos (starEach [e2] X.env)).any (·.1) = false := by rfl) :
    PI X (.Tuple elts kk tpos) (.Call (.Name "zip" p) [e, e2] [] pos) (iZipM X.K ta) := by
  constructor
  intro pins s σ H R I h
  refine Call_ (ld_blt I gl no PyProof.Rows.boot_zip (PyProof.Rows.callWith_type1 (thn (pa.run pos pins s σ H _ I h) ?_) st pl))
  rintro us s1 ⟨vs, H1, I1, r1, a, b, xs, ys, ev, gx, gy, q⟩
  subst ev
  obtain ⟨v1, v2, rfl, ra, rb⟩ := vals2 r1
  have e1 : v1 = Value.ref a := ra
  have e2' : v2 = Value.ref b := rb
  subst e1 e2'
  obtain ⟨its, rv, p1, _⟩ := I1.tuple gx
  obtain ⟨its2, rv2, p2, _⟩ := I1.list gy
  have la : a < s1.heap.objs.size := by obtain ⟨o, ho, _⟩ := p1; exact Heap.lt_size ho
  have lb : b < s1.heap.objs.size := p2.lt
  refine zip_begins2 (begins_tuple a its.toArray) (begins_list b its2.toArray) p1 p2.isList ?_
  intro h' hz hTI hTO h1 h2 hsz kp
  refine wpAny_pyIter_zip hz ?_
  have I2 : Inv X pins σ H1 { s1 with heap := h' } := I1.kept (t' := s1.toks) kp
  have sep := zip_sep2 (N := s1.heap.objs.size) (fp1 := [a]) (fp2 := [b]) (fun c hc => by rw [List.mem_singleton] at hc; rw [hc]; exact la) (fun c hc => by rw [List.mem_singleton] at hc; rw [hc]; exact lb)
  refine ⟨_, _, _, _, H1, rfl, I2, turn_zipM sep (Nat.ne_of_lt la) (Nat.ne_of_lt (Nat.lt_succ_of_lt lb)), ?_, ?_, q⟩
  · exact ⟨hz, hTI, ⟨_, _, hTO⟩, ⟨_, h1, rfl, rfl⟩, ⟨_, h2, rfl, rfl⟩⟩
  · intro c hc
    have ge : s1.heap.objs.size ≤ c := by
      simp only [List.mem_cons, List.not_mem_nil, or_false] at hc
      rcases hc with rfl | rfl | rfl | rfl | rfl
      · exact Nat.le_add_right _ _
      · exact Nat.le_add_right _ _
      · exact Nat.le_add_right _ _
      · exact Nat.le_refl _
      · exact Nat.le_add_right _ _
    exact I1.fpOk ge (I1.hok.fresh ge)

/-! ### a call by a keyword alone -/
section
variable {X : Cx} {CX : CXT} {k : Nat} {f : Addr} {fd : FuncData} {ps ks : List Str} {sp : Sp} {E : XK} {g : List Value → List Value → List Value} {gV : List V → List V → List V}
theorem pe_callK0 {x : Str} {p pos : Pos} {kws : List Keyword} {tk : TA} (F : FnOk X.prog X.w X.K X.mg X.base CX k f fd ps sp) (hr : Room k X.A) (gl : Gl X x) (at_ : X.mg x = some (.ref f))
    (kp : PySem.W.keepIn X.K (.ref f) = true) (bd : KBinds X.K fd ps ks g gV) (pas : Passes CX X E) (pk : PK X kws tk)
    (al : (backToKw pos (keywordEach kws X.env)).all (·.1.isSome) = true := by rfl) (nm : (backToKw pos (keywordEach kws X.env)).filterMap (·.1) = ks := by rfl)
    (nodb : (x == ("__debug__" : Str)) = false := by decide)
    (pl : ((backTo pos (starEach [] X.env)).any (·.1) || (backToKw pos (keywordEach kws X.env)).any (·.1.isNone)) = false := by rfl) :
    PE X (.Call (.Name x p) [] kws pos) (tCallK sp gV E tNil tk) := by
  constructor
  intro pins s σ H Q I h
  apply wpAny_Call_Name_kw
  refine ld_glob I gl at_ ?_ nodb
  refine PySem.W.callWith_KW0 (h₀ := X.base) I.ok.mod.kin kp al (thn (pk.run pos pins s σ H _ I h) ?_) pl
  rintro ws s2 ⟨zs, H2, I2, rz, q2⟩
  refine ⟨I2.kIn, ?_⟩
  rw [nm]
  exact run_fnk F hr bd pas I2 .nil rz q2
end
end Vz
set_option Elab.async false
set_option linter.all false
set_option maxRecDepth 100000
set_option maxHeartbeats 2000000
namespace Vz
open PySem PySem.Spec PyProof.Rows L2
/-! ### for i, x in enumerate(tuple, start=k) -/
def ItEn (K : PySem.W.Frag) (k0 : Int) (a : Addr) : It where
  go := fun i H => ∃ (xs : List V) (x : V), SqT K H a xs ∧ xs[i]? = some x
  yld := fun i H v H' => ∃ T x, v = .ref T ∧ H T = none ∧ H' = upd H T (.tup [.int (k0 + (i : Nat)), x]) ∧ ∀ xs, SqT K H a xs → xs[i]? = some x
  stop := fun i H => ∃ xs : List V, SqT K H a xs ∧ i = xs.length
theorem walk_en {K : PySem.W.Frag} {k0 : Int} {a : Addr} {xs : List V} :
    Walk (ItEn K k0 a) xs.length (fun H => SqT K H a xs) (YPair (fun i => some (.int (k0 + (i : Nat)))) (fun i => xs[i]?)) := by
  constructor
  · intro i H hi g
    exact ⟨xs, xs[i], g, by simp⟩
  · intro H g
    exact ⟨xs, g, rfl⟩
  · rintro i H v H' hi g ⟨T, x, e, nT, eH, fx⟩
    exact ⟨T, _, x, e, nT, eH, rfl, fx xs g⟩
def EnSt (k0 : Int) (e it a : Addr) (i : Nat) (h : Heap) : Prop := (∃ old, IsEnum h e it (k0 + (i : Int)) old) ∧ h.IsTupleIter it a i
theorem turn_en {P : Program} {w : World} {K : PySem.W.Frag} {elts : List Expr} {kk : Nat} {tpos : Pos} {k0 : Int} {a e it : Addr} (n1 : a ≠ it) (n2 : e ≠ it) (n3 : e ≠ a) :
    Turn P w K (.Tuple elts kk tpos) (ItEn K k0 a) [e, it] e (EnSt k0 e it a) where
  mem := by simp
  obj := by
    rintro i h ⟨⟨old, he⟩, ⟨o1, e1, _, d1⟩⟩ c hc
    simp only [List.mem_cons, List.not_mem_nil, or_false] at hc
    rcases hc with rfl | rfl
    · exact ⟨_, he, fun v q => nomatch q⟩
    · exact ⟨o1, e1, fun v q => by rw [d1] at q; cases q⟩
  keep := by
    rintro i h h' ⟨⟨old, he⟩, h1⟩ k
    exact ⟨⟨old, k e (by simp) _ he⟩, h1.at (fun o q => k it (by simp) o q)⟩
  item := by
    intro X hP hw hK calm i pins s σ H E I free st go
    subst hP hw hK
    obtain ⟨he, h1⟩ := st
    obtain ⟨xs, x, gx, ex⟩ := go
    obtain ⟨its, rv, p, _⟩ := I.tuple gx
    have hh : X.A.in1.handled = none := I.ok.hd calm
    have dT := Draws.tuple (prog := X.prog) (w := X.w) (A := X.A.in1) hh it a n1 its.toArray
    have W := GoesN.enumFrom (elts := elts) (x1 := kk) (pos := tpos) k0 dT e n2 (by simp [n2, n3]) (by simp)
    have l1 := rv.length
    have m1 := (List.getElem?_eq_some_iff.mp ex).1
    have hi : i < its.toArray.size := by rw [List.size_toArray]; omega
    refine W.goes i s (fun v s2 => ∃ x H', Inv X pins σ H' s2 ∧ RelV x v ∧ (ItEn X.K k0 a).yld i H x H' ∧ EnSt k0 e it a (i + 1) s2.heap ∧ ∀ b' ∈ [e, it], H' b' = none) E hi
      ⟨he, h1, p⟩ ?_
    rintro v h' tk ⟨T, t, u1, rfl, nT, e1, hT⟩ ⟨he', h1', _⟩ kp _
    obtain ⟨w1, hw1, rw1⟩ := rv.get ex
    have q1 : u1 = w1 := by
      have z := e1
      simp only [List.getElem?_toArray] at z
      rw [hw1] at z
      exact (Option.some.inj z).symm
    subst q1
    have new : ObjOk X.prog X.w (upd H T (.tup [.int (k0 + (i : Nat)), x])) h' T (.tup [.int (k0 + (i : Nat)), x]) := ⟨by show 2 ≤ sizeLine; decide, [.int (k0 + (i : Nat)) t, u1], .cons ⟨_, rfl⟩ (.cons rw1 .nil), hT⟩
    have I1 : Inv X pins σ (upd H T (.tup [.int (k0 + (i : Nat)), x])) { s with heap := h', toks := tk } := by
      refine I.turnedNew (t' := tk) (ch := [e, it]) (fun c o hc q => kp c o (fun hm => hc ?_) q) free nT new
      simpa using hm
    refine ⟨.ref T, _, I1, rfl, ⟨T, x, rfl, I.hok.fresh nT, rfl, fun l hl => ?_⟩, ⟨he', h1'⟩, fun c hc => ?_⟩
    · rw [I.tuple_inj hl gx]; exact ex
    · have lt : c < s.heap.objs.size := by
        simp only [List.mem_cons, List.not_mem_nil, or_false] at hc
        rcases hc with rfl | rfl
        · obtain ⟨_, q⟩ := he; exact Heap.lt_size q
        · obtain ⟨_, q, _⟩ := h1; exact Heap.lt_size q
      rw [upd_ne (Nat.ne_of_lt (Nat.lt_of_lt_of_le lt nT))]
      exact (free c hc).1
  done := by
    intro X hP hw hK calm i pins s σ H E I free st stop
    subst hP hw hK
    obtain ⟨he, h1⟩ := st
    obtain ⟨xs, gx, hi⟩ := stop
    obtain ⟨its, rv, p, _⟩ := I.tuple gx
    have hh : X.A.in1.handled = none := I.ok.hd calm
    have dT := Draws.tuple (prog := X.prog) (w := X.w) (A := X.A.in1) hh it a n1 its.toArray
    have W := GoesN.enumFrom (elts := elts) (x1 := kk) (pos := tpos) k0 dT e n2 (by simp [n2, n3]) (by simp)
    have l1 := rv.length
    have hi' : i = its.toArray.size := by rw [List.size_toArray]; omega
    subst hi'
    refine W.stops s (fun s1 => Inv X pins σ H s1) E ⟨he, h1, p⟩ ?_
    intro h' tk kp _
    refine I.turnedL (t' := tk) (ch := [e, it]) (fun c o hc q => kp c o (fun hm => hc ?_) q) free
    simpa using hm
  self := fun A i s Q E st h => by
    obtain ⟨⟨_, he⟩, _⟩ := st
    exact wpAny_pyIter_enum he h
section
variable {M : Model} {A : Around} {E : Value → Shared → Prop} {s : Shared} {env : Env}
theorem callWith_type_kwB {pos : Pos} {T : String} {first : List Value} {args : List (Bool × Sem Value)} {keywords : List (Option Str × Sem Value)} {Q : Value → Shared → Prop}
    (hplain : args.any (·.1) = false) (hkw : keywords.any (·.1.isNone) = false)
    (h : wpAny M A (evalArgs (.type T) true args keywords) (fun a s₁ => wpAny M A (call (.type T) (first ++ a.pos) a.kw) Q E s₁) E s) :
    wpAny M A (callWith pos (.type T) first args keywords) Q E s := by
  unfold callWith
  refine wpAny_bind (wpAny_holding (wpAny_mono h (fun a s₁ h₁ => wpAny_bind (wpAny_standAt ?_)) fun _ _ x => x))
  simp only [hplain, hkw, Bool.or_false]
  refine wpAny_bind (wpAny_pure ?_)
  exact wpAny_bind (wpAny_mono h₁ (fun r s₂ hr => wpAny_bind (wpAny_holding (wpAny_point (wpAny_pure hr)))) fun _ _ x => x)
end
def iEn (K : PySem.W.Frag) (ta tk : TA) : TI := fun σ H R => ta σ H fun vs H1 => tk σ H1 fun zs H2 => ∃ (a : Addr) (xs : List V) (k0 : Int), vs = [.ref a] ∧ zs = [.int k0] ∧ -(2 ^ 63) ≤ k0 ∧ k0 < 2 ^ 63 ∧ SqT K H2 a xs ∧ R (ItEn K k0 a) H2
theorem pi_en {X : Cx} {e : Expr} {ta tk : TA} {p pos tpos : Pos} {kws : List Keyword} {elts : List Expr} {kk : Nat} (gl : Gl X "enumerate") (no : X.mg "enumerate" = none) (pa : PA X [e] ta) (pk : PK X kws tk)
    (he : backTo pos (starEach [e] X.env) = (false, eval e X.env) :: backTo pos (starEach [] X.env) := by rfl)
    (hplain : (backTo pos (starEach [e] X.env)).any (·.1) = false := by rfl)
    (hall : (backToKw pos (keywordEach kws X.env)).all (·.1.isSome) = true := by rfl)
    (hkw : (backToKw pos (keywordEach kws X.env)).any (·.1.isNone) = false := by rfl)
    (nm : (backToKw pos (keywordEach kws X.env)).filterMap (·.1) = [Str.ofString "start"] := by rfl) :
    PI X (.Tuple elts kk tpos) (.Call (.Name "enumerate" p) [e] kws pos) (iEn X.K ta tk) := by
  constructor
  intro pins s σ H R I h
  apply wpAny_Call_Name_kw
  refine ld_blt I gl no PyProof.Rows.boot_enumerate ?_
  refine callWith_type_kwB hplain hkw ?_
  have h2 := pa.run pos pins s σ H _ I h
  rw [he] at h2 ⊢
  refine PyProof.Rows.evalArgs_kwB hall (thn h2 ?_)
  rintro us s1 ⟨vs, H1, I1, r1, q1⟩
  refine thn (pk.run pos pins s1 σ H1 _ I1 q1) ?_
  rintro ws s2 ⟨zs, H2, I2, rz, a, xs, k0, ev, ez, k1, k2, gx, q⟩
  subst ev ez
  cases r1 with
  | cons ra rr =>
  cases rr
  cases rz with
  | cons rb rr2 =>
  cases rr2
  obtain ⟨t0, rfl⟩ := rb
  cases ra
  rw [nm]
  obtain ⟨its, rv, p1, _⟩ := I2.tuple gx
  have la : a < s2.heap.objs.size := by obtain ⟨o, ho, _⟩ := p1; exact Heap.lt_size ho
  refine enum_begins_start (begins_tuple a its.toArray) p1 k1 k2 ?_
  intro h' hz h1' hsz kp
  refine wpAny_pyIter_enum hz ?_
  have I3 : Inv X pins σ H2 { s2 with heap := h' } := I2.kept (t' := s2.toks) kp
  refine ⟨s2.heap.objs.size + 1, [s2.heap.objs.size + 1, s2.heap.objs.size], _, _, H2, rfl, I3, turn_en (Nat.ne_of_lt la) (Nat.succ_ne_self _) (Nat.ne_of_gt (Nat.lt_succ_of_lt la)), ?_, ?_, q⟩
  · exact ⟨⟨_, by simpa using hz⟩, ⟨_, h1', rfl, rfl⟩⟩
  · intro c hc
    have ge : s2.heap.objs.size ≤ c := by
      simp only [List.mem_cons, List.not_mem_nil, or_false] at hc
      rcases hc with rfl | rfl
      · exact Nat.le_add_right _ _
      · exact Nat.le_refl _
    exact I2.fpOk ge (I2.hok.fresh ge)
end Vz
namespace Ma
/-- days before a year -/
def days (y : Int) : Int := 365 * (y - 1) + (y - 1) / 4 - (y - 1) / 128
/-- the year of a day -/
def yearOf (d : Int) : Int := 128 * (d / 46751) + 4 * (d % 46751 / 1461) + (if 3 < d % 46751 % 1461 / 365 then 3 else d % 46751 % 1461 / 365) + 1
def begins (y : Int) : Int := days y * 86400 + (y - 1) / 40
def leapY (y : Int) : Bool := decide (y % 4 = 0) && decide (y % 128 ≠ 0)
def dim (y m : Int) : Int := if m < 13 then 28 else if leapY y then 30 else 29
/-- seconds before a date, without leap seconds -/
def plain (y mo d h mi s z : Int) : Int := 86400 * (days y + 28 * (mo - 1) + d - 1) + 3600 * h + 60 * (mi - z) + s
def within (i lo hi : Int) : Bool := decide (lo ≤ i) && decide (i ≤ hi)
def fits (y mo d h mi s z : Int) : Bool :=
  within y 1 9999 && within mo 1 13 && within d 1 (dim y mo) && within z (-840) 840 && within h 0 23 && within mi 0 59 && within s 0 60
def isLeap (b : Int) : Bool := decide (yearOf (b / 86400) % 40 = 0) && decide (b + 1 = 86400 * days (yearOf (b / 86400) + 1))
def before (y mo d h mi s z : Int) : Int := plain y mo d h mi (if 59 < s then 59 else s) z
def isDate (y mo d h mi s z : Int) : Bool :=
  fits y mo d h mi s z && (decide (0 ≤ before y mo d h mi s z) && decide (before y mo d h mi s z < 86400 * days 10000)) && (decide (s < 60) || isLeap (before y mo d h mi s z))

theorem days_step (y : Int) : days y + 365 ≤ days (y + 1) := by unfold days; omega
theorem days_step2 (y : Int) : days (y + 1) ≤ days y + 366 := by unfold days; omega
theorem days_mono {x y : Int} (h : x < y) : days x < days y := by
  have key : ∀ n : Nat, days x + 365 * ((n : Int) + 1) ≤ days (x + 1 + n) := by
    intro n
    induction n with
    | zero => have := days_step x; simp; omega
    | succ n ih =>
      have := days_step (x + 1 + n)
      have e : x + 1 + ((n + 1 : Nat) : Int) = x + 1 + (n : Int) + 1 := by omega
      rw [e]
      have e2 : ((n + 1 : Nat) : Int) = (n : Int) + 1 := by omega
      rw [e2]; omega
  obtain ⟨n, hn⟩ : ∃ n : Nat, y = x + 1 + n := ⟨(y - x - 1).toNat, by omega⟩
  have := key n
  rw [hn]; omega
theorem days_le {x y : Int} (h : x ≤ y) : days x ≤ days y := by
  by_cases e : x = y
  · rw [e]; exact Int.le_refl _
  · have := days_mono (x := x) (y := y) (by omega); omega
theorem days_lt_iff {x y : Int} : days x < days y ↔ x < y := by
  constructor
  · intro h
    by_cases c : x < y
    · exact c
    · have := days_le (x := y) (y := x) (by omega); omega
  · exact days_mono
theorem year_spec (d : Int) : days (yearOf d) ≤ d ∧ d < days (yearOf d + 1) := by
  have key : ∀ R F m e : Int, 0 ≤ F → F ≤ 31 → 0 ≤ m → m ≤ 3 → 365 * m ≤ e → (m < 3 → e < 365 * m + 365) → e ≤ 1460 → 1461 * F + e ≤ 46750 →
      days (128 * R + 4 * F + m + 1) ≤ 46751 * R + 1461 * F + e ∧ 46751 * R + 1461 * F + e < days (128 * R + 4 * F + m + 1 + 1) := by
    intro R F m e h1 h2 h3 h4 h5 h6 h7 h8
    have a1 : (128 * R + 4 * F + m + 1 - 1) / 4 = 32 * R + F := by omega
    have a2 : (128 * R + 4 * F + m + 1 - 1) / 128 = R := by omega
    have hm : m = 0 ∨ m = 1 ∨ m = 2 ∨ m = 3 := by omega
    unfold days
    rw [a1, a2]
    rcases hm with rfl | rfl | rfl | rfl
    · have b1 : (128 * R + 4 * F + 0 + 1 + 1 - 1) / 4 = 32 * R + F := by omega
      have b2 : (128 * R + 4 * F + 0 + 1 + 1 - 1) / 128 = R := by omega
      rw [b1, b2]; omega
    · have b1 : (128 * R + 4 * F + 1 + 1 + 1 - 1) / 4 = 32 * R + F := by omega
      have b2 : (128 * R + 4 * F + 1 + 1 + 1 - 1) / 128 = R := by omega
      rw [b1, b2]; omega
    · have b1 : (128 * R + 4 * F + 2 + 1 + 1 - 1) / 4 = 32 * R + F := by omega
      have b2 : (128 * R + 4 * F + 2 + 1 + 1 - 1) / 128 = R := by omega
      rw [b1, b2]; omega
    · have b1 : (128 * R + 4 * F + 3 + 1 + 1 - 1) / 4 = 32 * R + F + 1 := by omega
      by_cases c : F = 31
      · subst c
        have b2 : (128 * R + 4 * 31 + 3 + 1 + 1 - 1) / 128 = R + 1 := by omega
        rw [b1, b2]; omega
      · have b2 : (128 * R + 4 * F + 3 + 1 + 1 - 1) / 128 = R := by omega
        rw [b1, b2]; omega
  have e0 : d = 46751 * (d / 46751) + 1461 * (d % 46751 / 1461) + d % 46751 % 1461 := by omega
  have r1 : 0 ≤ d % 46751 := by omega
  have r2 : d % 46751 ≤ 46750 := by omega
  have q1 : 0 ≤ d % 46751 % 1461 := by omega
  have q2 : d % 46751 % 1461 ≤ 1460 := by omega
  have f1 : 0 ≤ d % 46751 / 1461 := by omega
  have f2 : d % 46751 / 1461 ≤ 31 := by omega
  have f3 : 1461 * (d % 46751 / 1461) + d % 46751 % 1461 ≤ 46750 := by omega
  unfold yearOf
  split
  · have := key (d / 46751) (d % 46751 / 1461) 3 (d % 46751 % 1461) f1 f2 (by omega) (by omega) (by omega) (by omega) q2 f3
    rw [← e0] at this
    exact this
  · have := key (d / 46751) (d % 46751 / 1461) (d % 46751 % 1461 / 365) (d % 46751 % 1461) f1 f2 (by omega) (by omega) (by omega) (by omega) q2 f3
    rw [← e0] at this
    exact this
theorem year_uniq {d y : Int} (h1 : days y ≤ d) (h2 : d < days (y + 1)) : y = yearOf d := by
  obtain ⟨a, b⟩ := year_spec d
  have l1 : days y < days (yearOf d + 1) := by omega
  have l2 : days (yearOf d) < days (y + 1) := by omega
  rw [days_lt_iff] at l1 l2
  omega
theorem days_366 {n : Int} (h : 0 ≤ n) : days (n + 1) ≤ 366 * n := by unfold days; omega
theorem days_one : days 1 = 0 := rfl
theorem begins_step (y : Int) : begins y + 1 ≤ begins (y + 1) := by unfold begins days; omega

/-- what the law's own reading of a date tells: the leap second's way and the other one -/
theorem leap_way {y mo d h mi z : Int} (f : fits y mo d h mi 60 z = true) {a : Int} (ha : ∀ k, plain y mo d h mi 60 z / 31622400 ≤ k → k < a → days (k + 1) * 86400 < plain y mo d h mi 60 z)
    (h0 : plain y mo d h mi 60 z / 31622400 ≤ a) (hb : ¬ days (a + 1) * 86400 < plain y mo d h mi 60 z) :
    isDate y mo d h mi 60 z = (decide (0 < a) && decide (a % 40 = 0) && decide (days (a + 1) * 86400 = plain y mo d h mi 60 z)) := by
  have eb : before y mo d h mi 60 z = plain y mo d h mi 60 z - 1 := by unfold before plain; simp; omega
  generalize hp : plain y mo d h mi 60 z = p at *
  unfold isDate
  rw [f, eb]
  simp only [Bool.true_and]
  have s60 : decide ((60 : Int) < 60) = false := by decide
  rw [s60, Bool.false_or]
  unfold isLeap
  obtain ⟨ys1, ys2⟩ := year_spec ((p - 1) / 86400)
  generalize hY : yearOf ((p - 1) / 86400) = Y at *
  -- bound of p
  have fp : p ≤ 86400 * days 10000 + 60 * 840 + 60 := by
    unfold fits within at f
    simp only [Bool.and_eq_true, decide_eq_true_eq] at f
    obtain ⟨⟨⟨⟨⟨⟨⟨y1, y2⟩, m1, m2⟩, d1, d2⟩, z1, z2⟩, h1, h2⟩, i1, i2⟩, _⟩ := f
    have hd : days y + 28 * (mo - 1) + d - 1 ≤ days (y + 1) - 1 := by
      have : 28 * (mo - 1) + d ≤ days (y + 1) - days y := by
        unfold dim leapY at d2
        unfold days
        split at d2
        · omega
        · split at d2
          · rename_i _ hh; simp only [Bool.and_eq_true, decide_eq_true_eq] at hh; omega
          · omega
      omega
    have h10 := days_le (x := y + 1) (y := 10000) (by omega)
    rw [← hp]; unfold plain
    omega
  rw [Bool.eq_iff_iff]
  simp only [Bool.and_eq_true, decide_eq_true_eq]
  constructor
  · rintro ⟨⟨b1, b2⟩, l1, l2⟩
    have hYp : 0 < Y := by
      have : days 1 < days (Y + 1) := by rw [days_one]; omega
      rw [days_lt_iff] at this; omega
    have ep : p = 86400 * days (Y + 1) := by omega
    have le : p / 31622400 ≤ Y := by have := days_366 (n := Y) (by omega); omega
    have ea : a = Y := by
      by_cases c1 : a < Y
      · have := days_mono (x := a + 1) (y := Y + 1) (by omega); omega
      · by_cases c2 : Y < a
        · have := ha Y le c2; omega
        · omega
    subst ea
    exact ⟨⟨hYp, l1⟩, by omega⟩
  · rintro ⟨⟨a1, a2⟩, a3⟩
    have d1 := days_mono (x := a) (y := a + 1) (by omega)
    have eY : a = Y := by
      rw [← hY]; exact year_uniq (by omega) (by omega)
    subst eY
    have pos : days 1 < days (a + 1) := days_mono (by omega)
    rw [days_one] at pos
    have lt : a + 1 ≤ 10000 := by
      by_cases c : a + 1 ≤ 10000
      · exact c
      · have q1 := days_le (x := 10001) (y := a + 1) (by omega)
        have q2 : days 10001 = 3652422 := by decide
        have q3 : days 10000 = 3652056 := by decide
        omega
    have := days_le lt
    exact ⟨⟨by omega, by omega⟩, a2, by omega⟩
theorem plain_way {y mo d h mi s z : Int} (hs : ¬ s = 60) (f : fits y mo d h mi s z = true) {a : Int} (h0 : plain y mo d h mi s z / 31622400 + 1 ≤ a)
    (ha : ∀ k, plain y mo d h mi s z / 31622400 + 1 ≤ k → k < a → days (k + 1) * 86400 ≤ plain y mo d h mi s z) (hb : ¬ days (a + 1) * 86400 ≤ plain y mo d h mi s z) :
    isDate y mo d h mi s z = (decide (0 ≤ plain y mo d h mi s z) && decide (a < 10000)) := by
  have hs59 : s ≤ 59 := by
    unfold fits within at f
    simp only [Bool.and_eq_true, decide_eq_true_eq] at f
    omega
  have eb : before y mo d h mi s z = plain y mo d h mi s z := by unfold before; rw [if_neg (by omega)]
  unfold isDate
  rw [f, eb]
  generalize plain y mo d h mi s z = p at *
  rw [show decide (s < 60) = true by simp; omega]
  simp only [Bool.true_and, Bool.true_or, Bool.and_true]
  rw [Bool.eq_iff_iff]
  simp only [Bool.and_eq_true, decide_eq_true_eq]
  constructor
  · rintro ⟨p0, p1⟩
    refine ⟨p0, ?_⟩
    by_cases c : a < 10000
    · exact c
    · by_cases st : p / 31622400 + 1 ≤ 9999
      · have := ha 9999 st (by omega)
        have e1 : (9999 : Int) + 1 = 10000 := by decide
        rw [e1] at this
        omega
      · have e2 : days 10000 = 3652056 := by decide
        omega
  · rintro ⟨p0, p1⟩
    refine ⟨p0, ?_⟩
    have := days_le (x := a + 1) (y := 10000) (by omega)
    omega
end Ma
set_option Elab.async false
set_option linter.all false
set_option maxRecDepth 100000
set_option maxHeartbeats 2000000
namespace Vz
open PySem PySem.Spec PyProof.Rows L2
/-! ### an error of the text with one field -/
def sp_init (C : Addr) (f : Str) : Sp := fun vs H Q _ => ∃ (a : Addr) (v : V), vs = [.ref a, v] ∧ H a = some (exo a C none) ∧
  ∀ dx, H dx = none → dx ≠ a → Q .non (upd (upd H dx (exd dx [(f, v)])) a (exo a C (some dx)))
/-- X(v): what is to be shown is the way out, at the error's own new dict -/
theorem made_end {C : Addr} {f : Str} {v : V} {H : Hp} {Q : XK} (q : ∀ d, H d = none → Q (.ref C) (some d) (upd H d (.xd [(f, v)]))) :
    [v].length ≤ 1000 ∧ ∀ a, H a = none → sp_init C f (.ref a :: ([v] ++ [])) (upd H a (exo a C none))
      (fun z H2 => z = .non ∧ ∃ (d : Addr) (fs : List (Str × V)), H2 a = some (exo a C (some d)) ∧ H2 d = some (exd d fs) ∧ H d = none ∧ Q (.ref C) (some d) (upd (del H2 a) d (.xd fs))) (fun _ _ _ => False) := by
  refine ⟨by show 1 ≤ 1000; decide, fun a na => ⟨a, v, rfl, upd_same, fun dx ndx ne => ⟨rfl, dx, [(f, v)], upd_same, ?_, ?_, ?_⟩⟩⟩
  · rw [upd_ne ne, upd_same]
  · rw [upd_ne ne] at ndx; exact ndx
  · have hd : H dx = none := by rw [upd_ne ne] at ndx; exact ndx
    have e : upd (del (upd (upd (upd H a (exo a C none)) dx (exd dx [(f, v)])) a (exo a C (some dx))) a) dx (.xd [(f, v)]) = upd H dx (.xd [(f, v)]) := by
      funext b
      by_cases h1 : b = dx
      · subst h1; rw [upd_same, upd_same]
      · rw [upd_ne h1, upd_ne h1]
        by_cases h2 : b = a
        · subst h2; rw [del_same, na]
        · rw [del_ne h2, upd_ne h2, upd_ne h1, upd_ne h2]
    rw [e]
    exact q dx hd
theorem repr_bool {X : Cx} : CallR X (.builtin "repr") (fun xs H Q => ∃ b : Bool, xs = [.bl b] ∧ Q (.str (if b then "True" else "False")) H) := by
  intro pins s σ H xs us Q I r h
  obtain ⟨b, rfl, q⟩ := h
  obtain ⟨u, rfl, ru⟩ := vals1 r
  have eu : u = Value.bool b := ru
  subst eu
  exact PySem.P.repr_of_bool ⟨.str _, H, I.tok _, ⟨_, rfl⟩, q⟩
end Vz
set_option Elab.async false
set_option linter.all false
set_option maxRecDepth 100000
set_option maxHeartbeats 4000000
/-! An exception that an except clause names and the program keeps: it is tracked behind the clause. -/
namespace Vz
open PySem PySem.Spec PyProof.Rows L2
/-- an exception of the class cls, its own dict d, at a -/
def exq (a : Addr) (cls : Value) (d : Option Addr) : HO := .ext fun h => ∃ (oe : Obj) (vs : Array Value), h.get? a = some oe ∧ Zc cls d oe ∧ oe.data = .fields vs
theorem exq_ok {P : Program} {w : World} {H : Hp} {h : Heap} {a : Addr} {cls : Value} {d : Option Addr} {oe : Obj} {vs : Array Value} (e : h.get? a = some oe) (z : Zc cls d oe) (f : oe.data = .fields vs) : ObjOk P w H h a (exq a cls d) := by
  refine ⟨⟨oe, vs, e, z, f⟩, ⟨oe, e⟩, ?_⟩
  rintro h1 h2 ⟨o, v, e1, z1, f1⟩ k
  exact ⟨o, v, k _ e1, z1, f1⟩
theorem exq_at {P : Program} {w : World} {H : Hp} {h : Heap} {a : Addr} {cls : Value} {d : Option Addr} (hok : HOk P w H h) (e : H a = some (exq a cls d)) : ∃ (oe : Obj) (vs : Array Value), h.get? a = some oe ∧ Zc cls d oe ∧ oe.data = .fields vs := by
  have x : ObjOk P w H h a (exq a cls d) := hok a _ e
  exact x.1
/-- the wish of a clause «except x as n» whose exception is tracked -/
def wTrk (K : PySem.W.Frag) (c : Value) (i : Nat) (ts : Addr → Value → Option Addr → TS) (Wout : WX) (D : Ends) : WX := fun cls d σ H =>
  ∃ b, PySem.W.exmOne K cls c = some b ∧
    (b = true → ∀ a, H a = none → ts a cls d { nx := fun σ' H' => D.nx (σ'.set i none) H', rt := D.rt, bk := fun σ' H' => D.bk (σ'.set i none) H', ct := fun σ' H' => D.ct (σ'.set i none) H' } (σ.set i (some (.ref a))) (upd H a (exq a cls d))) ∧
    (b = false → Wout cls d σ H)
section
variable {X : Cx} {pins : List (Addr × Obj)} {σ : L2.St} {H : Hp} {s : Shared}
theorem into (I : Inv X pins σ H s) (a : Addr) : Inv (X.suite a (X.pn ++ pins)) [] σ H s :=
  { ok := I.ok.suite _ _, os := I.os, bare := I.bare, base := I.base, loc := I.loc, cell := I.cell, free := I.free, freeC := I.freeC, hok := I.hok, len := I.len,
    pin := fun p hp => I.pin p (by rw [List.append_nil] at hp; exact hp) }
theorem outof {a : Addr} {pn' : List (Addr × Obj)} (I : Inv (X.suite a (X.pn ++ pins)) pn' σ H s) (ok : X.Ok) : Inv X pins σ H s :=
  { ok := ok, os := I.os, bare := I.bare, base := I.base, loc := I.loc, cell := I.cell, free := I.free, freeC := I.freeC, hok := I.hok, len := I.len,
    pin := fun p hp => I.pin p (List.mem_append_left _ hp) }
/-- a caught exception is tracked -/
theorem track {B : Heap} {s' : Shared} {a : Addr} {cls : Value} {d : Option Addr} {oe : Obj} {vs : Array Value} (J : Inv X pins σ H s) (nb : ∀ b o, s.heap.get? b = some o → b ∉ frs X.stack → B.get? b = some o) (na : H a = none) (nfr : a ∉ frs X.stack)
    (Ba : B.get? a = none) (st : B.StaysIn s'.heap) (up : s.heap.UpToSlots s'.heap) (os : s'.os = s.os) (ag : AllBare s'.gens) (he : s'.heap.get? a = some oe) (hz : Zc cls d oe) (hd : oe.data = .fields vs) :
    Inv X pins σ (upd H a (exq a cls d)) s' := by
  obtain ⟨G, g1, g2⟩ := restrict s'.heap (fun b => decide (b ≠ a))
  have keep : ∀ b, b ≠ a → G.get? b = s'.heap.get? b := fun b hb => g1 b (decide_eq_true hb)
  have gone : G.get? a = none := g2 a (by simp)
  have sa : s.heap.get? a = none := by
    cases c : s.heap.get? a with
    | none => rfl
    | some o => rw [nb a o c nfr] at Ba; cases Ba
  obtain ⟨hp, gg, dd, tt, oo⟩ := s'
  have stG : B.StaysIn G := fun b o e => by
    have nba : b ≠ a := fun z => by rw [z, Ba] at e; cases e
    rw [keep b nba]
    exact st b o e
  have upG : s.heap.UpToSlots G := fun b o e nf => by
    have nba : b ≠ a := fun z => by rw [z, sa] at e; cases e
    obtain ⟨sl, q⟩ := up b o e nf
    exact ⟨sl, (keep b nba).trans q⟩
  have JG : Inv X pins σ H ⟨G, gg, dd, tt, oo⟩ := J.landed nb stG upG os ag
  refine Inv.laidN (t' := tt) (h' := hp) JG (fun b o e => ?_) gone na (exq_ok he hz hd)
  have nba : b ≠ a := fun z => by
    have e' : G.get? b = some o := e
    rw [z, gone] at e'
    cases e'
  exact (keep b nba).symm.trans e
end
section
variable {X : Cx} {x n : Str} {c : Value} {i : Nat} {body suite : List Stmt} {b₀ : Stmt} {np pos pos' : Pos} {tb : WX → TS} {ts : Addr → Value → Option Addr → TS} {Wout : WX}
theorem ps_try_trk (hs : X.stack = X.env :: X.outer) (hf : X.env.frame = some X.env.locals) (hN : X.N.Nodup) (hi : X.N[i]? = some n) (hln : X.env.kindOf n = some .local) (hc : Names X x c) (tk : Takes X Wout)
    (hb : ∀ (W : WX) (pn : List (Addr × Obj)) (xe : Value → Shared → Prop), Takes (X.tr pn xe) W → PassesOwn (model X.prog X.w) X.A X.env xe → PSs (X.tr pn xe) body (tb W))
    (hsu : ∀ (a : Addr) (cls : Value) (d : Option Addr) (pn : List (Addr × Obj)), PSs (X.suite a pn) (b₀ :: suite) (ts a cls d)) :
    PS X (.Try body [.ExceptHandler (some (.Name x np)) (some n) (b₀ :: suite) pos'] [] [] pos) (fun D σ H => tb (wTrk X.K c i ts Wout D) D σ H) := by
  constructor
  intro pins s σ H D I h
  have good := I.ok
  have fr : X.A.frames = some (X.env :: X.outer) := by rw [good.frames, hs]
  apply wpAny_Try_except
  refine wpAny_mono ((hb (wTrk X.K c i ts Wout D) (X.pn ++ pins) (fun e t1 => wpAny (model X.prog X.w) X.A (noteFrame e X.env) (fun _ t2 => wpAny (model X.prog X.w) X.A (setFlight e none)
    (fun _ t3 => wpAny (model X.prog X.w) X.A (handleBy e X.env [.ExceptHandler (some (.Name x np)) (some n) (b₀ :: suite) pos']) (SP X pins D) X.xe t3) X.xe t2) X.xe t1) ?air PassesOwn.looking).run [] s σ H D (I.toTry _) h) ?calm (fun _ _ z => z)
  case calm =>
    intro f s1 z
    match f, z with
    | .next, z => obtain ⟨σ', H', J, q⟩ := z; exact wpAny_execs_nil ⟨σ', H', J.ofTry good, q⟩
    | .brk, z => obtain ⟨σ', H', J, q⟩ := z; exact ⟨σ', H', J.ofTry good, q⟩
    | .cont, z => obtain ⟨σ', H', J, q⟩ := z; exact ⟨σ', H', J.ofTry good, q⟩
    | .ret u, z => obtain ⟨v, σ', H', J, r, q⟩ := z; exact ⟨v, σ', H', J.ofTry good, r, q⟩
  case air =>
    rintro u s' ⟨a, B, sI, pins', σ', H', cls, d, rfl, J0, nb, up, sky, na, os, ag, b, hb1, yes, no⟩
    have J : Inv X pins σ' H' sI := J0.ofTry good
    have sky1 : Sky B (X.env :: X.outer) a (Zc cls d) X.env.locals s'.heap := by rw [← hs]; exact sky
    show wpAny (model X.prog X.w) X.A (noteFrame (.ref a) X.env) _ _ _
    refine Sky.land Zc.steady fr hf sky1 ?_
    intro h3 fl3 up3
    have J3 : Inv X pins σ' H' { s' with heap := h3 } := J.landed nb fl3.1 (up.trans up3) os ag
    obtain ⟨oe3, vs3, he3, hz3, hd3⟩ := fl3.there
    have nfr : a ∉ frs (X.env :: X.outer) := by
      intro hm
      obtain ⟨_, o', e', hnf⟩ := fl3.2.2.1.mem hm
      rw [he3] at e'
      cases e'
      exact hnf _ hd3
    have nst : a ∉ frs X.stack := by rw [hs]; exact nfr
    have LT : PySem.W.Looks (model X.prog X.w) h3 (typeOf (.ref a)) cls := fun A Q E s k q => wpAny_typeOf_ref (k _ _ he3) (by rw [hz3.1]; exact q)
    have LM := PySem.W.exm_one (M := model X.prog X.w) J3.kIn LT hb1
    have test : ∀ {Q : Value → Shared → Prop} {E : Value → Shared → Prop}, Q c { s' with heap := h3 } → wpAny (model X.prog X.w) (X.A.mark (some (.ref a))) (eval (.Name x np) X.env) Q E { s' with heap := h3 } := by
      intro Q E q
      obtain ⟨gl, nodb, hm | ⟨hm, hv, hnn⟩⟩ := hc
      · exact ld_glob (X := X.suite a (X.pn ++ pins)) (into J3 a) gl hm q nodb
      · exact ld_blt (X := X.suite a (X.pn ++ pins)) (into J3 a) gl hm hv q hnn nodb
    refine wpAny_handleBy_cons (codeAny_handlers_test ?_) (by intro q; cases q)
    refine test (LM.here ?_)
    cases b with
    | true =>
      apply codeAny_handlers_suite_as
      refine HandSPX.lands_againZ fl3 ?_
      intro h4 fl4 up4
      obtain ⟨oe4, vs4, he4, hz4, hd4⟩ := fl4.there
      have JT : Inv X pins σ' (upd H' a (exq a cls d)) { s' with heap := h4 } := track J nb na nst fl4.2.1 fl4.1 ((up.trans up3).trans up4) os ag he4 hz4 hd4
      refine store_ok (X := X.suite a (X.pn ++ pins)) (v := .ref a) (into JT a) hN hi (.inl hln) rfl (fun s5 S5 => ?_) (.inr hln)
      have fin : ∀ {σ6 : L2.St} {H6 : Hp} {s6 : Shared} {Q : Shared → Prop}, Inv (X.suite a (X.pn ++ pins)) [] σ6 H6 s6 → (∀ s7, Inv X pins (σ6.set i none) H6 s7 → Q s7) →
          wpAny (model X.prog X.w) X.A (do bindName X.env n .none; unbindBehindTheSuite X.env n pos') (fun _ s7 => Q s7) X.xe s6 := by
        intro σ6 H6 s6 Q S6 hq
        exact gone_ok (outof S6 good) hN hi hln hq
      refine wpAny_mono ((hsu a cls d (X.pn ++ pins)).run [] s5 _ _ _ S5 (yes rfl a na)) ?_ (fun _ _ z => z.elim)
      intro f s6 z
      match f, z with
      | .next, z => obtain ⟨σ6, H6, S6, q⟩ := z; exact fin S6 fun s7 J7 => ⟨_, _, J7, q⟩
      | .brk, z => obtain ⟨σ6, H6, S6, q⟩ := z; exact fin S6 fun s7 J7 => ⟨_, _, J7, q⟩
      | .cont, z => obtain ⟨σ6, H6, S6, q⟩ := z; exact fin S6 fun s7 J7 => ⟨_, _, J7, q⟩
      | .ret u, z => obtain ⟨v6, σ6, H6, S6, r6, q⟩ := z; exact fin S6 fun s7 J7 => ⟨_, _, _, J7, r6, q⟩
    | false =>
      show wpAny _ X.A (handleBy (.ref a) X.env []) _ _ _
      apply wpAny_handleBy_nil
      obtain ⟨k1, k2, k3, oe, vs, Tb, oT, tvs, he, hz, hd, h1, hr⟩ := id fl3
      unfold PySem.passOn
      refine wpAny_bind (wpAny_field he hd h1 ?_)
      rw [if_neg (show ¬ ((Value.ref Tb == Value.none) = true) from by simp)]
      have goes : wpAny (model X.prog X.w) X.A (setFlight (.ref a) X.env.frame) (fun _ s4 => wpAny (model X.prog X.w) X.A (throw (.ref a) : Sem Flow) (SP X pins D) X.xe s4) X.xe { s' with heap := h3 } := by
        rw [hf]
        refine HandSPX.setFlight_upZ fl3 ?_
        intro h4 hh4 up4
        refine wpAny_throw (tk _ _ ?_)
        exact ⟨a, B, sI, pins, σ', H', cls, d, rfl, J, nb, (up.trans up3).trans up4, .inr (.inr (by rw [hs]; exact hh4)), na, os, ag, no rfl⟩
      first
        | exact wpAny_bind (wpAny_pure (wpAny_bind goes))
        | exact wpAny_bind goes
end
end Vz
set_option Elab.async false
set_option linter.all false
set_option maxRecDepth 100000
set_option maxHeartbeats 4000000
/-! What a caught exception that is kept is asked behind its clause; a call within try. -/
namespace Vz
open PySem PySem.Spec PyProof.Rows L2
/-- what the class must say -/
structure XcF (K : PySem.W.Frag) (C : Addr) : Prop where
  ga : PySem.W.findIn K (.ref C) "__getattribute__" = some (some (.builtin "BaseException.__getattribute__"))
  gg : PySem.W.findIn K (.ref C) "__getattr__" = some none
  su : PySem.W.subIn K (.ref C) (.type "BaseException") = some true
  hd : PySem.W.hasDictIn K C = true
  ha : PySem.W.findIn K (.ref C) "__class__" = some (some (.builtin "object.__class__"))
  hn : PySem.W.specialIn K (.builtin "object.__class__") "__get__" = some (some (.builtin "getset_descriptor.__get__"))
  ht : PySem.W.takesIn K (.builtin "object.__class__") = some true
  hm : PySem.W.mroIn K C (.type "object") = some true
theorem XcF.cl {K : PySem.W.Frag} {C : Addr} (T : XcF K C) : (PySem.W.clsIn K C).isSome = true := by
  obtain ⟨cd, hc, _⟩ := PySem.W.any_some T.hd
  rw [hc]; rfl
/-- the object at a is an exception of the class C whose own dict is at d -/
def IsX (K : PySem.W.Frag) (H : Hp) (a C d : Addr) (fs : List (Str × V)) : Prop := H a = some (exq a (.ref C) (some d)) ∧ H d = some (.xd fs)
theorem IsX.inst {X : Cx} {pins : List (Addr × Obj)} {σ : L2.St} {H : Hp} {s : Shared} {a C d : Addr} {fs : List (Str × V)} (I : Inv X pins σ H s) (h : IsX X.K H a C d fs) :
    ∃ (oe od : Obj) (mA : Str → Option Value), PySem.W.InstAt s.heap a oe C (some od) ∧ (∀ n, PySem.W.lookIn n od = some (mA n)) ∧ ∀ n, RelO (fs.lookup n) (mA n) := by
  obtain ⟨oe, vs, he, hz, hd⟩ := exq_at I.hok h.1
  have hx : ObjOk X.prog X.w H s.heap d (.xd fs) := I.hok d _ h.2
  obtain ⟨mA, hns, hr⟩ := hx
  obtain ⟨od, ho, hl⟩ := lookIn_ns hns
  refine ⟨oe, od, mA, ⟨he, hz.1, by unfold PySem.W.notCls; rw [hd] <;> rfl, by rw [hz.2]; exact ho⟩, hl, hr⟩
def rIsQ (K : PySem.W.Frag) : List V → Hp → VK → Prop := fun xs H Q => ∃ (a C d : Addr) (fs : List (Str × V)), xs = [.ref a, .ref C] ∧ XcF K C ∧ IsX K H a C d fs ∧ Q (.bl true) H
theorem call_isQ {X : Cx} : CallR X (.builtin "isinstance") (rIsQ X.K) := by
  intro pins s σ H xs us Q I r h
  obtain ⟨a, C, d, fs, rfl, T, ix, q⟩ := h
  cases r with
  | cons rx rr =>
    cases rr with
    | cons rt rr =>
      cases rr
      cases rx
      cases rt
      obtain ⟨oe, od, mA, J, _, _⟩ := ix.inst I
      have e : PySem.W.kitOne X.K (.ref C) (.ref C) = some true := by unfold PySem.W.kitOne; rw [if_pos (by simp)]
      exact PySem.W.kia_one (PySem.W.kitx_exc (od := some od) T.cl T.ga T.gg T.su T.ha T.hn T.ht T.hm) I.kIn J e (fun z => nomatch z) fun tk => ⟨.bl true, H, I.kept (t' := tk) fun _ _ z => z, rfl, q⟩
/-- e.f of a caught exception that is kept -/
def tXq (K : PySem.W.Frag) (f : Str) (te : TE) : TE := fun σ H Q => te σ H fun x H1 => ∃ (a C d : Addr) (fs : List (Str × V)) (v : V), x = .ref a ∧ XcF K C ∧ PySem.W.findIn K (.ref C) f = some none ∧ IsX K H1 a C d fs ∧ fs.lookup f = some v ∧ Q v H1
theorem pe_xq {X : Cx} {e : Expr} {te : TE} {pos : Pos} {n : Str} (he : PE X e te) (hb : attributeBase e n X.env (eval e X.env) = eval e X.env := by rfl) : PE X (.Attribute e n pos) (tXq X.K n te) := by
  refine ⟨fun pins s σ H Q I h => ?_⟩
  refine attr_of hb (thn (he.run pins s σ H _ I h) fun u s1 hh => ?_)
  obtain ⟨x, H1, I1, rx, a, C, d, fs, v, ex, T, hno, ix, l, q⟩ := hh
  subst ex
  obtain rfl : u = Value.ref a := rx
  obtain ⟨oe, od, mA, J, hl, hr⟩ := ix.inst I1
  obtain ⟨u, hu, ru⟩ := RelO.some_of (v := v) (o := mA n) (by rw [← l]; exact hr n)
  exact HandSPX.exc_get I1.kIn J T.ga T.gg T.su (PySem.W.findObj_own T.hd hno rfl (by rw [hl, hu])) (handed_of ru) ⟨v, H1, I1.tok _, ru, q⟩
/-- nothing flies -/
theorem takes_none {X : Cx} : Takes X (fun _ _ _ _ => False) := by
  rintro u s' ⟨_, _, _, _, _, _, _, _, _, _, _, _, _, _, _, _, w⟩
  exact w.elim
/-- a call within try: what flies is asked at the slots of the call -/
def tCallS (sp : Sp) (dvs : List V) (W : WX) (t : TA) : TE := fun σ H Q => t σ H fun vs H1 => sp (vs ++ dvs) H1 Q (fun cls d H' => W cls d σ H')
section
variable {X : Cx} {k : Nat} {f : Addr} {fd : FuncData} {ps : List Str} {sp : Sp} {ds : List Value} {dvs : List V} {W : WX}
theorem pe_callS {x : Str} {p pos : Pos} {e : Expr} {es : List Expr} {t : TA} (F : FnOk X.prog X.w X.K X.mg X.base (L2.CX X.prog X.w) k f fd ps sp) (hr : Room k X.A) (gl : Gl X x)
    (at_ : X.mg x = some (.ref f)) (kp : PySem.W.keepIn X.K (.ref f) = true) (bd : Binds X.K fd ps ds) (dv : Vals dvs ds) (tk : Takes X W) (pa : PA X (e :: es) t)
    (nodb : (x == ("__debug__" : Str)) = false := by decide) (st : starEach (e :: es) X.env = (false, eval e X.env) :: starEach es X.env := by rfl)
    (pl : (backTo pos (starEach es X.env)).any (·.1) = false := by rfl) :
    PE X (.Call (.Name x p) (e :: es) [] pos) (tCallS sp dvs W t) := by
  constructor
  intro pins s σ H Q I h
  apply wpAny_Call_Name_kw
  refine ld_glob I gl at_ ?_ nodb
  refine PySem.W.callWith_K (h₀ := X.base) I.ok.mod.kin kp (thn (pa.run pos pins s σ H _ I h) ?_) st pl
  rintro us s1 ⟨vs, H1, I1, r, q⟩
  refine ⟨I1.kIn, ?_⟩
  have rr : Vals (vs ++ dvs) (us ++ ds) := r.append dv
  have many : (us ++ ds).length = ps.length := by rw [← rr.length]; exact F.len _ _ _ _ q
  refine wpAny_call (codeAny_mono (F.run X.A X.stack s1 H1 ⟨us, []⟩ (us ++ ds) (vs ++ dvs) Q _ hr I1.env0 (bd s1 us I1.kIn many) rr q) ?_)
  rintro (err | fl) s' hq
  · exact tk err s' (XE.of_call I1 (fun _ _ _ z => z) hq)
  · cases fl
    case ret u => exact I1.after hq
    all_goals exact hq.elim
end
theorem vals_rev : ∀ {xs : List V} {us : List Value}, Vals xs us → Vals xs.reverse us.reverse
  | _, _, .nil => .nil
  | _, _, .cons h t => by
    rw [List.reverse_cons, List.reverse_cons]
    exact (vals_rev t).append (.cons h .nil)
theorem FunD.kb0 {K : PySem.W.Frag} {x qual : Str} {params : Arguments} {body : List Stmt} {scope : Scope} {dvs : List V} {kws : List (Str × V)} {f : Addr} {fd : FuncData} {ps : List Str} (F : FunD K x qual params body scope dvs kws f fd) (hd : dvs ≠ []) (ks : List Str) (g : List Value → List Value → List Value) (gV : List V → List V → List V)
    (rel : ∀ {vs : List V} {us : List Value} {zs : List V} {ws : List Value}, Vals vs us → Vals zs ws → Vals (gV vs zs) (g us ws))
    (h : ∀ (T : Addr) (kV doc pm : Value) (an : Option Addr) (cdv ct : Value) (us ws its : List Value), (g us ws).length = ps.length → its.length = dvs.length →
      ∃ k, bindArgs (PySem.W.fnOf x qual params body scope (.ref T) kV doc pm an cdv ct) ⟨us, ks.zip ws⟩ = seqItems? (.ref T) >>= k ∧ k (some its.toArray) = pure (ps.zip (g us ws))) : KBinds K fd ps ks g gV := by
  obtain ⟨oc, od, dV, kV, doc, pm, an, cdv, ct, osl, rfl, lk, hcd, hD, hK⟩ := F.ex
  rcases hD with ⟨e, _⟩ | ⟨_, T, o, its, m, rfl, lT, oT, rT⟩
  · exact absurd e hd
  · refine ⟨fun s us ws X hl => ?_, rel⟩
    obtain ⟨k, e1, e2⟩ := h T kV doc pm an cdv ct us ws its hl rT.length.symm
    refine BindsTo.of_looks fun M => ?_
    rw [e1]
    exact looks_items X lT oT (.of_pure e2)
end Vz
set_option Elab.async false
set_option linter.all false
set_option maxRecDepth 100000
set_option maxHeartbeats 4000000
/-! f-strings: {i:02d}. -/
namespace Vz
open PySem PySem.Spec PyProof.Rows L2
theorem ns_none {K : PySem.W.Frag} {h : Heap} {b : Addr} {mg : Str → Option Value} {n : Str} (X : K.In h) (G : h.Ns b mg) (e : PySem.W.nsIn K b n = some none) : mg n = none := by
  obtain ⟨o, es, ep, ho, hd, _, hf⟩ := G
  unfold PySem.W.nsIn at e
  split at e
  · rename_i c d es' n' sl q
    have := X _ _ q
    rw [ho] at this
    cases this
    cases hd
    split at e
    · cases e
    · rename_i he
      rw [← hf]
      unfold nsFind findBy
      rw [← Array.find?_toList, he]
      rfl
  · cases e
section
variable {X : Cx} {pins : List (Addr × Obj)} {σ : L2.St} {H : Hp} {s : Shared}
theorem noDig (I : Inv X pins σ H s) (z : PySem.W.nsIn X.K cStatics "sys.int_max_str_digits" = some none) : s.heap.NoDigits := by
  have e0 := I.env0
  obtain ⟨mc, l1, l2⟩ := e0.mod.nolimit.keeps (fun b o e => (e0.bs b o e).1)
  exact ⟨mc, l1, ns_none I.kIn l1 z⟩
def tFmtI (sp : Str) (te : TE) : TE := fun σ H Q => te σ H fun x H1 => ∃ i : Int, x = .int i ∧ 0 ≤ i ∧ i < 10 ^ 10 ∧ ((intSpecTextOf sp i).length = max (intSpecWidthOf sp) (Nat.toDigits 10 i.natAbs).length → Q (.str (intSpecTextOf sp i)) H1)
theorem pe_fmtI {e spec : Expr} {te : TE} {pos : Pos} {sp : Str} (z : PySem.W.nsIn X.K cStatics "sys.int_max_str_digits" = some none) (ok : intSpecOk sp = true) (sz : sp.length ≤ sizeLine) (he : PE X e te) (hs : PE X spec (tC (.str sp))) :
    PE X (.FormattedValue e (-1) (some spec) pos) (tFmtI sp te) := by
  refine ⟨fun pins s σ H Q I h => ?_⟩
  refine wpAny_FormattedValue_spec (thn (he.run pins s σ H _ I h) fun v s1 hv => ?_)
  obtain ⟨x, H1, I1, r1, i, rfl, i0, i1, q⟩ := hv
  obtain ⟨t, rfl⟩ := r1
  refine thn (hs.run pins s1 σ H1 (fun y H2 => y = .str sp ∧ H2 = H1) I1 ⟨rfl, rfl⟩) fun u s2 hu => ?_
  obtain ⟨y, H2, I2, r2, rfl, rfl⟩ := hu
  obtain ⟨tk, rfl⟩ := r2
  refine ⟨sp, tk, rfl, ?_⟩
  have hl : i.natAbs < 10 ^ 4300 := by
    have a : i.natAbs < 10 ^ 10 := by
      have e10 : (10 : Int) ^ 10 = 10000000000 := by decide
      have e11 : (10 : Nat) ^ 10 = 10000000000 := by decide
      rw [e10] at i1
      rw [e11]
      omega
    exact Nat.lt_of_lt_of_le a (Nat.pow_le_pow_right (by decide) (by decide))
  refine formatField_int_specOf (noDig I2 z) hl ok (fun W eW F => ?_) sz
  subst eW
  exact ⟨.str _, H2, I2.tok _, ⟨_, rfl⟩, q (F.lenNonneg i0)⟩
end
theorem digits_le {n k : Nat} (hk : 0 < k) (h : n < 10 ^ k) : (Nat.toDigits 10 n).length ≤ k := by
  have e := (Nat.length_repr_le_iff (n := n) hk).mpr h
  rwa [← String.length_toList, Nat.toList_repr] at e
/-- what is not reached -/
theorem pss_dead {X : Cx} {ss : List Stmt} : PSs X ss (fun _ _ _ => False) := ⟨fun _ _ _ _ _ _ h => h.elim⟩
end Vz
set_option Elab.async false
set_option linter.all false
set_option maxRecDepth 100000
set_option maxHeartbeats 4000000
/-! Data that stays; calls by keywords within try; isinstance with both answers of a caught exception that is kept. -/
namespace Vz
open PySem PySem.Spec PyProof.Rows L2
def KeepV (d : Addr) (H H' : Hp) : Prop := ∀ a o, a ≠ d → H a = some o → H' a = some o
section
variable {K : PySem.W.Frag} {H H' : Hp} {d : Addr} {kvs : List (Key × V)}
theorem sqL_keep (hd : H d = some (.dK kvs)) (e : KeepV d H H') {a : Addr} {xs : List V} (h : SqL K H a xs) : SqL K H' a xs := by
  have ne : ∀ {o : HO}, H a = some o → o ≠ .dK kvs → a ≠ d := fun q n z => by rw [z, hd] at q; cases q; exact n rfl
  rcases h with (h | ⟨o, h⟩) | h
  · exact .inl (.inl (e _ _ (ne h (by intro z; cases z)) h))
  · exact .inl (.inr ⟨o, e _ _ (ne h (by intro z; cases z)) h⟩)
  · exact .inr h
theorem sqT_keep (hd : H d = some (.dK kvs)) (e : KeepV d H H') {a : Addr} {xs : List V} (h : SqT K H a xs) : SqT K H' a xs := by
  have ne : ∀ {o : HO}, H a = some o → o ≠ .dK kvs → a ≠ d := fun q n z => by rw [z, hd] at q; cases q; exact n rfl
  rcases h with (h | ⟨o, h⟩) | h
  · exact .inl (.inl (e _ _ (ne h (by intro z; cases z)) h))
  · exact .inl (.inr ⟨o, e _ _ (ne h (by intro z; cases z)) h⟩)
  · exact .inr h
theorem sqT_same (e : Same H H') {a : Addr} {xs : List V} (h : SqT K H a xs) : SqT K H' a xs := by
  rcases h with (h | ⟨o, h⟩) | h
  · exact .inl (.inl (e _ _ h))
  · exact .inl (.inr ⟨o, e _ _ h⟩)
  · exact .inr h
mutual
theorem dp_map (fL : ∀ {a : Addr} {xs : List V}, SqL K H a xs → SqL K H' a xs) (fT : ∀ {a : Addr} {xs : List V}, SqT K H a xs → SqT K H' a xs) : ∀ (d : PyData) (v : V), Dp K H v d → Dp K H' v d
  | .none, _, h => by cases h; exact .non
  | .bool b, _, h => by cases h; exact .bl b
  | .int i, _, h => by cases h; exact .int i
  | .str x, _, h => by cases h; exact .str x
  | .list ds, _, h => by
    cases h with
    | lst q r => exact .lst (fL q) (dpAll_map fL fT ds _ r)
  | .tuple ds, _, h => by
    cases h with
    | tup q r => exact .tup (fT q) (dpAll_map fL fT ds _ r)
  | .dict _, _, h => by cases h
theorem dpAll_map (fL : ∀ {a : Addr} {xs : List V}, SqL K H a xs → SqL K H' a xs) (fT : ∀ {a : Addr} {xs : List V}, SqT K H a xs → SqT K H' a xs) : ∀ (ds : List PyData) (vs : List V), DpAll K H vs ds → DpAll K H' vs ds
  | [], _, h => by cases h; exact .nil
  | d :: ds, _, h => by
    cases h with
    | cons q r => exact .cons (dp_map fL fT d _ q) (dpAll_map fL fT ds _ r)
end
theorem dp_same (e : Same H H') {d : PyData} {v : V} (h : Dp K H v d) : Dp K H' v d := dp_map e.seq (sqT_same e) d v h
theorem dp_keep (hd : H d = some (.dK kvs)) (e : KeepV d H H') {pd : PyData} {v : V} (h : Dp K H v pd) : Dp K H' v pd := dp_map (sqL_keep hd e) (sqT_keep hd e) pd v h
end
/-- isinstance(e, C) of a caught exception that is kept -/
def rIsR (K : PySem.W.Frag) : List V → Hp → VK → Prop := fun xs H Q => ∃ (a C D d : Addr) (fs : List (Str × V)) (b : Bool), xs = [.ref a, .ref D] ∧ XcF K C ∧ IsX K H a C d fs ∧ PySem.W.kitOne K (.ref C) (.ref D) = some b ∧ Q (.bl b) H
theorem call_isR {X : Cx} : CallR X (.builtin "isinstance") (rIsR X.K) := by
  intro pins s σ H xs us Q I r h
  obtain ⟨a, C, D, d, fs, b, rfl, T, ix, e, q⟩ := h
  cases r with
  | cons rx rr =>
    cases rr with
    | cons rt rr =>
      cases rr
      cases rx
      cases rt
      obtain ⟨oe, od, mA, J, _, _⟩ := ix.inst I
      exact PySem.W.kia_one (PySem.W.kitx_exc (od := some od) T.cl T.ga T.gg T.su T.ha T.hn T.ht T.hm) I.kIn J e (fun z => nomatch z) fun tk => ⟨.bl b, H, I.kept (t' := tk) fun _ _ z => z, rfl, q⟩
theorem kit_refl {K : PySem.W.Frag} {C : Addr} : PySem.W.kitOne K (.ref C) (.ref C) = some true := by unfold PySem.W.kitOne; rw [if_pos (by simp)]
/-- a call by keywords within try -/
def tCallKS (sp : Sp) (gV : List V → List V → List V) (W : WX) (t tk : TA) : TE := fun σ H Q => t σ H fun vs H1 => tk σ H1 fun zs H2 => sp (gV vs zs) H2 Q (fun cls d H' => W cls d σ H')
section
variable {X : Cx} {k : Nat} {f : Addr} {fd : FuncData} {ps ks : List Str} {sp : Sp} {W : WX} {g : List Value → List Value → List Value} {gV : List V → List V → List V}
theorem run_fnkS {pins : List (Addr × Obj)} {σ : L2.St} {H : Hp} {s : Shared} {Q : VK} {us ws : List Value} {vs zs : List V} (F : FnOk X.prog X.w X.K X.mg X.base (L2.CX X.prog X.w) k f fd ps sp) (hr : Room k X.A) (hb : KBinds X.K fd ps ks g gV) (tk : Takes X W)
    (I : Inv X pins σ H s) (r : Vals vs us) (rz : Vals zs ws) (h : sp (gV vs zs) H Q (fun cls d H' => W cls d σ H')) : wpAny (model X.prog X.w) X.A (call (.ref f) us (ks.zip ws)) (EP X pins σ Q) X.xe s := by
  have r2 := hb.rel r rz
  have hl : (g us ws).length = ps.length := by rw [← r2.length]; exact F.len _ _ _ _ h
  refine wpAny_call (codeAny_mono (F.run X.A X.stack s H ⟨us, ks.zip ws⟩ (g us ws) (gV vs zs) Q _ hr I.env0 (hb.to s us ws I.kIn hl) r2 h) ?_)
  rintro (err | fl) s' hq
  · exact tk err s' (XE.of_call I (fun _ _ _ z => z) hq)
  · cases fl
    case ret u => exact I.after hq
    all_goals exact hq.elim
theorem pe_callKS0 {x : Str} {p pos : Pos} {kws : List Keyword} {tkw : TA} (F : FnOk X.prog X.w X.K X.mg X.base (L2.CX X.prog X.w) k f fd ps sp) (hr : Room k X.A) (gl : Gl X x) (at_ : X.mg x = some (.ref f))
    (kp : PySem.W.keepIn X.K (.ref f) = true) (bd : KBinds X.K fd ps ks g gV) (tk : Takes X W) (pk : PK X kws tkw)
    (al : (backToKw pos (keywordEach kws X.env)).all (·.1.isSome) = true := by rfl) (nm : (backToKw pos (keywordEach kws X.env)).filterMap (·.1) = ks := by rfl)
    (nodb : (x == ("__debug__" : Str)) = false := by decide)
    (pl : ((backTo pos (starEach [] X.env)).any (·.1) || (backToKw pos (keywordEach kws X.env)).any (·.1.isNone)) = false := by rfl) :
    PE X (.Call (.Name x p) [] kws pos) (tCallKS sp gV W tNil tkw) := by
  constructor
  intro pins s σ H Q I h
  apply wpAny_Call_Name_kw
  refine ld_glob I gl at_ ?_ nodb
  refine PySem.W.callWith_KW0 (h₀ := X.base) I.ok.mod.kin kp al (thn (pk.run pos pins s σ H _ I h) ?_) pl
  rintro ws s2 ⟨zs, H2, I2, rz, q2⟩
  refine ⟨I2.kIn, ?_⟩
  rw [nm]
  exact run_fnkS F hr bd tk I2 .nil rz q2
theorem pe_callKS1 {x : Str} {p pos : Pos} {e : Expr} {es : List Expr} {kws : List Keyword} {t tkw : TA} (F : FnOk X.prog X.w X.K X.mg X.base (L2.CX X.prog X.w) k f fd ps sp) (hr : Room k X.A) (gl : Gl X x) (at_ : X.mg x = some (.ref f))
    (kp : PySem.W.keepIn X.K (.ref f) = true) (bd : KBinds X.K fd ps ks g gV) (tk : Takes X W) (pa : PA X (e :: es) t) (pk : PK X kws tkw)
    (al : (backToKw pos (keywordEach kws X.env)).all (·.1.isSome) = true := by rfl) (nm : (backToKw pos (keywordEach kws X.env)).filterMap (·.1) = ks := by rfl)
    (nodb : (x == ("__debug__" : Str)) = false := by decide) (st : starEach (e :: es) X.env = (false, eval e X.env) :: starEach es X.env := by rfl)
    (pl : ((backTo pos (starEach (e :: es) X.env)).any (·.1) || (backToKw pos (keywordEach kws X.env)).any (·.1.isNone)) = false := by rfl) :
    PE X (.Call (.Name x p) (e :: es) kws pos) (tCallKS sp gV W t tkw) := by
  constructor
  intro pins s σ H Q I h
  apply wpAny_Call_Name_kw
  refine ld_glob I gl at_ ?_ nodb
  refine PySem.W.callWith_KW (h₀ := X.base) I.ok.mod.kin kp al (thn (pa.run pos pins s σ H _ I h) fun us s1 ⟨vs, H1, I1, r, q⟩ => ?_) pl st
  refine thn (pk.run pos pins s1 σ H1 _ I1 q) fun ws s2 ⟨zs, H2, I2, rz, q2⟩ => ⟨I2.kIn, ?_⟩
  rw [nm]
  exact run_fnkS F hr bd tk I2 r rz q2
end
end Vz
set_option Elab.async false
set_option linter.all false
set_option maxRecDepth 100000
set_option maxHeartbeats 2000000
namespace Vz
open PySem PySem.Spec PyProof.Rows L2
/-! ### repr of None or data -/
def rReprN (K : PySem.W.Frag) : List V → Hp → VK → Prop := fun xs H Q => (xs = [.non] ∧ Q (.str "None") H) ∨ rRepr K xs H Q
theorem repr_orNone {X : Cx} (gd : X.A.guards = some []) (un : X.A.units + 64 < cLine) : CallR X (.builtin "repr") (rReprN X.K) := by
  intro pins s σ H xs us Q I r h
  rcases h with ⟨rfl, q⟩ | h
  · obtain ⟨u, rfl, ru⟩ := vals1 r
    have eu : u = Value.none := ru
    subst eu
    exact PySem.P.repr_of_none ⟨.str _, H, I.tok _, ⟨_, rfl⟩, q⟩
  · exact repr_data gd un pins s σ H xs us Q I r h
end Vz
set_option Elab.async false
set_option linter.all false
set_option maxRecDepth 100000
set_option maxHeartbeats 2000000
namespace Toy
open PySem PySem.Spec PyProof.Rows L2
def topS (i : Nat) : Stmt := PySem.Challenge.pw_feedreader_k07_whole_lenient_texts.main.body.getD i (.Pass ⟨0, 0, 0, 0⟩)
abbrev s_BadDate : Stmt := inClass (topS 2) 0
theorem sc_BadDate : FnScope ["self", "given"] ["self", "given"] (defScope s_BadDate) := ⟨rfl, rfl, rfl, by decide +kernel, rfl, by decide +kernel, by decide +kernel⟩
abbrev s_is_int : Stmt := topS 4
theorem sc_is_int : FnScope ["value"] ["value"] (defScope s_is_int) := ⟨rfl, rfl, rfl, by decide +kernel, rfl, by decide +kernel, by decide +kernel⟩
abbrev s_is_within : Stmt := topS 5
theorem sc_is_within : FnScope ["value", "low", "high"] ["value", "low", "high"] (defScope s_is_within) := ⟨rfl, rfl, rfl, by decide +kernel, rfl, by decide +kernel, by decide +kernel⟩
abbrev s_consists_of : Stmt := topS 6
theorem sc_consists_of : FnScope ["text", "signs", "sign"] ["text", "signs"] (defScope s_consists_of) := ⟨rfl, rfl, rfl, by decide +kernel, rfl, by decide +kernel, by decide +kernel⟩
abbrev s_is_zone : Stmt := topS 15
theorem sc_is_zone : FnScope ["value"] ["value"] (defScope s_is_zone) := ⟨rfl, rfl, rfl, by decide +kernel, rfl, by decide +kernel, by decide +kernel⟩
abbrev s_is_date : Stmt := topS 16
theorem sc_is_date : FnScope ["value", "before"] ["value"] (defScope s_is_date) := ⟨rfl, rfl, rfl, by decide +kernel, rfl, by decide +kernel, by decide +kernel⟩
abbrev s_long_text : Stmt := topS 17
theorem sc_long_text : FnScope ["date", "year", "month", "day"] ["date"] (defScope s_long_text) := ⟨rfl, rfl, rfl, by decide +kernel, rfl, by decide +kernel, by decide +kernel⟩
abbrev s_read_long : Stmt := topS 18
theorem sc_read_long : FnScope ["text", "words", "weekdays", "told", "date", "word", "name"] ["text"] (defScope s_read_long) := ⟨rfl, rfl, rfl, by decide +kernel, rfl, by decide +kernel, by decide +kernel⟩
abbrev s__days_before : Stmt := topS 19
theorem sc__days_before : FnScope ["year", "past"] ["year"] (defScope s__days_before) := ⟨rfl, rfl, rfl, by decide +kernel, rfl, by decide +kernel, by decide +kernel⟩
abbrev s__year_of_day : Stmt := topS 20
theorem sc__year_of_day : FnScope ["day", "rounds", "fours"] ["day"] (defScope s__year_of_day) := ⟨rfl, rfl, rfl, by decide +kernel, rfl, by decide +kernel, by decide +kernel⟩
abbrev s__days_in_month : Stmt := topS 21
theorem sc__days_in_month : FnScope ["year", "month"] ["year", "month"] (defScope s__days_in_month) := ⟨rfl, rfl, rfl, by decide +kernel, rfl, by decide +kernel, by decide +kernel⟩
abbrev s__fits_calendar : Stmt := topS 22
theorem sc__fits_calendar : FnScope ["date", "year", "month", "day", "hour", "minute", "second", "zone"] ["date"] (defScope s__fits_calendar) := ⟨rfl, rfl, rfl, by decide +kernel, rfl, by decide +kernel, by decide +kernel⟩
abbrev s__seconds_before : Stmt := topS 23
theorem sc__seconds_before : FnScope ["date", "year", "month", "day", "hour", "minute", "second", "zone", "days"] ["date"] (defScope s__seconds_before) := ⟨rfl, rfl, rfl, by decide +kernel, rfl, by decide +kernel, by decide +kernel⟩
abbrev s__is_before_leap_second : Stmt := topS 24
theorem sc__is_before_leap_second : FnScope ["before", "year"] ["before"] (defScope s__is_before_leap_second) := ⟨rfl, rfl, rfl, by decide +kernel, rfl, by decide +kernel, by decide +kernel⟩
abbrev s__weekday : Stmt := topS 25
theorem sc__weekday : FnScope ["day"] ["day"] (defScope s__weekday) := ⟨rfl, rfl, rfl, by decide +kernel, rfl, by decide +kernel, by decide +kernel⟩
abbrev s__time_text : Stmt := topS 26
theorem sc__time_text : FnScope ["date", "hour", "minute", "second"] ["date"] (defScope s__time_text) := ⟨rfl, rfl, rfl, by decide +kernel, rfl, by decide +kernel, by decide +kernel⟩
abbrev s__zone_text : Stmt := topS 27
theorem sc__zone_text : FnScope ["zone", "hours", "minutes", "sign"] ["zone"] (defScope s__zone_text) := ⟨rfl, rfl, rfl, by decide +kernel, rfl, by decide +kernel, by decide +kernel⟩
abbrev s__date_of_words : Stmt := topS 28
theorem sc__date_of_words : FnScope ["words", "day", "month", "year", "time", "zone"] ["words"] (defScope s__date_of_words) := ⟨rfl, rfl, rfl, by decide +kernel, rfl, by decide +kernel, by decide +kernel⟩
abbrev s__plain_number : Stmt := topS 29
theorem sc__plain_number : FnScope ["word", "most"] ["word", "most"] (defScope s__plain_number) := ⟨rfl, rfl, rfl, by decide +kernel, rfl, by decide +kernel, by decide +kernel⟩
abbrev s__number_of_digits : Stmt := topS 30
theorem sc__number_of_digits : FnScope ["word", "count"] ["word", "count"] (defScope s__number_of_digits) := ⟨rfl, rfl, rfl, by decide +kernel, rfl, by decide +kernel, by decide +kernel⟩
abbrev s__month_of : Stmt := topS 31
theorem sc__month_of : FnScope ["word", "number", "name"] ["word"] (defScope s__month_of) := ⟨rfl, rfl, rfl, by decide +kernel, rfl, by decide +kernel, by decide +kernel⟩
abbrev s__time_of : Stmt := topS 32
theorem sc__time_of : FnScope ["word", "part"] ["word"] (defScope s__time_of) := ⟨rfl, rfl, rfl, by decide +kernel, rfl, by decide +kernel, by decide +kernel⟩
abbrev s__zone_of : Stmt := topS 33
theorem sc__zone_of : FnScope ["word", "hours", "minutes", "zone"] ["word"] (defScope s__zone_of) := ⟨rfl, rfl, rfl, by decide +kernel, rfl, by decide +kernel, by decide +kernel⟩
abbrev s__law_begin : Stmt := topS 35
theorem sc__law_begin : FnScope ["script"] ["script"] (defScope s__law_begin) := ⟨rfl, rfl, rfl, by decide +kernel, rfl, by decide +kernel, by decide +kernel⟩
abbrev s__law_mixed : Stmt := topS 36
theorem sc__law_mixed : FnScope ["cell", "k", "mixed"] ["cell", "k"] (defScope s__law_mixed) := ⟨rfl, rfl, rfl, by decide +kernel, rfl, by decide +kernel, by decide +kernel⟩
abbrev s__law_next : Stmt := topS 37
theorem sc__law_next : FnScope ["draw", "bound", "found", "every", "cell"] ["draw", "bound"] (defScope s__law_next) := ⟨rfl, rfl, rfl, by decide +kernel, rfl, by decide +kernel, by decide +kernel⟩
abbrev s__law_days : Stmt := topS 38
theorem sc__law_days : FnScope ["year"] ["year"] (defScope s__law_days) := ⟨rfl, rfl, rfl, by decide +kernel, rfl, by decide +kernel, by decide +kernel⟩
abbrev s__law_begin_of : Stmt := topS 39
theorem sc__law_begin_of : FnScope ["year"] ["year"] (defScope s__law_begin_of) := ⟨rfl, rfl, rfl, by decide +kernel, rfl, by decide +kernel, by decide +kernel⟩
abbrev s__law_local : Stmt := topS 40
theorem sc__law_local : FnScope ["plain", "second", "belt", "local", "day", "rest", "year", "number", "month", "found"] ["plain", "second", "belt"] (defScope s__law_local) := ⟨rfl, rfl, rfl, by decide +kernel, rfl, by decide +kernel, by decide +kernel⟩
abbrev s__law_date : Stmt := topS 41
theorem sc__law_date : FnScope ["spot", "belt", "year", "plain"] ["spot", "belt"] (defScope s__law_date) := ⟨rfl, rfl, rfl, by decide +kernel, rfl, by decide +kernel, by decide +kernel⟩
abbrev s__law_is_whole : Stmt := topS 42
theorem sc__law_is_whole : FnScope ["thing", "least", "most"] ["thing", "least", "most"] (defScope s__law_is_whole) := ⟨rfl, rfl, rfl, by decide +kernel, rfl, by decide +kernel, by decide +kernel⟩
abbrev s__law_moment : Stmt := topS 43
theorem sc__law_moment : FnScope ["stamp", "bounds", "thing", "least", "most", "year", "month", "day", "hour", "minute", "second", "belt", "long", "plain", "at", "is_leap"] ["stamp"] (defScope s__law_moment) := ⟨rfl, rfl, rfl, by decide +kernel, rfl, by decide +kernel, by decide +kernel⟩
abbrev s__law_year : Stmt := topS 44
theorem sc__law_year : FnScope ["draw", "some"] ["draw"] (defScope s__law_year) := ⟨rfl, rfl, rfl, by decide +kernel, rfl, by decide +kernel, by decide +kernel⟩
abbrev s__law_time : Stmt := topS 45
theorem sc__law_time : FnScope ["draw", "year", "near"] ["draw"] (defScope s__law_time) := ⟨rfl, rfl, rfl, by decide +kernel, rfl, by decide +kernel, by decide +kernel⟩
abbrev s__law_zone : Stmt := topS 46
theorem sc__law_zone : FnScope ["draw"] ["draw"] (defScope s__law_zone) := ⟨rfl, rfl, rfl, by decide +kernel, rfl, by decide +kernel, by decide +kernel⟩
abbrev s__law_two : Stmt := topS 47
theorem sc__law_two : FnScope ["number"] ["number"] (defScope s__law_two) := ⟨rfl, rfl, rfl, by decide +kernel, rfl, by decide +kernel, by decide +kernel⟩
abbrev s__law_zone_text : Stmt := topS 48
theorem sc__law_zone_text : FnScope ["belt", "size"] ["belt"] (defScope s__law_zone_text) := ⟨rfl, rfl, rfl, by decide +kernel, rfl, by decide +kernel, by decide +kernel⟩
abbrev s__law_long : Stmt := topS 49
theorem sc__law_long : FnScope ["date", "year", "month", "day", "hour", "minute", "second", "belt", "names", "weekday", "clock"] ["date"] (defScope s__law_long) := ⟨rfl, rfl, rfl, by decide +kernel, rfl, by decide +kernel, by decide +kernel⟩
abbrev s__law_number : Stmt := topS 51
theorem sc__law_number : FnScope ["word", "least", "most", "sign"] ["word", "least", "most"] (defScope s__law_number) := ⟨rfl, rfl, rfl, by decide +kernel, rfl, by decide +kernel, by decide +kernel⟩
abbrev s__law_plain_number : Stmt := topS 52
theorem sc__law_plain_number : FnScope ["word"] ["word"] (defScope s__law_plain_number) := ⟨rfl, rfl, rfl, by decide +kernel, rfl, by decide +kernel, by decide +kernel⟩
abbrev s__law_zone_in : Stmt := topS 53
theorem sc__law_zone_in : FnScope ["word", "hours", "minutes", "size"] ["word"] (defScope s__law_zone_in) := ⟨rfl, rfl, rfl, by decide +kernel, rfl, by decide +kernel, by decide +kernel⟩
abbrev s__law_clock_in : Stmt := topS 54
theorem sc__law_clock_in : FnScope ["word", "is_short", "parts", "numbers", "part"] ["word", "is_short"] (defScope s__law_clock_in) := ⟨rfl, rfl, rfl, by decide +kernel, rfl, by decide +kernel, by decide +kernel⟩
abbrev s__law_month_in : Stmt := topS 55
theorem sc__law_month_in : FnScope ["word", "names", "found", "k", "name"] ["word"] (defScope s__law_month_in) := ⟨rfl, rfl, rfl, by decide +kernel, rfl, by decide +kernel, by decide +kernel⟩
abbrev s__law_read : Stmt := topS 56
theorem sc__law_read : FnScope ["letters", "words", "weekdays", "weekday", "numbers", "clock", "belts", "date", "due", "word"] ["letters"] (defScope s__law_read) := ⟨rfl, rfl, rfl, by decide +kernel, rfl, by decide +kernel, by decide +kernel⟩
abbrev s__law_varied : Stmt := topS 57
theorem sc__law_varied : FnScope ["draw", "date", "words", "gap", "found", "way"] ["draw", "date"] (defScope s__law_varied) := ⟨rfl, rfl, rfl, by decide +kernel, rfl, by decide +kernel, by decide +kernel⟩
abbrev s__law_bent : Stmt := topS 58
theorem sc__law_bent : FnScope ["draw", "letters", "at", "sign", "some"] ["draw", "letters"] (defScope s__law_bent) := ⟨rfl, rfl, rfl, by decide +kernel, rfl, by decide +kernel, by decide +kernel⟩
abbrev s__law_right : Stmt := topS 59
theorem sc__law_right : FnScope ["letters", "told", "due"] ["letters"] (defScope s__law_right) := ⟨rfl, rfl, rfl, by decide +kernel, rfl, by decide +kernel, by decide +kernel⟩
abbrev s_law : Stmt := topS 60
theorem sc_law : FnScope ["script", "draw", "turn", "date", "letters", "odd", "one"] ["script"] (defScope s_law) := ⟨rfl, rfl, rfl, by decide +kernel, rfl, by decide +kernel, by decide +kernel⟩

structure Txt (K : PySem.W.Frag) (mg : Str → Option Value) where
  a_is_int : Addr
  d_is_int : FuncData
  g_is_int : mg "is_int" = some (.ref a_is_int)
  F_is_int : Fun K "is_int" "is_int" s_is_int a_is_int d_is_int
  b_is_int : Binds K d_is_int ["value"] []
  a_is_within : Addr
  d_is_within : FuncData
  g_is_within : mg "is_within" = some (.ref a_is_within)
  F_is_within : Fun K "is_within" "is_within" s_is_within a_is_within d_is_within
  b_is_within : Binds K d_is_within ["value", "low", "high"] []
  a_consists_of : Addr
  d_consists_of : FuncData
  g_consists_of : mg "consists_of" = some (.ref a_consists_of)
  F_consists_of : Fun K "consists_of" "consists_of" s_consists_of a_consists_of d_consists_of
  b_consists_of : Binds K d_consists_of ["text", "signs"] []
  a_is_zone : Addr
  d_is_zone : FuncData
  g_is_zone : mg "is_zone" = some (.ref a_is_zone)
  F_is_zone : Fun K "is_zone" "is_zone" s_is_zone a_is_zone d_is_zone
  b_is_zone : Binds K d_is_zone ["value"] []
  a_is_date : Addr
  d_is_date : FuncData
  g_is_date : mg "is_date" = some (.ref a_is_date)
  F_is_date : Fun K "is_date" "is_date" s_is_date a_is_date d_is_date
  b_is_date : Binds K d_is_date ["value"] []
  a_long_text : Addr
  d_long_text : FuncData
  g_long_text : mg "long_text" = some (.ref a_long_text)
  F_long_text : Fun K "long_text" "long_text" s_long_text a_long_text d_long_text
  b_long_text : Binds K d_long_text ["date"] []
  a_read_long : Addr
  d_read_long : FuncData
  g_read_long : mg "read_long" = some (.ref a_read_long)
  F_read_long : Fun K "read_long" "read_long" s_read_long a_read_long d_read_long
  b_read_long : Binds K d_read_long ["text"] []
  a__days_before : Addr
  d__days_before : FuncData
  g__days_before : mg "_days_before" = some (.ref a__days_before)
  F__days_before : Fun K "_days_before" "_days_before" s__days_before a__days_before d__days_before
  b__days_before : Binds K d__days_before ["year"] []
  a__year_of_day : Addr
  d__year_of_day : FuncData
  g__year_of_day : mg "_year_of_day" = some (.ref a__year_of_day)
  F__year_of_day : Fun K "_year_of_day" "_year_of_day" s__year_of_day a__year_of_day d__year_of_day
  b__year_of_day : Binds K d__year_of_day ["day"] []
  a__days_in_month : Addr
  d__days_in_month : FuncData
  g__days_in_month : mg "_days_in_month" = some (.ref a__days_in_month)
  F__days_in_month : Fun K "_days_in_month" "_days_in_month" s__days_in_month a__days_in_month d__days_in_month
  b__days_in_month : Binds K d__days_in_month ["year", "month"] []
  a__fits_calendar : Addr
  d__fits_calendar : FuncData
  g__fits_calendar : mg "_fits_calendar" = some (.ref a__fits_calendar)
  F__fits_calendar : Fun K "_fits_calendar" "_fits_calendar" s__fits_calendar a__fits_calendar d__fits_calendar
  b__fits_calendar : Binds K d__fits_calendar ["date"] []
  a__seconds_before : Addr
  d__seconds_before : FuncData
  g__seconds_before : mg "_seconds_before" = some (.ref a__seconds_before)
  F__seconds_before : Fun K "_seconds_before" "_seconds_before" s__seconds_before a__seconds_before d__seconds_before
  b__seconds_before : Binds K d__seconds_before ["date"] []
  a__is_before_leap_second : Addr
  d__is_before_leap_second : FuncData
  g__is_before_leap_second : mg "_is_before_leap_second" = some (.ref a__is_before_leap_second)
  F__is_before_leap_second : Fun K "_is_before_leap_second" "_is_before_leap_second" s__is_before_leap_second a__is_before_leap_second d__is_before_leap_second
  b__is_before_leap_second : Binds K d__is_before_leap_second ["before"] []
  a__weekday : Addr
  d__weekday : FuncData
  g__weekday : mg "_weekday" = some (.ref a__weekday)
  F__weekday : Fun K "_weekday" "_weekday" s__weekday a__weekday d__weekday
  b__weekday : Binds K d__weekday ["day"] []
  a__time_text : Addr
  d__time_text : FuncData
  g__time_text : mg "_time_text" = some (.ref a__time_text)
  F__time_text : Fun K "_time_text" "_time_text" s__time_text a__time_text d__time_text
  b__time_text : Binds K d__time_text ["date"] []
  a__zone_text : Addr
  d__zone_text : FuncData
  g__zone_text : mg "_zone_text" = some (.ref a__zone_text)
  F__zone_text : Fun K "_zone_text" "_zone_text" s__zone_text a__zone_text d__zone_text
  b__zone_text : Binds K d__zone_text ["zone"] []
  a__date_of_words : Addr
  d__date_of_words : FuncData
  g__date_of_words : mg "_date_of_words" = some (.ref a__date_of_words)
  F__date_of_words : Fun K "_date_of_words" "_date_of_words" s__date_of_words a__date_of_words d__date_of_words
  b__date_of_words : Binds K d__date_of_words ["words"] []
  a__plain_number : Addr
  d__plain_number : FuncData
  g__plain_number : mg "_plain_number" = some (.ref a__plain_number)
  F__plain_number : Fun K "_plain_number" "_plain_number" s__plain_number a__plain_number d__plain_number
  b__plain_number : Binds K d__plain_number ["word", "most"] []
  a__number_of_digits : Addr
  d__number_of_digits : FuncData
  g__number_of_digits : mg "_number_of_digits" = some (.ref a__number_of_digits)
  F__number_of_digits : Fun K "_number_of_digits" "_number_of_digits" s__number_of_digits a__number_of_digits d__number_of_digits
  b__number_of_digits : Binds K d__number_of_digits ["word", "count"] []
  a__month_of : Addr
  d__month_of : FuncData
  g__month_of : mg "_month_of" = some (.ref a__month_of)
  F__month_of : Fun K "_month_of" "_month_of" s__month_of a__month_of d__month_of
  b__month_of : Binds K d__month_of ["word"] []
  a__time_of : Addr
  d__time_of : FuncData
  g__time_of : mg "_time_of" = some (.ref a__time_of)
  F__time_of : Fun K "_time_of" "_time_of" s__time_of a__time_of d__time_of
  b__time_of : Binds K d__time_of ["word"] []
  a__zone_of : Addr
  d__zone_of : FuncData
  g__zone_of : mg "_zone_of" = some (.ref a__zone_of)
  F__zone_of : Fun K "_zone_of" "_zone_of" s__zone_of a__zone_of d__zone_of
  b__zone_of : Binds K d__zone_of ["word"] []
  a__law_begin : Addr
  d__law_begin : FuncData
  g__law_begin : mg "_law_begin" = some (.ref a__law_begin)
  F__law_begin : Fun K "_law_begin" "_law_begin" s__law_begin a__law_begin d__law_begin
  b__law_begin : Binds K d__law_begin ["script"] []
  a__law_mixed : Addr
  d__law_mixed : FuncData
  g__law_mixed : mg "_law_mixed" = some (.ref a__law_mixed)
  F__law_mixed : Fun K "_law_mixed" "_law_mixed" s__law_mixed a__law_mixed d__law_mixed
  b__law_mixed : Binds K d__law_mixed ["cell", "k"] []
  a__law_next : Addr
  d__law_next : FuncData
  g__law_next : mg "_law_next" = some (.ref a__law_next)
  F__law_next : Fun K "_law_next" "_law_next" s__law_next a__law_next d__law_next
  b__law_next : Binds K d__law_next ["draw", "bound"] []
  a__law_days : Addr
  d__law_days : FuncData
  g__law_days : mg "_law_days" = some (.ref a__law_days)
  F__law_days : Fun K "_law_days" "_law_days" s__law_days a__law_days d__law_days
  b__law_days : Binds K d__law_days ["year"] []
  a__law_begin_of : Addr
  d__law_begin_of : FuncData
  g__law_begin_of : mg "_law_begin_of" = some (.ref a__law_begin_of)
  F__law_begin_of : Fun K "_law_begin_of" "_law_begin_of" s__law_begin_of a__law_begin_of d__law_begin_of
  b__law_begin_of : Binds K d__law_begin_of ["year"] []
  a__law_local : Addr
  d__law_local : FuncData
  g__law_local : mg "_law_local" = some (.ref a__law_local)
  F__law_local : Fun K "_law_local" "_law_local" s__law_local a__law_local d__law_local
  b__law_local : Binds K d__law_local ["plain", "second", "belt"] []
  a__law_date : Addr
  d__law_date : FuncData
  g__law_date : mg "_law_date" = some (.ref a__law_date)
  F__law_date : Fun K "_law_date" "_law_date" s__law_date a__law_date d__law_date
  b__law_date : Binds K d__law_date ["spot", "belt"] []
  a__law_is_whole : Addr
  d__law_is_whole : FuncData
  g__law_is_whole : mg "_law_is_whole" = some (.ref a__law_is_whole)
  F__law_is_whole : Fun K "_law_is_whole" "_law_is_whole" s__law_is_whole a__law_is_whole d__law_is_whole
  b__law_is_whole : Binds K d__law_is_whole ["thing", "least", "most"] []
  a__law_moment : Addr
  d__law_moment : FuncData
  g__law_moment : mg "_law_moment" = some (.ref a__law_moment)
  F__law_moment : Fun K "_law_moment" "_law_moment" s__law_moment a__law_moment d__law_moment
  b__law_moment : Binds K d__law_moment ["stamp"] []
  a__law_year : Addr
  d__law_year : FuncData
  g__law_year : mg "_law_year" = some (.ref a__law_year)
  F__law_year : Fun K "_law_year" "_law_year" s__law_year a__law_year d__law_year
  b__law_year : Binds K d__law_year ["draw"] []
  a__law_time : Addr
  d__law_time : FuncData
  g__law_time : mg "_law_time" = some (.ref a__law_time)
  F__law_time : Fun K "_law_time" "_law_time" s__law_time a__law_time d__law_time
  b__law_time : Binds K d__law_time ["draw"] []
  a__law_zone : Addr
  d__law_zone : FuncData
  g__law_zone : mg "_law_zone" = some (.ref a__law_zone)
  F__law_zone : Fun K "_law_zone" "_law_zone" s__law_zone a__law_zone d__law_zone
  b__law_zone : Binds K d__law_zone ["draw"] []
  a__law_two : Addr
  d__law_two : FuncData
  g__law_two : mg "_law_two" = some (.ref a__law_two)
  F__law_two : Fun K "_law_two" "_law_two" s__law_two a__law_two d__law_two
  b__law_two : Binds K d__law_two ["number"] []
  a__law_zone_text : Addr
  d__law_zone_text : FuncData
  g__law_zone_text : mg "_law_zone_text" = some (.ref a__law_zone_text)
  F__law_zone_text : Fun K "_law_zone_text" "_law_zone_text" s__law_zone_text a__law_zone_text d__law_zone_text
  b__law_zone_text : Binds K d__law_zone_text ["belt"] []
  a__law_long : Addr
  d__law_long : FuncData
  g__law_long : mg "_law_long" = some (.ref a__law_long)
  F__law_long : Fun K "_law_long" "_law_long" s__law_long a__law_long d__law_long
  b__law_long : Binds K d__law_long ["date"] []
  a__law_number : Addr
  d__law_number : FuncData
  g__law_number : mg "_law_number" = some (.ref a__law_number)
  F__law_number : Fun K "_law_number" "_law_number" s__law_number a__law_number d__law_number
  b__law_number : Binds K d__law_number ["word", "least", "most"] []
  a__law_plain_number : Addr
  d__law_plain_number : FuncData
  g__law_plain_number : mg "_law_plain_number" = some (.ref a__law_plain_number)
  F__law_plain_number : Fun K "_law_plain_number" "_law_plain_number" s__law_plain_number a__law_plain_number d__law_plain_number
  b__law_plain_number : Binds K d__law_plain_number ["word"] []
  a__law_zone_in : Addr
  d__law_zone_in : FuncData
  g__law_zone_in : mg "_law_zone_in" = some (.ref a__law_zone_in)
  F__law_zone_in : Fun K "_law_zone_in" "_law_zone_in" s__law_zone_in a__law_zone_in d__law_zone_in
  b__law_zone_in : Binds K d__law_zone_in ["word"] []
  a__law_clock_in : Addr
  d__law_clock_in : FuncData
  g__law_clock_in : mg "_law_clock_in" = some (.ref a__law_clock_in)
  F__law_clock_in : Fun K "_law_clock_in" "_law_clock_in" s__law_clock_in a__law_clock_in d__law_clock_in
  b__law_clock_in : Binds K d__law_clock_in ["word", "is_short"] []
  a__law_month_in : Addr
  d__law_month_in : FuncData
  g__law_month_in : mg "_law_month_in" = some (.ref a__law_month_in)
  F__law_month_in : Fun K "_law_month_in" "_law_month_in" s__law_month_in a__law_month_in d__law_month_in
  b__law_month_in : Binds K d__law_month_in ["word"] []
  a__law_read : Addr
  d__law_read : FuncData
  g__law_read : mg "_law_read" = some (.ref a__law_read)
  F__law_read : Fun K "_law_read" "_law_read" s__law_read a__law_read d__law_read
  b__law_read : Binds K d__law_read ["letters"] []
  a__law_varied : Addr
  d__law_varied : FuncData
  g__law_varied : mg "_law_varied" = some (.ref a__law_varied)
  F__law_varied : Fun K "_law_varied" "_law_varied" s__law_varied a__law_varied d__law_varied
  b__law_varied : Binds K d__law_varied ["draw", "date"] []
  a__law_bent : Addr
  d__law_bent : FuncData
  g__law_bent : mg "_law_bent" = some (.ref a__law_bent)
  F__law_bent : Fun K "_law_bent" "_law_bent" s__law_bent a__law_bent d__law_bent
  b__law_bent : Binds K d__law_bent ["draw", "letters"] []
  a__law_right : Addr
  d__law_right : FuncData
  g__law_right : mg "_law_right" = some (.ref a__law_right)
  F__law_right : Fun K "_law_right" "_law_right" s__law_right a__law_right d__law_right
  b__law_right : Binds K d__law_right ["letters"] []
  a_law : Addr
  d_law : FuncData
  g_law : mg "law" = some (.ref a_law)
  F_law : Fun K "law" "law" s_law a_law d_law
  b_law : Binds K d_law ["script"] []
  C_FeedError : Addr
  g_FeedError : mg "FeedError" = some (.ref C_FeedError)
  C_BadDate : Addr
  g_BadDate : mg "BadDate" = some (.ref C_BadDate)
  I_BadDate : Addr
  i_BadDate : FuncData
  o_BadDate : OexC K C_BadDate
  iC_BadDate : PySem.W.findIn K (.ref C_BadDate) "__init__" = some (some (.ref I_BadDate))
  tI_BadDate : PySem.W.typeIn K (.ref I_BadDate) = some (.type "function")
  FI_BadDate : Fun K "__init__" "BadDate.__init__" s_BadDate I_BadDate i_BadDate
  bI_BadDate : Binds K i_BadDate ["self", "given"] []
  n_BadDate_given : PySem.W.findIn K (.ref C_BadDate) "given" = some none
  fdl : PySem.W.nsIn K cStatics "sys.int_max_str_digits" = some none
  z_abs : mg "abs" = none
  z_all : mg "all" = none
  z_bool : mg "bool" = none
  z_divmod : mg "divmod" = none
  z_enumerate : mg "enumerate" = none
  z_int : mg "int" = none
  z_isinstance : mg "isinstance" = none
  z_len : mg "len" = none
  z_max : mg "max" = none
  z_min : mg "min" = none
  z_range : mg "range" = none
  z_repr : mg "repr" = none
  z_str : mg "str" = none
  z_tuple : mg "tuple" = none
  z_zip : mg "zip" = none
  t_LAST_YEAR : Tok
  c_LAST_YEAR : mg "LAST_YEAR" = some (.int 9999 t_LAST_YEAR)
  t_DAY_SECONDS : Tok
  c_DAY_SECONDS : mg "DAY_SECONDS" = some (.int 86400 t_DAY_SECONDS)
  t_MONTH_DAYS : Tok
  c_MONTH_DAYS : mg "MONTH_DAYS" = some (.int 28 t_MONTH_DAYS)
  t_YEAR_DAYS : Tok
  c_YEAR_DAYS : mg "YEAR_DAYS" = some (.int 365 t_YEAR_DAYS)
  r_MONTHS : Addr
  c_MONTHS : mg "MONTHS" = some (.ref r_MONTHS)
  e_MONTHS : ∀ H : Hp, SqT K H r_MONTHS [V.str "Ash", V.str "Birch", V.str "Cedar", V.str "Elm", V.str "Fir", V.str "Hazel", V.str "Larch", V.str "Maple", V.str "Oak", V.str "Pine", V.str "Rowan", V.str "Willow", V.str "Yew"]
  r_WEEKDAYS : Addr
  c_WEEKDAYS : mg "WEEKDAYS" = some (.ref r_WEEKDAYS)
  e_WEEKDAYS : ∀ H : Hp, SqT K H r_WEEKDAYS [V.str "Ar", V.str "Be", V.str "Co", V.str "Da", V.str "Ev", V.str "Fo", V.str "Gi", V.str "Rest"]
  t_DIGITS : Tok
  c_DIGITS : mg "DIGITS" = some (.str "0123456789" t_DIGITS)
theorem ok_init_BadDate {P : Program} {w : World} {K : PySem.W.Frag} {mg : Str → Option Value} {base : Heap} (T : Txt K mg) : FnOk P w K mg base CX0 1 T.I_BadDate T.i_BadDate ["self", "given"] (Vz.sp_init T.C_BadDate "given") := by
  refine T.FI_BadDate.ok sc_BadDate (fun vs H Q E h => ?_) (fun cdv A outer s H vs Q E hr h => ?_)
  · obtain ⟨a, v, rfl, _⟩ := h; rfl
  · obtain ⟨a, v, rfl, ha, q⟩ := h
    refine ⟨_, pss_one (ps_ost (pv 0) (pv 1)), ?_⟩
    exact ⟨_, rfl, _, rfl, a, T.C_BadDate, rfl, T.o_BadDate, T.n_BadDate_given, .inl ⟨ha, fun dx n ne => q dx n ne⟩⟩

/-! ### the things that are asked about -/
/-- a value of a plain kind, by its type's name; a dict is none that stands at d -/
inductive Thg (d : Addr) (H : Hp) : V → String → Prop where
  | non : Thg d H .non "NoneType"
  | bl (b : Bool) : Thg d H (.bl b) "bool"
  | int (i : Int) : Thg d H (.int i) "int"
  | str (x : Str) : Thg d H (.str x) "str"
  | lst {a : Addr} {xs : List V} (e : H a = some (.lst xs)) : Thg d H (.ref a) "list"
  | tup {a : Addr} {xs : List V} (e : H a = some (.tup xs)) : Thg d H (.ref a) "tuple"
  | dic {a : Addr} {kvs : List (Key × V)} (e : H a = some (.dK kvs)) (ne : a ≠ d) : Thg d H (.ref a) "dict"
/-- all but the object at d stands as it stood -/
def Keep (d : Addr) (H H' : Hp) : Prop := ∀ a o, a ≠ d → H a = some o → H' a = some o
theorem Keep.refl {d : Addr} (H : Hp) : Keep d H H := fun _ _ _ h => h
theorem Keep.trans {d : Addr} {H H1 H2 : Hp} (a : Keep d H H1) (b : Keep d H1 H2) : Keep d H H2 := fun x o n h => b x o n (a x o n h)
theorem Keep.of {d : Addr} {H H' : Hp} (s : Same H H') : Keep d H H' := fun a o _ h => s a o h
theorem same_new {H : Hp} {p : Addr} {o : HO} (h : H p = none) : Same H (upd H p o) := fun b u e => by rw [upd_ne (ne_of_none e h)]; exact e
theorem Thg.ty {d : Addr} {K : PySem.W.Frag} {H : Hp} {v : V} {s : String} (h : Thg d H v s) : TyX K H v (.type s) := by
  cases h with
  | non => exact .base .non
  | bl b => exact .base (.bl b)
  | int i => exact .base (.int i)
  | str x => exact .base (.str x)
  | lst e => exact .base (.lst e)
  | tup e => exact .base (.tup e)
  | dic e _ => exact .base (.dK e)
theorem Thg.same {d : Addr} {H H' : Hp} {v : V} {s : String} (h : Thg d H v s) (e : Same H H') : Thg d H' v s := by
  cases h with
  | non => exact .non
  | bl b => exact .bl b
  | int i => exact .int i
  | str x => exact .str x
  | lst q => exact .lst (e _ _ q)
  | tup q => exact .tup (e _ _ q)
  | dic q n => exact .dic (e _ _ q) n
theorem Thg.keep {d : Addr} {H H' : Hp} {kvs : List (Key × V)} {v : V} {s : String} (h : Thg d H v s) (hd : H d = some (.dK kvs)) (e : Keep d H H') : Thg d H' v s := by
  cases h with
  | non => exact .non
  | bl b => exact .bl b
  | int i => exact .int i
  | str x => exact .str x
  | lst q => exact .lst (e _ _ (ne_of q hd (by intro z; cases z)) q)
  | tup q => exact .tup (e _ _ (ne_of q hd (by intro z; cases z)) q)
  | dic q n => exact .dic (e _ _ n q) n
def isI : V → Bool
  | .int _ => true
  | _ => false
def inR (v : V) (lo hi : Int) : Bool := match v with
  | .int i => Ma.within i lo hi
  | _ => false
def intI : V → Bool
  | .int _ => true
  | .bl _ => true
  | _ => false
def blI : V → Bool
  | .bl _ => true
  | _ => false
def tupS (s : String) : Bool := s == "tuple"
theorem Thg.k_int {d : Addr} {K : PySem.W.Frag} {H : Hp} {v : V} {s : String} (h : Thg d H v s) : PySem.W.kitOne K (.type s) (.type "int") = some (intI v) := by
  cases h <;> first | exact kit_ty (r := true) (by decide +kernel) | exact kit_ty (r := false) (by decide +kernel)
theorem Thg.k_bool {d : Addr} {K : PySem.W.Frag} {H : Hp} {v : V} {s : String} (h : Thg d H v s) : PySem.W.kitOne K (.type s) (.type "bool") = some (blI v) := by
  cases h <;> first | exact kit_ty (r := true) (by decide +kernel) | exact kit_ty (r := false) (by decide +kernel)
theorem Thg.k_tup {d : Addr} {K : PySem.W.Frag} {H : Hp} {v : V} {s : String} (h : Thg d H v s) : PySem.W.kitOne K (.type s) (.type "tuple") = some (tupS s) := by
  cases h <;> first | exact kit_ty (r := true) (by decide +kernel) | exact kit_ty (r := false) (by decide +kernel)
theorem isI_eq (v : V) : (if intI v = true then !blI v else false) = isI v := by cases v <;> rfl

section
variable {P : Program} {w : World} {K : PySem.W.Frag} {mg : Str → Option Value} {base : Heap}

/-! ### the program -/
def sp_is_int : Sp := fun vs H Q _ => ∃ d v s, vs = [v] ∧ Thg d H v s ∧ Q (.bl (isI v)) H
theorem ok_is_int (T : Txt K mg) : FnOk P w K mg base CX0 1 T.a_is_int T.d_is_int ["value"] sp_is_int := by
  refine T.F_is_int.ok sc_is_int (fun vs H Q E h => ?_) (fun cdv A outer s H vs Q E hr h => ?_)
  · obtain ⟨d, v, s, rfl, _⟩ := h; rfl
  · obtain ⟨d, v, s, rfl, ht, q⟩ := h
    refine ⟨_, (pss_one (ps_ret (pe_and (pe_callB call_isi (by rfl) T.z_isinstance (by decide +kernel) (pa_cons (pv 0) (pa_cons (pe_bltn (v := .ty "int") (by rfl) T.z_int (by decide +kernel) rfl) pa_nil))) (pe_one (pe_not (pe_callB call_isi (by rfl) T.z_isinstance (by decide +kernel) (pa_cons (pv 0) (pa_cons (pe_bltn (v := .ty "bool") (by rfl) T.z_bool (by decide +kernel) rfl) pa_nil)))))))), ?_⟩
    refine ⟨_, rfl, v, _, _, _, _, rfl, .ty "int", ht.ty, ht.k_int, _, rfl, ?_⟩
    rw [← isI_eq] at q
    refine ite2 (fun c => ?_) (fun c => ?_)
    · rw [if_pos c] at q
      exact ⟨_, rfl, v, _, _, _, _, rfl, .ty "bool", ht.ty, ht.k_bool, _, rfl, q⟩
    · rw [if_neg c] at q
      exact q
def sp_is_within : Sp := fun vs H Q _ => ∃ d v s lo hi, vs = [v, .int lo, .int hi] ∧ Thg d H v s ∧ Q (.bl (inR v lo hi)) H
theorem ok_is_within (T : Txt K mg) : FnOk P w K mg base CX0 2 T.a_is_within T.d_is_within ["value", "low", "high"] sp_is_within := by
  refine T.F_is_within.ok sc_is_within (fun vs H Q E h => ?_) (fun cdv A outer s H vs Q E hr h => ?_)
  · obtain ⟨d, v, s, lo, hi, rfl, _⟩ := h; rfl
  · obtain ⟨d, v, s, lo, hi, rfl, ht, q⟩ := h
    refine ⟨_, (pss_one (ps_ret (pe_and (pe_call (ok_is_int T) (hr.mono (by decide)) (by rfl) T.g_is_int T.F_is_int.kp T.b_is_int .nil pass0 (pa_cons (pv 0) pa_nil)) (pe_one (pe_chain op_le op_le (pv 1) (pv 0) (pv 2)))))), ?_⟩
    refine ⟨_, rfl, d, v, _, rfl, ht, _, rfl, ?_⟩
    cases v with
    | int i =>
      refine iteT ?_
      refine ⟨_, rfl, _, rfl, lo, i, rfl, rfl, _, rfl, ?_⟩
      have q' : Q (.bl (decide (lo ≤ i) && decide (i ≤ hi))) H := q
      refine ite2 (fun c => ?_) (fun c => ?_)
      · refine ⟨_, rfl, i, hi, rfl, rfl, ?_⟩
        rw [c] at q'
        exact q'
      · have c' : decide (lo ≤ i) = false := by simpa using c
        rw [c'] at q'
        rw [Bool.false_and] at q'
        exact q'
    | _ => exact iteF q
def sp_is_moment : Sp := fun vs H Q _ => ∃ d v s, vs = [v] ∧ Thg d H v s ∧ Q (.bl (inR v 0 315537638648)) H
def sp_is_zone : Sp := fun vs H Q _ => ∃ d v s, vs = [v] ∧ Thg d H v s ∧ Q (.bl (inR v (-840) 840)) H
theorem ok_is_zone (T : Txt K mg) : FnOk P w K mg base CX0 3 T.a_is_zone T.d_is_zone ["value"] sp_is_zone := by
  refine T.F_is_zone.ok sc_is_zone (fun vs H Q E h => ?_) (fun cdv A outer s H vs Q E hr h => ?_)
  · obtain ⟨d, v, s, rfl, _⟩ := h; rfl
  · obtain ⟨d, v, s, rfl, ht, q⟩ := h
    refine ⟨_, (pss_one (ps_ret (pe_call (ok_is_within T) (hr.mono (by decide)) (by rfl) T.g_is_within T.F_is_within.kp T.b_is_within .nil pass0 (pa_cons (pv 0) (pa_cons (pe_un un_neg pe_int) (pa_cons pe_int pa_nil)))))), ?_⟩
    exact ⟨_, rfl, _, rfl, d, v, _, _, _, rfl, ht, q⟩
def sp__days_before : Sp := fun vs H Q _ => ∃ y, vs = [.int y] ∧ Q (.int (Ma.days y)) H
theorem ok__days_before (T : Txt K mg) : FnOk P w K mg base CX0 1 T.a__days_before T.d__days_before ["year"] sp__days_before := by
  refine T.F__days_before.ok sc__days_before (fun vs H Q E h => ?_) (fun cdv A outer s H vs Q E hr h => ?_)
  · obtain ⟨y, rfl, _⟩ := h; rfl
  · obtain ⟨y, rfl, q⟩ := h
    refine ⟨_, (pss_cons (ps_set (i := 1) sc__days_before.nd rfl (Or.inl rfl) (pe_op op_sub (pv 0) pe_int))
        (pss_one (ps_ret (pe_op op_sub (pe_op op_add (pe_op op_mul (pe_glob (v := .int 365) (by rfl) T.c_YEAR_DAYS ⟨_, rfl⟩) (pv 1)) (pe_op op_fdiv (pv 1) pe_int)) (pe_op op_fdiv (pv 1) pe_int))))), ?_⟩
    exact ⟨_, rfl, _, _, rfl, rfl, _, rfl, _, _, rfl, rfl, .inl ⟨by decide, by decide⟩, _, rfl, _, _, rfl, rfl, ⟨by decide, by decide⟩, _, _, rfl, rfl, _, rfl, _, _, rfl, rfl, ⟨by decide, by decide⟩, _, _, rfl, rfl, q⟩
def sp__year_of_day : Sp := fun vs H Q _ => ∃ y, vs = [.int y] ∧ ∀ H', Same H H' → Q (.int (Ma.yearOf y)) H'
theorem ok__year_of_day (T : Txt K mg) : FnOk P w K mg base CX0 1 T.a__year_of_day T.d__year_of_day ["day"] sp__year_of_day := by
  refine T.F__year_of_day.ok sc__year_of_day (fun vs H Q E h => ?_) (fun cdv A outer s H vs Q E hr h => ?_)
  · obtain ⟨y, rfl, _⟩ := h; rfl
  · obtain ⟨y, rfl, q⟩ := h
    refine ⟨_, (pss_cons (ps_asg (pe_callB call_divmod (by rfl) T.z_divmod (by decide +kernel) (pa_cons (pv 0) (pa_cons (pe_op op_add (pe_op op_mul pe_int (pe_glob (v := .int 365) (by rfl) T.c_YEAR_DAYS ⟨_, rfl⟩)) pe_int) pa_nil))) (pg_tup rfl (pgs_cons (pg_name (i := 1) sc__year_of_day.nd rfl (Or.inl rfl)) (pgs_cons (pg_name (i := 0) sc__year_of_day.nd rfl (Or.inl rfl)) pgs_nil))))
        (pss_cons (ps_asg (pe_callB call_divmod (by rfl) T.z_divmod (by decide +kernel) (pa_cons (pv 0) (pa_cons (pe_op op_add (pe_op op_mul pe_int (pe_glob (v := .int 365) (by rfl) T.c_YEAR_DAYS ⟨_, rfl⟩)) pe_int) pa_nil))) (pg_tup rfl (pgs_cons (pg_name (i := 2) sc__year_of_day.nd rfl (Or.inl rfl)) (pgs_cons (pg_name (i := 0) sc__year_of_day.nd rfl (Or.inl rfl)) pgs_nil))))
        (pss_one (ps_ret (pe_op op_add (pe_op op_add (pe_op op_add (pe_op op_mul pe_int (pv 1)) (pe_op op_mul pe_int (pv 2))) (pe_callB (call_min2 rfl) (by rfl) T.z_min (by decide +kernel) (pa_cons (pe_op op_fdiv (pv 0) (pe_glob (v := .int 365) (by rfl) T.c_YEAR_DAYS ⟨_, rfl⟩)) (pa_cons pe_int pa_nil)))) pe_int))))), ?_⟩
    refine ⟨_, rfl, _, _, rfl, rfl, .inl ⟨by decide, by decide⟩, _, _, rfl, rfl, _, _, rfl, ⟨by decide, by decide⟩, fun p np => ?_⟩
    refine ⟨p, _, rfl, SqT.of upd_same, rfl, _, _, rfl, _, _, rfl, rfl, ?_⟩
    refine ⟨_, rfl, _, _, rfl, rfl, .inl ⟨by decide, by decide⟩, _, _, rfl, rfl, _, _, rfl, ⟨by decide, by decide⟩, fun p2 np2 => ?_⟩
    refine ⟨p2, _, rfl, SqT.of upd_same, rfl, _, _, rfl, _, _, rfl, rfl, ?_⟩
    refine ⟨_, rfl, _, _, rfl, rfl, .inl ⟨by decide, by decide⟩, _, rfl, _, _, rfl, rfl, .inl ⟨by decide, by decide⟩, _, _, rfl, rfl, _, rfl, _, _, rfl, rfl, ⟨by decide, by decide⟩, _, _, rfl, _, _, rfl, rfl, _, _, rfl, rfl, ?_⟩
    exact q _ ((same_new np).trans (same_new np2))
end
end Toy
set_option Elab.async false
set_option linter.all false
set_option maxRecDepth 100000
set_option maxHeartbeats 2000000
namespace Toy
open PySem PySem.Spec PyProof.Rows L2
theorem dI (a b : Int) : decide (V.int a = V.int b) = decide (a = b) := by
  rw [Bool.eq_iff_iff]
  simp only [decide_eq_true_eq]
  exact ⟨fun h => V.int.inj h, fun h => by rw [h]⟩
theorem inR_int {v : V} {lo hi : Int} (h : inR v lo hi = true) : ∃ i, v = .int i := by
  cases v <;> first | exact ⟨_, rfl⟩ | cases h
theorem Thg.is_tup {d : Addr} {H : Hp} {v : V} {s : String} (h : Thg d H v s) (e : tupS s = true) : ∃ a xs, v = .ref a ∧ H a = some (.tup xs) := by
  cases h with
  | tup q => exact ⟨_, _, rfl, q⟩
  | _ => exact absurd e (by decide)
def dayV (y mo d : V) : Bool := match y, mo with
  | .int y', .int m' => inR d 1 (Ma.dim y' m')
  | _, _ => false
def fitsV (y mo d h mi s z : V) : Bool := inR y 1 9999 && inR mo 1 13 && dayV y mo d && inR z (-840) 840 && inR h 0 23 && inR mi 0 59 && inR s 0 60
theorem fitsV_int (y mo d h mi s z : Int) : fitsV (.int y) (.int mo) (.int d) (.int h) (.int mi) (.int s) (.int z) = Ma.fits y mo d h mi s z := rfl
theorem fitsV_ints {y mo d h mi s z : V} (f : fitsV y mo d h mi s z = true) : ∃ y' mo' d' h' mi' s' z' : Int, y = .int y' ∧ mo = .int mo' ∧ d = .int d' ∧ h = .int h' ∧ mi = .int mi' ∧ s = .int s' ∧ z = .int z' := by
  unfold fitsV at f
  simp only [Bool.and_eq_true] at f
  obtain ⟨⟨⟨⟨⟨⟨f1, f2⟩, f3⟩, f4⟩, f5⟩, f6⟩, f7⟩ := f
  obtain ⟨y', rfl⟩ := inR_int f1
  obtain ⟨mo', rfl⟩ := inR_int f2
  obtain ⟨d', rfl⟩ := inR_int (v := d) f3
  obtain ⟨z', rfl⟩ := inR_int f4
  obtain ⟨h', rfl⟩ := inR_int f5
  obtain ⟨mi', rfl⟩ := inR_int f6
  obtain ⟨s', rfl⟩ := inR_int f7
  exact ⟨_, _, _, _, _, _, _, rfl, rfl, rfl, rfl, rfl, rfl, rfl⟩
def isDateL : List V → Bool
  | [.int y, .int mo, .int d, .int h, .int mi, .int s, .int z] => Ma.isDate y mo d h mi s z
  | _ => false
def isDateV (H : Hp) (v : V) : Bool := match v with
  | .ref a => match H a with
    | some (.tup xs) => isDateL xs
    | _ => false
  | _ => false
section
variable {P : Program} {w : World} {K : PySem.W.Frag} {mg : Str → Option Value} {base : Heap}
def sp__days_in_month : Sp := fun vs H Q _ => ∃ y m, vs = [.int y, .int m] ∧ Q (.int (Ma.dim y m)) H
theorem ok__days_in_month (T : Txt K mg) : FnOk P w K mg base CX0 1 T.a__days_in_month T.d__days_in_month ["year", "month"] sp__days_in_month := by
  refine T.F__days_in_month.ok sc__days_in_month (fun vs H Q E h => ?_) (fun cdv A outer s H vs Q E hr h => ?_)
  · obtain ⟨y, m, rfl, _⟩ := h; rfl
  · obtain ⟨y, m, rfl, q⟩ := h
    refine ⟨_, (pss_cons (ps_if (pt_cmpR op_lt (pv 1) (pe_callB call_len_seq (by rfl) T.z_len PySem.boot_len (pa_cons (pe_glob (v := .ref T.r_MONTHS) (by rfl) T.c_MONTHS rfl) pa_nil)) (nomark _)) (pss_one (ps_ret (pe_glob (v := .int 28) (by rfl) T.c_MONTH_DAYS ⟨_, rfl⟩))) pss_nil)
        (pss_one (ps_ret (pe_ifExp (PW.pt (pw_and (pt_cmpR op_eq (pe_op op_mod (pv 0) pe_int) pe_int (nomark _)) (pw_and1 (pt_cmpR op_ne (pe_op op_mod (pv 0) pe_int) pe_int (nomark _))))) pe_int pe_int)))), ?_⟩
    refine ⟨_, rfl, _, _, rfl, .inr (T.e_MONTHS H), _, _, rfl, rfl, _, rfl, ?_⟩
    refine ite2 (fun c => ?_) (fun c => ?_)
    · have c1 : m < 13 := of_decide_eq_true c
      have e : Ma.dim y m = 28 := by unfold Ma.dim; rw [if_pos c1]
      rw [e] at q
      exact q
    · have c1 : ¬ m < 13 := fun z => c (decide_eq_true z)
      refine ⟨_, rfl, _, _, rfl, rfl, (by show (0 : Int) < 4; decide), rfl, _, rfl, ?_⟩
      refine ite2 (fun c2 => ?_) (fun c2 => ?_)
      · rw [dI] at c2
        have c3 := of_decide_eq_true c2
        refine ⟨_, rfl, _, _, rfl, rfl, (by show (0 : Int) < 128; decide), rfl, _, rfl, ?_⟩
        refine ite2 (fun c4 => ?_) (fun c4 => ?_)
        · rw [dI] at c4
          have e : Ma.dim y m = 30 := by unfold Ma.dim Ma.leapY; rw [if_neg c1, if_pos]; simp at c4; simp [c3, c4]
          rw [e] at q
          exact q
        · rw [dI] at c4
          have e : Ma.dim y m = 29 := by unfold Ma.dim Ma.leapY; rw [if_neg c1, if_neg]; simp at c4; simp [c4]
          rw [e] at q
          exact q
      · rw [dI] at c2
        have e : Ma.dim y m = 29 := by unfold Ma.dim Ma.leapY; rw [if_neg c1, if_neg]; simp at c2; simp [c2]
        rw [e] at q
        exact iteF q
def sp__fits_calendar : Sp := fun vs H Q _ => ∃ (dd a : Addr) (y mo d h mi s z : V), vs = [.ref a] ∧ H a = some (.tup [y, mo, d, h, mi, s, z]) ∧ (∀ x ∈ [y, mo, d, h, mi, s, z], ∃ k, Thg dd H x k) ∧ Q (.bl (fitsV y mo d h mi s z)) H
theorem ok__fits_calendar (T : Txt K mg) : FnOk P w K mg base CX0 4 T.a__fits_calendar T.d__fits_calendar ["date"] sp__fits_calendar := by
  refine T.F__fits_calendar.ok sc__fits_calendar (fun vs H Q E h => ?_) (fun cdv A outer s H vs Q E hr h => ?_)
  · obtain ⟨dd, a, y, mo, d, h, mi, s, z, rfl, _⟩ := h; rfl
  · obtain ⟨dd, a, y, mo, d, h, mi, s, z, rfl, ha, ht, q⟩ := h
    obtain ⟨k1, t1⟩ := ht y (by simp)
    obtain ⟨k2, t2⟩ := ht mo (by simp)
    obtain ⟨k3, t3⟩ := ht d (by simp)
    obtain ⟨k4, t4⟩ := ht h (by simp)
    obtain ⟨k5, t5⟩ := ht mi (by simp)
    obtain ⟨k6, t6⟩ := ht s (by simp)
    obtain ⟨k7, t7⟩ := ht z (by simp)
    refine ⟨_, (pss_cons (ps_asg (pv 0) (pg_tup rfl (pgs_cons (pg_name (i := 1) sc__fits_calendar.nd rfl (Or.inl rfl)) (pgs_cons (pg_name (i := 2) sc__fits_calendar.nd rfl (Or.inl rfl)) (pgs_cons (pg_name (i := 3) sc__fits_calendar.nd rfl (Or.inl rfl)) (pgs_cons (pg_name (i := 4) sc__fits_calendar.nd rfl (Or.inl rfl)) (pgs_cons (pg_name (i := 5) sc__fits_calendar.nd rfl (Or.inl rfl)) (pgs_cons (pg_name (i := 6) sc__fits_calendar.nd rfl (Or.inl rfl)) (pgs_cons (pg_name (i := 7) sc__fits_calendar.nd rfl (Or.inl rfl)) pgs_nil)))))))))
        (pss_cons (ps_if (PW.pt (pw_or (pt_not (pt_val (pe_call (ok_is_within T) (hr.mono (by decide)) (by rfl) T.g_is_within T.F_is_within.kp T.b_is_within .nil pass0 (pa_cons (pv 1) (pa_cons pe_int (pa_cons (pe_glob (v := .int 9999) (by rfl) T.c_LAST_YEAR ⟨_, rfl⟩) pa_nil)))))) (pw_or1 (pt_not (pt_val (pe_call (ok_is_within T) (hr.mono (by decide)) (by rfl) T.g_is_within T.F_is_within.kp T.b_is_within .nil pass0 (pa_cons (pv 2) (pa_cons pe_int (pa_cons (pe_callB call_len_seq (by rfl) T.z_len PySem.boot_len (pa_cons (pe_glob (v := .ref T.r_MONTHS) (by rfl) T.c_MONTHS rfl) pa_nil)) pa_nil))))))))) (pss_one (ps_ret pe_bl)) pss_nil)
        (pss_cons (ps_if (PW.pt (pw_or (pt_not (pt_val (pe_call (ok_is_within T) (hr.mono (by decide)) (by rfl) T.g_is_within T.F_is_within.kp T.b_is_within .nil pass0 (pa_cons (pv 3) (pa_cons pe_int (pa_cons (pe_call (ok__days_in_month T) (hr.mono (by decide)) (by rfl) T.g__days_in_month T.F__days_in_month.kp T.b__days_in_month .nil pass0 (pa_cons (pv 1) (pa_cons (pv 2) pa_nil))) pa_nil)))))) (pw_or1 (pt_not (pt_val (pe_call (ok_is_zone T) (hr.mono (by decide)) (by rfl) T.g_is_zone T.F_is_zone.kp T.b_is_zone .nil pass0 (pa_cons (pv 7) pa_nil))))))) (pss_one (ps_ret pe_bl)) pss_nil)
        (pss_one (ps_ret (pe_and (pe_call (ok_is_within T) (hr.mono (by decide)) (by rfl) T.g_is_within T.F_is_within.kp T.b_is_within .nil pass0 (pa_cons (pv 4) (pa_cons pe_int (pa_cons pe_int pa_nil)))) (pe_and (pe_call (ok_is_within T) (hr.mono (by decide)) (by rfl) T.g_is_within T.F_is_within.kp T.b_is_within .nil pass0 (pa_cons (pv 5) (pa_cons pe_int (pa_cons pe_int pa_nil)))) (pe_one (pe_call (ok_is_within T) (hr.mono (by decide)) (by rfl) T.g_is_within T.F_is_within.kp T.b_is_within .nil pass0 (pa_cons (pv 6) (pa_cons pe_int (pa_cons pe_int pa_nil)))))))))))), ?_⟩
    refine ⟨_, rfl, a, _, rfl, SqT.of ha, rfl, _, _, rfl, _, _, rfl, _, _, rfl, _, _, rfl, _, _, rfl, _, _, rfl, _, _, rfl, rfl, ?_⟩
    refine ⟨_, rfl, dd, y, k1, _, _, rfl, t1, _, rfl, ?_⟩
    cases e1 : inR y 1 9999 with
    | false =>
      have e : fitsV y mo d h mi s z = false := by unfold fitsV; rw [e1]; simp
      rw [e] at q
      exact q
    | true =>
    refine iteF ?_
    refine ⟨_, rfl, _, _, rfl, .inr (T.e_MONTHS H), dd, mo, k2, 1, 13, rfl, t2, _, rfl, ?_⟩
    cases e2 : inR mo 1 13 with
    | false =>
      have e : fitsV y mo d h mi s z = false := by unfold fitsV; rw [e2]; simp
      rw [e] at q
      exact q
    | true =>
    obtain ⟨y', rfl⟩ := inR_int e1
    obtain ⟨mo', rfl⟩ := inR_int e2
    refine iteF ?_
    refine ⟨_, rfl, _, rfl, _, rfl, y', mo', rfl, ?_⟩
    refine ⟨dd, d, k3, _, _, rfl, t3, _, rfl, ?_⟩
    cases e3 : inR d 1 (Ma.dim y' mo') with
    | false =>
      have e' : dayV (.int y') (.int mo') d = false := e3
      have e : fitsV (.int y') (.int mo') d h mi s z = false := by unfold fitsV; rw [e']; simp
      rw [e] at q
      exact q
    | true =>
    refine iteF ?_
    refine ⟨_, rfl, dd, z, k7, rfl, t7, _, rfl, ?_⟩
    cases e4 : inR z (-840) 840 with
    | false =>
      have e : fitsV (.int y') (.int mo') d h mi s z = false := by unfold fitsV; rw [e4]; simp
      rw [e] at q
      exact q
    | true =>
    refine iteF ?_
    refine ⟨_, rfl, dd, h, k4, _, _, rfl, t4, _, rfl, ?_⟩
    cases e5 : inR h 0 23 with
    | false =>
      have e : fitsV (.int y') (.int mo') d h mi s z = false := by unfold fitsV; rw [e5]; simp
      rw [e] at q
      exact q
    | true =>
    refine iteT ?_
    refine ⟨_, rfl, dd, mi, k5, _, _, rfl, t5, _, rfl, ?_⟩
    cases e6 : inR mi 0 59 with
    | false =>
      have e : fitsV (.int y') (.int mo') d h mi s z = false := by unfold fitsV; rw [e6]; simp
      rw [e] at q
      exact q
    | true =>
    refine iteT ?_
    refine ⟨_, rfl, dd, s, k6, _, _, rfl, t6, ?_⟩
    have e' : dayV (.int y') (.int mo') d = true := e3
    have e : fitsV (.int y') (.int mo') d h mi s z = inR s 0 60 := by unfold fitsV; rw [e1, e2, e', e4, e5, e6]; rfl
    rw [e] at q
    exact q
def sp__seconds_before : Sp := fun vs H Q _ => ∃ (a : Addr) (y mo d h mi s z : Int), vs = [.ref a] ∧ H a = some (.tup [.int y, .int mo, .int d, .int h, .int mi, .int s, .int z]) ∧ Q (.int (Ma.before y mo d h mi s z)) H
theorem ok__seconds_before (T : Txt K mg) : FnOk P w K mg base CX0 2 T.a__seconds_before T.d__seconds_before ["date"] sp__seconds_before := by
  refine T.F__seconds_before.ok sc__seconds_before (fun vs H Q E h => ?_) (fun cdv A outer s H vs Q E hr h => ?_)
  · obtain ⟨a, y, mo, d, h, mi, s, z, rfl, _⟩ := h; rfl
  · obtain ⟨a, y, mo, d, h, mi, s, z, rfl, ha, q⟩ := h
    refine ⟨_, (pss_cons (ps_asg (pv 0) (pg_tup rfl (pgs_cons (pg_name (i := 1) sc__seconds_before.nd rfl (Or.inl rfl)) (pgs_cons (pg_name (i := 2) sc__seconds_before.nd rfl (Or.inl rfl)) (pgs_cons (pg_name (i := 3) sc__seconds_before.nd rfl (Or.inl rfl)) (pgs_cons (pg_name (i := 4) sc__seconds_before.nd rfl (Or.inl rfl)) (pgs_cons (pg_name (i := 5) sc__seconds_before.nd rfl (Or.inl rfl)) (pgs_cons (pg_name (i := 6) sc__seconds_before.nd rfl (Or.inl rfl)) (pgs_cons (pg_name (i := 7) sc__seconds_before.nd rfl (Or.inl rfl)) pgs_nil)))))))))
        (pss_cons (ps_set (i := 8) sc__seconds_before.nd rfl (Or.inl rfl) (pe_op op_sub (pe_op op_add (pe_op op_add (pe_call (ok__days_before T) (hr.mono (by decide)) (by rfl) T.g__days_before T.F__days_before.kp T.b__days_before .nil pass0 (pa_cons (pv 1) pa_nil)) (pe_op op_mul (pe_glob (v := .int 28) (by rfl) T.c_MONTH_DAYS ⟨_, rfl⟩) (pe_op op_sub (pv 2) pe_int))) (pv 3)) pe_int))
        (pss_one (ps_ret (pe_op op_add (pe_op op_add (pe_op op_add (pe_op op_mul (pe_glob (v := .int 86400) (by rfl) T.c_DAY_SECONDS ⟨_, rfl⟩) (pv 8)) (pe_op op_mul pe_int (pv 4))) (pe_op op_mul pe_int (pe_op op_sub (pv 5) (pv 7)))) (pe_callB (call_min2 rfl) (by rfl) T.z_min (by decide +kernel) (pa_cons (pv 6) (pa_cons pe_int pa_nil)))))))), ?_⟩
    refine ⟨_, rfl, a, _, rfl, SqT.of ha, rfl, _, _, rfl, _, _, rfl, _, _, rfl, _, _, rfl, _, _, rfl, _, _, rfl, _, _, rfl, rfl, ?_⟩
    refine ⟨_, rfl, y, rfl, ?_⟩
    refine ⟨_, rfl, _, _, rfl, rfl, _, _, rfl, rfl, .inl ⟨by decide, by decide⟩, _, _, rfl, rfl, _, rfl, _, _, rfl, rfl, _, _, rfl, rfl, ?_⟩
    refine ⟨_, rfl, _, _, rfl, rfl, .inl ⟨by decide, by decide⟩, _, rfl, _, _, rfl, rfl, .inl ⟨by decide, by decide⟩, _, _, rfl, rfl, _, rfl, _, rfl, _, _, rfl, rfl, _, _, rfl, rfl, .inl ⟨by decide, by decide⟩, _, _, rfl, rfl, _, rfl, _, _, rfl, _, _, rfl, rfl, ?_⟩
    exact q
def sp__is_before_leap_second : Sp := fun vs H Q _ => ∃ b, vs = [.int b] ∧ ∀ H', Same H H' → Q (.bl (Ma.isLeap b)) H'
theorem ok__is_before_leap_second (T : Txt K mg) : FnOk P w K mg base CX0 2 T.a__is_before_leap_second T.d__is_before_leap_second ["before"] sp__is_before_leap_second := by
  refine T.F__is_before_leap_second.ok sc__is_before_leap_second (fun vs H Q E h => ?_) (fun cdv A outer s H vs Q E hr h => ?_)
  · obtain ⟨b, rfl, _⟩ := h; rfl
  · obtain ⟨b, rfl, q⟩ := h
    refine ⟨_, (pss_cons (ps_set (i := 1) sc__is_before_leap_second.nd rfl (Or.inl rfl) (pe_call (ok__year_of_day T) (hr.mono (by decide)) (by rfl) T.g__year_of_day T.F__year_of_day.kp T.b__year_of_day .nil pass0 (pa_cons (pe_op op_fdiv (pv 0) (pe_glob (v := .int 86400) (by rfl) T.c_DAY_SECONDS ⟨_, rfl⟩)) pa_nil)))
        (pss_one (ps_ret (pe_and (pe_cmpR op_eq (pe_op op_mod (pv 1) pe_int) pe_int (nomark _)) (pe_one (pe_cmpR op_eq (pe_op op_add (pv 0) pe_int) (pe_op op_mul (pe_glob (v := .int 86400) (by rfl) T.c_DAY_SECONDS ⟨_, rfl⟩) (pe_call (ok__days_before T) (hr.mono (by decide)) (by rfl) T.g__days_before T.F__days_before.kp T.b__days_before .nil pass0 (pa_cons (pe_op op_add (pv 1) pe_int) pa_nil))) (nomark _))))))), ?_⟩
    refine ⟨_, rfl, _, _, rfl, rfl, ⟨by decide, by decide⟩, _, rfl, fun H1 s1 => ?_⟩
    refine ⟨_, rfl, _, _, rfl, rfl, (by show (0 : Int) < 40; decide), rfl, _, rfl, ?_⟩
    have q1 := q H1 s1
    unfold Ma.isLeap at q1
    refine ite2 (fun c => ?_) (fun c => ?_)
    · rw [dI] at c
      rw [c, Bool.true_and] at q1
      refine ⟨_, rfl, _, _, rfl, rfl, _, rfl, _, _, rfl, rfl, _, rfl, _, _, rfl, rfl, .inl ⟨by decide, by decide⟩, rfl, ?_⟩
      rw [← dI] at q1
      exact q1
    · rw [dI] at c
      have c' : decide (Ma.yearOf (b / 86400) % 40 = 0) = false := by simpa using c
      rw [c', Bool.false_and] at q1
      exact q1
def sp_is_date : Sp := fun vs H Q _ => ∃ (dd : Addr) (v : V) (k : String), vs = [v] ∧ Thg dd H v k ∧ (∀ a xs, v = .ref a → H a = some (.tup xs) → ∀ x ∈ xs, ∃ k, Thg dd H x k) ∧ ∀ H', Same H H' → Q (.bl (isDateV H v)) H'
theorem ok_is_date (T : Txt K mg) : FnOk P w K mg base CX0 5 T.a_is_date T.d_is_date ["value"] sp_is_date := by
  refine T.F_is_date.ok sc_is_date (fun vs H Q E h => ?_) (fun cdv A outer s H vs Q E hr h => ?_)
  · obtain ⟨dd, v, k, rfl, _⟩ := h; rfl
  · obtain ⟨dd, v, k, rfl, ht, hi, q⟩ := h
    refine ⟨_, (pss_cons (ps_if (PW.pt (pw_or (pt_not (pt_val (pe_callB call_isi (by rfl) T.z_isinstance (by decide +kernel) (pa_cons (pv 0) (pa_cons (pe_bltn (v := .ty "tuple") (by rfl) T.z_tuple (by decide +kernel) rfl) pa_nil))))) (pw_or (pt_cmpR op_ne (pe_callB call_len_seq (by rfl) T.z_len PySem.boot_len (pa_cons (pv 0) pa_nil)) pe_int (nomark _)) (pw_or1 (pt_not (pt_val (pe_call (ok__fits_calendar T) (hr.mono (by decide)) (by rfl) T.g__fits_calendar T.F__fits_calendar.kp T.b__fits_calendar .nil pass0 (pa_cons (pv 0) pa_nil)))))))) (pss_one (ps_ret pe_bl)) pss_nil)
        (pss_cons (ps_set (i := 1) sc_is_date.nd rfl (Or.inl rfl) (pe_call (ok__seconds_before T) (hr.mono (by decide)) (by rfl) T.g__seconds_before T.F__seconds_before.kp T.b__seconds_before .nil pass0 (pa_cons (pv 0) pa_nil)))
        (pss_cons (ps_if (pt_not (pt_chain op_le op_lt pe_int (pv 1) (pe_op op_mul (pe_glob (v := .int 86400) (by rfl) T.c_DAY_SECONDS ⟨_, rfl⟩) (pe_call (ok__days_before T) (hr.mono (by decide)) (by rfl) T.g__days_before T.F__days_before.kp T.b__days_before .nil pass0 (pa_cons (pe_op op_add (pe_glob (v := .int 9999) (by rfl) T.c_LAST_YEAR ⟨_, rfl⟩) pe_int) pa_nil))))) (pss_one (ps_ret pe_bl)) pss_nil)
        (pss_one (ps_ret (pe_or (pe_cmpR op_lt (pe_ix ix_tup (pv 0) pe_int (fun _ _ => rfl)) pe_int (nomark _)) (pe_one (pe_call (ok__is_before_leap_second T) (hr.mono (by decide)) (by rfl) T.g__is_before_leap_second T.F__is_before_leap_second.kp T.b__is_before_leap_second .nil pass0 (pa_cons (pv 1) pa_nil))))))))), ?_⟩
    refine ⟨_, rfl, v, _, _, _, _, rfl, .ty "tuple", ht.ty, ht.k_tup, _, rfl, ?_⟩
    have other : ∀ {k'}, tupS k' = false → Thg dd H v k' → isDateV H v = false := by
      intro k' e h
      cases h with
      | tup e' => cases (show tupS "tuple" = false from e)
      | lst e' => unfold isDateV; simp [e']
      | dic e' _ => unfold isDateV; simp [e']
      | _ => rfl
    cases e : tupS k with
    | false =>
      rw [other e ht] at q
      exact q H (Same.refl H)
    | true =>
    obtain ⟨a, xs, rfl, ha⟩ := ht.is_tup e
    refine iteF ?_
    have hx := hi a xs rfl ha
    refine ⟨_, rfl, _, _, rfl, .inr (SqT.of ha), rfl, _, rfl, ?_⟩
    have dv : isDateV H (.ref a) = isDateL xs := by unfold isDateV; simp [ha]
    rw [dv] at q
    refine ite2 (fun c => ?_) (fun c => ?_)
    · have nl : ¬ xs.length = 7 := by
        intro z
        rw [dI] at c
        simp [z] at c
      have e0 : isDateL xs = false := by
        unfold isDateL
        split
        · exact absurd rfl nl
        · rfl
      rw [e0] at q
      exact q H (Same.refl H)
    · have l7 : xs.length = 7 := by
        rw [dI] at c
        simp at c
        omega
      match xs, l7 with
      | [y, mo, d, h, mi, s, z], _ =>
      refine ⟨_, rfl, dd, a, y, mo, d, h, mi, s, z, rfl, ha, hx, _, rfl, ?_⟩
      cases ef : fitsV y mo d h mi s z with
      | false =>
        have e0 : isDateL [y, mo, d, h, mi, s, z] = false := by
          unfold isDateL
          split
          · rename_i y' mo' d' h' mi' s' z' heq
            cases heq
            rw [fitsV_int] at ef
            unfold Ma.isDate
            rw [ef]
            simp
          · rfl
        rw [e0] at q
        exact q H (Same.refl H)
      | true =>
      obtain ⟨y', mo', d', h', mi', s', z', rfl, rfl, rfl, rfl, rfl, rfl, rfl⟩ := fitsV_ints ef
      rw [fitsV_int] at ef
      have e0 : isDateL [.int y', .int mo', .int d', .int h', .int mi', .int s', .int z'] = Ma.isDate y' mo' d' h' mi' s' z' := rfl
      rw [e0] at q
      unfold Ma.isDate at q
      rw [ef, Bool.true_and] at q
      refine iteF ?_
      refine ⟨_, rfl, a, y', mo', d', h', mi', s', z', rfl, ha, ?_⟩
      refine ⟨_, rfl, _, _, rfl, rfl, _, rfl, ?_⟩
      refine ite2 (fun c0 => ?_) (fun c0 => ?_)
      · refine ⟨_, _, rfl, rfl, _, rfl, _, _, rfl, rfl, .inl ⟨by decide, by decide⟩, _, _, rfl, rfl, _, rfl, ?_⟩
        rw [c0, Bool.true_and] at q
        have q' : ∀ H', Same H H' → Q (.bl (decide (Ma.before y' mo' d' h' mi' s' z' < 86400 * Ma.days (9999 + 1)) && (decide (s' < 60) || Ma.isLeap (Ma.before y' mo' d' h' mi' s' z')))) H' := q
        cases c1 : decide (Ma.before y' mo' d' h' mi' s' z' < 86400 * Ma.days (9999 + 1)) with
        | false =>
          rw [c1, Bool.false_and] at q'
          exact q' H (Same.refl H)
        | true =>
        rw [c1, Bool.true_and] at q'
        refine iteF ?_
        refine ⟨_, rfl, a, _, _, _, rfl, rfl, SqT.of ha, rfl, _, _, rfl, rfl, _, rfl, ?_⟩
        refine ite2 (fun c2 => ?_) (fun c2 => ?_)
        · rw [c2, Bool.true_or] at q'
          exact q' H (Same.refl H)
        · have c3 : decide (s' < 60) = false := by simpa using c2
          rw [c3, Bool.false_or] at q'
          exact ⟨_, rfl, _, rfl, q'⟩
      · have c1 : decide (0 ≤ Ma.before y' mo' d' h' mi' s' z') = false := by simpa using c0
        rw [c1, Bool.false_and, Bool.false_and] at q
        exact ⟨_, rfl, q H (Same.refl H)⟩
end
end Toy
set_option Elab.async false
set_option linter.all false
set_option maxRecDepth 100000
set_option maxHeartbeats 2000000
namespace Toy
open PySem PySem.Spec PyProof.Rows L2
/-! ### the draws -/
theorem s_ca : ¬ (("cells" : Str) = ("at" : Str)) := by decide +kernel
theorem s_ac : ¬ (("at" : Str) = ("cells" : Str)) := by decide +kernel
theorem n_ca : ¬ ((Sum.inr ("cells" : Str) : Key) = Sum.inr ("at" : Str)) := by decide +kernel
theorem s_cl : ¬ (("cells" : Str) = ("left" : Str)) := by decide +kernel
theorem s_lc : ¬ (("left" : Str) = ("cells" : Str)) := by decide +kernel
theorem n_cl : ¬ ((Sum.inr ("cells" : Str) : Key) = Sum.inr ("left" : Str)) := by decide +kernel
theorem s_cu : ¬ (("cells" : Str) = ("used" : Str)) := by decide +kernel
theorem s_uc : ¬ (("used" : Str) = ("cells" : Str)) := by decide +kernel
theorem n_cu : ¬ ((Sum.inr ("cells" : Str) : Key) = Sum.inr ("used" : Str)) := by decide +kernel
theorem s_al : ¬ (("at" : Str) = ("left" : Str)) := by decide +kernel
theorem s_la : ¬ (("left" : Str) = ("at" : Str)) := by decide +kernel
theorem n_al : ¬ ((Sum.inr ("at" : Str) : Key) = Sum.inr ("left" : Str)) := by decide +kernel
theorem s_au : ¬ (("at" : Str) = ("used" : Str)) := by decide +kernel
theorem s_ua : ¬ (("used" : Str) = ("at" : Str)) := by decide +kernel
theorem n_au : ¬ ((Sum.inr ("at" : Str) : Key) = Sum.inr ("used" : Str)) := by decide +kernel
theorem s_lu : ¬ (("left" : Str) = ("used" : Str)) := by decide +kernel
theorem s_ul : ¬ (("used" : Str) = ("left" : Str)) := by decide +kernel
theorem n_lu : ¬ ((Sum.inr ("left" : Str) : Key) = Sum.inr ("used" : Str)) := by decide +kernel
def dkv (c : Addr) (a l u : Int) : List (Key × V) := [(Sum.inr ("cells" : Str), .ref c), (Sum.inr ("at" : Str), .int a), (Sum.inr ("left" : Str), .int l), (Sum.inr ("used" : Str), .int u)]
theorem dkv_merge (c : Addr) (a l u : Int) : mergeK [] [(Sum.inr ("cells" : Str), V.ref c), (Sum.inr ("at" : Str), .int a), (Sum.inr ("left" : Str), .int l), (Sum.inr ("used" : Str), .int u)] = dkv c a l u := by
  simp [mergeK, putK, dkv, s_ca, s_ac, s_cl, s_lc, s_cu, s_uc, s_al, s_la, s_au, s_ua, s_lu, s_ul]
theorem put_at (c : Addr) (a l u x : Int) : putK (dkv c a l u) (Sum.inr ("at" : Str)) (.int x) = dkv c x l u := by
  simp [putK, dkv, s_ca, s_ac, s_cl, s_lc, s_cu, s_uc, s_al, s_la, s_au, s_ua, s_lu, s_ul]
theorem put_left (c : Addr) (a l u x : Int) : putK (dkv c a l u) (Sum.inr ("left" : Str)) (.int x) = dkv c a x u := by
  simp [putK, dkv, s_ca, s_ac, s_cl, s_lc, s_cu, s_uc, s_al, s_la, s_au, s_ua, s_lu, s_ul]
theorem put_used (c : Addr) (a l u x : Int) : putK (dkv c a l u) (Sum.inr ("used" : Str)) (.int x) = dkv c a l x := by
  simp [putK, dkv, s_ca, s_ac, s_cl, s_lc, s_cu, s_uc, s_al, s_la, s_au, s_ua, s_lu, s_ul]
section
variable {H : Hp} {d c : Addr} {a l u : Int}
theorem get_cells (h : H d = some (.dK (dkv c a l u))) : DGet H d (.str "cells") (some (.ref c)) := by
  have g := DGet.k (k := Sum.inr ("cells" : Str)) h
  rw [show valV (dkv c a l u) (Sum.inr ("cells" : Str)) = some (.ref c) from valV_pos rfl] at g
  exact g
theorem get_at (h : H d = some (.dK (dkv c a l u))) : DGet H d (.str "at") (some (.int a)) := by
  have g := DGet.k (k := Sum.inr ("at" : Str)) h
  rw [show valV (dkv c a l u) (Sum.inr ("at" : Str)) = some (.int a) by unfold dkv; rw [valV_neg n_ca, valV_pos rfl]] at g
  exact g
theorem get_left (h : H d = some (.dK (dkv c a l u))) : DGet H d (.str "left") (some (.int l)) := by
  have g := DGet.k (k := Sum.inr ("left" : Str)) h
  rw [show valV (dkv c a l u) (Sum.inr ("left" : Str)) = some (.int l) by unfold dkv; rw [valV_neg n_cl, valV_neg n_al, valV_pos rfl]] at g
  exact g
theorem get_used (h : H d = some (.dK (dkv c a l u))) : DGet H d (.str "used") (some (.int u)) := by
  have g := DGet.k (k := Sum.inr ("used" : Str)) h
  rw [show valV (dkv c a l u) (Sum.inr ("used" : Str)) = some (.int u) by unfold dkv; rw [valV_neg n_cu, valV_neg n_au, valV_neg n_lu, valV_pos rfl]] at g
  exact g
theorem dkv_few : (dkv c a l u).length < sizeLine := Nat.lt_of_lt_of_le (show 4 < 1000 by decide) (by decide)
theorem set_at (x : Int) (h : H d = some (.dK (dkv c a l u))) : DPut H d (.str "at") (.int x) (upd H d (.dK (dkv c x l u))) := by
  have g := DPut.k (k := Sum.inr ("at" : Str)) (v := .int x) h dkv_few
  rw [put_at] at g
  exact g
theorem set_left (x : Int) (h : H d = some (.dK (dkv c a l u))) : DPut H d (.str "left") (.int x) (upd H d (.dK (dkv c a x u))) := by
  have g := DPut.k (k := Sum.inr ("left" : Str)) (v := .int x) h dkv_few
  rw [put_left] at g
  exact g
theorem set_used (x : Int) (h : H d = some (.dK (dkv c a l u))) : DPut H d (.str "used") (.int x) (upd H d (.dK (dkv c a l x))) := by
  have g := DPut.k (k := Sum.inr ("used" : Str)) (v := .int x) h dkv_few
  rw [put_used] at g
  exact g
end
/-- a drawing at d, after at most n draws -/
def Draw (H : Hp) (d : Addr) (n : Int) : Prop := ∃ (c : Addr) (xs : List Int) (a l u : Int), H d = some (.dK (dkv c a l u)) ∧ H c = some (.lst (xs.map V.int)) ∧ xs ≠ [] ∧ 0 ≤ a ∧ a ≤ n ∧ 0 ≤ u ∧ u ≤ n
theorem Draw.same {H H' : Hp} {d : Addr} {n : Int} (h : Draw H d n) (e : Same H H') : Draw H' d n := by
  obtain ⟨c, xs, a, l, u, h1, h2, r⟩ := h
  exact ⟨c, xs, a, l, u, e _ _ h1, e _ _ h2, r⟩
theorem Draw.more {H : Hp} {d : Addr} {n m : Int} (h : Draw H d n) (e : n ≤ m) : Draw H d m := by
  obtain ⟨c, xs, a, l, u, h1, h2, h3, r1, r2, r3, r4⟩ := h
  exact ⟨c, xs, a, l, u, h1, h2, h3, r1, by omega, r3, by omega⟩
theorem Draw.dic {H : Hp} {d : Addr} {n : Int} (h : Draw H d n) : ∃ kvs, H d = some (.dK kvs) := by
  obtain ⟨c, xs, a, l, u, h1, _⟩ := h
  exact ⟨_, h1⟩
theorem at_some {α : Type} {xs : List α} {i : Int} (h0 : 0 ≤ i) (h1 : i < xs.length) : ∃ v, atI xs i = some v ∧ v ∈ xs := by
  have h2 : i.toNat < xs.length := by omega
  refine ⟨xs[i.toNat], ?_, List.getElem_mem _⟩
  have e : i = ((i.toNat : Nat) : Int) := by omega
  have h3 := atI_nat (xs := xs) (j := i.toNat) (v := xs[i.toNat]) (by simp [h2])
  rw [← e] at h3
  exact h3
theorem keep_upd {d : Addr} {H : Hp} {o : HO} : Keep d H (upd H d o) := fun a u n h => by rw [upd_ne n]; exact h
theorem mod_few (x m : Int) (h : 0 < m) (h2 : m < 2 ^ 64) : -(2 ^ 64) < x % m ∧ x % m < 2 ^ 64 := by
  have a := Int.emod_nonneg x (show m ≠ 0 by omega)
  have b := Int.emod_lt_of_pos x h
  omega

section
variable {P : Program} {w : World} {K : PySem.W.Frag} {mg : Str → Option Value} {base : Heap}
def sp__law_begin (K : PySem.W.Frag) : Sp := fun vs H Q _ => ∃ (s : Addr) (ns : List Int), vs = [.ref s] ∧ SqL K H s (ns.map V.int) ∧ ns.length ≤ 63 ∧ ∀ H' d, Same H H' → H d = none → Draw H' d 0 → Q (.ref d) H'
theorem ok__law_begin (T : Txt K mg) : FnOk P w K mg base CX0 1 T.a__law_begin T.d__law_begin ["script"] (sp__law_begin K) := by
  refine T.F__law_begin.ok sc__law_begin (fun vs H Q E h => ?_) (fun cdv A outer s H vs Q E hr h => ?_)
  · obtain ⟨s, ns, rfl, _⟩ := h; rfl
  · obtain ⟨s, ns, rfl, hs, hl, q⟩ := h
    refine ⟨_, (pss_one (ps_ret (pe_disp (pps_cons pe_str (pe_op Vz.op_catR (pv 0) (pe_lst (pa_cons pe_int pa_nil))) (pps_cons pe_str pe_int (pps_cons pe_str pe_int (pps_cons pe_str pe_int pps_nil)))) (by rfl) (by rfl) (fun z => by cases z) (by decide)))), ?_⟩
    refine fun p np => ?_
    have s1 := same_new (o := .dK []) np
    refine ⟨_, rfl, (by show 1 ≤ sizeLine; decide), fun b nb => ?_⟩
    have s2 := same_new (o := .lst [V.int 0]) nb
    refine ⟨s, b, ns.map V.int, [.int 0], rfl, rfl, s2.seq (s1.seq hs), SqL.of upd_same, ?_, fun c nc => ?_⟩
    · rw [List.length_map]; exact Nat.le_trans (Nat.add_le_add_right hl 1) (by decide)
    · have hp : upd (upd (upd H p (.dK [])) b (.lst [V.int 0])) c (.lst (ns.map V.int ++ [V.int 0])) p = some (.dK []) := by
        rw [upd_ne (ne_of_none (o := .dK []) (s2 _ _ upd_same) nc), upd_ne (ne_of_none (o := .dK []) upd_same nb), upd_same]
      refine ⟨hp, [(Sum.inr ("cells" : Str), V.ref c), (Sum.inr ("at" : Str), .int 0), (Sum.inr ("left" : Str), .int 0), (Sum.inr ("used" : Str), .int 0)], rfl, (by show 4 ≤ 15; decide), ?_⟩
      rw [dkv_merge]
      have ncp : c ≠ p := by intro z; subst z; rw [s2 _ _ upd_same] at nc; cases nc
      refine q _ p (fun x o e => ?_) np ⟨c, ns ++ [0], 0, 0, 0, upd_same, ?_, by simp, by omega, by omega, by omega, by omega⟩
      · rw [upd_ne (ne_of_none e np)]
        exact same_new nc _ _ (s2 _ _ (s1 _ _ e))
      · rw [upd_ne ncp, upd_same]; simp
def sp__law_mixed : Sp := fun vs H Q _ => ∃ c k, vs = [.int c, .int k] ∧ 0 ≤ k ∧ k ≤ 1099511627776 ∧ ∀ m, Q (.int m) H
theorem ok__law_mixed (T : Txt K mg) : FnOk P w K mg base CX0 1 T.a__law_mixed T.d__law_mixed ["cell", "k"] sp__law_mixed := by
  refine T.F__law_mixed.ok sc__law_mixed (fun vs H Q E h => ?_) (fun cdv A outer s H vs Q E hr h => ?_)
  · obtain ⟨c, k, rfl, _⟩ := h; rfl
  · obtain ⟨c, k, rfl, k0, k1, q⟩ := h
    refine ⟨_, (pss_cons (ps_set (i := 2) sc__law_mixed.nd rfl (Or.inl rfl) (pe_op op_mod (pe_callTy call_int1 (by rfl) T.z_int (by decide +kernel) (pa_cons (pe_op op_add (pe_op op_add (pe_op op_add (pe_op op_mod (pe_callTy call_int1 (by rfl) T.z_int (by decide +kernel) (pa_cons (pv 0) pa_nil)) pe_int) (pe_op op_mul (pe_op op_mul pe_int (pv 1)) (pv 1))) (pe_op op_mul pe_int (pv 1))) pe_int) pa_nil)) pe_int))
        (pss_cons (ps_set (i := 2) sc__law_mixed.nd rfl (Or.inl rfl) (pe_op op_mod (pe_callTy call_int1 (by rfl) T.z_int (by decide +kernel) (pa_cons (pe_op op_mul (pe_op op_mod (pe_callTy call_int1 (by rfl) T.z_int (by decide +kernel) (pa_cons (pe_op op_mul (pv 2) (pv 2)) pa_nil)) pe_int) (pv 2)) pa_nil)) pe_int))
        (pss_one (ps_ret (pe_op op_fdiv (pe_op op_mod (pe_callTy call_int1 (by rfl) T.z_int (by decide +kernel) (pa_cons (pe_op op_mul (pv 2) (pe_op op_add pe_int (pe_op op_mul pe_int (pe_op op_mod (pe_callTy call_int1 (by rfl) T.z_int (by decide +kernel) (pa_cons (pv 1) pa_nil)) pe_int)))) pa_nil)) pe_int) pe_int))))), ?_⟩
    refine ⟨_, rfl, .inl ⟨_, rfl, ?_⟩⟩
    refine ⟨_, _, rfl, rfl, (by show (0 : Int) < 1000000007; decide), _, rfl, _, _, rfl, rfl, .inl ⟨by decide, by decide⟩, _, rfl, _, _, rfl, rfl, .inl ⟨by omega, by omega⟩, _, _, rfl, rfl, _, rfl, _, _, rfl, rfl, .inl ⟨by decide, by decide⟩, _, _, rfl, rfl, _, _, rfl, rfl, .inl ⟨_, rfl, ?_⟩⟩
    refine ⟨_, _, rfl, rfl, (by show (0 : Int) < 2147483647; decide), ?_⟩
    refine ⟨_, rfl, _, rfl, _, _, rfl, rfl, .inl (mod_few _ _ (by decide) (by decide)), .inl ⟨_, rfl, ?_⟩⟩
    refine ⟨_, _, rfl, rfl, (by show (0 : Int) < 2147483647; decide), _, rfl, _, _, rfl, rfl, .inl (mod_few _ _ (by decide) (by decide)), .inl ⟨_, rfl, ?_⟩⟩
    refine ⟨_, _, rfl, rfl, (by show (0 : Int) < 2147483629; decide), ?_⟩
    refine ⟨_, rfl, _, rfl, .inl ⟨_, rfl, ?_⟩⟩
    refine ⟨_, _, rfl, rfl, (by show (0 : Int) < 1000; decide), _, _, rfl, rfl, .inl ⟨by decide, by decide⟩, _, _, rfl, rfl, _, _, rfl, rfl, .inl (mod_few _ _ (by decide) (by decide)), .inl ⟨_, rfl, ?_⟩⟩
    refine ⟨_, _, rfl, rfl, (by show (0 : Int) < 2147483647; decide), _, _, rfl, rfl, ⟨by decide, by decide⟩, ?_⟩
    exact q _
def sp__law_next : Sp := fun vs H Q _ => ∃ (d : Addr) (m n : Int), vs = [.ref d, .int m] ∧ Draw H d n ∧ 0 < m ∧ m < 1073741824 ∧ n ≤ 1000000000 ∧ ∀ H' k, Keep d H H' → Draw H' d (n + 1) → 0 ≤ k → k < m → Q (.int k) H'
theorem ok__law_next (T : Txt K mg) : FnOk P w K mg base CX0 2 T.a__law_next T.d__law_next ["draw", "bound"] sp__law_next := by
  refine T.F__law_next.ok sc__law_next (fun vs H Q E h => ?_) (fun cdv A outer s H vs Q E hr h => ?_)
  · obtain ⟨d, m, n, rfl, _⟩ := h; rfl
  · obtain ⟨d, m, n, rfl, ⟨c, xs, a, l, u, h1, h2, h3, a0, a1, u0, u1⟩, m0, m1, n1, q⟩ := h
    have hu := hu_of hr
    have small : ∀ x : Int, 0 ≤ x % m ∧ x % m < m := fun x => ⟨Int.emod_nonneg x (by omega), Int.emod_lt_of_pos x m0⟩
    have ncd : c ≠ d := ne_of h2 h1 (by intro z; cases z)
    refine ⟨_, (pss_cons (ps_if (pt_cmpR op_gt (pe_dget hu (pv 0) pe_str (fun _ _ => rfl)) pe_int (nomark _)) (pss_cons (ps_set (i := 2) sc__law_next.nd rfl (Or.inl rfl) (pe_op op_mod (pe_callTy call_int1 (by rfl) T.z_int (by decide +kernel) (pa_cons (pe_dget hu (pv 0) pe_str (fun _ _ => rfl)) pa_nil)) (pv 1)))
        (pss_cons (ps_dput hu (pv 0) pe_str (pe_op op_fdiv (pe_dget hu (pv 0) pe_str (fun _ _ => rfl)) (pv 1)) rfl)
        (pss_one (ps_ret (pv 2))))) pss_nil)
        (pss_cons (ps_set (i := 3) sc__law_next.nd rfl (Or.inl rfl) (pe_dget hu (pv 0) pe_str (fun _ _ => rfl)))
        (pss_cons (ps_set (i := 4) sc__law_next.nd rfl (Or.inl rfl) (pe_ix ix_list (pv 3) (pe_op op_mod (pe_callTy call_int1 (by rfl) T.z_int (by decide +kernel) (pa_cons (pe_dget hu (pv 0) pe_str (fun _ _ => rfl)) pa_nil)) (pe_callB call_len_seq (by rfl) T.z_len PySem.boot_len (pa_cons (pv 3) pa_nil))) (fun _ _ => rfl)))
        (pss_cons (ps_dput hu (pv 0) pe_str (pe_op op_add (pe_dget hu (pv 0) pe_str (fun _ _ => rfl)) pe_int) rfl)
        (pss_cons (ps_if (PW.pt (pw_and (pt_cmpR op_ge (pv 4) (pe_op op_pow pe_int pe_int) (nomark _)) (pw_and1 (pt_cmpR op_le (pe_dget hu (pv 0) pe_str (fun _ _ => rfl)) (pe_callB call_len_seq (by rfl) T.z_len PySem.boot_len (pa_cons (pv 3) pa_nil)) (nomark _))))) (pss_cons (ps_dput hu (pv 0) pe_str (pe_op op_fdiv (pv 4) (pv 1)) rfl)
        (pss_one (ps_ret (pe_op op_mod (pe_callTy call_int1 (by rfl) T.z_int (by decide +kernel) (pa_cons (pv 4) pa_nil)) (pv 1))))) pss_nil)
        (pss_cons (ps_dput hu (pv 0) pe_str (pe_op op_add (pe_dget hu (pv 0) pe_str (fun _ _ => rfl)) pe_int) rfl)
        (pss_one (ps_ret (pe_op op_mod (pe_callTy call_int1 (by rfl) T.z_int (by decide +kernel) (pa_cons (pe_call (ok__law_mixed T) (hr.mono (by decide)) (by rfl) T.g__law_mixed T.F__law_mixed.kp T.b__law_mixed .nil pass0 (pa_cons (pe_call (ok__law_mixed T) (hr.mono (by decide)) (by rfl) T.g__law_mixed T.F__law_mixed.kp T.b__law_mixed .nil pass0 (pa_cons (pv 4) (pa_cons (pe_dget hu (pv 0) pe_str (fun _ _ => rfl)) pa_nil))) (pa_cons (pe_dget hu (pv 0) pe_str (fun _ _ => rfl)) pa_nil))) pa_nil)) (pv 1)))))))))), ?_⟩
    refine ⟨_, rfl, _, _, rfl, get_left h1, _, _, rfl, rfl, _, rfl, ?_⟩
    refine ite2 (fun cc => ?_) (fun cc => ?_)
    · refine ⟨_, rfl, _, _, rfl, get_left h1, .inl ⟨_, rfl, _, rfl, _, _, rfl, rfl, m0, ?_⟩⟩
      refine ⟨_, rfl, _, _, rfl, get_left h1, _, rfl, _, _, rfl, rfl, ⟨m0, m1⟩, _, rfl, _, _, rfl, set_left _ h1, ?_⟩
      exact ⟨_, rfl, q _ _ keep_upd ⟨c, xs, a, _, u, upd_same, by rw [upd_ne ncd]; exact h2, h3, a0, by omega, u0, by omega⟩ (small _).1 (small _).2⟩
    · have len0 : 0 < (xs.map V.int).length := by
        cases xs with
        | nil => exact absurd rfl h3
        | cons x r => simp
      have i0 : 0 ≤ a % ((xs.map V.int).length : Int) := Int.emod_nonneg _ (by omega)
      have i1 : a % ((xs.map V.int).length : Int) < ((xs.map V.int).length : Int) := Int.emod_lt_of_pos _ (by omega)
      obtain ⟨v, hv, hm⟩ := at_some i0 i1
      obtain ⟨x, _, rfl⟩ := List.mem_map.mp hm
      refine ⟨_, rfl, _, _, rfl, get_cells h1, ?_⟩
      refine ⟨_, rfl, _, rfl, _, _, rfl, get_at h1, .inl ⟨_, rfl, _, rfl, _, _, rfl, .inl (SqL.of h2), _, _, rfl, rfl, (by show (0 : Int) < ((xs.map V.int).length : Int); omega), _, _, _, _, rfl, rfl, SqL.of h2, hv, ?_⟩⟩
      refine ⟨_, rfl, _, _, rfl, get_at h1, _, _, rfl, rfl, _, rfl, _, _, rfl, set_at _ h1, ?_⟩
      have h1' : upd H d (.dK (dkv c (a + 1) l u)) d = some (.dK (dkv c (a + 1) l u)) := upd_same
      have h2' : upd H d (.dK (dkv c (a + 1) l u)) c = some (.lst (xs.map V.int)) := by rw [upd_ne ncd]; exact h2
      have last : ∀ H2, Keep d H H2 → H2 d = some (.dK (dkv c (a + 1) l u)) → H2 c = some (.lst (xs.map V.int)) → ∀ k, 0 ≤ k → k < m → Q (.int k) (upd H2 d (.dK (dkv c (a + 1) l (u + 1)))) := fun H2 e1 e2 e3 k k0 k1 =>
        q _ _ (e1.trans keep_upd) ⟨c, xs, a + 1, l, u + 1, upd_same, by rw [upd_ne ncd]; exact e3, h3, by omega, by omega, by omega, by omega⟩ k0 k1
      have ending : ∀ z : Prop, z → z := fun _ h => h
      refine ⟨_, rfl, _, _, rfl, rfl, ⟨by decide, by decide, by decide⟩, _, _, rfl, rfl, _, rfl, ?_⟩
      refine ite2 (fun c1 => ?_) (fun c1 => ?_)
      · refine ⟨_, rfl, _, _, rfl, get_at h1', _, rfl, _, _, rfl, .inl (SqL.of h2'), _, _, rfl, rfl, _, rfl, ?_⟩
        refine ite2 (fun c2 => ?_) (fun c2 => ?_)
        · refine ⟨_, rfl, _, rfl, _, _, rfl, rfl, ⟨m0, m1⟩, _, rfl, _, _, rfl, set_left _ h1', ?_⟩
          refine ⟨_, rfl, .inl ⟨_, rfl, _, rfl, _, _, rfl, rfl, m0, ?_⟩⟩
          exact q _ _ (keep_upd.trans keep_upd) ⟨c, xs, a + 1, _, u, upd_same, by rw [upd_ne ncd]; exact h2', h3, by omega, by omega, u0, by omega⟩ (small _).1 (small _).2
        · refine ⟨_, rfl, _, _, rfl, get_used h1', _, _, rfl, rfl, _, rfl, _, _, rfl, set_used _ h1', ?_⟩
          refine ⟨_, rfl, _, rfl, _, _, rfl, get_at upd_same, _, _, rfl, by omega, by omega, fun m1 => ?_⟩
          refine ⟨_, rfl, _, _, rfl, get_used upd_same, _, _, rfl, by omega, by omega, fun m2 => .inl ⟨_, rfl, _, rfl, _, _, rfl, rfl, m0, ?_⟩⟩
          exact last _ keep_upd h1' h2' _ (small _).1 (small _).2
      · refine iteF ?_
        refine ⟨_, rfl, _, _, rfl, get_used h1', _, _, rfl, rfl, _, rfl, _, _, rfl, set_used _ h1', ?_⟩
        refine ⟨_, rfl, _, rfl, _, _, rfl, get_at upd_same, _, _, rfl, by omega, by omega, fun m1 => ?_⟩
        refine ⟨_, rfl, _, _, rfl, get_used upd_same, _, _, rfl, by omega, by omega, fun m2 => .inl ⟨_, rfl, _, rfl, _, _, rfl, rfl, m0, ?_⟩⟩
        exact last _ keep_upd h1' h2' _ (small _).1 (small _).2
end
end Toy
set_option Elab.async false
set_option linter.all false
set_option maxRecDepth 100000
set_option maxHeartbeats 2000000
namespace Ma
/-- the year of a moment, leap seconds counted -/
def yearB (s : Int) : Int := if begins (yearOf (s / 86400)) ≤ s then yearOf (s / 86400) else yearOf (s / 86400) - 1
theorem begins_mono {x y : Int} (h : x < y) : begins x < begins y := by
  have a := days_mono h
  unfold begins
  omega
theorem yearB_spec {s : Int} (h0 : 0 ≤ s) (h1 : s ≤ 315537638648) : begins (yearB s) ≤ s ∧ s < begins (yearB s + 1) := by
  obtain ⟨a, b⟩ := year_spec (s / 86400)
  unfold yearB
  generalize yearOf (s / 86400) = y at *
  have y1 : 1 ≤ y := by
    have : days 1 < days (y + 1) := by rw [days_one]; omega
    rw [days_lt_iff] at this
    omega
  have y2 : y ≤ 10001 := by
    have e : days 10002 = 3652787 := by decide
    have : days y < days 10002 := by omega
    rw [days_lt_iff] at this
    omega
  split
  · rename_i c
    refine ⟨c, ?_⟩
    unfold begins
    omega
  · rename_i c
    have st := days_step (y - 1)
    have e : y - 1 + 1 = y := by omega
    rw [e] at st ⊢
    refine ⟨?_, by omega⟩
    unfold begins
    omega
theorem yearB_uniq {s y : Int} (h0 : 0 ≤ s) (h1 : s ≤ 315537638648) (a : begins y ≤ s) (b : s < begins (y + 1)) : y = yearB s := by
  obtain ⟨c, d⟩ := yearB_spec h0 h1
  by_cases q1 : y < yearB s
  · have : begins (y + 1) ≤ begins (yearB s) := by
      by_cases e : y + 1 = yearB s
      · rw [e]; exact Int.le_refl _
      · have := begins_mono (x := y + 1) (y := yearB s) (by omega); omega
    omega
  · by_cases q2 : yearB s < y
    · have : begins (yearB s + 1) ≤ begins y := by
        by_cases e : yearB s + 1 = y
        · rw [e]; exact Int.le_refl _
        · have := begins_mono (x := yearB s + 1) (y := y) (by omega); omega
      omega
    · omega
theorem begins_366 {n : Int} (h : 0 ≤ n) (h1 : n ≤ 20000) : begins (n + 1) ≤ 31622400 * n := by
  by_cases c : n = 0
  · subst c; decide
  · have := days_366 h
    unfold begins days
    omega
/-- the local date of a second that is no leap second, or of one -/
def monthOf (n : Int) : Int := if 336 ≤ n then 13 else n / 28 + 1
def locL (p : Int) (sec : Option Int) (b : Int) : Option (List Int) :=
  if p + 60 * b < 0 ∨ 9999 < yearOf ((p + 60 * b) / 86400) then none
  else some [yearOf ((p + 60 * b) / 86400), monthOf ((p + 60 * b) / 86400 - days (yearOf ((p + 60 * b) / 86400))),
    (p + 60 * b) / 86400 - days (yearOf ((p + 60 * b) / 86400)) - 28 * (monthOf ((p + 60 * b) / 86400 - days (yearOf ((p + 60 * b) / 86400))) - 1) + 1,
    (p + 60 * b) % 86400 / 3600, (p + 60 * b) % 86400 / 60 - (p + 60 * b) % 86400 / 3600 * 60,
    (match sec with | none => (p + 60 * b) % 86400 - (p + 60 * b) % 86400 / 60 * 60 | some s => s), b]
theorem locL_seven {p : Int} {sec : Option Int} {b : Int} {l : List Int} (h : locL p sec b = some l) : l.length = 7 := by
  unfold locL at h
  split at h
  · cases h
  · rw [← Option.some.inj h]; rfl
/-- the date of a moment in a zone -/
def dateL (s b : Int) : Option (List Int) :=
  if s - (yearB s - 1) / 40 = days (yearB s + 1) * 86400 then locL (s - (yearB s - 1) / 40 - 1) (some 60) b else locL (s - (yearB s - 1) / 40) none b
theorem dateL_seven {s b : Int} {l : List Int} (h : dateL s b = some l) : l.length = 7 := by
  unfold dateL at h
  split at h <;> exact locL_seven h
end Ma
namespace Toy
open PySem PySem.Spec PyProof.Rows L2
def secV : Option Int → V
  | none => .non
  | some s => .int s
section
variable {P : Program} {w : World} {K : PySem.W.Frag} {mg : Str → Option Value} {base : Heap}
def sp__law_days : Sp := fun vs H Q _ => ∃ y, vs = [.int y] ∧ Q (.int (Ma.days y)) H
theorem ok__law_days (T : Txt K mg) : FnOk P w K mg base CX0 1 T.a__law_days T.d__law_days ["year"] sp__law_days := by
  refine T.F__law_days.ok sc__law_days (fun vs H Q E h => ?_) (fun cdv A outer s H vs Q E hr h => ?_)
  · obtain ⟨y, rfl, _⟩ := h; rfl
  · obtain ⟨y, rfl, q⟩ := h
    refine ⟨_, (pss_one (ps_ret (pe_op op_sub (pe_op op_add (pe_op op_mul pe_int (pe_op op_sub (pv 0) pe_int)) (pe_op op_fdiv (pe_op op_sub (pv 0) pe_int) pe_int)) (pe_op op_fdiv (pe_op op_sub (pv 0) pe_int) pe_int)))), ?_⟩
    exact ⟨_, rfl, _, _, rfl, rfl, _, _, rfl, rfl, .inl ⟨by decide, by decide⟩, _, rfl, _, _, rfl, rfl, _, _, rfl, rfl, ⟨by decide, by decide⟩, _, _, rfl, rfl, _, rfl, _, _, rfl, rfl, _, _, rfl, rfl, ⟨by decide, by decide⟩, _, _, rfl, rfl, q⟩
def sp__law_begin_of : Sp := fun vs H Q _ => ∃ y, vs = [.int y] ∧ Q (.int (Ma.begins y)) H
theorem ok__law_begin_of (T : Txt K mg) : FnOk P w K mg base CX0 2 T.a__law_begin_of T.d__law_begin_of ["year"] sp__law_begin_of := by
  refine T.F__law_begin_of.ok sc__law_begin_of (fun vs H Q E h => ?_) (fun cdv A outer s H vs Q E hr h => ?_)
  · obtain ⟨y, rfl, _⟩ := h; rfl
  · obtain ⟨y, rfl, q⟩ := h
    refine ⟨_, (pss_one (ps_ret (pe_op op_add (pe_op op_mul (pe_call (ok__law_days T) (hr.mono (by decide)) (by rfl) T.g__law_days T.F__law_days.kp T.b__law_days .nil pass0 (pa_cons (pv 0) pa_nil)) pe_int) (pe_op op_fdiv (pe_op op_sub (pv 0) pe_int) pe_int)))), ?_⟩
    exact ⟨_, rfl, _, rfl, _, _, rfl, rfl, .inr ⟨by decide, by decide⟩, _, rfl, _, _, rfl, rfl, _, _, rfl, rfl, ⟨by decide, by decide⟩, _, _, rfl, rfl, q⟩
def sp__law_local : Sp := fun vs H Q _ => ∃ p sec b, vs = [.int p, secV sec, .int b] ∧ (Ma.locL p sec b = none → ∀ H', Same H H' → Q .non H') ∧
  ∀ l, Ma.locL p sec b = some l → ∀ H' r, Same H H' → H r = none → H' r = some (.tup (l.map V.int)) → Q (.ref r) H'
theorem ok__law_local (T : Txt K mg) : FnOk P w K mg base CX0 2 T.a__law_local T.d__law_local ["plain", "second", "belt"] sp__law_local := by
  refine T.F__law_local.ok sc__law_local (fun vs H Q E h => ?_) (fun cdv A outer s H vs Q E hr h => ?_)
  · obtain ⟨p, sec, b, rfl, _⟩ := h; rfl
  · obtain ⟨p, sec, b, rfl, q0, q1⟩ := h
    refine ⟨_, (pss_cons (ps_set (i := 3) sc__law_local.nd rfl (Or.inl rfl) (pe_op op_add (pv 0) (pe_op op_mul pe_int (pv 2))))
        (pss_cons (ps_par (i := 4) (j := 5) (by rfl) sc__law_local.nd rfl rfl (by decide) rfl rfl (pa_cons (pe_op op_fdiv (pv 3) pe_int) (pa_cons (pe_op op_mod (pe_callTy call_int1 (by rfl) T.z_int (by decide +kernel) (pa_cons (pv 3) pa_nil)) pe_int) pa_nil)) (by rfl))
        (pss_cons (ps_set (i := 6) sc__law_local.nd rfl (Or.inl rfl) (pe_op op_add (pe_op op_fdiv (pv 4) pe_int) pe_int))
        (pss_cons (ps_while PassesOwn.never (pt_cmpR op_ge (pv 4) (pe_call (ok__law_days T) (hr.mono (by decide)) (by rfl) T.g__law_days T.F__law_days.kp T.b__law_days .nil pass0 (pa_cons (pe_op op_add (pv 6) pe_int) pa_nil)) (nomark _)) (pss_one (ps_set (i := 6) sc__law_local.nd rfl (Or.inl rfl) (pe_op op_add (pv 6) pe_int))))
        (pss_cons (ps_if (PW.pt (pw_or (pt_cmpR op_lt (pv 3) pe_int (nomark _)) (pw_or1 (pt_cmpR op_gt (pv 6) pe_int (nomark _))))) (pss_one (ps_ret pe_non)) pss_nil)
        (pss_cons (ps_set (i := 7) sc__law_local.nd rfl (Or.inl rfl) (pe_op op_sub (pv 4) (pe_call (ok__law_days T) (hr.mono (by decide)) (by rfl) T.g__law_days T.F__law_days.kp T.b__law_days .nil pass0 (pa_cons (pv 6) pa_nil))))
        (pss_cons (ps_set (i := 8) sc__law_local.nd rfl (Or.inl rfl) (pe_ifExp (pt_cmpR op_ge (pv 7) pe_int (nomark _)) pe_int (pe_op op_add (pe_op op_fdiv (pv 7) pe_int) pe_int)))
        (pss_cons (ps_set (i := 9) sc__law_local.nd rfl (Or.inl rfl) (pe_tup (pa_cons (pv 6) (pa_cons (pv 8) (pa_cons (pe_op op_add (pe_op op_sub (pv 7) (pe_op op_mul pe_int (pe_op op_sub (pv 8) pe_int))) pe_int) (pa_cons (pe_op op_fdiv (pv 5) pe_int) (pa_cons (pe_op op_sub (pe_op op_fdiv (pv 5) pe_int) (pe_op op_mul (pe_op op_fdiv (pv 5) pe_int) pe_int)) pa_nil)))))))
        (pss_one (ps_ret (pe_op op_catA (pv 9) (pe_tup (pa_cons (pe_ifExp (pt_cmpR op_isN (pv 1) pe_non (nomark _)) (pe_op op_sub (pv 5) (pe_op op_mul (pe_op op_fdiv (pv 5) pe_int) pe_int)) (pv 1)) (pa_cons (pv 2) pa_nil)))))))))))))), ?_⟩
    refine ⟨_, rfl, _, rfl, _, _, rfl, rfl, .inl ⟨by decide, by decide⟩, _, _, rfl, rfl, ?_⟩
    refine ⟨_, rfl, _, _, rfl, rfl, ⟨by decide, by decide⟩, _, rfl, .inl ⟨_, rfl, _, _, rfl, rfl, (by show (0 : Int) < 86400; decide), _, _, rfl, ?_⟩⟩
    unfold Ma.locL at q0 q1
    obtain ⟨l, hl⟩ : ∃ l, l = p + 60 * b := ⟨_, rfl⟩
    rw [← hl] at q0 q1
    refine ⟨_, rfl, _, _, rfl, rfl, ⟨by decide, by decide⟩, _, _, rfl, rfl, ?_⟩
    refine ⟨fun m σ H1 => ∃ y : Int, σ = [some (.int p), some (secV sec), some (.int b), some (.int l), some (.int (l / 86400)), some (.int (l % 86400)), some (.int y), none, none, none] ∧ H1 = H ∧ (0 ≤ l → Ma.days y ≤ l / 86400) ∧
      m = (l / 86400 + 1 - Ma.days (y + 1)).toNat, ⟨_, l / 86400 / 366 + 1, (by subst hl; rfl), rfl, fun l0 => ?_, rfl⟩, ?_⟩
    · have := Ma.days_366 (n := l / 86400 / 366) (by omega)
      omega
    rintro m σ H1 ⟨y, rfl, rfl, hy, rfl⟩
    refine ⟨_, rfl, _, rfl, _, _, rfl, rfl, _, rfl, _, _, rfl, rfl, _, rfl, ?_⟩
    refine ite2 (fun c => ?_) (fun c => ?_)
    · have c1 : Ma.days (y + 1) ≤ l / 86400 := of_decide_eq_true c
      refine ⟨fun σ' H' => σ' = [some (.int p), some (secV sec), some (.int b), some (.int l), some (.int (l / 86400)), some (.int (l % 86400)), some (.int (y + 1)), none, none, none] ∧ H' = H1, ?_, ?_⟩
      · rintro σ' H' ⟨rfl, rfl⟩
        have := Ma.days_step (y + 1)
        exact ⟨_, by omega, y + 1, rfl, rfl, fun _ => c1, rfl⟩
      · exact ⟨_, rfl, _, _, rfl, rfl, rfl, rfl⟩
    · have c1 : l / 86400 < Ma.days (y + 1) := by simpa using c
      refine ⟨_, rfl, _, _, rfl, rfl, _, rfl, ?_⟩
      refine ite2 (fun c2 => ?_) (fun c2 => ?_)
      · have c3 : l < 0 := of_decide_eq_true c2
        exact iteT (q0 (if_pos (.inl c3)) H1 (Same.refl H1))
      · have c3 : ¬ l < 0 := fun z => c2 (decide_eq_true z)
        have ey : y = Ma.yearOf (l / 86400) := Ma.year_uniq (hy (by omega)) c1
        refine ⟨_, rfl, _, _, rfl, rfl, _, rfl, ?_⟩
        refine ite2 (fun c4 => ?_) (fun c4 => ?_)
        · have c5 : 9999 < y := of_decide_eq_true c4
          exact q0 (if_pos (.inr (by omega))) H1 (Same.refl H1)
        · have c5 : ¬ 9999 < y := fun z => c4 (decide_eq_true z)
          have nn : ¬ (l < 0 ∨ 9999 < Ma.yearOf (l / 86400)) := by rw [← ey]; omega
          have q2 := q1 _ (if_neg nn)
          rw [← ey] at q2
          refine ⟨_, rfl, _, rfl, _, rfl, _, _, rfl, rfl, ?_⟩
          refine ⟨_, rfl, _, _, rfl, rfl, _, rfl, ?_⟩
          refine ite2 (fun c6 => ?_) (fun c6 => ?_)
          · have c7 : 336 ≤ l / 86400 - Ma.days y := of_decide_eq_true c6
            have em : Ma.monthOf (l / 86400 - Ma.days y) = 13 := if_pos c7
            rw [em] at q2
            refine ⟨_, rfl, _, rfl, _, rfl, _, rfl, _, _, rfl, rfl, _, _, rfl, rfl, .inl ⟨by decide, by decide⟩, _, _, rfl, rfl, _, _, rfl, rfl, _, rfl, _, _, rfl, rfl, ⟨by decide, by decide⟩, _, rfl, _, _, rfl, rfl, ⟨by decide, by decide⟩, _, rfl, _, _, rfl, rfl, ⟨by decide, by decide⟩,
              _, _, rfl, rfl, .inr ⟨by decide, by decide⟩, _, _, rfl, rfl, (by show 5 ≤ sizeLine; decide), fun p1 n1 => ?_⟩
            have s1 := same_new (o := .tup [V.int y, V.int 13, V.int (l / 86400 - Ma.days y - 28 * (13 - 1) + 1), V.int (l % 86400 / 3600), V.int (l % 86400 / 60 - l % 86400 / 3600 * 60)]) n1
            refine ⟨_, rfl, _, rfl, rfl, _, rfl, ?_⟩
            cases sec with
            | none =>
              refine iteT ?_
              refine ⟨_, rfl, _, rfl, _, _, rfl, rfl, ⟨by decide, by decide⟩, _, _, rfl, rfl, .inr ⟨by decide, by decide⟩, _, _, rfl, rfl, _, rfl, (by show 2 ≤ sizeLine; decide), fun p2 n2 => ?_⟩
              refine ⟨p1, p2, _, _, rfl, rfl, SqT.of (same_new n2 _ _ upd_same), SqT.of upd_same, (by show 7 ≤ sizeLine; decide), fun z => (nomatch z), fun _ z => (nomatch z), fun _ _ p3 n3 => ?_⟩
              exact q2 _ p3 ((s1.trans (same_new n2)).trans (same_new n3)) (s1.free ((same_new n2).free n3)) upd_same
            | some sc =>
              refine iteF ?_
              refine ⟨_, rfl, _, rfl, (by show 2 ≤ sizeLine; decide), fun p2 n2 => ?_⟩
              refine ⟨p1, p2, _, _, rfl, rfl, SqT.of (same_new n2 _ _ upd_same), SqT.of upd_same, (by show 7 ≤ sizeLine; decide), fun z => (nomatch z), fun _ z => (nomatch z), fun _ _ p3 n3 => ?_⟩
              exact q2 _ p3 ((s1.trans (same_new n2)).trans (same_new n3)) (s1.free ((same_new n2).free n3)) upd_same
          · have c7 : ¬ 336 ≤ l / 86400 - Ma.days y := fun z => c6 (decide_eq_true z)
            have em : Ma.monthOf (l / 86400 - Ma.days y) = (l / 86400 - Ma.days y) / 28 + 1 := if_neg c7
            rw [em] at q2
            refine ⟨_, rfl, _, _, rfl, rfl, ⟨by decide, by decide⟩, _, _, rfl, rfl, ?_⟩
            refine ⟨_, rfl, _, rfl, _, rfl, _, rfl, _, _, rfl, rfl, _, _, rfl, rfl, .inl ⟨by decide, by decide⟩, _, _, rfl, rfl, _, _, rfl, rfl, _, rfl, _, _, rfl, rfl, ⟨by decide, by decide⟩, _, rfl, _, _, rfl, rfl, ⟨by decide, by decide⟩, _, rfl, _, _, rfl, rfl, ⟨by decide, by decide⟩,
              _, _, rfl, rfl, .inr ⟨by decide, by decide⟩, _, _, rfl, rfl, (by show 5 ≤ sizeLine; decide), fun p1 n1 => ?_⟩
            have s1 := same_new (o := .tup [V.int y, V.int ((l / 86400 - Ma.days y) / 28 + 1), V.int (l / 86400 - Ma.days y - 28 * ((l / 86400 - Ma.days y) / 28 + 1 - 1) + 1), V.int (l % 86400 / 3600), V.int (l % 86400 / 60 - l % 86400 / 3600 * 60)]) n1
            refine ⟨_, rfl, _, rfl, rfl, _, rfl, ?_⟩
            cases sec with
            | none =>
              refine iteT ?_
              refine ⟨_, rfl, _, rfl, _, _, rfl, rfl, ⟨by decide, by decide⟩, _, _, rfl, rfl, .inr ⟨by decide, by decide⟩, _, _, rfl, rfl, _, rfl, (by show 2 ≤ sizeLine; decide), fun p2 n2 => ?_⟩
              refine ⟨p1, p2, _, _, rfl, rfl, SqT.of (same_new n2 _ _ upd_same), SqT.of upd_same, (by show 7 ≤ sizeLine; decide), fun z => (nomatch z), fun _ z => (nomatch z), fun _ _ p3 n3 => ?_⟩
              exact q2 _ p3 ((s1.trans (same_new n2)).trans (same_new n3)) (s1.free ((same_new n2).free n3)) upd_same
            | some sc =>
              refine iteF ?_
              refine ⟨_, rfl, _, rfl, (by show 2 ≤ sizeLine; decide), fun p2 n2 => ?_⟩
              refine ⟨p1, p2, _, _, rfl, rfl, SqT.of (same_new n2 _ _ upd_same), SqT.of upd_same, (by show 7 ≤ sizeLine; decide), fun z => (nomatch z), fun _ z => (nomatch z), fun _ _ p3 n3 => ?_⟩
              exact q2 _ p3 ((s1.trans (same_new n2)).trans (same_new n3)) (s1.free ((same_new n2).free n3)) upd_same
def sp__law_date : Sp := fun vs H Q _ => ∃ s b, vs = [.int s, .int b] ∧ 0 ≤ s ∧ s ≤ 315537638648 ∧ (Ma.dateL s b = none → ∀ H', Same H H' → Q .non H') ∧
  ∀ l, Ma.dateL s b = some l → ∀ H' r, Same H H' → H r = none → H' r = some (.tup (l.map V.int)) → Q (.ref r) H'
theorem ok__law_date (T : Txt K mg) : FnOk P w K mg base CX0 3 T.a__law_date T.d__law_date ["spot", "belt"] sp__law_date := by
  refine T.F__law_date.ok sc__law_date (fun vs H Q E h => ?_) (fun cdv A outer s H vs Q E hr h => ?_)
  · obtain ⟨p, b, rfl, _⟩ := h; rfl
  · obtain ⟨p, b, rfl, p0, p1, q0, q1⟩ := h
    refine ⟨_, (pss_cons (ps_set (i := 2) sc__law_date.nd rfl (Or.inl rfl) (pe_op op_add (pe_op op_fdiv (pv 0) (pe_op op_mul pe_int pe_int)) pe_int))
        (pss_cons (ps_while PassesOwn.never (pt_cmpR op_ge (pv 0) (pe_call (ok__law_begin_of T) (hr.mono (by decide)) (by rfl) T.g__law_begin_of T.F__law_begin_of.kp T.b__law_begin_of .nil pass0 (pa_cons (pe_op op_add (pv 2) pe_int) pa_nil)) (nomark _)) (pss_one (ps_set (i := 2) sc__law_date.nd rfl (Or.inl rfl) (pe_op op_add (pv 2) pe_int))))
        (pss_cons (ps_set (i := 3) sc__law_date.nd rfl (Or.inl rfl) (pe_op op_sub (pv 0) (pe_op op_fdiv (pe_op op_sub (pv 2) pe_int) pe_int)))
        (pss_cons (ps_if (pt_cmpR op_eq (pv 3) (pe_op op_mul (pe_call (ok__law_days T) (hr.mono (by decide)) (by rfl) T.g__law_days T.F__law_days.kp T.b__law_days .nil pass0 (pa_cons (pe_op op_add (pv 2) pe_int) pa_nil)) pe_int) (nomark _)) (pss_one (ps_ret (pe_call (ok__law_local T) (hr.mono (by decide)) (by rfl) T.g__law_local T.F__law_local.kp T.b__law_local .nil pass0 (pa_cons (pe_op op_sub (pv 3) pe_int) (pa_cons pe_int (pa_cons (pv 1) pa_nil)))))) pss_nil)
        (pss_one (ps_ret (pe_call (ok__law_local T) (hr.mono (by decide)) (by rfl) T.g__law_local T.F__law_local.kp T.b__law_local .nil pass0 (pa_cons (pv 3) (pa_cons pe_non (pa_cons (pv 1) pa_nil)))))))))), ?_⟩
    refine ⟨_, rfl, _, _, rfl, rfl, .inl ⟨by decide, by decide⟩, _, _, rfl, rfl, ⟨by decide, by decide⟩, _, _, rfl, rfl, ?_⟩
    refine ⟨fun m σ H1 => ∃ y : Int, σ = [some (.int p), some (.int b), some (.int y), none] ∧ H1 = H ∧ Ma.begins y ≤ p ∧ m = (p + 1 - Ma.begins (y + 1)).toNat, ⟨_, _, rfl, rfl, ?_, rfl⟩, ?_⟩
    · have := Ma.begins_366 (n := p / 31622400) (by omega) (by omega)
      have e : p / (366 * 86400) = p / 31622400 := rfl
      rw [e]
      omega
    rintro m σ H1 ⟨y, rfl, rfl, hy, rfl⟩
    refine ⟨_, rfl, _, rfl, _, _, rfl, rfl, _, rfl, _, _, rfl, rfl, _, rfl, ?_⟩
    refine ite2 (fun c => ?_) (fun c => ?_)
    · have c1 : Ma.begins (y + 1) ≤ p := of_decide_eq_true c
      refine ⟨fun σ' H' => σ' = [some (.int p), some (.int b), some (.int (y + 1)), none] ∧ H' = H1, ?_, ?_⟩
      · rintro σ' H' ⟨rfl, rfl⟩
        have := Ma.begins_step (y + 1)
        exact ⟨_, by omega, y + 1, rfl, rfl, c1, rfl⟩
      · exact ⟨_, rfl, _, _, rfl, rfl, rfl, rfl⟩
    · have c1 : p < Ma.begins (y + 1) := by simpa using c
      have ey := Ma.yearB_uniq p0 p1 hy c1
      unfold Ma.dateL at q0 q1
      rw [← ey] at q0 q1
      refine ⟨_, rfl, _, rfl, _, _, rfl, rfl, _, _, rfl, rfl, ⟨by decide, by decide⟩, _, _, rfl, rfl, ?_⟩
      refine ⟨_, rfl, _, rfl, _, _, rfl, rfl, _, rfl, _, _, rfl, rfl, .inr ⟨by decide, by decide⟩, rfl, _, rfl, ?_⟩
      refine ite2 (fun c2 => ?_) (fun c2 => ?_)
      · rw [dI] at c2
        have c3 := of_decide_eq_true c2
        rw [if_pos c3] at q0 q1
        exact ⟨_, rfl, _, _, rfl, rfl, _, rfl, _, some 60, _, rfl, q0, q1⟩
      · rw [dI] at c2
        have c3 : ¬ p - (y - 1) / 40 = Ma.days (y + 1) * 86400 := fun z => c2 (decide_eq_true z)
        rw [if_neg c3] at q0 q1
        exact ⟨_, rfl, _, rfl, _, none, _, rfl, q0, q1⟩
def sp__law_is_whole : Sp := fun vs H Q _ => ∃ d v s lo hi, vs = [v, .int lo, .int hi] ∧ Thg d H v s ∧ Q (.bl (inR v lo hi)) H
theorem ok__law_is_whole (T : Txt K mg) : FnOk P w K mg base CX0 1 T.a__law_is_whole T.d__law_is_whole ["thing", "least", "most"] sp__law_is_whole := by
  refine T.F__law_is_whole.ok sc__law_is_whole (fun vs H Q E h => ?_) (fun cdv A outer s H vs Q E hr h => ?_)
  · obtain ⟨d, v, s, lo, hi, rfl, _⟩ := h; rfl
  · obtain ⟨d, v, s, lo, hi, rfl, ht, q⟩ := h
    refine ⟨_, (pss_one (ps_ret (pe_and (pe_callB call_isi (by rfl) T.z_isinstance (by decide +kernel) (pa_cons (pv 0) (pa_cons (pe_bltn (v := .ty "int") (by rfl) T.z_int (by decide +kernel) rfl) pa_nil))) (pe_and (pe_not (pe_callB call_isi (by rfl) T.z_isinstance (by decide +kernel) (pa_cons (pv 0) (pa_cons (pe_bltn (v := .ty "bool") (by rfl) T.z_bool (by decide +kernel) rfl) pa_nil)))) (pe_one (pe_chain op_le op_le (pv 1) (pv 0) (pv 2))))))), ?_⟩
    refine ⟨_, rfl, v, _, _, _, _, rfl, .ty "int", ht.ty, ht.k_int, _, rfl, ?_⟩
    cases v with
    | int i =>
      refine iteT ?_
      refine ⟨_, rfl, _, _, _, _, _, rfl, .ty "bool", ht.ty, ht.k_bool, _, rfl, _, rfl, ?_⟩
      refine iteT ?_
      refine ⟨_, rfl, _, rfl, lo, i, rfl, rfl, _, rfl, ?_⟩
      have q' : Q (.bl (decide (lo ≤ i) && decide (i ≤ hi))) H := q
      refine ite2 (fun c => ?_) (fun c => ?_)
      · refine ⟨_, rfl, i, hi, rfl, rfl, ?_⟩
        rw [c] at q'
        exact q'
      · have c' : decide (lo ≤ i) = false := by simpa using c
        rw [c', Bool.false_and] at q'
        exact q'
    | bl b =>
      refine iteT ?_
      exact ⟨_, rfl, _, _, _, _, _, rfl, .ty "bool", ht.ty, ht.k_bool, _, rfl, _, rfl, iteF q⟩
    | _ => exact iteF q
end
end Toy
set_option Elab.async false
set_option linter.all false
set_option maxRecDepth 100000
set_option maxHeartbeats 4000000
namespace Ma
/-- the moment of a date -/
def moment (y mo d h mi s z : Int) : Int := before y mo d h mi s z + (yearOf (before y mo d h mi s z / 86400) - 1) / 40 + (if s = 60 then 1 else 0)
theorem leap_val {y mo d h mi z a : Int} (h1 : a % 40 = 0) (h2 : days (a + 1) * 86400 = plain y mo d h mi 60 z) : begins (a + 1) - 1 = moment y mo d h mi 60 z := by
  have eb : before y mo d h mi 60 z = plain y mo d h mi 60 z - 1 := by unfold before plain; simp; omega
  unfold moment
  rw [eb, ← h2]
  have e : (days (a + 1) * 86400 - 1) / 86400 = days (a + 1) - 1 := by omega
  rw [e]
  have ey : a = yearOf (days (a + 1) - 1) := year_uniq (by have := days_mono (x := a) (y := a + 1) (by omega); omega) (by omega)
  rw [← ey]
  unfold begins
  rw [if_pos rfl]
  have e2 : a + 1 - 1 = a := by omega
  rw [e2]
  omega
theorem plain_val {y mo d h mi s z a : Int} (hs : ¬ s = 60) (h60 : s ≤ 60) (h1 : days a ≤ plain y mo d h mi s z / 86400) (h2 : plain y mo d h mi s z < days (a + 1) * 86400) :
    plain y mo d h mi s z + (a - 1) / 40 = moment y mo d h mi s z := by
  have eb : before y mo d h mi s z = plain y mo d h mi s z := by unfold before; rw [if_neg (by omega)]
  unfold moment
  rw [eb]
  have ey : a = yearOf (plain y mo d h mi s z / 86400) := year_uniq h1 (by omega)
  rw [← ey, if_neg hs]
  omega
end Ma
namespace Toy
open PySem PySem.Spec PyProof.Rows L2
/-- the law's answer: no moment, or the one -/
def momL : List V → List V
  | [.int y, .int mo, .int d, .int h, .int mi, .int s, .int z] => if Ma.isDate y mo d h mi s z = true then [.int (Ma.moment y mo d h mi s z)] else []
  | _ => []
def momV (H : Hp) (v : V) : List V := match v with
  | .ref a => match H a with
    | some (.tup xs) => momL xs
    | _ => []
  | _ => []
theorem momL_not {xs : List V} (h : isDateL xs = false) : momL xs = [] := by
  unfold momL
  split
  · rename_i y mo d h' mi s z
    have : Ma.isDate y mo d h' mi s z = false := h
    rw [this]; rfl
  · rfl
theorem momL_some {xs : List V} (h : isDateL xs = true) : ∃ m, momL xs = [.int m] := by
  unfold isDateL at h
  split at h
  · exact ⟨_, if_pos h⟩
  · cases h
theorem tif_to {t : TT} {ta tb : TE} {σ : L2.St} {H : Hp} {Q : VK} (v : V) (c : Bool) (ht : ∀ R : Bool → Hp → Prop, R c H → t σ H R) (ha : c = true → ∀ R : VK, R v H → ta σ H R) (hb : c = false → ∀ R : VK, R v H → tb σ H R) (q : Q v H) : tIf t ta tb σ H Q := by
  refine ht _ ?_
  cases c with
  | true => exact ha rfl _ q
  | false => exact hb rfl _ q
theorem asg_to {t : TT} {ta tb : TE} {i : Nat} {rest : TS} {D : Ends} {σ : L2.St} {H : Hp} (v : V) (c : Bool) (ht : ∀ R : Bool → Hp → Prop, R c H → t σ H R) (ha : c = true → ∀ R : VK, R v H → ta σ H R) (hb : c = false → ∀ R : VK, R v H → tb σ H R) (q : rest D (σ.set i (some v)) H) :
    tSeq (tAsg (tIf t ta tb) (gName i)) rest D σ H := tif_to v c ht ha hb q
def bds : List (Int × Int) := [(1, 9999), (1, 13), (1, 30), (0, 23), (0, 59), (0, 60), (-840, 840)]
def okUp (xs : List V) (i : Nat) : Prop := ∀ j x lo hi, j < i → xs[j]? = some x → bds[j]? = some (lo, hi) → inR x lo hi = true
section
variable {P : Program} {w : World} {K : PySem.W.Frag} {mg : Str → Option Value} {base : Heap}
def sp__law_moment : Sp := fun vs H Q _ => ∃ (dd : Addr) (v : V) (k : String), vs = [v] ∧ Thg dd H v k ∧ (∀ a xs, v = .ref a → H a = some (.tup xs) → ∀ x ∈ xs, ∃ k, Thg dd H x k) ∧
  ∀ H' r, Same H H' → H r = none → H' r = some (.lst (momV H v)) → Q (.ref r) H'
theorem ok__law_moment (T : Txt K mg) : FnOk P w K mg base CX0 3 T.a__law_moment T.d__law_moment ["stamp"] sp__law_moment := by
  refine T.F__law_moment.ok sc__law_moment (fun vs H Q E h => ?_) (fun cdv A outer s H vs Q E hr h => ?_)
  · obtain ⟨dd, v, k, rfl, _⟩ := h; rfl
  · obtain ⟨dd, v, k, rfl, ht, hi, q⟩ := h
    refine ⟨_, (pss_cons (ps_if (PW.pt (pw_or (pt_not (pt_val (pe_callB call_isi (by rfl) T.z_isinstance (by decide +kernel) (pa_cons (pv 0) (pa_cons (pe_bltn (v := .ty "tuple") (by rfl) T.z_tuple (by decide +kernel) rfl) pa_nil))))) (pw_or1 (pt_cmpR op_ne (pe_callB call_len_seq (by rfl) T.z_len PySem.boot_len (pa_cons (pv 0) pa_nil)) pe_int (nomark _))))) (pss_one (ps_ret (pe_lst pa_nil))) pss_nil)
        (pss_cons (ps_set (i := 1) sc__law_moment.nd rfl (Or.inl rfl) (pe_lst (pa_cons (pe_tup (pa_cons pe_int (pa_cons pe_int pa_nil))) (pa_cons (pe_tup (pa_cons pe_int (pa_cons pe_int pa_nil))) (pa_cons (pe_tup (pa_cons pe_int (pa_cons pe_int pa_nil))) (pa_cons (pe_tup (pa_cons pe_int (pa_cons pe_int pa_nil))) (pa_cons (pe_tup (pa_cons pe_int (pa_cons pe_int pa_nil))) (pa_cons (pe_tup (pa_cons pe_int (pa_cons pe_int pa_nil))) (pa_cons (pe_tup (pa_cons (pe_op op_sub pe_int pe_int) (pa_cons pe_int pa_nil))) pa_nil)))))))))
        (pss_cons (ps_for PassesOwn.never rfl (Vz.pi_zipM (by rfl) T.z_zip (pa_cons (pv 0) (pa_cons (pv 1) pa_nil))) (pg_tup rfl (pgs_cons (pg_name (i := 2) sc__law_moment.nd rfl (Or.inl rfl)) (pgs_cons (pg_tup rfl (pgs_cons (pg_name (i := 3) sc__law_moment.nd rfl (Or.inl rfl)) (pgs_cons (pg_name (i := 4) sc__law_moment.nd rfl (Or.inl rfl)) pgs_nil))) pgs_nil))) (pss_one (ps_if (pt_not (pt_val (pe_call (ok__law_is_whole T) (hr.mono (by decide)) (by rfl) T.g__law_is_whole T.F__law_is_whole.kp T.b__law_is_whole .nil pass0 (pa_cons (pv 2) (pa_cons (pv 3) (pa_cons (pv 4) pa_nil)))))) (pss_one (ps_ret (pe_lst pa_nil))) pss_nil)))
        (pss_cons (ps_asg (pv 0) (pg_tup rfl (pgs_cons (pg_name (i := 5) sc__law_moment.nd rfl (Or.inl rfl)) (pgs_cons (pg_name (i := 6) sc__law_moment.nd rfl (Or.inl rfl)) (pgs_cons (pg_name (i := 7) sc__law_moment.nd rfl (Or.inl rfl)) (pgs_cons (pg_name (i := 8) sc__law_moment.nd rfl (Or.inl rfl)) (pgs_cons (pg_name (i := 9) sc__law_moment.nd rfl (Or.inl rfl)) (pgs_cons (pg_name (i := 10) sc__law_moment.nd rfl (Or.inl rfl)) (pgs_cons (pg_name (i := 11) sc__law_moment.nd rfl (Or.inl rfl)) pgs_nil)))))))))
        (pss_cons (ps_set (i := 12) sc__law_moment.nd rfl (Or.inl rfl) (pe_ifExp (PW.pt (pw_and (pt_cmpR op_eq (pe_op op_mod (pe_callTy call_int1 (by rfl) T.z_int (by decide +kernel) (pa_cons (pv 5) pa_nil)) pe_int) pe_int (nomark _)) (pw_and1 (pt_cmpR op_ne (pe_op op_mod (pe_callTy call_int1 (by rfl) T.z_int (by decide +kernel) (pa_cons (pv 5) pa_nil)) pe_int) pe_int (nomark _))))) pe_int pe_int))
        (pss_cons (ps_if (pt_cmpR op_gt (pv 7) (pe_ifExp (pt_cmpR op_eq (pv 6) pe_int (nomark _)) (pv 12) pe_int) (nomark _)) (pss_one (ps_ret (pe_lst pa_nil))) pss_nil)
        (pss_cons (ps_set (i := 13) sc__law_moment.nd rfl (Or.inl rfl) (pe_op op_mul (pe_op op_sub (pe_op op_add (pe_op op_add (pe_call (ok__law_days T) (hr.mono (by decide)) (by rfl) T.g__law_days T.F__law_days.kp T.b__law_days .nil pass0 (pa_cons (pv 5) pa_nil)) (pe_op op_mul pe_int (pe_op op_sub (pv 6) pe_int))) (pv 7)) pe_int) pe_int))
        (pss_cons (ps_set (i := 13) sc__law_moment.nd rfl (Or.inl rfl) (pe_op op_sub (pe_op op_add (pe_op op_add (pe_op op_add (pv 13) (pe_op op_mul (pv 8) pe_int)) (pe_op op_mul (pv 9) pe_int)) (pv 10)) (pe_op op_mul pe_int (pv 11))))
        (pss_cons (ps_if (pt_cmpR op_eq (pv 10) pe_int (nomark _)) (pss_cons (ps_set (i := 14) sc__law_moment.nd rfl (Or.inl rfl) (pe_op op_fdiv (pv 13) (pe_op op_mul pe_int pe_int)))
        (pss_cons (ps_while PassesOwn.never (pt_cmpR op_lt (pe_op op_mul (pe_call (ok__law_days T) (hr.mono (by decide)) (by rfl) T.g__law_days T.F__law_days.kp T.b__law_days .nil pass0 (pa_cons (pe_op op_add (pv 14) pe_int) pa_nil)) pe_int) (pv 13) (nomark _)) (pss_one (ps_set (i := 14) sc__law_moment.nd rfl (Or.inl rfl) (pe_op op_add (pv 14) pe_int))))
        (pss_cons (ps_set (i := 15) sc__law_moment.nd rfl (Or.inl rfl) (pe_and (pe_cmpR op_gt (pv 14) pe_int (nomark _)) (pe_and (pe_cmpR op_eq (pe_op op_mod (pe_callTy call_int1 (by rfl) T.z_int (by decide +kernel) (pa_cons (pv 14) pa_nil)) pe_int) pe_int (nomark _)) (pe_one (pe_cmpR op_eq (pe_op op_mul (pe_call (ok__law_days T) (hr.mono (by decide)) (by rfl) T.g__law_days T.F__law_days.kp T.b__law_days .nil pass0 (pa_cons (pe_op op_add (pv 14) pe_int) pa_nil)) pe_int) (pv 13) (nomark _))))))
        (pss_one (ps_ret (pe_ifExp (pt_val (pv 15)) (pe_lst (pa_cons (pe_op op_sub (pe_call (ok__law_begin_of T) (hr.mono (by decide)) (by rfl) T.g__law_begin_of T.F__law_begin_of.kp T.b__law_begin_of .nil pass0 (pa_cons (pe_op op_add (pv 14) pe_int) pa_nil)) pe_int) pa_nil)) (pe_lst pa_nil))))))) pss_nil)
        (pss_cons (ps_set (i := 14) sc__law_moment.nd rfl (Or.inl rfl) (pe_op op_add (pe_op op_fdiv (pv 13) (pe_op op_mul pe_int pe_int)) pe_int))
        (pss_cons (ps_while PassesOwn.never (pt_cmpR op_ge (pv 13) (pe_op op_mul (pe_call (ok__law_days T) (hr.mono (by decide)) (by rfl) T.g__law_days T.F__law_days.kp T.b__law_days .nil pass0 (pa_cons (pe_op op_add (pv 14) pe_int) pa_nil)) pe_int) (nomark _)) (pss_one (ps_set (i := 14) sc__law_moment.nd rfl (Or.inl rfl) (pe_op op_add (pv 14) pe_int))))
        (pss_one (ps_ret (pe_ifExp (PW.pt (pw_and (pt_cmpR op_ge (pv 13) pe_int (nomark _)) (pw_and1 (pt_cmpR op_lt (pv 14) pe_int (nomark _))))) (pe_lst (pa_cons (pe_op op_add (pv 13) (pe_op op_fdiv (pe_op op_sub (pv 14) pe_int) pe_int)) pa_nil)) (pe_lst pa_nil))))))))))))))), ?_⟩
    refine ⟨_, rfl, v, _, _, _, _, rfl, .ty "tuple", ht.ty, ht.k_tup, _, rfl, ?_⟩
    have other : ∀ {k'}, tupS k' = false → Thg dd H v k' → momV H v = [] := by
      intro k' e h
      cases h with
      | tup e' => cases (show tupS "tuple" = false from e)
      | lst e' => unfold momV; simp [e']
      | dic e' _ => unfold momV; simp [e']
      | _ => rfl
    cases e : tupS k with
    | false =>
      rw [other e ht] at q
      exact ⟨Nat.zero_le _, fun p np => q _ p (same_new np) np upd_same⟩
    | true =>
    obtain ⟨a, xs, rfl, ha⟩ := ht.is_tup e
    have hx := hi a xs rfl ha
    refine iteF ?_
    refine ⟨_, rfl, _, _, rfl, .inr (SqT.of ha), rfl, _, rfl, ?_⟩
    have mv : momV H (.ref a) = momL xs := by unfold momV; simp [ha]
    rw [mv] at q
    refine ite2 (fun c => ?_) (fun c => ?_)
    · have nl : ¬ xs.length = 7 := by
        intro z
        rw [dI] at c
        simp [z] at c
      have e0 : momL xs = [] := by
        unfold momL
        split
        · exact absurd rfl nl
        · rfl
      rw [e0] at q
      exact ⟨Nat.zero_le _, fun p np => q _ p (same_new np) np upd_same⟩
    · have l7 : xs.length = 7 := by
        rw [dI] at c
        simp at c
        omega
      -- the bounds
      refine ⟨(by show 2 ≤ sizeLine; decide), fun p1 n1 => ?_⟩
      refine ⟨(by show 2 ≤ sizeLine; decide), fun p2 n2 => ?_⟩
      refine ⟨(by show 2 ≤ sizeLine; decide), fun p3 n3 => ?_⟩
      refine ⟨(by show 2 ≤ sizeLine; decide), fun p4 n4 => ?_⟩
      refine ⟨(by show 2 ≤ sizeLine; decide), fun p5 n5 => ?_⟩
      refine ⟨(by show 2 ≤ sizeLine; decide), fun p6 n6 => ?_⟩
      refine ⟨_, _, rfl, rfl, (by show 2 ≤ sizeLine; decide), fun p7 n7 => ?_⟩
      refine ⟨(by show 7 ≤ sizeLine; decide), fun b nb => ?_⟩
      have s1 := same_new (o := .tup [V.int 1, V.int 9999]) n1
      have s2 := same_new (o := .tup [V.int 1, V.int 13]) n2
      have s3 := same_new (o := .tup [V.int 1, V.int 30]) n3
      have s4 := same_new (o := .tup [V.int 0, V.int 23]) n4
      have s5 := same_new (o := .tup [V.int 0, V.int 59]) n5
      have s6 := same_new (o := .tup [V.int 0, V.int 60]) n6
      have s7 := same_new (o := .tup [V.int (0 - 840), V.int 840]) n7
      have s8 := same_new (o := .lst [V.ref p1, V.ref p2, V.ref p3, V.ref p4, V.ref p5, V.ref p6, V.ref p7]) nb
      have g1 := s8 _ _ (s7 _ _ (s6 _ _ (s5 _ _ (s4 _ _ (s3 _ _ (s2 _ _ (upd_same (H := H) (a := p1) (o := .tup [V.int 1, V.int 9999]))))))))
      have g2 := s8 _ _ (s7 _ _ (s6 _ _ (s5 _ _ (s4 _ _ (s3 _ _ (upd_same (a := p2) (o := .tup [V.int 1, V.int 13])))))))
      have g3 := s8 _ _ (s7 _ _ (s6 _ _ (s5 _ _ (s4 _ _ (upd_same (a := p3) (o := .tup [V.int 1, V.int 30]))))))
      have g4 := s8 _ _ (s7 _ _ (s6 _ _ (s5 _ _ (upd_same (a := p4) (o := .tup [V.int 0, V.int 23])))))
      have g5 := s8 _ _ (s7 _ _ (s6 _ _ (upd_same (a := p5) (o := .tup [V.int 0, V.int 59]))))
      have g6 := s8 _ _ (s7 _ _ (upd_same (a := p6) (o := .tup [V.int 0, V.int 60])))
      have g7 := s8 _ _ (upd_same (a := p7) (o := .tup [V.int (0 - 840), V.int 840]))
      have gb := upd_same (H := upd (upd (upd (upd (upd (upd (upd H p1 (.tup [V.int 1, V.int 9999])) p2 (.tup [V.int 1, V.int 13])) p3 (.tup [V.int 1, V.int 30])) p4 (.tup [V.int 0, V.int 23])) p5 (.tup [V.int 0, V.int 59])) p6 (.tup [V.int 0, V.int 60])) p7 (.tup [V.int (0 - 840), V.int 840]))
        (a := b) (o := .lst [V.ref p1, V.ref p2, V.ref p3, V.ref p4, V.ref p5, V.ref p6, V.ref p7])
      have sAll : Same H _ := ((((((s1.trans s2).trans s3).trans s4).trans s5).trans s6).trans s7).trans s8
      generalize upd (upd (upd (upd (upd (upd (upd (upd H p1 (.tup [V.int 1, V.int 9999])) p2 (.tup [V.int 1, V.int 13])) p3 (.tup [V.int 1, V.int 30])) p4 (.tup [V.int 0, V.int 23])) p5 (.tup [V.int 0, V.int 59])) p6 (.tup [V.int 0, V.int 60])) p7 (.tup [V.int (0 - 840), V.int 840])) b (.lst [V.ref p1, V.ref p2, V.ref p3, V.ref p4, V.ref p5, V.ref p6, V.ref p7]) = H8 at *
      have pairs : ∀ i, i < 7 → ∃ p lo hi, ([V.ref p1, V.ref p2, V.ref p3, V.ref p4, V.ref p5, V.ref p6, V.ref p7] : List V)[i]? = some (.ref p) ∧ bds[i]? = some (lo, hi) ∧ H8 p = some (.tup [.int lo, .int hi]) := by
        intro i hi
        match i, hi with
        | 0, _ => exact ⟨_, _, _, rfl, rfl, g1⟩
        | 1, _ => exact ⟨_, _, _, rfl, rfl, g2⟩
        | 2, _ => exact ⟨_, _, _, rfl, rfl, g3⟩
        | 3, _ => exact ⟨_, _, _, rfl, rfl, g4⟩
        | 4, _ => exact ⟨_, _, _, rfl, rfl, g5⟩
        | 5, _ => exact ⟨_, _, _, rfl, rfl, g6⟩
        | 6, _ => exact ⟨_, _, _, rfl, rfl, g7⟩
      have bad : ∀ (i : Nat) (x : V) (lo hi : Int), xs[i]? = some x → bds[i]? = some (lo, hi) → inR x lo hi = false → momL xs = [] := by
        intro i x lo hi e1 e2 e3
        apply momL_not
        unfold isDateL
        split
        · rename_i y mo d h' mi s' z
          have f : Ma.fits y mo d h' mi s' z = false := by
            cases ef : Ma.fits y mo d h' mi s' z with
            | false => rfl
            | true =>
              exfalso
              unfold Ma.fits Ma.within Ma.dim at ef
              simp only [Bool.and_eq_true, decide_eq_true_eq] at ef
              obtain ⟨⟨⟨⟨⟨⟨⟨_, _⟩, _, _⟩, d1, d2⟩, _, _⟩, _, _⟩, _, _⟩, _, _⟩ := ef
              have d3 : d ≤ 30 := by split at d2 <;> (try split at d2) <;> omega
              have il := (List.getElem?_eq_some_iff.mp e1).1
              have il' : i < 7 := il
              match i, il' with
              | 0, _ => cases e1; cases e2; unfold inR Ma.within at e3; simp at e3; omega
              | 1, _ => cases e1; cases e2; unfold inR Ma.within at e3; simp at e3; omega
              | 2, _ => cases e1; cases e2; unfold inR Ma.within at e3; simp at e3; omega
              | 3, _ => cases e1; cases e2; unfold inR Ma.within at e3; simp at e3; omega
              | 4, _ => cases e1; cases e2; unfold inR Ma.within at e3; simp at e3; omega
              | 5, _ => cases e1; cases e2; unfold inR Ma.within at e3; simp at e3; omega
              | 6, _ => cases e1; cases e2; unfold inR Ma.within at e3; simp at e3; omega
          unfold Ma.isDate
          rw [f]
          rfl
        · rfl
      refine ⟨_, rfl, _, rfl, a, b, xs, _, rfl, SqT.of (sAll _ _ ha), SqL.of gb, ?_⟩
      refine for_it (Vz.walk_zipM (K := K) (a := a) (b := b) (xs := xs) (ys := [V.ref p1, V.ref p2, V.ref p3, V.ref p4, V.ref p5, V.ref p6, V.ref p7]) (n := 7) (by rw [l7]; rfl))
        (fun i σ H' => ∃ t l m : Option V, σ = [some (.ref a), some (.ref b), t, l, m, none, none, none, none, none, none, none, none, none, none, none] ∧ Same H8 H' ∧ okUp xs i) ?_ ?_ ?_ ?_
      · exact ⟨none, none, none, rfl, Same.refl _, fun j _ _ _ z => absurd z (Nat.not_lt_zero j)⟩
      · rintro i σ H' _ ⟨t, l, m, rfl, sm, _⟩
        exact ⟨SqT.of (sm _ _ (sAll _ _ ha)), SqL.of (sm _ _ gb)⟩
      · rintro i x σ H9 H10 i7 ⟨t, l, m, rfl, sm, up⟩ ⟨Tt, x1, x2, rfl, nT, rfl, e1, e2⟩
        obtain ⟨p, lo, hi', f1, f2, f3⟩ := pairs i i7
        have ex2 : x2 = .ref p := Option.some.inj (e2.symm.trans f1)
        subst ex2
        have sT := same_new (o := .tup [x1, V.ref p]) nT
        obtain ⟨k1, t1⟩ := hx x1 (List.mem_of_getElem? e1)
        have t1' : Thg dd (upd H9 Tt (.tup [x1, V.ref p])) x1 k1 := t1.same ((sAll.trans sm).trans sT)
        refine ⟨Tt, _, rfl, SqT.of upd_same, rfl, _, _, rfl, _, _, rfl, p, _, rfl, SqT.of (sT _ _ (sm _ _ f3)), rfl, _, _, rfl, _, _, rfl, rfl, rfl, ?_⟩
        refine ⟨_, rfl, _, rfl, _, rfl, dd, x1, k1, lo, hi', rfl, t1', _, rfl, ?_⟩
        cases e3 : inR x1 lo hi' with
        | false =>
          refine iteT ?_
          refine ⟨Nat.zero_le _, fun r nr => ?_⟩
          rw [bad i x1 lo hi' e1 f2 e3] at q
          have sH : Same H (upd H9 Tt (.tup [x1, V.ref p])) := (sAll.trans sm).trans sT
          exact q _ r (sH.trans (same_new nr)) (sH.free nr) upd_same
        | true =>
          refine iteF ?_
          refine ⟨_, _, _, rfl, sm.trans sT, ?_⟩
          intro j x lo2 hi2 hj g g'
          by_cases ej : j = i
          · subst ej
            have g1' : x1 = x := Option.some.inj ((show xs[j]? = some x1 from e1).symm.trans g)
            have g2' := Option.some.inj (f2.symm.trans g')
            cases g2'
            rw [← g1']
            exact e3
          · exact up j x lo2 hi2 (by omega) g g'
      · rintro σ H9 ⟨t, l, m, rfl, sm, up⟩
        match xs, l7 with
        | [y, mo, d, h, mi, s, z], _ =>
        obtain ⟨y, rfl⟩ := inR_int (up 0 y 1 9999 (by omega) rfl rfl)
        obtain ⟨mo, rfl⟩ := inR_int (up 1 mo 1 13 (by omega) rfl rfl)
        obtain ⟨d, rfl⟩ := inR_int (up 2 d 1 30 (by omega) rfl rfl)
        obtain ⟨h, rfl⟩ := inR_int (up 3 h 0 23 (by omega) rfl rfl)
        obtain ⟨mi, rfl⟩ := inR_int (up 4 mi 0 59 (by omega) rfl rfl)
        obtain ⟨s, rfl⟩ := inR_int (up 5 s 0 60 (by omega) rfl rfl)
        obtain ⟨z, rfl⟩ := inR_int (up 6 z (-840) 840 (by omega) rfl rfl)
        have r1 : Ma.within y 1 9999 = true := up 0 _ 1 9999 (by omega) rfl rfl
        have r2 : Ma.within mo 1 13 = true := up 1 _ 1 13 (by omega) rfl rfl
        have r3 : Ma.within d 1 30 = true := up 2 _ 1 30 (by omega) rfl rfl
        have r4 : Ma.within h 0 23 = true := up 3 _ 0 23 (by omega) rfl rfl
        have r5 : Ma.within mi 0 59 = true := up 4 _ 0 59 (by omega) rfl rfl
        have r6 : Ma.within s 0 60 = true := up 5 _ 0 60 (by omega) rfl rfl
        have r7 : Ma.within z (-840) 840 = true := up 6 _ (-840) 840 (by omega) rfl rfl
        have hmo : 1 ≤ mo ∧ mo ≤ 13 := by unfold Ma.within at r2; simpa using r2
        have hd1 : 1 ≤ d ∧ d ≤ 30 := by unfold Ma.within at r3; simpa using r3
        have hs60 : 0 ≤ s ∧ s ≤ 60 := by unfold Ma.within at r6; simpa using r6
        have em : momL [V.int y, V.int mo, V.int d, V.int h, V.int mi, V.int s, V.int z] = if Ma.isDate y mo d h mi s z = true then [V.int (Ma.moment y mo d h mi s z)] else [] := rfl
        rw [em] at q
        have sH : Same H H9 := sAll.trans sm
        have ha9 := sH _ _ ha
        refine ⟨_, rfl, a, _, rfl, SqT.of ha9, rfl, _, _, rfl, _, _, rfl, _, _, rfl, _, _, rfl, _, _, rfl, _, _, rfl, _, _, rfl, rfl, ?_⟩
        dsimp only
        refine asg_to (.int (if Ma.leapY y = true then 30 else 29)) (Ma.leapY y) (fun R r => ?_) (fun cl R r => ?_) (fun cl R r => ?_) ?_
        · refine ⟨_, rfl, .inl ⟨_, rfl, _, _, rfl, rfl, (by show (0 : Int) < 4; decide), rfl, _, rfl, ?_⟩⟩
          unfold Ma.leapY at r
          refine ite2 (fun c1 => ?_) (fun c1 => ?_)
          · rw [dI] at c1
            rw [c1, Bool.true_and] at r
            refine ⟨_, rfl, .inl ⟨_, rfl, _, _, rfl, rfl, (by show (0 : Int) < 128; decide), rfl, _, rfl, ?_⟩⟩
            rw [dI]
            rw [decide_not] at r
            exact r
          · rw [dI] at c1
            have c2 : decide (y % 4 = 0) = false := by simpa using c1
            rw [c2, Bool.false_and] at r
            exact r
        · rw [if_pos cl] at r; exact r
        · rw [cl] at r; exact r
        refine ⟨_, rfl, ?_⟩
        refine tif_to (.int (Ma.dim y mo)) (decide (mo = 13)) (fun R r => ?_) (fun cl R r => ?_) (fun cl R r => ?_) ?_
        · refine ⟨_, rfl, rfl, _, rfl, ?_⟩
          rw [dI]; exact r
        · have c1 : mo = 13 := of_decide_eq_true cl
          refine ⟨_, rfl, ?_⟩
          have e : Ma.dim y mo = if Ma.leapY y = true then 30 else 29 := by unfold Ma.dim; rw [if_neg (by omega)]
          rw [e] at r
          exact r
        · have c1 : ¬ mo = 13 := of_decide_eq_false cl
          have e : Ma.dim y mo = 28 := by unfold Ma.dim; rw [if_pos (by omega)]
          rw [e] at r
          exact r
        refine ⟨_, _, rfl, rfl, _, rfl, ?_⟩
        refine ite2 (fun c1 => ?_) (fun c1 => ?_)
        · have c2 : Ma.dim y mo < d := of_decide_eq_true c1
          have e0 : Ma.isDate y mo d h mi s z = false := by
            unfold Ma.isDate Ma.fits
            have : Ma.within d 1 (Ma.dim y mo) = false := by unfold Ma.within; simp; omega
            rw [this]; simp
          rw [e0] at q
          exact ⟨Nat.zero_le _, fun r nr => q _ r (sH.trans (same_new nr)) (sH.free nr) upd_same⟩
        have c2 : d ≤ Ma.dim y mo := by simpa using c1
        have f : Ma.fits y mo d h mi s z = true := by
          unfold Ma.fits
          have : Ma.within d 1 (Ma.dim y mo) = true := by unfold Ma.within; simp; omega
          rw [r1, r2, this, r4, r5, r6, r7]; rfl
        refine ⟨_, rfl, _, rfl, _, rfl, _, _, rfl, rfl, _, _, rfl, rfl, .inl ⟨by decide, by decide⟩, _, _, rfl, rfl, _, rfl, _, _, rfl, rfl, _, _, rfl, rfl, _, _, rfl, rfl, .inr ⟨by decide, by decide⟩, ?_⟩
        refine ⟨_, rfl, _, rfl, _, _, rfl, rfl, .inr ⟨by decide, by decide⟩, _, _, rfl, rfl, _, rfl, _, _, rfl, rfl, .inr ⟨by decide, by decide⟩, _, _, rfl, rfl, _, rfl, _, _, rfl, rfl, _, rfl, _, _, rfl, rfl, .inl ⟨by decide, by decide⟩, _, _, rfl, rfl, ?_⟩
        obtain ⟨pl, hpl⟩ : ∃ pl, pl = (Ma.days y + 28 * (mo - 1) + d - 1) * 86400 + h * 3600 + mi * 60 + s - 60 * z := ⟨_, rfl⟩
        have ep : pl = Ma.plain y mo d h mi s z := by rw [hpl]; unfold Ma.plain; omega
        refine ⟨_, rfl, rfl, _, rfl, ?_⟩
        refine ite2 (fun c3 => ?_) (fun c3 => ?_)
        · rw [dI] at c3
          have c4 : s = 60 := of_decide_eq_true c3
          subst c4
          refine ⟨_, rfl, _, _, rfl, rfl, .inl ⟨by decide, by decide⟩, _, _, rfl, rfl, ⟨by decide, by decide⟩, ?_⟩
          refine ⟨fun m σ H1 => ∃ (t l m' : Option V) (at_ : Int), σ = [some (.ref a), some (.ref b), t, l, m', some (.int y), some (.int mo), some (.int d), some (.int h), some (.int mi), some (.int 60), some (.int z), some (.int (if Ma.leapY y = true then 30 else 29)), some (.int pl), some (.int at_), none] ∧ H1 = H9 ∧
            pl / 31622400 ≤ at_ ∧ (∀ k, pl / 31622400 ≤ k → k < at_ → Ma.days (k + 1) * 86400 < pl) ∧ m = (pl - Ma.days (at_ + 1) * 86400).toNat,
            ⟨_, t, l, m, pl / 31622400, (by subst hpl; rfl), rfl, Int.le_refl _, fun k g1 g2 => absurd g1 (by omega), rfl⟩, ?_⟩
          rintro n σ H1 ⟨t, l, m, at_, rfl, rfl, a1, a2, rfl⟩
          refine ⟨_, rfl, _, _, rfl, rfl, _, rfl, _, _, rfl, rfl, .inr ⟨by decide, by decide⟩, _, rfl, _, _, rfl, rfl, _, rfl, ?_⟩
          refine ite2 (fun c5 => ?_) (fun c5 => ?_)
          · have c6 : Ma.days (at_ + 1) * 86400 < pl := of_decide_eq_true c5
            refine ⟨fun σ' H' => σ' = [some (.ref a), some (.ref b), t, l, m, some (.int y), some (.int mo), some (.int d), some (.int h), some (.int mi), some (.int 60), some (.int z), some (.int (if Ma.leapY y = true then 30 else 29)), some (.int pl), some (.int (at_ + 1)), none] ∧ H' = H1, ?_, ?_⟩
            · rintro σ' H' ⟨rfl, rfl⟩
              have := Ma.days_step (at_ + 1)
              refine ⟨_, ?_, t, l, m, at_ + 1, rfl, rfl, by omega, fun k g1 g2 => ?_, rfl⟩
              · omega
              · by_cases ek : k = at_
                · rw [ek]; exact c6
                · exact a2 k g1 (by omega)
            · exact ⟨_, rfl, _, _, rfl, rfl, rfl, rfl⟩
          · have c6 : ¬ Ma.days (at_ + 1) * 86400 < pl := fun w => c5 (decide_eq_true w)
            have way := Ma.leap_way f (a := at_) (by rw [← ep]; exact a2) (by rw [← ep]; exact a1) (by rw [← ep]; exact c6)
            rw [way, ← ep] at q
            refine ⟨_, rfl, _, _, rfl, rfl, _, rfl, ?_⟩
            have fin : ∀ bb : Bool, bb = (decide (0 < at_) && decide (at_ % 40 = 0) && decide (Ma.days (at_ + 1) * 86400 = pl)) →
                tRet (tIf (tB (tVar 15)) (tLst (tCons (tOp (rI0 fun i j => .int (i - j)) (tCall sp__law_begin_of [] E0 (tCons (tOp (rI0 fun i j => .int (i + j)) (tVar 14) (tC (.int 1))) tNil)) (tC (.int 1))) tNil)) (tLst tNil)) { nx := fun _ H' => Q .non H', rt := Q }
                  [some (.ref a), some (.ref b), t, l, m, some (.int y), some (.int mo), some (.int d), some (.int h), some (.int mi), some (.int 60), some (.int z), some (.int (if Ma.leapY y = true then 30 else 29)), some (.int pl), some (.int at_), some (.bl bb)] H1 := by
              intro bb eb
              refine ⟨_, rfl, _, rfl, ?_⟩
              rw [← eb] at q
              cases bb with
              | false =>
                refine iteF ?_
                exact ⟨Nat.zero_le _, fun r nr => q _ r (sH.trans (same_new nr)) (sH.free nr) upd_same⟩
              | true =>
                refine iteT ?_
                refine ⟨_, rfl, _, _, rfl, rfl, _, rfl, _, _, rfl, rfl, (by show 1 ≤ sizeLine; decide), fun r nr => q _ r (sH.trans (same_new nr)) (sH.free nr) ?_⟩
                have eb' := eb.symm
                simp only [Bool.and_eq_true, decide_eq_true_eq] at eb'
                rw [if_pos rfl, ← Ma.leap_val eb'.1.2 (by rw [← ep]; exact eb'.2)]
                exact upd_same
            refine ite2 (fun c7 => ?_) (fun c7 => ?_)
            · refine ⟨_, rfl, .inl ⟨_, rfl, _, _, rfl, rfl, (by show (0 : Int) < 40; decide), rfl, _, rfl, ?_⟩⟩
              refine ite2 (fun c8 => ?_) (fun c8 => ?_)
              · refine ⟨_, rfl, _, _, rfl, rfl, _, rfl, _, _, rfl, rfl, .inr ⟨by decide, by decide⟩, _, rfl, rfl, ?_⟩
                refine fin _ ?_
                rw [dI] at c8 ⊢
                rw [c7, c8]; rfl
              · refine fin false ?_
                rw [dI] at c8
                have : decide (at_ % 40 = 0) = false := by simpa using c8
                rw [this]; simp
            · refine fin false ?_
              have : decide (0 < at_) = false := by simpa using c7
              rw [this]; simp
        · rw [dI] at c3
          have c4 : ¬ s = 60 := fun w => c3 (decide_eq_true w)
          refine ⟨_, rfl, _, _, rfl, rfl, .inl ⟨by decide, by decide⟩, _, _, rfl, rfl, ⟨by decide, by decide⟩, _, _, rfl, rfl, ?_⟩
          refine ⟨fun m σ H1 => ∃ (t l m' : Option V) (at_ : Int), σ = [some (.ref a), some (.ref b), t, l, m', some (.int y), some (.int mo), some (.int d), some (.int h), some (.int mi), some (.int s), some (.int z), some (.int (if Ma.leapY y = true then 30 else 29)), some (.int pl), some (.int at_), none] ∧ H1 = H9 ∧
            pl / 31622400 + 1 ≤ at_ ∧ (∀ k, pl / 31622400 + 1 ≤ k → k < at_ → Ma.days (k + 1) * 86400 ≤ pl) ∧ m = (pl + 1 - Ma.days (at_ + 1) * 86400).toNat,
            ⟨_, t, l, m, pl / 31622400 + 1, (by subst hpl; rfl), rfl, Int.le_refl _, fun k g1 g2 => absurd g1 (by omega), rfl⟩, ?_⟩
          rintro n σ H1 ⟨t, l, m, at_, rfl, rfl, a1, a2, rfl⟩
          refine ⟨_, rfl, _, rfl, _, _, rfl, rfl, _, rfl, _, _, rfl, rfl, .inr ⟨by decide, by decide⟩, _, _, rfl, rfl, _, rfl, ?_⟩
          refine ite2 (fun c5 => ?_) (fun c5 => ?_)
          · have c6 : Ma.days (at_ + 1) * 86400 ≤ pl := of_decide_eq_true c5
            refine ⟨fun σ' H' => σ' = [some (.ref a), some (.ref b), t, l, m, some (.int y), some (.int mo), some (.int d), some (.int h), some (.int mi), some (.int s), some (.int z), some (.int (if Ma.leapY y = true then 30 else 29)), some (.int pl), some (.int (at_ + 1)), none] ∧ H' = H1, ?_, ?_⟩
            · rintro σ' H' ⟨rfl, rfl⟩
              have := Ma.days_step (at_ + 1)
              refine ⟨_, ?_, t, l, m, at_ + 1, rfl, rfl, by omega, fun k g1 g2 => ?_, rfl⟩
              · omega
              · by_cases ek : k = at_
                · rw [ek]; exact c6
                · exact a2 k g1 (by omega)
            · exact ⟨_, rfl, _, _, rfl, rfl, rfl, rfl⟩
          · have c6 : ¬ Ma.days (at_ + 1) * 86400 ≤ pl := fun w => c5 (decide_eq_true w)
            have way := Ma.plain_way c4 f (a := at_) (by rw [← ep]; exact a1) (by rw [← ep]; exact a2) (by rw [← ep]; exact c6)
            rw [way, ← ep] at q
            refine ⟨_, rfl, _, _, rfl, rfl, _, rfl, ?_⟩
            refine ite2 (fun c7 => ?_) (fun c7 => ?_)
            · refine ⟨_, rfl, _, _, rfl, rfl, _, rfl, ?_⟩
              refine ite2 (fun c8 => ?_) (fun c8 => ?_)
              · rw [c7, c8] at q
                have p0 : 0 ≤ pl := of_decide_eq_true c7
                have low : Ma.days at_ ≤ Ma.plain y mo d h mi s z / 86400 := by
                  rw [← ep]
                  by_cases es : at_ = pl / 31622400 + 1
                  · have := Ma.days_366 (n := pl / 31622400) (by omega)
                    rw [es]; omega
                  · have := a2 (at_ - 1) (by omega) (by omega)
                    rw [show at_ - 1 + 1 = at_ by omega] at this
                    omega
                have val := Ma.plain_val c4 hs60.2 low (by rw [← ep]; omega)
                rw [← ep] at val
                refine ⟨_, rfl, _, rfl, _, _, rfl, rfl, _, _, rfl, rfl, ⟨by decide, by decide⟩, _, _, rfl, rfl, (by show 1 ≤ sizeLine; decide), fun r nr => q _ r (sH.trans (same_new nr)) (sH.free nr) ?_⟩
                rw [← val]
                exact upd_same
              · have : decide (at_ < 10000) = false := by simpa using c8
                rw [this, Bool.and_false] at q
                exact ⟨Nat.zero_le _, fun r nr => q _ r (sH.trans (same_new nr)) (sH.free nr) upd_same⟩
            · have : decide (0 ≤ pl) = false := by simpa using c7
              rw [this, Bool.false_and] at q
              exact iteF ⟨Nat.zero_le _, fun r nr => q _ r (sH.trans (same_new nr)) (sH.free nr) upd_same⟩
end
end Toy
set_option Elab.async false
set_option linter.all false
set_option maxRecDepth 100000
set_option maxHeartbeats 4000000
namespace Toy
open PySem PySem.Spec PyProof.Rows L2
/-! ### tuples behind one another, cut -/
theorem cat_to {K : PySem.W.Frag} {H : Hp} {Q : VK} {a b : Addr} {xs ys : List V} (ha : H a = some (.tup xs)) (hb : H b = some (.tup ys)) (sz : xs.length + ys.length ≤ 1000)
    (q : ∀ r H', Same H H' → H' r = some (.tup (xs ++ ys)) → Q (.ref r) H') : rCatA K (.ref a) (.ref b) H Q := by
  refine ⟨a, b, xs, ys, rfl, rfl, SqT.of ha, SqT.of hb, Nat.le_trans sz (by decide), fun e => ?_, fun _ e => ?_, fun _ _ p np => ?_⟩
  · subst e; exact q b H (Same.refl H) hb
  · subst e; exact q a H (Same.refl H) (by rw [List.append_nil]; exact ha)
  · exact q p _ (same_new np) upd_same
theorem cut_whole {xs : List V} {lo hi : Option Int} (h : HT.sIx xs.length 0 lo = 0 ∧ HT.sIx xs.length xs.length hi = xs.length) : cutV xs lo hi = xs := by
  unfold cutV
  rw [h.1, h.2]
  simp
theorem cut_to {K : PySem.W.Frag} {H : Hp} {Q : VK} {a : Addr} {xs : List V} {lo hi : Option Int} (ha : H a = some (.tup xs)) (q : ∀ r H', Same H H' → H' r = some (.tup (cutV xs lo hi)) → Q (.ref r) H') : rSlA K (.ref a) lo hi H Q := by
  refine ⟨a, xs, rfl, SqT.of ha, fun h => ?_, fun _ p np => ?_⟩
  · exact q a H (Same.refl H) (by rw [cut_whole h]; exact ha)
  · exact q p _ (same_new np) upd_same
theorem cut_front {xs : List V} {k : Int} (h0 : 0 ≤ k) (h1 : k ≤ xs.length) : cutV xs none (some k) = xs.take k.toNat := by
  obtain ⟨n, rfl⟩ : ∃ n : Nat, k = (n : Int) := ⟨k.toNat, by omega⟩
  unfold cutV
  rw [HT.sIx_none, HT.sIx_nat, List.drop_zero, Nat.sub_zero, Int.toNat_natCast, Nat.min_eq_left (by omega)]
theorem cut_back {xs : List V} {k : Int} (h0 : 0 ≤ k) (h1 : k ≤ xs.length) : cutV xs (some k) none = xs.drop k.toNat := by
  obtain ⟨n, rfl⟩ : ∃ n : Nat, k = (n : Int) := ⟨k.toNat, by omega⟩
  unfold cutV
  rw [HT.sIx_none, HT.sIx_nat, Int.toNat_natCast, Nat.min_eq_left (by omega)]
  exact List.take_of_length_le (by rw [List.length_drop]; omega)
/-! ### things that stay -/
def Good (d : Addr) (H : Hp) (v : V) : Prop := ∃ k, Thg d H v k ∧ ∀ a xs, v = .ref a → H a = some (.tup xs) → ∀ x ∈ xs, ∃ k, Thg d H x k
theorem Good.keep {d : Addr} {H H' : Hp} {kvs : List (Key × V)} {v : V} (g : Good d H v) (hd : H d = some (.dK kvs)) (e : Keep d H H') : Good d H' v := by
  obtain ⟨k, t, it⟩ := g
  refine ⟨k, t.keep hd e, ?_⟩
  rintro a xs rfl hx x hm
  cases t with
  | lst q => have := e _ _ (ne_of q hd (by intro z; cases z)) q; rw [hx] at this; cases this
  | dic q n => have := e _ _ n q; rw [hx] at this; cases this
  | tup q =>
    have := e _ _ (ne_of q hd (by intro z; cases z)) q
    rw [hx] at this
    cases this
    obtain ⟨k', t'⟩ := it a xs rfl q x hm
    exact ⟨k', t'.keep hd e⟩
theorem Good.same {d : Addr} {H H' : Hp} {v : V} (g : Good d H v) (e : Same H H') : Good d H' v := by
  obtain ⟨k, t, it⟩ := g
  refine ⟨k, t.same e, ?_⟩
  rintro a xs rfl hx x hm
  cases t with
  | lst q => have := e _ _ q; rw [hx] at this; cases this
  | dic q n => have := e _ _ q; rw [hx] at this; cases this
  | tup q =>
    have := e _ _ q
    rw [hx] at this
    cases this
    obtain ⟨k', t'⟩ := it a xs rfl q x hm
    exact ⟨k', t'.same e⟩
theorem good_of {d : Addr} {H : Hp} {v : V} {k : String} (t : Thg d H v k) (h : ∀ a, v ≠ .ref a) : Good d H v := ⟨k, t, fun a _ e => absurd e (h a)⟩
theorem good_int {d : Addr} {H : Hp} (i : Int) : Good d H (.int i) := good_of (.int i) fun a => nofun
theorem good_tup {d : Addr} {H : Hp} {a : Addr} {xs : List V} (h : H a = some (.tup xs)) (it : ∀ x ∈ xs, ∃ k, Thg d H x k) : Good d H (.ref a) :=
  ⟨_, .tup h, fun b ys e h2 x hm => by cases e; rw [h] at h2; cases h2; exact it x hm⟩
theorem good_lst {d : Addr} {H : Hp} {a : Addr} {xs : List V} (h : H a = some (.lst xs)) : Good d H (.ref a) :=
  ⟨_, .lst h, fun b ys e h2 => by cases e; rw [h] at h2; cases h2⟩
theorem good_dic {d : Addr} {H : Hp} {a : Addr} {kvs : List (Key × V)} (h : H a = some (.dK kvs)) (n : a ≠ d) : Good d H (.ref a) :=
  ⟨_, .dic h n, fun b ys e h2 => by cases e; rw [h] at h2; cases h2⟩
theorem Good.thg {d : Addr} {H : Hp} {v : V} (g : Good d H v) : ∃ k, Thg d H v k := ⟨g.choose, g.choose_spec.1⟩
theorem ints_thg {d : Addr} {H : Hp} (l : List Int) : ∀ x ∈ l.map V.int, ∃ k, Thg d H x k := fun x hx => by
  obtain ⟨i, _, rfl⟩ := List.mem_map.mp hx
  exact ⟨_, .int i⟩
theorem dateV_same {d : Addr} {H H' : Hp} {v : V} {k : String} (t : Thg d H v k) (e : Same H H') : isDateV H' v = isDateV H v := by
  cases t with
  | lst q => unfold isDateV; simp [q, e _ _ q]
  | dic q n => unfold isDateV; simp [q, e _ _ q]
  | tup q => unfold isDateV; simp [q, e _ _ q]
  | _ => rfl
section
variable {P : Program} {w : World} {K : PySem.W.Frag} {mg : Str → Option Value} {base : Heap}
def sp__law_year : Sp := fun vs H Q _ => ∃ (d : Addr) (n : Int), vs = [.ref d] ∧ Draw H d n ∧ n ≤ 900000000 ∧ ∀ H' y, Keep d H H' → Draw H' d (n + 5) → 1 ≤ y → y ≤ 9999 → Q (.int y) H'
theorem ok__law_year (T : Txt K mg) : FnOk P w K mg base CX0 3 T.a__law_year T.d__law_year ["draw"] sp__law_year := by
  refine T.F__law_year.ok sc__law_year (fun vs H Q E h => ?_) (fun cdv A outer s H vs Q E hr h => ?_)
  · obtain ⟨d, n, rfl, _⟩ := h; rfl
  · obtain ⟨d, n, rfl, hD, hn, q⟩ := h
    obtain ⟨kvs, hd⟩ := hD.dic
    refine ⟨_, (pss_cons (ps_set (i := 1) sc__law_year.nd rfl (Or.inl rfl) (pe_lst (pa_cons pe_int (pa_cons pe_int (pa_cons pe_int (pa_cons pe_int (pa_cons pe_int (pa_cons pe_int (pa_cons pe_int (pa_cons pe_int (pa_cons pe_int (pa_cons pe_int (pa_cons pe_int (pa_cons pe_int (pa_cons pe_int (pa_cons pe_int (pa_cons (pe_op op_add pe_int (pe_call (ok__law_next T) (hr.mono (by decide)) (by rfl) T.g__law_next T.F__law_next.kp T.b__law_next .nil pass0 (pa_cons (pv 0) (pa_cons pe_int pa_nil)))) pa_nil)))))))))))))))))
        (pss_cons (ps_set (i := 1) sc__law_year.nd rfl (Or.inl rfl) (pe_lst (pa_cons (pe_ix ix_list (pv 1) (pe_call (ok__law_next T) (hr.mono (by decide)) (by rfl) T.g__law_next T.F__law_next.kp T.b__law_next .nil pass0 (pa_cons (pv 0) (pa_cons pe_int pa_nil))) (fun _ _ => rfl)) (pa_cons (pe_op op_mul pe_int (pe_op op_add pe_int (pe_call (ok__law_next T) (hr.mono (by decide)) (by rfl) T.g__law_next T.F__law_next.kp T.b__law_next .nil pass0 (pa_cons (pv 0) (pa_cons pe_int pa_nil))))) (pa_cons (pe_op op_mul pe_int (pe_op op_add pe_int (pe_call (ok__law_next T) (hr.mono (by decide)) (by rfl) T.g__law_next T.F__law_next.kp T.b__law_next .nil pass0 (pa_cons (pv 0) (pa_cons pe_int pa_nil))))) pa_nil)))))
        (pss_one (ps_ret (pe_ix ix_list (pv 1) (pe_call (ok__law_next T) (hr.mono (by decide)) (by rfl) T.g__law_next T.F__law_next.kp T.b__law_next .nil pass0 (pa_cons (pv 0) (pa_cons pe_int pa_nil))) (fun _ _ => rfl)))))), ?_⟩
    refine ⟨_, rfl, d, 9999, n, rfl, hD, by decide, by decide, by omega, fun H1 k1 kp1 D1 a1 b1 => ?_⟩
    refine ⟨_, _, rfl, rfl, (by show 15 ≤ sizeLine; decide), fun p1 n1 => ?_⟩
    obtain ⟨kvs1, hd1⟩ := D1.dic
    have ne1 : p1 ≠ d := (ne_of_none hd1 n1).symm
    have D1' := D1.same (same_new (o := .lst [.int 1, .int 2, .int 4, .int 39, .int 40, .int 41, .int 127, .int 128, .int 129, .int 640, .int 1280, .int 9960, .int 9998, .int 9999, .int (1 + k1)]) n1)
    refine ⟨_, rfl, _, rfl, d, 15, n + 1, rfl, D1', by decide, by decide, by omega, fun H2 k2 kp2 D2 a2 b2 => ?_⟩
    obtain ⟨v, hv, hm⟩ := at_some (xs := [V.int 1, .int 2, .int 4, .int 39, .int 40, .int 41, .int 127, .int 128, .int 129, .int 640, .int 1280, .int 9960, .int 9998, .int 9999, .int (1 + k1)]) a2 b2
    obtain ⟨y, rfl, y1, y2⟩ : ∃ y, v = .int y ∧ 1 ≤ y ∧ y ≤ 9999 := by
      simp only [List.mem_cons, List.not_mem_nil, or_false] at hm
      rcases hm with rfl | rfl | rfl | rfl | rfl | rfl | rfl | rfl | rfl | rfl | rfl | rfl | rfl | rfl | rfl <;> exact ⟨_, rfl, by omega, by omega⟩
    refine ⟨p1, _, k2, _, rfl, rfl, SqL.of (kp2 _ _ ne1 upd_same), hv, ?_⟩
    refine ⟨_, rfl, d, 249, n + 1 + 1, rfl, D2, by decide, by decide, by omega, fun H3 k3 kp3 D3 a3 b3 => ?_⟩
    refine ⟨_, _, rfl, rfl, _, _, rfl, rfl, .inl ⟨by decide, by decide⟩, ?_⟩
    refine ⟨_, rfl, d, 2499, n + 1 + 1 + 1, rfl, D3, by decide, by decide, by omega, fun H4 k4 kp4 D4 a4 b4 => ?_⟩
    refine ⟨_, _, rfl, rfl, _, _, rfl, rfl, .inl ⟨by decide, by decide⟩, (by show 3 ≤ sizeLine; decide), fun p2 n2 => ?_⟩
    obtain ⟨kvs4, hd4⟩ := D4.dic
    have ne2 : p2 ≠ d := (ne_of_none hd4 n2).symm
    have D4' := D4.same (same_new (o := .lst [.int y, .int (40 * (1 + k3)), .int (4 * (1 + k4))]) n2)
    refine ⟨_, rfl, _, rfl, d, 3, n + 1 + 1 + 1 + 1, rfl, D4', by decide, by decide, by omega, fun H5 k5 kp5 D5 a5 b5 => ?_⟩
    obtain ⟨v, hv, hm⟩ := at_some (xs := [V.int y, .int (40 * (1 + k3)), .int (4 * (1 + k4))]) a5 b5
    obtain ⟨y', rfl, y1', y2'⟩ : ∃ y, v = .int y ∧ 1 ≤ y ∧ y ≤ 9999 := by
      simp only [List.mem_cons, List.not_mem_nil, or_false] at hm
      rcases hm with rfl | rfl | rfl <;> exact ⟨_, rfl, by omega, by omega⟩
    refine ⟨p2, _, k5, _, rfl, rfl, SqL.of (kp5 _ _ ne2 upd_same), hv, ?_⟩
    refine q H5 y' (fun a o na e => ?_) (D5.more (by omega)) y1' y2'
    exact kp5 _ _ na (same_new n2 _ _ (kp4 _ _ na (kp3 _ _ na (kp2 _ _ na (same_new n1 _ _ (kp1 _ _ na e))))))
def sp__law_time : Sp := fun vs H Q _ => ∃ (d : Addr) (n : Int), vs = [.ref d] ∧ Draw H d n ∧ n ≤ 800000000 ∧ ∀ H' y, Keep d H H' → Draw H' d (n + 7) → 0 ≤ y → y ≤ 315537638648 → Q (.int y) H'
theorem ok__law_time (T : Txt K mg) : FnOk P w K mg base CX0 4 T.a__law_time T.d__law_time ["draw"] sp__law_time := by
  refine T.F__law_time.ok sc__law_time (fun vs H Q E h => ?_) (fun cdv A outer s H vs Q E hr h => ?_)
  · obtain ⟨d, n, rfl, _⟩ := h; rfl
  · obtain ⟨d, n, rfl, hD, hn, q⟩ := h
    refine ⟨_, (pss_cons (ps_set (i := 1) sc__law_time.nd rfl (Or.inl rfl) (pe_call (ok__law_year T) (hr.mono (by decide)) (by rfl) T.g__law_year T.F__law_year.kp T.b__law_year .nil pass0 (pa_cons (pv 0) pa_nil)))
        (pss_cons (ps_set (i := 2) sc__law_time.nd rfl (Or.inl rfl) (pe_lst (pa_cons (pe_op op_sub pe_int pe_int) (pa_cons (pe_op op_sub pe_int pe_int) (pa_cons pe_int (pa_cons pe_int (pa_cons pe_int (pa_cons pe_int (pa_cons pe_int (pa_cons (pe_op op_sub pe_int pe_int) (pa_cons (pe_op op_sub pe_int pe_int) (pa_cons (pe_call (ok__law_next T) (hr.mono (by decide)) (by rfl) T.g__law_next T.F__law_next.kp T.b__law_next .nil pass0 (pa_cons (pv 0) (pa_cons pe_int pa_nil))) pa_nil))))))))))))
        (pss_cons (ps_set (i := 2) sc__law_time.nd rfl (Or.inl rfl) (pe_ix ix_list (pv 2) (pe_call (ok__law_next T) (hr.mono (by decide)) (by rfl) T.g__law_next T.F__law_next.kp T.b__law_next .nil pass0 (pa_cons (pv 0) (pa_cons pe_int pa_nil))) (fun _ _ => rfl)))
        (pss_one (ps_ret (pe_callB (call_max2 rfl) (by rfl) T.z_max (by decide +kernel) (pa_cons pe_int (pa_cons (pe_callB (call_min2 rfl) (by rfl) T.z_min (by decide +kernel) (pa_cons pe_int (pa_cons (pe_op op_add (pe_call (ok__law_begin_of T) (hr.mono (by decide)) (by rfl) T.g__law_begin_of T.F__law_begin_of.kp T.b__law_begin_of .nil pass0 (pa_cons (pv 1) pa_nil)) (pv 2)) pa_nil))) pa_nil)))))))), ?_⟩
    refine ⟨_, rfl, d, n, rfl, hD, by omega, fun H1 y kp1 D1 y1 y2 => ?_⟩
    refine ⟨_, _, rfl, rfl, _, _, rfl, rfl, _, _, rfl, rfl, _, _, rfl, rfl, _, rfl, d, 31536000, n + 5, rfl, D1, by decide, by decide, by omega, fun H2 k2 kp2 D2 a2 b2 => ?_⟩
    refine ⟨(by show 10 ≤ sizeLine; decide), fun p1 n1 => ?_⟩
    obtain ⟨kvs2, hd2⟩ := D2.dic
    have ne1 : p1 ≠ d := (ne_of_none hd2 n1).symm
    have D2' := D2.same (same_new (o := .lst [.int (0 - 2), .int (0 - 1), .int 0, .int 1, .int 86399, .int 86400, .int 50400, .int (0 - 50400), .int (0 - 50401), .int k2]) n1)
    refine ⟨_, rfl, _, rfl, d, 10, n + 5 + 1, rfl, D2', by decide, by decide, by omega, fun H3 k3 kp3 D3 a3 b3 => ?_⟩
    obtain ⟨v, hv, hm⟩ := at_some (xs := [V.int (0 - 2), .int (0 - 1), .int 0, .int 1, .int 86399, .int 86400, .int 50400, .int (0 - 50400), .int (0 - 50401), .int k2]) a3 b3
    obtain ⟨z, rfl⟩ : ∃ y, v = .int y := by
      simp only [List.mem_cons, List.not_mem_nil, or_false] at hm
      rcases hm with rfl | rfl | rfl | rfl | rfl | rfl | rfl | rfl | rfl | rfl <;> exact ⟨_, rfl⟩
    refine ⟨p1, _, k3, _, rfl, rfl, SqL.of (kp3 _ _ ne1 upd_same), hv, ?_⟩
    refine ⟨_, rfl, y, rfl, _, rfl, _, _, rfl, rfl, _, _, rfl, _, _, rfl, ?_⟩
    refine q H3 _ (fun a o na e => ?_) (D3.more (by omega)) ?_ ?_
    · exact kp3 _ _ na (same_new n1 _ _ (kp2 _ _ na (kp1 _ _ na e)))
    · split <;> omega
    · split <;> (try split) <;> omega
def sp__law_zone : Sp := fun vs H Q _ => ∃ (d : Addr) (n : Int), vs = [.ref d] ∧ Draw H d n ∧ n ≤ 800000000 ∧ ∀ H' y, Keep d H H' → Draw H' d (n + 2) → -840 ≤ y → y ≤ 840 → Q (.int y) H'
theorem ok__law_zone (T : Txt K mg) : FnOk P w K mg base CX0 3 T.a__law_zone T.d__law_zone ["draw"] sp__law_zone := by
  refine T.F__law_zone.ok sc__law_zone (fun vs H Q E h => ?_) (fun cdv A outer s H vs Q E hr h => ?_)
  · obtain ⟨d, n, rfl, _⟩ := h; rfl
  · obtain ⟨d, n, rfl, hD, hn, q⟩ := h
    refine ⟨_, (pss_one (ps_ret (pe_ix ix_list (pe_lst (pa_cons pe_int (pa_cons pe_int (pa_cons pe_int (pa_cons (pe_op op_sub pe_int pe_int) (pa_cons pe_int (pa_cons (pe_op op_sub pe_int pe_int) (pa_cons pe_int (pa_cons pe_int (pa_cons (pe_op op_sub pe_int pe_int) (pa_cons (pe_op op_sub (pe_call (ok__law_next T) (hr.mono (by decide)) (by rfl) T.g__law_next T.F__law_next.kp T.b__law_next .nil pass0 (pa_cons (pv 0) (pa_cons pe_int pa_nil))) pe_int) pa_nil))))))))))) (pe_call (ok__law_next T) (hr.mono (by decide)) (by rfl) T.g__law_next T.F__law_next.kp T.b__law_next .nil pass0 (pa_cons (pv 0) (pa_cons pe_int pa_nil))) (fun _ _ => rfl)))), ?_⟩
    refine ⟨_, _, rfl, rfl, _, _, rfl, rfl, _, _, rfl, rfl, _, rfl, d, 1681, n, rfl, hD, by decide, by decide, by omega, fun H2 k2 kp2 D2 a2 b2 => ?_⟩
    refine ⟨_, _, rfl, rfl, (by show 10 ≤ sizeLine; decide), fun p1 n1 => ?_⟩
    obtain ⟨kvs2, hd2⟩ := D2.dic
    have ne1 : p1 ≠ d := (ne_of_none hd2 n1).symm
    have D2' := D2.same (same_new (o := .lst [.int 0, .int 0, .int 1, .int (0 - 1), .int 60, .int (0 - 60), .int 330, .int 840, .int (0 - 840), .int (k2 - 840)]) n1)
    refine ⟨_, rfl, d, 10, n + 1, rfl, D2', by decide, by decide, by omega, fun H3 k3 kp3 D3 a3 b3 => ?_⟩
    obtain ⟨v, hv, hm⟩ := at_some (xs := [V.int 0, .int 0, .int 1, .int (0 - 1), .int 60, .int (0 - 60), .int 330, .int 840, .int (0 - 840), .int (k2 - 840)]) a3 b3
    obtain ⟨z, rfl, z1, z2⟩ : ∃ y, v = .int y ∧ -840 ≤ y ∧ y ≤ 840 := by
      simp only [List.mem_cons, List.not_mem_nil, or_false] at hm
      rcases hm with rfl | rfl | rfl | rfl | rfl | rfl | rfl | rfl | rfl | rfl <;> exact ⟨_, rfl, by omega, by omega⟩
    refine ⟨p1, _, k3, _, rfl, rfl, SqL.of (kp3 _ _ ne1 upd_same), hv, ?_⟩
    exact q H3 _ (fun a o na e => kp3 _ _ na (same_new n1 _ _ (kp2 _ _ na e))) (D3.more (by omega)) z1 z2
end
end Toy
set_option Elab.async false
set_option linter.all false
set_option maxRecDepth 100000
set_option maxHeartbeats 4000000
namespace Ma
def leapM (m : Int) : Bool := decide (yearB m % 40 = 0) && decide (m = begins (yearB m + 1) - 1)
def leapI (m : Int) : Int := if leapM m = true then 1 else 0
/-- seconds of local time ahead of a moment, leap seconds not counted -/
def locS (m z : Int) : Int := m - leapI m - (yearB m - 1) / 40 + 60 * z
def m12 (n : Int) : Int := if 12 < n / 28 then 12 else n / 28
def dateP (m z : Int) : List Int :=
  [yearOf (locS m z / 86400), m12 (locS m z / 86400 - days (yearOf (locS m z / 86400))) + 1, locS m z / 86400 - days (yearOf (locS m z / 86400)) - 28 * m12 (locS m z / 86400 - days (yearOf (locS m z / 86400))) + 1,
    locS m z % 86400 / 3600, locS m z % 86400 / 60 % 60, locS m z % 86400 % 60 + leapI m, z]
def okP (m z : Int) : Bool := decide (1 ≤ yearOf (locS m z / 86400)) && decide (yearOf (locS m z / 86400) ≤ 9999)
theorem year_pos (d : Int) : 1 ≤ yearOf d ↔ 0 ≤ d := by
  obtain ⟨a, b⟩ := year_spec d
  constructor
  · intro h
    have := days_le (x := 1) (y := yearOf d) h
    rw [days_one] at this
    omega
  · intro h
    have : days 1 < days (yearOf d + 1) := by rw [days_one]; omega
    rw [days_lt_iff] at this
    omega
theorem leap_iff {m : Int} (h0 : 0 ≤ m) (h1 : m ≤ 315537638648) : (m - (yearB m - 1) / 40 = days (yearB m + 1) * 86400) ↔ leapM m = true := by
  obtain ⟨a, b⟩ := yearB_spec h0 h1
  unfold leapM
  simp only [Bool.and_eq_true, decide_eq_true_eq]
  generalize yearB m = y at *
  unfold begins at *
  rw [show y + 1 - 1 = y by omega] at *
  constructor
  · intro h
    constructor <;> omega
  · rintro ⟨c1, c2⟩
    omega
theorem month_eq {n : Int} (h0 : 0 ≤ n) (h1 : n ≤ 365) : monthOf n = m12 n + 1 := by
  unfold monthOf m12
  split <;> split <;> omega
theorem date_eq {m z : Int} (h0 : 0 ≤ m) (h1 : m ≤ 315537638648) : dateL m z = if okP m z = true then some (dateP m z) else none := by
  have core : ∀ (p : Int) (sec : Option Int), p + 60 * z = locS m z → (match sec with | none => leapI m = 0 | some s => s = locS m z % 86400 % 60 + leapI m) →
      locL p sec z = if okP m z = true then some (dateP m z) else none := by
    intro p sec hp hs
    unfold locL okP dateP
    rw [hp]
    generalize locS m z = l at *
    obtain ⟨a, b⟩ := year_spec (l / 86400)
    have yp := year_pos (l / 86400)
    have st := days_step2 (yearOf (l / 86400))
    generalize yearOf (l / 86400) = y at *
    by_cases c : l < 0 ∨ 9999 < y
    · rw [if_pos c, if_neg]
      simp only [Bool.and_eq_true, decide_eq_true_eq]
      omega
    · rw [if_neg c, if_pos (by simp only [Bool.and_eq_true, decide_eq_true_eq]; omega)]
      rw [month_eq (by omega) (by omega)]
      have e1 : l / 86400 - days y - 28 * (m12 (l / 86400 - days y) + 1 - 1) + 1 = l / 86400 - days y - 28 * m12 (l / 86400 - days y) + 1 := by omega
      have e2 : l % 86400 / 60 - l % 86400 / 3600 * 60 = l % 86400 / 60 % 60 := by omega
      rw [e1, e2]
      cases sec with
      | none =>
        have e3 : l % 86400 - l % 86400 / 60 * 60 = l % 86400 % 60 + leapI m := by
          have : leapI m = 0 := hs
          omega
        simp only [e3]
      | some s =>
        have e3 : s = l % 86400 % 60 + leapI m := hs
        simp only [← e3]
  unfold dateL
  by_cases c : m - (yearB m - 1) / 40 = days (yearB m + 1) * 86400
  · rw [if_pos c]
    have lm := (leap_iff h0 h1).mp c
    have li : leapI m = 1 := if_pos lm
    refine core _ _ ?_ ?_
    · unfold locS; rw [li]; omega
    · show (60 : Int) = locS m z % 86400 % 60 + leapI m
      rw [li]
      unfold locS
      rw [li]
      omega
  · rw [if_neg c]
    have li : leapI m = 0 := if_neg fun h => c ((leap_iff h0 h1).mpr h)
    refine core _ _ ?_ li
    unfold locS; rw [li]; omega
end Ma
namespace Toy
open PySem PySem.Spec PyProof.Rows L2
theorem dateV_true {H : Hp} {v : V} (h : isDateV H v = true) : ∃ (a : Addr) (y mo d hh mi s z : Int), v = .ref a ∧ H a = some (.tup [.int y, .int mo, .int d, .int hh, .int mi, .int s, .int z]) ∧ Ma.isDate y mo d hh mi s z = true := by
  unfold isDateV at h
  split at h
  · rename_i a
    split at h
    · rename_i xs hx
      unfold isDateL at h
      split at h
      · exact ⟨a, _, _, _, _, _, _, _, rfl, hx, h⟩
      · cases h
    · cases h
  · cases h
section
variable {P : Program} {w : World} {K : PySem.W.Frag} {mg : Str → Option Value} {base : Heap}
def sp__leap_seconds_before : Sp := fun vs H Q _ => ∃ y, vs = [.int y] ∧ Q (.int ((y - 1) / 40)) H
def sp__begin_of : Sp := fun vs H Q _ => ∃ y, vs = [.int y] ∧ Q (.int (Ma.begins y)) H
def sp__year_at : Sp := fun vs H Q _ => ∃ m, vs = [.int m] ∧ ∀ H', Same H H' → Q (.int (Ma.yearB m)) H'
def sp__month_and_day : Sp := fun vs H Q _ => ∃ n, vs = [.int n] ∧ ∀ H' r, Same H H' → H' r = some (.tup [.int (Ma.m12 n + 1), .int (n - 28 * Ma.m12 n + 1)]) → Q (.ref r) H'
def sp_date_of (CM CZ CD : Addr) : Sp := fun vs H Q E => ∃ (d : Addr) (v1 v2 : V) (k1 k2 : String), vs = [v1, v2] ∧ Thg d H v1 k1 ∧ Thg d H v2 k2 ∧
  (inR v1 0 315537638648 = false → ∀ dx, H dx = none → E (.ref CM) (some dx) (upd H dx (.xd [(("given" : Str), v1)]))) ∧
  (inR v1 0 315537638648 = true → inR v2 (-840) 840 = false → ∀ dx, H dx = none → E (.ref CZ) (some dx) (upd H dx (.xd [(("given" : Str), v2)]))) ∧
  ∀ m z, v1 = .int m → v2 = .int z → 0 ≤ m → m ≤ 315537638648 → -840 ≤ z → z ≤ 840 →
    (Ma.dateL m z = none → ∀ H' p dx, Same H H' → H' p = some (.tup [.int m, .int z]) → H' dx = none → E (.ref CD) (some dx) (upd H' dx (.xd [(("given" : Str), .ref p)]))) ∧
    ∀ l, Ma.dateL m z = some l → ∀ H' r, Same H H' → H' r = some (.tup (l.map V.int)) → Q (.ref r) H'
def sp_moment_of (CD : Addr) : Sp := fun vs H Q E => ∃ (dd : Addr) (v : V), vs = [v] ∧ Good dd H v ∧
  (isDateV H v = false → ∀ H' dx, Same H H' → H' dx = none → E (.ref CD) (some dx) (upd H' dx (.xd [(("given" : Str), v)]))) ∧
  ∀ a y mo d h mi s z, v = .ref a → H a = some (.tup [.int y, .int mo, .int d, .int h, .int mi, .int s, .int z]) → Ma.isDate y mo d h mi s z = true → ∀ H', Same H H' → Q (.int (Ma.moment y mo d h mi s z)) H'
end
end Toy
set_option maxRecDepth 100000
set_option maxHeartbeats 4000000
namespace Ma
theorem dim_days (y : Int) : 336 + dim y 13 = days (y + 1) - days y := by
  unfold dim leapY days
  rw [if_neg (by omega)]
  split
  · rename_i h
    simp only [Bool.and_eq_true, decide_eq_true_eq] at h
    omega
  · rename_i h
    have : ¬ (y % 4 = 0 ∧ y % 128 ≠ 0) := by simpa using h
    omega
/-- what a moment's date is made of -/
theorem base_at {m : Int} (h0 : 0 ≤ m) (h1 : m ≤ 315537638648) :
    days (yearB m) * 86400 ≤ m - leapI m - (yearB m - 1) / 40 ∧ m - leapI m - (yearB m - 1) / 40 < days (yearB m + 1) * 86400 ∧ 1 ≤ yearB m ∧ yearB m ≤ 9999 ∧
      (leapM m = true → m - leapI m - (yearB m - 1) / 40 = days (yearB m + 1) * 86400 - 1) := by
  obtain ⟨a, b⟩ := yearB_spec h0 h1
  have lf : leapM m = true → yearB m % 40 = 0 ∧ m = begins (yearB m + 1) - 1 := by
    intro h
    unfold leapM at h
    simpa using h
  have ln : leapM m = false → ¬ (yearB m % 40 = 0 ∧ m = begins (yearB m + 1) - 1) := by
    intro h
    unfold leapM at h
    simpa using h
  have li : (leapM m = true ∧ leapI m = 1) ∨ (leapM m = false ∧ leapI m = 0) := by
    unfold leapI
    cases leapM m with
    | true => exact .inl ⟨rfl, rfl⟩
    | false => exact .inr ⟨rfl, rfl⟩
  generalize leapM m = lm at *
  generalize leapI m = lp at *
  generalize yearB m = y at *
  have y1 : 1 ≤ y := by
    by_cases c : 1 ≤ y
    · exact c
    · have := begins_mono (x := y) (y := 1) (by omega)
      have e : begins 1 = 0 := rfl
      by_cases c2 : y + 1 ≤ 1
      · by_cases c3 : y + 1 = 1
        · rw [c3] at b; omega
        · have := begins_mono (x := y + 1) (y := 1) (by omega); omega
      · omega
  have y2 : y ≤ 9999 := by
    by_cases c : y ≤ 9999
    · exact c
    · have e : begins 10000 = 315537638649 := by decide
      by_cases c2 : y = 10000
      · rw [c2, e] at a; omega
      · have := begins_mono (x := 10000) (y := y) (by omega); omega
  have st := days_step y
  unfold begins at *
  rw [show y + 1 - 1 = y by omega] at *
  rcases li with ⟨rfl, rfl⟩ | ⟨rfl, rfl⟩
  · obtain ⟨c1, c2⟩ := lf rfl
    exact ⟨by omega, by omega, y1, y2, fun _ => by omega⟩
  · have c1 := ln rfl
    refine ⟨by omega, ?_, y1, y2, fun z => by cases z⟩
    by_cases c : y % 40 = 0
    · have : ¬ (m = days (y + 1) * 86400 + y / 40 - 1) := fun z => c1 ⟨c, z⟩
      omega
    · omega
def dY (m z : Int) : Int := yearOf (locS m z / 86400)
def dN (m z : Int) : Int := locS m z / 86400 - days (dY m z)
theorem dateP_is (m z : Int) : dateP m z = [dY m z, m12 (dN m z) + 1, dN m z - 28 * m12 (dN m z) + 1, locS m z % 86400 / 3600, locS m z % 86400 / 60 % 60, locS m z % 86400 % 60 + leapI m, z] := rfl
theorem there_back {m z : Int} (h0 : 0 ≤ m) (h1 : m ≤ 315537638648) (z0 : -840 ≤ z) (z1 : z ≤ 840) (ok : okP m z = true) :
    isDate (dY m z) (m12 (dN m z) + 1) (dN m z - 28 * m12 (dN m z) + 1) (locS m z % 86400 / 3600) (locS m z % 86400 / 60 % 60) (locS m z % 86400 % 60 + leapI m) z = true ∧
      moment (dY m z) (m12 (dN m z) + 1) (dN m z - 28 * m12 (dN m z) + 1) (locS m z % 86400 / 3600) (locS m z % 86400 / 60 % 60) (locS m z % 86400 % 60 + leapI m) z = m ∧
      before (dY m z) (m12 (dN m z) + 1) (dN m z - 28 * m12 (dN m z) + 1) (locS m z % 86400 / 3600) (locS m z % 86400 / 60 % 60) (locS m z % 86400 % 60 + leapI m) z = m - leapI m - (yearB m - 1) / 40 := by
  obtain ⟨b1, b2, y1, y2, b3⟩ := base_at h0 h1
  have okl : 1 ≤ dY m z ∧ dY m z ≤ 9999 := by unfold okP at ok; simpa [dY] using ok
  obtain ⟨d1, d2⟩ := year_spec (locS m z / 86400)
  have hL : locS m z = m - leapI m - (yearB m - 1) / 40 + 60 * z := rfl
  have li : (leapM m = true ∧ leapI m = 1) ∨ (leapM m = false ∧ leapI m = 0) := by
    unfold leapI
    cases leapM m with
    | true => exact .inl ⟨rfl, rfl⟩
    | false => exact .inr ⟨rfl, rfl⟩
  have hN : dN m z = locS m z / 86400 - days (dY m z) := rfl
  have st := dim_days (dY m z)
  have n0 : 0 ≤ dN m z := by unfold dN dY; omega
  have n1 : dN m z < 336 + dim (dY m z) 13 := by rw [st, hN]; unfold dY; omega
  have dimB : dim (dY m z) 13 ≤ 30 := by unfold dim; rw [if_neg (by omega)]; split <;> omega
  generalize hY : dY m z = Y at *
  generalize dN m z = N at *
  generalize hl : locS m z = l at *
  have mm : m12 N = (if 12 < N / 28 then 12 else N / 28) := rfl
  have mmB : 0 ≤ m12 N ∧ m12 N ≤ 12 ∧ (m12 N < 12 → m12 N = N / 28) ∧ (m12 N = 12 → 336 ≤ N) := by
    rw [mm]; split <;> omega
  generalize m12 N = M at *
  have lp60 : leapM m = true → l % 86400 % 60 = 59 := by
    intro h
    have := b3 h
    omega
  have eb : before Y (M + 1) (N - 28 * M + 1) (l % 86400 / 3600) (l % 86400 / 60 % 60) (l % 86400 % 60 + leapI m) z = m - leapI m - (yearB m - 1) / 40 := by
    unfold before plain
    rcases li with ⟨c, e⟩ | ⟨c, e⟩
    · have := lp60 c
      rw [e] at hL ⊢
      rw [if_pos (by omega)]
      omega
    · rw [e] at hL ⊢
      rw [if_neg (by omega)]
      omega
  have hB : yearOf ((m - leapI m - (yearB m - 1) / 40) / 86400) = yearB m := (year_uniq (by omega) (by omega)).symm
  refine ⟨?_, ?_, eb⟩
  · have f : fits Y (M + 1) (N - 28 * M + 1) (l % 86400 / 3600) (l % 86400 / 60 % 60) (l % 86400 % 60 + leapI m) z = true := by
      have dd : N - 28 * M + 1 ≤ dim Y (M + 1) := by
        by_cases c : M < 12
        · have : dim Y (M + 1) = 28 := by unfold dim; rw [if_pos (by omega)]
          have := mmB.2.2.1 c
          omega
        · have e12 : M = 12 := by omega
          have : dim Y (M + 1) = dim Y 13 := by rw [e12]; rfl
          rw [this]
          omega
      have d1' : 1 ≤ N - 28 * M + 1 := by
        by_cases c : M < 12
        · have := mmB.2.2.1 c; omega
        · have := mmB.2.2.2 (by omega); omega
      unfold fits within
      simp only [Bool.and_eq_true, decide_eq_true_eq]
      rcases li with ⟨c, e⟩ | ⟨c, e⟩ <;> rw [e] <;> omega
    unfold isDate
    rw [f, eb, Bool.true_and]
    have q1 : decide (0 ≤ m - leapI m - (yearB m - 1) / 40) = true := by
      have := days_le (x := 1) (y := yearB m) y1
      rw [days_one] at this
      simp only [decide_eq_true_eq]; omega
    have q2 : decide (m - leapI m - (yearB m - 1) / 40 < 86400 * days 10000) = true := by
      have := days_le (x := yearB m + 1) (y := 10000) (by omega)
      simp only [decide_eq_true_eq]; omega
    rw [q1, q2, Bool.true_and, Bool.true_and]
    rcases li with ⟨c, e⟩ | ⟨c, e⟩
    · have q3 : isLeap (m - leapI m - (yearB m - 1) / 40) = true := by
        unfold isLeap
        rw [hB]
        have lf : yearB m % 40 = 0 ∧ m = begins (yearB m + 1) - 1 := by unfold leapM at c; simpa using c
        have := b3 c
        simp only [Bool.and_eq_true, decide_eq_true_eq]
        exact ⟨lf.1, by omega⟩
      rw [q3, Bool.or_true]
    · have q3 : decide (l % 86400 % 60 + leapI m < 60) = true := by rw [e]; simp only [decide_eq_true_eq]; omega
      rw [q3, Bool.true_or]
  · unfold moment
    rw [eb, hB]
    rcases li with ⟨c, e⟩ | ⟨c, e⟩
    · have := lp60 c
      rw [e, if_pos (by omega)]
      omega
    · rw [e, if_neg (by omega)]
      omega
end Ma
set_option Elab.async false
set_option linter.all false
set_option maxRecDepth 100000
set_option maxHeartbeats 4000000
namespace Ma
open PySem HT
theorem lex_irr : ∀ l : List Int, lexLt l l = false
  | [] => rfl
  | x :: xs => by rw [lexLt_cons, if_pos rfl]; exact lex_irr xs
theorem lex_asym : ∀ {a b : List Int}, lexLt a b = true → lexLt b a = false
  | [], [], h => by cases h
  | [], _ :: _, _ => rfl
  | _ :: _, [], h => by cases h
  | x :: xs, y :: ys, h => by
    rw [lexLt_cons] at h ⊢
    by_cases c : x = y
    · rw [if_pos c] at h
      rw [if_pos c.symm]
      exact lex_asym h
    · rw [if_neg c] at h
      rw [if_neg fun z => c z.symm]
      have : x < y := of_decide_eq_true h
      exact decide_eq_false (by omega)
theorem lex_lt {x y : Int} {xs ys : List Int} (h : x < y ∨ (x = y ∧ lexLt xs ys = true)) : lexLt (x :: xs) (y :: ys) = true := by
  rw [lexLt_cons]
  by_cases c : x = y
  · rw [if_pos c]
    rcases h with h | h
    · omega
    · exact h.2
  · rw [if_neg c]
    rcases h with h | h
    · exact decide_eq_true h
    · exact absurd h.1 c
theorem leap_cases (m : Int) : (leapM m = true ∧ leapI m = 1) ∨ (leapM m = false ∧ leapI m = 0) := by
  unfold leapI
  cases leapM m with
  | true => exact .inl ⟨rfl, rfl⟩
  | false => exact .inr ⟨rfl, rfl⟩
theorem leap_last {m z : Int} (h0 : 0 ≤ m) (h1 : m ≤ 315537638648) (h : leapI m = 1) : locS m z % 60 = 59 := by
  obtain ⟨b1, b2, y1, y2, b3⟩ := base_at h0 h1
  rcases leap_cases m with ⟨c, e⟩ | ⟨c, e⟩
  · have := b3 c
    unfold locS
    omega
  · omega
/-- later moments are later in local time -/
theorem later {m n z : Int} (h0 : 0 ≤ m) (h : m < n) (h1 : n ≤ 315537638648) : locS m z < locS n z ∨ (locS m z = locS n z ∧ leapI m = 0 ∧ leapI n = 1) := by
  obtain ⟨b1, b2, y1, y2, b3⟩ := base_at h0 (show m ≤ 315537638648 by omega)
  obtain ⟨c1, c2, w1, w2, c3⟩ := base_at (show 0 ≤ n by omega) h1
  obtain ⟨s1, s2⟩ := yearB_spec h0 (show m ≤ 315537638648 by omega)
  obtain ⟨t1, t2⟩ := yearB_spec (show 0 ≤ n by omega) h1
  have li := leap_cases m
  have lj := leap_cases n
  have lm : leapM m = true → m = begins (yearB m + 1) - 1 := by
    intro h
    unfold leapM at h
    simp only [Bool.and_eq_true, decide_eq_true_eq] at h
    exact h.2
  unfold locS
  by_cases c : yearB m = yearB n
  · rw [← c] at *
    rcases li with ⟨e1, e2⟩ | ⟨e1, e2⟩
    · have := lm e1; omega
    · rcases lj with ⟨f1, f2⟩ | ⟨f1, f2⟩ <;> omega
  · have lt : yearB m < yearB n := by
      by_cases d : yearB m < yearB n
      · exact d
      · have := begins_mono (x := yearB n) (y := yearB m) (by omega)
        by_cases d2 : yearB n + 1 = yearB m
        · rw [d2] at t2; omega
        · have := begins_mono (x := yearB n + 1) (y := yearB m) (by omega); omega
    have dl := days_le (x := yearB m + 1) (y := yearB n) (by omega)
    left
    omega
theorem year_mono {d e : Int} (h : d ≤ e) : yearOf d ≤ yearOf e := by
  obtain ⟨a1, a2⟩ := year_spec d
  obtain ⟨b1, b2⟩ := year_spec e
  have : days (yearOf d) < days (yearOf e + 1) := by omega
  rw [days_lt_iff] at this
  omega
theorem order {m n z : Int} (h0 : 0 ≤ m) (h : m < n) (h1 : n ≤ 315537638648) : lexLt (dateP m z) (dateP n z) = true := by
  have la := later (z := z) h0 h h1
  have ll := leap_last (z := z) h0 (show m ≤ 315537638648 by omega)
  have li := leap_cases m
  have lj := leap_cases n
  obtain ⟨a1, a2⟩ := year_spec (locS m z / 86400)
  obtain ⟨b1, b2⟩ := year_spec (locS n z / 86400)
  have ym := year_mono (d := locS m z / 86400) (e := locS n z / 86400) (by omega)
  have ye : locS m z / 86400 = locS n z / 86400 → yearOf (locS m z / 86400) = yearOf (locS n z / 86400) := fun e => by rw [e]
  rw [dateP_is, dateP_is]
  unfold dN dY
  generalize leapI m = f at *
  generalize leapI n = g at *
  generalize locS m z = L at *
  generalize locS n z = M at *
  generalize eY : yearOf (L / 86400) = Y at *
  generalize eZ : yearOf (M / 86400) = Z at *
  have hf : (f = 1 ∨ f = 0) ∧ (g = 1 ∨ g = 0) := by
    refine ⟨?_, ?_⟩
    · rcases li with ⟨_, e⟩ | ⟨_, e⟩ <;> simp [e]
    · rcases lj with ⟨_, e⟩ | ⟨_, e⟩ <;> simp [e]
  clear li lj
  by_cases c : Y < Z
  · exact lex_lt (.inl c)
  have e : Y = Z := by omega
  subst e
  refine lex_lt (.inr ⟨rfl, ?_⟩)
  have dd : L / 86400 < M / 86400 ∨ L / 86400 = M / 86400 := by omega
  rcases dd with dd | dd
  · have hn : L / 86400 - days Y < M / 86400 - days Y := by omega
    generalize L / 86400 - days Y = p at *
    generalize M / 86400 - days Y = q at *
    unfold m12
    by_cases c1 : 12 < p / 28
    · by_cases c2 : 12 < q / 28
      · rw [if_pos c1, if_pos c2]
        exact lex_lt (.inr ⟨rfl, lex_lt (.inl (by omega))⟩)
      · omega
    · by_cases c2 : 12 < q / 28
      · rw [if_neg c1, if_pos c2]
        by_cases c3 : p / 28 = 12
        · exact lex_lt (.inr ⟨by omega, lex_lt (.inl (by omega))⟩)
        · exact lex_lt (.inl (by omega))
      · rw [if_neg c1, if_neg c2]
        by_cases c3 : p / 28 = q / 28
        · exact lex_lt (.inr ⟨by omega, lex_lt (.inl (by omega))⟩)
        · exact lex_lt (.inl (by omega))
  · rw [dd]
    refine lex_lt (.inr ⟨rfl, lex_lt (.inr ⟨rfl, ?_⟩)⟩)
    have k : L % 86400 < M % 86400 ∨ (L % 86400 = M % 86400 ∧ f = 0 ∧ g = 1) := by omega
    have k2 : f = 1 → L % 86400 % 60 = 59 := by intro h; have := ll h; omega
    generalize L % 86400 = s at *
    generalize M % 86400 = t at *
    by_cases c1 : s / 3600 = t / 3600
    · refine lex_lt (.inr ⟨c1, ?_⟩)
      by_cases c2 : s / 60 = t / 60
      · exact lex_lt (.inr ⟨by omega, lex_lt (.inl (by omega))⟩)
      · exact lex_lt (.inl (by omega))
    · exact lex_lt (.inl (by omega))
/-- two dates are ordered like their moments -/
theorem order_is {m n z : Int} {l k : List Int} (m0 : 0 ≤ m) (m1 : m ≤ 315537638648) (n0 : 0 ≤ n) (n1 : n ≤ 315537638648) (el : dateL m z = some l) (ek : dateL n z = some k) :
    lexLt l k = decide (m < n) ∧ decide (l = k) = decide (m = n) := by
  rw [date_eq m0 m1] at el
  rw [date_eq n0 n1] at ek
  split at el
  · split at ek
    · cases el
      cases ek
      have ne : ∀ {x y : List Int}, lexLt x y = true → x ≠ y := fun h z => by rw [z, lex_irr] at h; cases h
      rcases Int.lt_trichotomy m n with c | c | c
      · have o := order (z := z) m0 c n1
        rw [o, decide_eq_true c, decide_eq_false (ne o), decide_eq_false (by omega)]
        exact ⟨rfl, rfl⟩
      · subst c
        rw [lex_irr, decide_eq_false (by omega), decide_eq_true rfl, decide_eq_true rfl]
        exact ⟨rfl, rfl⟩
      · have o := order (z := z) n0 c m1
        rw [lex_asym o, decide_eq_false (by omega), decide_eq_false (ne o).symm, decide_eq_false (by omega)]
        exact ⟨rfl, rfl⟩
    · cases ek
  · cases el
theorem ok_zero {m : Int} (h0 : 0 ≤ m) (h1 : m ≤ 315537638648) : okP m 0 = true := by
  obtain ⟨b1, b2, y1, y2, b3⟩ := base_at h0 h1
  have e : locS m 0 = m - leapI m - (yearB m - 1) / 40 := by unfold locS; omega
  have u := year_uniq (d := locS m 0 / 86400) (y := yearB m) (by omega) (by omega)
  unfold okP
  rw [← u]
  simp [y1, y2]
/-- a date is small -/
theorem date_small {m z : Int} {l : List Int} (h0 : 0 ≤ m) (h1 : m ≤ 315537638648) (z0 : -840 ≤ z) (z1 : z ≤ 840) (el : dateL m z = some l) : (∀ i ∈ l, i.natAbs < 10 ^ 12) ∧ l.length = 7 := by
  refine ⟨?_, dateL_seven el⟩
  rw [date_eq h0 h1] at el
  split at el
  · rename_i ok
    cases el
    have okl : 1 ≤ dY m z ∧ dY m z ≤ 9999 := by unfold okP at ok; simpa [dY] using ok
    obtain ⟨a1, a2⟩ := year_spec (locS m z / 86400)
    have st := days_step2 (yearOf (locS m z / 86400))
    have lc := leap_cases m
    rw [dateP_is]
    have n1 : 0 ≤ dN m z ∧ dN m z ≤ 366 := by unfold dN dY; omega
    have mm : 0 ≤ m12 (dN m z) ∧ m12 (dN m z) ≤ 12 := by unfold m12; split <;> omega
    have e12 : (10 : Nat) ^ 12 = 1000000000000 := by decide
    intro i hi
    simp only [List.mem_cons, List.not_mem_nil, or_false] at hi
    rw [e12]
    rcases hi with rfl | rfl | rfl | rfl | rfl | rfl | rfl <;> omega
  · cases el
/-- the parts of a date -/
theorem date_parts {m z : Int} {l : List Int} (h0 : 0 ≤ m) (h1 : m ≤ 315537638648) (z0 : -840 ≤ z) (z1 : z ≤ 840) (el : dateL m z = some l) :
    ∃ y mo d h mi s, l = [y, mo, d, h, mi, s, z] ∧ isDate y mo d h mi s z = true ∧ moment y mo d h mi s z = m := by
  rw [date_eq h0 h1] at el
  split at el
  · rename_i ok
    cases el
    obtain ⟨t1, t2, _⟩ := there_back h0 h1 z0 z1 ok
    exact ⟨_, _, _, _, _, _, rfl, t1, t2⟩
  · cases el
end Ma
namespace Toy
open PySem PySem.Spec PyProof.Rows L2
theorem eqv_ints : ∀ (l k : List Int), PyData.eqvAll (l.map PyData.int) (k.map PyData.int) = decide (l = k)
  | [], [] => rfl
  | [], _ :: _ => by simp [PyData.eqvAll]
  | _ :: _, [] => by simp [PyData.eqvAll]
  | x :: xs, y :: ys => by
    simp only [List.map_cons, PyData.eqvAll, PyData.eqv]
    rw [eqv_ints xs ys]
    by_cases h1 : x = y <;> by_cases h2 : xs = ys <;> simp [h1, h2]
theorem ints_data (l : List Int) : PyData.showableAll (l.map PyData.int) = decide (∀ i ∈ l, i.natAbs.log2 < 1920) ∧ PyData.hasDictAll (l.map PyData.int) = false ∧ PyData.depthAll (l.map PyData.int) = 0 ∧ PyData.canLayAll0 (l.map PyData.int) = PyData.canLayAll0 (l.map PyData.int) := by
  induction l with
  | nil => exact ⟨by simp [PyData.showableAll], rfl, rfl, rfl⟩
  | cons i l ih =>
    obtain ⟨a, b, c, d⟩ := ih
    refine ⟨?_, ?_, ?_, rfl⟩
    · simp only [List.map_cons, PyData.showableAll, PyData.showable, a]
      rw [Bool.eq_iff_iff]
      simp
    · simp only [List.map_cons, PyData.hasDictAll, PyData.hasDict, b, Bool.or_self]
    · simp only [List.map_cons, PyData.depthAll, PyData.depth, c, Nat.max_self]
theorem log_small {i : Int} (h : i.natAbs < 10 ^ 12) : i.natAbs.log2 < 40 := by
  by_cases z : i.natAbs = 0
  · rw [z]; decide
  · exact (Nat.log2_lt z).mpr (Nat.lt_of_lt_of_le h (by decide))
theorem weight_ints : ∀ (l : List Int), (∀ i ∈ l, i.natAbs < 10 ^ 12) → PyData.weightAll (l.map PyData.int) ≤ 42 * l.length
  | [], _ => by simp [PyData.weightAll]
  | i :: l, h => by
    have a := weight_ints l fun j hj => h j (List.mem_cons_of_mem _ hj)
    have b := log_small (h i List.mem_cons_self)
    simp only [List.map_cons, PyData.weightAll, PyData.weight, List.length_cons]
    split <;> omega
theorem leaves_ints : ∀ (l : List Int), (∀ i ∈ l, i.natAbs < 10 ^ 12) → PyData.leavesShortAll 13 (l.map PyData.int) = true
  | [], _ => rfl
  | i :: l, h => by
    simp only [List.map_cons, PyData.leavesShortAll, PyData.leavesShort, Bool.and_eq_true, decide_eq_true_eq]
    exact ⟨PyData.shown_int_le (h i List.mem_cons_self), leaves_ints l fun j hj => h j (List.mem_cons_of_mem _ hj)⟩
def dTup (l : List Int) : PyData := .tuple (l.map PyData.int)
def dTold (x : Str) (l : List Int) : PyData := .list [.str x, dTup l]
def Shows (d : PyData) : Prop := d.showable = true ∧ d.hasDict = false ∧ d.depth ≤ 60 ∧ d.shown.length ≤ sizeLine
theorem dTup_ok {l : List Int} (hl : ∀ i ∈ l, i.natAbs < 10 ^ 12) (n : l.length ≤ 7) : Shows (dTup l) := by
  obtain ⟨a, b, c, _⟩ := ints_data l
  refine ⟨?_, ?_, ?_, ?_⟩
  · unfold dTup
    simp only [PyData.showable, a, decide_eq_true_eq]
    intro i hi
    exact Nat.lt_trans (log_small (hl i hi)) (by decide)
  · unfold dTup; simp only [PyData.hasDict, b]
  · unfold dTup; simp only [PyData.depth, c]; omega
  · refine PyData.shown_fits (B := 13) (by decide) (by decide) ?_ ?_
    · unfold dTup; simp only [PyData.leavesShort]; exact leaves_ints l hl
    · unfold dTup; simp only [PyData.weight]
      have := weight_ints l hl
      have e : (2 : Nat) ^ 20 = 1048576 := by decide
      omega
theorem dTold_ok {x : Str} {l : List Int} (hx : x = "none" ∨ x = "date") (hl : ∀ i ∈ l, i.natAbs < 10 ^ 12) (n : l.length ≤ 7) : Shows (dTold x l) := by
  obtain ⟨a, b, c, d⟩ := dTup_ok hl n
  refine ⟨?_, ?_, ?_, ?_⟩
  · unfold dTold; simp only [PyData.showable, PyData.showableAll, a, Bool.true_and, Bool.and_true]
  · unfold dTold; simp only [PyData.hasDict, PyData.hasDictAll, b, Bool.or_self]
  · obtain ⟨_, _, e, _⟩ := ints_data l
    unfold dTold dTup; simp only [PyData.depth, PyData.depthAll, e]; omega
  · refine PyData.shown_fits (B := 13) (by decide) (by decide) ?_ ?_
    · unfold dTold dTup
      simp only [PyData.leavesShort, PyData.leavesShortAll, Bool.and_true, Bool.and_eq_true]
      refine ⟨?_, leaves_ints l hl⟩
      rcases hx with rfl | rfl <;> decide +kernel
    · have := weight_ints l hl
      have e : (2 : Nat) ^ 20 = 1048576 := by decide
      have e2 : x.cps.size = 4 := by rcases hx with rfl | rfl <;> decide +kernel
      unfold dTold dTup; simp only [PyData.weight, PyData.weightAll, e2]
      omega
end Toy
set_option Elab.async false
set_option linter.all false
set_option maxRecDepth 100000
set_option maxHeartbeats 4000000
/-! The two texts of a date, as texts. -/
namespace Tx
open PySem PySem.Spec PyProof.Rows L2 TL
def two (i : Int) : Str := intSpecTextOf "02d" i
def three (i : Int) : Str := intSpecTextOf "03d" i
def num (i : Int) : Str := Str.ofString (toString i)
theorem lawTwoN : ∀ k : Fin 100, tl (cutS ("0" ++ Str.ofString (toString ((k.val : Nat) : Int))) (some (0 - 2)) none) = tl (intSpecTextOf "02d" ((k.val : Nat) : Int)) := by decide +kernel
theorem lawTwo {n : Int} (h0 : 0 ≤ n) (h1 : n < 100) : cutS ("0" ++ num n) (some (0 - 2)) none = two n := by
  obtain ⟨k, rfl⟩ : ∃ k : Nat, n = (k : Int) := ⟨n.toNat, by omega⟩
  exact ext_tl (lawTwoN ⟨k, by omega⟩)
theorem lawThreeN : ∀ k : Fin 400, tl (cutS ("00" ++ Str.ofString (toString ((k.val : Nat) : Int))) (some (0 - 3)) none) = tl (intSpecTextOf "03d" ((k.val : Nat) : Int)) := by decide +kernel
theorem lawThree {n : Int} (h0 : 0 ≤ n) (h1 : n < 400) : cutS ("00" ++ num n) (some (0 - 3)) none = three n := by
  obtain ⟨k, rfl⟩ : ∃ k : Nat, n = (k : Int) := ⟨n.toNat, by omega⟩
  exact ext_tl (lawThreeN ⟨k, by omega⟩)
theorem lenTwoN : ∀ k : Fin 100, (intSpecTextOf "02d" ((k.val : Nat) : Int)).length = 2 := by decide +kernel
theorem len_two {n : Int} (h0 : 0 ≤ n) (h1 : n < 100) : (two n).length = 2 := by
  obtain ⟨k, rfl⟩ : ∃ k : Nat, n = (k : Int) := ⟨n.toNat, by omega⟩
  exact lenTwoN ⟨k, by omega⟩
theorem lenThreeN : ∀ k : Fin 400, (intSpecTextOf "03d" ((k.val : Nat) : Int)).length = 3 := by decide +kernel
theorem len_three {n : Int} (h0 : 0 ≤ n) (h1 : n < 400) : (three n).length = 3 := by
  obtain ⟨k, rfl⟩ : ∃ k : Nat, n = (k : Int) := ⟨n.toNat, by omega⟩
  exact lenThreeN ⟨k, by omega⟩
theorem len_num {i : Int} (h0 : 0 ≤ i) (h1 : i < 100000) : (num i).length ≤ 13 := PyData.shown_int_le (by
  have e12 : (10 : Nat) ^ 12 = 1000000000000 := by decide
  omega)
def wdL : List Str := ["Ar", "Be", "Co", "Da", "Ev", "Fo", "Gi", "Rest"]
def monL : List Str := ["Ash", "Birch", "Cedar", "Elm", "Fir", "Hazel", "Larch", "Maple", "Oak", "Pine", "Rowan", "Willow", "Yew"]
def wdT (d : Int) : Str := if d ≤ 28 then wdL.getD ((d - 1) % 7).toNat "" else "Rest"
def monT (mo : Int) : Str := monL.getD (mo - 1).toNat ""
def timeT (h mi s : Int) : Str := Str.join ":" [two h, two mi, two s]
def sgnT (z : Int) : Str := if z < 0 then "-" else "+"
def absZ (z : Int) : Int := if z < 0 then -z else z
def zoneT (z : Int) : Str := if z = 0 then "Z" else ((sgnT z ++ two (absZ z / 60)) ++ ":") ++ two (absZ z % 60)
def longT (y mo d h mi s z : Int) : Str := Str.join " " [wdT d, num d, monT mo, num y, timeT h mi s, zoneT z]
def shortT (y mo d h mi s z : Int) : Str := ((((num y ++ "/") ++ three (28 * (mo - 1) + d)) ++ "@") ++ timeT h mi s) ++ zoneT z
theorem wd_at {d : Int} (d1 : 1 ≤ d) (d2 : d ≤ 28) : L2.atI [V.str "Ar", .str "Be", .str "Co", .str "Da", .str "Ev", .str "Fo", .str "Gi", .str "Rest"] ((d - 1) % 7) = some (.str (wdT d)) := by
  unfold wdT
  rw [if_pos d2]
  have c : (d - 1) % 7 = 0 ∨ (d - 1) % 7 = 1 ∨ (d - 1) % 7 = 2 ∨ (d - 1) % 7 = 3 ∨ (d - 1) % 7 = 4 ∨ (d - 1) % 7 = 5 ∨ (d - 1) % 7 = 6 := by omega
  rcases c with c | c | c | c | c | c | c <;> rw [c] <;> rfl
theorem wd7_at {d : Int} (d1 : 1 ≤ d) (d2 : d ≤ 28) : L2.atI [V.str "Ar", .str "Be", .str "Co", .str "Da", .str "Ev", .str "Fo", .str "Gi"] ((d - 1) % 7) = some (.str (wdT d)) := by
  unfold wdT
  rw [if_pos d2]
  have c : (d - 1) % 7 = 0 ∨ (d - 1) % 7 = 1 ∨ (d - 1) % 7 = 2 ∨ (d - 1) % 7 = 3 ∨ (d - 1) % 7 = 4 ∨ (d - 1) % 7 = 5 ∨ (d - 1) % 7 = 6 := by omega
  rcases c with c | c | c | c | c | c | c <;> rw [c] <;> rfl
theorem mon_at {mo : Int} (d1 : 1 ≤ mo) (d2 : mo ≤ 13) : L2.atI [V.str "Ash", .str "Birch", .str "Cedar", .str "Elm", .str "Fir", .str "Hazel", .str "Larch", .str "Maple", .str "Oak", .str "Pine", .str "Rowan", .str "Willow", .str "Yew"] (mo - 1) = some (.str (monT mo)) := by
  unfold monT
  have c : mo - 1 = 0 ∨ mo - 1 = 1 ∨ mo - 1 = 2 ∨ mo - 1 = 3 ∨ mo - 1 = 4 ∨ mo - 1 = 5 ∨ mo - 1 = 6 ∨ mo - 1 = 7 ∨ mo - 1 = 8 ∨ mo - 1 = 9 ∨ mo - 1 = 10 ∨ mo - 1 = 11 ∨ mo - 1 = 12 := by omega
  rcases c with c | c | c | c | c | c | c | c | c | c | c | c | c <;> rw [c] <;> rfl
theorem len_get {l : List Str} {m : Nat} (h : ∀ x ∈ l, x.length ≤ m) (k : Nat) : (l.getD k "").length ≤ m := by
  rw [List.getD_eq_getElem?_getD]
  cases c : l[k]? with
  | none => exact Nat.zero_le _
  | some x => exact h x (List.mem_of_getElem? c)
theorem len_wd (d : Int) : (wdT d).length ≤ 4 := by
  unfold wdT
  split
  · exact len_get (by decide +kernel) _
  · decide +kernel
theorem len_mon (mo : Int) : (monT mo).length ≤ 6 := len_get (by decide +kernel) _
theorem app_len {a b : Str} {m n : Nat} (ha : a.length ≤ m) (hb : b.length ≤ n) : (a ++ b).length ≤ m + n := by rw [strLen_append]; omega
theorem len_fits {a : Str} {m : Nat} (h : a.length ≤ m) (hm : m ≤ 1000) : a.length ≤ sizeLine := by rw [sizeLine_eq]; omega
theorem time_eq (a b c : Str) : ((((Str.empty ++ a) ++ ":") ++ b) ++ ":") ++ c = Str.join ":" [a, b, c] := by
  refine ext_tl ?_
  show _ = tl (a ++ ":" ++ (b ++ ":" ++ c))
  simp only [tl_append, List.append_assoc]
  rfl
theorem zone_eq (a b c : Str) : (((Str.empty ++ a) ++ b) ++ ":") ++ c = ((a ++ b) ++ ":") ++ c := by
  refine ext_tl ?_
  simp only [tl_append, List.append_assoc]
  rfl
theorem long_eq (a b c d e f : Str) : ((((((((((Str.empty ++ a) ++ " ") ++ b) ++ " ") ++ c) ++ " ") ++ d) ++ " ") ++ e) ++ " ") ++ f = Str.join " " [a, b, c, d, e, f] := by
  refine ext_tl ?_
  show _ = tl (a ++ " " ++ (b ++ " " ++ (c ++ " " ++ (d ++ " " ++ (e ++ " " ++ f)))))
  simp only [tl_append, List.append_assoc]
  rfl
theorem short_eq (a b c d : Str) : (((((Str.empty ++ a) ++ "/") ++ b) ++ "@") ++ c) ++ d = ((((a ++ "/") ++ b) ++ "@") ++ c) ++ d := by
  refine ext_tl ?_
  simp only [tl_append, List.append_assoc]
  rfl
theorem len_time {h mi s : Int} (h0 : 0 ≤ h) (h1 : h < 100) (m0 : 0 ≤ mi) (m1 : mi < 100) (s0 : 0 ≤ s) (s1 : s < 100) : (timeT h mi s).length = 8 := by
  unfold timeT
  show (two h ++ ":" ++ (two mi ++ ":" ++ two s)).length = 8
  simp only [strLen_append, len_two h0 h1, len_two m0 m1, len_two s0 s1]
  rfl
theorem lenTwo3N : ∀ k : Fin 101, (intSpecTextOf "02d" ((k.val : Nat) : Int)).length ≤ 3 := by decide +kernel
theorem len_two3 {n : Int} (h0 : 0 ≤ n) (h1 : n ≤ 100) : (two n).length ≤ 3 := by
  obtain ⟨k, rfl⟩ : ∃ k : Nat, n = (k : Int) := ⟨n.toNat, by omega⟩
  exact lenTwo3N ⟨k, by omega⟩
theorem len_zone {z : Int} (z0 : -6039 ≤ z) (z1 : z ≤ 6039) : (zoneT z).length ≤ 7 := by
  unfold zoneT
  have a : 0 ≤ absZ z ∧ absZ z ≤ 6039 := by unfold absZ; split <;> omega
  split
  · decide +kernel
  · simp only [strLen_append, len_two (n := absZ z % 60) (by omega) (by omega)]
    have h3 := len_two3 (n := absZ z / 60) (by omega) (by omega)
    have : (sgnT z).length = 1 := by unfold sgnT; split <;> decide +kernel
    have c : (":" : Str).length = 1 := by decide +kernel
    rw [this, c]
    omega
end Tx
set_option Elab.async false
set_option linter.all false
set_option maxRecDepth 100000
set_option maxHeartbeats 4000000
/-! Texts cut to pieces: how long the pieces are. -/
namespace Tx
open PySem PySem.Spec PyProof.Rows L2 TL
theorem spl_len (S : List Nat) : ∀ (l : List Nat) (k : Nat) (acc : List Nat), (∀ p ∈ spl S k acc l, p.length ≤ acc.length + l.length) ∧ (spl S k acc l).length ≤ l.length + 1
  | [], k, acc => by
    rw [spl_nil]
    refine ⟨fun p hp => ?_, by simp⟩
    rw [List.mem_singleton.mp hp]; simp
  | c :: r, 0, acc => by
    by_cases h : pre S (c :: r) = true
    · rw [spl_hit h]
      obtain ⟨a, b⟩ := spl_len S r (S.length - 1) []
      refine ⟨fun p hp => ?_, by simp only [List.length_cons]; omega⟩
      rcases List.mem_cons.mp hp with e | e
      · rw [e]; simp
      · have := a p e
        simp only [List.length_nil, List.length_cons] at this ⊢
        omega
    · rw [spl_miss (by simpa using h)]
      obtain ⟨a, b⟩ := spl_len S r 0 (acc ++ [c])
      refine ⟨fun p hp => ?_, by simp only [List.length_cons]; omega⟩
      have := a p hp
      simp only [List.length_append, List.length_cons, List.length_nil] at this ⊢
      omega
  | c :: r, k + 1, acc => by
    show (∀ p ∈ spl S k acc r, _) ∧ (spl S k acc r).length ≤ _
    obtain ⟨a, b⟩ := spl_len S r k acc
    refine ⟨fun p hp => ?_, by simp only [List.length_cons]; omega⟩
    have := a p hp
    simp only [List.length_cons]
    omega
theorem split_len {x y : Str} (hy : tl y ≠ []) (hk : y.cps.all (· < 256) = true) : (∀ p ∈ Txt.split x y, p.length ≤ x.length) ∧ (Txt.split x y).length ≤ x.length + 1 := by
  have e := split_spl x y hy (kind_ok hk)
  obtain ⟨a, b⟩ := spl_len (tl y) (tl x) 0 []
  rw [← e] at a b
  constructor
  · intro p hp
    have := a (tl p) (List.mem_map.mpr ⟨p, hp, rfl⟩)
    rw [len_tl, len_tl]
    simpa using this
  · rw [List.length_map] at b
    rw [len_tl]
    exact b
theorem spl_ne (S : List Nat) : ∀ (l : List Nat) (k : Nat) (acc : List Nat), spl S k acc l ≠ []
  | [], k, acc => by rw [spl_nil]; simp
  | c :: r, 0, acc => by
    by_cases h : pre S (c :: r) = true
    · rw [spl_hit h]; simp
    · rw [spl_miss (by simpa using h)]; exact spl_ne S r 0 _
  | c :: r, k + 1, acc => spl_ne S r k acc
theorem split_ne {x y : Str} (hy : tl y ≠ []) (hk : y.cps.all (· < 256) = true) : Txt.split x y ≠ [] := by
  have e := split_spl x y hy (kind_ok hk)
  intro z
  rw [z] at e
  exact spl_ne _ _ _ _ e.symm
theorem par_len (S : List Nat) : ∀ (l acc p r : List Nat), par S acc l = some (p, r) → p.length ≤ acc.length + l.length ∧ r.length ≤ l.length
  | [], acc, p, r, h => by cases h
  | c :: t, acc, p, r, h => by
    by_cases e : pre S (c :: t) = true
    · rw [par_hit e] at h
      cases h
      refine ⟨by simp, ?_⟩
      rw [List.length_drop]; omega
    · rw [par_miss (by simpa using e)] at h
      obtain ⟨a, b⟩ := par_len S t (acc ++ [c]) p r h
      simp only [List.length_append, List.length_cons, List.length_nil] at a ⊢
      omega
theorem partition_len {x y : Str} (hy : tl y ≠ []) : (Txt.partition x y).1.length ≤ x.length ∧ (Txt.partition x y).2.2.length ≤ x.length := by
  rw [partition_par x y hy]
  cases h : par (tl y) [] (tl x) with
  | none => exact ⟨Nat.le_refl _, Nat.zero_le _⟩
  | some pr =>
    obtain ⟨p, r⟩ := pr
    obtain ⟨a, b⟩ := par_len _ _ _ _ _ h
    rw [len_tl, len_tl, len_tl]
    exact ⟨by simpa using a, b⟩
end Tx
set_option Elab.async false
set_option linter.all false
set_option maxRecDepth 100000
set_option maxHeartbeats 4000000
namespace Toy
open PySem PySem.Spec PyProof.Rows L2 Tx
theorem small12 {i : Int} (h0 : 0 ≤ i) (h1 : i < 100000) : i.natAbs < 10 ^ 12 := by
  have e12 : (10 : Nat) ^ 12 = 1000000000000 := by decide
  omega
theorem small10 {i : Int} (h1 : i < 100000) : i < 10 ^ 10 := by
  have e12 : (10 : Int) ^ 10 = 10000000000 := by decide
  omega
theorem log12 {i : Int} (h : i.natAbs < 10 ^ 12) : i.natAbs.log2 < 1920 := by
  by_cases z : i.natAbs = 0
  · rw [z]; decide
  · exact Nat.lt_trans ((Nat.log2_lt z).mpr (Nat.lt_of_lt_of_le h (show (10 : Nat) ^ 12 ≤ 2 ^ 40 by decide))) (by decide)
theorem date_bounds {y mo d h mi s z : Int} (i : Ma.isDate y mo d h mi s z = true) : (1 ≤ y ∧ y ≤ 9999) ∧ (1 ≤ mo ∧ mo ≤ 13) ∧ (1 ≤ d ∧ d ≤ 30) ∧ (0 ≤ h ∧ h ≤ 23) ∧ (0 ≤ mi ∧ mi ≤ 59) ∧ (0 ≤ s ∧ s ≤ 60) ∧ (-840 ≤ z ∧ z ≤ 840) := by
  unfold Ma.isDate Ma.fits Ma.within at i
  simp only [Bool.and_eq_true, decide_eq_true_eq] at i
  have dm : Ma.dim y mo ≤ 30 := by unfold Ma.dim; split <;> (try split) <;> omega
  omega
section
variable {P : Program} {w : World} {K : PySem.W.Frag} {mg : Str → Option Value} {base : Heap}
def sp__weekday : Sp := fun vs H Q _ => ∃ d, vs = [.int d] ∧ 1 ≤ d ∧ Q (.str (wdT d)) H
theorem ok__weekday (T : Txt K mg) : FnOk P w K mg base CX0 1 T.a__weekday T.d__weekday ["day"] sp__weekday := by
  refine T.F__weekday.ok sc__weekday (fun vs H Q E h => ?_) (fun cdv A outer s H vs Q E hr h => ?_)
  · obtain ⟨d, rfl, _⟩ := h; rfl
  · obtain ⟨d, rfl, d1, q⟩ := h
    refine ⟨_, (pss_one (ps_ret (pe_ifExp (pt_cmpR op_le (pv 0) (pe_glob (v := .int 28) (by rfl) T.c_MONTH_DAYS ⟨_, rfl⟩) (nomark _)) (pe_ix ix_tup (pe_glob (v := .ref T.r_WEEKDAYS) (by rfl) T.c_WEEKDAYS rfl) (pe_op op_mod (pe_op op_sub (pv 0) pe_int) pe_int) (fun _ _ => rfl)) (pe_ix ix_tup (pe_glob (v := .ref T.r_WEEKDAYS) (by rfl) T.c_WEEKDAYS rfl) pe_int (fun _ _ => rfl))))), ?_⟩
    refine ⟨_, rfl, _, _, rfl, rfl, _, rfl, ?_⟩
    refine ite2 (fun c => ?_) (fun c => ?_)
    · refine ⟨_, rfl, _, _, rfl, rfl, _, _, rfl, rfl, (by show (0 : Int) < 7; decide), ?_⟩
      exact ⟨_, _, _, _, rfl, rfl, T.e_WEEKDAYS H, wd_at d1 (of_decide_eq_true c), q⟩
    · have e : wdT d = "Rest" := by unfold wdT; rw [if_neg (fun z => c (decide_eq_true z))]
      rw [e] at q
      exact ⟨_, _, _, _, rfl, rfl, T.e_WEEKDAYS H, rfl, q⟩
def sp__time_text : Sp := fun vs H Q _ => ∃ a y mo d h mi s z, vs = [.ref a] ∧ H a = some (.tup [.int y, .int mo, .int d, .int h, .int mi, .int s, .int z]) ∧ Ma.isDate y mo d h mi s z = true ∧ ∀ H', Same H H' → Q (.str (timeT h mi s)) H'
theorem ok__time_text (T : Txt K mg) : FnOk P w K mg base CX0 1 T.a__time_text T.d__time_text ["date"] sp__time_text := by
  refine T.F__time_text.ok sc__time_text (fun vs H Q E h => ?_) (fun cdv A outer s H vs Q E hr h => ?_)
  · obtain ⟨a, y, mo, d, h, mi, s, z, rfl, _⟩ := h; rfl
  · obtain ⟨a, y, mo, d, h, mi, s, z, rfl, ha, isd, q⟩ := h
    obtain ⟨_, _, _, ⟨h0, h1⟩, ⟨mi0, mi1⟩, ⟨s0, s1⟩, _⟩ := date_bounds isd
    refine ⟨_, (pss_cons (ps_asg (pe_slice sl_tupA (pv 0) (po_some pe_int) (po_some pe_int)) (pg_tup rfl (pgs_cons (pg_name (i := 1) sc__time_text.nd rfl (Or.inl rfl)) (pgs_cons (pg_name (i := 2) sc__time_text.nd rfl (Or.inl rfl)) (pgs_cons (pg_name (i := 3) sc__time_text.nd rfl (Or.inl rfl)) pgs_nil)))))
        (pss_one (ps_ret (pe_joined (.cons (Vz.pe_fmtI (sp := "02d") T.fdl (by decide +kernel) (by decide) (pv 1) (pe_joined1 pe_str)) (.cons pe_str (.cons (Vz.pe_fmtI (sp := "02d") T.fdl (by decide +kernel) (by decide) (pv 2) (pe_joined1 pe_str)) (.cons pe_str (.cons (Vz.pe_fmtI (sp := "02d") T.fdl (by decide +kernel) (by decide) (pv 3) (pe_joined1 pe_str)) .nil))))))))), ?_⟩
    refine ⟨_, rfl, 3, rfl, 6, rfl, cut_to ha fun r1 H1 e1 hr1 => ?_⟩
    refine ⟨r1, _, rfl, SqT.of hr1, rfl, _, _, rfl, _, _, rfl, _, _, rfl, rfl, ?_⟩
    refine ⟨_, rfl, h, rfl, h0, small10 (by omega), fun _ => ?_⟩
    have t1 := app_len (a := Str.empty) (m := 0) (by decide) (Nat.le_of_eq (len_two h0 (show h < 100 by omega)))
    refine ⟨_, rfl, len_fits t1 (by decide), _, rfl, ?_⟩
    have t2 := app_len (b := ":") (n := 1) t1 (by decide +kernel)
    refine ⟨len_fits t2 (by decide), _, rfl, mi, rfl, mi0, small10 (by omega), fun _ => ?_⟩
    have t3 := app_len t2 (Nat.le_of_eq (len_two mi0 (show mi < 100 by omega)))
    refine ⟨_, rfl, len_fits t3 (by decide), _, rfl, ?_⟩
    have t4 := app_len (b := ":") (n := 1) t3 (by decide +kernel)
    refine ⟨len_fits t4 (by decide), _, rfl, s, rfl, s0, small10 (by omega), fun _ => ?_⟩
    have t5 := app_len t4 (Nat.le_of_eq (len_two s0 (show s < 100 by omega)))
    refine ⟨_, rfl, len_fits t5 (by decide), ?_⟩
    have fin := q _ e1
    unfold timeT at fin
    rw [← time_eq] at fin
    exact fin
def sp__zone_text : Sp := fun vs H Q _ => ∃ z, vs = [.int z] ∧ -6039 ≤ z ∧ z ≤ 6039 ∧ ∀ H', Same H H' → Q (.str (zoneT z)) H'
theorem ok__zone_text (T : Txt K mg) : FnOk P w K mg base CX0 1 T.a__zone_text T.d__zone_text ["zone"] sp__zone_text := by
  refine T.F__zone_text.ok sc__zone_text (fun vs H Q E h => ?_) (fun cdv A outer s H vs Q E hr h => ?_)
  · obtain ⟨z, rfl, _⟩ := h; rfl
  · obtain ⟨z, rfl, z0, z1, q⟩ := h
    refine ⟨_, (pss_cons (ps_if (pt_cmpR op_eq (pv 0) pe_int (nomark _)) (pss_one (ps_ret pe_str)) pss_nil)
        (pss_cons (ps_asg (pe_callB call_divmod (by rfl) T.z_divmod (by decide +kernel) (pa_cons (pe_callB call_abs (by rfl) T.z_abs (by decide +kernel) (pa_cons (pv 0) pa_nil)) (pa_cons pe_int pa_nil))) (pg_tup rfl (pgs_cons (pg_name (i := 1) sc__zone_text.nd rfl (Or.inl rfl)) (pgs_cons (pg_name (i := 2) sc__zone_text.nd rfl (Or.inl rfl)) pgs_nil))))
        (pss_cons (ps_set (i := 3) sc__zone_text.nd rfl (Or.inl rfl) (pe_ifExp (pt_cmpR op_lt (pv 0) pe_int (nomark _)) pe_str pe_str))
        (pss_one (ps_ret (pe_joined (.cons (pe_fmt (pv 3)) (.cons (Vz.pe_fmtI (sp := "02d") T.fdl (by decide +kernel) (by decide) (pv 1) (pe_joined1 pe_str)) (.cons pe_str (.cons (Vz.pe_fmtI (sp := "02d") T.fdl (by decide +kernel) (by decide) (pv 2) (pe_joined1 pe_str)) .nil)))))))))), ?_⟩
    refine ⟨_, rfl, rfl, _, rfl, ?_⟩
    unfold zoneT at q
    refine ite2 (fun c => ?_) (fun c => ?_)
    · rw [if_pos (by rw [dI] at c; exact of_decide_eq_true c)] at q
      exact q _ (Same.refl _)
    · rw [if_neg (by rw [dI] at c; exact fun x => c (decide_eq_true x))] at q
      have n0 : 0 ≤ absZ z ∧ absZ z ≤ 6039 := by unfold absZ; split <;> omega
      refine ⟨_, rfl, z, rfl, ?_⟩
      have en : (if z < 0 then -z else z) = absZ z := rfl
      rw [en]
      generalize absZ z = n at *
      refine ⟨_, _, rfl, ⟨by decide, by decide⟩, fun p np => ?_⟩
      refine ⟨p, _, rfl, SqT.of upd_same, rfl, _, _, rfl, _, _, rfl, rfl, ?_⟩
      dsimp only
      refine asg_to (.str (sgnT z)) (decide (z < 0)) (fun R r => ?_) (fun cl R r => ?_) (fun cl R r => ?_) ?_
      · exact ⟨_, rfl, _, _, rfl, rfl, _, rfl, r⟩
      · unfold sgnT at r; rw [if_pos (of_decide_eq_true cl)] at r; exact r
      · unfold sgnT at r; rw [if_neg (of_decide_eq_false cl)] at r; exact r
      have sg : (sgnT z).length ≤ 1 := by unfold sgnT; split <;> decide +kernel
      have t1 := app_len (a := Str.empty) (m := 0) (by decide) sg
      refine ⟨_, rfl, .inl ⟨_, rfl, len_fits sg (by decide), _, rfl, len_fits t1 (by decide), ?_⟩⟩
      have a0 : 0 ≤ n / 60 ∧ n / 60 ≤ 100 := by omega
      have b0 : 0 ≤ n % 60 ∧ n % 60 < 100 := by omega
      refine ⟨_, rfl, _, rfl, a0.1, small10 (by omega), fun _ => ?_⟩
      have t2 := app_len t1 (len_two3 a0.1 a0.2)
      refine ⟨_, rfl, len_fits t2 (by decide), _, rfl, ?_⟩
      have t3 := app_len (b := ":") (n := 1) t2 (by decide +kernel)
      refine ⟨len_fits t3 (by decide), _, rfl, _, rfl, b0.1, small10 (by omega), fun _ => ?_⟩
      have t4 := app_len t3 (Nat.le_of_eq (len_two b0.1 b0.2))
      refine ⟨_, rfl, len_fits t4 (by decide), ?_⟩
      have fin := q _ (same_new (o := .tup [.int (n / 60), .int (n % 60)]) np)
      rw [← zone_eq] at fin
      exact fin
/-- the text of a date (a date is given) -/
def sp_textX (f : Int → Int → Int → Int → Int → Int → Int → Str) : Sp := fun vs H Q _ => ∃ a y mo d h mi s z, vs = [.ref a] ∧ H a = some (.tup [.int y, .int mo, .int d, .int h, .int mi, .int s, .int z]) ∧ Ma.isDate y mo d h mi s z = true ∧ ∀ H', Same H H' → Q (.str (f y mo d h mi s z)) H'
theorem ok_long_text (T : Txt K mg) : FnOk P w K mg base (L2.CX P w) 6 T.a_long_text T.d_long_text ["date"] (sp_textX longT) := by
  refine T.F_long_text.okX sc_long_text (fun vs H Q E h => ?_) (fun cdv A outer s H vs Q E hr h => ?_)
  · obtain ⟨a, y, mo, d, h, mi, s, z, rfl, _⟩ := h; rfl
  · obtain ⟨a, y, mo, d, h, mi, s, z, rfl, ha, isd, q⟩ := h
    obtain ⟨⟨y0, y1⟩, ⟨mo0, mo1⟩, ⟨d0, d1⟩, ⟨h0, h1⟩, ⟨i0, i1⟩, ⟨s0, s1⟩, ⟨z0, z1⟩⟩ := date_bounds isd
    have hi : ∀ a' xs, V.ref a = .ref a' → H a' = some (.tup xs) → ∀ x ∈ xs, ∃ k, Thg 0 H x k := by
      intro a' xs ea hb x hm
      cases ea
      rw [ha] at hb
      cases hb
      exact ints_thg [y, mo, d, h, mi, s, z] x hm
    have ed : isDateV H (.ref a) = true := by unfold isDateV; simp only [ha]; exact isd
    refine ⟨_, (pss_cons (ps_if (pt_not (pt_val (pe_call (ok_is_date T) (hr.mono (by decide)) (by rfl) T.g_is_date T.F_is_date.kp T.b_is_date .nil pass0 (pa_cons (pv 0) pa_nil)))) (pss_one (ps_raise rfl (takes_of (E := E) rfl rfl rfl rfl) (pmk_oex T.o_BadDate T.iC_BadDate T.tI_BadDate (ok_init_BadDate T) (hr.mono (by decide)) T.bI_BadDate .nil pass0 (by rfl) T.g_BadDate (by exact (pa_cons (pv 0) pa_nil))))) pss_nil)
        (pss_cons (ps_asg (pe_slice sl_tupA (pv 0) po_none (po_some pe_int)) (pg_tup rfl (pgs_cons (pg_name (i := 1) sc_long_text.nd rfl (Or.inl rfl)) (pgs_cons (pg_name (i := 2) sc_long_text.nd rfl (Or.inl rfl)) (pgs_cons (pg_name (i := 3) sc_long_text.nd rfl (Or.inl rfl)) pgs_nil)))))
        (pss_one (ps_ret (pe_joined (.cons (pe_fmt (pe_call (ok__weekday T) (hr.mono (by decide)) (by rfl) T.g__weekday T.F__weekday.kp T.b__weekday .nil pass0 (pa_cons (pv 3) pa_nil))) (.cons pe_str (.cons (pe_fmt (pv 3)) (.cons pe_str (.cons (pe_fmt (pe_ix ix_tup (pe_glob (v := .ref T.r_MONTHS) (by rfl) T.c_MONTHS rfl) (pe_op op_sub (pv 2) pe_int) (fun _ _ => rfl))) (.cons pe_str (.cons (pe_fmt (pv 1)) (.cons pe_str (.cons (pe_fmt (pe_call (ok__time_text T) (hr.mono (by decide)) (by rfl) T.g__time_text T.F__time_text.kp T.b__time_text .nil pass0 (pa_cons (pv 0) pa_nil))) (.cons pe_str (.cons (pe_fmt (pe_call (ok__zone_text T) (hr.mono (by decide)) (by rfl) T.g__zone_text T.F__zone_text.kp T.b__zone_text .nil pass0 (pa_cons (pe_ix ix_tup (pv 0) pe_int (fun _ _ => rfl)) pa_nil))) .nil)))))))))))))))), ?_⟩
    refine ⟨_, rfl, 0, .ref a, _, rfl, .tup ha, hi, fun H1 s1 => ⟨_, rfl, ?_⟩⟩
    rw [ed]
    refine iteF ?_
    have ha1 := s1 _ _ ha
    refine ⟨_, rfl, 3, rfl, cut_to ha1 fun r2 H2 s2 hr2 => ?_⟩
    refine ⟨r2, _, rfl, SqT.of hr2, rfl, _, _, rfl, _, _, rfl, _, _, rfl, rfl, ?_⟩
    have ha2 := s2 _ _ ha1
    refine ⟨_, rfl, d, rfl, d0, .inl ⟨_, rfl, len_fits (len_wd d) (by decide), ?_⟩⟩
    have t1 := app_len (a := Str.empty) (m := 0) (by decide) (len_wd d)
    refine ⟨_, rfl, len_fits t1 (by decide), _, rfl, ?_⟩
    have t2 := app_len (b := " ") (n := 1) t1 (by decide +kernel)
    refine ⟨len_fits t2 (by decide), _, rfl, .inr ⟨_, rfl, log12 (small12 (by omega) (by omega)), ?_⟩⟩
    have t3 := app_len t2 (len_num (i := d) (by omega) (by omega))
    refine ⟨_, rfl, len_fits t3 (by decide), _, rfl, ?_⟩
    have t4 := app_len (b := " ") (n := 1) t3 (by decide +kernel)
    refine ⟨len_fits t4 (by decide), ?_⟩
    refine ⟨_, rfl, _, _, rfl, rfl, _, _, _, _, rfl, rfl, T.e_MONTHS H2, mon_at mo0 mo1, .inl ⟨_, rfl, len_fits (len_mon mo) (by decide), ?_⟩⟩
    have t5 := app_len t4 (len_mon mo)
    refine ⟨_, rfl, len_fits t5 (by decide), _, rfl, ?_⟩
    have t6 := app_len (b := " ") (n := 1) t5 (by decide +kernel)
    refine ⟨len_fits t6 (by decide), _, rfl, .inr ⟨_, rfl, log12 (small12 (by omega) (by omega)), ?_⟩⟩
    have t7 := app_len t6 (len_num (i := y) (by omega) (by omega))
    refine ⟨_, rfl, len_fits t7 (by decide), _, rfl, ?_⟩
    have t8 := app_len (b := " ") (n := 1) t7 (by decide +kernel)
    refine ⟨len_fits t8 (by decide), ?_⟩
    have l9 := Nat.le_of_eq (len_time (h := h) (mi := mi) (s := s) h0 (by omega) i0 (by omega) s0 (by omega))
    refine ⟨_, rfl, a, y, mo, d, h, mi, s, z, rfl, ha2, isd, fun H3 s3 => .inl ⟨_, rfl, len_fits l9 (by decide), ?_⟩⟩
    have t9 := app_len t8 l9
    refine ⟨_, rfl, len_fits t9 (by decide), _, rfl, ?_⟩
    have t10 := app_len (b := " ") (n := 1) t9 (by decide +kernel)
    refine ⟨len_fits t10 (by decide), ?_⟩
    have l11 := len_zone (z := z) (by omega) (by omega)
    refine ⟨_, rfl, a, _, _, _, rfl, rfl, SqT.of (s3 _ _ ha2), rfl, z, rfl, (by omega), (by omega), fun H4 s4 => .inl ⟨_, rfl, len_fits l11 (by decide), ?_⟩⟩
    have t11 := app_len t10 l11
    refine ⟨_, rfl, len_fits t11 (by decide), ?_⟩
    have fin := q H4 (((s1.trans s2).trans s3).trans s4)
    unfold longT at fin
    rw [← long_eq] at fin
    exact fin
end
end Toy
set_option Elab.async false
set_option linter.all false
set_option maxRecDepth 100000
set_option maxHeartbeats 4000000
namespace Toy
open PySem PySem.Spec PyProof.Rows L2 Tx
section
variable {P : Program} {w : World} {K : PySem.W.Frag} {mg : Str → Option Value} {base : Heap}
def sp__law_two : Sp := fun vs H Q _ => ∃ n, vs = [.int n] ∧ 0 ≤ n ∧ n < 100 ∧ Q (.str (two n)) H
theorem ok__law_two (T : Txt K mg) : FnOk P w K mg base CX0 1 T.a__law_two T.d__law_two ["number"] sp__law_two := by
  refine T.F__law_two.ok sc__law_two (fun vs H Q E h => ?_) (fun cdv A outer s H vs Q E hr h => ?_)
  · obtain ⟨n, rfl, _⟩ := h; rfl
  · obtain ⟨n, rfl, n0, n1, q⟩ := h
    refine ⟨_, (pss_one (ps_ret (pe_slice sl_str (pe_op op_add_str pe_str (pe_callTy call_str_int (by rfl) T.z_str (by decide +kernel) (pa_cons (pv 0) pa_nil))) (po_some (pe_un un_neg pe_int)) po_none))), ?_⟩
    have l1 := app_len (a := "0") (m := 1) (by decide +kernel) (len_num n0 (show n < 100000 by omega))
    rw [← lawTwo n0 n1] at q
    have l2 : ("0" : Str).length + (Str.ofString (toString n)).length ≤ sizeLine := by
      have := len_fits l1 (by decide)
      rw [strLen_append] at this
      exact this
    refine ⟨_, rfl, n, rfl, log12 (small12 n0 (by omega)), _, _, rfl, rfl, l2, ?_⟩
    refine ⟨_, rfl, ?_⟩
    dsimp only [tNoPart]
    exact ⟨_, rfl, _, rfl, len_fits l1 (by decide), q⟩
def sp__law_zone_text : Sp := fun vs H Q _ => ∃ z, vs = [.int z] ∧ -840 ≤ z ∧ z ≤ 840 ∧ Q (.str (zoneT z)) H
theorem ok__law_zone_text (T : Txt K mg) : FnOk P w K mg base CX0 2 T.a__law_zone_text T.d__law_zone_text ["belt"] sp__law_zone_text := by
  refine T.F__law_zone_text.ok sc__law_zone_text (fun vs H Q E h => ?_) (fun cdv A outer s H vs Q E hr h => ?_)
  · obtain ⟨z, rfl, _⟩ := h; rfl
  · obtain ⟨z, rfl, z0, z1, q⟩ := h
    refine ⟨_, (pss_cons (ps_if (pt_cmpR op_eq (pv 0) pe_int (nomark _)) (pss_one (ps_ret pe_str)) pss_nil)
        (pss_cons (ps_set (i := 1) sc__law_zone_text.nd rfl (Or.inl rfl) (pe_ifExp (pt_cmpR op_gt (pv 0) pe_int (nomark _)) (pv 0) (pe_op op_sub pe_int (pv 0))))
        (pss_one (ps_ret (pe_op op_add_str (pe_op op_add_str (pe_op op_add_str (pe_ifExp (pt_cmpR op_gt (pv 0) pe_int (nomark _)) pe_str pe_str) (pe_call (ok__law_two T) (hr.mono (by decide)) (by rfl) T.g__law_two T.F__law_two.kp T.b__law_two .nil pass0 (pa_cons (pe_op op_fdiv (pv 1) pe_int) pa_nil))) pe_str) (pe_call (ok__law_two T) (hr.mono (by decide)) (by rfl) T.g__law_two T.F__law_two.kp T.b__law_two .nil pass0 (pa_cons (pe_op op_sub (pv 1) (pe_op op_mul (pe_op op_fdiv (pv 1) pe_int) pe_int)) pa_nil))))))), ?_⟩
    refine ⟨_, rfl, rfl, _, rfl, ?_⟩
    unfold zoneT at q
    refine ite2 (fun c => ?_) (fun c => ?_)
    · rw [if_pos (by rw [dI] at c; exact of_decide_eq_true c)] at q
      exact q
    · have zn : z ≠ 0 := by rw [dI] at c; exact fun x => c (decide_eq_true x)
      rw [if_neg zn] at q
      have n0 : 0 ≤ absZ z ∧ absZ z ≤ 840 := by unfold absZ; split <;> omega
      dsimp only [tNext]
      refine asg_to (.int (absZ z)) (decide (0 < z)) (fun R r => ?_) (fun cl R r => ?_) (fun cl R r => ?_) ?_
      · exact ⟨_, rfl, _, _, rfl, rfl, _, rfl, r⟩
      · unfold absZ at r; rw [if_neg (by have := of_decide_eq_true cl; omega)] at r; exact ⟨_, rfl, r⟩
      · unfold absZ at r; rw [if_pos (by have := of_decide_eq_false cl; omega)] at r
        refine ⟨_, rfl, _, _, rfl, rfl, ?_⟩
        have e : -z = (0 : Int) - z := by omega
        rw [e] at r
        exact r
      generalize absZ z = n at *
      refine tif_to (.str (sgnT z)) (decide (0 < z)) (fun R r => ?_) (fun cl R r => ?_) (fun cl R r => ?_) ?_
      · exact ⟨_, rfl, _, _, rfl, rfl, _, rfl, r⟩
      · unfold sgnT at r; rw [if_neg (by have := of_decide_eq_true cl; omega)] at r; exact r
      · unfold sgnT at r; rw [if_pos (by have := of_decide_eq_false cl; omega)] at r; exact r
      have a0 : 0 ≤ n / 60 ∧ n / 60 < 100 := by omega
      have em : n % 60 = n - n / 60 * 60 := by omega
      have b0 : 0 ≤ n - n / 60 * 60 ∧ n - n / 60 * 60 < 100 := by omega
      rw [em] at q
      have sg : (sgnT z).length ≤ 1 := by unfold sgnT; split <;> decide +kernel
      have l2 := len_two a0.1 a0.2
      have l4 := len_two b0.1 b0.2
      have lc : (":" : Str).length = 1 := by decide +kernel
      refine ⟨_, rfl, _, _, rfl, rfl, ⟨by decide, by decide⟩, _, rfl, a0.1, a0.2, ?_⟩
      refine ⟨_, _, rfl, rfl, (by rw [l2, sizeLine_eq]; omega), ?_⟩
      refine ⟨_, _, rfl, rfl, (by rw [strLen_append, l2, lc, sizeLine_eq]; omega), ?_⟩
      refine ⟨_, rfl, _, rfl, _, _, rfl, rfl, ⟨by decide, by decide⟩, _, _, rfl, rfl, .inr ⟨by decide, by decide⟩, _, _, rfl, rfl, _, rfl, b0.1, b0.2, ?_⟩
      exact ⟨_, _, rfl, rfl, (by rw [strLen_append, strLen_append, l2, lc, l4, sizeLine_eq]; omega), q⟩
end
end Toy
set_option Elab.async false
set_option linter.all false
set_option maxRecDepth 100000
set_option maxHeartbeats 4000000
namespace Toy
open PySem PySem.Spec PyProof.Rows L2 Tx TL
theorem wd7_at' {d : Int} (d1 : 1 ≤ d) (d2 : d ≤ 28) : atI [V.str "Ar", .str "Be", .str "Co", .str "Da", .str "Ev", .str "Fo", .str "Gi"] (d - 1 - (d - 1) / 7 * 7) = some (.str (wdT d)) := by
  have e : d - 1 - (d - 1) / 7 * 7 = (d - 1) % 7 := by omega
  rw [e]
  exact wd7_at d1 d2
def Bd (y mo d h mi s z : Int) : Prop := (1 ≤ y ∧ y ≤ 9999) ∧ (1 ≤ mo ∧ mo ≤ 13) ∧ (1 ≤ d ∧ d ≤ 30) ∧ (0 ≤ h ∧ h ≤ 23) ∧ (0 ≤ mi ∧ mi ≤ 59) ∧ (0 ≤ s ∧ s ≤ 60) ∧ (-840 ≤ z ∧ z ≤ 840)
def sp_textB (f : Int → Int → Int → Int → Int → Int → Int → Str) : Sp := fun vs H Q _ => ∃ a y mo d h mi s z, vs = [.ref a] ∧ H a = some (.tup [.int y, .int mo, .int d, .int h, .int mi, .int s, .int z]) ∧ Bd y mo d h mi s z ∧ ∀ H', Same H H' → Q (.str (f y mo d h mi s z)) H'
section
variable {P : Program} {w : World} {K : PySem.W.Frag} {mg : Str → Option Value} {base : Heap}
theorem ok__law_long (T : Txt K mg) : FnOk P w K mg base CX0 3 T.a__law_long T.d__law_long ["date"] (sp_textB longT) := by
  refine T.F__law_long.ok sc__law_long (fun vs H Q E h => ?_) (fun cdv A outer s H vs Q E hr h => ?_)
  · obtain ⟨a, y, mo, d, h, mi, s, z, rfl, _⟩ := h; rfl
  · obtain ⟨a, y, mo, d, h, mi, s, z, rfl, ha, isd, q⟩ := h
    obtain ⟨⟨y0, y1⟩, ⟨mo0, mo1⟩, ⟨d0, d1⟩, ⟨h0, h1⟩, ⟨i0, i1⟩, ⟨s0, s1⟩, ⟨z0, z1⟩⟩ := isd
    refine ⟨_, (pss_cons (ps_asg (pv 0) (pg_tup rfl (pgs_cons (pg_name (i := 1) sc__law_long.nd rfl (Or.inl rfl)) (pgs_cons (pg_name (i := 2) sc__law_long.nd rfl (Or.inl rfl)) (pgs_cons (pg_name (i := 3) sc__law_long.nd rfl (Or.inl rfl)) (pgs_cons (pg_name (i := 4) sc__law_long.nd rfl (Or.inl rfl)) (pgs_cons (pg_name (i := 5) sc__law_long.nd rfl (Or.inl rfl)) (pgs_cons (pg_name (i := 6) sc__law_long.nd rfl (Or.inl rfl)) (pgs_cons (pg_name (i := 7) sc__law_long.nd rfl (Or.inl rfl)) pgs_nil)))))))))
        (pss_cons (ps_set (i := 8) sc__law_long.nd rfl (Or.inl rfl) (pe_lst (pa_cons pe_str (pa_cons pe_str (pa_cons pe_str (pa_cons pe_str (pa_cons pe_str (pa_cons pe_str (pa_cons pe_str (pa_cons pe_str (pa_cons pe_str (pa_cons pe_str (pa_cons pe_str (pa_cons pe_str (pa_cons pe_str pa_nil)))))))))))))))
        (pss_cons (ps_set (i := 9) sc__law_long.nd rfl (Or.inl rfl) (pe_ifExp (pt_cmpR op_gt (pv 3) pe_int (nomark _)) pe_str (pe_ix ix_list (pe_lst (pa_cons pe_str (pa_cons pe_str (pa_cons pe_str (pa_cons pe_str (pa_cons pe_str (pa_cons pe_str (pa_cons pe_str pa_nil)))))))) (pe_op op_sub (pe_op op_sub (pv 3) pe_int) (pe_op op_mul (pe_op op_fdiv (pe_op op_sub (pv 3) pe_int) pe_int) pe_int)) (fun _ _ => rfl))))
        (pss_cons (ps_set (i := 10) sc__law_long.nd rfl (Or.inl rfl) (pe_join pe_str (pe_lst (pa_cons (pe_call (ok__law_two T) (hr.mono (by decide)) (by rfl) T.g__law_two T.F__law_two.kp T.b__law_two .nil pass0 (pa_cons (pv 4) pa_nil)) (pa_cons (pe_call (ok__law_two T) (hr.mono (by decide)) (by rfl) T.g__law_two T.F__law_two.kp T.b__law_two .nil pass0 (pa_cons (pv 5) pa_nil)) (pa_cons (pe_call (ok__law_two T) (hr.mono (by decide)) (by rfl) T.g__law_two T.F__law_two.kp T.b__law_two .nil pass0 (pa_cons (pv 6) pa_nil)) pa_nil))))))
        (pss_one (ps_ret (pe_join pe_str (pe_lst (pa_cons (pv 9) (pa_cons (pe_callTy call_str_int (by rfl) T.z_str (by decide +kernel) (pa_cons (pv 3) pa_nil)) (pa_cons (pe_ix ix_list (pv 8) (pe_op op_sub (pv 2) pe_int) (fun _ _ => rfl)) (pa_cons (pe_callTy call_str_int (by rfl) T.z_str (by decide +kernel) (pa_cons (pv 1) pa_nil)) (pa_cons (pv 10) (pa_cons (pe_call (ok__law_zone_text T) (hr.mono (by decide)) (by rfl) T.g__law_zone_text T.F__law_zone_text.kp T.b__law_zone_text .nil pass0 (pa_cons (pv 7) pa_nil)) pa_nil)))))))))))))), ?_⟩
    refine ⟨_, rfl, a, _, rfl, SqT.of ha, rfl, _, _, rfl, _, _, rfl, _, _, rfl, _, _, rfl, _, _, rfl, _, _, rfl, _, _, rfl, rfl, ?_⟩
    refine ⟨(by show 13 ≤ sizeLine; decide), fun p np => ?_⟩
    have sN := same_new (o := .lst [V.str "Ash", .str "Birch", .str "Cedar", .str "Elm", .str "Fir", .str "Hazel", .str "Larch", .str "Maple", .str "Oak", .str "Pine", .str "Rowan", .str "Willow", .str "Yew"]) np
    have hN := upd_same (H := H) (a := p) (o := .lst [V.str "Ash", .str "Birch", .str "Cedar", .str "Elm", .str "Fir", .str "Hazel", .str "Larch", .str "Maple", .str "Oak", .str "Pine", .str "Rowan", .str "Willow", .str "Yew"])
    generalize upd H p (.lst [V.str "Ash", .str "Birch", .str "Cedar", .str "Elm", .str "Fir", .str "Hazel", .str "Larch", .str "Maple", .str "Oak", .str "Pine", .str "Rowan", .str "Willow", .str "Yew"]) = H1 at sN hN ⊢
    refine ⟨_, rfl, _, _, rfl, rfl, _, rfl, ?_⟩
    refine ite2 (fun c => ?_) (fun c => ?_)
    · have e : wdT d = "Rest" := by unfold wdT; rw [if_neg (by have := of_decide_eq_true c; omega)]
      show tNext _ ([some (.ref a), some (.int y), some (.int mo), some (.int d), some (.int h), some (.int mi), some (.int s), some (.int z), some (.ref p), some (.str "Rest"), none]) H1
      rw [← e]
      have sM := sN
      have hM := hN
      have l2 := len_two (n := h) h0 (by omega)
      have l3 := len_two (n := mi) i0 (by omega)
      have l4 := len_two (n := s) s0 (by omega)
      have lc : (":" : Str).length = 1 := by decide +kernel
      have lb : (" " : Str).length = 1 := by decide +kernel
      refine ⟨⟨_, rfl⟩, _, rfl, h, rfl, h0, (by omega), _, rfl, mi, rfl, i0, (by omega), _, rfl, s, rfl, s0, (by omega), (by show 3 ≤ sizeLine; decide), fun p3 n3 => ?_⟩
      refine ⟨_, p3, [two h, two mi, two s], rfl, rfl, .inl (SqL.of upd_same), (by simp only [List.map_cons, List.map_nil, List.sum_cons, List.sum_nil, List.length_cons, List.length_nil, l2, l3, l4, lc]; omega), ?_⟩
      have s3 := same_new (o := .lst [V.str (two h), .str (two mi), .str (two s)]) n3
      rw [join_eq]
      have hM3 := s3 _ _ hM
      refine ⟨⟨_, rfl⟩, _, rfl, _, rfl, d, rfl, log12 (small12 (by omega) (by omega)), _, rfl, _, rfl, _, _, rfl, rfl, p, _, _, _, rfl, rfl, SqL.of hM3, mon_at mo0 mo1, _, rfl, y, rfl, log12 (small12 (by omega) (by omega)), _, rfl, _, rfl, z, rfl, z0, z1, (by show 6 ≤ sizeLine; decide), fun p4 n4 => ?_⟩
      have m1 := len_wd d
      have m2 := len_num (i := d) (by omega) (by omega)
      have m3 := len_mon mo
      have m4 := len_num (i := y) (by omega) (by omega)
      have m5 := len_time (h := h) (mi := mi) (s := s) h0 (by omega) i0 (by omega) s0 (by omega)
      have m6 := len_zone (z := z) (by omega) (by omega)
      refine ⟨_, p4, [wdT d, num d, monT mo, num y, timeT h mi s, zoneT z], rfl, rfl, .inl (SqL.of upd_same), (by simp only [List.map_cons, List.map_nil, List.sum_cons, List.sum_nil, List.length_cons, List.length_nil, lb, m5]; omega), ?_⟩
      rw [join_eq]
      exact q _ ((sM.trans s3).trans (same_new n4))
    · have d28 : d ≤ 28 := by
        by_cases x : d ≤ 28
        · exact x
        · exact absurd (decide_eq_true (show 28 < d by omega)) c
      refine ⟨(by show 7 ≤ sizeLine; decide), fun p2 n2 => ?_⟩
      refine ⟨_, rfl, _, _, rfl, rfl, _, rfl, _, _, rfl, rfl, _, _, rfl, rfl, ⟨by decide, by decide⟩, _, _, rfl, rfl, .inr ⟨by decide, by decide⟩, _, _, rfl, rfl, ?_⟩
      refine ⟨p2, _, _, _, rfl, rfl, SqL.of upd_same, wd7_at' d0 d28, ?_⟩
      have sM := sN.trans (same_new (o := .lst [V.str "Ar", .str "Be", .str "Co", .str "Da", .str "Ev", .str "Fo", .str "Gi"]) n2)
      have hM := same_new (o := .lst [V.str "Ar", .str "Be", .str "Co", .str "Da", .str "Ev", .str "Fo", .str "Gi"]) n2 _ _ hN
      have l2 := len_two (n := h) h0 (by omega)
      have l3 := len_two (n := mi) i0 (by omega)
      have l4 := len_two (n := s) s0 (by omega)
      have lc : (":" : Str).length = 1 := by decide +kernel
      have lb : (" " : Str).length = 1 := by decide +kernel
      refine ⟨⟨_, rfl⟩, _, rfl, h, rfl, h0, (by omega), _, rfl, mi, rfl, i0, (by omega), _, rfl, s, rfl, s0, (by omega), (by show 3 ≤ sizeLine; decide), fun p3 n3 => ?_⟩
      refine ⟨_, p3, [two h, two mi, two s], rfl, rfl, .inl (SqL.of upd_same), (by simp only [List.map_cons, List.map_nil, List.sum_cons, List.sum_nil, List.length_cons, List.length_nil, l2, l3, l4, lc]; omega), ?_⟩
      have s3 := same_new (o := .lst [V.str (two h), .str (two mi), .str (two s)]) n3
      rw [join_eq]
      have hM3 := s3 _ _ hM
      refine ⟨⟨_, rfl⟩, _, rfl, _, rfl, d, rfl, log12 (small12 (by omega) (by omega)), _, rfl, _, rfl, _, _, rfl, rfl, p, _, _, _, rfl, rfl, SqL.of hM3, mon_at mo0 mo1, _, rfl, y, rfl, log12 (small12 (by omega) (by omega)), _, rfl, _, rfl, z, rfl, z0, z1, (by show 6 ≤ sizeLine; decide), fun p4 n4 => ?_⟩
      have m1 := len_wd d
      have m2 := len_num (i := d) (by omega) (by omega)
      have m3 := len_mon mo
      have m4 := len_num (i := y) (by omega) (by omega)
      have m5 := len_time (h := h) (mi := mi) (s := s) h0 (by omega) i0 (by omega) s0 (by omega)
      have m6 := len_zone (z := z) (by omega) (by omega)
      refine ⟨_, p4, [wdT d, num d, monT mo, num y, timeT h mi s, zoneT z], rfl, rfl, .inl (SqL.of upd_same), (by simp only [List.map_cons, List.map_nil, List.sum_cons, List.sum_nil, List.length_cons, List.length_nil, lb, m5]; omega), ?_⟩
      rw [join_eq]
      exact q _ ((sM.trans s3).trans (same_new n4))
end
end Toy
set_option Elab.async false
set_option linter.all false
set_option maxRecDepth 100000
set_option maxHeartbeats 4000000
namespace Toy
open PySem PySem.Spec PyProof.Rows L2
section
variable {P : Program} {w : World} {K : PySem.W.Frag} {mg : Str → Option Value} {base : Heap}
def sp_consists_of : Sp := fun vs H Q _ => ∃ a b : Str, vs = [.str a, .str b] ∧ a.length ≤ 1000 ∧ ∀ H', Same H H' → Q (.bl (a.cps.toList.all fun c => decide (c ∈ b.cps.toList))) H'
theorem ok_consists_of (T : Txt K mg) : FnOk P w K mg base CX0 1 T.a_consists_of T.d_consists_of ["text", "signs"] sp_consists_of := by
  refine T.F_consists_of.ok sc_consists_of (fun vs H Q E h => ?_) (fun cdv A outer s H vs Q E hr h => ?_)
  · obtain ⟨a, b, rfl, _⟩ := h; rfl
  · obtain ⟨a, b, rfl, hl, q⟩ := h
    refine ⟨_, (pss_one (ps_ret (pe_callB (cr_all (by rfl)) (by rfl) T.z_all (by decide +kernel) (pa_cons (pe_lc (own := [("sign", 2)]) (g := gName 2) (by rfl) sc_consists_of.nd (pi_str (pv 0)) (blkOk_by (own := [("sign", 2)]) (N := ["text", "signs", "sign"]) (sc := defScope s_consists_of) (by decide +kernel)) (fun _ _ _ _ _ => pg_name (i := 2) sc_consists_of.nd rfl (Or.inl rfl)) (fun _ _ _ _ _ => pts_nil) (fun _ _ _ _ _ => (pe_cmpR op_in_sign (pv 2) (pv 1) (by with_unfolding_all rfl)))) pa_nil)))), ?_⟩
    refine ⟨_, rfl, a, rfl, fun D nD => ?_⟩
    have fin : ∀ H', H' = upd H D (.lst (a.cps.toList.map fun c => V.bl (decide (c ∈ b.cps.toList)))) → Q (.bl (a.cps.toList.all fun c => decide (c ∈ b.cps.toList))) H' := by
      rintro _ rfl
      exact q _ (same_new nD)
    refine lc_it walk_str (fun i H' => H' = upd H D (.lst ((a.cps.toList.take i).map fun c => V.bl (decide (c ∈ b.cps.toList))))) rfl (fun _ _ _ _ => trivial) ?_ ?_
    · rintro i x H1 H2 hi rfl ⟨rfl, c, hc, rfl⟩
      refine ⟨rfl, ?_⟩
      refine ⟨_, rfl, _, rfl, c, b, rfl, rfl, _, upd_same, ?_, ?_⟩
      · rw [List.length_map, List.length_take]
        have : a.cps.toList.length = a.length := by simp [Str.length]
        rw [sizeLine_eq]
        omega
      · have ht : a.cps.toList.take (i + 1) = a.cps.toList.take i ++ [c] := by
          rw [List.take_add_one]
          have : a.cps.toList[i]? = some c := by simpa using hc
          rw [this]
          rfl
        rw [ht, List.map_append]
        funext b'
        by_cases e : b' = D
        · subst e; rw [upd_same, upd_same]; rfl
        · rw [upd_ne e, upd_ne e, upd_ne e]
    · rintro H1 rfl
      have ht : a.cps.toList.take a.cps.size = a.cps.toList := by
        rw [List.take_of_length_le]; simp
      rw [ht]
      refine ⟨D, a.cps.toList.map fun c => decide (c ∈ b.cps.toList), rfl, SqL.of (by rw [upd_same, List.map_map]; rfl), ?_⟩
      have e : (a.cps.toList.map fun c => decide (c ∈ b.cps.toList)).all id = a.cps.toList.all fun c => decide (c ∈ b.cps.toList) := by
        rw [List.all_map]; rfl
      rw [e]
      exact fin _ rfl
end
end Toy
set_option Elab.async false
set_option linter.all false
set_option maxRecDepth 100000
set_option maxHeartbeats 4000000
namespace Toy
open PySem PySem.Spec PyProof.Rows L2
/-- a text of digits alone -/
def digs (a : Str) : Bool := a.cps.toList.all fun c => decide (c ∈ ("0123456789" : Str).cps.toList)
theorem digs_iff {a : Str} (h : digs a = true) : ∀ c ∈ a.cps.toList, 48 ≤ c ∧ c ≤ 57 := by
  intro c hc
  have m := of_decide_eq_true (List.all_eq_true.mp h c hc)
  have e : ("0123456789" : Str).cps.toList = [48, 49, 50, 51, 52, 53, 54, 55, 56, 57] := by decide +kernel
  rw [e] at m
  simp only [List.mem_cons, List.not_mem_nil, or_false] at m
  omega
theorem digs_int {a : Str} (h : digs a = true) (n : 1 ≤ a.length) (m : a.length ≤ 600) : ∃ i, intText? a = some i := by
  refine ⟨_, intText_digits (digs_iff h) ?_ (by omega)⟩
  intro z
  have : a.length = a.cps.toList.length := by simp [Str.length]
  rw [z] at this
  simp at this
  omega
def ivT (a : Str) : V := match intText? a with
  | some i => .int i
  | none => .non
def nodT (a : Str) (n : Int) : V := if (a.length : Int) = n ∧ digs a = true then ivT a else .non
theorem nod_bounds {a : Str} {i : Int} (h : nodT a 2 = .int i) : 0 ≤ i ∧ i ≤ 99 := by
  unfold nodT at h
  split at h
  · rename_i c
    obtain ⟨c1, c2⟩ := c
    have l2 : a.cps.toList.length = 2 := by
      have : a.length = a.cps.toList.length := by simp [Str.length]
      omega
    have dg := digs_iff c2
    have e := intText_digits (x := a) dg (by intro z; rw [z] at l2; cases l2) (by omega)
    unfold ivT at h
    rw [e] at h
    cases h
    match hc : a.cps.toList, l2 with
    | [p, r], _ =>
      have d1 := dg p (by rw [hc]; simp)
      have d2 := dg r (by rw [hc]; simp)
      have ev : NumText.digitsVal [p, r] = (0 * 10 + (p - 48)) * 10 + (r - 48) := rfl
      rw [ev]
      omega
  · cases h
def plT (a : Str) (n : Int) : V := if 1 ≤ a.length ∧ (a.length : Int) ≤ n ∧ Txt.startswith a "0" = false ∧ digs a = true then ivT a else .non
section
variable {P : Program} {w : World} {K : PySem.W.Frag} {mg : Str → Option Value} {base : Heap}
def sp__number_of_digits : Sp := fun vs H Q _ => ∃ (a : Str) (n : Int), vs = [.str a, .int n] ∧ 1 ≤ n ∧ a.length ≤ 600 ∧ ∀ H', Same H H' → Q (nodT a n) H'
theorem ok__number_of_digits (T : Txt K mg) : FnOk P w K mg base CX0 2 T.a__number_of_digits T.d__number_of_digits ["word", "count"] sp__number_of_digits := by
  refine T.F__number_of_digits.ok sc__number_of_digits (fun vs H Q E h => ?_) (fun cdv A outer s H vs Q E hr h => ?_)
  · obtain ⟨a, n, rfl, _⟩ := h; rfl
  · obtain ⟨a, n, rfl, n1, hl, q⟩ := h
    refine ⟨_, (pss_cons (ps_if (PW.pt (pw_or (pt_cmpR op_ne (pe_callB call_len_str (by rfl) T.z_len PySem.boot_len (pa_cons (pv 0) pa_nil)) (pv 1) (nomark _)) (pw_or1 (pt_not (pt_val (pe_call (ok_consists_of T) (hr.mono (by decide)) (by rfl) T.g_consists_of T.F_consists_of.kp T.b_consists_of .nil pass0 (pa_cons (pv 0) (pa_cons (pe_glob (v := .str "0123456789") (by rfl) T.c_DIGITS ⟨_, rfl⟩) pa_nil)))))))) (pss_one (ps_ret pe_non)) pss_nil)
        (pss_one (ps_ret (pe_callTy call_int_str (by rfl) T.z_int (by decide +kernel) (pa_cons (pv 0) pa_nil))))), ?_⟩
    unfold nodT at q
    have hz : a.length ≤ sizeLine := by rw [sizeLine_eq]; omega
    refine ⟨_, rfl, a, rfl, hz, _, rfl, rfl, _, rfl, ?_⟩
    refine ite2 (fun c => ?_) (fun c => ?_)
    · rw [if_neg (by rintro ⟨e, _⟩; rw [dI, e] at c; simp at c)] at q
      exact q H (Same.refl H)
    · have e : (a.length : Int) = n := by
        by_cases z : (a.length : Int) = n
        · exact z
        · exact absurd (by rw [dI]; simp [z]) c
      refine ⟨_, rfl, a, _, rfl, by omega, fun H1 s1 => ⟨_, rfl, ?_⟩⟩
      cases hd : digs a with
      | false =>
        rw [hd, if_neg (by simp)] at q
        have hd' : (a.cps.toList.all fun c => decide (c ∈ ("0123456789" : Str).cps.toList)) = false := hd
        rw [hd']
        exact iteT (q H1 s1)
      | true =>
        have hd' : (a.cps.toList.all fun c => decide (c ∈ ("0123456789" : Str).cps.toList)) = true := hd
        rw [hd']
        refine iteF ?_
        obtain ⟨i, hi⟩ := digs_int hd (by omega) hl
        rw [hd, if_pos ⟨e, rfl⟩] at q
        unfold ivT at q
        rw [hi] at q
        exact ⟨_, rfl, a, i, rfl, hi, by omega, q H1 s1⟩
def sp__plain_number : Sp := fun vs H Q _ => ∃ (a : Str) (n : Int), vs = [.str a, .int n] ∧ a.length ≤ 600 ∧ ∀ H', Same H H' → Q (plT a n) H'
theorem ok__plain_number (T : Txt K mg) : FnOk P w K mg base CX0 3 T.a__plain_number T.d__plain_number ["word", "most"] sp__plain_number := by
  refine T.F__plain_number.ok sc__plain_number (fun vs H Q E h => ?_) (fun cdv A outer s H vs Q E hr h => ?_)
  · obtain ⟨a, n, rfl, _⟩ := h; rfl
  · obtain ⟨a, n, rfl, hl, q⟩ := h
    refine ⟨_, (pss_cons (ps_if (PW.pt (pw_or (pt_not (pt_chain op_le op_le pe_int (pe_callB call_len_str (by rfl) T.z_len PySem.boot_len (pa_cons (pv 0) pa_nil)) (pv 1))) (pw_or1 (pt_val (pe_m1 F.slot_str_startswith F.type_str_startswith mt_startswith (pv 0) pe_str))))) (pss_one (ps_ret pe_non)) pss_nil)
        (pss_one (ps_ret (pe_call (ok__number_of_digits T) (hr.mono (by decide)) (by rfl) T.g__number_of_digits T.F__number_of_digits.kp T.b__number_of_digits .nil pass0 (pa_cons (pv 0) (pa_cons (pe_callB call_len_str (by rfl) T.z_len PySem.boot_len (pa_cons (pv 0) pa_nil)) pa_nil)))))), ?_⟩
    unfold plT at q
    have hz : a.length ≤ sizeLine := by rw [sizeLine_eq]; omega
    refine ⟨_, rfl, a, rfl, hz, _, _, rfl, rfl, _, rfl, ?_⟩
    refine ite2 (fun c1 => ?_) (fun c1 => ?_)
    · have l1 : 1 ≤ a.length := by have : (1 : Int) ≤ a.length := of_decide_eq_true c1; omega
      refine ⟨_, rfl, _, _, rfl, rfl, _, rfl, ?_⟩
      cases c2 : decide ((a.length : Int) ≤ n) with
      | false =>
        rw [if_neg (by rintro ⟨_, e, _⟩; exact (of_decide_eq_false c2) e)] at q
        refine iteT ?_
        exact q H (Same.refl H)
      | true =>
        have l2 := of_decide_eq_true c2
        refine iteF ?_
        refine ⟨_, rfl, ⟨_, rfl⟩, a, "0", rfl, rfl, ?_⟩
        refine ⟨_, rfl, ?_⟩
        cases c3 : Txt.startswith a "0" with
        | true =>
          rw [c3, if_neg (by simp)] at q
          refine iteT ?_
          exact q H (Same.refl H)
        | false =>
          refine iteF ?_
          refine ⟨_, rfl, _, rfl, a, rfl, hz, a, a.length, rfl, (by omega), hl, fun H1 s1 => ?_⟩
          have e : nodT a a.length = plT a n := by
            unfold nodT plT
            rw [c3]
            cases digs a with
            | true => rw [if_pos ⟨rfl, rfl⟩, if_pos ⟨l1, l2, rfl, rfl⟩]
            | false => rw [if_neg (by simp), if_neg (by simp)]
          rw [e]
          unfold plT
          exact q H1 s1
    · rw [if_neg (by rintro ⟨e, _⟩; exact c1 (decide_eq_true (show (1 : Int) ≤ a.length by omega)))] at q
      refine ⟨_, rfl, ?_⟩
      refine iteT ?_
      exact q H (Same.refl H)
end
end Toy
set_option Elab.async false
set_option linter.all false
set_option maxRecDepth 100000
set_option maxHeartbeats 4000000
namespace Toy
open PySem PySem.Spec PyProof.Rows L2
section
variable {P : Program} {w : World} {K : PySem.W.Frag} {mg : Str → Option Value} {base : Heap}
def sp__time_of : Sp := fun vs H Q _ => ∃ (a : Str), vs = [.str a] ∧ a.length ≤ 500 ∧ ∀ H' r, Same H H' → H' r = some (.tup ((Txt.split a ":").map fun x => nodT x 2)) → Q (.ref r) H'
theorem ok__time_of (T : Txt K mg) : FnOk P w K mg base CX0 3 T.a__time_of T.d__time_of ["word"] sp__time_of := by
  refine T.F__time_of.ok sc__time_of (fun vs H Q E h => ?_) (fun cdv A outer s H vs Q E hr h => ?_)
  · obtain ⟨a, rfl, _⟩ := h; rfl
  · obtain ⟨a, rfl, hl, q⟩ := h
    obtain ⟨hx, hn⟩ := Tx.split_len (x := a) (y := ":") (by decide +kernel) (by decide +kernel)
    refine ⟨_, (pss_one (ps_ret (pe_tupleOf (by rfl) T.z_tuple (pe_lc (own := [("part", 1)]) (g := gName 1) (by rfl) sc__time_of.nd (pi_list (pe_split (pv 0) pe_str)) (blkOk_by (own := [("part", 1)]) (N := ["word", "part"]) (sc := defScope s__time_of) (by decide +kernel)) (fun _ _ _ _ _ => pg_name (i := 1) sc__time_of.nd rfl (Or.inl rfl)) (fun _ _ _ _ _ => pts_nil) (fun _ _ _ _ _ => (pe_call (ok__number_of_digits T) (hr.mono (by decide)) (by rfl) T.g__number_of_digits T.F__number_of_digits.kp T.b__number_of_digits .nil pass0 (pa_cons (pv 1) (pa_cons pe_int pa_nil)))))))), ?_⟩
    have hz : a.length + 2 ≤ sizeLine := by rw [sizeLine_eq]; omega
    refine ⟨_, rfl, ⟨_, rfl⟩, a, ":", rfl, rfl, (by decide +kernel), hz, fun p np => ?_⟩
    refine ⟨p, rfl, ⟨_, SqL.of upd_same⟩, fun D nD => ?_⟩
    have neD : p ≠ D := fun z => by rw [← z, upd_same] at nD; cases nD
    refine lc_list (xs := (Txt.split a ":").map V.str) (fun i H' => H' D = some (.lst (((Txt.split a ":").take i).map fun x => nodT x 2)) ∧ ∀ b o, b ≠ D → upd H p (.lst ((Txt.split a ":").map V.str)) b = some o → H' b = some o)
      ⟨upd_same, fun b o nb e => by rw [upd_ne nb]; exact e⟩ ?_ ?_ ?_
    · rintro i H' _ ⟨_, k⟩
      exact SqL.of (k p _ neD upd_same)
    · rintro i x H1 hx1 ⟨hD, k⟩
      rw [List.getElem?_map] at hx1
      obtain ⟨y, hy, rfl⟩ := Option.map_eq_some_iff.mp hx1
      have my := List.mem_of_getElem? hy
      refine ⟨rfl, ?_⟩
      refine ⟨_, rfl, y, 2, rfl, by decide, (by have := hx y my; omega), fun H2 s2 => ⟨_, s2 _ _ hD, ?_, ?_, ?_⟩⟩
      · rw [List.length_map, List.length_take, sizeLine_eq]; omega
      · rw [upd_same, List.take_add_one, hy, List.map_append]; rfl
      · intro b o nb e
        rw [upd_ne nb]
        exact s2 _ _ (k b o nb e)
    · rintro H1 ⟨hD, k⟩
      rw [List.length_map, List.take_length] at hD
      refine .inl ⟨D, _, rfl, SqL.of hD, fun r nr => q _ r (fun b o e => ?_) upd_same⟩
      have np' : b ≠ p := fun z => by rw [z, np] at e; cases e
      have e1 : upd H p (.lst ((Txt.split a ":").map V.str)) b = some o := by rw [upd_ne np']; exact e
      have nb : b ≠ D := fun z => by rw [z, nD] at e1; cases e1
      have e2 := k b o nb e1
      rw [upd_ne (ne_of_none e2 nr)]
      exact e2
end
end Toy
set_option Elab.async false
set_option linter.all false
set_option maxRecDepth 100000
set_option maxHeartbeats 4000000
namespace Toy
open PySem PySem.Spec PyProof.Rows L2 Tx
section
variable {P : Program} {w : World} {K : PySem.W.Frag} {mg : Str → Option Value} {base : Heap}
theorem two_eq (a x y : Str) : (x == a || (y == a || false)) = decide (a = x ∨ a = y) := by
  rw [Bool.eq_iff_iff]
  simp only [Bool.or_eq_true, beq_iff_eq, decide_eq_true_eq, Bool.or_false]
  constructor
  · rintro (h | h)
    · exact .inl h.symm
    · exact .inr h.symm
  · rintro (h | h)
    · exact .inl h.symm
    · exact .inr h.symm
theorem str_of {x y : Str} (h : decide (V.str x = V.str y) = true) : x = y := V.str.inj (of_decide_eq_true h)
theorem str_not {x y : Str} (h : ¬ decide (V.str x = V.str y) = true) : ¬ x = y := fun e => h (by rw [e]; exact decide_eq_true rfl)
theorem nod_cases (a : Str) (n : Int) : (∃ i, nodT a n = .int i) ∨ nodT a n = .non := by
  unfold nodT ivT
  split
  · split
    · exact .inl ⟨_, rfl⟩
    · exact .inr rfl
  · exact .inr rfl
def zoV (w : Str) : V :=
  if w = "Z" ∨ w = "z" then .int 0 else
  match nodT (cutS w (some 1) (some 3)) 2, nodT (cutS w (some 4) none) 2 with
  | .int h, .int m => if zoneT (if Txt.startswith w "-" = true then -(60 * h + m) else 60 * h + m) = w then .int (if Txt.startswith w "-" = true then -(60 * h + m) else 60 * h + m) else .non
  | _, _ => .non
def sp__zone_of : Sp := fun vs H Q _ => ∃ (a : Str), vs = [.str a] ∧ a.length ≤ 500 ∧ ∀ H', Same H H' → Q (zoV a) H'
theorem ok__zone_of (T : Txt K mg) : FnOk P w K mg base CX0 3 T.a__zone_of T.d__zone_of ["word"] sp__zone_of := by
  refine T.F__zone_of.ok sc__zone_of (fun vs H Q E h => ?_) (fun cdv A outer s H vs Q E hr h => ?_)
  · obtain ⟨a, rfl, _⟩ := h; rfl
  · obtain ⟨a, rfl, hl, q⟩ := h
    refine ⟨_, (pss_cons (ps_if (pt_cmpR op_in_seq (pv 0) (pe_tup (pa_cons pe_str (pa_cons pe_str pa_nil))) (by with_unfolding_all rfl)) (pss_one (ps_ret pe_int)) pss_nil)
        (pss_cons (ps_set (i := 1) sc__zone_of.nd rfl (Or.inl rfl) (pe_call (ok__number_of_digits T) (hr.mono (by decide)) (by rfl) T.g__number_of_digits T.F__number_of_digits.kp T.b__number_of_digits .nil pass0 (pa_cons (pe_slice sl_str (pv 0) (po_some pe_int) (po_some pe_int)) (pa_cons pe_int pa_nil))))
        (pss_cons (ps_set (i := 2) sc__zone_of.nd rfl (Or.inl rfl) (pe_call (ok__number_of_digits T) (hr.mono (by decide)) (by rfl) T.g__number_of_digits T.F__number_of_digits.kp T.b__number_of_digits .nil pass0 (pa_cons (pe_slice sl_str (pv 0) (po_some pe_int) po_none) (pa_cons pe_int pa_nil))))
        (pss_cons (ps_if (PW.pt (pw_or (pt_cmpR op_isN (pv 1) pe_non (nomark _)) (pw_or1 (pt_cmpR op_isN (pv 2) pe_non (nomark _))))) (pss_one (ps_ret pe_non)) pss_nil)
        (pss_cons (ps_set (i := 3) sc__zone_of.nd rfl (Or.inl rfl) (pe_op op_add (pe_op op_mul pe_int (pv 1)) (pv 2)))
        (pss_cons (ps_if (pt_val (pe_m1 F.slot_str_startswith F.type_str_startswith mt_startswith (pv 0) pe_str)) (pss_one (ps_set (i := 3) sc__zone_of.nd rfl (Or.inl rfl) (pe_un un_neg (pv 3)))) pss_nil)
        (pss_one (ps_ret (pe_ifExp (pt_cmpR op_eq (pe_call (ok__zone_text T) (hr.mono (by decide)) (by rfl) T.g__zone_text T.F__zone_text.kp T.b__zone_text .nil pass0 (pa_cons (pv 3) pa_nil)) (pv 0) (nomark _)) (pv 3) pe_non))))))))), ?_⟩
    have hz : a.length ≤ sizeLine := by rw [sizeLine_eq]; omega
    refine ⟨_, rfl, (by show 2 ≤ sizeLine; decide), fun p np => ?_⟩
    have hin : inV (.str a) [.str "Z", .str "z"] = decide (a = "Z" ∨ a = "z") := two_eq a "Z" "z"
    refine ⟨p, [.str "Z", .str "z"], rfl, .inr (SqT.of upd_same), rfl, rfl, _, rfl, ?_⟩
    have sp := same_new (o := .tup [V.str "Z", .str "z"]) np
    have lc1 : (cutS a (some 1) (some 3)).length ≤ 600 := by have := cutS_length a (some 1) (some 3); omega
    have lc2 : (cutS a (some 4) none).length ≤ 600 := by have := cutS_length a (some 4) none; omega
    unfold zoV at q
    cases c : decide (a = "Z" ∨ a = "z") with
    | true =>
      rw [if_pos (of_decide_eq_true c)] at q
      have hin' : (if false = true then !inV (.str a) [.str "Z", .str "z"] else inV (.str a) [.str "Z", .str "z"]) = true := by rw [if_neg (by decide), hin, c]
      rw [hin']
      exact iteT (q _ sp)
    | false =>
      rw [if_neg (of_decide_eq_false c)] at q
      have hin' : (if false = true then !inV (.str a) [.str "Z", .str "z"] else inV (.str a) [.str "Z", .str "z"]) = false := by rw [if_neg (by decide), hin, c]
      rw [hin']
      refine iteF ?_
      refine ⟨_, rfl, 1, rfl, 3, rfl, a, rfl, hz, _, 2, rfl, by decide, lc1, fun H1 s1 => ?_⟩
      refine ⟨_, rfl, 4, rfl, ?_⟩
      dsimp only [tNoPart]
      refine ⟨a, rfl, hz, _, 2, rfl, by decide, lc2, fun H2 s2 => ?_⟩
      have sH := (sp.trans s1).trans s2
      rcases nod_cases (cutS a (some 1) (some 3)) 2 with ⟨h, eh⟩ | eh
      · rcases nod_cases (cutS a (some 4) none) 2 with ⟨m, em⟩ | em
        · rw [eh, em] at q ⊢
          have b0 := nod_bounds eh
          have b1 := nod_bounds em
          refine ⟨_, rfl, rfl, _, rfl, ?_⟩
          refine ite2 (fun c => absurd c (by simp)) (fun _ => ?_)
          refine ⟨_, rfl, rfl, _, rfl, ?_⟩
          refine ite2 (fun c => absurd c (by simp)) (fun _ => ?_)
          refine ⟨_, rfl, _, _, rfl, rfl, .inl ⟨by decide, by decide⟩, _, rfl, _, _, rfl, rfl, ?_⟩
          dsimp only at q
          refine ⟨_, rfl, ⟨_, rfl⟩, a, "-", rfl, rfl, _, rfl, ?_⟩
          cases c3 : Txt.startswith a "-" with
          | true =>
            simp only [c3, if_true] at q
            refine iteT ?_
            refine ⟨_, rfl, _, rfl, ?_⟩
            refine ⟨_, rfl, -(60 * h + m), rfl, by omega, by omega, fun H3 s3 => ?_⟩
            refine ⟨_, rfl, rfl, _, rfl, ?_⟩
            refine ite2 (fun c4 => ?_) (fun c4 => ?_)
            · rw [if_pos (str_of c4)] at q
              exact ⟨_, rfl, q _ (sH.trans s3)⟩
            · rw [if_neg (str_not c4)] at q
              exact q _ (sH.trans s3)
          | false =>
            simp only [c3, Bool.false_eq_true, if_false] at q
            refine iteF ?_
            refine ⟨_, rfl, 60 * h + m, rfl, by omega, by omega, fun H3 s3 => ?_⟩
            refine ⟨_, rfl, rfl, _, rfl, ?_⟩
            refine ite2 (fun c4 => ?_) (fun c4 => ?_)
            · rw [if_pos (str_of c4)] at q
              exact ⟨_, rfl, q _ (sH.trans s3)⟩
            · rw [if_neg (str_not c4)] at q
              exact q _ (sH.trans s3)
        · rw [eh, em] at q ⊢
          refine ⟨_, rfl, rfl, _, rfl, ?_⟩
          refine ite2 (fun c => absurd c (by simp)) (fun _ => ?_)
          refine ⟨_, rfl, rfl, _, rfl, ?_⟩
          refine ite2 (fun _ => ?_) (fun c => absurd (decide_eq_true rfl) c)
          exact q _ sH
      · rw [eh] at q ⊢
        refine ⟨_, rfl, rfl, _, rfl, ?_⟩
        refine ite2 (fun _ => ?_) (fun c => absurd (decide_eq_true rfl) c)
        exact q _ sH
end
end Toy
set_option Elab.async false
set_option linter.all false
set_option maxRecDepth 100000
set_option maxHeartbeats 4000000
namespace Toy
open PySem PySem.Spec PyProof.Rows L2 Tx
/-- the month that a word in small letters begins -/
def monFrom (w : Str) : Nat → List Str → V
  | _, [] => .non
  | i, n :: r => if 3 ≤ w.length ∧ Txt.startswith (Txt.lower n) w = true then .int (i : Nat) else monFrom w (i + 1) r
def monV (w : Str) : V := monFrom w 1 monL
theorem monFrom_at (w : Str) : ∀ (l : List Str) (i k : Nat) (n : Str), l[k]? = some n → monFrom w (i + k) (l.drop k) = if 3 ≤ w.length ∧ Txt.startswith (Txt.lower n) w = true then .int ((i + k : Nat) : Nat) else monFrom w (i + (k + 1)) (l.drop (k + 1)) := by
  intro l i k n h
  obtain ⟨hk, e⟩ := List.getElem?_eq_some_iff.mp h
  rw [List.drop_eq_getElem_cons hk, e]
  rfl
section
variable {P : Program} {w : World} {K : PySem.W.Frag} {mg : Str → Option Value} {base : Heap}
def sp__month_of : Sp := fun vs H Q _ => ∃ (a : Str), vs = [.str a] ∧ a.length ≤ 600 ∧ ∀ H', Same H H' → Q (monV a) H'
theorem ok__month_of (T : Txt K mg) : FnOk P w K mg base CX0 1 T.a__month_of T.d__month_of ["word"] sp__month_of := by
  refine T.F__month_of.ok sc__month_of (fun vs H Q E h => ?_) (fun cdv A outer s H vs Q E hr h => ?_)
  · obtain ⟨a, rfl, _⟩ := h; rfl
  · obtain ⟨a, rfl, hl, q⟩ := h
    refine ⟨_, (pss_cons (ps_for PassesOwn.never rfl (Vz.pi_en (by rfl) T.z_enumerate (pa_cons (pe_glob (v := .ref T.r_MONTHS) (by rfl) T.c_MONTHS rfl) pa_nil) (pk_cons pe_int pk_nil)) (pg_tup rfl (pgs_cons (pg_name (i := 1) sc__month_of.nd rfl (Or.inl rfl)) (pgs_cons (pg_name (i := 2) sc__month_of.nd rfl (Or.inl rfl)) pgs_nil))) (pss_one (ps_if (PW.pt (pw_and (pt_cmpR op_ge (pe_callB call_len_str (by rfl) T.z_len PySem.boot_len (pa_cons (pv 0) pa_nil)) pe_int (nomark _)) (pw_and1 (pt_val (pe_m1 F.slot_str_startswith F.type_str_startswith mt_startswith (pe_lower (pv 2)) (pv 0)))))) (pss_one (ps_ret (pv 1))) pss_nil)))
        (pss_one (ps_ret pe_non))), ?_⟩
    have hz : a.length ≤ sizeLine := by rw [sizeLine_eq]; omega
    have ml : ∀ (k : Nat) (n : Str), monL[k]? = some n → n.length ≤ 6 := fun k n h => (by decide +kernel : ∀ x ∈ monL, x.length ≤ 6) n (List.mem_of_getElem? h)
    refine ⟨_, _, 1, rfl, rfl, by decide, by decide, T.e_MONTHS H, ?_⟩
    refine for_it (Vz.walk_en (K := K) (k0 := 1) (a := T.r_MONTHS) (xs := monL.map V.str))
      (fun i σ H' => ∃ x1 x2 : Option V, σ = [some (.str a), x1, x2] ∧ Same H H' ∧ monV a = monFrom a (1 + i) (monL.drop i)) ⟨none, none, rfl, Same.refl _, rfl⟩ ?_ ?_ ?_
    · rintro i σ H' _ _
      exact T.e_MONTHS H'
    · rintro i x σ H1 H2 hi ⟨x1, x2, rfl, s1, em⟩ ⟨Tt, u1, u2, rfl, nT, rfl, e1, e2⟩
      have s2 := same_new (o := .tup [u1, u2]) nT
      have e2 : (monL.map V.str)[i]? = some u2 := e2
      rw [List.getElem?_map] at e2
      obtain ⟨n, hn, rfl⟩ := Option.map_eq_some_iff.mp e2
      have eu : u1 = .int (1 + (i : Nat)) := (Option.some.inj e1).symm
      subst eu
      have em2 := em.trans (monFrom_at a monL 1 i n hn)
      refine ⟨Tt, _, rfl, SqT.of upd_same, rfl, _, _, rfl, _, _, rfl, rfl, ?_⟩
      refine ⟨_, rfl, a, rfl, hz, _, _, rfl, rfl, _, rfl, ?_⟩
      refine ite2 (fun c1 => ?_) (fun c1 => ?_)
      · have l3 : 3 ≤ a.length := by have : (3 : Int) ≤ a.length := of_decide_eq_true c1; omega
        have ln := ml i n hn
        refine ⟨_, rfl, ⟨_, rfl⟩, n, rfl, rfl, by omega, ⟨_, rfl⟩, _, rfl, _, _, rfl, rfl, _, rfl, ?_⟩
        cases c2 : Txt.startswith (Txt.lower n) a with
        | true =>
          refine iteT ?_
          rw [if_pos ⟨l3, c2⟩] at em2
          refine ⟨_, rfl, ?_⟩
          have fin := q _ (s1.trans s2)
          rw [em2] at fin
          exact fin
        | false =>
          refine iteF ?_
          rw [if_neg (by rintro ⟨_, z⟩; rw [c2] at z; cases z)] at em2
          exact ⟨_, _, rfl, s1.trans s2, em2⟩
      · have l3 : ¬ 3 ≤ a.length := fun z => c1 (decide_eq_true (show (3 : Int) ≤ a.length by omega))
        rw [if_neg (by rintro ⟨z, _⟩; exact l3 z)] at em2
        exact ⟨_, _, rfl, s1.trans s2, em2⟩
    · rintro σ H' ⟨x1, x2, rfl, s1, em⟩
      have e0 : monL.drop (monL.map V.str).length = [] := by rw [List.length_map]; exact List.drop_length
      rw [e0] at em
      have fin := q _ s1
      rw [em] at fin
      exact fin
end
end Toy
set_option Elab.async false
set_option linter.all false
set_option maxRecDepth 100000
set_option maxHeartbeats 4000000
namespace Toy
open PySem PySem.Spec PyProof.Rows L2 Tx
def timeW (t : Str) : Str := if Txt.count t ":" = 1 then t ++ ":00" else t
def timL (t : Str) : List V := (Txt.split t ":").map fun x => nodT x 2
def dateW (d m y t z : Str) : List V := ([plT y 4, monV m, plT d 2] ++ timL (timeW t)) ++ [zoV z]
/-- what the words from the day on tell -/
def dowL : List Str → Option (List V)
  | [d, m, y, t] => some (dateW d m y t "z")
  | [d, m, y, t, z] => some (dateW d m y t z)
  | _ => none
theorem dow_none {ws : List Str} (h : ¬ (4 ≤ ws.length ∧ ws.length ≤ 5)) : dowL ws = none := by
  match ws, h with
  | [], _ => rfl
  | [_], _ => rfl
  | [_, _], _ => rfl
  | [_, _, _], _ => rfl
  | [_, _, _, _], h => exact absurd ⟨by simp, by simp⟩ h
  | [_, _, _, _, _], h => exact absurd ⟨by simp, by simp⟩ h
  | _ :: _ :: _ :: _ :: _ :: _ :: _, _ => rfl
section
variable {P : Program} {w : World} {K : PySem.W.Frag} {mg : Str → Option Value} {base : Heap}
def sp__date_of_words : Sp := fun vs H Q _ => ∃ (p : Addr) (ws : List Str), vs = [.ref p] ∧ H p = some (.lst (ws.map V.str)) ∧ ws.length ≤ 2000 ∧ (∀ x ∈ ws, x.length ≤ 450) ∧
  (dowL ws = none → ∀ H', Same H H' → Q .non H') ∧ (∀ l, dowL ws = some l → ∀ H' r, Same H H' → H' r = some (.tup l) → Q (.ref r) H')
theorem ok__date_of_words (T : Txt K mg) : FnOk P w K mg base CX0 4 T.a__date_of_words T.d__date_of_words ["words"] sp__date_of_words := by
  refine T.F__date_of_words.ok sc__date_of_words (fun vs H Q E h => ?_) (fun cdv A outer s H vs Q E hr h => ?_)
  · obtain ⟨p, ws, rfl, _⟩ := h; rfl
  · obtain ⟨p, ws, rfl, hp, hn, hx, q1, q2⟩ := h
    refine ⟨_, (pss_cons (ps_if (PW.pt (pw_or (pt_cmpR op_lt (pe_callB call_len_seq (by rfl) T.z_len PySem.boot_len (pa_cons (pv 0) pa_nil)) pe_int (nomark _)) (pw_or1 (pt_cmpR op_gt (pe_callB call_len_seq (by rfl) T.z_len PySem.boot_len (pa_cons (pv 0) pa_nil)) pe_int (nomark _))))) (pss_one (ps_ret pe_non)) pss_nil)
        (pss_cons (ps_asg (pe_slice sl_list (pv 0) po_none (po_some pe_int)) (pg_unl rfl (pgs_cons (pg_name (i := 1) sc__date_of_words.nd rfl (Or.inl rfl)) (pgs_cons (pg_name (i := 2) sc__date_of_words.nd rfl (Or.inl rfl)) (pgs_cons (pg_name (i := 3) sc__date_of_words.nd rfl (Or.inl rfl)) (pgs_cons (pg_name (i := 4) sc__date_of_words.nd rfl (Or.inl rfl)) pgs_nil))))))
        (pss_cons (ps_set (i := 5) sc__date_of_words.nd rfl (Or.inl rfl) (pe_ifExp (pt_cmpR op_eq (pe_callB call_len_seq (by rfl) T.z_len PySem.boot_len (pa_cons (pv 0) pa_nil)) pe_int (nomark _)) (pe_ix ix_list (pv 0) pe_int (fun _ _ => rfl)) pe_str))
        (pss_cons (ps_if (pt_cmpR op_eq (pe_m1 F.slot_str_count F.type_str_count mt_count (pv 4) pe_str) pe_int (nomark _)) (pss_one (ps_set (i := 4) sc__date_of_words.nd rfl (Or.inl rfl) (pe_op op_add_str (pv 4) pe_str))) pss_nil)
        (pss_one (ps_ret (pe_op op_catA (pe_op op_catA (pe_tup (pa_cons (pe_call (ok__plain_number T) (hr.mono (by decide)) (by rfl) T.g__plain_number T.F__plain_number.kp T.b__plain_number .nil pass0 (pa_cons (pv 3) (pa_cons pe_int pa_nil))) (pa_cons (pe_call (ok__month_of T) (hr.mono (by decide)) (by rfl) T.g__month_of T.F__month_of.kp T.b__month_of .nil pass0 (pa_cons (pv 2) pa_nil)) (pa_cons (pe_call (ok__plain_number T) (hr.mono (by decide)) (by rfl) T.g__plain_number T.F__plain_number.kp T.b__plain_number .nil pass0 (pa_cons (pv 1) (pa_cons pe_int pa_nil))) pa_nil)))) (pe_call (ok__time_of T) (hr.mono (by decide)) (by rfl) T.g__time_of T.F__time_of.kp T.b__time_of .nil pass0 (pa_cons (pv 4) pa_nil))) (pe_tup (pa_cons (pe_call (ok__zone_of T) (hr.mono (by decide)) (by rfl) T.g__zone_of T.F__zone_of.kp T.b__zone_of .nil pass0 (pa_cons (pv 5) pa_nil)) pa_nil))))))))), ?_⟩
    by_cases hlen : 4 ≤ ws.length ∧ ws.length ≤ 5
    · match ws, hlen, hp, hx, q2 with
      | [d, m, y, t], _, hp, hx, q2 =>
        have ld := hx d (by simp)
        have lm := hx m (by simp)
        have ly := hx y (by simp)
        have lt := hx t (by simp)
        refine ⟨_, rfl, p, _, rfl, .inl (SqL.of hp), _, _, rfl, rfl, _, rfl, ?_⟩
        refine ite2 (fun c => absurd (show decide (((4 : Nat) : Int) < 4) = true from c) (by decide)) (fun _ => ?_)
        refine ⟨_, rfl, p, _, rfl, .inl (SqL.of hp), _, _, rfl, rfl, _, rfl, ?_⟩
        refine ite2 (fun c => absurd (show decide (((4 : Nat) : Int) > 5) = true from c) (by decide)) (fun _ => ?_)
        refine ⟨_, rfl, 4, rfl, p, _, rfl, SqL.of hp, fun p1 np1 => ?_⟩
        have s1 := same_new (o := .lst (cutV [V.str d, .str m, .str y, .str t] none (some 4))) np1
        refine ⟨p1, [V.str d, .str m, .str y, .str t], rfl, SqL.of upd_same, rfl, _, _, rfl, _, _, rfl, _, _, rfl, _, _, rfl, rfl, ?_⟩
        have hp1 := s1 _ _ hp
        dsimp only
        refine asg_to (.str "z") false (fun R r => ?_) (fun cl R r => nomatch cl) (fun cl R r => ?_) ?_
        · exact ⟨_, rfl, p, _, rfl, .inl (SqL.of hp1), rfl, _, rfl, r⟩
        · exact r
        refine ⟨_, rfl, ⟨_, rfl⟩, t, ":", rfl, rfl, rfl, _, rfl, ?_⟩
        obtain ⟨tw, etw⟩ : ∃ tw, timeW t = tw := ⟨_, rfl⟩
        have ltw : tw.length ≤ 460 := by
          rw [← etw]; unfold timeW; split
          · rw [strLen_append]; have : (":00" : Str).length = 3 := by decide +kernel
            omega
          · omega
        refine ite2 (fun c => ?_) (fun c => ?_)
        · have ct : Txt.count t ":" = 1 := by rw [dI] at c; exact of_decide_eq_true c
          have e2 : t ++ ":00" = tw := by rw [← etw]; unfold timeW; rw [if_pos ct]
          refine ⟨_, rfl, _, _, rfl, rfl, ?_, ?_⟩
          · have : (":00" : Str).length = 3 := by decide +kernel
            rw [sizeLine_eq, this]; omega
          rw [e2]
          refine ⟨_, rfl, y, 4, rfl, by omega, fun H1 s1' => ?_⟩
          refine ⟨_, rfl, m, rfl, by omega, fun H2 s2 => ?_⟩
          refine ⟨_, rfl, d, 2, rfl, by omega, fun H3 s3 => ⟨(by show 3 ≤ sizeLine; decide), fun p4 n4 => ?_⟩⟩
          have s4 := same_new (o := .tup [plT y 4, monV m, plT d 2]) n4
          refine ⟨_, rfl, tw, rfl, by omega, fun H5 r5 s5 h5 => ?_⟩
          have g4 := s5 _ _ (upd_same (H := H3) (a := p4) (o := .tup [plT y 4, monV m, plT d 2]))
          have nsp := Tx.split_len (x := tw) (y := ":") (by decide +kernel) (by decide +kernel)
          refine cat_to g4 h5 (by rw [List.length_map]; show 3 + _ ≤ 1000; omega) fun r6 H6 s6 h6 => ?_
          refine ⟨_, rfl, "z", rfl, (by decide +kernel), fun H7 s7 => ⟨(by show 1 ≤ sizeLine; decide), fun p8 n8 => ?_⟩⟩
          have s8 := same_new (o := .tup [zoV "z"]) n8
          refine cat_to (s8 _ _ (s7 _ _ h6)) upd_same (by rw [List.length_append, List.length_map]; show 3 + _ + 1 ≤ 1000; omega) fun r9 H9 s9 h9 => ?_
          refine q2 (dateW d m y t "z") rfl H9 r9 ?_ ?_
          · exact ((((((((s1.trans s1').trans s2).trans s3).trans s4).trans s5).trans s6).trans s7).trans s8).trans s9
          · rw [h9]; unfold dateW timL; rw [etw]
        · have ct : ¬ Txt.count t ":" = 1 := fun z => c (by rw [dI]; exact decide_eq_true z)
          have e2 : tw = t := by rw [← etw]; unfold timeW; rw [if_neg ct]
          subst e2
          refine ⟨_, rfl, y, 4, rfl, by omega, fun H1 s1' => ?_⟩
          refine ⟨_, rfl, m, rfl, by omega, fun H2 s2 => ?_⟩
          refine ⟨_, rfl, d, 2, rfl, by omega, fun H3 s3 => ⟨(by show 3 ≤ sizeLine; decide), fun p4 n4 => ?_⟩⟩
          have s4 := same_new (o := .tup [plT y 4, monV m, plT d 2]) n4
          refine ⟨_, rfl, tw, rfl, by omega, fun H5 r5 s5 h5 => ?_⟩
          have g4 := s5 _ _ (upd_same (H := H3) (a := p4) (o := .tup [plT y 4, monV m, plT d 2]))
          have nsp := Tx.split_len (x := tw) (y := ":") (by decide +kernel) (by decide +kernel)
          refine cat_to g4 h5 (by rw [List.length_map]; show 3 + _ ≤ 1000; omega) fun r6 H6 s6 h6 => ?_
          refine ⟨_, rfl, "z", rfl, (by decide +kernel), fun H7 s7 => ⟨(by show 1 ≤ sizeLine; decide), fun p8 n8 => ?_⟩⟩
          have s8 := same_new (o := .tup [zoV "z"]) n8
          refine cat_to (s8 _ _ (s7 _ _ h6)) upd_same (by rw [List.length_append, List.length_map]; show 3 + _ + 1 ≤ 1000; omega) fun r9 H9 s9 h9 => ?_
          refine q2 (dateW d m y tw "z") rfl H9 r9 ?_ ?_
          · exact ((((((((s1.trans s1').trans s2).trans s3).trans s4).trans s5).trans s6).trans s7).trans s8).trans s9
          · rw [h9]; unfold dateW timL; rw [etw]
      | [d, m, y, t, z], _, hp, hx, q2 =>
        have ld := hx d (by simp)
        have lm := hx m (by simp)
        have ly := hx y (by simp)
        have lt := hx t (by simp)
        have lz := hx z (by simp)
        refine ⟨_, rfl, p, _, rfl, .inl (SqL.of hp), _, _, rfl, rfl, _, rfl, ?_⟩
        refine ite2 (fun c => absurd (show decide (((5 : Nat) : Int) < 4) = true from c) (by decide)) (fun _ => ?_)
        refine ⟨_, rfl, p, _, rfl, .inl (SqL.of hp), _, _, rfl, rfl, _, rfl, ?_⟩
        refine ite2 (fun c => absurd (show decide (((5 : Nat) : Int) > 5) = true from c) (by decide)) (fun _ => ?_)
        refine ⟨_, rfl, 4, rfl, p, _, rfl, SqL.of hp, fun p1 np1 => ?_⟩
        have s1 := same_new (o := .lst (cutV [V.str d, .str m, .str y, .str t, .str z] none (some 4))) np1
        refine ⟨p1, [V.str d, .str m, .str y, .str t], rfl, SqL.of upd_same, rfl, _, _, rfl, _, _, rfl, _, _, rfl, _, _, rfl, rfl, ?_⟩
        have hp1 := s1 _ _ hp
        dsimp only
        refine asg_to (.str z) true (fun R r => ?_) (fun cl R r => ?_) (fun cl R r => nomatch cl) ?_
        · exact ⟨_, rfl, p, _, rfl, .inl (SqL.of hp1), rfl, _, rfl, r⟩
        · exact ⟨_, rfl, p, _, 4, _, rfl, rfl, SqL.of hp1, rfl, r⟩
        refine ⟨_, rfl, ⟨_, rfl⟩, t, ":", rfl, rfl, rfl, _, rfl, ?_⟩
        obtain ⟨tw, etw⟩ : ∃ tw, timeW t = tw := ⟨_, rfl⟩
        have ltw : tw.length ≤ 460 := by
          rw [← etw]; unfold timeW; split
          · rw [strLen_append]; have : (":00" : Str).length = 3 := by decide +kernel
            omega
          · omega
        refine ite2 (fun c => ?_) (fun c => ?_)
        · have ct : Txt.count t ":" = 1 := by rw [dI] at c; exact of_decide_eq_true c
          have e2 : t ++ ":00" = tw := by rw [← etw]; unfold timeW; rw [if_pos ct]
          refine ⟨_, rfl, _, _, rfl, rfl, ?_, ?_⟩
          · have : (":00" : Str).length = 3 := by decide +kernel
            rw [sizeLine_eq, this]; omega
          rw [e2]
          refine ⟨_, rfl, y, 4, rfl, by omega, fun H1 s1' => ?_⟩
          refine ⟨_, rfl, m, rfl, by omega, fun H2 s2 => ?_⟩
          refine ⟨_, rfl, d, 2, rfl, by omega, fun H3 s3 => ⟨(by show 3 ≤ sizeLine; decide), fun p4 n4 => ?_⟩⟩
          have s4 := same_new (o := .tup [plT y 4, monV m, plT d 2]) n4
          refine ⟨_, rfl, tw, rfl, by omega, fun H5 r5 s5 h5 => ?_⟩
          have g4 := s5 _ _ (upd_same (H := H3) (a := p4) (o := .tup [plT y 4, monV m, plT d 2]))
          have nsp := Tx.split_len (x := tw) (y := ":") (by decide +kernel) (by decide +kernel)
          refine cat_to g4 h5 (by rw [List.length_map]; show 3 + _ ≤ 1000; omega) fun r6 H6 s6 h6 => ?_
          refine ⟨_, rfl, z, rfl, (by omega), fun H7 s7 => ⟨(by show 1 ≤ sizeLine; decide), fun p8 n8 => ?_⟩⟩
          have s8 := same_new (o := .tup [zoV z]) n8
          refine cat_to (s8 _ _ (s7 _ _ h6)) upd_same (by rw [List.length_append, List.length_map]; show 3 + _ + 1 ≤ 1000; omega) fun r9 H9 s9 h9 => ?_
          refine q2 (dateW d m y t z) rfl H9 r9 ?_ ?_
          · exact ((((((((s1.trans s1').trans s2).trans s3).trans s4).trans s5).trans s6).trans s7).trans s8).trans s9
          · rw [h9]; unfold dateW timL; rw [etw]
        · have ct : ¬ Txt.count t ":" = 1 := fun z => c (by rw [dI]; exact decide_eq_true z)
          have e2 : tw = t := by rw [← etw]; unfold timeW; rw [if_neg ct]
          subst e2
          refine ⟨_, rfl, y, 4, rfl, by omega, fun H1 s1' => ?_⟩
          refine ⟨_, rfl, m, rfl, by omega, fun H2 s2 => ?_⟩
          refine ⟨_, rfl, d, 2, rfl, by omega, fun H3 s3 => ⟨(by show 3 ≤ sizeLine; decide), fun p4 n4 => ?_⟩⟩
          have s4 := same_new (o := .tup [plT y 4, monV m, plT d 2]) n4
          refine ⟨_, rfl, tw, rfl, by omega, fun H5 r5 s5 h5 => ?_⟩
          have g4 := s5 _ _ (upd_same (H := H3) (a := p4) (o := .tup [plT y 4, monV m, plT d 2]))
          have nsp := Tx.split_len (x := tw) (y := ":") (by decide +kernel) (by decide +kernel)
          refine cat_to g4 h5 (by rw [List.length_map]; show 3 + _ ≤ 1000; omega) fun r6 H6 s6 h6 => ?_
          refine ⟨_, rfl, z, rfl, (by omega), fun H7 s7 => ⟨(by show 1 ≤ sizeLine; decide), fun p8 n8 => ?_⟩⟩
          have s8 := same_new (o := .tup [zoV z]) n8
          refine cat_to (s8 _ _ (s7 _ _ h6)) upd_same (by rw [List.length_append, List.length_map]; show 3 + _ + 1 ≤ 1000; omega) fun r9 H9 s9 h9 => ?_
          refine q2 (dateW d m y tw z) rfl H9 r9 ?_ ?_
          · exact ((((((((s1.trans s1').trans s2).trans s3).trans s4).trans s5).trans s6).trans s7).trans s8).trans s9
          · rw [h9]; unfold dateW timL; rw [etw]
    · have en := dow_none hlen
      have hl0 : (ws.map V.str).length = ws.length := List.length_map ..
      refine ⟨_, rfl, p, _, rfl, .inl (SqL.of hp), _, _, rfl, rfl, _, rfl, ?_⟩
      refine ite2 (fun _ => ?_) (fun c1 => ?_)
      · exact q1 en H (Same.refl H)
      · refine ⟨_, rfl, p, _, rfl, .inl (SqL.of hp), _, _, rfl, rfl, _, rfl, ?_⟩
        refine ite2 (fun _ => ?_) (fun c2 => ?_)
        · exact q1 en H (Same.refl H)
        · exfalso
          have h1 : ¬ ((ws.map V.str).length : Int) < 4 := fun z => c1 (decide_eq_true z)
          have h2 : ¬ ((ws.map V.str).length : Int) > 5 := fun z => c2 (decide_eq_true z)
          rw [hl0] at h1 h2
          omega
end
end Toy
set_option Elab.async false
set_option linter.all false
set_option maxRecDepth 100000
set_option maxHeartbeats 4000000
namespace Toy
open PySem PySem.Spec PyProof.Rows L2 Tx
theorem Thg.k_str {d : Addr} {K : PySem.W.Frag} {H : Hp} {v : V} {s : String} (h : Thg d H v s) : PySem.W.kitOne K (.type s) (.type "str") = some (s == "str") := by
  cases h <;> first | exact kit_ty (r := true) (by decide +kernel) | exact kit_ty (r := false) (by decide +kernel)
def nzS (x : Str) : Bool := (x.length : Int) != 0
def wordsL (a : Str) : List Str := (Txt.split (Txt.lower a) " ").filter nzS
def wdsL : List Str := wdL.map Txt.lower
def isWd (w : Str) : Bool := inV (.str w) (wdsL.map V.str)
def toldL : List Str → Option Str
  | [] => none
  | w :: _ => if isWd w = true then some w else none
def optV : Option Str → V
  | some w => .str w
  | none => .non
def restL (ws : List Str) : List Str := match toldL ws with
  | some _ => ws.tail
  | none => ws
def liesV : Option Str → List V → Bool
  | some w, [_, _, .int d, _, _, _, _] => !decide (V.str w = V.str (Txt.lower (wdT d)))
  | _, _ => false
def rlW (ws : List Str) : Option (List V × Bool) := match dowL (restL ws) with
  | some l => if isDateL l = true then some (l, liesV (toldL ws) l) else none
  | none => none
def rlV (a : Str) : Option (List V × Bool) := rlW (wordsL a)
theorem at0 {α : Type} (v : α) (xs : List α) : atI (v :: xs) 0 = some v := atI_nat (xs := v :: xs) (j := 0) rfl
theorem toldL_t {w : Str} {t : List Str} (c : isWd w = true) : toldL (w :: t) = some w := by
  show (if isWd w = true then some w else none) = _
  rw [if_pos c]
theorem toldL_f {w : Str} {t : List Str} (c : isWd w = false) : toldL (w :: t) = none := by
  show (if isWd w = true then some w else none) = _
  rw [if_neg (by rw [c]; decide)]
theorem rlW_n {ws : List Str} (h : toldL ws = none) : rlW ws = match dowL ws with
  | some l => if isDateL l = true then some (l, liesV none l) else none
  | none => none := by
  unfold rlW restL
  rw [h]
theorem rlW_s {ws : List Str} {w : Str} (h : toldL ws = some w) : rlW ws = match dowL ws.tail with
  | some l => if isDateL l = true then some (l, liesV (some w) l) else none
  | none => none := by
  unfold rlW restL
  rw [h]
theorem plT_thg (a : Str) (n : Int) : (∃ i, plT a n = .int i) ∨ plT a n = .non := by
  unfold plT ivT
  split
  · split
    · exact .inl ⟨_, rfl⟩
    · exact .inr rfl
  · exact .inr rfl
theorem monFrom_thg (w : Str) : ∀ (l : List Str) (k : Nat), (∃ i, monFrom w k l = .int i) ∨ monFrom w k l = .non
  | [], _ => .inr rfl
  | n :: r, k => by
    unfold monFrom
    split
    · exact .inl ⟨_, rfl⟩
    · exact monFrom_thg w r (k + 1)
theorem zoV_thg (a : Str) : (∃ i, zoV a = .int i) ∨ zoV a = .non := by
  unfold zoV
  split
  · exact .inl ⟨_, rfl⟩
  · split
    · by_cases c : Txt.startswith a "-" = true
      · simp only [c, if_true]
        split
        · exact .inl ⟨_, rfl⟩
        · exact .inr rfl
      · simp only [c, if_false, Bool.false_eq_true]
        split
        · exact .inl ⟨_, rfl⟩
        · exact .inr rfl
    · exact .inr rfl
theorem thg_of {d : Addr} {H : Hp} {v : V} (h : (∃ i, v = .int i) ∨ v = .non) : ∃ k, Thg d H v k := by
  rcases h with ⟨i, rfl⟩ | rfl
  · exact ⟨_, .int i⟩
  · exact ⟨_, .non⟩
theorem dateW_thg {dd : Addr} {H : Hp} (d m y t z : Str) : ∀ x ∈ dateW d m y t z, ∃ k, Thg dd H x k := by
  intro x hx
  unfold dateW timL at hx
  simp only [List.mem_append, List.mem_cons, List.not_mem_nil, or_false, List.mem_map] at hx
  rcases hx with ((rfl | rfl | rfl) | ⟨p, _, rfl⟩) | rfl
  · exact thg_of (plT_thg _ _)
  · exact thg_of (monFrom_thg _ _ _)
  · exact thg_of (plT_thg _ _)
  · exact thg_of (nod_cases _ _)
  · exact thg_of (zoV_thg _)
theorem dow_thg {dd : Addr} {H : Hp} {ws : List Str} {l : List V} (h : dowL ws = some l) : ∀ x ∈ l, ∃ k, Thg dd H x k := by
  match ws, h with
  | [d, m, y, t], h => cases h; exact dateW_thg d m y t "z"
  | [d, m, y, t, z], h => cases h; exact dateW_thg d m y t z
theorem dateL_true {l : List V} (h : isDateL l = true) : ∃ y mo d hh mi s z : Int, l = [.int y, .int mo, .int d, .int hh, .int mi, .int s, .int z] ∧ Ma.isDate y mo d hh mi s z = true := by
  unfold isDateL at h
  split at h
  · exact ⟨_, _, _, _, _, _, _, rfl, h⟩
  · cases h
section
variable {P : Program} {w : World} {K : PySem.W.Frag} {mg : Str → Option Value} {base : Heap}
def sp_read_long : Sp := fun vs H Q _ => ∃ a : Str, vs = [.str a] ∧ a.length ≤ 100 ∧
  (rlV a = none → ∀ H' r, Same H H' → H' r = some (.tup [.non, .bl false]) → Q (.ref r) H') ∧
  (∀ l b, rlV a = some (l, b) → ∀ H' d r, Same H H' → H' d = some (.tup l) → H' r = some (.tup [.ref d, .bl b]) → Q (.ref r) H')
theorem ok_read_long (T : Txt K mg) : FnOk P w K mg base CX0 6 T.a_read_long T.d_read_long ["text"] sp_read_long := by
  refine T.F_read_long.ok sc_read_long (fun vs H Q E h => ?_) (fun cdv A outer s H vs Q E hr h => ?_)
  · obtain ⟨a, rfl, _⟩ := h; rfl
  · obtain ⟨a, rfl, hl, q1, q2⟩ := h
    refine ⟨_, (pss_cons (ps_if (pt_not (pt_val (pe_callB call_isi (by rfl) T.z_isinstance (by decide +kernel) (pa_cons (pv 0) (pa_cons (pe_bltn (v := .ty "str") (by rfl) T.z_str (by decide +kernel) rfl) pa_nil))))) (pss_one (ps_ret (pe_tup (pa_cons pe_non (pa_cons pe_bl pa_nil))))) pss_nil)
        (pss_cons (ps_setLc (i := 1) (own := [("word", 5)]) (g := gName 5) (tt := fun σ H Q => tVar 5 σ H fun x H1 => ∃ k, TruV K x H1 k ∧ Q k H1) (by rfl) sc_read_long.nd rfl rfl (by rfl) (pi_list (pe_split (pe_lower (pv 0)) pe_str)) (blkOk_by (own := [("word", 5)]) (N := ["text", "words", "weekdays", "told", "date", "word", "name"]) (sc := defScope s_read_long) (by decide +kernel)) (fun _ _ _ _ _ => pg_name (i := 5) sc_read_long.nd rfl (Or.inl rfl)) (fun _ _ _ _ _ => (pts_one (pt_truth (pv 5) (by intro _; rfl)))) (fun _ _ _ _ _ => (pv 5)))
        (pss_cons (ps_setLc (i := 2) (own := [("name", 6)]) (g := gName 6) (by rfl) sc_read_long.nd rfl rfl (by rfl) (pi_tup (pe_glob (v := .ref T.r_WEEKDAYS) (by rfl) T.c_WEEKDAYS rfl)) (blkOk_by (own := [("name", 6)]) (N := ["text", "words", "weekdays", "told", "date", "word", "name"]) (sc := defScope s_read_long) (by decide +kernel)) (fun _ _ _ _ _ => pg_name (i := 6) sc_read_long.nd rfl (Or.inl rfl)) (fun _ _ _ _ _ => pts_nil) (fun _ _ _ _ _ => (pe_lower (pv 6))))
        (pss_cons (ps_set (i := 3) sc_read_long.nd rfl (Or.inl rfl) (pe_ifExp (PW.pt (pw_and (pt_truth (pv 1) (by intro _; rfl)) (pw_and1 (pt_cmpR op_in_seq (pe_ix ix_list (pv 1) pe_int (fun _ _ => rfl)) (pv 2) (by with_unfolding_all rfl))))) (pe_ix ix_list (pv 1) pe_int (fun _ _ => rfl)) pe_non))
        (pss_cons (ps_set (i := 4) sc_read_long.nd rfl (Or.inl rfl) (pe_call (ok__date_of_words T) (hr.mono (by decide)) (by rfl) T.g__date_of_words T.F__date_of_words.kp T.b__date_of_words .nil pass0 (pa_cons (pe_ifExp (pt_cmpR op_isN (pv 3) pe_non (nomark _)) (pv 1) (pe_slice sl_list (pv 1) (po_some pe_int) po_none)) pa_nil)))
        (pss_cons (ps_if (pt_not (pt_val (pe_call (ok_is_date T) (hr.mono (by decide)) (by rfl) T.g_is_date T.F_is_date.kp T.b_is_date .nil pass0 (pa_cons (pv 4) pa_nil)))) (pss_one (ps_ret (pe_tup (pa_cons pe_non (pa_cons pe_bl pa_nil))))) pss_nil)
        (pss_one (ps_ret (pe_tup (pa_cons (pv 4) (pa_cons (pe_and (pe_cmpR op_notN (pv 3) pe_non (nomark _)) (pe_one (pe_cmpR op_ne (pv 3) (pe_lower (pe_call (ok__weekday T) (hr.mono (by decide)) (by rfl) T.g__weekday T.F__weekday.kp T.b__weekday .nil pass0 (pa_cons (pe_ix ix_tup (pv 4) pe_int (fun _ _ => rfl)) pa_nil))) (nomark _)))) pa_nil))))))))))), ?_⟩
    have ll := len_lower a
    obtain ⟨hx, hn⟩ := Tx.split_len (x := Txt.lower a) (y := " ") (by decide +kernel) (by decide +kernel)
    refine ⟨_, rfl, .str a, _, _, _, _, rfl, .ty "str", (Thg.str (d := 0) (H := H) a).ty, (Thg.str (d := 0) (H := H) a).k_str, _, rfl, ?_⟩
    refine iteF ?_
    -- words
    refine ⟨_, rfl, ⟨_, rfl⟩, a, rfl, rfl, by omega, ⟨_, rfl⟩, _, " ", rfl, rfl, (by decide +kernel), (by rw [sizeLine_eq]; omega), fun p np => ?_⟩
    have sp := same_new (o := .lst ((Txt.split (Txt.lower a) " ").map V.str)) np
    refine ⟨p, rfl, ⟨_, SqL.of upd_same⟩, fun D nD => ?_⟩
    have neD : p ≠ D := fun z => by rw [← z, upd_same] at nD; cases nD
    refine lc_list (g := gName 5) (te := tVar 5) (tt := fun σ H Q => tVar 5 σ H fun x H1 => ∃ k, TruV K x H1 k ∧ Q k H1) (xs := (Txt.split (Txt.lower a) " ").map V.str) (fun i H' => H' D = some (.lst ((((Txt.split (Txt.lower a) " ").take i).filter nzS).map V.str)) ∧ ∀ b o, b ≠ D → upd H p (.lst ((Txt.split (Txt.lower a) " ").map V.str)) b = some o → H' b = some o)
      ⟨upd_same, fun b o nb e => by rw [upd_ne nb]; exact e⟩ ?_ ?_ ?_
    · rintro i H' _ ⟨_, k⟩
      exact SqL.of (k p _ neD upd_same)
    · rintro i x H1 hx1 ⟨hD, k⟩
      rw [List.getElem?_map] at hx1
      obtain ⟨y, hy, rfl⟩ := Option.map_eq_some_iff.mp hx1
      have my := List.mem_of_getElem? hy
      have ly := hx y my
      refine ⟨rfl, ?_⟩
      refine ⟨_, rfl, _, ⟨(by rw [sizeLine_eq]; omega), rfl⟩, ?_⟩
      cases c : nzS y with
      | true =>
        have c' : ((y.length : Int) != 0) = true := c
        rw [c', if_pos rfl]
        refine ⟨_, rfl, _, hD, ?_, ?_, ?_⟩
        · rw [List.length_map, sizeLine_eq]
          have := List.length_filter_le nzS ((Txt.split (Txt.lower a) " ").take i)
          rw [List.length_take] at this
          omega
        · rw [upd_same, List.take_add_one, hy, List.filter_append, List.map_append]
          simp [c]
        · intro b o nb e
          rw [upd_ne nb]
          exact k b o nb e
      | false =>
        have c' : ((y.length : Int) != 0) = false := c
        rw [c', if_neg (by decide)]
        refine ⟨?_, k⟩
        rw [hD, List.take_add_one, hy, List.filter_append]
        simp [c]
    rintro H1 ⟨hD, k1⟩
    rw [List.length_map, List.take_length] at hD
    have ew : (Txt.split (Txt.lower a) " ").filter nzS = wordsL a := rfl
    rw [ew] at hD
    have s1 : Same H H1 := fun b o e => by
      have e1 := sp b o e
      exact k1 b o (fun z => by rw [z, nD] at e1; cases e1) e1
    have wn : (wordsL a).length ≤ 301 := by
      have := List.length_filter_le nzS (Txt.split (Txt.lower a) " ")
      rw [ew] at this
      omega
    have wx : ∀ x ∈ wordsL a, x.length ≤ 300 := fun x h => by
      have := hx x (List.mem_filter.mp h).1
      omega
    unfold rlV at q1 q2
    generalize wordsL a = ws at *
    -- weekdays
    refine ⟨T.r_WEEKDAYS, rfl, ⟨_, T.e_WEEKDAYS H1⟩, fun D2 nD2 => ?_⟩
    have s2 : ∀ H', (∀ b o, b ≠ D2 → H1 b = some o → H' b = some o) → Same H1 H' := fun H' k b o e => k b o (fun z => by rw [z, nD2] at e; cases e) e
    refine lc_tup (xs := wdL.map V.str) (fun i H' => H' D2 = some (.lst (((wdL.take i).map Txt.lower).map V.str)) ∧ ∀ b o, b ≠ D2 → H1 b = some o → H' b = some o)
      ⟨upd_same, fun b o nb e => by rw [upd_ne nb]; exact e⟩ ?_ ?_ ?_
    · rintro i H' _ _
      exact T.e_WEEKDAYS H'
    · rintro i x H2 hx1 ⟨hD2, k⟩
      rw [List.getElem?_map] at hx1
      obtain ⟨y, hy, rfl⟩ := Option.map_eq_some_iff.mp hx1
      have my := List.mem_of_getElem? hy
      have ly : y.length ≤ 4 := (by decide +kernel : ∀ x ∈ wdL, x.length ≤ 4) y my
      refine ⟨rfl, ?_⟩
      refine ⟨_, rfl, ⟨_, rfl⟩, y, rfl, rfl, by omega, _, hD2, ?_, ?_, ?_⟩
      · rw [List.length_map, List.length_map, List.length_take, sizeLine_eq]
        have : wdL.length = 8 := rfl
        omega
      · rw [upd_same, List.take_add_one, hy, List.map_append, List.map_append]; rfl
      · intro b o nb e
        rw [upd_ne nb]
        exact k b o nb e
    rintro H2 ⟨hD2, k2⟩
    have s12 := s2 H2 k2
    have hD2 : H2 D2 = some (.lst (wdsL.map V.str)) := hD2
    have hDw := s12 _ _ hD
    have sH2 := s1.trans s12
    dsimp only [gName]
    cases ws with
    | nil =>
      refine asg_to .non false (fun R r => ?_) (fun cl R r => nomatch cl) (fun cl R r => ?_) ?_
      · refine ⟨_, rfl, _, .inl ⟨_, SqL.of hDw, rfl⟩, ?_⟩
        exact ite2 (fun c => absurd c (by decide)) (fun _ => r)
      · exact r
      · refine ⟨_, rfl, rfl, _, rfl, ?_⟩
        refine ite2 (fun _ => ?_) (fun c => absurd (decide_eq_true rfl) c)
        refine ⟨_, rfl, ?_⟩
        dsimp only [tNil]
        refine ⟨D, [], rfl, hDw, by omega, fun x h => (by have := wx x h; omega), fun en H3 s3 => ?_, fun l el H3 r3 s3 h3 => ?_⟩
        · refine ⟨_, rfl, 0, .non, _, rfl, .non, (fun a xs e => nomatch e), fun H4 s4 => ⟨_, rfl, iteT ?_⟩⟩
          refine ⟨(by show 2 ≤ sizeLine; decide), fun p5 n5 => ?_⟩
          exact q1 (by rw [rlW_n rfl, en]) _ p5 (((sH2.trans s3).trans s4).trans (same_new n5)) upd_same
        · refine ⟨_, rfl, 0, .ref r3, _, rfl, .tup h3, (fun a xs e hb => by cases e; rw [h3] at hb; cases hb; exact dow_thg el), fun H4 s4 => ⟨_, rfl, ?_⟩⟩
          have ed : isDateV H3 (.ref r3) = isDateL l := by unfold isDateV; simp only [h3]
          rw [ed]
          cases ei : isDateL l with
          | false =>
            refine iteT ?_
            refine ⟨(by show 2 ≤ sizeLine; decide), fun p5 n5 => ?_⟩
            exact q1 (by rw [rlW_n rfl, el]; simp [ei]) _ p5 (((sH2.trans s3).trans s4).trans (same_new n5)) upd_same
          | true =>
            refine iteF ?_
            refine ⟨_, rfl, ?_⟩
            refine ⟨_, rfl, rfl, _, rfl, ?_⟩
            refine ite2 (fun c => absurd c (by decide)) (fun _ => ?_)
            refine ⟨(by show 2 ≤ sizeLine; decide), fun p5 n5 => ?_⟩
            exact q2 l false (by rw [rlW_n rfl, el]; simp [ei, liesV]) _ r3 p5 (((sH2.trans s3).trans s4).trans (same_new n5)) (same_new n5 _ _ (s4 _ _ h3)) upd_same
    | cons w0 t0 =>
      refine asg_to (optV (toldL (w0 :: t0))) (isWd w0) (fun R r => ?_) (fun cl R r => ?_) (fun cl R r => ?_) ?_
      · refine ⟨_, rfl, _, .inl ⟨_, SqL.of hDw, rfl⟩, ?_⟩
        refine ite2 (fun _ => ?_) (fun c => absurd rfl c)
        refine ⟨_, rfl, D, (w0 :: t0).map V.str, 0, .str w0, rfl, rfl, SqL.of hDw, at0 _ _, _, rfl, D2, wdsL.map V.str, rfl, .inl (SqL.of hD2), rfl, (by decide +kernel), _, rfl, ?_⟩
        rw [if_neg (by decide)]
        exact r
      · rw [toldL_t cl] at r
        exact ⟨_, rfl, D, _, 0, _, rfl, rfl, SqL.of hDw, at0 _ _, r⟩
      · rw [toldL_f cl] at r
        exact r
      · cases cw : isWd w0 with
        | false =>
          have et : toldL (w0 :: t0) = none := toldL_f cw
          rw [et]
          refine ⟨_, rfl, rfl, _, rfl, ?_⟩
          refine ite2 (fun _ => ?_) (fun c => absurd (decide_eq_true rfl) c)
          refine ⟨_, rfl, ?_⟩
          dsimp only [tNil]
          refine ⟨D, (w0 :: t0), rfl, hDw, by omega, fun x h => (by have := wx x h; omega), fun en H3 s3 => ?_, fun l el H3 r3 s3 h3 => ?_⟩
          · refine ⟨_, rfl, 0, .non, _, rfl, .non, (fun a xs e => nomatch e), fun H4 s4 => ⟨_, rfl, iteT ?_⟩⟩
            refine ⟨(by show 2 ≤ sizeLine; decide), fun p5 n5 => ?_⟩
            exact q1 (by rw [rlW_n et, en]) _ p5 (((sH2.trans s3).trans s4).trans (same_new n5)) upd_same
          · refine ⟨_, rfl, 0, .ref r3, _, rfl, .tup h3, (fun a xs e hb => by cases e; rw [h3] at hb; cases hb; exact dow_thg el), fun H4 s4 => ⟨_, rfl, ?_⟩⟩
            have ed : isDateV H3 (.ref r3) = isDateL l := by unfold isDateV; simp only [h3]
            rw [ed]
            cases ei : isDateL l with
            | false =>
              refine iteT ?_
              refine ⟨(by show 2 ≤ sizeLine; decide), fun p5 n5 => ?_⟩
              exact q1 (by rw [rlW_n et, el]; simp [ei]) _ p5 (((sH2.trans s3).trans s4).trans (same_new n5)) upd_same
            | true =>
              refine iteF ?_
              refine ⟨_, rfl, ?_⟩
              refine ⟨_, rfl, rfl, _, rfl, ?_⟩
              refine ite2 (fun c => absurd c (by decide)) (fun _ => ?_)
              refine ⟨(by show 2 ≤ sizeLine; decide), fun p5 n5 => ?_⟩
              exact q2 l false (by rw [rlW_n et, el]; simp [ei, liesV]) _ r3 p5 (((sH2.trans s3).trans s4).trans (same_new n5)) (same_new n5 _ _ (s4 _ _ h3)) upd_same
        | true =>
          have et : toldL (w0 :: t0) = some w0 := toldL_t cw
          rw [et]
          refine ⟨_, rfl, rfl, _, rfl, ?_⟩
          refine ite2 (fun c => absurd (of_decide_eq_true c) (fun z => V.noConfusion z)) (fun _ => ?_)
          refine ⟨_, rfl, 1, rfl, ?_⟩
          dsimp only [tNoPart]
          refine ⟨D, _, rfl, SqL.of hDw, fun p6 n6 => ?_⟩
          dsimp only [tNil]
          have ec : cutV ((w0 :: t0).map V.str) (some 1) none = t0.map V.str := by rw [cut_back (by omega) (by simp only [List.length_map, List.length_cons]; omega)]; rfl
          rw [ec]
          have s6 := same_new (o := .lst (t0.map V.str)) n6
          refine ⟨p6, t0, rfl, upd_same, (by have : (w0 :: t0).length ≤ 301 := wn; simp only [List.length_cons] at this; omega), fun x h => (by have := wx x (List.mem_cons_of_mem _ h); omega), fun en H3 s3 => ?_, fun l el H3 r3 s3 h3 => ?_⟩
          · refine ⟨_, rfl, 0, .non, _, rfl, .non, (fun a xs e => nomatch e), fun H4 s4 => ⟨_, rfl, iteT ?_⟩⟩
            refine ⟨(by show 2 ≤ sizeLine; decide), fun p5 n5 => ?_⟩
            exact q1 (by rw [rlW_s et, List.tail_cons, en]) _ p5 ((((sH2.trans s6).trans s3).trans s4).trans (same_new n5)) upd_same
          · refine ⟨_, rfl, 0, .ref r3, _, rfl, .tup h3, (fun a xs e hb => by cases e; rw [h3] at hb; cases hb; exact dow_thg el), fun H4 s4 => ⟨_, rfl, ?_⟩⟩
            have ed : isDateV H3 (.ref r3) = isDateL l := by unfold isDateV; simp only [h3]
            rw [ed]
            cases ei : isDateL l with
            | false =>
              refine iteT ?_
              refine ⟨(by show 2 ≤ sizeLine; decide), fun p5 n5 => ?_⟩
              exact q1 (by rw [rlW_s et, List.tail_cons, el]; simp [ei]) _ p5 ((((sH2.trans s6).trans s3).trans s4).trans (same_new n5)) upd_same
            | true =>
              refine iteF ?_
              obtain ⟨y, mo, d, hh, mi, ss, z, rfl, isd⟩ := dateL_true ei
              have d1 : 1 ≤ d := (date_bounds isd).2.2.1.1
              refine ⟨_, rfl, ?_⟩
              refine ⟨_, rfl, rfl, _, rfl, ?_⟩
              refine ite2 (fun _ => ?_) (fun c => absurd (by rfl) c)
              refine ⟨_, rfl, _, rfl, r3, _, 2, .int d, rfl, rfl, SqT.of (s4 _ _ h3), rfl, ?_⟩
              dsimp only [tNil]
              refine ⟨d, rfl, d1, ⟨_, rfl⟩, wdT d, rfl, rfl, (by have := len_wd d; omega), rfl, ?_⟩
              refine ⟨(by show 2 ≤ sizeLine; decide), fun p5 n5 => ?_⟩
              exact q2 _ (!decide (V.str w0 = V.str (Txt.lower (wdT d)))) (by rw [rlW_s et, List.tail_cons, el]; simp only [ei, if_true]; rfl) _ r3 p5 ((((sH2.trans s6).trans s3).trans s4).trans (same_new n5)) (same_new n5 _ _ (s4 _ _ h3)) upd_same
end
end Toy
set_option Elab.async false
set_option linter.all false
set_option maxRecDepth 100000
set_option maxHeartbeats 4000000
namespace Toy
open PySem PySem.Spec PyProof.Rows L2 Tx
def rsP (y number rest : Str) : Option (List V) := match nodT number 3 with
  | .int day => some ((([plT y 4] ++ [.int (Ma.m12 (day - 1) + 1), .int (day - 1 - 28 * Ma.m12 (day - 1) + 1)]) ++ timL (cutS rest none (some 8))) ++ [zoV (cutS rest (some 8) none)])
  | _ => none
def rsL (a : Str) : Option (List V) := rsP (Txt.partition a "/").1 (Txt.partition (Txt.partition a "/").2.2 "@").1 (Txt.partition (Txt.partition a "/").2.2 "@").2.2
def shortTL : List V → Str
  | [.int y, .int mo, .int d, .int h, .int mi, .int s, .int z] => shortT y mo d h mi s z
  | _ => ""
def rsV (a : Str) : Option (List V) := match rsL a with
  | some l => if isDateL l = true ∧ shortTL l = a then some l else none
  | none => none
theorem rs_thg {dd : Addr} {H : Hp} {y n r : Str} {l : List V} (h : rsP y n r = some l) : ∀ x ∈ l, ∃ k, Thg dd H x k := by
  unfold rsP at h
  split at h
  · cases h
    intro x hx
    unfold timL at hx
    simp only [List.mem_append, List.mem_cons, List.not_mem_nil, or_false, List.mem_map] at hx
    rcases hx with ((rfl | (rfl | rfl)) | ⟨p, _, rfl⟩) | rfl
    · exact thg_of (plT_thg _ _)
    · exact ⟨_, .int _⟩
    · exact ⟨_, .int _⟩
    · exact thg_of (nod_cases _ _)
    · exact thg_of (zoV_thg _)
  · cases h
section
variable {P : Program} {w : World} {K : PySem.W.Frag} {mg : Str → Option Value} {base : Heap}
def sp_read_short : Sp := fun vs H Q _ => ∃ a : Str, vs = [.str a] ∧ a.length ≤ 100 ∧
  (rsV a = none → ∀ H', Same H H' → Q .non H') ∧ (∀ l, rsV a = some l → ∀ H' r, Same H H' → H' r = some (.tup l) → Q (.ref r) H')
end
end Toy
set_option Elab.async false
set_option linter.all false
set_option maxRecDepth 100000
set_option maxHeartbeats 8000000
/-! The texts of a date, read. -/
namespace Toy
open PySem PySem.Spec PyProof.Rows L2 Tx TL
/-- digits, colons and signs of zones alone: small letters change nothing -/
def plain (l : List Nat) : Prop := ∀ c ∈ l, (48 ≤ c ∧ c ≤ 58) ∨ c = 43 ∨ c = 45
theorem plain_append {a b : List Nat} (h : plain a) (k : plain b) : plain (a ++ b) := fun c hc => by
  rcases List.mem_append.mp hc with x | x
  · exact h c x
  · exact k c x
theorem num_tl {n : Int} (h : 0 ≤ n) : tl (num n) = numL n.toNat := by
  obtain ⟨k, rfl⟩ : ∃ k : Nat, n = (k : Int) := ⟨n.toNat, by omega⟩
  exact tl_num k
theorem num_dig {n : Int} (h : 0 ≤ n) : ∀ c ∈ tl (num n), 48 ≤ c ∧ c ≤ 57 := by
  rw [num_tl h]; exact fun c hc => numL_digits n.toNat c hc
theorem twoDigN : ∀ k : Fin 100, ((tl (intSpecTextOf "02d" ((k.val : Nat) : Int))).all fun c => decide (48 ≤ c) && decide (c ≤ 57)) = true := by decide +kernel
theorem two_dig {n : Int} (h0 : 0 ≤ n) (h1 : n < 100) : ∀ c ∈ tl (two n), 48 ≤ c ∧ c ≤ 57 := by
  obtain ⟨k, rfl⟩ : ∃ k : Nat, n = (k : Int) := ⟨n.toNat, by omega⟩
  intro c hc
  have := List.all_eq_true.mp (twoDigN ⟨k, by omega⟩) c hc
  simpa using this
theorem threeDigN : ∀ k : Fin 400, ((tl (intSpecTextOf "03d" ((k.val : Nat) : Int))).all fun c => decide (48 ≤ c) && decide (c ≤ 57)) = true := by decide +kernel
theorem three_dig {n : Int} (h0 : 0 ≤ n) (h1 : n < 400) : ∀ c ∈ tl (three n), 48 ≤ c ∧ c ≤ 57 := by
  obtain ⟨k, rfl⟩ : ∃ k : Nat, n = (k : Int) := ⟨n.toNat, by omega⟩
  intro c hc
  have := List.all_eq_true.mp (threeDigN ⟨k, by omega⟩) c hc
  simpa using this
theorem plain_of {l : List Nat} (h : ∀ c ∈ l, 48 ≤ c ∧ c ≤ 57) : plain l := fun c hc => .inl (by have := h c hc; omega)
theorem tl_colon : tl (":" : Str) = [58] := by decide +kernel
theorem tl_space : tl (" " : Str) = [32] := by decide +kernel
theorem time_tl (h mi s : Int) : tl (timeT h mi s) = tl (two h) ++ 58 :: (tl (two mi) ++ 58 :: tl (two s)) := by
  unfold timeT
  rw [tl_join, tl_colon]
  rfl
theorem time_plain {h mi s : Int} (h0 : 0 ≤ h) (h1 : h < 100) (m0 : 0 ≤ mi) (m1 : mi < 100) (s0 : 0 ≤ s) (s1 : s < 100) : plain (tl (timeT h mi s)) := by
  rw [time_tl]
  have c58 : plain [58] := fun c hc => .inl (by rw [List.mem_singleton.mp hc]; omega)
  exact plain_append (plain_of (two_dig h0 h1)) (plain_append c58 (plain_append (plain_of (two_dig m0 m1)) (plain_append c58 (plain_of (two_dig s0 s1)))))
theorem zone_plain {z : Int} (z0 : -840 ≤ z) (z1 : z ≤ 840) (zn : ¬ z = 0) : plain (tl (zoneT z)) := by
  unfold zoneT
  rw [if_neg zn]
  have a : 0 ≤ absZ z ∧ absZ z ≤ 840 := by unfold absZ; split <;> omega
  simp only [tl_append, tl_colon]
  have c58 : plain [58] := fun c hc => .inl (by rw [List.mem_singleton.mp hc]; omega)
  have cs : plain (tl (sgnT z)) := by
    unfold sgnT
    have e1 : tl ("-" : Str) = [45] := by decide +kernel
    have e2 : tl ("+" : Str) = [43] := by decide +kernel
    split
    · rw [e1]; exact fun c hc => .inr (.inr (List.mem_singleton.mp hc))
    · rw [e2]; exact fun c hc => .inr (.inl (List.mem_singleton.mp hc))
  exact plain_append (plain_append (plain_append cs (plain_of (two_dig (n := absZ z / 60) (by omega) (by omega)))) c58) (plain_of (two_dig (n := absZ z % 60) (by omega) (by omega)))
theorem lo_plain {l : List Nat} (h : plain l) : l.map lo1 = l := by
  induction l with
  | nil => rfl
  | cons c l ih =>
    rw [List.map_cons, ih fun x hx => h x (List.mem_cons_of_mem _ hx)]
    have := h c (List.mem_cons_self ..)
    unfold lo1
    rw [if_neg (by omega)]
def asc (l : List Nat) : Prop := ∀ c ∈ l, c < 128
theorem plain_asc {l : List Nat} (h : plain l) : asc l := fun c hc => by have := h c hc; omega
theorem low_tl {x : Str} (h : asc (tl x)) : tl (Txt.lower x) = (tl x).map lo1 := by
  rw [lower_ascii h]
  show (x.cps.map lo1).toList = _
  rw [Array.toList_map]
theorem low_plain {x : Str} (h : plain (tl x)) : Txt.lower x = x := ext_tl (by rw [low_tl (plain_asc h), lo_plain h])
theorem map_joinL (f : Nat → Nat) (S : List Nat) : ∀ ps : List (List Nat), (joinL S ps).map f = joinL (S.map f) (ps.map (·.map f))
  | [] => rfl
  | [p] => rfl
  | p :: q :: r => by
    show (p ++ (S ++ joinL S (q :: r))).map f = p.map f ++ (S.map f ++ joinL (S.map f) ((q :: r).map (·.map f)))
    rw [List.map_append, List.map_append, map_joinL f S (q :: r)]
theorem asc_joinL {S : List Nat} (hS : asc S) : ∀ ps : List (List Nat), (∀ p ∈ ps, asc p) → asc (joinL S ps)
  | [], _ => fun c hc => nomatch hc
  | [p], h => h p (by simp)
  | p :: q :: r, h => by
    have ih := asc_joinL hS (q :: r) fun x hx => h x (List.mem_cons_of_mem _ hx)
    intro c hc
    have hc : c ∈ p ++ (S ++ joinL S (q :: r)) := hc
    rcases List.mem_append.mp hc with x | x
    · exact h p (by simp) c x
    · rcases List.mem_append.mp x with x | x
      · exact hS c x
      · exact ih c x
theorem low_join {ps : List Str} (h : ∀ p ∈ ps, asc (tl p)) : Txt.lower (Str.join " " ps) = Str.join " " (ps.map Txt.lower) := by
  refine ext_tl ?_
  have a32 : asc [32] := fun c hc => by rw [List.mem_singleton.mp hc]; omega
  have ha : asc (tl (Str.join " " ps)) := by
    rw [tl_join, tl_space]
    refine asc_joinL a32 _ fun p hp => ?_
    obtain ⟨x, hx, rfl⟩ := List.mem_map.mp hp
    exact h x hx
  rw [low_tl ha, tl_join, tl_join, tl_space, map_joinL]
  have e : [32].map lo1 = [32] := rfl
  rw [e, List.map_map, List.map_map]
  congr 1
  refine List.map_congr_left fun x hx => ?_
  exact (low_tl (h x hx)).symm
/-- a text of words, cut and cleaned -/
theorem words_join {ps : List Str} (hne : ps ≠ []) (h : ∀ p ∈ ps, asc (tl p)) (h32 : ∀ p ∈ ps, 32 ∉ tl (Txt.lower p)) (hz : ∀ p ∈ ps, nzS (Txt.lower p) = true) : wordsL (Str.join " " ps) = ps.map Txt.lower := by
  unfold wordsL
  rw [low_join h, ← join_eq, split_join tl_space (by decide +kernel) (by simpa using hne) (by
    intro p hp
    obtain ⟨x, hx, rfl⟩ := List.mem_map.mp hp
    exact h32 x hx)]
  rw [List.filter_eq_self]
  intro p hp
  obtain ⟨x, hx, rfl⟩ := List.mem_map.mp hp
  exact hz x hx
theorem numL_head (n : Nat) (h : 1 ≤ n) : ∃ c r, numL n = c :: r ∧ c ≠ 48 := by
  induction n using Nat.strongRecOn with
  | _ n ih =>
    by_cases k : n < 10
    · exact ⟨48 + n, [], numL_lt k, by omega⟩
    · obtain ⟨c, r, e, ne⟩ := ih (n / 10) (by omega) (by omega)
      rw [numL_step (by omega), e]
      exact ⟨c, _, rfl, ne⟩
theorem pl_num {n : Int} (h1 : 1 ≤ n) (h2 : n < 10000) {k : Nat} (hk : (numL n.toNat).length ≤ k) : plT (num n) (k : Nat) = .int n := by
  obtain ⟨m, rfl⟩ : ∃ m : Nat, n = (m : Int) := ⟨n.toNat, by omega⟩
  rw [Int.toNat_natCast] at hk
  have e := tl_num m
  have el : (num (m : Int)).length = (numL m).length := by rw [len_tl]; exact congrArg _ e
  have ne := numL_ne m
  have l1 : 1 ≤ (numL m).length := by
    cases c : numL m with
    | nil => exact absurd c ne
    | cons _ _ => simp
  have sw : Txt.startswith (num (m : Int)) "0" = false := by
    obtain ⟨c, r, ec, nc⟩ := numL_head m (by omega)
    cases hs : Txt.startswith (num (m : Int)) "0" with
    | false => rfl
    | true =>
      exfalso
      have hs' : (decide (0 + ("0" : Str).length ≤ (num (m : Int)).length) && Builtin.Str.subAt (num (m : Int)) "0" 0) = true := hs
      rw [Bool.and_eq_true, decide_eq_true_eq] at hs'
      have h0 : tl ("0" : Str) = [48] := by decide +kernel
      have hp := (at_iff (x := num (m : Int)) (y := "0") (by rw [h0]; simp) 0).mp hs'
      rw [h0, List.drop_zero, show tl (num (m : Int)) = c :: r from e.trans ec, pre_of_head [] r nc] at hp
      cases hp
  have dg : digs (num (m : Int)) = true := by
    unfold digs
    rw [List.all_eq_true]
    intro c hc
    have hd := num_dig (n := (m : Int)) (by omega) c hc
    have e : ("0123456789" : Str).cps.toList = [48, 49, 50, 51, 52, 53, 54, 55, 56, 57] := by decide +kernel
    rw [decide_eq_true_eq, e]
    simp only [List.mem_cons, List.not_mem_nil, or_false]
    omega
  have iv : intText? (num (m : Int)) = some (m : Int) := int_num (n := m) (by have := numL_len (n := m) (k := 4) (by decide) (by omega); omega)
  unfold plT ivT
  rw [if_pos ⟨by omega, by omega, sw, dg⟩, iv]
theorem nodTwoN : ∀ k : Fin 100, nodT (intSpecTextOf "02d" ((k.val : Nat) : Int)) 2 = .int ((k.val : Nat) : Int) := by decide +kernel
theorem nod_two {n : Int} (h0 : 0 ≤ n) (h1 : n < 100) : nodT (two n) 2 = .int n := by
  obtain ⟨k, rfl⟩ : ∃ k : Nat, n = (k : Int) := ⟨n.toNat, by omega⟩
  exact nodTwoN ⟨k, by omega⟩
theorem nodThreeN : ∀ k : Fin 400, nodT (intSpecTextOf "03d" ((k.val : Nat) : Int)) 3 = .int ((k.val : Nat) : Int) := by decide +kernel
theorem nod_three {n : Int} (h0 : 0 ≤ n) (h1 : n < 400) : nodT (three n) 3 = .int n := by
  obtain ⟨k, rfl⟩ : ∃ k : Nat, n = (k : Int) := ⟨n.toNat, by omega⟩
  exact nodThreeN ⟨k, by omega⟩
theorem sw_pre {x y : Str} (hy : tl y ≠ []) : Txt.startswith x y = pre (tl y) (tl x) := by
  have h := at_iff (x := x) hy 0
  rw [List.drop_zero] at h
  have hs : Txt.startswith x y = (decide (0 + y.length ≤ x.length) && Builtin.Str.subAt x y 0) := rfl
  rw [Bool.eq_iff_iff, ← h, hs, Bool.and_eq_true, decide_eq_true_eq]
  rfl
theorem list2 {l : List Nat} (h : l.length = 2) : ∃ a b, l = [a, b] := by
  match l, h with
  | [a, b], _ => exact ⟨a, b, rfl⟩
theorem zoV_zone {z : Int} (z0 : -840 ≤ z) (z1 : z ≤ 840) : zoV (zoneT z) = .int z := by
  by_cases zn : z = 0
  · subst zn
    have e : zoneT 0 = "Z" := rfl
    unfold zoV
    rw [e, if_pos (.inl rfl)]
  · have a : 0 ≤ absZ z ∧ absZ z ≤ 840 := by unfold absZ; split <;> omega
    have ez : zoneT z = ((sgnT z ++ two (absZ z / 60)) ++ ":") ++ two (absZ z % 60) := by unfold zoneT; rw [if_neg zn]
    obtain ⟨x1, x2, ex⟩ := list2 (l := tl (two (absZ z / 60))) (by rw [← len_tl]; exact len_two (by omega) (by omega))
    obtain ⟨y1, y2, ey⟩ := list2 (l := tl (two (absZ z % 60))) (by rw [← len_tl]; exact len_two (by omega) (by omega))
    have e1 : tl ("-" : Str) = [45] := by decide +kernel
    have e2 : tl ("+" : Str) = [43] := by decide +kernel
    have es : tl (sgnT z) = [if z < 0 then 45 else 43] := by
      unfold sgnT; split
      · exact e1
      · exact e2
    have et : tl (zoneT z) = [(if z < 0 then 45 else 43), x1, x2, 58, y1, y2] := by
      rw [ez, tl_append, tl_append, tl_append, es, ex, ey, tl_colon]; rfl
    have el : (zoneT z).length = 6 := by rw [len_tl, et]; rfl
    have c1 : cutS (zoneT z) (some 1) (some 3) = two (absZ z / 60) := by
      refine ext_tl ?_
      rw [ex]
      show (((tl (zoneT z)).drop (HT.sIx (zoneT z).length 0 (some 1))).take (HT.sIx (zoneT z).length (zoneT z).length (some 3) - HT.sIx (zoneT z).length 0 (some 1))) = _
      rw [el, et]; rfl
    have c2 : cutS (zoneT z) (some 4) none = two (absZ z % 60) := by
      refine ext_tl ?_
      rw [ey]
      show (((tl (zoneT z)).drop (HT.sIx (zoneT z).length 0 (some 4))).take (HT.sIx (zoneT z).length (zoneT z).length none - HT.sIx (zoneT z).length 0 (some 4))) = _
      rw [el, et]; rfl
    have sw : Txt.startswith (zoneT z) "-" = decide (z < 0) := by
      rw [sw_pre (by rw [e1]; simp), e1, et]
      by_cases c : z < 0
      · rw [if_pos c, decide_eq_true c]; rfl
      · rw [if_neg c, decide_eq_false c]; rfl
    have nz : ¬ (zoneT z = "Z" ∨ zoneT z = "z") := by
      rintro (h | h)
      · rw [h] at el; exact absurd el (by decide +kernel)
      · rw [h] at el; exact absurd el (by decide +kernel)
    have ev : (if Txt.startswith (zoneT z) "-" = true then -(60 * (absZ z / 60) + absZ z % 60) else 60 * (absZ z / 60) + absZ z % 60) = z := by
      rw [sw]
      unfold absZ
      by_cases c : z < 0
      · rw [if_pos (decide_eq_true c)]; simp only [if_pos c]; omega
      · rw [if_neg (by rw [decide_eq_false c]; decide)]; simp only [if_neg c]; omega
    unfold zoV
    rw [if_neg nz, c1, c2, nod_two (by omega) (by omega), nod_two (by omega) (by omega)]
    simp only []
    rw [ev, if_pos rfl]
theorem monN : ∀ k : Fin 13, monV (Txt.lower (monL.getD k.val "")) = .int ((k.val + 1 : Nat) : Int) := by decide +kernel
theorem mon_read {mo : Int} (m0 : 1 ≤ mo) (m1 : mo ≤ 13) : monV (Txt.lower (monT mo)) = .int mo := by
  unfold monT
  have e := monN ⟨(mo - 1).toNat, by omega⟩
  have e2 : (((mo - 1).toNat + 1 : Nat) : Int) = mo := by omega
  rw [e2] at e
  exact e
end Toy
set_option Elab.async false
set_option linter.all false
set_option maxRecDepth 100000
set_option maxHeartbeats 8000000
namespace Toy
open PySem PySem.Spec PyProof.Rows L2 Tx TL
theorem wd_mem {d : Int} (d1 : 1 ≤ d) : wdT d ∈ wdL := by
  unfold wdT
  split
  · have c : (d - 1) % 7 = 0 ∨ (d - 1) % 7 = 1 ∨ (d - 1) % 7 = 2 ∨ (d - 1) % 7 = 3 ∨ (d - 1) % 7 = 4 ∨ (d - 1) % 7 = 5 ∨ (d - 1) % 7 = 6 := by omega
    rcases c with c | c | c | c | c | c | c <;> rw [c] <;> simp [wdL]
  · simp [wdL]
theorem mon_mem {mo : Int} (m0 : 1 ≤ mo) (m1 : mo ≤ 13) : monT mo ∈ monL := by
  unfold monT
  have h : (mo - 1).toNat < monL.length := by show _ < 13; omega
  rw [List.getD_eq_getElem?_getD, List.getElem?_eq_getElem h]
  exact List.getElem_mem h
/-- a word that may stand in a long text -/
def okW (x : Str) : Bool := ((tl x).all fun c => decide (c < 128) && decide (c ≠ 47)) && !(tl (Txt.lower x)).contains 32 && nzS (Txt.lower x)
theorem okW_wd : ∀ x ∈ wdL, okW x = true := by decide +kernel
theorem okW_mon : ∀ x ∈ monL, okW x = true := by decide +kernel
theorem okW_Z : okW "Z" = true := by decide +kernel
theorem okW_plain {x : Str} (h : plain (tl x)) (n : 1 ≤ x.length) : okW x = true := by
  unfold okW
  rw [low_plain h]
  have e1 : ((tl x).all fun c => decide (c < 128) && decide (c ≠ 47)) = true := by
    rw [List.all_eq_true]
    intro c hc
    have := h c hc
    simp only [Bool.and_eq_true, decide_eq_true_eq]
    omega
  have e2 : (tl x).contains 32 = false := by
    cases c : (tl x).contains 32 with
    | false => rfl
    | true =>
      have := h 32 (List.contains_iff_mem.mp c)
      omega
  have e3 : nzS x = true := by unfold nzS; simp only [bne_iff_ne]; omega
  rw [e1, e2, e3]; rfl
theorem okW_use {x : Str} (h : okW x = true) : asc (tl x) ∧ 47 ∉ tl x ∧ 32 ∉ tl (Txt.lower x) ∧ nzS (Txt.lower x) = true := by
  unfold okW at h
  simp only [Bool.and_eq_true, List.all_eq_true, decide_eq_true_eq, Bool.not_eq_true'] at h
  obtain ⟨⟨h1, h2⟩, h3⟩ := h
  refine ⟨fun c hc => (h1 c hc).1, fun hc => (h1 47 hc).2 rfl, fun hc => ?_, h3⟩
  rw [List.contains_iff_mem.mpr hc] at h2
  cases h2
theorem isWd_all : ∀ x ∈ wdL, isWd (Txt.lower x) = true := by decide +kernel
theorem num_plain {n : Int} (h : 0 ≤ n) : plain (tl (num n)) := plain_of (num_dig h)
theorem num_pos {n : Int} (h : 0 ≤ n) : 1 ≤ (num n).length := by
  rw [len_tl, num_tl h]
  cases c : numL n.toNat with
  | nil => exact absurd c (numL_ne _)
  | cons _ _ => simp
theorem colon_mk : (":" : Str) = ⟨#[58]⟩ := ext_tl tl_colon
theorem dig_free {l : List Nat} (h : ∀ c ∈ l, 48 ≤ c ∧ c ≤ 57) {s : Nat} (k : s < 48 ∨ 57 < s) : s ∉ l := fun hc => by
  have := h s hc; omega
section
variable {y mo d h mi s z : Int}
theorem timeW_time (h0 : 0 ≤ h) (h1 : h < 100) (m0 : 0 ≤ mi) (m1 : mi < 100) (s0 : 0 ≤ s) (s1 : s < 100) : timeW (timeT h mi s) = timeT h mi s := by
  unfold timeW
  have e : Txt.count (timeT h mi s) ":" = 2 := by
    rw [colon_mk, count_cnt]
    show PyProof.Rows.cnt 58 (tl (timeT h mi s)) = 2
    rw [time_tl, cnt_append, cnt_cons, cnt_append, cnt_cons, cnt_none _ _ (dig_free (two_dig h0 h1) (.inr (by decide))), cnt_none _ _ (dig_free (two_dig m0 m1) (.inr (by decide))), cnt_none _ _ (dig_free (two_dig s0 s1) (.inr (by decide)))]
    rfl
  rw [if_neg (by rw [e]; decide)]
theorem timL_time (h0 : 0 ≤ h) (h1 : h < 100) (m0 : 0 ≤ mi) (m1 : mi < 100) (s0 : 0 ≤ s) (s1 : s < 100) : timL (timeT h mi s) = [.int h, .int mi, .int s] := by
  unfold timL timeT
  rw [← join_eq, split_join tl_colon (by decide +kernel) (by simp) (by
    intro p hp
    simp only [List.mem_cons, List.not_mem_nil, or_false] at hp
    rcases hp with rfl | rfl | rfl
    · exact dig_free (two_dig h0 h1) (.inr (by decide))
    · exact dig_free (two_dig m0 m1) (.inr (by decide))
    · exact dig_free (two_dig s0 s1) (.inr (by decide)))]
  simp only [List.map_cons, List.map_nil, nod_two h0 h1, nod_two m0 m1, nod_two s0 s1]
def longP (y mo d h mi s z : Int) : List Str := [wdT d, num d, monT mo, num y, timeT h mi s, zoneT z]
theorem zone_ok (z0 : -840 ≤ z) (z1 : z ≤ 840) : okW (zoneT z) = true := by
  by_cases zn : z = 0
  · subst zn; exact okW_Z
  · refine okW_plain (zone_plain z0 z1 zn) ?_
    unfold zoneT
    rw [if_neg zn, strLen_append, strLen_append]
    have : (":" : Str).length = 1 := by decide +kernel
    omega
theorem long_ok (isd : Ma.isDate y mo d h mi s z = true) : ∀ p ∈ longP y mo d h mi s z, okW p = true := by
  obtain ⟨⟨y0, y1⟩, ⟨mo0, mo1⟩, ⟨d0, d1⟩, ⟨h0, h1⟩, ⟨i0, i1⟩, ⟨s0, s1⟩, ⟨z0, z1⟩⟩ := date_bounds isd
  intro p hp
  unfold longP at hp
  simp only [List.mem_cons, List.not_mem_nil, or_false] at hp
  rcases hp with rfl | rfl | rfl | rfl | rfl | rfl
  · exact okW_wd _ (wd_mem d0)
  · exact okW_plain (num_plain (by omega)) (num_pos (by omega))
  · exact okW_mon _ (mon_mem mo0 mo1)
  · exact okW_plain (num_plain (by omega)) (num_pos (by omega))
  · exact okW_plain (time_plain h0 (by omega) i0 (by omega) s0 (by omega)) (by rw [len_time h0 (by omega) i0 (by omega) s0 (by omega)]; decide)
  · exact zone_ok z0 z1
theorem low_zone (z0 : -840 ≤ z) (z1 : z ≤ 840) : zoV (Txt.lower (zoneT z)) = .int z := by
  by_cases zn : z = 0
  · subst zn
    have e : Txt.lower (zoneT 0) = "z" := by decide +kernel
    unfold zoV
    rw [e, if_pos (.inr rfl)]
  · rw [low_plain (zone_plain z0 z1 zn)]; exact zoV_zone z0 z1
theorem long_read (isd : Ma.isDate y mo d h mi s z = true) : rlV (longT y mo d h mi s z) = some ([.int y, .int mo, .int d, .int h, .int mi, .int s, .int z], false) := by
  have ok := long_ok isd
  obtain ⟨⟨y0, y1⟩, ⟨mo0, mo1⟩, ⟨d0, d1⟩, ⟨h0, h1⟩, ⟨i0, i1⟩, ⟨s0, s1⟩, ⟨z0, z1⟩⟩ := date_bounds isd
  unfold rlV
  have ew : wordsL (longT y mo d h mi s z) = (longP y mo d h mi s z).map Txt.lower :=
    words_join (by simp [longP]) (fun p hp => (okW_use (ok p hp)).1) (fun p hp => (okW_use (ok p hp)).2.2.1) (fun p hp => (okW_use (ok p hp)).2.2.2)
  rw [ew]
  have ew2 : (longP y mo d h mi s z).map Txt.lower = [Txt.lower (wdT d), num d, Txt.lower (monT mo), num y, timeT h mi s, Txt.lower (zoneT z)] := by
    show [Txt.lower (wdT d), Txt.lower (num d), Txt.lower (monT mo), Txt.lower (num y), Txt.lower (timeT h mi s), Txt.lower (zoneT z)] = _
    rw [low_plain (num_plain (n := d) (by omega)), low_plain (num_plain (n := y) (by omega)), low_plain (time_plain h0 (by omega) i0 (by omega) s0 (by omega))]
  rw [ew2, rlW_s (toldL_t (isWd_all _ (wd_mem d0)))]
  have ed : dowL (List.tail [Txt.lower (wdT d), num d, Txt.lower (monT mo), num y, timeT h mi s, Txt.lower (zoneT z)]) = some [.int y, .int mo, .int d, .int h, .int mi, .int s, .int z] := by
    show some (dateW (num d) (Txt.lower (monT mo)) (num y) (timeT h mi s) (Txt.lower (zoneT z))) = _
    unfold dateW
    rw [timeW_time h0 (by omega) i0 (by omega) s0 (by omega), timL_time h0 (by omega) i0 (by omega) s0 (by omega), mon_read mo0 mo1, low_zone z0 z1]
    have p1 := pl_num (n := y) (k := 4) (by omega) (by omega) (numL_len (by decide) (by omega))
    have p2 := pl_num (n := d) (k := 2) (by omega) (by omega) (numL_len (by decide) (by omega))
    have p1' : plT (num y) 4 = .int y := p1
    have p2' : plT (num d) 2 = .int d := p2
    rw [p1', p2']
    rfl
  rw [ed]
  have ei : isDateL [.int y, .int mo, .int d, .int h, .int mi, .int s, .int z] = true := isd
  simp [ei, liesV]
theorem mem_joinL {S : List Nat} {c : Nat} : ∀ ps : List (List Nat), c ∈ joinL S ps → c ∈ S ∨ ∃ p ∈ ps, c ∈ p
  | [], h => nomatch h
  | [p], h => .inr ⟨p, by simp, h⟩
  | p :: q :: r, h => by
    have h : c ∈ p ++ (S ++ joinL S (q :: r)) := h
    rcases List.mem_append.mp h with x | x
    · exact .inr ⟨p, by simp, x⟩
    · rcases List.mem_append.mp x with x | x
      · exact .inl x
      · rcases mem_joinL (q :: r) x with y | ⟨u, hu, y⟩
        · exact .inl y
        · exact .inr ⟨u, List.mem_cons_of_mem _ hu, y⟩
theorem tl_slash : tl ("/" : Str) = [47] := by decide +kernel
theorem tl_at : tl ("@" : Str) = [64] := by decide +kernel
theorem long_short (isd : Ma.isDate y mo d h mi s z = true) : rsV (longT y mo d h mi s z) = none := by
  have ok := long_ok isd
  have f : 47 ∉ tl (longT y mo d h mi s z) := by
    intro hc
    unfold longT at hc
    rw [tl_join, tl_space] at hc
    rcases mem_joinL _ hc with x | ⟨p, hp, x⟩
    · exact absurd (List.mem_singleton.mp x) (by decide)
    · obtain ⟨u, hu, rfl⟩ := List.mem_map.mp hp
      exact (okW_use (ok u hu)).2.1 x
  unfold rsV rsL
  rw [partition_none tl_slash f]
  simp only []
  rw [partition_none tl_at (a := Str.empty) (by intro h; cases h)]
  simp only []
  have e : rsP (longT y mo d h mi s z) Str.empty Str.empty = none := by
    unfold rsP
    have : nodT Str.empty 3 = .non := by decide +kernel
    rw [this]
  rw [e]
/-- no space, all plain signs -/
def ns (l : List Nat) : Prop := ∀ c ∈ l, c ≠ 32 ∧ c < 128
theorem ns_append {a b : List Nat} (h : ns a) (k : ns b) : ns (a ++ b) := fun c hc => by
  rcases List.mem_append.mp hc with x | x
  · exact h c x
  · exact k c x
theorem ns_plain {a : List Nat} (h : plain a) : ns a := fun c hc => by have := h c hc; omega
theorem zone_ns (z0 : -840 ≤ z) (z1 : z ≤ 840) : ns (tl (zoneT z)) := by
  by_cases zn : z = 0
  · subst zn
    have e : tl (zoneT 0) = [90] := by decide +kernel
    rw [e]
    exact fun c hc => by rw [List.mem_singleton.mp hc]; decide
  · exact ns_plain (zone_plain z0 z1 zn)
theorem rlW_one {ws : List Str} (h : ws.length ≤ 1) : rlW ws = none := by
  match ws, h with
  | [], _ => rfl
  | [x], _ =>
    cases c : isWd x with
    | true => rw [rlW_s (toldL_t c)]; rfl
    | false => rw [rlW_n (toldL_f c)]; rfl
theorem one_word {a : Str} (h : ns (tl a)) : rlV a = none := by
  unfold rlV
  refine rlW_one ?_
  unfold wordsL
  have e := split_spl (Txt.lower a) " " (by rw [tl_space]; simp) (kind_ok (by decide +kernel))
  rw [tl_space, spl_last1 (by
    rw [low_tl fun c hc => (h c hc).2]
    intro hc
    obtain ⟨c, hc, e⟩ := List.mem_map.mp hc
    have := (h c hc).1
    unfold lo1 at e
    split at e <;> omega)] at e
  have l1 : (Txt.split (Txt.lower a) " ").length = 1 := by
    have := congrArg List.length e
    simpa using this
  have := List.length_filter_le nzS (Txt.split (Txt.lower a) " ")
  omega
theorem year_day {n : Int} (m0 : 1 ≤ mo) (m1 : mo ≤ 13) (d0 : 1 ≤ d) (dm : d ≤ 28 ∨ (mo = 13 ∧ d ≤ 30)) (e : n = 28 * (mo - 1) + d) : Ma.m12 (n - 1) + 1 = mo ∧ n - 1 - 28 * Ma.m12 (n - 1) + 1 = d := by
  unfold Ma.m12
  split <;> omega
theorem isd_day (isd : Ma.isDate y mo d h mi s z = true) : d ≤ 28 ∨ (mo = 13 ∧ d ≤ 30) := by
  obtain ⟨_, ⟨mo0, mo1⟩, _⟩ := date_bounds isd
  unfold Ma.isDate Ma.fits Ma.within at isd
  simp only [Bool.and_eq_true, decide_eq_true_eq] at isd
  have dm : d ≤ Ma.dim y mo := by omega
  unfold Ma.dim at dm
  split at dm
  · left; omega
  · right; constructor
    · omega
    · split at dm <;> omega
theorem short_tl : tl (shortT y mo d h mi s z) = tl (num y) ++ (47 :: (tl (three (28 * (mo - 1) + d)) ++ (64 :: (tl (timeT h mi s) ++ tl (zoneT z))))) := by
  unfold shortT
  simp only [tl_append, tl_slash, tl_at, List.append_assoc, List.cons_append, List.nil_append]
theorem short_long (isd : Ma.isDate y mo d h mi s z = true) : rlV (shortT y mo d h mi s z) = none := by
  obtain ⟨⟨y0, y1⟩, ⟨mo0, mo1⟩, ⟨d0, d1⟩, ⟨h0, h1⟩, ⟨i0, i1⟩, ⟨s0, s1⟩, ⟨z0, z1⟩⟩ := date_bounds isd
  refine one_word ?_
  rw [short_tl]
  have n1 : ∀ c : Nat, c ≠ 32 → c < 128 → ns [c] := fun c a b x hx => by rw [List.mem_singleton.mp hx]; exact ⟨a, b⟩
  refine ns_append (ns_plain (num_plain (by omega))) (ns_append (n1 47 (by decide) (by decide)) (ns_append (ns_plain (plain_of (three_dig (by omega) (by omega)))) (ns_append (n1 64 (by decide) (by decide)) (ns_append (ns_plain (time_plain h0 (by omega) i0 (by omega) s0 (by omega))) (zone_ns z0 z1)))))
theorem short_read (isd : Ma.isDate y mo d h mi s z = true) : rsV (shortT y mo d h mi s z) = some [.int y, .int mo, .int d, .int h, .int mi, .int s, .int z] := by
  obtain ⟨⟨y0, y1⟩, ⟨mo0, mo1⟩, ⟨d0, d1⟩, ⟨h0, h1⟩, ⟨i0, i1⟩, ⟨s0, s1⟩, ⟨z0, z1⟩⟩ := date_bounds isd
  obtain ⟨e1, e2⟩ := year_day (n := 28 * (mo - 1) + d) mo0 mo1 d0 (isd_day isd) rfl
  have n0 : 0 ≤ 28 * (mo - 1) + d := by omega
  have n1 : 28 * (mo - 1) + d < 400 := by omega
  have f1 : shortT y mo d h mi s z = num y ++ "/" ++ (three (28 * (mo - 1) + d) ++ "@" ++ (timeT h mi s ++ zoneT z)) := by
    refine ext_tl ?_
    rw [short_tl]
    simp only [tl_append, tl_slash, tl_at, List.append_assoc, List.cons_append, List.nil_append]
  have g1 : rsL (shortT y mo d h mi s z) = rsP (num y) (three (28 * (mo - 1) + d)) (timeT h mi s ++ zoneT z) := by
    unfold rsL
    rw [f1, partition_app tl_slash (dig_free (num_dig (by omega)) (.inl (by decide)))]
    simp only []
    rw [partition_app tl_at (dig_free (three_dig n0 n1) (.inr (by decide)))]
  have lt : (tl (timeT h mi s)).length = 8 := by rw [← len_tl]; exact len_time h0 (by omega) i0 (by omega) s0 (by omega)
  have lw : (timeT h mi s ++ zoneT z).length = 8 + (zoneT z).length := by rw [strLen_append, len_time h0 (by omega) i0 (by omega) s0 (by omega)]
  have c1 : cutS (timeT h mi s ++ zoneT z) none (some 8) = timeT h mi s := by
    refine ext_tl ?_
    show (((tl (timeT h mi s ++ zoneT z)).drop (HT.sIx (timeT h mi s ++ zoneT z).length 0 none)).take (HT.sIx (timeT h mi s ++ zoneT z).length (timeT h mi s ++ zoneT z).length (some 8) - HT.sIx (timeT h mi s ++ zoneT z).length 0 none)) = _
    have a1 : HT.sIx (timeT h mi s ++ zoneT z).length (timeT h mi s ++ zoneT z).length (some 8) = 8 := by
      have := HT.sIx_nat (timeT h mi s ++ zoneT z).length (timeT h mi s ++ zoneT z).length 8
      have e : HT.sIx (timeT h mi s ++ zoneT z).length (timeT h mi s ++ zoneT z).length (some 8) = min 8 (timeT h mi s ++ zoneT z).length := this
      rw [e, lw]; omega
    rw [HT.sIx_none, a1, tl_append, List.drop_zero, Nat.sub_zero, List.take_left' lt]
  have c2 : cutS (timeT h mi s ++ zoneT z) (some 8) none = zoneT z := by
    refine ext_tl ?_
    show (((tl (timeT h mi s ++ zoneT z)).drop (HT.sIx (timeT h mi s ++ zoneT z).length 0 (some 8))).take (HT.sIx (timeT h mi s ++ zoneT z).length (timeT h mi s ++ zoneT z).length none - HT.sIx (timeT h mi s ++ zoneT z).length 0 (some 8))) = _
    have a1 : HT.sIx (timeT h mi s ++ zoneT z).length 0 (some 8) = 8 := by
      have e : HT.sIx (timeT h mi s ++ zoneT z).length 0 (some 8) = min 8 (timeT h mi s ++ zoneT z).length := HT.sIx_nat (timeT h mi s ++ zoneT z).length 0 8
      rw [e, lw]; omega
    rw [HT.sIx_none, a1, tl_append, List.drop_left' lt, lw, List.take_of_length_le]
    rw [← len_tl]; omega
  have p1 : plT (num y) 4 = .int y := pl_num (n := y) (k := 4) (by omega) (by omega) (numL_len (by decide) (by omega))
  unfold rsV
  rw [g1]
  unfold rsP
  rw [nod_three n0 n1]
  simp only []
  rw [c1, c2, e1, e2, p1, timL_time h0 (by omega) i0 (by omega) s0 (by omega), zoV_zone z0 z1]
  exact if_pos ⟨isd, rfl⟩
end
end Toy
set_option Elab.async false
set_option linter.all false
set_option maxRecDepth 100000
set_option maxHeartbeats 8000000
/-! What the law's own reading of texts tells, and from which texts. -/
namespace Toy
open PySem PySem.Spec PyProof.Rows L2 Tx TL
/-- the number of a word of lo to hi digits, -1 for others -/
def lnum (a : Str) (lo hi : Int) : Int := if lo ≤ (a.length : Int) ∧ (a.length : Int) ≤ hi ∧ digs a = true then (intText? a).getD (-1) else -1
def lplain (a : Str) : Int := if ¬ cutS a none (some 1) = "0" ∨ a = "0" then lnum a 1 4 else -1
def lhh (w : Str) : Int := lnum (cutS w (some 1) (some 3)) 2 2
def lmm (w : Str) : Int := lnum (cutS w (some 4) none) 2 2
def lzone (w : Str) : List Int := if w = "Z" ∨ w = "z" then [0] else match tl w with
  | [c0, _, _, c3, _, _] => if (c0 = 43 ∨ c0 = 45) ∧ c3 = 58 ∧ 0 ≤ lhh w ∧ 0 ≤ lmm w ∧ lmm w ≤ 59 ∧ 0 < 60 * lhh w + lmm w ∧ 60 * lhh w + lmm w ≤ 840 then [if c0 = 43 then 60 * lhh w + lmm w else 0 - (60 * lhh w + lmm w)] else []
  | _ => []
def lparts (w : Str) (sh : Bool) : List Str := if (Txt.split w ":").length = 2 ∧ sh = true then Txt.split w ":" ++ [("00" : Str)] else Txt.split w ":"
def lclock (w : Str) (sh : Bool) : List Int := if ((lparts w sh).map fun x => lnum x 2 2).length = 3 ∧ (-1) ∉ ((lparts w sh).map fun x => lnum x 2 2) then (lparts w sh).map fun x => lnum x 2 2 else []
theorem lnum_bound (a : Str) (lo hi : Int) (h : 0 ≤ lnum a lo hi) : lo ≤ (a.length : Int) ∧ (a.length : Int) ≤ hi ∧ digs a = true ∧ (1 ≤ lo → hi ≤ 600 → intText? a = some (lnum a lo hi)) := by
  unfold lnum at h ⊢
  split at h
  · rename_i c
    obtain ⟨c1, c2, c3⟩ := c
    refine ⟨c1, c2, c3, fun l1 h1 => ?_⟩
    obtain ⟨i, hi'⟩ := digs_int c3 (by omega) (by omega)
    rw [if_pos ⟨c1, c2, c3⟩, hi']; rfl
  · omega
theorem digs_all {a : Str} (h : digs a = true) : NumText.AllDigits (tl a) := digs_iff h
theorem intText_val {a : Str} (h : digs a = true) (n : 1 ≤ a.length) (m : a.length ≤ 4300) : intText? a = some ((NumText.digitsVal (tl a) : Nat) : Int) := by
  refine intText_digits (digs_iff h) ?_ m
  intro z
  have : a.length = a.cps.toList.length := by simp [Str.length]
  rw [z] at this
  simp at this
  omega
theorem twoTN : ∀ k : Fin 100, tl (intSpecTextOf "02d" ((k.val : Nat) : Int)) = [48 + k.val / 10, 48 + k.val % 10] := by decide +kernel
theorem two_tl {n : Int} (h0 : 0 ≤ n) (h1 : n < 100) : tl (two n) = [48 + n.toNat / 10, 48 + n.toNat % 10] := by
  obtain ⟨k, rfl⟩ : ∃ k : Nat, n = (k : Int) := ⟨n.toNat, by omega⟩
  exact twoTN ⟨k, by omega⟩
theorem threeTN : ∀ k : Fin 1000, tl (intSpecTextOf "03d" ((k.val : Nat) : Int)) = [48 + k.val / 100, 48 + k.val / 10 % 10, 48 + k.val % 10] := by decide +kernel
theorem three_tl {n : Int} (h0 : 0 ≤ n) (h1 : n < 1000) : tl (three n) = [48 + n.toNat / 100, 48 + n.toNat / 10 % 10, 48 + n.toNat % 10] := by
  obtain ⟨k, rfl⟩ : ∃ k : Nat, n = (k : Int) := ⟨n.toNat, by omega⟩
  exact threeTN ⟨k, by omega⟩
theorem len_list {a : Str} {k : Nat} (h : (a.length : Int) = (k : Nat)) : (tl a).length = k := by rw [← len_tl]; omega
/-- two digits are those of their number -/
theorem two_inv {a : Str} (h : 0 ≤ lnum a 2 2) : a = two (lnum a 2 2) ∧ lnum a 2 2 ≤ 99 := by
  obtain ⟨l1, l2, dg, iv⟩ := lnum_bound a 2 2 h
  have iv := iv (by decide) (by decide)
  have l : (tl a).length = 2 := len_list (k := 2) (by omega)
  rw [intText_val dg (by omega) (by omega)] at iv
  have ev := Option.some.inj iv
  have ad := digs_all dg
  match hc : tl a, l with
  | [p, r], _ =>
    have d1 := ad p (by rw [hc]; simp)
    have d2 := ad r (by rw [hc]; simp)
    rw [hc] at ev
    have e : NumText.digitsVal [p, r] = (0 * 10 + (p - 48)) * 10 + (r - 48) := rfl
    rw [e] at ev
    rw [← ev]
    refine ⟨ext_tl ?_, by omega⟩
    rw [two_tl (by omega) (by omega), hc, Int.toNat_natCast]
    congr 1
    · omega
    · congr 1
      omega
theorem three_inv {a : Str} (h : 0 ≤ lnum a 3 3) : a = three (lnum a 3 3) ∧ lnum a 3 3 ≤ 999 := by
  obtain ⟨l1, l2, dg, iv⟩ := lnum_bound a 3 3 h
  have iv := iv (by decide) (by decide)
  have l : (tl a).length = 3 := len_list (k := 3) (by omega)
  rw [intText_val dg (by omega) (by omega)] at iv
  have ev := Option.some.inj iv
  have ad := digs_all dg
  match hc : tl a, l with
  | [p, q, r], _ =>
    have d1 := ad p (by rw [hc]; simp)
    have d2 := ad q (by rw [hc]; simp)
    have d3 := ad r (by rw [hc]; simp)
    rw [hc] at ev
    have e : NumText.digitsVal [p, q, r] = ((0 * 10 + (p - 48)) * 10 + (q - 48)) * 10 + (r - 48) := rfl
    rw [e] at ev
    rw [← ev]
    refine ⟨ext_tl ?_, by omega⟩
    rw [three_tl (by omega) (by omega), hc, Int.toNat_natCast]
    congr 1
    · omega
    · congr 1
      · omega
      · congr 1
        omega
theorem val_snoc (l : List Nat) (c : Nat) : NumText.digitsVal (l ++ [c]) = NumText.digitsVal l * 10 + (c - 48) := by
  unfold NumText.digitsVal
  rw [List.foldl_append]; rfl
theorem val_pos : ∀ (l : List Nat) (a : Nat), 1 ≤ a → 1 ≤ l.foldl (fun acc c => acc * 10 + (c - 48)) a
  | [], a, h => h
  | c :: r, a, h => val_pos r (a * 10 + (c - 48)) (by omega)
theorem val_pos1 {c : Nat} {r : List Nat} (h : 49 ≤ c) : 1 ≤ NumText.digitsVal (c :: r) := val_pos r (0 * 10 + (c - 48)) (by omega)
/-- digits without a leading zero are those of their number -/
theorem numL_inv (k : Nat) : ∀ (c : Nat) (r : List Nat), r.length = k → 49 ≤ c → NumText.AllDigits (c :: r) → numL (NumText.digitsVal (c :: r)) = c :: r := by
  induction k with
  | zero =>
    intro c r hl hc ad
    have : r = [] := List.length_eq_zero_iff.mp hl
    subst this
    have d := ad c (by simp)
    have e : NumText.digitsVal [c] = 0 * 10 + (c - 48) := rfl
    rw [e, numL_lt (by omega)]
    congr 1
    omega
  | succ k ih =>
    intro c r hl hc ad
    have hr : r ≠ [] := by intro z; rw [z] at hl; cases hl
    obtain ⟨r', x, rfl⟩ : ∃ r' x, r = r' ++ [x] := ⟨r.dropLast, r.getLast hr, (List.dropLast_concat_getLast hr).symm⟩
    have l2 : r'.length = k := by rw [List.length_append] at hl; simpa using hl
    have ad2 : NumText.AllDigits (c :: r') := fun y hy => ad y (by rw [← List.cons_append]; exact List.mem_append_left _ hy)
    have dx := ad x (by simp)
    have i2 := ih c r' l2 hc ad2
    have vp := val_pos1 (c := c) (r := r') hc
    rw [← List.cons_append, val_snoc, numL_step (by omega)]
    have e1 : (NumText.digitsVal (c :: r') * 10 + (x - 48)) / 10 = NumText.digitsVal (c :: r') := by omega
    have e2 : 48 + (NumText.digitsVal (c :: r') * 10 + (x - 48)) % 10 = x := by omega
    rw [e1, e2, i2]
theorem tl_zero : tl ("0" : Str) = [48] := by decide +kernel
theorem cut1_tl {a : Str} {c : Nat} {r : List Nat} (h : tl a = c :: r) : tl (cutS a none (some 1)) = [c] := by
  show (((tl a).drop (HT.sIx a.length 0 none)).take (HT.sIx a.length a.length (some 1) - HT.sIx a.length 0 none)) = _
  have l : a.length = r.length + 1 := by rw [len_tl, h]; rfl
  have e : HT.sIx a.length a.length (some 1) = min 1 a.length := HT.sIx_nat a.length a.length 1
  rw [HT.sIx_none, e, l, List.drop_zero, Nat.sub_zero, h]
  have : min 1 (r.length + 1) = 1 := by omega
  rw [this]; rfl
theorem plain_inv {a : Str} (h : 1 ≤ lplain a) : a = num (lplain a) ∧ lplain a ≤ 9999 := by
  unfold lplain at h ⊢
  split at h
  · rename_i c
    rw [if_pos c]
    obtain ⟨l1, l2, dg, iv⟩ := lnum_bound a 1 4 (by omega)
    have iv := iv (by decide) (by decide)
    rw [intText_val dg (by omega) (by omega)] at iv
    have ev := Option.some.inj iv
    have ad := digs_all dg
    have ll : (tl a).length = a.length := (len_tl a).symm
    cases ht : tl a with
    | nil => rw [ht] at ll; simp at ll; omega
    | cons x r =>
      have dx := ad x (by rw [ht]; simp)
      have hx : 49 ≤ x := by
        by_cases e : x = 48
        · exfalso
          rcases c with c | c
          · refine c (ext_tl ?_)
            rw [cut1_tl ht, tl_zero, e]
          · subst c
            rw [tl_zero] at ev
            have e0 : NumText.digitsVal [48] = 0 := rfl
            rw [e0] at ev
            omega
        · omega
      rw [ht] at ev ad ll
      have inv := numL_inv r.length x r rfl hx ad
      rw [← ev]
      refine ⟨ext_tl ?_, ?_⟩
      · show _ = tl (num _)
        rw [num_tl (by omega), Int.toNat_natCast, inv, ht]
      · have l3 : r.length + 1 ≤ 4 := by simp at ll; omega
        have : NumText.digitsVal (x :: r) < 10 ^ 4 := by
          match r, l3 with
          | [], _ =>
            have e : NumText.digitsVal [x] = 0 * 10 + (x - 48) := rfl
            rw [e]; omega
          | [b], _ =>
            have d1 := ad b (by simp)
            have e : NumText.digitsVal [x, b] = (0 * 10 + (x - 48)) * 10 + (b - 48) := rfl
            rw [e]; omega
          | [b, d], _ =>
            have d1 := ad b (by simp)
            have d2 := ad d (by simp)
            have e : NumText.digitsVal [x, b, d] = ((0 * 10 + (x - 48)) * 10 + (b - 48)) * 10 + (d - 48) := rfl
            rw [e]; omega
          | [b, d, f], _ =>
            have d1 := ad b (by simp)
            have d2 := ad d (by simp)
            have d3 := ad f (by simp)
            have e : NumText.digitsVal [x, b, d, f] = (((0 * 10 + (x - 48)) * 10 + (b - 48)) * 10 + (d - 48)) * 10 + (f - 48) := rfl
            rw [e]; omega
        omega
  · omega
theorem joinL_spl1 (s : Nat) : ∀ (l acc : List Nat), joinL [s] (spl [s] 0 acc l) = acc ++ l
  | [], acc => by rw [spl_nil]; simp [joinL]
  | c :: r, acc => by
    by_cases h : pre [s] (c :: r) = true
    · have e : c = s := by
        unfold pre at h
        simpa using h
      rw [spl_hit h]
      have ne := spl_ne [s] r ([s].length - 1) []
      have i := joinL_spl1 s r []
      have e0 : [s].length - 1 = 0 := rfl
      rw [e0] at ne ⊢
      cases hp : spl [s] 0 [] r with
      | nil => exact absurd hp ne
      | cons q t =>
        show acc ++ ([s] ++ joinL [s] (q :: t)) = _
        rw [← hp, i, e]; simp
    · rw [spl_miss (by simpa using h), joinL_spl1 s r (acc ++ [c])]
      simp
theorem split_back (a : Str) : Str.join ":" (Txt.split a ":") = a := by
  refine ext_tl ?_
  rw [tl_join, tl_colon, split_spl a ":" (by rw [tl_colon]; simp) (kind_ok (by decide +kernel)), tl_colon, joinL_spl1]
  rfl
theorem par_some {S : List Nat} : ∀ (l acc p r : List Nat), par S acc l = some (p, r) → acc ++ l = p ++ (S ++ r)
  | [], acc, p, r, h => by cases h
  | c :: t, acc, p, r, h => by
    by_cases e : pre S (c :: t) = true
    · rw [par_hit e] at h
      cases h
      unfold pre at e
      have e : (c :: t).take S.length = S := by simpa using e
      congr 1
      have := List.take_append_drop S.length (c :: t)
      rw [e] at this
      exact this.symm
    · rw [par_miss (by simpa using e)] at h
      have := par_some t (acc ++ [c]) p r h
      rw [← this]; simp
/-- what stands around a sign that is there -/
theorem part_back {a y : Str} (hy : tl y ≠ []) (h : ¬ (Txt.partition a y).2.1 = "") : a = (Txt.partition a y).1 ++ y ++ (Txt.partition a y).2.2 := by
  rw [partition_par a y hy] at h ⊢
  cases hp : par (tl y) [] (tl a) with
  | none => rw [hp] at h; exact absurd rfl h
  | some pr =>
    obtain ⟨p, r⟩ := pr
    have := par_some _ _ _ _ hp
    refine ext_tl ?_
    rw [tl_append, tl_append]
    show tl a = p ++ tl y ++ r
    rw [List.nil_append] at this
    rw [this, List.append_assoc]
theorem cut_join (a : Str) : a = cutS a none (some 8) ++ cutS a (some 8) none := by
  refine ext_tl ?_
  rw [tl_append]
  show tl a = (((tl a).drop (HT.sIx a.length 0 none)).take (HT.sIx a.length a.length (some 8) - HT.sIx a.length 0 none)) ++ (((tl a).drop (HT.sIx a.length 0 (some 8))).take (HT.sIx a.length a.length none - HT.sIx a.length 0 (some 8)))
  have e1 : HT.sIx a.length a.length (some 8) = min 8 a.length := HT.sIx_nat a.length a.length 8
  have e2 : HT.sIx a.length 0 (some 8) = min 8 a.length := HT.sIx_nat a.length 0 8
  rw [HT.sIx_none, HT.sIx_none, e1, e2, List.drop_zero, Nat.sub_zero, List.take_of_length_le (l := (tl a).drop _) (by rw [List.length_drop, ← len_tl]; omega), List.take_append_drop]
/-- a clock that is told is that of its numbers -/
theorem clock_inv {w : Str} (h : ¬ lclock w false = []) : ∃ h' mi s, lclock w false = [h', mi, s] ∧ w = timeT h' mi s ∧ (0 ≤ h' ∧ h' ≤ 99) ∧ (0 ≤ mi ∧ mi ≤ 99) ∧ (0 ≤ s ∧ s ≤ 99) := by
  have e : lparts w false = Txt.split w ":" := by unfold lparts; rw [if_neg (by simp)]
  unfold lclock at h ⊢
  rw [e] at h ⊢
  split at h
  · rename_i c
    rw [if_pos c]
    obtain ⟨c1, c2⟩ := c
    have bk := split_back w
    rw [List.length_map] at c1
    match hs : Txt.split w ":", c1 with
    | [p, q, r], _ =>
      rw [hs] at bk c2
      simp only [List.map_cons, List.map_nil, List.mem_cons, List.not_mem_nil, or_false, not_or] at c2
      have nn : ∀ x : Str, ¬ -1 = lnum x 2 2 → 0 ≤ lnum x 2 2 := by
        intro x hx
        unfold lnum at hx ⊢
        split
        · rename_i c
          obtain ⟨c1, c2, c3⟩ := c
          rw [intText_val c3 (by omega) (by omega)]
          simp only [Option.getD_some]
          omega
        · rename_i c; rw [if_neg c] at hx; exact absurd rfl hx
      obtain ⟨p1, p2⟩ := two_inv (nn p c2.1)
      obtain ⟨q1, q2⟩ := two_inv (nn q c2.2.1)
      obtain ⟨r1, r2⟩ := two_inv (nn r c2.2.2)
      refine ⟨lnum p 2 2, lnum q 2 2, lnum r 2 2, rfl, ?_, ⟨nn p c2.1, p2⟩, ⟨nn q c2.2.1, q2⟩, ⟨nn r c2.2.2, r2⟩⟩
      unfold timeT
      rw [← p1, ← q1, ← r1, bk]
  · exact absurd rfl h
/-- a zone that is told is written so, but for a small z -/
theorem zone_inv {w : Str} (h : ¬ lzone w = []) (nz : ¬ w = "z") : ∃ z, lzone w = [z] ∧ w = zoneT z ∧ -840 ≤ z ∧ z ≤ 840 := by
  unfold lzone at h ⊢
  by_cases c : w = "Z" ∨ w = "z"
  · rw [if_pos c]
    rcases c with c | c
    · exact ⟨0, rfl, c, by decide, by decide⟩
    · exact absurd c nz
  · rw [if_neg c] at h ⊢
    match ht : tl w with
    | [c0, a1, a2, c3, b1, b2] =>
      rw [ht] at h
      simp only [] at h
      split at h
      · rename_i k
        obtain ⟨k0, k3, k4, k5, k6, k7, k8⟩ := k
        simp only []
        rw [if_pos ⟨k0, k3, k4, k5, k6, k7, k8⟩]
        have el : w.length = 6 := by rw [len_tl, ht]; rfl
        have c1 : tl (cutS w (some 1) (some 3)) = [a1, a2] := by
          show (((tl w).drop (HT.sIx w.length 0 (some 1))).take (HT.sIx w.length w.length (some 3) - HT.sIx w.length 0 (some 1))) = _
          rw [el, ht]; rfl
        have c2 : tl (cutS w (some 4) none) = [b1, b2] := by
          show (((tl w).drop (HT.sIx w.length 0 (some 4))).take (HT.sIx w.length w.length none - HT.sIx w.length 0 (some 4))) = _
          rw [el, ht]; rfl
        obtain ⟨i1, i2⟩ := two_inv (a := cutS w (some 1) (some 3)) k4
        obtain ⟨j1, j2⟩ := two_inv (a := cutS w (some 4) none) k5
        have i1 : cutS w (some 1) (some 3) = two (lhh w) := i1
        have j1 : cutS w (some 4) none = two (lmm w) := j1
        generalize lhh w = hh at *
        generalize lmm w = mm at *
        have e1 : tl ("-" : Str) = [45] := by decide +kernel
        have e2 : tl ("+" : Str) = [43] := by decide +kernel
        refine ⟨_, rfl, ?_, ?_⟩
        · refine ext_tl ?_
          unfold zoneT
          rcases k0 with rfl | rfl
          · rw [if_pos rfl, if_neg (by omega)]
            have az : absZ (60 * hh + mm) = 60 * hh + mm := by unfold absZ; rw [if_neg (by omega)]
            have sz : sgnT (60 * hh + mm) = "+" := by unfold sgnT; rw [if_neg (by omega)]
            have d1 : (60 * hh + mm) / 60 = hh := by omega
            have d2 : (60 * hh + mm) % 60 = mm := by omega
            rw [az, sz, d1, d2, tl_append, tl_append, tl_append, e2, ← i1, ← j1, c1, c2, tl_colon, ht, k3]; rfl
          · have e45 : (if (45 : Nat) = 43 then 60 * hh + mm else 0 - (60 * hh + mm)) = 0 - (60 * hh + mm) := if_neg (by decide)
            rw [e45, if_neg (by omega)]
            have az : absZ (0 - (60 * hh + mm)) = 60 * hh + mm := by unfold absZ; rw [if_pos (by omega)]; omega
            have sz : sgnT (0 - (60 * hh + mm)) = "-" := by unfold sgnT; rw [if_pos (by omega)]
            have d1 : (60 * hh + mm) / 60 = hh := by omega
            have d2 : (60 * hh + mm) % 60 = mm := by omega
            rw [az, sz, d1, d2, tl_append, tl_append, tl_append, e1, ← i1, ← j1, c1, c2, tl_colon, ht, k3]; rfl
        · rcases k0 with rfl | rfl
          · rw [if_pos rfl]; omega
          · rw [if_neg (by decide)]; omega
      · exact absurd rfl h
    | [] => rw [ht] at h; exact absurd rfl h
    | [_] => rw [ht] at h; exact absurd rfl h
    | [_, _] => rw [ht] at h; exact absurd rfl h
    | [_, _, _] => rw [ht] at h; exact absurd rfl h
    | [_, _, _, _] => rw [ht] at h; exact absurd rfl h
    | [_, _, _, _, _] => rw [ht] at h; exact absurd rfl h
    | _ :: _ :: _ :: _ :: _ :: _ :: _ :: _ => rw [ht] at h; exact absurd rfl h
end Toy
set_option Elab.async false
set_option linter.all false
set_option maxRecDepth 100000
set_option maxHeartbeats 8000000
namespace Toy
open PySem PySem.Spec PyProof.Rows L2 Tx TL
def lbelts (c : Str) : List Int := if cutS c (some 8) none = "z" then [] else lzone (cutS c (some 8) none)
def lmon (day : Int) : Int := if 336 < day then 13 else (day - 1) / 28 + 1
def ldate (y n c : Str) : List Int := ([lplain y, lmon (lnum n 3 3), lnum n 3 3 - 28 * (lmon (lnum n 3 3) - 1)] ++ lclock (cutS c none (some 8)) false) ++ [(lbelts c).headD 0]
def lreadP (y mark n sign c : Str) : Option (List Int) :=
  if mark = "" ∨ sign = "" ∨ lnum n 3 3 < 1 ∨ lclock (cutS c none (some 8)) false = [] ∨ lbelts c = [] ∨ lplain y < 1 then none
  else if isDateL ((ldate y n c).map V.int) = true then some (ldate y n c) else none
def lread (a : Str) : Option (List Int) := lreadP (Txt.partition a "/").1 (Txt.partition a "/").2.1 (Txt.partition (Txt.partition a "/").2.2 "@").1 (Txt.partition (Txt.partition a "/").2.2 "@").2.1 (Txt.partition (Txt.partition a "/").2.2 "@").2.2
theorem lread_inv {a : Str} {l : List Int} (h : lread a = some l) : ∃ y mo d h' mi s z : Int, l = [y, mo, d, h', mi, s, z] ∧ a = shortT y mo d h' mi s z ∧ Ma.isDate y mo d h' mi s z = true := by
  unfold lread at h
  have b1 := part_back (a := a) (y := "/") (by rw [tl_slash]; simp)
  generalize (Txt.partition a "/").1 = y at *
  generalize (Txt.partition a "/").2.1 = mark at *
  generalize (Txt.partition a "/").2.2 = r at *
  have b2 := part_back (a := r) (y := "@") (by rw [tl_at]; simp)
  generalize (Txt.partition r "@").1 = n at *
  generalize (Txt.partition r "@").2.1 = sign at *
  generalize (Txt.partition r "@").2.2 = c at *
  unfold lreadP at h
  split at h
  · cases h
  · rename_i k
    simp only [not_or] at k
    obtain ⟨k1, k2, k3, k4, k5, k6⟩ := k
    split at h
    · rename_i isd
      cases h
      have b1 := b1 k1
      have b2 := b2 k2
      obtain ⟨n1, n2⟩ := three_inv (a := n) (by omega)
      obtain ⟨y1, y2⟩ := plain_inv (a := y) (by omega)
      obtain ⟨h', mi, s, ec, ew, _, _, _⟩ := clock_inv k4
      have nz : ¬ cutS c (some 8) none = "z" := fun z => k5 (by unfold lbelts; rw [if_pos z])
      have eb : lbelts c = lzone (cutS c (some 8) none) := by unfold lbelts; rw [if_neg nz]
      rw [eb] at k5
      obtain ⟨z, ez, ew2, z0, z1⟩ := zone_inv k5 nz
      have ed : ldate y n c = [lplain y, lmon (lnum n 3 3), lnum n 3 3 - 28 * (lmon (lnum n 3 3) - 1), h', mi, s, z] := by
        unfold ldate; rw [ec, eb, ez]; rfl
      rw [ed] at isd ⊢
      refine ⟨_, _, _, _, _, _, _, rfl, ?_, isd⟩
      unfold shortT
      have e28 : 28 * (lmon (lnum n 3 3) - 1) + (lnum n 3 3 - 28 * (lmon (lnum n 3 3) - 1)) = lnum n 3 3 := by omega
      rw [e28, ← y1, ← n1, ← ew, ← ew2]
      refine ext_tl ?_
      have cj := cut_join c
      rw [b1, b2]
      conv => lhs; rw [cj]
      simp only [tl_append, List.append_assoc]
    · cases h
theorem lnum_two {n : Int} (h0 : 0 ≤ n) (h1 : n < 100) : lnum (two n) 2 2 = n := by
  have e := nod_two h0 h1
  unfold nodT ivT at e
  split at e
  · rename_i c
    obtain ⟨c1, c2⟩ := c
    unfold lnum
    rw [if_pos ⟨by omega, by omega, c2⟩]
    split at e
    · rename_i i hi; rw [hi]; cases e; rfl
    · cases e
  · cases e
theorem lnum_three {n : Int} (h0 : 0 ≤ n) (h1 : n < 400) : lnum (three n) 3 3 = n := by
  have e := nod_three h0 h1
  unfold nodT ivT at e
  split at e
  · rename_i c
    obtain ⟨c1, c2⟩ := c
    unfold lnum
    rw [if_pos ⟨by omega, by omega, c2⟩]
    split at e
    · rename_i i hi; rw [hi]; cases e; rfl
    · cases e
  · cases e
theorem lplain_num {n : Int} (h1 : 1 ≤ n) (h2 : n < 10000) : lplain (num n) = n := by
  have hk : (numL n.toNat).length ≤ 4 := numL_len (by decide) (by omega)
  have e : plT (num n) 4 = .int n := pl_num (k := 4) h1 h2 hk
  unfold plT ivT at e
  split at e
  · rename_i c
    obtain ⟨c1, c2, c3, c4⟩ := c
    unfold lplain
    have nz : ¬ cutS (num n) none (some 1) = "0" := by
      obtain ⟨x, r, ex, nx⟩ := numL_head n.toNat (by omega)
      have et : tl (num n) = x :: r := (num_tl (by omega)).trans ex
      intro z
      have := cut1_tl et
      rw [z, tl_zero] at this
      exact nx (List.head_eq_of_cons_eq this).symm
    rw [if_pos (.inl nz)]
    unfold lnum
    rw [if_pos ⟨by omega, by omega, c4⟩]
    split at e
    · rename_i i hi; rw [hi]; cases e; rfl
    · cases e
  · cases e
theorem lclock_time {h mi s : Int} (h0 : 0 ≤ h) (h1 : h < 100) (m0 : 0 ≤ mi) (m1 : mi < 100) (s0 : 0 ≤ s) (s1 : s < 100) (b : Bool) : lclock (timeT h mi s) b = [h, mi, s] := by
  have es : Txt.split (timeT h mi s) ":" = [two h, two mi, two s] := by
    unfold timeT
    rw [← join_eq, split_join tl_colon (by decide +kernel) (by simp) (by
      intro p hp
      simp only [List.mem_cons, List.not_mem_nil, or_false] at hp
      rcases hp with rfl | rfl | rfl
      · exact dig_free (two_dig h0 h1) (.inr (by decide))
      · exact dig_free (two_dig m0 m1) (.inr (by decide))
      · exact dig_free (two_dig s0 s1) (.inr (by decide)))]
  have ep : lparts (timeT h mi s) b = [two h, two mi, two s] := by
    unfold lparts
    rw [es, if_neg (by simp)]
  unfold lclock
  rw [ep]
  simp only [List.map_cons, List.map_nil, lnum_two h0 h1, lnum_two m0 m1, lnum_two s0 s1]
  rw [if_pos]
  refine ⟨rfl, ?_⟩
  simp only [List.mem_cons, List.not_mem_nil, or_false, not_or]
  omega
theorem lzone_zone {z : Int} (z0 : -840 ≤ z) (z1 : z ≤ 840) : lzone (zoneT z) = [z] := by
  by_cases zn : z = 0
  · subst zn
    have e : zoneT 0 = "Z" := rfl
    unfold lzone
    rw [e, if_pos (.inl rfl)]
  · have a : 0 ≤ absZ z ∧ absZ z ≤ 840 := by unfold absZ; split <;> omega
    have ez : zoneT z = ((sgnT z ++ two (absZ z / 60)) ++ ":") ++ two (absZ z % 60) := by unfold zoneT; rw [if_neg zn]
    obtain ⟨x1, x2, ex⟩ := list2 (l := tl (two (absZ z / 60))) (by rw [← len_tl]; exact len_two (by omega) (by omega))
    obtain ⟨y1, y2, ey⟩ := list2 (l := tl (two (absZ z % 60))) (by rw [← len_tl]; exact len_two (by omega) (by omega))
    have e1 : tl ("-" : Str) = [45] := by decide +kernel
    have e2 : tl ("+" : Str) = [43] := by decide +kernel
    have es : tl (sgnT z) = [if z < 0 then 45 else 43] := by
      unfold sgnT; split
      · exact e1
      · exact e2
    have et : tl (zoneT z) = [(if z < 0 then 45 else 43), x1, x2, 58, y1, y2] := by
      rw [ez, tl_append, tl_append, tl_append, es, ex, ey, tl_colon]; rfl
    have el : (zoneT z).length = 6 := by rw [len_tl, et]; rfl
    have c1 : cutS (zoneT z) (some 1) (some 3) = two (absZ z / 60) := by
      refine ext_tl ?_
      rw [ex]
      show (((tl (zoneT z)).drop (HT.sIx (zoneT z).length 0 (some 1))).take (HT.sIx (zoneT z).length (zoneT z).length (some 3) - HT.sIx (zoneT z).length 0 (some 1))) = _
      rw [el, et]; rfl
    have c2 : cutS (zoneT z) (some 4) none = two (absZ z % 60) := by
      refine ext_tl ?_
      rw [ey]
      show (((tl (zoneT z)).drop (HT.sIx (zoneT z).length 0 (some 4))).take (HT.sIx (zoneT z).length (zoneT z).length none - HT.sIx (zoneT z).length 0 (some 4))) = _
      rw [el, et]; rfl
    have nz : ¬ (zoneT z = "Z" ∨ zoneT z = "z") := by
      rintro (h | h)
      · rw [h] at el; exact absurd el (by decide +kernel)
      · rw [h] at el; exact absurd el (by decide +kernel)
    have h1 : lhh (zoneT z) = absZ z / 60 := by unfold lhh; rw [c1, lnum_two (by omega) (by omega)]
    have h2 : lmm (zoneT z) = absZ z % 60 := by unfold lmm; rw [c2, lnum_two (by omega) (by omega)]
    unfold lzone
    rw [if_neg nz, et]
    simp only []
    rw [h1, h2]
    have az : 1 ≤ absZ z := by unfold absZ; split <;> omega
    rw [if_pos ⟨by by_cases c : z < 0 <;> simp [c], by simp, by omega, by omega, by omega, by omega, by omega⟩]
    unfold absZ
    by_cases c : z < 0
    · simp only [if_pos c]
      rw [if_neg (by decide)]
      congr 1; omega
    · simp only [if_neg c, if_true]
      congr 1; omega
theorem cut_short {h mi s z : Int} (h0 : 0 ≤ h) (h1 : h < 100) (m0 : 0 ≤ mi) (m1 : mi < 100) (s0 : 0 ≤ s) (s1 : s < 100) : cutS (timeT h mi s ++ zoneT z) none (some 8) = timeT h mi s ∧ cutS (timeT h mi s ++ zoneT z) (some 8) none = zoneT z := by
  have lt : (tl (timeT h mi s)).length = 8 := by rw [← len_tl]; exact len_time h0 h1 m0 m1 s0 s1
  have lw : (timeT h mi s ++ zoneT z).length = 8 + (zoneT z).length := by rw [strLen_append, len_time h0 h1 m0 m1 s0 s1]
  constructor
  · refine ext_tl ?_
    show (((tl (timeT h mi s ++ zoneT z)).drop (HT.sIx (timeT h mi s ++ zoneT z).length 0 none)).take (HT.sIx (timeT h mi s ++ zoneT z).length (timeT h mi s ++ zoneT z).length (some 8) - HT.sIx (timeT h mi s ++ zoneT z).length 0 none)) = _
    have a1 : HT.sIx (timeT h mi s ++ zoneT z).length (timeT h mi s ++ zoneT z).length (some 8) = 8 := by
      have e : HT.sIx (timeT h mi s ++ zoneT z).length (timeT h mi s ++ zoneT z).length (some 8) = min 8 (timeT h mi s ++ zoneT z).length := HT.sIx_nat (timeT h mi s ++ zoneT z).length (timeT h mi s ++ zoneT z).length 8
      rw [e, lw]; omega
    rw [HT.sIx_none, a1, tl_append, List.drop_zero, Nat.sub_zero, List.take_left' lt]
  · refine ext_tl ?_
    show (((tl (timeT h mi s ++ zoneT z)).drop (HT.sIx (timeT h mi s ++ zoneT z).length 0 (some 8))).take (HT.sIx (timeT h mi s ++ zoneT z).length (timeT h mi s ++ zoneT z).length none - HT.sIx (timeT h mi s ++ zoneT z).length 0 (some 8))) = _
    have a1 : HT.sIx (timeT h mi s ++ zoneT z).length 0 (some 8) = 8 := by
      have e : HT.sIx (timeT h mi s ++ zoneT z).length 0 (some 8) = min 8 (timeT h mi s ++ zoneT z).length := HT.sIx_nat (timeT h mi s ++ zoneT z).length 0 8
      rw [e, lw]; omega
    rw [HT.sIx_none, a1, tl_append, List.drop_left' lt, lw, List.take_of_length_le]
    rw [← len_tl]; omega
theorem short_lread {y mo d h mi s z : Int} (isd : Ma.isDate y mo d h mi s z = true) : lread (shortT y mo d h mi s z) = some [y, mo, d, h, mi, s, z] := by
  obtain ⟨⟨y0, y1⟩, ⟨mo0, mo1⟩, ⟨d0, d1⟩, ⟨h0, h1⟩, ⟨i0, i1⟩, ⟨s0, s1⟩, ⟨z0, z1⟩⟩ := date_bounds isd
  have dd := isd_day isd
  have n0 : 0 ≤ 28 * (mo - 1) + d := by omega
  have n1 : 28 * (mo - 1) + d < 400 := by omega
  have f1 : shortT y mo d h mi s z = num y ++ "/" ++ (three (28 * (mo - 1) + d) ++ "@" ++ (timeT h mi s ++ zoneT z)) := by
    refine ext_tl ?_
    rw [short_tl]
    simp only [tl_append, tl_slash, tl_at, List.append_assoc, List.cons_append, List.nil_append]
  have ns : ¬ ("/" : Str) = "" := by decide +kernel
  have na : ¬ ("@" : Str) = "" := by decide +kernel
  obtain ⟨c1, c2⟩ := cut_short (z := z) h0 (show h < 100 by omega) i0 (show mi < 100 by omega) s0 (show s < 100 by omega)
  have nz : ¬ zoneT z = "z" := by
    intro e
    have l := lzone_zone z0 z1
    by_cases zn : z = 0
    · subst zn
      have e2 : zoneT 0 = "Z" := rfl
      rw [e2] at e
      exact absurd e (by decide +kernel)
    · have p := zone_plain z0 z1 zn
      rw [e] at p
      have hz : tl ("z" : Str) = [122] := by decide +kernel
      rw [hz] at p
      have := p 122 (by simp)
      omega
  unfold lread
  rw [f1, partition_app tl_slash (dig_free (num_dig (by omega)) (.inl (by decide)))]
  simp only []
  rw [partition_app tl_at (dig_free (three_dig n0 n1) (.inr (by decide)))]
  simp only []
  have eb : lbelts (timeT h mi s ++ zoneT z) = [z] := by unfold lbelts; rw [c2, if_neg nz, lzone_zone z0 z1]
  have ec : lclock (cutS (timeT h mi s ++ zoneT z) none (some 8)) false = [h, mi, s] := by rw [c1, lclock_time h0 (by omega) i0 (by omega) s0 (by omega)]
  have el := lnum_three n0 n1
  have ey := lplain_num (n := y) (by omega) (by omega)
  have em : lmon (28 * (mo - 1) + d) = mo := by unfold lmon; split <;> omega
  have ed : ldate (num y) (three (28 * (mo - 1) + d)) (timeT h mi s ++ zoneT z) = [y, mo, d, h, mi, s, z] := by
    unfold ldate
    rw [el, em, ec, eb, ey]
    have : 28 * (mo - 1) + d - 28 * (mo - 1) = d := by omega
    rw [this]; rfl
  unfold lreadP
  rw [ed, el, ec, eb, ey, if_neg (by
    rintro (x | x | x | x | x | x)
    · exact ns x
    · exact na x
    · omega
    · cases x
    · cases x
    · omega)]
  exact if_pos isd
theorem rsV_some {a : Str} {l : List V} (h : rsV a = some l) : ∃ y mo d h' mi s z : Int, l = [.int y, .int mo, .int d, .int h', .int mi, .int s, .int z] ∧ a = shortT y mo d h' mi s z ∧ Ma.isDate y mo d h' mi s z = true := by
  unfold rsV at h
  split at h
  · split at h
    · rename_i l' _ c
      cases h
      obtain ⟨y, mo, d, hh, mi, s, z, rfl, isd⟩ := dateL_true c.1
      exact ⟨y, mo, d, hh, mi, s, z, rfl, c.2.symm, isd⟩
    · cases h
  · cases h
/-- the program and the law read the same -/
theorem both (a : Str) : (rsV a = none ∧ lread a = none) ∨ ∃ y mo d h mi s z : Int, Ma.isDate y mo d h mi s z = true ∧ a = shortT y mo d h mi s z ∧ rsV a = some [.int y, .int mo, .int d, .int h, .int mi, .int s, .int z] ∧ lread a = some [y, mo, d, h, mi, s, z] := by
  cases e : rsV a with
  | some l =>
    obtain ⟨y, mo, d, h, mi, s, z, rfl, ea, isd⟩ := rsV_some e
    refine .inr ⟨y, mo, d, h, mi, s, z, isd, ea, rfl, ?_⟩
    rw [ea]; exact short_lread isd
  | none =>
    refine .inl ⟨rfl, ?_⟩
    cases e2 : lread a with
    | none => rfl
    | some l =>
      obtain ⟨y, mo, d, h, mi, s, z, _, ea, isd⟩ := lread_inv e2
      rw [ea, short_read isd] at e
      cases e
end Toy
set_option Elab.async false
set_option linter.all false
set_option maxRecDepth 100000
set_option maxHeartbeats 4000000
namespace Toy
open PySem PySem.Spec PyProof.Rows L2 Tx TL
def dgt : List Nat := ("0123456789" : Str).cps.toList
def badD (a : Str) : List Nat := a.cps.toList.filter fun c => !decide (c ∈ dgt)
theorem bad_digs {a : Str} (h : digs a = true) : badD a = [] := by
  unfold badD
  rw [List.filter_eq_nil_iff]
  intro c hc
  have m := List.all_eq_true.mp h c hc
  have m : decide (c ∈ dgt) = true := m
  rw [m]; decide
theorem bad_not {a : Str} (h : digs a = false) : ∃ c r, badD a = c :: r := by
  cases e : badD a with
  | cons c r => exact ⟨c, r, rfl⟩
  | nil =>
    exfalso
    unfold badD at e
    rw [List.filter_eq_nil_iff] at e
    have : digs a = true := by
      unfold digs
      rw [List.all_eq_true]
      intro c hc
      have := e c hc
      show decide (c ∈ dgt) = true
      cases d : decide (c ∈ dgt) with
      | true => rfl
      | false => rw [d] at this; exact absurd rfl this
    rw [h] at this; cases this
def ch (c : Nat) : Str := ⟨#[c]⟩
section
variable {P : Program} {w : World} {K : PySem.W.Frag} {mg : Str → Option Value} {base : Heap}
theorem dpChs {H : Hp} : ∀ l : List Nat, DpAll K H (l.map fun c => V.str (ch c)) (l.map fun c => PyData.str (ch c))
  | [] => .nil
  | c :: l => .cons (.str _) (dpChs l)
theorem lay_chs : ∀ l : List Nat, asc l → PyData.canLayAll0 (l.map fun c => PyData.str (ch c)) = true ∧ PyData.depthAll (l.map fun c => PyData.str (ch c)) = 0
  | [], _ => ⟨rfl, rfl⟩
  | c :: l, h => by
    obtain ⟨a, b⟩ := lay_chs l fun x hx => h x (List.mem_cons_of_mem _ hx)
    constructor
    · simp only [List.map_cons, PyData.canLayAll0, PyData.canLay0, a, Bool.and_true]
      have hc := h c (List.mem_cons_self ..)
      have e : PyData.strOk (ch c) = (decide (c < 0x110000) && true) := by
        show Array.all #[c] _ = _
        simp
      rw [e, decide_eq_true (by omega)]; rfl
    · simp only [List.map_cons, PyData.depthAll, PyData.depth, b, Nat.max_self]
theorem shaped_chs (l : List Nat) (h : asc l) : SeqAt.shaped (.list (l.map fun c => PyData.str (ch c))) = true := by
  obtain ⟨a, b⟩ := lay_chs l h
  unfold SeqAt.shaped
  simp only [PyData.canLay0, PyData.depth, a, b, Bool.true_and]
  rfl
def sp__law_number : Sp := fun vs H Q _ => ∃ (a : Str) (lo hi : Int), vs = [.str a, .int lo, .int hi] ∧ 1 ≤ lo ∧ a.length ≤ 500 ∧ asc (tl a) ∧ ∀ H', Same H H' → Q (.int (lnum a lo hi)) H'
theorem ok__law_number (T : Txt K mg) : FnOk P w K mg base CX0 1 T.a__law_number T.d__law_number ["word", "least", "most"] sp__law_number := by
  refine T.F__law_number.ok sc__law_number (fun vs H Q E h => ?_) (fun cdv A outer s H vs Q E hr h => ?_)
  · obtain ⟨a, lo, hi, rfl, _⟩ := h; rfl
  · obtain ⟨a, lo, hi, rfl, lo1, hl, ha, q⟩ := h
    refine ⟨_, (pss_cons (ps_if (PW.pt (pw_or (pt_not (pt_chain op_le op_le (pv 1) (pe_callB call_len_str (by rfl) T.z_len PySem.boot_len (pa_cons (pv 0) pa_nil)) (pv 2))) (pw_or1 (pt_cmpR (op_neD (by have := hr.units; exact this)) (pe_lc (own := [("sign", 3)]) (g := gName 3) (tt := tTest (tOp (fun x y H Q => ∃ (c : Nat) (z : Str), x = V.str ⟨#[c]⟩ ∧ y = V.str z ∧ Q (V.bl (!decide (c ∈ z.cps.toList))) H) (tVar 3) (tC (V.str "0123456789")))) (by rfl) sc__law_number.nd (pi_str (pv 0)) (blkOk_by (own := [("sign", 3)]) (N := ["word", "least", "most", "sign"]) (sc := defScope s__law_number) (by decide +kernel)) (fun _ _ _ _ _ => pg_name (i := 3) sc__law_number.nd rfl (Or.inl rfl)) (fun _ _ _ _ _ => (pts_one (pt_cmpR op_notIn_sign (pv 3) pe_str (by with_unfolding_all rfl)))) (fun _ _ _ _ _ => (pv 3))) (pe_lst pa_nil) (nomark _))))) (pss_one (ps_ret (pe_op op_sub pe_int pe_int))) pss_nil)
        (pss_one (ps_ret (pe_callTy call_int_str (by rfl) T.z_int (by decide +kernel) (pa_cons (pv 0) pa_nil))))), ?_⟩
    have hz : a.length ≤ sizeLine := by rw [sizeLine_eq]; omega
    refine ⟨_, rfl, _, rfl, a, rfl, hz, _, _, rfl, rfl, _, rfl, ?_⟩
    refine ite2 (fun c1 => ?_) (fun c1 => ?_)
    · have l1 : lo ≤ (a.length : Int) := of_decide_eq_true c1
      refine ⟨_, rfl, _, _, rfl, rfl, _, rfl, ?_⟩
      cases c2 : decide ((a.length : Int) ≤ hi) with
      | false =>
        refine iteT ?_
        have e : lnum a lo hi = -1 := by unfold lnum; rw [if_neg (by rintro ⟨_, z, _⟩; exact (of_decide_eq_false c2) z)]
        rw [e] at q
        exact ⟨_, _, rfl, rfl, q H (Same.refl H)⟩
      | true =>
        have l2 := of_decide_eq_true c2
        refine iteF ?_
        refine ⟨_, rfl, a, rfl, fun D nD => ?_⟩
        refine lc_it (g := gName 3) (te := tVar 3) (tt := tTest (tOp (fun x y H Q => ∃ (c : Nat) (z : Str), x = V.str ⟨#[c]⟩ ∧ y = V.str z ∧ Q (V.bl (!decide (c ∈ z.cps.toList))) H) (tVar 3) (tC (V.str "0123456789")))) walk_str
          (fun i H' => H' = upd H D (.lst (((a.cps.toList.take i).filter fun c => !decide (c ∈ dgt)).map fun c => V.str (ch c)))) rfl (fun _ _ _ _ => trivial) ?_ ?_
        · rintro i x H1 H2 hi' rfl ⟨rfl, c, hc, rfl⟩
          have ht : a.cps.toList.take (i + 1) = a.cps.toList.take i ++ [c] := by
            rw [List.take_add_one]
            have : a.cps.toList[i]? = some c := by simpa using hc
            rw [this]
            rfl
          refine ⟨rfl, ?_⟩
          refine ⟨_, rfl, c, "0123456789", rfl, rfl, _, rfl, ?_⟩
          cases d : decide (c ∈ ("0123456789" : Str).cps.toList) with
          | true =>
            have d' : (!decide (c ∈ dgt)) = false := by show (!decide (c ∈ ("0123456789" : Str).cps.toList)) = false; rw [d]; rfl
            refine ite2 (fun z => nomatch z) (fun _ => ?_)
            show upd H D _ = upd H D _
            rw [ht, List.filter_append]
            simp [d']
          | false =>
            have d' : (!decide (c ∈ dgt)) = true := by show (!decide (c ∈ ("0123456789" : Str).cps.toList)) = true; rw [d]; rfl
            refine ite2 (fun _ => ?_) (fun z => absurd rfl z)
            refine ⟨_, rfl, _, upd_same, ?_, ?_⟩
            · rw [List.length_map, sizeLine_eq]
              have := List.length_filter_le (fun c => !decide (c ∈ dgt)) (a.cps.toList.take i)
              rw [List.length_take] at this
              have : a.cps.toList.length = a.length := by simp [Str.length]
              omega
            · rw [ht, List.filter_append, List.map_append]
              have e1 : [c].filter (fun c => !decide (c ∈ dgt)) = [c] := by simp [d']
              rw [e1]
              funext b'
              by_cases e : b' = D
              · subst e; rw [upd_same, upd_same]; rfl
              · rw [upd_ne e, upd_ne e, upd_ne e]
        · rintro H1 rfl
          have ht : a.cps.toList.take a.cps.size = a.cps.toList := by
            rw [List.take_of_length_le]; simp
          rw [ht]
          have eb : (a.cps.toList.filter fun c => !decide (c ∈ dgt)) = badD a := rfl
          rw [eb]
          have sD := same_new (o := .lst ((badD a).map fun c => V.str (ch c))) nD
          refine ⟨(by show 0 ≤ sizeLine; decide), fun p np => ?_⟩
          have sp := sD.trans (same_new (o := .lst []) np)
          have gD := same_new (o := .lst []) np _ _ (upd_same (H := H) (a := D) (o := .lst ((badD a).map fun c => V.str (ch c))))
          refine ⟨.list ((badD a).map fun c => PyData.str (ch c)), .list [], .lst (SqL.of gD) (dpChs _), .lst (SqL.of upd_same) .nil, shaped_chs _ (fun c hc => ha c (List.mem_filter.mp hc).1), rfl, _, rfl, ?_⟩
          cases hd : digs a with
          | true =>
            rw [bad_digs hd]
            refine iteF ?_
            obtain ⟨i, hi'⟩ := digs_int hd (by omega) (by omega)
            have e : lnum a lo hi = i := by unfold lnum; rw [if_pos ⟨l1, l2, hd⟩, hi']; rfl
            rw [e] at q
            exact ⟨_, rfl, a, i, rfl, hi', by omega, q _ (by rw [← bad_digs hd]; exact sp)⟩
          | false =>
            obtain ⟨c, r, e1⟩ := bad_not hd
            rw [e1]
            refine iteT ?_
            have e : lnum a lo hi = -1 := by unfold lnum; rw [if_neg (by rintro ⟨_, _, z⟩; rw [hd] at z; cases z)]
            rw [e] at q
            exact ⟨_, _, rfl, rfl, q _ (by rw [← e1]; exact sp)⟩
    · refine ⟨_, rfl, ?_⟩
      refine iteT ?_
      have e : lnum a lo hi = -1 := by unfold lnum; rw [if_neg (by rintro ⟨z, _⟩; exact c1 (decide_eq_true z))]
      rw [e] at q
      exact ⟨_, _, rfl, rfl, q H (Same.refl H)⟩
def sp__law_plain_number : Sp := fun vs H Q _ => ∃ (a : Str), vs = [.str a] ∧ a.length ≤ 500 ∧ asc (tl a) ∧ ∀ H', Same H H' → Q (.int (lplain a)) H'
theorem ok__law_plain_number (T : Txt K mg) : FnOk P w K mg base CX0 2 T.a__law_plain_number T.d__law_plain_number ["word"] sp__law_plain_number := by
  refine T.F__law_plain_number.ok sc__law_plain_number (fun vs H Q E h => ?_) (fun cdv A outer s H vs Q E hr h => ?_)
  · obtain ⟨a, rfl, _⟩ := h; rfl
  · obtain ⟨a, rfl, hl, ha, q⟩ := h
    refine ⟨_, (pss_one (ps_ret (pe_ifExp (PW.pt (pw_or (pt_cmpR op_ne (pe_slice sl_str (pv 0) po_none (po_some pe_int)) pe_str (nomark _)) (pw_or1 (pt_cmpR op_eq (pv 0) pe_str (nomark _))))) (pe_call (ok__law_number T) (hr.mono (by decide)) (by rfl) T.g__law_number T.F__law_number.kp T.b__law_number .nil pass0 (pa_cons (pv 0) (pa_cons pe_int (pa_cons pe_int pa_nil)))) (pe_op op_sub pe_int pe_int)))), ?_⟩
    have hz : a.length ≤ sizeLine := by rw [sizeLine_eq]; omega
    refine ⟨_, rfl, ?_⟩
    dsimp only [tNoPart]
    refine ⟨1, rfl, a, rfl, hz, rfl, _, rfl, ?_⟩
    unfold lplain at q
    refine ite2 (fun c => ?_) (fun c => ?_)
    · have c' : ¬ cutS a none (some 1) = "0" := fun z => by rw [z, decide_eq_true rfl] at c; cases c
      rw [if_pos (.inl c')] at q
      exact ⟨_, rfl, a, 1, 4, rfl, by decide, hl, ha, q⟩
    · have c' : cutS a none (some 1) = "0" := by
        by_cases z : cutS a none (some 1) = "0"
        · exact z
        · exact absurd (by rw [decide_eq_false (fun x => z (V.str.inj x))]; rfl) c
      refine ⟨_, rfl, rfl, _, rfl, ?_⟩
      refine ite2 (fun k => ?_) (fun k => ?_)
      · rw [if_pos (.inr (str_of k))] at q
        exact ⟨_, rfl, a, 1, 4, rfl, by decide, hl, ha, q⟩
      · rw [if_neg (by rintro (x | x); exact x c'; exact str_not k x)] at q
        exact ⟨_, _, rfl, rfl, q H (Same.refl H)⟩
end
end Toy
set_option Elab.async false
set_option linter.all false
set_option maxRecDepth 100000
set_option maxHeartbeats 4000000
namespace Toy
open PySem PySem.Spec PyProof.Rows L2 Tx TL
theorem asc_cut {a : Str} {lo hi : Option Int} (h : asc (tl a)) : asc (tl (cutS a lo hi)) := fun c hc => by
  have hc : c ∈ ((tl a).drop (HT.sIx a.length 0 lo)).take (HT.sIx a.length a.length hi - HT.sIx a.length 0 lo) := hc
  exact h c (List.mem_of_mem_drop (List.mem_of_mem_take hc))
theorem asc_append {a b : List Nat} (h : asc a) (k : asc b) : asc (a ++ b) := fun c hc => by
  rcases List.mem_append.mp hc with x | x
  · exact h c x
  · exact k c x
theorem asc_app {a b : Str} (h : asc (tl a)) (k : asc (tl b)) : asc (tl (a ++ b)) := by rw [tl_append]; exact asc_append h k
theorem asc_part {a y : Str} (hy : tl y ≠ []) (h : asc (tl a)) : asc (tl (Txt.partition a y).1) ∧ asc (tl (Txt.partition a y).2.2) := by
  rw [partition_par a y hy]
  cases hp : par (tl y) [] (tl a) with
  | none => exact ⟨h, fun c hc => nomatch hc⟩
  | some pr =>
    obtain ⟨p, r⟩ := pr
    have e := par_some _ _ _ _ hp
    rw [List.nil_append] at e
    exact ⟨fun c hc => h c (by rw [e]; exact List.mem_append_left _ hc), fun c hc => h c (by rw [e]; exact List.mem_append_right _ (List.mem_append_right _ hc))⟩
theorem spl_mem (S : List Nat) : ∀ (l : List Nat) (k : Nat) (acc : List Nat), ∀ p ∈ spl S k acc l, ∀ c ∈ p, c ∈ acc ∨ c ∈ l
  | [], k, acc => by
    rw [spl_nil]
    intro p hp c hc
    rw [List.mem_singleton.mp hp] at hc
    exact .inl hc
  | x :: r, 0, acc => by
    intro p hp c hc
    by_cases h : pre S (x :: r) = true
    · rw [spl_hit h] at hp
      rcases List.mem_cons.mp hp with e | e
      · rw [e] at hc; exact .inl hc
      · rcases spl_mem S r (S.length - 1) [] p e c hc with z | z
        · cases z
        · exact .inr (List.mem_cons_of_mem _ z)
    · rw [spl_miss (by simpa using h)] at hp
      rcases spl_mem S r 0 (acc ++ [x]) p hp c hc with z | z
      · rcases List.mem_append.mp z with z | z
        · exact .inl z
        · exact .inr (by rw [List.mem_singleton.mp z]; simp)
      · exact .inr (List.mem_cons_of_mem _ z)
  | x :: r, k + 1, acc => by
    intro p hp c hc
    rcases spl_mem S r k acc p hp c hc with z | z
    · exact .inl z
    · exact .inr (List.mem_cons_of_mem _ z)
theorem asc_split {a y : Str} (hy : tl y ≠ []) (hk : y.cps.all (· < 256) = true) (h : asc (tl a)) : ∀ p ∈ Txt.split a y, asc (tl p) := by
  intro p hp c hc
  have e := split_spl a y hy (kind_ok hk)
  have : tl p ∈ spl (tl y) 0 [] (tl a) := by rw [← e]; exact List.mem_map.mpr ⟨p, hp, rfl⟩
  rcases spl_mem _ _ _ _ _ this c hc with z | z
  · cases z
  · exact h c z
theorem at_list {α : Type} {xs : List α} {j : Nat} {v : α} (h : xs[j]? = some v) : L2.atI xs ((j : Nat) : Int) = some v := atI_nat h
theorem lzone_bad {w : Str} (nz : ¬ (w = "Z" ∨ w = "z")) (h : ¬ w.length = 6) : lzone w = [] := by
  unfold lzone
  rw [if_neg nz]
  have l : ¬ (tl w).length = 6 := by rw [← len_tl]; exact h
  match ht : tl w, l with
  | [], _ => rfl
  | [_], _ => rfl
  | [_, _], _ => rfl
  | [_, _, _], _ => rfl
  | [_, _, _, _], _ => rfl
  | [_, _, _, _, _], _ => rfl
  | [_, _, _, _, _, _], l => exact absurd rfl l
  | _ :: _ :: _ :: _ :: _ :: _ :: _ :: _, _ => rfl
theorem lzone_is {w : Str} {c0 a1 a2 c3 b1 b2 : Nat} (nz : ¬ (w = "Z" ∨ w = "z")) (h : tl w = [c0, a1, a2, c3, b1, b2]) : lzone w = if (c0 = 43 ∨ c0 = 45) ∧ c3 = 58 ∧ 0 ≤ lhh w ∧ 0 ≤ lmm w ∧ lmm w ≤ 59 ∧ 0 < 60 * lhh w + lmm w ∧ 60 * lhh w + lmm w ≤ 840 then [if c0 = 43 then 60 * lhh w + lmm w else 0 - (60 * lhh w + lmm w)] else [] := by
  unfold lzone
  rw [if_neg nz, h]
theorem ch_eq {c : Nat} {x : Str} {k : Nat} (h : tl x = [k]) : decide (V.str ⟨#[c]⟩ = V.str x) = decide (c = k) := by
  have e : x = ⟨#[k]⟩ := ext_tl h
  rw [e, Bool.eq_iff_iff, decide_eq_true_eq, decide_eq_true_eq]
  constructor
  · intro z
    have z := V.str.inj z
    have := congrArg (fun s : Str => s.cps.toList) z
    simpa using this
  · intro z; rw [z]
section
variable {P : Program} {w : World} {K : PySem.W.Frag} {mg : Str → Option Value} {base : Heap}
def sp__law_zone_in : Sp := fun vs H Q _ => ∃ (a : Str), vs = [.str a] ∧ a.length ≤ 500 ∧ asc (tl a) ∧ ∀ H' r, Same H H' → H' r = some (.lst ((lzone a).map V.int)) → Q (.ref r) H'
theorem ok__law_zone_in (T : Txt K mg) : FnOk P w K mg base CX0 2 T.a__law_zone_in T.d__law_zone_in ["word"] sp__law_zone_in := by
  refine T.F__law_zone_in.ok sc__law_zone_in (fun vs H Q E h => ?_) (fun cdv A outer s H vs Q E hr h => ?_)
  · obtain ⟨a, rfl, _⟩ := h; rfl
  · obtain ⟨a, rfl, hl, ha, q⟩ := h
    refine ⟨_, (pss_cons (ps_if (pt_cmpR op_in_seq (pv 0) (pe_tup (pa_cons pe_str (pa_cons pe_str pa_nil))) (by with_unfolding_all rfl)) (pss_one (ps_ret (pe_lst (pa_cons pe_int pa_nil)))) pss_nil)
        (pss_cons (ps_par (i := 1) (j := 2) (by rfl) sc__law_zone_in.nd rfl rfl (by decide) rfl rfl (pa_cons (pe_call (ok__law_number T) (hr.mono (by decide)) (by rfl) T.g__law_number T.F__law_number.kp T.b__law_number .nil pass0 (pa_cons (pe_slice sl_str (pv 0) (po_some pe_int) (po_some pe_int)) (pa_cons pe_int (pa_cons pe_int pa_nil)))) (pa_cons (pe_call (ok__law_number T) (hr.mono (by decide)) (by rfl) T.g__law_number T.F__law_number.kp T.b__law_number .nil pass0 (pa_cons (pe_slice sl_str (pv 0) (po_some pe_int) po_none) (pa_cons pe_int (pa_cons pe_int pa_nil)))) pa_nil)) (by rfl))
        (pss_cons (ps_if (PW.pt (pw_or (pt_cmpR op_ne (pe_callB call_len_str (by rfl) T.z_len PySem.boot_len (pa_cons (pv 0) pa_nil)) pe_int (nomark _)) (pw_or (pt_cmpR op_notIn_sign (pe_ix ix_str (pv 0) pe_int (fun _ _ => rfl)) pe_str (by with_unfolding_all rfl)) (pw_or (pt_cmpR op_ne (pe_ix ix_str (pv 0) pe_int (fun _ _ => rfl)) pe_str (nomark _)) (pw_or (pt_cmpR op_lt (pv 1) pe_int (nomark _)) (pw_or1 (pt_not (pt_chain op_le op_le pe_int (pv 2) pe_int)))))))) (pss_one (ps_ret (pe_lst pa_nil))) pss_nil)
        (pss_cons (ps_set (i := 3) sc__law_zone_in.nd rfl (Or.inl rfl) (pe_op op_add (pe_op op_mul pe_int (pv 1)) (pv 2)))
        (pss_one (ps_ret (pe_ifExp (pt_chain op_lt op_le pe_int (pv 3) pe_int) (pe_lst (pa_cons (pe_ifExp (pt_cmpR op_eq (pe_ix ix_str (pv 0) pe_int (fun _ _ => rfl)) pe_str (nomark _)) (pv 3) (pe_op op_sub pe_int (pv 3))) pa_nil)) (pe_lst pa_nil)))))))), ?_⟩
    have hz : a.length ≤ sizeLine := by rw [sizeLine_eq]; omega
    refine ⟨_, rfl, (by show 2 ≤ sizeLine; decide), fun p np => ?_⟩
    have hin : inV (.str a) [.str "Z", .str "z"] = decide (a = "Z" ∨ a = "z") := two_eq a "Z" "z"
    refine ⟨p, [.str "Z", .str "z"], rfl, .inr (SqT.of upd_same), rfl, rfl, _, rfl, ?_⟩
    have sp := same_new (o := .tup [V.str "Z", .str "z"]) np
    have lc1 : (cutS a (some 1) (some 3)).length ≤ 500 := by have := cutS_length a (some 1) (some 3); omega
    have lc2 : (cutS a (some 4) none).length ≤ 500 := by have := cutS_length a (some 4) none; omega
    cases c : decide (a = "Z" ∨ a = "z") with
    | true =>
      have hin' : (if false = true then !inV (.str a) [.str "Z", .str "z"] else inV (.str a) [.str "Z", .str "z"]) = true := by rw [if_neg (by decide), hin, c]
      rw [hin']
      refine iteT ?_
      refine ⟨(by show 1 ≤ sizeLine; decide), fun p1 n1 => q _ p1 (sp.trans (same_new n1)) ?_⟩
      have e : lzone a = [0] := by unfold lzone; rw [if_pos (of_decide_eq_true c)]
      rw [upd_same, e]; rfl
    | false =>
      have nz := of_decide_eq_false c
      have hin' : (if false = true then !inV (.str a) [.str "Z", .str "z"] else inV (.str a) [.str "Z", .str "z"]) = false := by rw [if_neg (by decide), hin, c]
      rw [hin']
      refine iteF ?_
      refine ⟨_, rfl, 1, rfl, 3, rfl, a, rfl, hz, _, 2, 2, rfl, by decide, lc1, asc_cut ha, fun H1 s1 => ?_⟩
      refine ⟨_, rfl, 4, rfl, ?_⟩
      dsimp only [tNoPart]
      refine ⟨a, rfl, hz, _, 2, 2, rfl, by decide, lc2, asc_cut ha, fun H2 s2 => ?_⟩
      have sH := (sp.trans s1).trans s2
      have eh : lnum (cutS a (some 1) (some 3)) 2 2 = lhh a := rfl
      have em : lnum (cutS a (some 4) none) 2 2 = lmm a := rfl
      rw [eh, em]
      refine ⟨_, _, rfl, ?_⟩
      have bad : lzone a = [] → ∀ p3, H2 p3 = none → Q (.ref p3) (upd H2 p3 (.lst [])) := fun e p3 n3 => q _ p3 (sH.trans (same_new n3)) (by rw [upd_same, e]; rfl)
      refine ⟨_, rfl, a, rfl, hz, rfl, _, rfl, ?_⟩
      refine ite2 (fun k => ?_) (fun k => ?_)
      · have n6 : ¬ a.length = 6 := fun z => by rw [z] at k; exact absurd k (by decide)
        exact ⟨(by show 0 ≤ sizeLine; decide), bad (lzone_bad nz n6)⟩
      · have e6 : a.length = 6 := by
          by_cases z : a.length = 6
          · exact z
          · exfalso; refine k ?_
            rw [decide_eq_false]
            · rfl
            · intro y; exact z (by have := V.int.inj y; omega)
        have l6 : (tl a).length = 6 := by rw [← len_tl]; exact e6
        obtain ⟨c0, a1, a2, c3, b1, b2, ht⟩ : ∃ c0 a1 a2 c3 b1 b2, tl a = [c0, a1, a2, c3, b1, b2] := by
          match tl a, l6 with
          | [c0, a1, a2, c3, b1, b2], _ => exact ⟨c0, a1, a2, c3, b1, b2, rfl⟩
        have lz := lzone_is nz ht
        have ht' : a.cps.toList = [c0, a1, a2, c3, b1, b2] := ht
        have t0 : L2.atI a.cps.toList 0 = some c0 := by rw [ht']; rfl
        have t3 : L2.atI a.cps.toList 3 = some c3 := by rw [ht']; rfl
        have e1 : ("+-" : Str).cps.toList = [43, 45] := by decide +kernel
        have e2 : tl ("+" : Str) = [43] := by decide +kernel
        refine ⟨_, rfl, a, 0, c0, rfl, rfl, hz, t0, c0, "+-", rfl, rfl, _, rfl, ?_⟩
        refine ite2 (fun k1 => ?_) (fun k1 => ?_)
        · have n1 : ¬ (c0 = 43 ∨ c0 = 45) := fun z => by
            rw [e1] at k1
            have : c0 ∈ [43, 45] := by simpa using z
            rw [decide_eq_true this] at k1
            exact absurd k1 (by decide)
          exact ⟨(by show 0 ≤ sizeLine; decide), bad (by rw [lz, if_neg (fun z => n1 z.1)])⟩
        · have y1 : c0 = 43 ∨ c0 = 45 := by
            by_cases z : c0 ∈ ("+-" : Str).cps.toList
            · rw [e1] at z; simpa using z
            · exact absurd (by rw [decide_eq_false z]; rfl) k1
          refine ⟨_, rfl, a, 3, c3, rfl, rfl, hz, t3, rfl, _, rfl, ?_⟩
          rw [ch_eq (k := 58) tl_colon]
          refine ite2 (fun k2 => ?_) (fun k2 => ?_)
          · have n2 : ¬ c3 = 58 := fun z => by rw [decide_eq_true z] at k2; exact absurd k2 (by decide)
            exact ⟨(by show 0 ≤ sizeLine; decide), bad (by rw [lz, if_neg (fun z => n2 z.2.1)])⟩
          · have y2 : c3 = 58 := by
              by_cases z : c3 = 58
              · exact z
              · exact absurd (by rw [decide_eq_false z]; rfl) k2
            refine ⟨_, rfl, _, _, rfl, rfl, _, rfl, ?_⟩
            refine ite2 (fun k3 => ?_) (fun k3 => ?_)
            · have n3 : lhh a < 0 := of_decide_eq_true k3
              exact ⟨(by show 0 ≤ sizeLine; decide), bad (by rw [lz, if_neg (fun z => by have := z.2.2.1; omega)])⟩
            · have y3 : ¬ lhh a < 0 := fun z => k3 (decide_eq_true z)
              refine ⟨_, rfl, _, _, rfl, rfl, _, rfl, ?_⟩
              refine ite2 (fun k4 => ?_) (fun k4 => ?_)
              · have y4 : 0 ≤ lmm a := of_decide_eq_true k4
                refine ⟨_, _, rfl, rfl, _, rfl, ?_⟩
                cases k5 : decide (lmm a ≤ 59) with
                | false =>
                  refine iteT ?_
                  have n5 := of_decide_eq_false k5
                  exact ⟨(by show 0 ≤ sizeLine; decide), bad (by rw [lz, if_neg (fun z => n5 z.2.2.2.2.1)])⟩
                | true =>
                  refine iteF ?_
                  have y5 := of_decide_eq_true k5
                  refine ⟨_, rfl, _, _, rfl, rfl, .inl ⟨by decide, by decide⟩, _, rfl, _, _, rfl, rfl, ?_⟩
                  refine ⟨_, rfl, _, _, rfl, rfl, _, rfl, ?_⟩
                  refine ite2 (fun k6 => ?_) (fun k6 => ?_)
                  · have y6 : 0 < 60 * lhh a + lmm a := of_decide_eq_true k6
                    refine ⟨_, _, rfl, rfl, _, rfl, ?_⟩
                    refine ite2 (fun k7 => ?_) (fun k7 => ?_)
                    · have y7 : 60 * lhh a + lmm a ≤ 840 := of_decide_eq_true k7
                      rw [if_pos ⟨y1, y2, by omega, y4, y5, y6, y7⟩] at lz
                      refine ⟨_, rfl, a, 0, c0, rfl, rfl, hz, t0, rfl, _, rfl, ?_⟩
                      rw [ch_eq (k := 43) e2]
                      refine ite2 (fun k8 => ?_) (fun k8 => ?_)
                      · refine ⟨_, rfl, (by show 1 ≤ sizeLine; decide), fun p3 n3 => q _ p3 (sH.trans (same_new n3)) ?_⟩
                        rw [upd_same, lz, if_pos (of_decide_eq_true k8)]; rfl
                      · refine ⟨_, rfl, _, _, rfl, rfl, (by show 1 ≤ sizeLine; decide), fun p3 n3 => q _ p3 (sH.trans (same_new n3)) ?_⟩
                        rw [upd_same, lz, if_neg (fun z => k8 (decide_eq_true z))]; rfl
                    · have n7 : ¬ 60 * lhh a + lmm a ≤ 840 := fun z => k7 (decide_eq_true z)
                      exact ⟨(by show 0 ≤ sizeLine; decide), bad (by rw [lz, if_neg (fun z => n7 z.2.2.2.2.2.2)])⟩
                  · have n6' : ¬ 0 < 60 * lhh a + lmm a := fun z => k6 (decide_eq_true z)
                    refine ⟨_, rfl, ?_⟩
                    refine iteF ?_
                    exact ⟨(by show 0 ≤ sizeLine; decide), bad (by rw [lz, if_neg (fun z => n6' z.2.2.2.2.2.1)])⟩
              · have n4 : ¬ 0 ≤ lmm a := fun z => k4 (decide_eq_true z)
                refine ⟨_, rfl, ?_⟩
                refine iteT ?_
                exact ⟨(by show 0 ≤ sizeLine; decide), bad (by rw [lz, if_neg (fun z => n4 z.2.2.2.1)])⟩
theorem parts_len {a : Str} {b : Bool} (hl : a.length ≤ 400) : (∀ x ∈ lparts a b, x.length ≤ 400) ∧ (lparts a b).length ≤ 500 := by
  obtain ⟨h1, h2⟩ := Tx.split_len (x := a) (y := ":") (by decide +kernel) (by decide +kernel)
  unfold lparts
  split
  · constructor
    · intro x hx
      rcases List.mem_append.mp hx with z | z
      · have := h1 x z; omega
      · rw [List.mem_singleton.mp z]; decide +kernel
    · rw [List.length_append]; simp; omega
  · exact ⟨fun x hx => by have := h1 x hx; omega, by omega⟩
theorem parts_asc {a : Str} {b : Bool} (ha : asc (tl a)) : ∀ x ∈ lparts a b, asc (tl x) := by
  have h := asc_split (a := a) (y := ":") (by decide +kernel) (by decide +kernel) ha
  unfold lparts
  split
  · intro x hx
    rcases List.mem_append.mp hx with z | z
    · exact h x z
    · rw [List.mem_singleton.mp z]
      have e : tl ("00" : Str) = [48, 48] := by decide +kernel
      rw [e]
      intro c hc
      simp at hc
      omega
  · exact h
theorem inV_ints (i : Int) : ∀ l : List Int, inV (.int i) (l.map V.int) = decide (i ∈ l)
  | [] => rfl
  | x :: l => by
    show (eqV (.int x) (.int i) || inV (.int i) (l.map V.int)) = _
    rw [inV_ints i l, Bool.eq_iff_iff]
    show ((x == i) || _) = true ↔ _
    simp only [Bool.or_eq_true, beq_iff_eq, decide_eq_true_eq, List.mem_cons]
    constructor
    · rintro (h | h)
      · exact .inl h.symm
      · exact .inr h
    · rintro (h | h)
      · exact .inl h.symm
      · exact .inr h
theorem flat_ints : ∀ l : List Int, (l.map V.int).all flatV = true
  | [] => rfl
  | x :: l => by rw [List.map_cons, List.all_cons, flat_ints l]; rfl
def sp__law_clock_in : Sp := fun vs H Q _ => ∃ (a : Str) (b : Bool), vs = [.str a, .bl b] ∧ a.length ≤ 400 ∧ asc (tl a) ∧ ∀ H' r, Same H H' → H' r = some (.lst ((lclock a b).map V.int)) → Q (.ref r) H'
theorem ok__law_clock_in (T : Txt K mg) : FnOk P w K mg base CX0 2 T.a__law_clock_in T.d__law_clock_in ["word", "is_short"] sp__law_clock_in := by
  refine T.F__law_clock_in.ok sc__law_clock_in (fun vs H Q E h => ?_) (fun cdv A outer s H vs Q E hr h => ?_)
  · obtain ⟨a, b, rfl, _⟩ := h; rfl
  · obtain ⟨a, b, rfl, hl, ha, q⟩ := h
    refine ⟨_, (pss_cons (ps_set (i := 2) sc__law_clock_in.nd rfl (Or.inl rfl) (pe_split (pv 0) pe_str))
        (pss_cons (ps_if (PW.pt (pw_and (pt_cmpR op_eq (pe_callB call_len_seq (by rfl) T.z_len PySem.boot_len (pa_cons (pv 2) pa_nil)) pe_int (nomark _)) (pw_and1 (pt_val (pv 1))))) (pss_one (ps_set (i := 2) sc__law_clock_in.nd rfl (Or.inl rfl) (pe_op Vz.op_catR (pv 2) (pe_lst (pa_cons pe_str pa_nil))))) pss_nil)
        (pss_cons (ps_setLc (i := 3) (own := [("part", 4)]) (g := gName 4) (by rfl) sc__law_clock_in.nd rfl rfl (by rfl) (pi_list (pv 2)) (blkOk_by (own := [("part", 4)]) (N := ["word", "is_short", "parts", "numbers", "part"]) (sc := defScope s__law_clock_in) (by decide +kernel)) (fun _ _ _ _ _ => pg_name (i := 4) sc__law_clock_in.nd rfl (Or.inl rfl)) (fun _ _ _ _ _ => pts_nil) (fun _ _ _ _ _ => (pe_call (ok__law_number T) (hr.mono (by decide)) (by rfl) T.g__law_number T.F__law_number.kp T.b__law_number .nil pass0 (pa_cons (pv 4) (pa_cons pe_int (pa_cons pe_int pa_nil))))))
        (pss_one (ps_ret (pe_ifExp (PW.pt (pw_and (pt_cmpR op_eq (pe_callB call_len_seq (by rfl) T.z_len PySem.boot_len (pa_cons (pv 3) pa_nil)) pe_int (nomark _)) (pw_and1 (pt_cmpR op_notIn_seq (pe_op op_sub pe_int pe_int) (pv 3) (by with_unfolding_all rfl))))) (pv 3) (pe_lst pa_nil))))))), ?_⟩
    obtain ⟨px, pn⟩ := parts_len (a := a) (b := b) hl
    have pa := parts_asc (a := a) (b := b) ha
    refine ⟨_, rfl, ⟨_, rfl⟩, a, ":", rfl, rfl, (by decide +kernel), (by rw [sizeLine_eq]; omega), fun p np => ?_⟩
    have sp := same_new (o := .lst ((Txt.split a ":").map V.str)) np
    obtain ⟨hs1, hs2⟩ := Tx.split_len (x := a) (y := ":") (by decide +kernel) (by decide +kernel)
    refine ⟨_, rfl, p, _, rfl, .inl (SqL.of upd_same), rfl, _, rfl, ?_⟩
    have hn2 : ((Txt.split a ":").map V.str).length = (Txt.split a ":").length := List.length_map ..
    refine ite2 (fun c => ?_) (fun c => ?_)
    · have l2 : (Txt.split a ":").length = 2 := by have := V.int.inj (of_decide_eq_true c); rw [hn2] at this; omega
      refine ⟨_, rfl, _, rfl, ?_⟩
      cases b with
      | true =>
        refine iteT ?_
        refine ⟨_, rfl, (by show 1 ≤ sizeLine; decide), fun p2 n2 => ?_⟩
        have g1 := same_new (o := .lst [.str "00"]) n2 _ _ (upd_same (H := H) (a := p) (o := .lst ((Txt.split a ":").map V.str)))
        refine ⟨p, p2, _, _, rfl, rfl, SqL.of g1, SqL.of upd_same, (by rw [hn2, l2, sizeLine_eq]; decide), fun p3 n3 => ?_⟩
        have s1 := (sp.trans (same_new (o := .lst [.str "00"]) n2)).trans (same_new (o := .lst ((Txt.split a ":").map V.str ++ [.str "00"])) n3)
        have hp1 : (upd (upd (upd H p (.lst ((Txt.split a ":").map V.str))) p2 (.lst [.str "00"])) p3 (.lst ((Txt.split a ":").map V.str ++ [.str "00"]))) p3 = some (.lst ((lparts a true).map V.str)) := by
          rw [upd_same]
          have : lparts a true = Txt.split a ":" ++ [("00" : Str)] := by unfold lparts; rw [if_pos ⟨l2, rfl⟩]
          rw [this, List.map_append]; rfl
        generalize upd (upd (upd H p (.lst ((Txt.split a ":").map V.str))) p2 (.lst [.str "00"])) p3 (.lst ((Txt.split a ":").map V.str ++ [.str "00"])) = H1 at hp1 s1 ⊢
        refine ⟨_, rfl, p3, rfl, ⟨_, SqL.of hp1⟩, fun D nD => ?_⟩
        have neD : p3 ≠ D := fun z => by rw [← z, hp1] at nD; cases nD
        refine lc_list (xs := (lparts a true).map V.str) (fun i H' => H' D = some (.lst (((lparts a true).take i).map fun x => V.int (lnum x 2 2))) ∧ ∀ b' o, b' ≠ D → H1 b' = some o → H' b' = some o)
          ⟨upd_same, fun b' o nb e => by rw [upd_ne nb]; exact e⟩ ?_ ?_ ?_
        · rintro i H' _ ⟨_, k⟩
          exact SqL.of (k p3 _ neD hp1)
        · rintro i x H2 hx1 ⟨hD, k⟩
          rw [List.getElem?_map] at hx1
          obtain ⟨y, hy, rfl⟩ := Option.map_eq_some_iff.mp hx1
          have my := List.mem_of_getElem? hy
          refine ⟨rfl, ?_⟩
          refine ⟨_, rfl, y, 2, 2, rfl, by decide, (by have := px y my; omega), pa y my, fun H3 s3 => ⟨_, s3 _ _ hD, ?_, ?_, ?_⟩⟩
          · rw [List.length_map, List.length_take, sizeLine_eq]; omega
          · rw [upd_same, List.take_add_one, hy, List.map_append]; rfl
          · intro b' o nb e
            rw [upd_ne nb]
            exact s3 _ _ (k b' o nb e)
        rintro H2 ⟨hD, k⟩
        rw [List.length_map, List.take_length] at hD
        have s2 : Same H H2 := fun b' o e => k b' o (fun z => by rw [z] at e; rw [s1 _ _ e] at nD; cases nD) (s1 _ _ e)
        have en : ((lparts a true).map fun x => lnum x 2 2).map V.int = (lparts a true).map fun x => V.int (lnum x 2 2) := by rw [List.map_map]; rfl
        rw [← en] at hD
        unfold lclock at q
        generalize ((lparts a true).map fun x => lnum x 2 2) = ns at *
        have hn : (ns.map V.int).length = ns.length := List.length_map ..
        refine ⟨_, rfl, D, _, rfl, .inl (SqL.of hD), rfl, _, rfl, ?_⟩
        refine ite2 (fun c3 => ?_) (fun c3 => ?_)
        · have l3 : ns.length = 3 := by have := V.int.inj (of_decide_eq_true c3); rw [hn] at this; omega
          refine ⟨_, _, rfl, rfl, _, rfl, D, _, rfl, .inl (SqL.of hD), rfl, flat_ints ns, _, rfl, ?_⟩
          rw [if_pos rfl, show inV (.int (0 - 1)) (ns.map V.int) = decide ((-1) ∈ ns) from inV_ints _ _]
          cases d : decide ((-1) ∈ ns) with
          | true =>
            refine ite2 (fun z => nomatch z) (fun _ => ?_)
            refine ⟨(by show 0 ≤ sizeLine; decide), fun p5 n5 => q _ p5 (s2.trans (same_new n5)) ?_⟩
            rw [upd_same, if_neg (by rintro ⟨_, z⟩; exact z (of_decide_eq_true d))]; rfl
          | false =>
            refine ite2 (fun _ => ?_) (fun z => absurd rfl z)
            refine ⟨_, rfl, q _ D s2 ?_⟩
            rw [hD, if_pos ⟨l3, of_decide_eq_false d⟩]
        · have l3 : ¬ ns.length = 3 := fun z => c3 (decide_eq_true (by rw [hn, z]; rfl))
          refine ⟨(by show 0 ≤ sizeLine; decide), fun p5 n5 => q _ p5 (s2.trans (same_new n5)) ?_⟩
          rw [upd_same, if_neg (by rintro ⟨z, _⟩; exact l3 z)]; rfl
      | false =>
        refine iteF ?_
        have hp1 : (upd H p (.lst ((Txt.split a ":").map V.str))) p = some (.lst ((lparts a false).map V.str)) := by
          rw [upd_same, show lparts a false = Txt.split a ":" from by unfold lparts; rw [if_neg (by simp)]]
        have s1 := sp
        generalize upd H p (.lst ((Txt.split a ":").map V.str)) = H1 at hp1 s1 ⊢
        refine ⟨_, rfl, p, rfl, ⟨_, SqL.of hp1⟩, fun D nD => ?_⟩
        have neD : p ≠ D := fun z => by rw [← z, hp1] at nD; cases nD
        refine lc_list (xs := (lparts a false).map V.str) (fun i H' => H' D = some (.lst (((lparts a false).take i).map fun x => V.int (lnum x 2 2))) ∧ ∀ b' o, b' ≠ D → H1 b' = some o → H' b' = some o)
          ⟨upd_same, fun b' o nb e => by rw [upd_ne nb]; exact e⟩ ?_ ?_ ?_
        · rintro i H' _ ⟨_, k⟩
          exact SqL.of (k p _ neD hp1)
        · rintro i x H2 hx1 ⟨hD, k⟩
          rw [List.getElem?_map] at hx1
          obtain ⟨y, hy, rfl⟩ := Option.map_eq_some_iff.mp hx1
          have my := List.mem_of_getElem? hy
          refine ⟨rfl, ?_⟩
          refine ⟨_, rfl, y, 2, 2, rfl, by decide, (by have := px y my; omega), pa y my, fun H3 s3 => ⟨_, s3 _ _ hD, ?_, ?_, ?_⟩⟩
          · rw [List.length_map, List.length_take, sizeLine_eq]; omega
          · rw [upd_same, List.take_add_one, hy, List.map_append]; rfl
          · intro b' o nb e
            rw [upd_ne nb]
            exact s3 _ _ (k b' o nb e)
        rintro H2 ⟨hD, k⟩
        rw [List.length_map, List.take_length] at hD
        have s2 : Same H H2 := fun b' o e => k b' o (fun z => by rw [z] at e; rw [s1 _ _ e] at nD; cases nD) (s1 _ _ e)
        have en : ((lparts a false).map fun x => lnum x 2 2).map V.int = (lparts a false).map fun x => V.int (lnum x 2 2) := by rw [List.map_map]; rfl
        rw [← en] at hD
        unfold lclock at q
        generalize ((lparts a false).map fun x => lnum x 2 2) = ns at *
        have hn : (ns.map V.int).length = ns.length := List.length_map ..
        refine ⟨_, rfl, D, _, rfl, .inl (SqL.of hD), rfl, _, rfl, ?_⟩
        refine ite2 (fun c3 => ?_) (fun c3 => ?_)
        · have l3 : ns.length = 3 := by have := V.int.inj (of_decide_eq_true c3); rw [hn] at this; omega
          refine ⟨_, _, rfl, rfl, _, rfl, D, _, rfl, .inl (SqL.of hD), rfl, flat_ints ns, _, rfl, ?_⟩
          rw [if_pos rfl, show inV (.int (0 - 1)) (ns.map V.int) = decide ((-1) ∈ ns) from inV_ints _ _]
          cases d : decide ((-1) ∈ ns) with
          | true =>
            refine ite2 (fun z => nomatch z) (fun _ => ?_)
            refine ⟨(by show 0 ≤ sizeLine; decide), fun p5 n5 => q _ p5 (s2.trans (same_new n5)) ?_⟩
            rw [upd_same, if_neg (by rintro ⟨_, z⟩; exact z (of_decide_eq_true d))]; rfl
          | false =>
            refine ite2 (fun _ => ?_) (fun z => absurd rfl z)
            refine ⟨_, rfl, q _ D s2 ?_⟩
            rw [hD, if_pos ⟨l3, of_decide_eq_false d⟩]
        · have l3 : ¬ ns.length = 3 := fun z => c3 (decide_eq_true (by rw [hn, z]; rfl))
          refine ⟨(by show 0 ≤ sizeLine; decide), fun p5 n5 => q _ p5 (s2.trans (same_new n5)) ?_⟩
          rw [upd_same, if_neg (by rintro ⟨z, _⟩; exact l3 z)]; rfl
    · have l2 : ¬ (Txt.split a ":").length = 2 := fun z => c (decide_eq_true (by rw [hn2, z]; rfl))
      have hp1 : (upd H p (.lst ((Txt.split a ":").map V.str))) p = some (.lst ((lparts a b).map V.str)) := by
        rw [upd_same, show lparts a b = Txt.split a ":" from by unfold lparts; rw [if_neg (by rintro ⟨z, _⟩; exact l2 z)]]
      have s1 := sp
      generalize upd H p (.lst ((Txt.split a ":").map V.str)) = H1 at hp1 s1 ⊢
      refine ⟨_, rfl, p, rfl, ⟨_, SqL.of hp1⟩, fun D nD => ?_⟩
      have neD : p ≠ D := fun z => by rw [← z, hp1] at nD; cases nD
      refine lc_list (xs := (lparts a b).map V.str) (fun i H' => H' D = some (.lst (((lparts a b).take i).map fun x => V.int (lnum x 2 2))) ∧ ∀ b' o, b' ≠ D → H1 b' = some o → H' b' = some o)
        ⟨upd_same, fun b' o nb e => by rw [upd_ne nb]; exact e⟩ ?_ ?_ ?_
      · rintro i H' _ ⟨_, k⟩
        exact SqL.of (k p _ neD hp1)
      · rintro i x H2 hx1 ⟨hD, k⟩
        rw [List.getElem?_map] at hx1
        obtain ⟨y, hy, rfl⟩ := Option.map_eq_some_iff.mp hx1
        have my := List.mem_of_getElem? hy
        refine ⟨rfl, ?_⟩
        refine ⟨_, rfl, y, 2, 2, rfl, by decide, (by have := px y my; omega), pa y my, fun H3 s3 => ⟨_, s3 _ _ hD, ?_, ?_, ?_⟩⟩
        · rw [List.length_map, List.length_take, sizeLine_eq]; omega
        · rw [upd_same, List.take_add_one, hy, List.map_append]; rfl
        · intro b' o nb e
          rw [upd_ne nb]
          exact s3 _ _ (k b' o nb e)
      rintro H2 ⟨hD, k⟩
      rw [List.length_map, List.take_length] at hD
      have s2 : Same H H2 := fun b' o e => k b' o (fun z => by rw [z] at e; rw [s1 _ _ e] at nD; cases nD) (s1 _ _ e)
      have en : ((lparts a b).map fun x => lnum x 2 2).map V.int = (lparts a b).map fun x => V.int (lnum x 2 2) := by rw [List.map_map]; rfl
      rw [← en] at hD
      unfold lclock at q
      generalize ((lparts a b).map fun x => lnum x 2 2) = ns at *
      have hn : (ns.map V.int).length = ns.length := List.length_map ..
      refine ⟨_, rfl, D, _, rfl, .inl (SqL.of hD), rfl, _, rfl, ?_⟩
      refine ite2 (fun c3 => ?_) (fun c3 => ?_)
      · have l3 : ns.length = 3 := by have := V.int.inj (of_decide_eq_true c3); rw [hn] at this; omega
        refine ⟨_, _, rfl, rfl, _, rfl, D, _, rfl, .inl (SqL.of hD), rfl, flat_ints ns, _, rfl, ?_⟩
        rw [if_pos rfl, show inV (.int (0 - 1)) (ns.map V.int) = decide ((-1) ∈ ns) from inV_ints _ _]
        cases d : decide ((-1) ∈ ns) with
        | true =>
          refine ite2 (fun z => nomatch z) (fun _ => ?_)
          refine ⟨(by show 0 ≤ sizeLine; decide), fun p5 n5 => q _ p5 (s2.trans (same_new n5)) ?_⟩
          rw [upd_same, if_neg (by rintro ⟨_, z⟩; exact z (of_decide_eq_true d))]; rfl
        | false =>
          refine ite2 (fun _ => ?_) (fun z => absurd rfl z)
          refine ⟨_, rfl, q _ D s2 ?_⟩
          rw [hD, if_pos ⟨l3, of_decide_eq_false d⟩]
      · have l3 : ¬ ns.length = 3 := fun z => c3 (decide_eq_true (by rw [hn, z]; rfl))
        refine ⟨(by show 0 ≤ sizeLine; decide), fun p5 n5 => q _ p5 (s2.trans (same_new n5)) ?_⟩
        rw [upd_same, if_neg (by rintro ⟨z, _⟩; exact l3 z)]; rfl
end
end Toy
set_option Elab.async false
set_option linter.all false
set_option maxRecDepth 100000
set_option maxHeartbeats 8000000
/-! The law's own reading of long texts, and the program's: the same. -/
namespace Toy
open PySem PySem.Spec PyProof.Rows L2 Tx TL
theorem lo1_eq (s : Nat) (hs : s < 65 ∨ 122 < s) (c : Nat) : lo1 c = s ↔ c = s := by
  unfold lo1
  split <;> omega
theorem spl_map (f : Nat → Nat) (s : Nat) (hf : ∀ c, f c = s ↔ c = s) : ∀ (l : List Nat) (acc : List Nat), spl [s] 0 (acc.map f) (l.map f) = (spl [s] 0 acc l).map (·.map f)
  | [], acc => by rw [List.map_nil, spl_nil, spl_nil]; rfl
  | c :: r, acc => by
    by_cases e : c = s
    · have h1 : pre [s] (c :: r) = true := by unfold pre; simp [e]
      have h2 : pre [s] (f c :: r.map f) = true := by unfold pre; simp [(hf c).mpr e]
      rw [List.map_cons, spl_hit h1, spl_hit h2, List.map_cons]
      congr 1
      exact spl_map f s hf r []
    · have h1 : pre [s] (c :: r) = false := by unfold pre; simp [e]
      have h2 : pre [s] (f c :: r.map f) = false := by
        unfold pre
        have : ¬ f c = s := fun z => e ((hf c).mp z)
        simp [this]
      rw [List.map_cons, spl_miss h1, spl_miss h2]
      have := spl_map f s hf r (acc ++ [c])
      rw [List.map_append] at this
      exact this
theorem spl_asc (s : Nat) : ∀ (l acc : List Nat), asc l → asc acc → ∀ p ∈ spl [s] 0 acc l, asc p
  | [], acc, _, ha => by
    rw [spl_nil]
    intro p hp
    rw [List.mem_singleton.mp hp]; exact ha
  | c :: r, acc, hl, ha => by
    have hr : asc r := fun x hx => hl x (List.mem_cons_of_mem _ hx)
    by_cases h : pre [s] (c :: r) = true
    · rw [spl_hit h]
      intro p hp
      rcases List.mem_cons.mp hp with e | e
      · rw [e]; exact ha
      · exact spl_asc s r [] hr (fun x hx => nomatch hx) p e
    · rw [spl_miss (by simpa using h)]
      refine spl_asc s r (acc ++ [c]) hr fun x hx => ?_
      rcases List.mem_append.mp hx with z | z
      · exact ha x z
      · rw [List.mem_singleton.mp z]; exact hl c (by simp)
theorem low_split {a y : Str} {s : Nat} (ey : tl y = [s]) (hk : y.cps.all (· < 256) = true) (hs : s < 65 ∨ 122 < s) (ha : asc (tl a)) : Txt.split (Txt.lower a) y = (Txt.split a y).map Txt.lower := by
  have hy : tl y ≠ [] := by rw [ey]; simp
  have e := split_spl a y hy (kind_ok hk)
  have e2 := split_spl (Txt.lower a) y hy (kind_ok hk)
  refine map_tl_inj ?_
  rw [e2, ey, low_tl ha]
  have := spl_map lo1 s (lo1_eq s hs) (tl a) []
  rw [List.map_nil] at this
  rw [this, ← ey, ← e, List.map_map, List.map_map]
  refine List.map_congr_left fun p hp => ?_
  have ap : asc (tl p) := by
    have : tl p ∈ spl [s] 0 [] (tl a) := by rw [← ey, ← e]; exact List.mem_map.mpr ⟨p, hp, rfl⟩
    exact spl_asc s (tl a) [] ha (fun x hx => nomatch hx) _ this
  exact (low_tl ap).symm
theorem split_asc {a y : Str} {s : Nat} (ey : tl y = [s]) (hk : y.cps.all (· < 256) = true) (ha : asc (tl a)) : ∀ p ∈ Txt.split a y, asc (tl p) := by
  intro p hp
  have e := split_spl a y (by rw [ey]; simp) (kind_ok hk)
  have : tl p ∈ spl [s] 0 [] (tl a) := by rw [← ey, ← e]; exact List.mem_map.mpr ⟨p, hp, rfl⟩
  exact spl_asc s (tl a) [] ha (fun x hx => nomatch hx) _ this
theorem low_len {a : Str} (ha : asc (tl a)) : (Txt.lower a).length = a.length := by
  rw [len_tl, len_tl, low_tl ha, List.length_map]
def wordsO (a : Str) : List Str := (Txt.split a " ").filter nzS
theorem words_low {a : Str} (ha : asc (tl a)) : wordsL a = (wordsO a).map Txt.lower := by
  unfold wordsL wordsO
  rw [low_split tl_space (by decide +kernel) (.inl (by decide)) ha]
  have : ∀ l : List Str, (∀ p ∈ l, asc (tl p)) → (l.map Txt.lower).filter nzS = (l.filter nzS).map Txt.lower := by
    intro l hl
    induction l with
    | nil => rfl
    | cons x l ih =>
      have hx : nzS (Txt.lower x) = nzS x := by unfold nzS; rw [low_len (hl x (by simp))]
      have ih := ih fun p hp => hl p (List.mem_cons_of_mem _ hp)
      rw [List.map_cons, List.filter_cons, List.filter_cons, hx]
      split
      · rw [List.map_cons, ih]
      · exact ih
  exact this _ (split_asc tl_space (by decide +kernel) ha)
/-! ### digits -/
theorem lo_dig {c : Nat} (h : 48 ≤ lo1 c ∧ lo1 c ≤ 58) : lo1 c = c := by
  unfold lo1 at h ⊢
  split at h
  · omega
  · rename_i k; rw [if_neg k]
theorem low_digs {x : Str} (ha : asc (tl x)) (h : digs (Txt.lower x) = true) : Txt.lower x = x := by
  refine ext_tl ?_
  have hd := digs_iff h
  have e := low_tl ha
  rw [e]
  have hd : ∀ c ∈ tl (Txt.lower x), 48 ≤ c ∧ c ≤ 57 := hd
  rw [e] at hd
  have : ∀ l : List Nat, (∀ c ∈ l.map lo1, 48 ≤ c ∧ c ≤ 57) → l.map lo1 = l := by
    intro l hl
    induction l with
    | nil => rfl
    | cons c l ih =>
      rw [List.map_cons, ih fun y hy => hl y (List.mem_cons_of_mem _ hy)]
      have := hl (lo1 c) (by simp)
      rw [lo_dig (by omega)]
  exact this _ hd
theorem digs_low {x : Str} (h : digs x = true) : Txt.lower x = x := low_plain (plain_of (digs_iff h))
theorem lnum_cases (a : Str) (lo hi : Int) (l1 : 1 ≤ lo) (h1 : hi ≤ 600) : lnum a lo hi = -1 ∨ (0 ≤ lnum a lo hi ∧ lo ≤ (a.length : Int) ∧ (a.length : Int) ≤ hi ∧ digs a = true ∧ intText? a = some (lnum a lo hi)) := by
  by_cases h : 0 ≤ lnum a lo hi
  · obtain ⟨c1, c2, c3, c4⟩ := lnum_bound a lo hi h
    exact .inr ⟨h, c1, c2, c3, c4 l1 h1⟩
  · left
    unfold lnum at h ⊢
    split
    · rename_i c
      obtain ⟨c1, c2, c3⟩ := c
      rw [if_pos ⟨c1, c2, c3⟩, intText_val c3 (by omega) (by omega)] at h
      exfalso
      simp only [Option.getD_some] at h
      omega
    · rfl
theorem nod_low {x : Str} (ha : asc (tl x)) : nodT (Txt.lower x) 2 = if 0 ≤ lnum x 2 2 then .int (lnum x 2 2) else .non := by
  rcases lnum_cases x 2 2 (by decide) (by decide) with e | ⟨h, l1, l2, dg, iv⟩
  · rw [e, if_neg (by decide)]
    unfold nodT
    rw [if_neg]
    rintro ⟨c1, c2⟩
    have el := low_digs ha c2
    rw [el] at c1 c2
    unfold lnum at e
    rw [if_pos ⟨by omega, by omega, c2⟩, intText_val c2 (by omega) (by omega)] at e
    simp only [Option.getD_some] at e
    omega
  · rw [if_pos h, digs_low dg]
    unfold nodT ivT
    rw [if_pos ⟨by omega, dg⟩, iv]
theorem plain_A {x : Str} {k v : Int} (hk : k ≤ 4) (ha : asc (tl x)) (h : plT (Txt.lower x) k = .int v) : lplain x = v := by
  unfold plT at h
  split at h
  · rename_i c
    obtain ⟨c1, c2, c3, c4⟩ := c
    have el := low_digs ha c4
    rw [el] at h c1 c2 c3 c4
    have nz : ¬ cutS x none (some 1) = "0" := by
      intro z
      cases ht : tl x with
      | nil => have : x.length = 0 := by rw [len_tl, ht]; rfl
               omega
      | cons p r =>
        have e := cut1_tl ht
        rw [z, tl_zero] at e
        have : p = 48 := (List.head_eq_of_cons_eq e).symm
        rw [sw_pre (by rw [tl_zero]; simp), tl_zero, ht, this] at c3
        unfold pre at c3
        simp at c3
    unfold lplain
    rw [if_pos (.inl nz)]
    unfold lnum
    rw [if_pos ⟨by omega, by omega, c4⟩]
    unfold ivT at h
    split at h
    · rename_i i hi
      rw [hi]; cases h; rfl
    · cases h
  · cases h
theorem plain_B {x : Str} {v : Int} (h1 : 1 ≤ v) (h : lplain x = v) : plT (Txt.lower x) 4 = .int v ∧ (v ≤ 99 → plT (Txt.lower x) 2 = .int v) := by
  obtain ⟨e1, e2⟩ := plain_inv (a := x) (by omega)
  rw [h] at e1 e2
  rw [e1, low_plain (num_plain (n := v) (by omega))]
  refine ⟨pl_num (k := 4) h1 (by omega) (numL_len (by decide) (by omega)), fun h9 => pl_num (k := 2) h1 (by omega) (numL_len (by decide) (by omega))⟩
/-! ### months -/
def namesL : List Str := ["ash", "birch", "cedar", "elm", "fir", "hazel", "larch", "maple", "oak", "pine", "rowan", "willow", "yew"]
theorem names_low : monL.map Txt.lower = namesL := by decide +kernel
def monC (w n : Str) : Bool := decide ((w.length : Int) > 2) && decide (cutS n none (some (w.length : Int)) = Txt.lower w)
def lmonF (w : Str) : Nat → List Str → List Int
  | _, [] => []
  | i, n :: r => if monC w n = true then (((i : Nat) : Int) + 1) :: lmonF w (i + 1) r else lmonF w (i + 1) r
def lmonth (w : Str) : Int := (lmonF w 0 namesL).headD 0
theorem cut_sw {n x : Str} (hx : tl x ≠ []) : cutS n none (some (x.length : Int)) = x ↔ Txt.startswith n x = true := by
  rw [sw_pre hx]
  unfold pre
  rw [beq_iff_eq]
  have e : tl (cutS n none (some (x.length : Int))) = (tl n).take (tl x).length := by
    show (((tl n).drop (HT.sIx n.length 0 none)).take (HT.sIx n.length n.length (some (x.length : Int)) - HT.sIx n.length 0 none)) = _
    have e1 : HT.sIx n.length n.length (some (x.length : Int)) = min x.length n.length := HT.sIx_nat n.length n.length x.length
    rw [HT.sIx_none, e1, List.drop_zero, Nat.sub_zero, ← len_tl]
    by_cases c : x.length ≤ n.length
    · rw [Nat.min_eq_left c]
    · rw [Nat.min_eq_right (by omega), List.take_of_length_le (by rw [← len_tl]; omega), List.take_of_length_le (by rw [← len_tl]; omega)]
  constructor
  · intro h; rw [← e, h]
  · intro h; exact ext_tl (e.trans h)
theorem mon_both {w : Str} (ha : asc (tl w)) : ∀ (l : List Str) (i : Nat), (∀ n ∈ l, True) → monFrom (Txt.lower w) (i + 1) l = match lmonF w i (l.map Txt.lower) with
    | [] => .non
    | k :: _ => .int k
  | [], i, _ => rfl
  | n :: r, i, h => by
    have ih := mon_both ha r (i + 1) fun _ _ => trivial
    have hl := low_len ha
    have c : (3 ≤ (Txt.lower w).length ∧ Txt.startswith (Txt.lower n) (Txt.lower w) = true) ↔ monC w (Txt.lower n) = true := by
      unfold monC
      rw [Bool.and_eq_true, decide_eq_true_eq, decide_eq_true_eq, hl]
      constructor
      · rintro ⟨a, b⟩
        refine ⟨by omega, ?_⟩
        have := (cut_sw (n := Txt.lower n) (x := Txt.lower w) (by intro z; have := len_tl (Txt.lower w); rw [z, hl] at this; simp at this; omega)).mpr b
        rw [hl] at this
        exact this
      · rintro ⟨a, b⟩
        refine ⟨by omega, ?_⟩
        refine (cut_sw (n := Txt.lower n) (x := Txt.lower w) (by intro z; have := len_tl (Txt.lower w); rw [z, hl] at this; simp at this; omega)).mp ?_
        rw [hl]; exact b
    show (if 3 ≤ (Txt.lower w).length ∧ Txt.startswith (Txt.lower n) (Txt.lower w) = true then V.int ((i + 1 : Nat) : Int) else monFrom (Txt.lower w) (i + 1 + 1) r) = _
    rw [List.map_cons]
    show _ = match (if monC w (Txt.lower n) = true then (((i : Nat) : Int) + 1) :: lmonF w (i + 1) (r.map Txt.lower) else lmonF w (i + 1) (r.map Txt.lower)) with
      | [] => V.non
      | k :: _ => V.int k
    by_cases k : monC w (Txt.lower n) = true
    · rw [if_pos (c.mpr k), if_pos k]
      rfl
    · rw [if_neg (fun z => k (c.mp z)), if_neg k]
      exact ih
theorem lmon_pos (w : Str) : ∀ (l : List Str) (i : Nat), ∀ k ∈ lmonF w i l, 1 ≤ k
  | [], i => fun k hk => nomatch hk
  | n :: r, i => by
    intro k hk
    have hk : k ∈ (if monC w n = true then (((i : Nat) : Int) + 1) :: lmonF w (i + 1) r else lmonF w (i + 1) r) := hk
    split at hk
    · rcases List.mem_cons.mp hk with e | e
      · rw [e]; omega
      · exact lmon_pos w r (i + 1) k e
    · exact lmon_pos w r (i + 1) k hk
theorem month_both {w : Str} (ha : asc (tl w)) : monV (Txt.lower w) = if lmonth w = 0 then .non else .int (lmonth w) := by
  have h := mon_both ha monL 0 fun _ _ => trivial
  unfold monV
  rw [h, names_low]
  unfold lmonth
  have hp := lmon_pos w namesL 0
  cases e : lmonF w 0 namesL with
  | nil => rfl
  | cons k r =>
    have := hp k (by rw [e]; simp)
    show V.int k = if k = 0 then V.non else V.int k
    rw [if_neg (by omega)]
/-! ### times -/
theorem spl_cnt (s : Nat) : ∀ (l acc : List Nat), ((spl [s] 0 acc l).length : Int) = PyProof.Rows.cnt s l + 1
  | [], acc => by rw [spl_nil, cnt_nil]; rfl
  | c :: r, acc => by
    by_cases e : c = s
    · have h1 : pre [s] (c :: r) = true := by unfold pre; simp [e]
      rw [spl_hit h1, cnt_cons, if_pos e]
      have := spl_cnt s r []
      have e0 : [s].length - 1 = 0 := rfl
      rw [e0, List.length_cons]
      omega
    · have h1 : pre [s] (c :: r) = false := by unfold pre; simp [e]
      rw [spl_miss h1, cnt_cons, if_neg e]
      have := spl_cnt s r (acc ++ [c])
      omega
theorem spl_snoc (s : Nat) (t : List Nat) : ∀ (l acc : List Nat), spl [s] 0 acc (l ++ s :: t) = spl [s] 0 acc l ++ spl [s] 0 [] t
  | [], acc => by
    have h1 : pre [s] (s :: t) = true := by unfold pre; simp
    rw [List.nil_append, spl_hit h1, spl_nil]; rfl
  | c :: r, acc => by
    by_cases e : c = s
    · have h1 : pre [s] (c :: r) = true := by unfold pre; simp [e]
      have h2 : pre [s] (c :: (r ++ s :: t)) = true := by unfold pre; simp [e]
      rw [List.cons_append, spl_hit h1, spl_hit h2]
      have e0 : [s].length - 1 = 0 := rfl
      rw [e0, spl_snoc s t r []]; rfl
    · have h1 : pre [s] (c :: r) = false := by unfold pre; simp [e]
      have h2 : pre [s] (c :: (r ++ s :: t)) = false := by unfold pre; simp [e]
      rw [List.cons_append, spl_miss h1, spl_miss h2]
      exact spl_snoc s t r (acc ++ [c])
theorem count_colon (x : Str) : Txt.count x ":" = ((Txt.split x ":").length : Int) - 1 := by
  have e := split_spl x ":" (by rw [tl_colon]; simp) (kind_ok (by decide +kernel))
  have h := spl_cnt 58 (tl x) []
  rw [tl_colon] at e
  rw [← e, List.length_map] at h
  rw [colon_mk, count_cnt]
  show PyProof.Rows.cnt 58 (tl x) = _
  rw [colon_mk] at h
  omega
theorem split_00 (x : Str) : Txt.split (x ++ ":00") ":" = Txt.split x ":" ++ [("00" : Str)] := by
  refine map_tl_inj ?_
  have hk : ¬ Builtin.Str.strKind x < Builtin.Str.strKind ":" := kind_ok (by decide +kernel)
  have e00 : tl (":00" : Str) = 58 :: [48, 48] := by decide +kernel
  have e2 : tl ("00" : Str) = [48, 48] := by decide +kernel
  rw [List.map_append, split_spl x ":" (by rw [tl_colon]; simp) hk, split_spl (x ++ ":00") ":" (by rw [tl_colon]; simp) (kind_ok (by decide +kernel)), tl_append, e00, tl_colon, spl_snoc]
  have e3 : List.map tl [("00" : Str)] = [[48, 48]] := by show [tl ("00" : Str)] = _; rw [e2]
  rw [e3]; rfl
theorem parts_low {t : Str} (ha : asc (tl t)) : Txt.split (timeW (Txt.lower t)) ":" = (lparts t true).map Txt.lower := by
  have es := low_split (a := t) tl_colon (by decide +kernel) (.inl (by decide)) ha
  unfold timeW lparts
  rw [count_colon, es, List.length_map]
  have z : Txt.lower "00" = "00" := by decide +kernel
  by_cases c : (Txt.split t ":").length = 2
  · rw [if_pos (by rw [c]; rfl), if_pos ⟨c, rfl⟩, split_00, es, List.map_append, List.map_cons, List.map_nil, z]
  · rw [if_neg (by omega), if_neg (by rintro ⟨x, _⟩; exact c x), es]
theorem lparts_asc {t : Str} (ha : asc (tl t)) : ∀ x ∈ lparts t true, asc (tl x) := by
  have h := split_asc (a := t) tl_colon (by decide +kernel) ha
  unfold lparts
  split
  · intro x hx
    rcases List.mem_append.mp hx with z | z
    · exact h x z
    · rw [List.mem_singleton.mp z]
      have e : tl ("00" : Str) = [48, 48] := by decide +kernel
      rw [e]
      intro c hc
      simp at hc
      omega
  · exact h
theorem time_list {t : Str} (ha : asc (tl t)) : timL (timeW (Txt.lower t)) = (lparts t true).map fun x => if 0 ≤ lnum x 2 2 then V.int (lnum x 2 2) else V.non := by
  unfold timL
  rw [parts_low ha, List.map_map]
  refine List.map_congr_left fun x hx => ?_
  exact nod_low (lparts_asc ha x hx)
theorem time_A {t : Str} {h mi s : Int} (ha : asc (tl t)) (e : timL (timeW (Txt.lower t)) = [.int h, .int mi, .int s]) : lclock t true = [h, mi, s] := by
  rw [time_list ha] at e
  have l3 : (lparts t true).length = 3 := by
    have := congrArg List.length e
    simpa using this
  have one : ∀ (x : Str) (v : Int), (if 0 ≤ lnum x 2 2 then V.int (lnum x 2 2) else V.non) = .int v → lnum x 2 2 = v ∧ 0 ≤ v := by
    intro x v hv
    split at hv
    · rename_i c
      have := V.int.inj hv
      omega
    · cases hv
  match hp : lparts t true, l3 with
  | [p, q, r], _ =>
    rw [hp] at e
    simp only [List.map_cons, List.map_nil, List.cons.injEq, and_true] at e
    obtain ⟨e1, e2, e3⟩ := e
    obtain ⟨a1, b1⟩ := one p h e1
    obtain ⟨a2, b2⟩ := one q mi e2
    obtain ⟨a3, b3⟩ := one r s e3
    unfold lclock
    rw [hp]
    simp only [List.map_cons, List.map_nil, a1, a2, a3]
    rw [if_pos]
    refine ⟨rfl, ?_⟩
    simp only [List.mem_cons, List.not_mem_nil, or_false, not_or]
    omega
theorem time_B {t : Str} (ha : asc (tl t)) (h : ¬ lclock t true = []) : ∃ h' mi s, lclock t true = [h', mi, s] ∧ timL (timeW (Txt.lower t)) = [.int h', .int mi, .int s] := by
  rw [time_list ha]
  unfold lclock at h ⊢
  split at h
  · rename_i c
    rw [if_pos c]
    obtain ⟨c1, c2⟩ := c
    rw [List.length_map] at c1
    match hp : lparts t true, c1 with
    | [p, q, r], _ =>
      rw [hp] at c2
      simp only [List.map_cons, List.map_nil, List.mem_cons, List.not_mem_nil, or_false, not_or] at c2
      have nn : ∀ x : Str, ¬ -1 = lnum x 2 2 → 0 ≤ lnum x 2 2 := by
        intro x hx
        rcases lnum_cases x 2 2 (by decide) (by decide) with e | e
        · exact absurd e.symm hx
        · exact e.1
      refine ⟨_, _, _, rfl, ?_⟩
      simp only [List.map_cons, List.map_nil]
      rw [if_pos (nn p c2.1), if_pos (nn q c2.2.1), if_pos (nn r c2.2.2)]
  · exact absurd rfl h
/-! ### zones -/
theorem lo_plainC {c : Nat} (h : (48 ≤ lo1 c ∧ lo1 c ≤ 58) ∨ lo1 c = 43 ∨ lo1 c = 45) : lo1 c = c := by
  unfold lo1 at h ⊢
  split at h
  · omega
  · rename_i k; rw [if_neg k]
theorem low_back {x : Str} (ha : asc (tl x)) (h : plain (tl (Txt.lower x))) : Txt.lower x = x := by
  refine ext_tl ?_
  have e := low_tl ha
  rw [e] at h ⊢
  have : ∀ l : List Nat, plain (l.map lo1) → l.map lo1 = l := by
    intro l hl
    induction l with
    | nil => rfl
    | cons c l ih =>
      rw [List.map_cons, ih fun y hy => hl y (List.mem_cons_of_mem _ hy)]
      have := hl (lo1 c) (by simp)
      rw [lo_plainC this]
  exact this _ h
theorem tl_z : tl ("z" : Str) = [122] := by decide +kernel
theorem tl_Z : tl ("Z" : Str) = [90] := by decide +kernel
theorem low_is_z {x : Str} (ha : asc (tl x)) (h : Txt.lower x = "z") : x = "Z" ∨ x = "z" := by
  have e := low_tl ha
  rw [h, tl_z] at e
  match ht : tl x with
  | [c] =>
    rw [ht] at e
    have e : 122 = lo1 c := by simpa using e
    unfold lo1 at e
    split at e
    · left; refine ext_tl ?_; rw [ht, tl_Z]; congr 1; omega
    · right; refine ext_tl ?_; rw [ht, tl_z]; congr 1; exact e.symm
  | [] => rw [ht] at e; simp at e
  | _ :: _ :: _ => rw [ht] at e; simp at e
theorem low_not_Z {x : Str} (ha : asc (tl x)) : ¬ Txt.lower x = "Z" := by
  intro h
  have e := low_tl ha
  rw [h, tl_Z] at e
  match ht : tl x with
  | [c] =>
    rw [ht] at e
    have e : 90 = lo1 c := by simpa using e
    unfold lo1 at e
    split at e <;> omega
  | [] => rw [ht] at e; simp at e
  | _ :: _ :: _ => rw [ht] at e; simp at e
theorem zo_form {w : Str} {v : Int} (nz : ¬ (w = "Z" ∨ w = "z")) (h : zoV w = .int v) : zoneT v = w := by
  unfold zoV at h
  rw [if_neg nz] at h
  split at h
  · by_cases c : Txt.startswith w "-" = true
    · simp only [c, if_true] at h
      split at h
      · rename_i k
        rw [← V.int.inj h]; exact k
      · cases h
    · simp only [c, if_false, Bool.false_eq_true] at h
      split at h
      · rename_i k
        rw [← V.int.inj h]; exact k
      · cases h
  · cases h
theorem zone_A {x : Str} {v : Int} (ha : asc (tl x)) (h : zoV (Txt.lower x) = .int v) (v0 : -840 ≤ v) (v1 : v ≤ 840) : lzone x = [v] := by
  by_cases c : Txt.lower x = "Z" ∨ Txt.lower x = "z"
  · have e0 : v = 0 := by
      unfold zoV at h
      rw [if_pos c] at h
      cases h; rfl
    rcases c with c | c
    · exact absurd c (low_not_Z ha)
    · have := low_is_z ha c
      unfold lzone
      rw [if_pos this, e0]
  · have e := zo_form c h
    have vn : ¬ v = 0 := by
      intro z
      rw [z] at e
      exact c (.inl e.symm)
    have p := zone_plain v0 v1 vn
    rw [e] at p
    have ex := low_back ha p
    rw [ex] at e
    rw [← e]
    exact lzone_zone v0 v1
theorem zone_B {x : Str} (h : ¬ lzone x = []) : ∃ v, lzone x = [v] ∧ zoV (Txt.lower x) = .int v := by
  by_cases c : x = "z"
  · refine ⟨0, ?_, ?_⟩
    · unfold lzone; rw [if_pos (.inr c)]
    · rw [c]
      have e : Txt.lower "z" = "z" := by decide +kernel
      unfold zoV
      rw [e, if_pos (.inr rfl)]
  · obtain ⟨z, e1, e2, z0, z1⟩ := zone_inv h c
    refine ⟨z, e1, ?_⟩
    rw [e2]
    exact low_zone z0 z1
/-! ### the whole -/
def lwd : List Str → Str
  | [] => ""
  | w :: _ => if isWd (Txt.lower w) = true then Txt.lower w else ""
def lrest (ws : List Str) : List Str := if lwd ws = "" then ws else ws.tail
def ldateW (d m y t : Str) (b : List Int) : List Int := ([lplain y, lmonth m, lplain d] ++ lclock t true) ++ [b.headD 0]
def lfin (wd d m y t : Str) (b : List Int) : Option (List Int × Bool) :=
  if lclock t true = [] ∨ b = [] then none else if isDateL ((ldateW d m y t b).map V.int) = true then some (ldateW d m y t b, !decide (wd = "" ∨ wd = Txt.lower (wdT (lplain d)))) else none
def llW (ws : List Str) : Option (List Int × Bool) := match lrest ws with
  | [d, m, y, t] => lfin (lwd ws) d m y t [0]
  | [d, m, y, t, z] => lfin (lwd ws) d m y t (lzone z)
  | _ => none
def llV (a : Str) : Option (List Int × Bool) := llW (wordsO a)
theorem zo_z : zoV "z" = .int 0 := by unfold zoV; rw [if_pos (.inr rfl)]
/-- one date in words, read by both -/
theorem fin_both {d m y t zw : Str} {b : List Int} (ad : asc (tl d)) (am : asc (tl m)) (ay : asc (tl y)) (at' : asc (tl t))
    (hA : ∀ v, zoV zw = .int v → -840 ≤ v → v ≤ 840 → b = [v]) (hB : ¬ b = [] → ∃ v, b = [v] ∧ zoV zw = .int v) (wd : Str) (lie : List V → Bool)
    (hl : ∀ l : List Int, l = ldateW d m y t b → isDateL (l.map V.int) = true → lie (l.map V.int) = !decide (wd = "" ∨ wd = Txt.lower (wdT (lplain d)))) :
    (if isDateL (dateW (Txt.lower d) (Txt.lower m) (Txt.lower y) (Txt.lower t) zw) = true then some (dateW (Txt.lower d) (Txt.lower m) (Txt.lower y) (Txt.lower t) zw, lie (dateW (Txt.lower d) (Txt.lower m) (Txt.lower y) (Txt.lower t) zw)) else none)
      = (lfin wd d m y t b).map fun p => (p.1.map V.int, p.2) := by
  have mb := month_both am
  by_cases c : isDateL (dateW (Txt.lower d) (Txt.lower m) (Txt.lower y) (Txt.lower t) zw) = true
  · -- the program reads a date
    rw [if_pos c]
    obtain ⟨y', mo, d', hh, mi, s, z, el, isd⟩ := dateL_true c
    have el0 := el
    unfold dateW at el
    have tl3 : timL (timeW (Txt.lower t)) = [.int hh, .int mi, .int s] ∧ zoV zw = .int z ∧ plT (Txt.lower y) 4 = .int y' ∧ monV (Txt.lower m) = .int mo ∧ plT (Txt.lower d) 2 = .int d' := by
      generalize timL (timeW (Txt.lower t)) = T at el ⊢
      match T, el with
      | [a1, a2, a3], el =>
        simp only [List.cons_append, List.nil_append, List.cons.injEq, and_true] at el
        obtain ⟨e1, e2, e3, e4, e5, e6, e7⟩ := el
        subst e4 e5 e6
        exact ⟨rfl, e7, e1, e2, e3⟩
      | [], el => simp at el
      | [_], el => simp at el
      | [_, _], el => simp at el
      | _ :: _ :: _ :: _ :: _, el => simp at el
    obtain ⟨e1, e2, e3, e4, e5⟩ := tl3
    obtain ⟨⟨y0, y1⟩, ⟨mo0, mo1⟩, ⟨d0, d1⟩, ⟨h0, h1⟩, ⟨i0, i1⟩, ⟨s0, s1⟩, ⟨z0, z1⟩⟩ := date_bounds isd
    have f1 := time_A at' e1
    have f2 := hA z e2 z0 z1
    have f3 := plain_A (k := 4) (by decide) ay e3
    have f5 := plain_A (k := 2) (by decide) ad e5
    have f4 : lmonth m = mo := by
      rw [e4] at mb
      split at mb
      · cases mb
      · exact (V.int.inj mb).symm
    have ed : ldateW d m y t b = [y', mo, d', hh, mi, s, z] := by
      unfold ldateW; rw [f1, f2, f3, f4, f5]; rfl
    have c2 : isDateL ((ldateW d m y t b).map V.int) = true := by rw [ed]; exact isd
    have hl := hl _ rfl c2
    unfold lfin
    rw [if_neg (by rw [f1, f2]; rintro (x | x) <;> cases x), if_pos c2, ← hl, ed, el0]
    rfl
  · rw [if_neg c]
    unfold lfin
    by_cases k : lclock t true = [] ∨ b = []
    · rw [if_pos k]; rfl
    · rw [if_neg k]
      have k1 : ¬ lclock t true = [] := fun x => k (.inl x)
      have k2 : ¬ b = [] := fun x => k (.inr x)
      by_cases c2 : isDateL ((ldateW d m y t b).map V.int) = true
      · exfalso
        refine c ?_
        obtain ⟨hh, mi, s, f1, e1⟩ := time_B at' k1
        obtain ⟨z, f2, e2⟩ := hB k2
        have ed : ldateW d m y t b = [lplain y, lmonth m, lplain d, hh, mi, s, z] := by
          unfold ldateW; rw [f1, f2]; rfl
        rw [ed] at c2
        have isd : Ma.isDate (lplain y) (lmonth m) (lplain d) hh mi s z = true := c2
        obtain ⟨⟨y0, y1⟩, ⟨mo0, mo1⟩, ⟨d0, d1⟩, _, _, _, _⟩ := date_bounds isd
        obtain ⟨p1, _⟩ := plain_B (x := y) y0 rfl
        obtain ⟨_, p2⟩ := plain_B (x := d) d0 rfl
        have p2 := p2 (by omega)
        rw [if_neg (by omega)] at mb
        unfold dateW
        rw [e1, e2, p1, p2, mb]
        exact isd
      · rw [if_neg c2]; rfl
theorem wd_not_empty {w : Str} (h : isWd w = true) : ¬ w = "" := by
  intro z
  rw [z] at h
  exact absurd h (by decide +kernel)
theorem words_asc {a : Str} (ha : asc (tl a)) : ∀ p ∈ wordsO a, asc (tl p) := fun p hp => split_asc tl_space (by decide +kernel) ha p (List.mem_filter.mp hp).1
theorem long_both {a : Str} (ha : asc (tl a)) : rlV a = (llV a).map fun p => (p.1.map V.int, p.2) := by
  unfold rlV llV
  rw [words_low ha]
  have wa := words_asc ha
  generalize wordsO a = ws at wa ⊢
  -- the weekday
  have ht : (toldL (ws.map Txt.lower) = none ∧ lwd ws = "" ∧ lrest ws = ws ∧ restL (ws.map Txt.lower) = ws.map Txt.lower) ∨
      (∃ x, toldL (ws.map Txt.lower) = some x ∧ lwd ws = x ∧ ¬ x = "" ∧ lrest ws = ws.tail ∧ restL (ws.map Txt.lower) = ws.tail.map Txt.lower) := by
    cases ws with
    | nil => exact .inl ⟨rfl, rfl, rfl, rfl⟩
    | cons w0 t0 =>
      cases c : isWd (Txt.lower w0) with
      | true =>
        have e1 : toldL ((w0 :: t0).map Txt.lower) = some (Txt.lower w0) := toldL_t c
        have e2 : lwd (w0 :: t0) = Txt.lower w0 := by show (if isWd (Txt.lower w0) = true then Txt.lower w0 else "") = _; rw [if_pos c]
        have ne := wd_not_empty c
        refine .inr ⟨Txt.lower w0, e1, e2, ne, ?_, ?_⟩
        · unfold lrest; rw [e2, if_neg ne]
        · unfold restL; rw [e1]; rfl
      | false =>
        have e1 : toldL ((w0 :: t0).map Txt.lower) = none := toldL_f c
        have e2 : lwd (w0 :: t0) = "" := by show (if isWd (Txt.lower w0) = true then Txt.lower w0 else "") = _; rw [if_neg (by rw [c]; decide)]
        refine .inl ⟨e1, e2, ?_, ?_⟩
        · unfold lrest; rw [e2, if_pos rfl]
        · unfold restL; rw [e1]
  have key : ∀ (told : Option Str) (rest : List Str) (wd : Str), toldL (ws.map Txt.lower) = told → lwd ws = wd → lrest ws = rest → restL (ws.map Txt.lower) = rest.map Txt.lower → (∀ p ∈ rest, asc (tl p)) →
      ((told = none ∧ wd = "") ∨ (told = some wd ∧ ¬ wd = "")) → rlW (ws.map Txt.lower) = (llW ws).map fun p => (p.1.map V.int, p.2) := by
    intro told rest wd h1 h2 h3 h4 h5 h6
    unfold rlW llW
    rw [h1, h2, h3, h4]
    have lie : ∀ (d m y t : Str) (b : List Int), ∀ l : List Int, l = ldateW d m y t b → isDateL (l.map V.int) = true → liesV told (l.map V.int) = !decide (wd = "" ∨ wd = Txt.lower (wdT (lplain d))) := by
      intro d m y t b l hl isd
      obtain ⟨y', mo, d', hh, mi, s, z, el, _⟩ := dateL_true isd
      have ed : lplain d = d' := by
        have e3 : (l.map V.int)[2]? = some (.int (lplain d)) := by rw [hl]; rfl
        rw [el] at e3
        have := Option.some.inj e3
        exact (V.int.inj this).symm
      rw [el, ed]
      rcases h6 with ⟨k1, k2⟩ | ⟨k1, k2⟩
      · rw [k1, k2]
        show false = _
        rw [decide_eq_true (.inl rfl)]; rfl
      · rw [k1]
        show (!decide (V.str wd = V.str (Txt.lower (wdT d')))) = _
        congr 1
        rw [Bool.eq_iff_iff, decide_eq_true_eq, decide_eq_true_eq]
        constructor
        · intro z; exact .inr (V.str.inj z)
        · rintro (z | z)
          · exact absurd z k2
          · rw [z]
    match rest, h5 with
    | [d, m, y, t], h5 =>
      show (match some (dateW (Txt.lower d) (Txt.lower m) (Txt.lower y) (Txt.lower t) "z") with | some l => if isDateL l = true then some (l, liesV told l) else none | none => none) = _
      exact fin_both (h5 d (by simp)) (h5 m (by simp)) (h5 y (by simp)) (h5 t (by simp)) (fun v hv _ _ => by rw [zo_z] at hv; cases hv; rfl) (fun _ => ⟨0, rfl, zo_z⟩) wd (liesV told) (lie d m y t [0])
    | [d, m, y, t, z], h5 =>
      show (match some (dateW (Txt.lower d) (Txt.lower m) (Txt.lower y) (Txt.lower t) (Txt.lower z)) with | some l => if isDateL l = true then some (l, liesV told l) else none | none => none) = _
      exact fin_both (h5 d (by simp)) (h5 m (by simp)) (h5 y (by simp)) (h5 t (by simp)) (fun v hv v0 v1 => zone_A (h5 z (by simp)) hv v0 v1) (fun k => zone_B k) wd (liesV told) (lie d m y t (lzone z))
    | [], _ => rfl
    | [_], _ => rfl
    | [_, _], _ => rfl
    | [_, _, _], _ => rfl
    | _ :: _ :: _ :: _ :: _ :: _ :: _, _ => rfl
  rcases ht with ⟨a1, a2, a3, a4⟩ | ⟨x, a1, a2, a3, a4, a5⟩
  · exact key none ws "" a1 a2 a3 a4 wa (.inl ⟨rfl, rfl⟩)
  · refine key (some x) ws.tail x a1 a2 a4 a5 (fun p hp => wa p (List.mem_of_mem_tail hp)) (.inr ⟨rfl, a3⟩)
end Toy
set_option Elab.async false
set_option linter.all false
set_option maxRecDepth 100000
set_option maxHeartbeats 4000000
namespace Toy
open PySem PySem.Spec PyProof.Rows L2 Tx TL
theorem lmonF_snoc (w n : Str) : ∀ (l : List Str) (k : Nat), lmonF w k (l ++ [n]) = lmonF w k l ++ (if monC w n = true then [((k + l.length : Nat) : Int) + 1] else [])
  | [], k => by
    show (if monC w n = true then (((k : Nat) : Int) + 1) :: [] else []) = _
    split <;> simp [lmonF]
  | x :: l, k => by
    have ih := lmonF_snoc w n l (k + 1)
    show (if monC w x = true then (((k : Nat) : Int) + 1) :: lmonF w (k + 1) (l ++ [n]) else lmonF w (k + 1) (l ++ [n])) = (if monC w x = true then (((k : Nat) : Int) + 1) :: lmonF w (k + 1) l else lmonF w (k + 1) l) ++ _
    have e : k + 1 + l.length = k + (x :: l).length := by simp only [List.length_cons]; omega
    rw [ih, e]
    split <;> simp
theorem shaped_intsL (l : List Int) : SeqAt.shaped (.list (l.map PyData.int)) = true := by
  obtain ⟨_, _, c, _⟩ := ints_data l
  have h : ∀ l : List Int, PyData.canLayAll0 (l.map PyData.int) = true := fun l => by
    induction l with
    | nil => rfl
    | cons i l ih => simp only [List.map_cons, PyData.canLayAll0, PyData.canLay0, Bool.true_and]; exact ih
  unfold SeqAt.shaped
  simp only [PyData.canLay0, PyData.depth, c, h l, Bool.true_and]
  rfl
theorem eqv_nil (l : List Int) : PyData.eqv (.list (l.map PyData.int)) (.list []) = decide (l = []) := by
  cases l with
  | nil => rfl
  | cons i l => simp [PyData.eqv, PyData.eqvAll]
theorem str_dec (x y : Str) : decide (V.str x = V.str y) = decide (x = y) := by
  rw [Bool.eq_iff_iff, decide_eq_true_eq, decide_eq_true_eq]
  exact ⟨fun z => V.str.inj z, fun z => by rw [z]⟩
section
variable {P : Program} {w : World} {K : PySem.W.Frag} {mg : Str → Option Value} {base : Heap}
theorem dpAllK {H : Hp} : ∀ l : List Int, DpAll K H (l.map V.int) (l.map PyData.int)
  | [] => .nil
  | i :: l => .cons (.int i) (dpAllK l)
theorem eqNil {H : Hp} {Q : VK} {p r : Addr} (l : List Int) (hp : H p = some (.lst (l.map V.int))) (hr : H r = some (.lst [])) (q : Q (.bl (decide (l = []))) H) : rEqD K (.ref p) (.ref r) H Q :=
  ⟨_, _, .lst (SqL.of hp) (dpAllK l), .lst (SqL.of hr) .nil, shaped_intsL l, rfl, by rw [eqv_nil]; exact q⟩
theorem neNil {H : Hp} {Q : VK} {p r : Addr} (l : List Int) (hp : H p = some (.lst (l.map V.int))) (hr : H r = some (.lst [])) (q : Q (.bl (!decide (l = []))) H) : rNeD K (.ref p) (.ref r) H Q :=
  ⟨_, _, .lst (SqL.of hp) (dpAllK l), .lst (SqL.of hr) .nil, shaped_intsL l, rfl, by rw [eqv_nil]; exact q⟩
theorem asg_ref {te : TE} {i : Nat} {rest : TS} {D : Ends} {σ : L2.St} {H : Hp} (Pv : Hp → Addr → Prop) (h : ∀ R : VK, (∀ H5 p5, Pv H5 p5 → R (.ref p5) H5) → te σ H R) (q : ∀ H5 p5, Pv H5 p5 → rest D (σ.set i (some (.ref p5))) H5) :
    tSeq (tAsg te (gName i)) rest D σ H := h _ q
theorem lmonF_len (w : Str) : ∀ (l : List Str) (k : Nat), (lmonF w k l).length ≤ l.length
  | [], _ => Nat.le_refl _
  | x :: l, k => by
    have ih := lmonF_len w l (k + 1)
    show (if monC w x = true then (((k : Nat) : Int) + 1) :: lmonF w (k + 1) l else lmonF w (k + 1) l).length ≤ _
    split <;> simp only [List.length_cons] <;> omega
def sp__law_month_in : Sp := fun vs H Q _ => ∃ (a : Str), vs = [.str a] ∧ a.length ≤ 500 ∧ ∀ H', Same H H' → Q (.int (lmonth a)) H'
theorem ok__law_month_in (T : Txt K mg) : FnOk P w K mg base CX0 1 T.a__law_month_in T.d__law_month_in ["word"] sp__law_month_in := by
  refine T.F__law_month_in.ok sc__law_month_in (fun vs H Q E h => ?_) (fun cdv A outer s H vs Q E hr h => ?_)
  · obtain ⟨a, rfl, _⟩ := h; rfl
  · obtain ⟨a, rfl, hl, q⟩ := h
    refine ⟨_, (pss_cons (ps_set (i := 1) sc__law_month_in.nd rfl (Or.inl rfl) (pe_lst (pa_cons pe_str (pa_cons pe_str (pa_cons pe_str (pa_cons pe_str (pa_cons pe_str (pa_cons pe_str (pa_cons pe_str (pa_cons pe_str (pa_cons pe_str (pa_cons pe_str (pa_cons pe_str (pa_cons pe_str (pa_cons pe_str pa_nil)))))))))))))))
        (pss_cons (ps_setLc (i := 2) (own := [("k", 3), ("name", 4)]) (g := gTup K 2 (gCons (gName 3) (gCons (gName 4) gNil))) (by rfl) sc__law_month_in.nd rfl rfl (by rfl) (pi_enum (by rfl) T.z_enumerate (pa_cons (pv 1) pa_nil)) (blkOk_by (own := [("k", 3), ("name", 4)]) (N := ["word", "names", "found", "k", "name"]) (sc := defScope s__law_month_in) (by decide +kernel)) (fun _ _ _ _ _ => pg_tup rfl (pgs_cons (pg_name (i := 3) sc__law_month_in.nd rfl (Or.inl rfl)) (pgs_cons (pg_name (i := 4) sc__law_month_in.nd rfl (Or.inl rfl)) pgs_nil))) (fun _ _ _ _ _ => (pts_one (PW.pt (pw_and (pt_cmpR op_gt (pe_callB call_len_str (by rfl) T.z_len PySem.boot_len (pa_cons (pv 0) pa_nil)) pe_int (nomark _)) (pw_and1 (pt_cmpR op_eq (pe_slice sl_str (pv 4) po_none (po_some (pe_callB call_len_str (by rfl) T.z_len PySem.boot_len (pa_cons (pv 0) pa_nil)))) (pe_lower (pv 0)) (nomark _))))))) (fun _ _ _ _ _ => (pe_op op_add (pv 3) pe_int)))
        (pss_one (ps_ret (pe_ifExp (pt_cmpR (op_neD (by have := hr.units; exact this)) (pv 2) (pe_lst pa_nil) (nomark _)) (pe_ix ix_list (pv 2) pe_int (fun _ _ => rfl)) pe_int))))), ?_⟩
    have hz : a.length ≤ sizeLine := by rw [sizeLine_eq]; omega
    refine ⟨(by show 13 ≤ sizeLine; decide), fun p np => ?_⟩
    have s1 := same_new (o := .lst (namesL.map V.str)) np
    have g1 := upd_same (H := H) (a := p) (o := .lst (namesL.map V.str))
    have s1 : Same H (upd H p (.lst (namesL.map V.str))) := s1
    refine ⟨_, rfl, p, namesL.map V.str, rfl, SqL.of g1, fun D nD => ?_⟩
    have nD2 : (upd H p (.lst (namesL.map V.str))) D = none := nD
    have neD : p ≠ D := fun z => by rw [← z, g1] at nD2; cases nD2
    refine lc_it (walk_enum (K := K) (a := p) (xs := namesL.map V.str)) (fun i H' => H' D = some (.lst ((lmonF a 0 (namesL.take i)).map V.int)) ∧ ∀ b' o, b' ≠ D → (upd H p (.lst (namesL.map V.str))) b' = some o → H' b' = some o)
      ⟨upd_same, fun b' o nb e => by rw [upd_ne nb]; exact e⟩ ?_ ?_ ?_
    · rintro i H' _ ⟨_, k⟩
      exact SqL.of (k p _ neD g1)
    · rintro i x H2 H3 hi ⟨hD, k⟩ ⟨Tt, x1, x2, rfl, nT, rfl, e1, e2⟩
      have e2 : (namesL.map V.str)[i]? = some x2 := e2
      rw [List.getElem?_map] at e2
      obtain ⟨n, hn, rfl⟩ := Option.map_eq_some_iff.mp e2
      have ex : x1 = .int (i : Nat) := (Option.some.inj e1).symm
      subst ex
      have nl : n.length ≤ 6 := (by decide +kernel : ∀ x ∈ namesL, x.length ≤ 6) n (List.mem_of_getElem? hn)
      have sT := same_new (o := .tup [V.int (i : Nat), .str n]) nT
      have hD' := sT _ _ hD
      have ht : namesL.take (i + 1) = namesL.take i ++ [n] := by rw [List.take_add_one, hn]; rfl
      have il : (namesL.take i).length = i := by
        have : i < namesL.length := (List.getElem?_eq_some_iff.mp hn).1
        rw [List.length_take]; omega
      have sn := lmonF_snoc a n (namesL.take i) 0
      rw [← ht, il, Nat.zero_add] at sn
      refine ⟨Tt, _, rfl, SqT.of upd_same, rfl, _, _, rfl, _, _, rfl, rfl, rfl, ?_⟩
      refine ⟨_, rfl, a, rfl, hz, _, _, rfl, rfl, _, rfl, ?_⟩
      have keep : ∀ (xs : List Int) b' o, b' ≠ D → (upd H p (.lst (namesL.map V.str))) b' = some o → (upd (upd H2 Tt (.tup [V.int (i : Nat), .str n])) D (.lst (xs.map V.int))) b' = some o := fun xs b' o nb e => by
        rw [upd_ne nb]; exact sT _ _ (k b' o nb e)
      have sz : ((lmonF a 0 (namesL.take i)).map V.int).length < sizeLine := by
        rw [List.length_map, sizeLine_eq]
        have := lmonF_len a (namesL.take i) 0
        rw [il] at this
        have : i < 13 := (List.getElem?_eq_some_iff.mp hn).1
        omega
      refine ite2 (fun c1 => ?_) (fun c1 => ?_)
      · refine ⟨_, rfl, ?_⟩
        dsimp only [tNoPart]
        refine ⟨_, rfl, a, rfl, hz, _, rfl, n, rfl, (by rw [sizeLine_eq]; omega), _, rfl, ⟨_, rfl⟩, a, rfl, rfl, by omega, rfl, _, rfl, ?_⟩
        refine ite2 (fun c2 => ?_) (fun c2 => ?_)
        · have m : monC a n = true := by
            unfold monC
            rw [Bool.and_eq_true]
            exact ⟨c1, decide_eq_true (str_of c2)⟩
          rw [if_pos m] at sn
          refine ⟨_, rfl, _, _, rfl, rfl, _, hD', sz, ?_⟩
          constructor
          · rw [upd_same, sn, List.map_append]; rfl
          · intro b' o nb e
            rw [upd_ne nb]; exact sT _ _ (k b' o nb e)
        · have m : ¬ monC a n = true := by
            unfold monC
            rw [Bool.and_eq_true]
            rintro ⟨_, z⟩
            exact str_not c2 (of_decide_eq_true z)
          rw [if_neg m, List.append_nil] at sn
          exact ⟨by rw [hD', sn], fun b' o nb e => sT _ _ (k b' o nb e)⟩
      · have m : ¬ monC a n = true := by
          unfold monC
          rw [Bool.and_eq_true]
          rintro ⟨z, _⟩
          exact c1 z
        rw [if_neg m, List.append_nil] at sn
        exact ⟨by rw [hD', sn], fun b' o nb e => sT _ _ (k b' o nb e)⟩
    · rintro H2 ⟨hD, k⟩
      have e0 : namesL.take (namesL.map V.str).length = namesL := by rw [List.length_map]; exact List.take_length
      rw [e0] at hD
      have s2 : Same H H2 := fun b' o e => k b' o (fun z => by rw [z] at e; rw [s1 _ _ e] at nD2; cases nD2) (s1 _ _ e)
      refine ⟨_, rfl, (by show 0 ≤ sizeLine; decide), fun p3 n3 => ?_⟩
      have s3 := same_new (o := .lst []) n3
      refine neNil _ (s3 _ _ hD) upd_same ⟨_, rfl, ?_⟩
      unfold lmonth at q
      cases e : lmonF a 0 namesL with
      | nil =>
        rw [e] at q
        refine ite2 (fun z => absurd z (by decide)) (fun _ => ?_)
        exact q _ (s2.trans s3)
      | cons m r =>
        rw [e] at q hD
        refine ite2 (fun _ => ?_) (fun z => absurd (by rfl) z)
        exact ⟨_, rfl, D, _, 0, _, rfl, rfl, SqL.of (s3 _ _ hD), at0 _ _, q _ (s2.trans s3)⟩
end
end Toy
set_option Elab.async false
set_option linter.all false
set_option maxRecDepth 100000
set_option maxHeartbeats 8000000
namespace Toy
open PySem PySem.Spec PyProof.Rows L2 Tx TL
theorem nz_ne (x : Str) : (!decide (V.str x = V.str "")) = nzS x := by
  unfold nzS
  rw [Bool.eq_iff_iff]
  simp only [Bool.not_eq_true', decide_eq_false_iff_not, bne_iff_ne, ne_eq]
  have e : (("" : Str).length : Int) = 0 := by decide +kernel
  constructor
  · intro h z
    refine h ?_
    congr 1
    refine ext_tl ?_
    have : (tl x).length = 0 := by rw [← len_tl]; omega
    rw [List.length_eq_zero_iff.mp this]
    decide +kernel
  · intro h z
    have := V.str.inj z
    rw [this] at h
    exact h e
theorem lay_strs : ∀ l : List Str, (∀ x ∈ l, asc (tl x)) → PyData.canLayAll0 (l.map PyData.str) = true ∧ PyData.depthAll (l.map PyData.str) = 0
  | [], _ => ⟨rfl, rfl⟩
  | x :: l, h => by
    obtain ⟨a, b⟩ := lay_strs l fun y hy => h y (List.mem_cons_of_mem _ hy)
    constructor
    · simp only [List.map_cons, PyData.canLayAll0, PyData.canLay0, a, Bool.and_true]
      unfold PyData.strOk
      rw [Array.all_eq_true_iff_forall_mem]
      intro c hc
      have := h x (List.mem_cons_self ..) c (by simpa using hc)
      exact decide_eq_true (by omega)
    · simp only [List.map_cons, PyData.depthAll, PyData.depth, b, Nat.max_self]
theorem shaped_strs (l : List Str) (h : ∀ x ∈ l, asc (tl x)) : SeqAt.shaped (.list (l.map PyData.str)) = true := by
  obtain ⟨a, b⟩ := lay_strs l h
  unfold SeqAt.shaped
  simp only [PyData.canLay0, PyData.depth, a, b, Bool.true_and]
  rfl
theorem eqv_nilS (l : List Str) : PyData.eqv (.list (l.map PyData.str)) (.list []) = decide (l = []) := by
  cases l with
  | nil => rfl
  | cons i l => simp [PyData.eqv, PyData.eqvAll]
theorem due_at {d : Int} (d1 : 1 ≤ d) (d2 : d ≤ 28) : L2.atI [V.str "ar", .str "be", .str "co", .str "da", .str "ev", .str "fo", .str "gi"] (d - 1 - (d - 1) / 7 * 7) = some (.str (Txt.lower (wdT d))) := by
  have e : d - 1 - (d - 1) / 7 * 7 = (d - 1) % 7 := by omega
  rw [e]
  unfold wdT
  rw [if_pos d2]
  have c : (d - 1) % 7 = 0 ∨ (d - 1) % 7 = 1 ∨ (d - 1) % 7 = 2 ∨ (d - 1) % 7 = 3 ∨ (d - 1) % 7 = 4 ∨ (d - 1) % 7 = 5 ∨ (d - 1) % 7 = 6 := by omega
  rcases c with c | c | c | c | c | c | c <;> rw [c] <;> decide +kernel
theorem due_rest {d : Int} (h : ¬ d ≤ 28) : Txt.lower (wdT d) = "rest" := by
  unfold wdT
  rw [if_neg h]
  decide +kernel
theorem wds_is : wdsL = (["ar", "be", "co", "da", "ev", "fo", "gi", "rest"] : List Str) := by decide +kernel
theorem len_in (n : Nat) : inV (.int (n : Int)) [.int 4, .int 5] = decide (n = 4 ∨ n = 5) := by
  show ((4 == (n : Int)) || ((5 == (n : Int)) || false)) = _
  rw [Bool.eq_iff_iff]
  simp only [Bool.or_eq_true, beq_iff_eq, decide_eq_true_eq, Bool.or_false]
  omega
section
variable {P : Program} {w : World} {K : PySem.W.Frag} {mg : Str → Option Value} {base : Heap}
theorem dpStrs {H : Hp} : ∀ l : List Str, DpAll K H (l.map V.str) (l.map PyData.str)
  | [] => .nil
  | i :: l => .cons (.str i) (dpStrs l)
theorem neNilS {H : Hp} {Q : VK} {p r : Addr} (l : List Str) (ha : ∀ x ∈ l, asc (tl x)) (hp : H p = some (.lst (l.map V.str))) (hr : H r = some (.lst [])) (q : Q (.bl (!decide (l = []))) H) : rNeD K (.ref p) (.ref r) H Q :=
  ⟨_, _, .lst (SqL.of hp) (dpStrs l), .lst (SqL.of hr) .nil, shaped_strs l ha, rfl, by rw [eqv_nilS]; exact q⟩
theorem asg_any {te : TE} {i : Nat} {rest : TS} {D : Ends} {σ : L2.St} {H : Hp} (Pv : Hp → V → Prop) (h : ∀ R : VK, (∀ H5 v, Pv H5 v → R v H5) → te σ H R) (q : ∀ H5 v, Pv H5 v → rest D (σ.set i (some v)) H5) :
    tSeq (tAsg te (gName i)) rest D σ H := h _ q
def sp__law_read : Sp := fun vs H Q _ => ∃ a : Str, vs = [.str a] ∧ a.length ≤ 100 ∧ asc (tl a) ∧
  (llV a = none → ∀ H' r, Same H H' → H' r = some (.tup [.non, .bl false]) → Q (.ref r) H') ∧
  (∀ l b, llV a = some (l, b) → ∀ H' d r, Same H H' → H' d = some (.tup (l.map V.int)) → H' r = some (.tup [.ref d, .bl b]) → Q (.ref r) H')
theorem ok__law_read (T : Txt K mg) : FnOk P w K mg base CX0 4 T.a__law_read T.d__law_read ["letters"] sp__law_read := by
  refine T.F__law_read.ok sc__law_read (fun vs H Q E h => ?_) (fun cdv A outer s H vs Q E hr h => ?_)
  · obtain ⟨a, rfl, _⟩ := h; rfl
  · obtain ⟨a, rfl, hl, ha, q1, q2⟩ := h
    refine ⟨_, (pss_cons (ps_setLc (i := 1) (own := [("word", 9)]) (g := gName 9) (by rfl) sc__law_read.nd rfl rfl (by rfl) (pi_list (pe_split (pv 0) pe_str)) (blkOk_by (own := [("word", 9)]) (N := ["letters", "words", "weekdays", "weekday", "numbers", "clock", "belts", "date", "due", "word"]) (sc := defScope s__law_read) (by decide +kernel)) (fun _ _ _ _ _ => pg_name (i := 9) sc__law_read.nd rfl (Or.inl rfl)) (fun _ _ _ _ _ => (pts_one (pt_cmpR op_ne (pv 9) pe_str (nomark _)))) (fun _ _ _ _ _ => (pv 9)))
        (pss_cons (ps_set (i := 2) sc__law_read.nd rfl (Or.inl rfl) (pe_lst (pa_cons pe_str (pa_cons pe_str (pa_cons pe_str (pa_cons pe_str (pa_cons pe_str (pa_cons pe_str (pa_cons pe_str pa_nil)))))))))
        (pss_cons (ps_set (i := 3) sc__law_read.nd rfl (Or.inl rfl) (pe_ifExp (PW.pt (pw_and (pt_cmpR (op_neD (by have := hr.units; exact this)) (pv 1) (pe_lst pa_nil) (nomark _)) (pw_and1 (pt_cmpR op_in_seq (pe_lower (pe_ix ix_list (pv 1) pe_int (fun _ _ => rfl))) (pe_op Vz.op_catR (pv 2) (pe_lst (pa_cons pe_str pa_nil))) (by with_unfolding_all rfl))))) (pe_lower (pe_ix ix_list (pv 1) pe_int (fun _ _ => rfl))) pe_str))
        (pss_cons (ps_set (i := 1) sc__law_read.nd rfl (Or.inl rfl) (pe_ifExp (pt_cmpR op_ne (pv 3) pe_str (nomark _)) (pe_slice sl_list (pv 1) (po_some pe_int) po_none) (pv 1)))
        (pss_cons (ps_if (pt_cmpR op_notIn_seq (pe_callB call_len_seq (by rfl) T.z_len PySem.boot_len (pa_cons (pv 1) pa_nil)) (pe_tup (pa_cons pe_int (pa_cons pe_int pa_nil))) (by with_unfolding_all rfl)) (pss_one (ps_ret (pe_tup (pa_cons pe_non (pa_cons pe_bl pa_nil))))) pss_nil)
        (pss_cons (ps_set (i := 4) sc__law_read.nd rfl (Or.inl rfl) (pe_tup (pa_cons (pe_call (ok__law_plain_number T) (hr.mono (by decide)) (by rfl) T.g__law_plain_number T.F__law_plain_number.kp T.b__law_plain_number .nil pass0 (pa_cons (pe_ix ix_list (pv 1) pe_int (fun _ _ => rfl)) pa_nil)) (pa_cons (pe_call (ok__law_month_in T) (hr.mono (by decide)) (by rfl) T.g__law_month_in T.F__law_month_in.kp T.b__law_month_in .nil pass0 (pa_cons (pe_ix ix_list (pv 1) pe_int (fun _ _ => rfl)) pa_nil)) (pa_cons (pe_call (ok__law_plain_number T) (hr.mono (by decide)) (by rfl) T.g__law_plain_number T.F__law_plain_number.kp T.b__law_plain_number .nil pass0 (pa_cons (pe_ix ix_list (pv 1) pe_int (fun _ _ => rfl)) pa_nil)) pa_nil)))))
        (pss_cons (ps_par (i := 5) (j := 6) (by rfl) sc__law_read.nd rfl rfl (by decide) rfl rfl (pa_cons (pe_call (ok__law_clock_in T) (hr.mono (by decide)) (by rfl) T.g__law_clock_in T.F__law_clock_in.kp T.b__law_clock_in .nil pass0 (pa_cons (pe_ix ix_list (pv 1) pe_int (fun _ _ => rfl)) (pa_cons pe_bl pa_nil))) (pa_cons (pe_ifExp (pt_cmpR op_eq (pe_callB call_len_seq (by rfl) T.z_len PySem.boot_len (pa_cons (pv 1) pa_nil)) pe_int (nomark _)) (pe_call (ok__law_zone_in T) (hr.mono (by decide)) (by rfl) T.g__law_zone_in T.F__law_zone_in.kp T.b__law_zone_in .nil pass0 (pa_cons (pe_ix ix_list (pv 1) pe_int (fun _ _ => rfl)) pa_nil)) (pe_lst (pa_cons pe_int pa_nil))) pa_nil)) (by rfl))
        (pss_cons (ps_if (PW.pt (pw_or (pt_cmpR (op_eqD (by have := hr.units; exact this)) (pv 5) (pe_lst pa_nil) (nomark _)) (pw_or1 (pt_cmpR (op_eqD (by have := hr.units; exact this)) (pv 6) (pe_lst pa_nil) (nomark _))))) (pss_one (ps_ret (pe_tup (pa_cons pe_non (pa_cons pe_bl pa_nil))))) pss_nil)
        (pss_cons (ps_set (i := 7) sc__law_read.nd rfl (Or.inl rfl) (pe_op op_catA (pe_op op_catA (pv 4) (pe_tupleOf (by rfl) T.z_tuple (pv 5))) (pe_tup (pa_cons (pe_ix ix_list (pv 6) pe_int (fun _ _ => rfl)) pa_nil))))
        (pss_cons (ps_if (pt_cmpR (op_eqD (by have := hr.units; exact this)) (pe_call (ok__law_moment T) (hr.mono (by decide)) (by rfl) T.g__law_moment T.F__law_moment.kp T.b__law_moment .nil pass0 (pa_cons (pv 7) pa_nil)) (pe_lst pa_nil) (nomark _)) (pss_one (ps_ret (pe_tup (pa_cons pe_non (pa_cons pe_bl pa_nil))))) pss_nil)
        (pss_cons (ps_set (i := 8) sc__law_read.nd rfl (Or.inl rfl) (pe_ifExp (pt_cmpR op_gt (pe_ix ix_tup (pv 7) pe_int (fun _ _ => rfl)) pe_int (nomark _)) pe_str (pe_ix ix_list (pv 2) (pe_op op_sub (pe_op op_sub (pe_ix ix_tup (pv 7) pe_int (fun _ _ => rfl)) pe_int) (pe_op op_mul (pe_op op_fdiv (pe_op op_sub (pe_ix ix_tup (pv 7) pe_int (fun _ _ => rfl)) pe_int) pe_int) pe_int)) (fun _ _ => rfl))))
        (pss_one (ps_ret (pe_tup (pa_cons (pv 7) (pa_cons (pe_cmpR op_notIn_seq (pv 3) (pe_tup (pa_cons pe_str (pa_cons (pv 8) pa_nil))) (by with_unfolding_all rfl)) pa_nil)))))))))))))))), ?_⟩
    obtain ⟨hx, hn⟩ := Tx.split_len (x := a) (y := " ") (by decide +kernel) (by decide +kernel)
    -- words
    refine ⟨_, rfl, ⟨_, rfl⟩, a, " ", rfl, rfl, (by decide +kernel), (by rw [sizeLine_eq]; omega), fun p np => ?_⟩
    have sp := same_new (o := .lst ((Txt.split a " ").map V.str)) np
    refine ⟨p, rfl, ⟨_, SqL.of upd_same⟩, fun D nD => ?_⟩
    have neD : p ≠ D := fun z => by rw [← z, upd_same] at nD; cases nD
    refine lc_list (g := gName 9) (te := tVar 9) (tt := tTest (tOp rNe (tVar 9) (tC (V.str "")))) (xs := (Txt.split a " ").map V.str) (fun i H' => H' D = some (.lst ((((Txt.split a " ").take i).filter nzS).map V.str)) ∧ ∀ b o, b ≠ D → upd H p (.lst ((Txt.split a " ").map V.str)) b = some o → H' b = some o)
      ⟨upd_same, fun b o nb e => by rw [upd_ne nb]; exact e⟩ ?_ ?_ ?_
    · rintro i H' _ ⟨_, k⟩
      exact SqL.of (k p _ neD upd_same)
    · rintro i x H1 hx1 ⟨hD, k⟩
      rw [List.getElem?_map] at hx1
      obtain ⟨y, hy, rfl⟩ := Option.map_eq_some_iff.mp hx1
      have my := List.mem_of_getElem? hy
      refine ⟨rfl, ?_⟩
      refine ⟨_, rfl, rfl, _, rfl, ?_⟩
      rw [nz_ne]
      cases c : nzS y with
      | true =>
        refine ite2 (fun _ => ?_) (fun z => absurd rfl z)
        refine ⟨_, rfl, _, hD, ?_, ?_, ?_⟩
        · rw [List.length_map, sizeLine_eq]
          have := List.length_filter_le nzS ((Txt.split a " ").take i)
          rw [List.length_take] at this
          omega
        · rw [upd_same, List.take_add_one, hy, List.filter_append, List.map_append]
          simp [c]
        · intro b o nb e
          rw [upd_ne nb]
          exact k b o nb e
      | false =>
        refine ite2 (fun z => nomatch z) (fun _ => ?_)
        refine ⟨?_, k⟩
        rw [hD, List.take_add_one, hy, List.filter_append]
        simp [c]
    rintro H1 ⟨hD, k1⟩
    rw [List.length_map, List.take_length] at hD
    have ew : (Txt.split a " ").filter nzS = wordsO a := rfl
    rw [ew] at hD
    have s1 : Same H H1 := fun b o e => by
      have e1 := sp b o e
      exact k1 b o (fun z => by rw [z, nD] at e1; cases e1) e1
    have wn : (wordsO a).length ≤ 101 := by
      have := List.length_filter_le nzS (Txt.split a " ")
      rw [ew] at this
      omega
    have wx : ∀ x ∈ wordsO a, x.length ≤ 100 ∧ asc (tl x) := fun x h => ⟨by
      have := hx x (List.mem_filter.mp h).1
      omega, words_asc ha x h⟩
    unfold llV llW at q1 q2
    generalize wordsO a = ws at *
    -- weekdays
    refine ⟨(by show 7 ≤ sizeLine; decide), fun p2 n2 => ?_⟩
    have s2 := same_new (o := .lst [.str "ar", .str "be", .str "co", .str "da", .str "ev", .str "fo", .str "gi"]) n2
    have g2 := upd_same (H := H1) (a := p2) (o := .lst [.str "ar", .str "be", .str "co", .str "da", .str "ev", .str "fo", .str "gi"])
    have hD2 := s2 _ _ hD
    have sH2 := s1.trans s2
    generalize upd H1 p2 (.lst [.str "ar", .str "be", .str "co", .str "da", .str "ev", .str "fo", .str "gi"]) = H2 at *
    dsimp only [gName]
    -- weekday
    refine asg_any (fun Hx v => Same H2 Hx ∧ v = .str (lwd ws)) (fun R r => ?_) (fun H3 v3 k3 => ?_)
    · refine ⟨_, rfl, (by show 0 ≤ sizeLine; decide), fun p4 n4 => ?_⟩
      have s4 := same_new (o := .lst []) n4
      refine neNilS ws (fun x h => (wx x h).2) (s4 _ _ hD2) upd_same ⟨_, rfl, ?_⟩
      cases ws with
      | nil =>
        refine ite2 (fun z => absurd z (by decide)) (fun _ => ?_)
        exact r _ _ ⟨s4, rfl⟩
      | cons w0 t0 =>
        obtain ⟨w1, w2⟩ := wx w0 (by simp)
        refine ite2 (fun _ => ?_) (fun z => absurd (by rfl) z)
        refine ⟨_, rfl, D, (w0 :: t0).map V.str, 0, .str w0, rfl, rfl, SqL.of (s4 _ _ hD2), at0 _ _, ⟨_, rfl⟩, w0, rfl, rfl, by omega, ?_⟩
        refine ⟨_, rfl, (by show 1 ≤ sizeLine; decide), fun p5 n5 => ?_⟩
        have s5 := same_new (o := .lst [.str "rest"]) n5
        refine ⟨p2, p5, _, _, rfl, rfl, SqL.of (s5 _ _ (s4 _ _ g2)), SqL.of upd_same, (by show 7 + 1 ≤ sizeLine; decide), fun p6 n6 => ?_⟩
        have s6 := same_new (o := .lst ([V.str "ar", .str "be", .str "co", .str "da", .str "ev", .str "fo", .str "gi"] ++ [.str "rest"])) n6
        refine ⟨p6, [V.str "ar", .str "be", .str "co", .str "da", .str "ev", .str "fo", .str "gi", .str "rest"], rfl, .inl (SqL.of upd_same), rfl, (by decide +kernel), _, rfl, ?_⟩
        have ei : (if false = true then !inV (.str (Txt.lower w0)) [V.str "ar", .str "be", .str "co", .str "da", .str "ev", .str "fo", .str "gi", .str "rest"] else inV (.str (Txt.lower w0)) [V.str "ar", .str "be", .str "co", .str "da", .str "ev", .str "fo", .str "gi", .str "rest"]) = isWd (Txt.lower w0) := by
          rw [if_neg (by decide)]
          unfold isWd
          rw [wds_is]; rfl
        rw [ei]
        have sA := (s4.trans s5).trans s6
        have el : lwd (w0 :: t0) = if isWd (Txt.lower w0) = true then Txt.lower w0 else "" := rfl
        cases c : isWd (Txt.lower w0) with
        | true =>
          refine ite2 (fun _ => ?_) (fun z => absurd rfl z)
          refine ⟨_, rfl, D, (w0 :: t0).map V.str, 0, .str w0, rfl, rfl, SqL.of (sA _ _ hD2), at0 _ _, ⟨_, rfl⟩, w0, rfl, rfl, by omega, ?_⟩
          exact r _ _ ⟨sA, by rw [el, if_pos c]⟩
        | false =>
          refine ite2 (fun z => nomatch z) (fun _ => ?_)
          exact r _ _ ⟨sA, by rw [el, if_neg (by rw [c]; decide)]⟩
    obtain ⟨s3, rfl⟩ := k3
    -- the words behind it
    refine asg_any (fun Hx v => ∃ p4, v = .ref p4 ∧ Same H3 Hx ∧ Hx p4 = some (.lst ((lrest ws).map V.str))) (fun R r => ?_) (fun H4 v4 k4 => ?_)
    · refine ⟨_, rfl, rfl, _, rfl, ?_⟩
      refine ite2 (fun c => ?_) (fun c => ?_)
      · have nw : ¬ lwd ws = "" := fun z => by rw [z, decide_eq_true rfl] at c; cases c
        have er : lrest ws = ws.tail := by unfold lrest; rw [if_neg nw]
        refine ⟨_, rfl, 1, rfl, ?_⟩
        dsimp only [tNoPart]
        refine ⟨D, _, rfl, SqL.of (s3 _ _ hD2), fun p4 n4 => r _ _ ⟨p4, rfl, same_new n4, ?_⟩⟩
        rw [upd_same, er]
        cases ws with
        | nil => exact absurd rfl nw
        | cons w0 t0 =>
          rw [cut_back (by omega) (by simp only [List.length_map, List.length_cons]; omega)]; rfl
      · have nw : lwd ws = "" := by
          by_cases z : lwd ws = ""
          · exact z
          · exact absurd (by rw [decide_eq_false (fun x => z (V.str.inj x))]; rfl) c
        have er : lrest ws = ws := by unfold lrest; rw [if_pos nw]
        exact ⟨_, rfl, r _ _ ⟨D, rfl, Same.refl _, by rw [er]; exact s3 _ _ hD2⟩⟩
    obtain ⟨p4, rfl, s4, h4⟩ := k4
    have sH4 := (sH2.trans s3).trans s4
    have g4 := s4 _ _ (s3 _ _ g2)
    have rx : ∀ x ∈ lrest ws, x.length ≤ 100 ∧ asc (tl x) := fun x h => by
      unfold lrest at h
      split at h
      · exact wx x h
      · exact wx x (List.mem_of_mem_tail h)
    generalize lrest ws = rs at *
    generalize lwd ws = wd at *
    have hrl : (rs.map V.str).length = rs.length := List.length_map ..
    refine ⟨_, rfl, p4, _, rfl, .inl (SqL.of h4), (by show 2 ≤ sizeLine; decide), fun p5 n5 => ?_⟩
    have s5 := same_new (o := .tup [V.int 4, .int 5]) n5
    refine ⟨p5, [.int 4, .int 5], rfl, .inr (SqT.of upd_same), rfl, rfl, _, rfl, ?_⟩
    rw [if_pos rfl, len_in, hrl]
    have sH5 := sH4.trans s5
    have none_ret : ∀ H6, Same H H6 → (∀ (z : Option (List Int × Bool)), True) → ∀ p6, H6 p6 = none → q1 = q1 → True := fun _ _ _ _ _ _ => trivial
    by_cases hlen : rs.length = 4 ∨ rs.length = 5
    · rw [decide_eq_true hlen]
      refine ite2 (fun z => nomatch z) (fun _ => ?_)
      match rs, hlen, h4, rx, q1, q2 with
      | [d, m, y, t], _, h4, rx, q1, q2 =>
        obtain ⟨ld, ad⟩ := rx d (by simp)
        obtain ⟨lm, am⟩ := rx m (by simp)
        obtain ⟨ly, ay⟩ := rx y (by simp)
        obtain ⟨lt, at'⟩ := rx t (by simp)
        have h5 := s5 _ _ h4
        -- numbers
        refine ⟨_, rfl, p4, _, 2, .str y, rfl, rfl, SqL.of h5, rfl, y, rfl, by omega, ay, fun H6 s6 => ?_⟩
        refine ⟨_, rfl, p4, _, 1, .str m, rfl, rfl, SqL.of (s6 _ _ h5), rfl, m, rfl, by omega, fun H7 s7 => ?_⟩
        refine ⟨_, rfl, p4, _, 0, .str d, rfl, rfl, SqL.of (s7 _ _ (s6 _ _ h5)), rfl, d, rfl, by omega, ad, fun H8 s8 => ⟨(by show 3 ≤ sizeLine; decide), fun p9 n9 => ?_⟩⟩
        have s9 := same_new (o := .tup [.int (lplain y), .int (lmonth m), .int (lplain d)]) n9
        have h9 := s9 _ _ (s8 _ _ (s7 _ _ (s6 _ _ h5)))
        have g9 := upd_same (H := H8) (a := p9) (o := .tup [.int (lplain y), .int (lmonth m), .int (lplain d)])
        have sH9 := (((sH5.trans s6).trans s7).trans s8).trans s9
        have w9 := s9 _ _ (s8 _ _ (s7 _ _ (s6 _ _ (s5 _ _ g4))))
        generalize upd H8 p9 (.tup [.int (lplain y), .int (lmonth m), .int (lplain d)]) = H9 at *
        -- clock
        refine ⟨_, rfl, p4, _, 3, .str t, rfl, rfl, SqL.of h9, rfl, t, true, rfl, by omega, at', fun H10 r10 s10 h10 => ?_⟩
        have h10 : H10 r10 = some (.lst ((lclock t true).map V.int)) := h10
        refine ⟨_, rfl, p4, _, rfl, .inl (SqL.of (s10 _ _ h9)), rfl, _, rfl, ?_⟩
        refine ite2 (fun c => absurd (of_decide_eq_true c) (fun z => by have := V.int.inj z; simp at this)) (fun _ => ?_)
        refine ⟨(by show 1 ≤ sizeLine; decide), fun r11 n11 => ?_⟩
        have s11 := same_new (o := .lst [.int 0]) n11
        have h11 : (upd H10 r11 (.lst [.int 0])) r11 = some (.lst (([0] : List Int).map V.int)) := upd_same
        generalize upd H10 r11 (.lst [.int 0]) = H11 at *
        refine ⟨_, _, rfl, ?_⟩
        have sH11 := (sH9.trans s10).trans s11
        refine ⟨_, rfl, (by show 0 ≤ sizeLine; decide), fun p12 n12 => ?_⟩
        have s12 := same_new (o := .lst []) n12
        have noneR : ∀ (H6 : Hp), Same H H6 → lfin wd d m y t ([0] : List Int) = none → ∀ p6, H6 p6 = none → Q (.ref p6) (upd H6 p6 (.tup [.non, .bl false])) := fun H6 s6 e p6 n6 => q1 e _ p6 (s6.trans (same_new n6)) upd_same
        refine eqNil _ (s12 _ _ (s11 _ _ h10)) upd_same ⟨_, rfl, ?_⟩
        refine ite2 (fun k => ⟨(by show 2 ≤ sizeLine; decide), noneR _ (sH11.trans s12) (by unfold lfin; rw [if_pos (.inl (of_decide_eq_true k))])⟩) (fun k1 => ?_)
        refine ⟨_, rfl, (by show 0 ≤ sizeLine; decide), fun p13 n13 => ?_⟩
        have s13 := same_new (o := .lst []) n13
        refine eqNil _ (s13 _ _ (s12 _ _ h11)) upd_same ⟨_, rfl, ?_⟩
        refine ite2 (fun k => ⟨(by show 2 ≤ sizeLine; decide), noneR _ ((sH11.trans s12).trans s13) (by unfold lfin; rw [if_pos (.inr (of_decide_eq_true k))])⟩) (fun k2 => ?_)
        have nn : ¬ (lclock t true = [] ∨ ([0] : List Int) = []) := by
          rintro (x | x)
          · exact k1 (decide_eq_true x)
          · exact k2 (decide_eq_true x)
        obtain ⟨b0, br, eb⟩ : ∃ b0 br, ([0] : List Int) = b0 :: br := by
          cases e : (([0] : List Int) : List Int) with
          | nil => exact absurd (.inr e) nn
          | cons b0 br => exact ⟨b0, br, rfl⟩
        obtain ⟨hh, mi, ss, ec, _⟩ := time_B at' (fun x => nn (.inl x))
        have sH13 := (sH11.trans s12).trans s13
        -- date
        dsimp only [tNext]
        refine ⟨_, rfl, _, rfl, .inl ⟨r10, _, rfl, SqL.of (s13 _ _ (s12 _ _ (s11 _ _ h10))), fun r14 n14 => ?_⟩⟩
        have s14 := same_new (o := .tup ((lclock t true).map V.int)) n14
        refine cat_to (s14 _ _ (s13 _ _ (s12 _ _ (s11 _ _ (s10 _ _ g9))))) upd_same (by rw [ec]; show 3 + 3 ≤ 1000; decide) fun r15 H15 s15 h15 => ?_
        refine ⟨_, rfl, r11, _, 0, .int b0, rfl, rfl, SqL.of (s15 _ _ (s14 _ _ (s13 _ _ (s12 _ _ h11)))), (by rw [eb]; exact at0 _ _), (by show 1 ≤ sizeLine; decide), fun p16 n16 => ?_⟩
        have s16 := same_new (o := .tup [.int b0]) n16
        refine cat_to (s16 _ _ h15) upd_same (by rw [ec]; show 6 + 1 ≤ 1000; decide) fun r17 H17 s17 h17 => ?_
        have sH17 := (((sH13.trans s14).trans s15).trans s16).trans s17
        have ed : ldateW d m y t ([0] : List Int) = [lplain y, lmonth m, lplain d, hh, mi, ss, b0] := by
          unfold ldateW; rw [ec, eb]; rfl
        have h17 : H17 r17 = some (.tup ((ldateW d m y t ([0] : List Int)).map V.int)) := by rw [h17, ed, ec]; rfl
        have w17 := s17 _ _ (s16 _ _ (s15 _ _ (s14 _ _ (s13 _ _ (s12 _ _ (s11 _ _ (s10 _ _ w9)))))))
        have lr : lfin wd d m y t ([0] : List Int) = if isDateL ((ldateW d m y t ([0] : List Int)).map V.int) = true then some (ldateW d m y t ([0] : List Int), !decide (wd = "" ∨ wd = Txt.lower (wdT (lplain d)))) else none := by unfold lfin; rw [if_neg nn]
        -- moment
        refine ⟨_, rfl, ?_⟩
        dsimp only [tNil]
        refine ⟨0, .ref r17, _, rfl, .tup h17, fun a' xs e hb x hm => ?_, fun H18 r18 s18 n18 h18 => ?_⟩
        · cases e
          rw [h17] at hb
          cases hb
          exact ints_thg (ldateW d m y t ([0] : List Int)) x hm
        · have em : momV H17 (.ref r17) = momL ((ldateW d m y t ([0] : List Int)).map V.int) := by unfold momV; simp only [h17]
          rw [em] at h18
          refine ⟨(by show 0 ≤ sizeLine; decide), fun p19 n19 => ?_⟩
          have s19 := same_new (o := .lst []) n19
          have sH19 := (sH17.trans s18).trans s19
          cases isd : isDateL ((ldateW d m y t ([0] : List Int)).map V.int) with
          | false =>
            rw [momL_not isd] at h18
            refine eqNil [] (s19 _ _ h18) upd_same ⟨_, rfl, ?_⟩
            refine ite2 (fun _ => ?_) (fun z => absurd (by rfl) z)
            refine ⟨(by show 2 ≤ sizeLine; decide), noneR _ sH19 (by rw [lr, if_neg (by rw [isd]; decide)])⟩
          | true =>
            obtain ⟨mm, hmm⟩ := momL_some isd
            rw [hmm] at h18
            refine eqNil [mm] (s19 _ _ h18) upd_same ⟨_, rfl, ?_⟩
            refine ite2 (fun z => absurd z (by simp)) (fun _ => ?_)
            have h19 := s19 _ _ (s18 _ _ h17)
            have w19 := s19 _ _ (s18 _ _ w17)
            have isd' : Ma.isDate (lplain y) (lmonth m) (lplain d) hh mi ss b0 = true := by rw [ed] at isd; exact isd
            have d1 : 1 ≤ lplain d := (date_bounds isd').2.2.1.1
            rw [ed] at h19
            -- due
            dsimp only [tNext]
            refine asg_to (.str (Txt.lower (wdT (lplain d)))) (decide (lplain d > 28)) (fun R r => ?_) (fun cl R r => ?_) (fun cl R r => ?_) ?_
            · exact ⟨_, rfl, r17, _, 2, .int (lplain d), rfl, rfl, SqT.of h19, rfl, _, _, rfl, rfl, _, rfl, r⟩
            · rw [due_rest (by have : lplain d > 28 := of_decide_eq_true cl; omega)] at r
              exact r
            · have d28 : lplain d ≤ 28 := by have := of_decide_eq_false cl; omega
              refine ⟨_, rfl, _, rfl, r17, _, 2, .int (lplain d), rfl, rfl, SqT.of h19, rfl, _, _, rfl, rfl, _, rfl, r17, _, 2, .int (lplain d), rfl, rfl, SqT.of h19, rfl, _, _, rfl, rfl, _, _, rfl, rfl, ⟨by decide, by decide⟩, _, _, rfl, rfl, .inr ⟨by decide, by decide⟩, _, _, rfl, rfl, p2, _, _, _, rfl, rfl, SqL.of w19, due_at d1 d28, r⟩
            refine ⟨_, rfl, _, rfl, _, rfl, (by show 2 ≤ sizeLine; decide), fun p20 n20 => ?_⟩
            have s20 := same_new (o := .tup [.str "", .str (Txt.lower (wdT (lplain d)))]) n20
            refine ⟨p20, [.str "", .str (Txt.lower (wdT (lplain d)))], rfl, .inr (SqT.of upd_same), rfl, rfl, ?_⟩
            rw [if_pos rfl, show inV (.str wd) [.str "", .str (Txt.lower (wdT (lplain d)))] = decide (wd = "" ∨ wd = Txt.lower (wdT (lplain d))) from two_eq _ _ _]
            refine ⟨(by show 2 ≤ sizeLine; decide), fun p21 n21 => ?_⟩
            refine q2 _ _ (by show lfin wd d m y t ([0] : List Int) = _; rw [lr, if_pos isd]) _ r17 p21 ((sH19.trans s20).trans (same_new n21)) (same_new n21 _ _ (s20 _ _ ?_)) upd_same
            rw [h19, ed]
      | [d, m, y, t, z], _, h4, rx, q1, q2 =>
        obtain ⟨ld, ad⟩ := rx d (by simp)
        obtain ⟨lm, am⟩ := rx m (by simp)
        obtain ⟨ly, ay⟩ := rx y (by simp)
        obtain ⟨lt, at'⟩ := rx t (by simp)
        obtain ⟨lz, az⟩ := rx z (by simp)
        have h5 := s5 _ _ h4
        -- numbers
        refine ⟨_, rfl, p4, _, 2, .str y, rfl, rfl, SqL.of h5, rfl, y, rfl, by omega, ay, fun H6 s6 => ?_⟩
        refine ⟨_, rfl, p4, _, 1, .str m, rfl, rfl, SqL.of (s6 _ _ h5), rfl, m, rfl, by omega, fun H7 s7 => ?_⟩
        refine ⟨_, rfl, p4, _, 0, .str d, rfl, rfl, SqL.of (s7 _ _ (s6 _ _ h5)), rfl, d, rfl, by omega, ad, fun H8 s8 => ⟨(by show 3 ≤ sizeLine; decide), fun p9 n9 => ?_⟩⟩
        have s9 := same_new (o := .tup [.int (lplain y), .int (lmonth m), .int (lplain d)]) n9
        have h9 := s9 _ _ (s8 _ _ (s7 _ _ (s6 _ _ h5)))
        have g9 := upd_same (H := H8) (a := p9) (o := .tup [.int (lplain y), .int (lmonth m), .int (lplain d)])
        have sH9 := (((sH5.trans s6).trans s7).trans s8).trans s9
        have w9 := s9 _ _ (s8 _ _ (s7 _ _ (s6 _ _ (s5 _ _ g4))))
        generalize upd H8 p9 (.tup [.int (lplain y), .int (lmonth m), .int (lplain d)]) = H9 at *
        -- clock
        refine ⟨_, rfl, p4, _, 3, .str t, rfl, rfl, SqL.of h9, rfl, t, true, rfl, by omega, at', fun H10 r10 s10 h10 => ?_⟩
        have h10 : H10 r10 = some (.lst ((lclock t true).map V.int)) := h10
        refine ⟨_, rfl, p4, _, rfl, .inl (SqL.of (s10 _ _ h9)), rfl, _, rfl, ?_⟩
        refine ite2 (fun _ => ?_) (fun c => absurd (by rfl) c)
        refine ⟨_, rfl, p4, _, 4, .str z, rfl, rfl, SqL.of (s10 _ _ h9), rfl, z, rfl, by omega, az, fun H11 r11 s11 h11 => ?_⟩
        refine ⟨_, _, rfl, ?_⟩
        have sH11 := (sH9.trans s10).trans s11
        refine ⟨_, rfl, (by show 0 ≤ sizeLine; decide), fun p12 n12 => ?_⟩
        have s12 := same_new (o := .lst []) n12
        have noneR : ∀ (H6 : Hp), Same H H6 → lfin wd d m y t (lzone z) = none → ∀ p6, H6 p6 = none → Q (.ref p6) (upd H6 p6 (.tup [.non, .bl false])) := fun H6 s6 e p6 n6 => q1 e _ p6 (s6.trans (same_new n6)) upd_same
        refine eqNil _ (s12 _ _ (s11 _ _ h10)) upd_same ⟨_, rfl, ?_⟩
        refine ite2 (fun k => ⟨(by show 2 ≤ sizeLine; decide), noneR _ (sH11.trans s12) (by unfold lfin; rw [if_pos (.inl (of_decide_eq_true k))])⟩) (fun k1 => ?_)
        refine ⟨_, rfl, (by show 0 ≤ sizeLine; decide), fun p13 n13 => ?_⟩
        have s13 := same_new (o := .lst []) n13
        refine eqNil _ (s13 _ _ (s12 _ _ h11)) upd_same ⟨_, rfl, ?_⟩
        refine ite2 (fun k => ⟨(by show 2 ≤ sizeLine; decide), noneR _ ((sH11.trans s12).trans s13) (by unfold lfin; rw [if_pos (.inr (of_decide_eq_true k))])⟩) (fun k2 => ?_)
        have nn : ¬ (lclock t true = [] ∨ (lzone z) = []) := by
          rintro (x | x)
          · exact k1 (decide_eq_true x)
          · exact k2 (decide_eq_true x)
        obtain ⟨b0, br, eb⟩ : ∃ b0 br, (lzone z) = b0 :: br := by
          cases e : ((lzone z) : List Int) with
          | nil => exact absurd (.inr e) nn
          | cons b0 br => exact ⟨b0, br, rfl⟩
        obtain ⟨hh, mi, ss, ec, _⟩ := time_B at' (fun x => nn (.inl x))
        have sH13 := (sH11.trans s12).trans s13
        -- date
        dsimp only [tNext]
        refine ⟨_, rfl, _, rfl, .inl ⟨r10, _, rfl, SqL.of (s13 _ _ (s12 _ _ (s11 _ _ h10))), fun r14 n14 => ?_⟩⟩
        have s14 := same_new (o := .tup ((lclock t true).map V.int)) n14
        refine cat_to (s14 _ _ (s13 _ _ (s12 _ _ (s11 _ _ (s10 _ _ g9))))) upd_same (by rw [ec]; show 3 + 3 ≤ 1000; decide) fun r15 H15 s15 h15 => ?_
        refine ⟨_, rfl, r11, _, 0, .int b0, rfl, rfl, SqL.of (s15 _ _ (s14 _ _ (s13 _ _ (s12 _ _ h11)))), (by rw [eb]; exact at0 _ _), (by show 1 ≤ sizeLine; decide), fun p16 n16 => ?_⟩
        have s16 := same_new (o := .tup [.int b0]) n16
        refine cat_to (s16 _ _ h15) upd_same (by rw [ec]; show 6 + 1 ≤ 1000; decide) fun r17 H17 s17 h17 => ?_
        have sH17 := (((sH13.trans s14).trans s15).trans s16).trans s17
        have ed : ldateW d m y t (lzone z) = [lplain y, lmonth m, lplain d, hh, mi, ss, b0] := by
          unfold ldateW; rw [ec, eb]; rfl
        have h17 : H17 r17 = some (.tup ((ldateW d m y t (lzone z)).map V.int)) := by rw [h17, ed, ec]; rfl
        have w17 := s17 _ _ (s16 _ _ (s15 _ _ (s14 _ _ (s13 _ _ (s12 _ _ (s11 _ _ (s10 _ _ w9)))))))
        have lr : lfin wd d m y t (lzone z) = if isDateL ((ldateW d m y t (lzone z)).map V.int) = true then some (ldateW d m y t (lzone z), !decide (wd = "" ∨ wd = Txt.lower (wdT (lplain d)))) else none := by unfold lfin; rw [if_neg nn]
        -- moment
        refine ⟨_, rfl, ?_⟩
        dsimp only [tNil]
        refine ⟨0, .ref r17, _, rfl, .tup h17, fun a' xs e hb x hm => ?_, fun H18 r18 s18 n18 h18 => ?_⟩
        · cases e
          rw [h17] at hb
          cases hb
          exact ints_thg (ldateW d m y t (lzone z)) x hm
        · have em : momV H17 (.ref r17) = momL ((ldateW d m y t (lzone z)).map V.int) := by unfold momV; simp only [h17]
          rw [em] at h18
          refine ⟨(by show 0 ≤ sizeLine; decide), fun p19 n19 => ?_⟩
          have s19 := same_new (o := .lst []) n19
          have sH19 := (sH17.trans s18).trans s19
          cases isd : isDateL ((ldateW d m y t (lzone z)).map V.int) with
          | false =>
            rw [momL_not isd] at h18
            refine eqNil [] (s19 _ _ h18) upd_same ⟨_, rfl, ?_⟩
            refine ite2 (fun _ => ?_) (fun z => absurd (by rfl) z)
            refine ⟨(by show 2 ≤ sizeLine; decide), noneR _ sH19 (by rw [lr, if_neg (by rw [isd]; decide)])⟩
          | true =>
            obtain ⟨mm, hmm⟩ := momL_some isd
            rw [hmm] at h18
            refine eqNil [mm] (s19 _ _ h18) upd_same ⟨_, rfl, ?_⟩
            refine ite2 (fun z => absurd z (by simp)) (fun _ => ?_)
            have h19 := s19 _ _ (s18 _ _ h17)
            have w19 := s19 _ _ (s18 _ _ w17)
            have isd' : Ma.isDate (lplain y) (lmonth m) (lplain d) hh mi ss b0 = true := by rw [ed] at isd; exact isd
            have d1 : 1 ≤ lplain d := (date_bounds isd').2.2.1.1
            rw [ed] at h19
            -- due
            dsimp only [tNext]
            refine asg_to (.str (Txt.lower (wdT (lplain d)))) (decide (lplain d > 28)) (fun R r => ?_) (fun cl R r => ?_) (fun cl R r => ?_) ?_
            · exact ⟨_, rfl, r17, _, 2, .int (lplain d), rfl, rfl, SqT.of h19, rfl, _, _, rfl, rfl, _, rfl, r⟩
            · rw [due_rest (by have : lplain d > 28 := of_decide_eq_true cl; omega)] at r
              exact r
            · have d28 : lplain d ≤ 28 := by have := of_decide_eq_false cl; omega
              refine ⟨_, rfl, _, rfl, r17, _, 2, .int (lplain d), rfl, rfl, SqT.of h19, rfl, _, _, rfl, rfl, _, rfl, r17, _, 2, .int (lplain d), rfl, rfl, SqT.of h19, rfl, _, _, rfl, rfl, _, _, rfl, rfl, ⟨by decide, by decide⟩, _, _, rfl, rfl, .inr ⟨by decide, by decide⟩, _, _, rfl, rfl, p2, _, _, _, rfl, rfl, SqL.of w19, due_at d1 d28, r⟩
            refine ⟨_, rfl, _, rfl, _, rfl, (by show 2 ≤ sizeLine; decide), fun p20 n20 => ?_⟩
            have s20 := same_new (o := .tup [.str "", .str (Txt.lower (wdT (lplain d)))]) n20
            refine ⟨p20, [.str "", .str (Txt.lower (wdT (lplain d)))], rfl, .inr (SqT.of upd_same), rfl, rfl, ?_⟩
            rw [if_pos rfl, show inV (.str wd) [.str "", .str (Txt.lower (wdT (lplain d)))] = decide (wd = "" ∨ wd = Txt.lower (wdT (lplain d))) from two_eq _ _ _]
            refine ⟨(by show 2 ≤ sizeLine; decide), fun p21 n21 => ?_⟩
            refine q2 _ _ (by show lfin wd d m y t (lzone z) = _; rw [lr, if_pos isd]) _ r17 p21 ((sH19.trans s20).trans (same_new n21)) (same_new n21 _ _ (s20 _ _ ?_)) upd_same
            rw [h19, ed]
    · rw [decide_eq_false hlen]
      refine ite2 (fun _ => ?_) (fun z => absurd rfl z)
      refine ⟨(by show 2 ≤ sizeLine; decide), fun p6 n6 => ?_⟩
      refine q1 ?_ _ p6 (sH5.trans (same_new n6)) upd_same
      match rs, hlen with
      | [], _ => rfl
      | [_], _ => rfl
      | [_, _], _ => rfl
      | [_, _, _], _ => rfl
      | [_, _, _, _], h => exact absurd (.inl rfl) h
      | [_, _, _, _, _], h => exact absurd (.inr rfl) h
      | _ :: _ :: _ :: _ :: _ :: _ :: _, _ => rfl
end
end Toy
set_option Elab.async false
set_option linter.all false
set_option maxRecDepth 100000
set_option maxHeartbeats 8000000
namespace Toy
open PySem PySem.Spec PyProof.Rows L2 Tx TL
theorem str_size {a b : Str} {m n : Nat} (ha : a.length ≤ m) (hb : b.length ≤ n) (h : m + n ≤ 1000) : a.length + b.length ≤ sizeLine := by rw [sizeLine_eq]; omega
theorem one_ch {c : Nat} (h : c < 128) : (⟨#[c]⟩ : Str).length = 1 ∧ asc (tl ⟨#[c]⟩) := ⟨rfl, fun x hx => by
  have : x = c := by simpa [tl] using hx
  rw [this]; exact h⟩
theorem Good.dictNe {H : Hp} {d p : Addr} {n : Int} (D : Draw H d n) (h : H p = none) : p ≠ d := by
  obtain ⟨kvs, hd⟩ := D.dic
  exact (ne_of_none hd h).symm
theorem cut_pos (a : Str) {k : Int} (h0 : 0 ≤ k) : (cutS a none (some k)).length = min k.toNat a.length ∧ (cutS a (some k) none).length = a.length - min k.toNat a.length := by
  obtain ⟨m, rfl⟩ : ∃ m : Nat, k = (m : Int) := ⟨k.toNat, by omega⟩
  rw [Int.toNat_natCast]
  have e1 : HT.sIx a.length a.length (some (m : Int)) = min m a.length := HT.sIx_nat a.length a.length m
  have e2 : HT.sIx a.length 0 (some (m : Int)) = min m a.length := HT.sIx_nat a.length 0 m
  have la := len_tl a
  constructor
  · rw [len_tl]
    show (((tl a).drop (HT.sIx a.length 0 none)).take (HT.sIx a.length a.length (some (m : Int)) - HT.sIx a.length 0 none)).length = _
    rw [HT.sIx_none, e1, List.drop_zero, List.length_take]; omega
  · rw [len_tl]
    show (((tl a).drop (HT.sIx a.length 0 (some (m : Int)))).take (HT.sIx a.length a.length none - HT.sIx a.length 0 (some (m : Int)))).length = _
    rw [HT.sIx_none, e2, List.length_take, List.length_drop]; omega
theorem cut_two (a : Str) {k : Int} (h0 : 0 ≤ k) (h1 : k ≤ a.length) : (cutS a none (some k)).length + (cutS a (some k) none).length = a.length := by
  obtain ⟨x, y⟩ := cut_pos a h0
  rw [x, y]; omega
theorem cut_next (a : Str) {k : Int} (h0 : 0 ≤ k) (h1 : k ≤ a.length) : (cutS a (some (k + 1)) none).length ≤ (cutS a (some k) none).length := by
  obtain ⟨x, y⟩ := cut_pos a h0
  obtain ⟨x', y'⟩ := cut_pos a (show 0 ≤ k + 1 by omega)
  rw [y, y']; omega
def okS (x : Str) : Prop := x.length ≤ 8 ∧ asc (tl x)
theorem num_len2 {n : Int} (h0 : 0 ≤ n) {k : Nat} (hk : 0 < k) (h : n.toNat < 10 ^ k) : (num n).length ≤ k := by
  rw [len_tl, num_tl h0]
  exact numL_len hk h
theorem long_okB {y mo d h mi s z : Int} (isd : Bd y mo d h mi s z) : ∀ p ∈ longP y mo d h mi s z, okW p = true := by
  obtain ⟨⟨y0, y1⟩, ⟨mo0, mo1⟩, ⟨d0, d1⟩, ⟨h0, h1⟩, ⟨i0, i1⟩, ⟨s0, s1⟩, ⟨z0, z1⟩⟩ := isd
  intro p hp
  unfold longP at hp
  simp only [List.mem_cons, List.not_mem_nil, or_false] at hp
  rcases hp with rfl | rfl | rfl | rfl | rfl | rfl
  · exact okW_wd _ (wd_mem d0)
  · exact okW_plain (num_plain (by omega)) (num_pos (by omega))
  · exact okW_mon _ (mon_mem mo0 mo1)
  · exact okW_plain (num_plain (by omega)) (num_pos (by omega))
  · exact okW_plain (time_plain h0 (by omega) i0 (by omega) s0 (by omega)) (by rw [len_time h0 (by omega) i0 (by omega) s0 (by omega)]; decide)
  · exact zone_ok z0 z1
theorem longP_ok {y mo d h mi s z : Int} (isd : Bd y mo d h mi s z) : ∀ x ∈ longP y mo d h mi s z, okS x := by
  have ok := long_okB isd
  obtain ⟨⟨y0, y1⟩, ⟨mo0, mo1⟩, ⟨d0, d1⟩, ⟨h0, h1⟩, ⟨i0, i1⟩, ⟨s0, s1⟩, ⟨z0, z1⟩⟩ := isd
  intro x hx
  refine ⟨?_, (okW_use (ok x hx)).1⟩
  unfold longP at hx
  simp only [List.mem_cons, List.not_mem_nil, or_false] at hx
  rcases hx with rfl | rfl | rfl | rfl | rfl | rfl
  · have := len_wd d; omega
  · have := num_len2 (n := d) (by omega) (k := 2) (by decide) (by omega); omega
  · have := len_mon mo; omega
  · have := num_len2 (n := y) (by omega) (k := 4) (by decide) (by omega); omega
  · have := len_time (h := h) (mi := mi) (s := s) h0 (by omega) i0 (by omega) s0 (by omega); omega
  · have := len_zone (z := z) (by omega) (by omega); omega
theorem long_split {y mo d h mi s z : Int} (isd : Bd y mo d h mi s z) : Txt.split (longT y mo d h mi s z) " " = longP y mo d h mi s z := by
  have ok := long_okB isd
  have e : longT y mo d h mi s z = Str.join " " (longP y mo d h mi s z) := rfl
  have f32 : ∀ x : Str, asc (tl x) → 32 ∉ tl (Txt.lower x) → 32 ∉ tl x := by
    intro x hx h hc
    refine h ?_
    rw [low_tl hx]
    exact List.mem_map.mpr ⟨32, hc, rfl⟩
  rw [e, ← join_eq, split_join tl_space (by decide +kernel) (by simp [longP]) (fun p hp => f32 p (okW_use (ok p hp)).1 (okW_use (ok p hp)).2.2.1)]
theorem long_size {y mo d h mi s z : Int} (isd : Bd y mo d h mi s z) : (longT y mo d h mi s z).length ≤ 1000 := by
  obtain ⟨⟨y0, y1⟩, ⟨mo0, mo1⟩, ⟨d0, d1⟩, ⟨h0, h1⟩, ⟨i0, i1⟩, ⟨s0, s1⟩, ⟨z0, z1⟩⟩ := isd
  have e : longT y mo d h mi s z = wdT d ++ " " ++ (num d ++ " " ++ (monT mo ++ " " ++ (num y ++ " " ++ (timeT h mi s ++ " " ++ zoneT z)))) := rfl
  rw [e]
  simp only [strLen_append]
  have a1 := len_wd d
  have a2 := len_num (i := d) (by omega) (by omega)
  have a3 := len_mon mo
  have a4 := len_num (i := y) (by omega) (by omega)
  have a5 := len_time (h := h) (mi := mi) (s := s) h0 (by omega) i0 (by omega) s0 (by omega)
  have a6 := len_zone (z := z) (by omega) (by omega)
  have a7 : (" " : Str).length = 1 := by decide +kernel
  omega
theorem okS_cut {x : Str} {lo hi : Option Int} (h : okS x) : okS (cutS x lo hi) := ⟨Nat.le_trans (cutS_length x lo hi) h.1, asc_cut h.2⟩
theorem join_okS {g : Str} (hg : g.length ≤ 3 ∧ asc (tl g)) : ∀ {ws : List Str}, (∀ x ∈ ws, okS x) → (Str.join g ws).length ≤ 11 * ws.length ∧ asc (tl (Str.join g ws))
  | [], _ => ⟨Nat.zero_le _, fun c hc => nomatch hc⟩
  | [x], h => ⟨by have := (h x (by simp)).1; show x.length ≤ 11; omega, (h x (by simp)).2⟩
  | x :: y :: r, h => by
    obtain ⟨a, b⟩ := join_okS hg (ws := y :: r) fun z hz => h z (List.mem_cons_of_mem _ hz)
    obtain ⟨c, e⟩ := h x (by simp)
    have ej : Str.join g (x :: y :: r) = x ++ g ++ Str.join g (y :: r) := rfl
    rw [ej]
    constructor
    · rw [strLen_append, strLen_append]
      simp only [List.length_cons] at a ⊢
      omega
    · exact asc_app (asc_app e hg.2) b
theorem asc_low {x : Str} (h : asc (tl x)) : asc (tl (Txt.lower x)) := by
  rw [low_tl h]
  intro c hc
  obtain ⟨d, hd, rfl⟩ := List.mem_map.mp hc
  have := h d hd
  unfold lo1; split <;> omega
theorem up_tl {x : Str} (h : asc (tl x)) : tl (Txt.upper x) = (tl x).map up1 := by
  rw [upper_ascii h]
  show (x.cps.map up1).toList = _
  rw [Array.toList_map]
theorem asc_up {x : Str} (h : asc (tl x)) : asc (tl (Txt.upper x)) ∧ (Txt.upper x).length = x.length := by
  constructor
  · rw [up_tl h]
    intro c hc
    obtain ⟨d, hd, rfl⟩ := List.mem_map.mp hc
    have := h d hd
    unfold up1; split <;> omega
  · rw [len_tl, len_tl, up_tl h, List.length_map]
theorem ifs_inv {t : TT} {b1 b2 rest : TS} {D : Ends} {σ : L2.St} {H : Hp} (Pv : L2.St → Hp → Prop) (h : ∀ D' : Ends, (∀ σ1 H1, Pv σ1 H1 → D'.nx σ1 H1) → tIfS t b1 b2 D' σ H) (q : ∀ σ1 H1, Pv σ1 H1 → rest D σ1 H1) :
    tSeq (tIfS t b1 b2) rest D σ H := h _ q
theorem Draw.put {H : Hp} {d p : Addr} {n : Int} {ws : List Str} {o : HO} (D : Draw H d n) (hp : H p = some (.lst (ws.map V.str))) (ne : ws ≠ []) (pd : p ≠ d) : Draw (upd H p o) d n := by
  obtain ⟨c, xs, a, l, u, h1, h2, h3, r⟩ := D
  have pc : c ≠ p := by
    intro e
    rw [e, hp] at h2
    have h2 := Option.some.inj h2
    injection h2 with h2
    match ws, xs, ne, h3 with
    | w :: ws, x :: xs, _, _ => simp at h2
  exact ⟨c, xs, a, l, u, by rw [upd_ne pd.symm]; exact h1, by rw [upd_ne pc]; exact h2, h3, r⟩
/-- the words while they are bent -/
structure Wrd (H0 : Hp) (d p : Addr) (n : Int) (k : Nat) (H : Hp) : Prop where
  draw : Draw H d n
  keep : Keep d H0 H
  new : H0 p = none
  there : ∃ ws : List Str, H p = some (.lst (ws.map V.str)) ∧ k ≤ ws.length ∧ ws.length ≤ 6 ∧ ∀ x ∈ ws, okS x
theorem Wrd.more {H0 H H' : Hp} {d p : Addr} {n m : Int} {k : Nat} (w : Wrd H0 d p n k H) (kp : Keep d H H') (D : Draw H' d m) (pd : p ≠ d) : Wrd H0 d p m k H' := by
  obtain ⟨ws, g, r⟩ := w.there
  exact ⟨D, w.keep.trans kp, w.new, ws, kp _ _ pd g, r⟩
theorem Wrd.fresh {H0 H : Hp} {d q : Addr} {n : Int} {k : Nat} {zs : List Str} (D : Draw H d n) (kp : Keep d H0 H) (nq : H q = none) (z1 : k ≤ zs.length) (z2 : zs.length ≤ 6) (z3 : ∀ x ∈ zs, okS x) : Wrd H0 d q n k (upd H q (.lst (zs.map V.str))) := by
  have qd := Good.dictNe D nq
  refine ⟨D.same (same_new nq), kp.trans (Keep.of (same_new nq)), ?_, zs, upd_same, z1, z2, z3⟩
  cases e : H0 q with
  | none => rfl
  | some o => rw [kp _ _ qd e] at nq; cases nq
theorem Wrd.put {H0 H : Hp} {d p : Addr} {n : Int} {k j : Nat} {x : Str} {ws : List Str} (w : Wrd H0 d p n k H) (pd : p ≠ d) (g : H p = some (.lst (ws.map V.str))) (w1 : k ≤ ws.length) (w2 : ws.length ≤ 6) (w3 : ∀ x ∈ ws, okS x) (k1 : 1 ≤ k) (hx : okS x) : Wrd H0 d p n k (upd H p (.lst ((ws.map V.str).set j (.str x)))) := by
  have e : (ws.map V.str).set j (.str x) = (ws.set j x).map V.str := (List.map_set ..).symm
  rw [e]
  refine ⟨w.draw.put g (by intro z; rw [z] at w1; simp at w1; omega) pd, ?_, w.new, ws.set j x, upd_same, by rw [List.length_set]; exact w1, by rw [List.length_set]; exact w2, fun y hy => ?_⟩
  · intro b o nb e
    have : b ≠ p := fun z => by rw [z, w.new] at e; cases e
    rw [upd_ne this]
    exact w.keep _ _ nb e
  · rcases List.mem_or_eq_of_mem_set hy with h | h
    · exact w3 y h
    · rw [h]; exact hx
theorem ixN_nat {n j : Nat} (h : j < n) : L2.ixN n (j : Int) = some j := by
  unfold L2.ixN
  rw [if_pos (by omega), if_pos (by omega)]
  simp
theorem Wrd.ne {H0 H : Hp} {d p : Addr} {n : Int} {k : Nat} (w : Wrd H0 d p n k H) : p ≠ d := by
  obtain ⟨ws, h, _⟩ := w.there
  obtain ⟨kvs, hd⟩ := w.draw.dic
  intro e
  rw [e, hd] at h
  cases h
section
variable {P : Program} {w : World} {K : PySem.W.Frag} {mg : Str → Option Value} {base : Heap}
def sp__law_bent : Sp := fun vs H Q _ => ∃ (d : Addr) (n : Int) (a : Str), vs = [.ref d, .str a] ∧ Draw H d n ∧ n ≤ 800000000 ∧ a.length ≤ 90 ∧ asc (tl a) ∧ ∀ H' x, Keep d H H' → Draw H' d (n + 3) → x.length ≤ a.length + 1 → asc (tl x) → Q (.str x) H'
theorem ok__law_bent (T : Txt K mg) : FnOk P w K mg base CX0 3 T.a__law_bent T.d__law_bent ["draw", "letters"] sp__law_bent := by
  refine T.F__law_bent.ok sc__law_bent (fun vs H Q E h => ?_) (fun cdv A outer s H vs Q E hr h => ?_)
  · obtain ⟨d, n, a, rfl, _⟩ := h; rfl
  · obtain ⟨d, n, a, rfl, hD, hn, hl, ha, q⟩ := h
    refine ⟨_, (pss_cons (ps_par (i := 2) (j := 3) (by rfl) sc__law_bent.nd rfl rfl (by decide) rfl rfl (pa_cons (pe_call (ok__law_next T) (hr.mono (by decide)) (by rfl) T.g__law_next T.F__law_next.kp T.b__law_next .nil pass0 (pa_cons (pv 0) (pa_cons (pe_op op_add (pe_callB call_len_str (by rfl) T.z_len PySem.boot_len (pa_cons (pv 1) pa_nil)) pe_int) pa_nil))) (pa_cons (pe_ix ix_str pe_str (pe_call (ok__law_next T) (hr.mono (by decide)) (by rfl) T.g__law_next T.F__law_next.kp T.b__law_next .nil pass0 (pa_cons (pv 0) (pa_cons pe_int pa_nil))) (fun _ _ => rfl)) pa_nil)) (by rfl))
        (pss_cons (ps_set (i := 4) sc__law_bent.nd rfl (Or.inl rfl) (pe_lst (pa_cons (pe_op op_add_str (pe_op op_add_str (pe_slice sl_str (pv 1) po_none (po_some (pv 2))) (pv 3)) (pe_slice sl_str (pv 1) (po_some (pv 2)) po_none)) (pa_cons (pe_op op_add_str (pe_slice sl_str (pv 1) po_none (po_some (pv 2))) (pe_slice sl_str (pv 1) (po_some (pe_op op_add (pv 2) pe_int)) po_none)) (pa_cons (pe_op op_add_str (pe_op op_add_str (pe_slice sl_str (pv 1) po_none (po_some (pv 2))) (pv 3)) (pe_slice sl_str (pv 1) (po_some (pe_op op_add (pv 2) pe_int)) po_none)) pa_nil)))))
        (pss_one (ps_ret (pe_ix ix_list (pv 4) (pe_call (ok__law_next T) (hr.mono (by decide)) (by rfl) T.g__law_next T.F__law_next.kp T.b__law_next .nil pass0 (pa_cons (pv 0) (pa_cons pe_int pa_nil))) (fun _ _ => rfl)))))), ?_⟩
    have hz : a.length ≤ sizeLine := by rw [sizeLine_eq]; omega
    refine ⟨_, rfl, _, rfl, a, rfl, hz, _, _, rfl, rfl, d, (a.length : Int) + 1, n, rfl, hD, by omega, by omega, by omega, fun H1 k kp1 D1 k0 k1 => ?_⟩
    refine ⟨_, rfl, d, 11, n + 1, rfl, D1, by decide, by decide, by omega, fun H2 j kp2 D2 j0 j1 => ?_⟩
    have l12 : ("0 1:+-Zzart" : Str).cps.toList.length = 11 := by decide +kernel
    obtain ⟨c, hc, hm⟩ := at_some (xs := ("0 1:+-Zzart" : Str).cps.toList) (i := j) j0 (by rw [l12]; exact j1)
    have c128 : c < 128 := (by decide +kernel : ∀ x ∈ ("0 1:+-Zzart" : Str).cps.toList, x < 128) c hm
    refine ⟨"0 1:+-Zzart", j, c, rfl, rfl, (by rw [sizeLine_eq]; decide +kernel), hc, ?_⟩
    obtain ⟨e1, ea⟩ := one_ch c128
    generalize (⟨#[c]⟩ : Str) = sg at *
    refine ⟨_, _, rfl, ?_⟩
    have u1 := cutS_length a none (some k)
    have u2 := cutS_length a (some k) none
    have u3 := cutS_length a (some (k + 1)) none
    have w1 := asc_cut (lo := none) (hi := some k) ha
    have w2 := asc_cut (lo := some k) (hi := none) ha
    have w3 := asc_cut (lo := some (k + 1)) (hi := none) ha
    -- the three
    refine ⟨_, rfl, ?_⟩
    dsimp only [tNoPart]
    refine ⟨_, rfl, k, rfl, a, rfl, hz, _, rfl, _, _, rfl, rfl, str_size (m := 90) (n := 1) (by omega) (by omega) (by decide), _, rfl, _, rfl, k, rfl, ?_⟩
    dsimp only [tNoPart]
    have l1 : (cutS a none (some k) ++ sg).length ≤ 91 := by rw [strLen_append]; omega
    refine ⟨a, rfl, hz, _, _, rfl, rfl, str_size (m := 91) (n := 90) l1 (by omega) (by decide), ?_⟩
    refine ⟨_, rfl, ?_⟩
    dsimp only [tNoPart]
    refine ⟨_, rfl, k, rfl, a, rfl, hz, _, rfl, _, rfl, _, _, rfl, rfl, k + 1, rfl, ?_⟩
    dsimp only [tNoPart]
    refine ⟨a, rfl, hz, _, _, rfl, rfl, str_size (m := 90) (n := 90) (by omega) (by omega) (by decide), ?_⟩
    refine ⟨_, rfl, ?_⟩
    dsimp only [tNoPart]
    refine ⟨_, rfl, k, rfl, a, rfl, hz, _, rfl, _, _, rfl, rfl, str_size (m := 90) (n := 1) (by omega) (by omega) (by decide), _, rfl, _, rfl, _, _, rfl, rfl, k + 1, rfl, ?_⟩
    dsimp only [tNoPart]
    refine ⟨a, rfl, hz, _, _, rfl, rfl, str_size (m := 91) (n := 90) l1 (by omega) (by decide), (by show 3 ≤ sizeLine; decide), fun p3 n3 => ?_⟩
    have h1 : ((cutS a none (some k) ++ sg) ++ cutS a (some k) none).length ≤ a.length + 1 ∧ asc (tl ((cutS a none (some k) ++ sg) ++ cutS a (some k) none)) := by
      refine ⟨?_, asc_app (asc_app w1 ea) w2⟩
      have := cut_two a k0 (show k ≤ a.length by omega)
      rw [strLen_append, strLen_append, e1]; omega
    have h2 : (cutS a none (some k) ++ cutS a (some (k + 1)) none).length ≤ a.length + 1 ∧ asc (tl (cutS a none (some k) ++ cutS a (some (k + 1)) none)) := by
      refine ⟨?_, asc_app w1 w3⟩
      have := cut_two a k0 (show k ≤ a.length by omega)
      have := cut_next a k0 (show k ≤ a.length by omega)
      rw [strLen_append]; omega
    have h3 : ((cutS a none (some k) ++ sg) ++ cutS a (some (k + 1)) none).length ≤ a.length + 1 ∧ asc (tl ((cutS a none (some k) ++ sg) ++ cutS a (some (k + 1)) none)) := by
      refine ⟨?_, asc_app (asc_app w1 ea) w3⟩
      have := cut_two a k0 (show k ≤ a.length by omega)
      have := cut_next a k0 (show k ≤ a.length by omega)
      rw [strLen_append, strLen_append, e1]; omega
    generalize (cutS a none (some k) ++ sg) ++ cutS a (some k) none = t1 at *
    generalize cutS a none (some k) ++ cutS a (some (k + 1)) none = t2 at *
    generalize (cutS a none (some k) ++ sg) ++ cutS a (some (k + 1)) none = t3 at *
    have ne3 : p3 ≠ d := Good.dictNe D2 n3
    have s3 := same_new (o := .lst [.str t1, .str t2, .str t3]) n3
    have D3 := D2.same s3
    refine ⟨_, rfl, _, rfl, d, 3, n + 1 + 1, rfl, D3, by decide, by decide, by omega, fun H4 i kp4 D4 i0 i1 => ?_⟩
    obtain ⟨v, hv, hmv⟩ := at_some (xs := [V.str t1, .str t2, .str t3]) i0 i1
    obtain ⟨x, rfl, hx⟩ : ∃ x, v = .str x ∧ x.length ≤ a.length + 1 ∧ asc (tl x) := by
      simp only [List.mem_cons, List.not_mem_nil, or_false] at hmv
      rcases hmv with rfl | rfl | rfl
      · exact ⟨_, rfl, h1⟩
      · exact ⟨_, rfl, h2⟩
      · exact ⟨_, rfl, h3⟩
    refine ⟨p3, _, i, _, rfl, rfl, SqL.of (kp4 _ _ ne3 upd_same), hv, ?_⟩
    exact q H4 x (fun b o nb e => kp4 _ _ nb (s3 _ _ (kp2 _ _ nb (kp1 _ _ nb e)))) (D4.more (by omega)) hx.1 hx.2
def sp__law_varied : Sp := fun vs H Q _ => ∃ (d : Addr) (n : Int) (a : Addr) (y mo dd h mi s z : Int), vs = [.ref d, .ref a] ∧ Draw H d n ∧ n ≤ 800000000 ∧ H a = some (.tup [.int y, .int mo, .int dd, .int h, .int mi, .int s, .int z]) ∧ Bd y mo dd h mi s z ∧
  ∀ H' x, Keep d H H' → Draw H' d (n + 13) → x.length ≤ 75 → asc (tl x) → Q (.str x) H'
theorem ok__law_varied (T : Txt K mg) : FnOk P w K mg base CX0 4 T.a__law_varied T.d__law_varied ["draw", "date"] sp__law_varied := by
  refine T.F__law_varied.ok sc__law_varied (fun vs H Q E h => ?_) (fun cdv A outer s H vs Q E hr h => ?_)
  · obtain ⟨d, n, a, y, mo, dd, h, mi, s, z, rfl, _⟩ := h; rfl
  · obtain ⟨d, n, a, y, mo, dd, h, mi, s, z, rfl, hD, hn, ha, isd, q⟩ := h
    refine ⟨_, (pss_cons (ps_set (i := 2) sc__law_varied.nd rfl (Or.inl rfl) (pe_split (pe_call (ok__law_long T) (hr.mono (by decide)) (by rfl) T.g__law_long T.F__law_long.kp T.b__law_long .nil pass0 (pa_cons (pv 1) pa_nil)) pe_str))
        (pss_cons (ps_if (pt_cmpR op_eq (pe_call (ok__law_next T) (hr.mono (by decide)) (by rfl) T.g__law_next T.F__law_next.kp T.b__law_next .nil pass0 (pa_cons (pv 0) (pa_cons pe_int pa_nil))) pe_int (nomark _)) (pss_one (ps_asg (pe_slice sl_str (pe_ix ix_list (pv 2) pe_int (fun _ _ => rfl)) po_none (po_some (pe_op op_add pe_int (pe_call (ok__law_next T) (hr.mono (by decide)) (by rfl) T.g__law_next T.F__law_next.kp T.b__law_next .nil pass0 (pa_cons (pv 0) (pa_cons pe_int pa_nil)))))) (pg_sub (pv 2) pe_int set_list))) pss_nil)
        (pss_cons (ps_if (pt_cmpR op_eq (pe_call (ok__law_next T) (hr.mono (by decide)) (by rfl) T.g__law_next T.F__law_next.kp T.b__law_next .nil pass0 (pa_cons (pv 0) (pa_cons pe_int pa_nil))) pe_int (nomark _)) (pss_one (ps_asg (pe_slice sl_str (pe_ix ix_list (pv 2) pe_int (fun _ _ => rfl)) po_none (po_some pe_int)) (pg_sub (pv 2) pe_int set_list))) pss_nil)
        (pss_cons (ps_if (pt_cmpR op_eq (pe_call (ok__law_next T) (hr.mono (by decide)) (by rfl) T.g__law_next T.F__law_next.kp T.b__law_next .nil pass0 (pa_cons (pv 0) (pa_cons pe_int pa_nil))) pe_int (nomark _)) (pss_one (ps_set (i := 2) sc__law_varied.nd rfl (Or.inl rfl) (pe_slice sl_list (pv 2) po_none (po_some pe_int)))) pss_nil)
        (pss_cons (ps_if (pt_cmpR op_eq (pe_call (ok__law_next T) (hr.mono (by decide)) (by rfl) T.g__law_next T.F__law_next.kp T.b__law_next .nil pass0 (pa_cons (pv 0) (pa_cons pe_int pa_nil))) pe_int (nomark _)) (pss_one (ps_set (i := 2) sc__law_varied.nd rfl (Or.inl rfl) (pe_op Vz.op_catR (pe_lst (pa_cons (pe_ix ix_list (pe_lst (pa_cons pe_str (pa_cons pe_str (pa_cons pe_str (pa_cons pe_str (pa_cons pe_str (pa_cons pe_str (pa_cons pe_str (pa_cons pe_str pa_nil))))))))) (pe_call (ok__law_next T) (hr.mono (by decide)) (by rfl) T.g__law_next T.F__law_next.kp T.b__law_next .nil pass0 (pa_cons (pv 0) (pa_cons pe_int pa_nil))) (fun _ _ => rfl)) pa_nil)) (pe_slice sl_list (pv 2) (po_some pe_int) po_none)))) pss_nil)
        (pss_cons (ps_if (pt_cmpR op_eq (pe_call (ok__law_next T) (hr.mono (by decide)) (by rfl) T.g__law_next T.F__law_next.kp T.b__law_next .nil pass0 (pa_cons (pv 0) (pa_cons pe_int pa_nil))) pe_int (nomark _)) (pss_one (ps_set (i := 2) sc__law_varied.nd rfl (Or.inl rfl) (pe_slice sl_list (pv 2) (po_some pe_int) po_none))) pss_nil)
        (pss_cons (ps_set (i := 3) sc__law_varied.nd rfl (Or.inl rfl) (pe_ix ix_list (pe_lst (pa_cons pe_str (pa_cons pe_str (pa_cons pe_str (pa_cons pe_str pa_nil))))) (pe_call (ok__law_next T) (hr.mono (by decide)) (by rfl) T.g__law_next T.F__law_next.kp T.b__law_next .nil pass0 (pa_cons (pv 0) (pa_cons pe_int pa_nil))) (fun _ _ => rfl)))
        (pss_cons (ps_set (i := 4) sc__law_varied.nd rfl (Or.inl rfl) (pe_op op_add_str (pe_op op_add_str (pe_ix ix_list (pe_lst (pa_cons pe_str (pa_cons pe_str pa_nil))) (pe_call (ok__law_next T) (hr.mono (by decide)) (by rfl) T.g__law_next T.F__law_next.kp T.b__law_next .nil pass0 (pa_cons (pv 0) (pa_cons pe_int pa_nil))) (fun _ _ => rfl)) (pe_join (pv 3) (pv 2))) (pe_ix ix_list (pe_lst (pa_cons pe_str (pa_cons pe_str pa_nil))) (pe_call (ok__law_next T) (hr.mono (by decide)) (by rfl) T.g__law_next T.F__law_next.kp T.b__law_next .nil pass0 (pa_cons (pv 0) (pa_cons pe_int pa_nil))) (fun _ _ => rfl))))
        (pss_cons (ps_set (i := 5) sc__law_varied.nd rfl (Or.inl rfl) (pe_call (ok__law_next T) (hr.mono (by decide)) (by rfl) T.g__law_next T.F__law_next.kp T.b__law_next .nil pass0 (pa_cons (pv 0) (pa_cons pe_int pa_nil))))
        (pss_one (ps_ret (pe_ix ix_list (pe_lst (pa_cons (pv 4) (pa_cons (pe_lower (pv 4)) (pa_cons (pe_upper (pv 4)) (pa_cons (pv 4) pa_nil))))) (pv 5) (fun _ _ => rfl))))))))))))), ?_⟩
    refine ⟨_, rfl, a, y, mo, dd, h, mi, s, z, rfl, ha, isd, fun H1 s1 => ⟨⟨_, rfl⟩, _, " ", rfl, rfl, (by decide +kernel), (by have := long_size isd; rw [sizeLine_eq]; omega), fun p2 n2 => ?_⟩⟩
    have ls := long_split isd
    rw [ls]
    have s2 := same_new (o := .lst ((longP y mo dd h mi s z).map V.str)) n2
    have np : H p2 = none := by
      cases e : H p2 with
      | none => rfl
      | some o => rw [s1 _ _ e] at n2; cases n2
    have W0 : Wrd H d p2 n 6 (upd H1 p2 (.lst ((longP y mo dd h mi s z).map V.str))) := ⟨(hD.same s1).same s2, Keep.of (s1.trans s2), np, longP y mo dd h mi s z, upd_same, (by show 6 ≤ 6; decide), (by show 6 ≤ 6; decide), longP_ok isd⟩
    generalize upd H1 p2 (.lst ((longP y mo dd h mi s z).map V.str)) = H2 at *
    dsimp only [gName]
    -- a shorter month
    have st : ∀ {p : Addr} {k : Nat} {m : Int} {H' : Hp}, Wrd H d p m k H' → p ≠ d := fun w => w.ne
    refine ifs_inv (fun σ H' => ∃ p, σ = [some (.ref d), some (.ref a), some (.ref p), none, none, none] ∧ Wrd H d p (n + 2) 6 H') (fun D' r => ?_) (fun σ3 H3 k3 => ?_)
    · refine ⟨_, rfl, d, 3, n, rfl, W0.draw, by decide, by decide, by omega, fun H3 k kp D3 k0 k1 => ⟨rfl, _, rfl, ?_⟩⟩
      have W3 := W0.more kp D3 W0.ne
      obtain ⟨ws, g3, w1, w2, w3⟩ := W3.there
      refine ite2 (fun _ => ?_) (fun _ => ?_)
      · have l2 : 2 < ws.length := by omega
        have e2 : (ws.map V.str)[2]? = some (.str ws[2]) := by rw [List.getElem?_map, List.getElem?_eq_getElem l2]; rfl
        have o2 := w3 ws[2] (List.getElem_mem l2)
        refine ⟨_, rfl, p2, _, 2, .str ws[2], rfl, rfl, SqL.of g3, at_list e2, ?_⟩
        dsimp only [tNoPart]
        refine ⟨_, rfl, d, 3, n + 1, rfl, D3, by decide, by decide, by omega, fun H4 k4 kp4 D4 _ _ => ?_⟩
        have g4 := kp4 _ _ W3.ne g3
        refine ⟨_, _, rfl, rfl, _, rfl, ws[2], rfl, (by have := o2.1; rw [sizeLine_eq]; omega), _, rfl, p2, _, 2, 2, rfl, rfl, g4, ixN_nat (by rw [List.length_map]; exact l2), ?_⟩
        have W4 := W3.more kp4 (D4.more (show n + 1 + 1 ≤ n + 2 by omega)) W3.ne
        exact r _ _ ⟨p2, rfl, W4.put W4.ne g4 w1 w2 w3 (by decide) (okS_cut o2)⟩
      · exact r _ _ ⟨p2, rfl, W3.more (Keep.refl _) (D3.more (by omega)) W3.ne⟩
    obtain ⟨p3, rfl, W3⟩ := k3
    -- no seconds
    refine ifs_inv (fun σ H' => ∃ p, σ = [some (.ref d), some (.ref a), some (.ref p), none, none, none] ∧ Wrd H d p (n + 3) 6 H') (fun D' r => ?_) (fun σ4 H4 k4 => ?_)
    · refine ⟨_, rfl, d, 4, n + 2, rfl, W3.draw, by decide, by decide, by omega, fun H4 k kp D4 k0 k1 => ⟨rfl, _, rfl, ?_⟩⟩
      have W4 := W3.more kp (D4.more (show n + 2 + 1 ≤ n + 3 by omega)) W3.ne
      obtain ⟨ws, g4, w1, w2, w3⟩ := W4.there
      refine ite2 (fun _ => ?_) (fun _ => ?_)
      · have l2 : 4 < ws.length := by omega
        have e2 : (ws.map V.str)[4]? = some (.str ws[4]) := by rw [List.getElem?_map, List.getElem?_eq_getElem l2]; rfl
        have o2 := w3 ws[4] (List.getElem_mem l2)
        refine ⟨_, rfl, p3, _, 4, .str ws[4], rfl, rfl, SqL.of g4, at_list e2, ?_⟩
        dsimp only [tNoPart]
        refine ⟨5, rfl, ws[4], rfl, (by have := o2.1; rw [sizeLine_eq]; omega), _, rfl, p3, _, 4, 4, rfl, rfl, g4, ixN_nat (by rw [List.length_map]; exact l2), ?_⟩
        exact r _ _ ⟨p3, rfl, W4.put W4.ne g4 w1 w2 w3 (by decide) (okS_cut o2)⟩
      · exact r _ _ ⟨p3, rfl, W4⟩
    obtain ⟨p4, rfl, W4⟩ := k4
    -- no zone
    refine ifs_inv (fun σ H' => ∃ p, σ = [some (.ref d), some (.ref a), some (.ref p), none, none, none] ∧ Wrd H d p (n + 4) 5 H') (fun D' r => ?_) (fun σ5 H5 k5 => ?_)
    · refine ⟨_, rfl, d, 5, n + 3, rfl, W4.draw, by decide, by decide, by omega, fun H5 k kp D5 k0 k1 => ⟨rfl, _, rfl, ?_⟩⟩
      have W5 := W4.more kp (D5.more (show n + 3 + 1 ≤ n + 4 by omega)) W4.ne
      obtain ⟨ws, g5, w1, w2, w3⟩ := W5.there
      refine ite2 (fun _ => ?_) (fun _ => ?_)
      · refine ⟨_, rfl, 5, rfl, p4, _, rfl, SqL.of g5, fun p6 n6 => ?_⟩
        have ec : cutV (ws.map V.str) none (some 5) = (ws.take 5).map V.str := by
          rw [cut_front (by decide) (by rw [List.length_map]; omega), List.map_take]; rfl
        rw [ec]
        exact r _ _ ⟨p6, rfl, Wrd.fresh W5.draw W5.keep n6 (by rw [List.length_take]; omega) (by rw [List.length_take]; omega) (fun x hx => w3 x (List.mem_of_mem_take hx))⟩
      · exact r _ _ ⟨p4, rfl, W5.draw, W5.keep, W5.new, ws, g5, by omega, w2, w3⟩
    obtain ⟨p5, rfl, W5⟩ := k5
    -- another weekday
    refine ifs_inv (fun σ H' => ∃ p, σ = [some (.ref d), some (.ref a), some (.ref p), none, none, none] ∧ Wrd H d p (n + 6) 5 H') (fun D' r => ?_) (fun σ6 H6 k6 => ?_)
    · refine ⟨_, rfl, d, 3, n + 4, rfl, W5.draw, by decide, by decide, by omega, fun H6 k kp D6 k0 k1 => ⟨rfl, _, rfl, ?_⟩⟩
      have W6 := W5.more kp D6 W5.ne
      obtain ⟨ws, g6, w1, w2, w3⟩ := W6.there
      refine ite2 (fun _ => ?_) (fun _ => ?_)
      · refine ⟨(by show 8 ≤ sizeLine; decide), fun p7 n7 => ?_⟩
        have s7 := same_new (o := .lst (wdL.map V.str)) n7
        have ne7 := Good.dictNe D6 n7
        refine ⟨_, rfl, d, 8, n + 4 + 1, rfl, D6.same s7, by decide, by decide, by omega, fun H8 k8 kp8 D8 a8 b8 => ?_⟩
        obtain ⟨v, hv, hm⟩ := at_some (xs := wdL.map V.str) a8 b8
        obtain ⟨x, hxm, rfl⟩ := List.mem_map.mp hm
        have ox : okS x := by
          have h := (by decide +kernel : ∀ x ∈ wdL, (decide (x.length ≤ 8) && (tl x).all fun c => decide (c < 128)) = true) x hxm
          rw [Bool.and_eq_true, decide_eq_true_eq, List.all_eq_true] at h
          exact ⟨h.1, fun c hc => of_decide_eq_true (h.2 c hc)⟩
        have kp68 : Keep d H6 H8 := (Keep.of s7).trans kp8
        have W8 := W6.more kp68 (D8.more (show n + 4 + 1 + 1 ≤ n + 6 by omega)) W6.ne
        have g8 := kp68 _ _ W6.ne g6
        refine ⟨p7, _, k8, _, rfl, rfl, SqL.of (kp8 _ _ ne7 upd_same), hv, (by show 1 ≤ sizeLine; decide), fun p9 n9 => ?_⟩
        have s9 := same_new (o := .lst [.str x]) n9
        refine ⟨_, rfl, 1, rfl, ?_⟩
        dsimp only [tNoPart]
        refine ⟨p5, _, rfl, SqL.of (s9 _ _ g8), fun p10 n10 => ?_⟩
        have ec : cutV (ws.map V.str) (some 1) none = (ws.drop 1).map V.str := by
          rw [cut_back (by decide) (by rw [List.length_map]; omega), List.map_drop]; rfl
        rw [ec]
        have s10 := same_new (o := .lst ((ws.drop 1).map V.str)) n10
        have ld : (ws.drop 1).length = ws.length - 1 := List.length_drop
        refine ⟨p9, p10, _, _, rfl, rfl, SqL.of (s10 _ _ upd_same), SqL.of upd_same, (by rw [List.length_map, ld, sizeLine_eq]; simp; omega), fun p11 n11 => ?_⟩
        have eq : [V.str x] ++ (ws.drop 1).map V.str = (x :: ws.drop 1).map V.str := rfl
        rw [eq]
        have k10 : Keep d H8 (upd (upd H8 p9 (.lst [.str x])) p10 (.lst ((ws.drop 1).map V.str))) := Keep.of (s9.trans s10)
        exact r _ _ ⟨p11, rfl, Wrd.fresh ((W8.draw.same s9).same s10) (W8.keep.trans k10) n11 (by rw [List.length_cons, ld]; omega) (by rw [List.length_cons, ld]; omega) (fun z hz => by
          rcases List.mem_cons.mp hz with e | e
          · rw [e]; exact ox
          · exact w3 z (List.mem_of_mem_drop e))⟩
      · exact r _ _ ⟨p5, rfl, W6.more (Keep.refl _) (W6.draw.more (by omega)) W6.ne⟩
    obtain ⟨p6, rfl, W6⟩ := k6
    -- no weekday
    refine ifs_inv (fun σ H' => ∃ p, σ = [some (.ref d), some (.ref a), some (.ref p), none, none, none] ∧ Wrd H d p (n + 7) 4 H') (fun D' r => ?_) (fun σ7 H7 k7 => ?_)
    · refine ⟨_, rfl, d, 4, n + 6, rfl, W6.draw, by decide, by decide, by omega, fun H7 k kp D7 k0 k1 => ⟨rfl, _, rfl, ?_⟩⟩
      have W7 := W6.more kp (D7.more (show n + 6 + 1 ≤ n + 7 by omega)) W6.ne
      obtain ⟨ws, g7, w1, w2, w3⟩ := W7.there
      refine ite2 (fun _ => ?_) (fun _ => ?_)
      · refine ⟨_, rfl, 1, rfl, ?_⟩
        dsimp only [tNoPart]
        refine ⟨p6, _, rfl, SqL.of g7, fun p8 n8 => ?_⟩
        have ec : cutV (ws.map V.str) (some 1) none = (ws.drop 1).map V.str := by
          rw [cut_back (by decide) (by rw [List.length_map]; omega), List.map_drop]; rfl
        rw [ec]
        exact r _ _ ⟨p8, rfl, Wrd.fresh W7.draw W7.keep n8 (by rw [List.length_drop]; omega) (by rw [List.length_drop]; omega) (fun x hx => w3 x (List.mem_of_mem_drop hx))⟩
      · exact r _ _ ⟨p6, rfl, W7.draw, W7.keep, W7.new, ws, g7, by omega, w2, w3⟩
    obtain ⟨p7, rfl, W7⟩ := k7
    -- gap
    refine ⟨(by show 4 ≤ sizeLine; decide), fun p8 n8 => ?_⟩
    have s8 := same_new (o := .lst [.str " ", .str " ", .str "  ", .str "   "]) n8
    have ne8 := Good.dictNe W7.draw n8
    refine ⟨_, rfl, d, 4, n + 7, rfl, W7.draw.same s8, by decide, by decide, by omega, fun H9 k9 kp9 D9 a9 b9 => ?_⟩
    obtain ⟨v, hv, hm⟩ := at_some (xs := [V.str " ", .str " ", .str "  ", .str "   "]) a9 b9
    obtain ⟨g, rfl, hg⟩ : ∃ g : Str, v = .str g ∧ g.length ≤ 3 ∧ asc (tl g) := by
      have a1 : tl (" " : Str) = [32] := by decide +kernel
      have a2 : tl ("  " : Str) = [32, 32] := by decide +kernel
      have a3 : tl ("   " : Str) = [32, 32, 32] := by decide +kernel
      simp only [List.mem_cons, List.not_mem_nil, or_false] at hm
      rcases hm with rfl | rfl | rfl | rfl
      · exact ⟨_, rfl, by decide +kernel, by rw [a1]; intro c hc; simp at hc; omega⟩
      · exact ⟨_, rfl, by decide +kernel, by rw [a1]; intro c hc; simp at hc; omega⟩
      · exact ⟨_, rfl, by decide +kernel, by rw [a2]; intro c hc; simp at hc; omega⟩
      · exact ⟨_, rfl, by decide +kernel, by rw [a3]; intro c hc; simp at hc; omega⟩
    refine ⟨p8, _, k9, _, rfl, rfl, SqL.of (kp9 _ _ ne8 upd_same), hv, ?_⟩
    have W9 := W7.more ((Keep.of s8).trans kp9) (D9.more (show n + 7 + 1 ≤ n + 8 by omega)) W7.ne
    -- found
    refine ⟨(by show 2 ≤ sizeLine; decide), fun p10 n10 => ?_⟩
    have s10 := same_new (o := .lst [.str "", .str " "]) n10
    have ne10 := Good.dictNe W9.draw n10
    refine ⟨_, rfl, d, 2, n + 8, rfl, W9.draw.same s10, by decide, by decide, by omega, fun H11 k11 kp11 D11 a11 b11 => ?_⟩
    obtain ⟨v, hv, hm⟩ := at_some (xs := [V.str "", .str " "]) a11 b11
    obtain ⟨f1, rfl, hf1⟩ : ∃ g : Str, v = .str g ∧ g.length ≤ 1 ∧ asc (tl g) := by
      have a0 : tl ("" : Str) = [] := by decide +kernel
      have a1 : tl (" " : Str) = [32] := by decide +kernel
      simp only [List.mem_cons, List.not_mem_nil, or_false] at hm
      rcases hm with rfl | rfl
      · exact ⟨_, rfl, by decide +kernel, by rw [a0]; intro c hc; cases hc⟩
      · exact ⟨_, rfl, by decide +kernel, by rw [a1]; intro c hc; simp at hc; omega⟩
    refine ⟨p10, _, k11, _, rfl, rfl, SqL.of (kp11 _ _ ne10 upd_same), hv, ?_⟩
    have W11 := W9.more ((Keep.of s10).trans kp11) (D11.more (show n + 8 + 1 ≤ n + 9 by omega)) W9.ne
    obtain ⟨ws, g11, w1, w2, w3⟩ := W11.there
    obtain ⟨lj, aj⟩ := join_okS hg w3
    have sl : (ws.map (·.length)).sum ≤ 8 * ws.length := by
      clear lj aj g11 w1 w2 hv hm
      induction ws with
      | nil => simp
      | cons x ws ih =>
        have := ih fun y hy => w3 y (List.mem_cons_of_mem _ hy)
        have := (w3 x (by simp)).1
        simp only [List.map_cons, List.sum_cons, List.length_cons]
        omega
    have ml : ws.length * g.length ≤ 6 * 3 := Nat.mul_le_mul w2 hg.1
    refine ⟨_, rfl, ⟨_, rfl⟩, _, rfl, g, p7, ws, rfl, rfl, .inl (SqL.of g11), (by omega), ?_⟩
    rw [join_eq]
    generalize Str.join g ws = J at lj aj ⊢
    refine ⟨_, _, rfl, rfl, str_size (m := 1) (n := 66) hf1.1 (by omega) (by decide), ?_⟩
    refine ⟨(by show 2 ≤ sizeLine; decide), fun p12 n12 => ?_⟩
    have s12 := same_new (o := .lst [.str "", .str "  "]) n12
    have ne12 := Good.dictNe W11.draw n12
    refine ⟨_, rfl, d, 2, n + 9, rfl, W11.draw.same s12, by decide, by decide, by omega, fun H13 k13 kp13 D13 a13 b13 => ?_⟩
    obtain ⟨v, hv, hm⟩ := at_some (xs := [V.str "", .str "  "]) a13 b13
    obtain ⟨f2, rfl, hf2⟩ : ∃ g : Str, v = .str g ∧ g.length ≤ 2 ∧ asc (tl g) := by
      have a0 : tl ("" : Str) = [] := by decide +kernel
      have a2 : tl ("  " : Str) = [32, 32] := by decide +kernel
      simp only [List.mem_cons, List.not_mem_nil, or_false] at hm
      rcases hm with rfl | rfl
      · exact ⟨_, rfl, by decide +kernel, by rw [a0]; intro c hc; cases hc⟩
      · exact ⟨_, rfl, by decide +kernel, by rw [a2]; intro c hc; simp at hc; omega⟩
    refine ⟨p12, _, k13, _, rfl, rfl, SqL.of (kp13 _ _ ne12 upd_same), hv, ?_⟩
    have lf : (f1 ++ J).length ≤ 67 := by rw [strLen_append]; omega
    refine ⟨_, _, rfl, rfl, str_size (m := 67) (n := 2) lf hf2.1 (by decide), ?_⟩
    have W13 := W11.more ((Keep.of s12).trans kp13) (D13.more (show n + 9 + 1 ≤ n + 10 by omega)) W11.ne
    have F1 : ((f1 ++ J) ++ f2).length ≤ 69 := by rw [strLen_append]; omega
    have F2 : asc (tl ((f1 ++ J) ++ f2)) := asc_app (asc_app hf1.2 aj) hf2.2
    generalize (f1 ++ J) ++ f2 = F at F1 F2 ⊢
    -- way
    refine ⟨_, rfl, d, 4, n + 10, rfl, W13.draw, by decide, by decide, by omega, fun H14 way kp14 D14 a14 b14 => ?_⟩
    have W14 := W13.more kp14 (D14.more (show n + 10 + 1 ≤ n + 11 by omega)) W13.ne
    obtain ⟨U2, U1⟩ := asc_up F2
    have L1 := low_len F2
    have L2 := asc_low F2
    refine ⟨_, rfl, _, rfl, ⟨_, rfl⟩, F, rfl, rfl, by omega, _, rfl, ⟨_, rfl⟩, F, rfl, rfl, by omega, _, rfl, (by show 4 ≤ sizeLine; decide), fun p15 n15 => ?_⟩
    have s15 := same_new (o := .lst [.str F, .str (Txt.lower F), .str (Txt.upper F), .str F]) n15
    obtain ⟨v, hv, hm⟩ := at_some (xs := [V.str F, .str (Txt.lower F), .str (Txt.upper F), .str F]) a14 b14
    obtain ⟨x, rfl, hx1, hx2⟩ : ∃ x : Str, v = .str x ∧ x.length ≤ 75 ∧ asc (tl x) := by
      simp only [List.mem_cons, List.not_mem_nil, or_false] at hm
      rcases hm with rfl | rfl | rfl | rfl
      · exact ⟨_, rfl, by omega, F2⟩
      · exact ⟨_, rfl, by omega, L2⟩
      · exact ⟨_, rfl, by omega, U2⟩
      · exact ⟨_, rfl, by omega, F2⟩
    refine ⟨_, rfl, p15, _, way, _, rfl, rfl, SqL.of upd_same, hv, ?_⟩
    exact q _ x (W14.keep.trans (Keep.of s15)) ((W14.draw.same s15).more (by omega)) hx1 hx2
end
end Toy
set_option Elab.async false
set_option linter.all false
set_option maxRecDepth 100000
set_option maxHeartbeats 8000000
namespace Toy
open PySem PySem.Spec PyProof.Rows L2 Tx TL
def Sm (n m : Nat) (d : PyData) : Prop := d.showable = true ∧ d.hasDict = false ∧ d.depth ≤ n ∧ d.leavesShort 13 = true ∧ d.weight ≤ m
theorem Sm.mono {n m n' m' : Nat} {d : PyData} (h : Sm n m d) (a : n ≤ n') (b : m ≤ m') : Sm n' m' d := ⟨h.1, h.2.1, Nat.le_trans h.2.2.1 a, h.2.2.2.1, Nat.le_trans h.2.2.2.2 b⟩
theorem Sm.shows {n m : Nat} {d : PyData} (h : Sm n m d) (hn : n ≤ 60) (hm : m ≤ 2 ^ 20) : Shows d :=
  ⟨h.1, h.2.1, Nat.le_trans h.2.2.1 hn, PyData.shown_fits (B := 13) (by decide) (by decide) h.2.2.2.1 (Nat.le_trans h.2.2.2.2 hm)⟩
theorem sm_none : Sm 0 60 .none := ⟨rfl, rfl, Nat.le_refl _, rfl, by decide⟩
theorem sm_bool (b : Bool) : Sm 0 60 (.bool b) := ⟨rfl, rfl, Nat.le_refl _, rfl, by show 0 ≤ 60; decide⟩
theorem sm_int {i : Int} (h : i.natAbs < 10 ^ 12) : Sm 0 60 (.int i) := by
  refine ⟨?_, rfl, Nat.le_refl _, ?_, ?_⟩
  · simp only [PyData.showable, decide_eq_true_eq]; exact Nat.lt_trans (log_small h) (by decide)
  · simp only [PyData.leavesShort, decide_eq_true_eq]; exact PyData.shown_int_le h
  · simp only [PyData.weight]; have := log_small h; split <;> omega
theorem sm_str {x : Str} (h : (PyData.str x).leavesShort 13 = true) (hs : x.cps.size ≤ 60) : Sm 0 60 (.str x) := ⟨rfl, rfl, Nat.le_refl _, h, hs⟩
theorem sm_all {n m : Nat} : ∀ {ds : List PyData}, (∀ d ∈ ds, Sm n m d) → PyData.showableAll ds = true ∧ PyData.hasDictAll ds = false ∧ PyData.depthAll ds ≤ n ∧ PyData.leavesShortAll 13 ds = true ∧ PyData.weightAll ds ≤ ds.length * (m + 1)
  | [], _ => ⟨rfl, rfl, Nat.zero_le _, rfl, by simp [PyData.weightAll]⟩
  | d :: ds, h => by
    obtain ⟨a1, a2, a3, a4, a5⟩ := h d List.mem_cons_self
    obtain ⟨b1, b2, b3, b4, b5⟩ := sm_all fun e he => h e (List.mem_cons_of_mem _ he)
    refine ⟨?_, ?_, ?_, ?_, ?_⟩
    · simp only [PyData.showableAll, a1, b1, Bool.and_self]
    · simp only [PyData.hasDictAll, a2, b2, Bool.or_self]
    · simp only [PyData.depthAll]; omega
    · simp only [PyData.leavesShortAll, a4, b4, Bool.and_self]
    · simp only [PyData.weightAll, List.length_cons, Nat.add_mul]; omega
theorem sm_len {n m k : Nat} (h : k ≤ n) : k * m ≤ n * m := Nat.mul_le_mul_right _ h
theorem sm_tup {n m : Nat} {ds : List PyData} (h : ∀ d ∈ ds, Sm n m d) (l : ds.length ≤ 7) : Sm (n + 1) (7 * (m + 1)) (.tuple ds) := by
  obtain ⟨b1, b2, b3, b4, b5⟩ := sm_all h
  refine ⟨?_, ?_, ?_, ?_, ?_⟩
  · simp only [PyData.showable, b1]
  · simp only [PyData.hasDict, b2]
  · simp only [PyData.depth]; omega
  · simp only [PyData.leavesShort, b4]
  · simp only [PyData.weight]; exact Nat.le_trans b5 (sm_len l)
def dB (l : List Int) (b : Bool) : PyData := .tuple [dTup l, .bool b]
def dN : PyData := .tuple [.none, .bool false]
theorem dB_ok {l : List Int} (b : Bool) (hl : ∀ i ∈ l, i.natAbs < 10 ^ 12) (n : l.length ≤ 7) : Shows (dB l b) := by
  have h1 : Sm 1 (7 * (60 + 1)) (dTup l) := sm_tup (fun d hd => by
    obtain ⟨i, hi, rfl⟩ := List.mem_map.mp hd
    exact sm_int (hl i hi)) (by rw [List.length_map]; exact n)
  have h2 : Sm 2 (7 * (7 * (60 + 1) + 1)) (dB l b) := sm_tup (fun d hd => by
    simp only [List.mem_cons, List.not_mem_nil, or_false] at hd
    rcases hd with rfl | rfl
    · exact h1
    · exact (sm_bool b).mono (by decide) (by decide)) (by show 2 ≤ 7; decide)
  exact h2.shows (by decide) (by decide)
theorem dN_ok : Shows dN := by
  have h2 : Sm 1 (7 * (60 + 1)) dN := sm_tup (fun d hd => by
    simp only [List.mem_cons, List.not_mem_nil, or_false] at hd
    rcases hd with rfl | rfl
    · exact sm_none
    · exact sm_bool false) (by show 2 ≤ 7; decide)
  exact h2.shows (by decide) (by decide)
theorem s_eq (x : Str) : decide (V.str x = V.str x) = true := decide_eq_true rfl
theorem ns_eq (x : Str) : ¬ ((!decide (V.str x = V.str x)) = true) := by rw [s_eq]; decide
theorem date_ints {y mo d h mi s z : Int} (isd : Ma.isDate y mo d h mi s z = true) : ∀ i ∈ [y, mo, d, h, mi, s, z], i.natAbs < 10 ^ 12 := by
  obtain ⟨⟨y0, y1⟩, ⟨mo0, mo1⟩, ⟨d0, d1⟩, ⟨h0, h1⟩, ⟨i0, i1⟩, ⟨s0, s1⟩, ⟨z0, z1⟩⟩ := date_bounds isd
  have e12 : (10 : Nat) ^ 12 = 1000000000000 := by decide
  intro i hi
  simp only [List.mem_cons, List.not_mem_nil, or_false] at hi
  rw [e12]
  rcases hi with rfl | rfl | rfl | rfl | rfl | rfl | rfl <;> omega
theorem long_len {y mo d h mi s z : Int} (isd : Ma.isDate y mo d h mi s z = true) : (longT y mo d h mi s z).length ≤ 100 := by
  obtain ⟨⟨y0, y1⟩, ⟨mo0, mo1⟩, ⟨d0, d1⟩, ⟨h0, h1⟩, ⟨i0, i1⟩, ⟨s0, s1⟩, ⟨z0, z1⟩⟩ := date_bounds isd
  have e : longT y mo d h mi s z = wdT d ++ " " ++ (num d ++ " " ++ (monT mo ++ " " ++ (num y ++ " " ++ (timeT h mi s ++ " " ++ zoneT z)))) := rfl
  rw [e]
  simp only [strLen_append]
  have a1 := len_wd d
  have a2 := len_num (i := d) (by omega) (by omega)
  have a3 := len_mon mo
  have a4 := len_num (i := y) (by omega) (by omega)
  have a5 := len_time (h := h) (mi := mi) (s := s) h0 (by omega) i0 (by omega) s0 (by omega)
  have a6 := len_zone (z := z) (by omega) (by omega)
  have a7 : (" " : Str).length = 1 := by decide +kernel
  omega
theorem rlW_date {ws : List Str} {l : List V} {b : Bool} (h : rlW ws = some (l, b)) : isDateL l = true := by
  unfold rlW at h
  split at h
  · split at h
    · rename_i c
      cases h; exact c
    · cases h
  · cases h
theorem int_list {L : List Int} {y mo d h mi s z : Int} (e : L.map V.int = [.int y, .int mo, .int d, .int h, .int mi, .int s, .int z]) : L = [y, mo, d, h, mi, s, z] := by
  let f : V → Int := fun v => match v with | V.int i => i | _ => 0
  have h1 : (L.map V.int).map f = L := by
    rw [List.map_map]
    exact (List.map_congr_left (g := id) (fun i _ => rfl)).trans (List.map_id L)
  rw [← h1, e]; rfl
/-- both readings of a text -/
theorem both_long {a : Str} (ha : asc (tl a)) : (rlV a = none ∧ llV a = none) ∨ ∃ (y mo d h mi s z : Int) (b : Bool), Ma.isDate y mo d h mi s z = true ∧ rlV a = some ([.int y, .int mo, .int d, .int h, .int mi, .int s, .int z], b) ∧ llV a = some ([y, mo, d, h, mi, s, z], b) := by
  have e := long_both ha
  cases k : llV a with
  | none => rw [k] at e; exact .inl ⟨e, rfl⟩
  | some p =>
    obtain ⟨L, b⟩ := p
    rw [k] at e
    have e : rlV a = some (L.map V.int, b) := e
    have isd := rlW_date (show rlW (wordsL a) = some (L.map V.int, b) from e)
    obtain ⟨y, mo, d, h, mi, s, z, el, isd'⟩ := dateL_true isd
    have eL := int_list el
    subst eL
    exact .inr ⟨y, mo, d, h, mi, s, z, b, isd', e, rfl⟩
section
variable {P : Program} {w : World} {K : PySem.W.Frag} {mg : Str → Option Value} {base : Heap}
theorem reprD {H : Hp} {Q : VK} {p : Addr} {d : PyData} (hp : Dp K H (.ref p) d) (sh : Shows d) (q : ∀ S, S = d.shown → Q (.str S) H) : Vz.rRepr K [.ref p] H Q :=
  ⟨p, d, rfl, hp, sh.1, sh.2.1, sh.2.2.1, sh.2.2.2, q _ rfl⟩
theorem dpI {H : Hp} {a : Addr} (l : List Int) (ha : H a = some (.tup (l.map V.int))) : Dp K H (.ref a) (dTup l) := .tup (SqT.of ha) (dpAllK l)
theorem dpB {H : Hp} {a r : Addr} (l : List Int) {b : Bool} (ha : H a = some (.tup (l.map V.int))) (hr : H r = some (.tup [.ref a, .bl b])) : Dp K H (.ref r) (dB l b) :=
  .tup (SqT.of hr) (.cons (dpI l ha) (.cons (.bl b) .nil))
theorem dpN {H : Hp} {r : Addr} (hr : H r = some (.tup [.non, .bl false])) : Dp K H (.ref r) dN :=
  .tup (SqT.of hr) (.cons .non (.cons (.bl false) .nil))
def sp__law_right : Sp := fun vs H Q _ => ∃ a : Str, vs = [.str a] ∧ a.length ≤ 100 ∧ asc (tl a) ∧ ∀ H', Same H H' → Q (.bl true) H'
theorem ok__law_right (T : Txt K mg) : Vz.FnG P w K mg base CX0 7 T.a__law_right T.d__law_right ["letters"] sp__law_right := by
  refine Vz.Fun.okG T.F__law_right sc__law_right (fun vs H Q E h => ?_) (fun cdv A outer s H vs Q E gd hr h => ?_)
  · obtain ⟨a, rfl, _⟩ := h; rfl
  · obtain ⟨a, rfl, hl, ha, q⟩ := h
    refine ⟨_, (pss_cons (ps_par (i := 1) (j := 2) (by rfl) sc__law_right.nd rfl rfl (by decide) rfl rfl (pa_cons (pe_call (ok_read_long T) (hr.mono (by decide)) (by rfl) T.g_read_long T.F_read_long.kp T.b_read_long .nil pass0 (pa_cons (pv 0) pa_nil)) (pa_cons (pe_call (ok__law_read T) (hr.mono (by decide)) (by rfl) T.g__law_read T.F__law_read.kp T.b__law_read .nil pass0 (pa_cons (pv 0) pa_nil)) pa_nil)) (by rfl))
        (pss_cons (ps_if (pt_cmpR op_ne (pe_callB (Vz.repr_data gd hr.units) (by rfl) T.z_repr (by decide +kernel) (pa_cons (pv 1) pa_nil)) (pe_callB (Vz.repr_data gd hr.units) (by rfl) T.z_repr (by decide +kernel) (pa_cons (pv 2) pa_nil)) (nomark _)) (pss_one (ps_ret pe_bl)) pss_nil)
        (pss_one (ps_ret (pe_or (pe_cmpR op_isN (pe_ix ix_tup (pv 1) pe_int (fun _ _ => rfl)) pe_non (nomark _)) (pe_one (pe_cmpR op_eq (pe_callB (Vz.repr_data gd hr.units) (by rfl) T.z_repr (by decide +kernel) (pa_cons (pe_call (ok_read_long T) (hr.mono (by decide)) (by rfl) T.g_read_long T.F_read_long.kp T.b_read_long .nil pass0 (pa_cons (pe_call (ok_long_text T) (hr.mono (by decide)) (by rfl) T.g_long_text T.F_long_text.kp T.b_long_text .nil passL (pa_cons (pe_ix ix_tup (pv 1) pe_int (fun _ _ => rfl)) pa_nil)) pa_nil)) pa_nil)) (pe_callB (Vz.repr_data gd hr.units) (by rfl) T.z_repr (by decide +kernel) (pa_cons (pe_tup (pa_cons (pe_ix ix_tup (pv 1) pe_int (fun _ _ => rfl)) (pa_cons pe_bl pa_nil))) pa_nil)) (nomark _)))))))), ?_⟩
    rcases both_long ha with ⟨e1, e2⟩ | ⟨y, mo, d, h, mi, s, z, b, isd, e1, e2⟩
    · refine ⟨_, rfl, a, rfl, hl, (fun _ H1 r1 s1 h1 => ?_), (fun l b el => by rw [e1] at el; cases el)⟩
      refine ⟨_, rfl, a, rfl, hl, ha, (fun _ H2 r2 s2 h2 => ?_), (fun l b el => by rw [e2] at el; cases el)⟩
      refine ⟨_, _, rfl, ?_⟩
      have h1' := s2 _ _ h1
      refine ⟨_, rfl, ?_⟩
      dsimp only [tNil]
      refine reprD (dpN h1') dN_ok fun S1 q1 => ?_
      refine ⟨_, rfl, ?_⟩
      dsimp only [tNil]
      refine reprD (dpN h2) dN_ok fun S2 q2 => ⟨rfl, _, rfl, ?_⟩
      have e12 : S2 = S1 := q2.trans q1.symm
      subst e12
      refine ite2 (fun c => absurd c (ns_eq S2)) (fun _ => ?_)
      refine ⟨_, rfl, r1, _, 0, .non, rfl, rfl, SqT.of h1', rfl, rfl, _, rfl, ?_⟩
      refine ite2 (fun _ => ?_) (fun c => absurd (decide_eq_true rfl) c)
      exact q _ (s1.trans s2)
    · have hs := date_ints isd
      refine ⟨_, rfl, a, rfl, hl, (fun en => by rw [e1] at en; cases en), (fun l b' el H1 d1 r1 s1 hd1 h1 => ?_)⟩
      rw [e1] at el
      cases el
      refine ⟨_, rfl, a, rfl, hl, ha, (fun en => by rw [e2] at en; cases en), (fun l b' el H2 d2 r2 s2 hd2 h2 => ?_)⟩
      rw [e2] at el
      cases el
      refine ⟨_, _, rfl, ?_⟩
      have h1' := s2 _ _ h1
      have hd1' := s2 _ _ hd1
      refine ⟨_, rfl, ?_⟩
      dsimp only [tNil]
      refine reprD (dpB [y, mo, d, h, mi, s, z] hd1' h1') (dB_ok b hs (by show 7 ≤ 7; decide)) fun S1 q1 => ?_
      refine ⟨_, rfl, ?_⟩
      dsimp only [tNil]
      refine reprD (dpB [y, mo, d, h, mi, s, z] hd2 h2) (dB_ok b hs (by show 7 ≤ 7; decide)) fun S2 q2 => ⟨rfl, _, rfl, ?_⟩
      have e12 : S2 = S1 := q2.trans q1.symm
      subst e12
      refine ite2 (fun c => absurd c (ns_eq S2)) (fun _ => ?_)
      refine ⟨_, rfl, r1, _, 0, .ref d1, rfl, rfl, SqT.of h1', rfl, rfl, _, rfl, ?_⟩
      refine ite2 (fun c => absurd (of_decide_eq_true c) (fun z => V.noConfusion z)) (fun _ => ?_)
      refine ⟨_, rfl, r1, _, 0, .ref d1, rfl, rfl, SqT.of h1', rfl, ?_⟩
      dsimp only [tNil]
      refine ⟨d1, y, mo, d, h, mi, s, z, rfl, hd1', isd, fun H3 s3 => ?_⟩
      have lr := long_read isd
      have ll := long_len isd
      generalize longT y mo d h mi s z = L at lr ll ⊢
      refine ⟨L, rfl, ll, (fun en => by rw [lr] at en; cases en), fun l b' el H4 d4 r4 s4 hd4 h4 => ?_⟩
      rw [lr] at el
      cases el
      refine reprD (dpB [y, mo, d, h, mi, s, z] hd4 h4) (dB_ok false hs (by show 7 ≤ 7; decide)) fun S3 q3 => ?_
      have h14 := s4 _ _ (s3 _ _ h1')
      refine ⟨_, rfl, r1, _, 0, .ref d1, rfl, rfl, SqT.of h14, rfl, (by show 2 ≤ sizeLine; decide), fun p5 n5 => ?_⟩
      dsimp only [tNil]
      have s5 := same_new (o := .tup [.ref d1, .bl false]) n5
      refine reprD (dpB [y, mo, d, h, mi, s, z] (s5 _ _ (s4 _ _ (s3 _ _ hd1'))) upd_same) (dB_ok false hs (by show 7 ≤ 7; decide)) fun S4 q4 => ⟨rfl, ?_⟩
      have e34 : S4 = S3 := q4.trans q3.symm
      subst e34
      have fin := q _ ((((s1.trans s2).trans s3).trans s4).trans s5)
      rw [← s_eq S4] at fin
      exact fin
end
end Toy
set_option Elab.async false
set_option linter.all false
set_option maxRecDepth 100000
set_option maxHeartbeats 8000000
namespace Toy
open PySem PySem.Spec PyProof.Rows L2 Tx TL
theorem first_read : rlV "gi 9 ELM 123 06:07" = some ([.int 123, .int 4, .int 9, .int 6, .int 7, .int 0, .int 0], true) := by decide +kernel
theorem no_read : rlV "" = none := by decide +kernel
def oddS : List Str := ["9 Elm 123", "Be 9 Elm 123 6:07", "30 Yew 8 06:07", "30 Yew 128 06:07", "0 Ash 1 00:00", "1 Ash 0 00:00", "1 As 1 00:00", "Be Be 9 Elm 123 06:07", "9 Elm 123 06:07:08 +00:00", "9 Elm 123 06:07\n", "9 Elm 123 06:07 +05:60", "9 Elm 123 06:07 -13:60"]
theorem odd_ok : ∀ x ∈ oddS, x.length ≤ 100 ∧ asc (tl x) := by
  intro x hx
  have h := (by decide +kernel : ∀ x ∈ oddS, (decide (x.length ≤ 100) && (tl x).all fun c => decide (c < 128)) = true) x hx
  rw [Bool.and_eq_true, decide_eq_true_eq, List.all_eq_true] at h
  exact ⟨h.1, fun c hc => of_decide_eq_true (h.2 c hc)⟩
theorem eqv_dB (l : List Int) (b : Bool) : PyData.eqv (dB l b) (dB l b) = true := by
  have h : PyData.eqvAll (l.map PyData.int) (l.map PyData.int) = true := by rw [eqv_ints]; exact decide_eq_true rfl
  unfold dB dTup
  simp [PyData.eqv, PyData.eqvAll, h]
theorem shaped_dB (l : List Int) (b : Bool) : SeqAt.shaped (dB l b) = true := by
  obtain ⟨_, _, c, _⟩ := ints_data l
  have h : ∀ l : List Int, PyData.canLayAll0 (l.map PyData.int) = true := fun l => by
    induction l with
    | nil => rfl
    | cons i l ih => simp only [List.map_cons, PyData.canLayAll0, PyData.canLay0, Bool.true_and]; exact ih
  unfold SeqAt.shaped dB dTup
  simp only [PyData.canLay0, PyData.canLayAll0, PyData.depth, PyData.depthAll, c, h l, Bool.true_and]
  rfl
section
variable {P : Program} {w : World} {K : PySem.W.Frag} {mg : Str → Option Value} {base : Heap}
def sp_law (K : PySem.W.Frag) : Sp := fun vs H Q _ => ∃ (a : Addr) (ns : List Int), vs = [.ref a] ∧ SqL K H a (ns.map V.int) ∧ ns.length ≤ 63 ∧ ∀ H', Q (.bl true) H'
theorem law_in (K : PySem.W.Frag) (H : Hp) (a : Addr) (ns : List Int) (hl : ns.length ≤ 63) (hO : Only H) (hS : SqL K H a (ns.map V.int)) : sp_law K [.ref a] H (fun v _ => v = .bl true) E0 :=
  ⟨a, ns, rfl, hS, hl, fun _ => rfl⟩
theorem ok_law (T : Txt K mg) : Vz.FnG P w K mg base CX0 8 T.a_law T.d_law ["script"] (sp_law K) := by
  refine Vz.Fun.okG T.F_law sc_law (fun vs H Q E h => ?_) (fun cdv A outer s H vs Q E gd hr h => ?_)
  · obtain ⟨a, ns, rfl, _⟩ := h; rfl
  · obtain ⟨a, ns, rfl, hS, hl, q⟩ := h
    refine ⟨_, (pss_cons (ps_set (i := 1) sc_law.nd rfl (Or.inl rfl) (pe_call (ok__law_begin T) (hr.mono (by decide)) (by rfl) T.g__law_begin T.F__law_begin.kp T.b__law_begin .nil pass0 (pa_cons (pv 0) pa_nil)))
        (pss_cons (ps_if (PW.pt (pw_or (pt_cmpR (op_neD (by have := hr.units; exact this)) (pe_call (ok_read_long T) (hr.mono (by decide)) (by rfl) T.g_read_long T.F_read_long.kp T.b_read_long .nil pass0 (pa_cons pe_str pa_nil)) (pe_tup (pa_cons (pe_tup (pa_cons pe_int (pa_cons pe_int (pa_cons pe_int (pa_cons pe_int (pa_cons pe_int (pa_cons pe_int (pa_cons pe_int pa_nil)))))))) (pa_cons pe_bl pa_nil))) (nomark _)) (pw_or1 (pt_cmpR (op_neD (by have := hr.units; exact this)) (pe_call (ok_read_long T) (hr.mono (by decide)) (by rfl) T.g_read_long T.F_read_long.kp T.b_read_long .nil pass0 (pa_cons pe_str pa_nil)) (pe_tup (pa_cons pe_non (pa_cons pe_bl pa_nil))) (nomark _))))) (pss_one (ps_ret pe_bl)) pss_nil)
        (pss_cons (ps_for PassesOwn.never rfl (pi_range1 (by rfl) T.z_range (pa_cons (pe_callB (call_min2 rfl) (by rfl) T.z_min (by decide +kernel) (pa_cons pe_int (pa_cons (pe_op op_add pe_int (pe_callB call_len_seq (by rfl) T.z_len PySem.boot_len (pa_cons (pv 0) pa_nil))) pa_nil))) pa_nil)) (pg_name (i := 2) sc_law.nd rfl (Or.inl rfl)) (pss_cons (ps_set (i := 3) sc_law.nd rfl (Or.inl rfl) (pe_call (ok__law_date T) (hr.mono (by decide)) (by rfl) T.g__law_date T.F__law_date.kp T.b__law_date .nil pass0 (pa_cons (pe_call (ok__law_time T) (hr.mono (by decide)) (by rfl) T.g__law_time T.F__law_time.kp T.b__law_time .nil pass0 (pa_cons (pv 1) pa_nil)) (pa_cons (pe_call (ok__law_zone T) (hr.mono (by decide)) (by rfl) T.g__law_zone T.F__law_zone.kp T.b__law_zone .nil pass0 (pa_cons (pv 1) pa_nil)) pa_nil))))
        (pss_cons (ps_set (i := 3) sc_law.nd rfl (Or.inl rfl) (pe_ifExp (PW.pt (pw_or (pt_cmpR op_isN (pv 3) pe_non (nomark _)) (pw_or1 (pt_cmpR op_eq (pe_call (ok__law_next T) (hr.mono (by decide)) (by rfl) T.g__law_next T.F__law_next.kp T.b__law_next .nil pass0 (pa_cons (pv 1) (pa_cons pe_int pa_nil))) pe_int (nomark _))))) (pe_tup (pa_cons pe_int (pa_cons pe_int (pa_cons pe_int (pa_cons pe_int (pa_cons pe_int (pa_cons pe_int (pa_cons pe_int pa_nil)))))))) (pv 3)))
        (pss_cons (ps_set (i := 4) sc_law.nd rfl (Or.inl rfl) (pe_call (ok__law_varied T) (hr.mono (by decide)) (by rfl) T.g__law_varied T.F__law_varied.kp T.b__law_varied .nil pass0 (pa_cons (pv 1) (pa_cons (pv 3) pa_nil))))
        (pss_cons (ps_set (i := 5) sc_law.nd rfl (Or.inl rfl) (pe_lst (pa_cons pe_str (pa_cons pe_str (pa_cons pe_str (pa_cons pe_str (pa_cons pe_str (pa_cons pe_str (pa_cons pe_str (pa_cons pe_str (pa_cons pe_str (pa_cons pe_str (pa_cons pe_str (pa_cons pe_str pa_nil))))))))))))))
        (pss_cons (ps_set (i := 5) sc_law.nd rfl (Or.inl rfl) (pe_ix ix_list (pv 5) (pe_call (ok__law_next T) (hr.mono (by decide)) (by rfl) T.g__law_next T.F__law_next.kp T.b__law_next .nil pass0 (pa_cons (pv 1) (pa_cons pe_int pa_nil))) (fun _ _ => rfl)))
        (pss_one (ps_for PassesOwn.never rfl (pi_tup (pe_tup (pa_cons (pv 4) (pa_cons (pe_call (ok__law_bent T) (hr.mono (by decide)) (by rfl) T.g__law_bent T.F__law_bent.kp T.b__law_bent .nil pass0 (pa_cons (pv 1) (pa_cons (pv 4) pa_nil))) (pa_cons (pe_call (ok__law_bent T) (hr.mono (by decide)) (by rfl) T.g__law_bent T.F__law_bent.kp T.b__law_bent .nil pass0 (pa_cons (pv 1) (pa_cons (pe_call (ok__law_bent T) (hr.mono (by decide)) (by rfl) T.g__law_bent T.F__law_bent.kp T.b__law_bent .nil pass0 (pa_cons (pv 1) (pa_cons (pv 4) pa_nil))) pa_nil))) (pa_cons (pv 5) pa_nil)))))) (pg_name (i := 6) sc_law.nd rfl (Or.inl rfl)) (pss_one (ps_if (pt_not (pt_val (Vz.pe_callG (ok__law_right T) gd (hr.mono (by decide)) (by rfl) T.g__law_right T.F__law_right.kp T.b__law_right .nil pass0 (pa_cons (pv 6) pa_nil)))) (pss_one (ps_ret pe_bl)) pss_nil))))))))))
        (pss_one (ps_ret pe_bl))))), ?_⟩
    refine ⟨_, rfl, a, ns, rfl, hS, hl, fun H1 d s1 nd1 D1 => ?_⟩
    refine ⟨"gi 9 ELM 123 06:07", rfl, by decide +kernel, (fun en => by rw [first_read] at en; cases en), fun l b el H2 d2 r2 s2 hd2 h2 => ?_⟩
    rw [first_read] at el
    cases el
    refine ⟨(by show 7 ≤ sizeLine; decide), fun p3 n3 => ⟨(by show 2 ≤ sizeLine; decide), fun p4 n4 => ?_⟩⟩
    have s3 := same_new (o := .tup [.int 123, .int 4, .int 9, .int 6, .int 7, .int 0, .int 0]) n3
    have s4 := same_new (o := .tup [.ref p3, .bl true]) n4
    refine ⟨dB [123, 4, 9, 6, 7, 0, 0] true, dB [123, 4, 9, 6, 7, 0, 0] true, dpB [123, 4, 9, 6, 7, 0, 0] (s4 _ _ (s3 _ _ hd2)) (s4 _ _ (s3 _ _ h2)), dpB [123, 4, 9, 6, 7, 0, 0] (s4 _ _ upd_same) upd_same, shaped_dB _ _, shaped_dB _ _, _, rfl, ?_⟩
    rw [eqv_dB]
    refine ite2 (fun z => absurd z (by decide)) (fun _ => ?_)
    refine ⟨"", rfl, by decide +kernel, (fun _ H5 r5 s5 h5 => ?_), fun l b el => by rw [no_read] at el; cases el⟩
    refine ⟨(by show 2 ≤ sizeLine; decide), fun p6 n6 => ?_⟩
    have s6 := same_new (o := .tup [.non, .bl false]) n6
    refine ⟨dN, dN, dpN (s6 _ _ h5), dpN upd_same, rfl, rfl, _, rfl, ?_⟩
    refine ite2 (fun z => absurd z (by decide)) (fun _ => ?_)
    have sA := (((s2.trans s3).trans s4).trans s5).trans s6
    have D6 := D1.same sA
    have hS6 := sA.seq (s1.seq hS)
    refine ⟨_, rfl, a, _, rfl, .inl hS6, _, _, rfl, rfl, _, _, rfl, _, rfl, ?_, ?_, ?_⟩
    · rw [List.length_map]; split <;> omega
    · rw [List.length_map]; split <;> omega
    refine for_range (fun i σ H' => ∃ x2 x3 x4 x5 x6 : Option V, σ = [some (.ref a), some (.ref d), x2, x3, x4, x5, x6] ∧ Draw H' d (40 * (i : Int))) ⟨none, none, none, none, none, rfl, D6.more (by omega)⟩ ?_ ?_
    · rintro i σ H4 hi ⟨x2, x3, x4, x5, x6, rfl, D4⟩
      have i20 : i ≤ 20 := by
        rw [List.length_map] at hi
        have : i < ((if 5 + (ns.length : Int) < 20 then 5 + (ns.length : Int) else 20)).toNat := hi
        split at this <;> omega
      dsimp only [gName]
      refine asg_any (fun Hx v => Draw Hx d (40 * (i : Int) + 9) ∧ (v = .non ∨ ∃ r y mo dd h mi s z, v = .ref r ∧ Hx r = some (.tup [.int y, .int mo, .int dd, .int h, .int mi, .int s, .int z]) ∧ Bd y mo dd h mi s z)) (fun R r => ?_) (fun H7 v k7 => ?_)
      · refine ⟨_, rfl, d, _, rfl, D4, by omega, fun H5 t k5 D5 t0 t1 => ?_⟩
        refine ⟨_, rfl, d, _, rfl, D5, by omega, fun H6 z k6 D6 z0 z1 => ?_⟩
        refine ⟨t, z, rfl, t0, t1, fun en H7 s7 => r H7 _ ⟨(D6.same s7).more (by omega), .inl rfl⟩, fun l el H7 r7 s7 n7 h7 => ?_⟩
        obtain ⟨y, mo, dd, h, mi, s, rfl, isd, _⟩ := Ma.date_parts t0 t1 z0 z1 el
        exact r H7 _ ⟨(D6.same s7).more (by omega), .inr ⟨r7, y, mo, dd, h, mi, s, z, rfl, h7, date_bounds isd⟩⟩
      obtain ⟨D7, k7⟩ := k7
      refine asg_any (fun Hx v => Draw Hx d (40 * (i : Int) + 10) ∧ ∃ r y mo dd h mi s z, v = .ref r ∧ Hx r = some (.tup [.int y, .int mo, .int dd, .int h, .int mi, .int s, .int z]) ∧ Bd y mo dd h mi s z) (fun R r => ?_) (fun H8 v8 k8 => ?_)
      · have put : ∀ Hx, Draw Hx d (40 * (i : Int) + 10) → ∀ p8, Hx p8 = none → R (.ref p8) (upd Hx p8 (.tup [.int 40, .int 13, .int 29, .int 23, .int 59, .int 60, .int 0])) := fun Hx D p8 n8 =>
          r _ _ ⟨D.same (same_new n8), p8, 40, 13, 29, 23, 59, 60, 0, rfl, upd_same, by unfold Bd; omega⟩
        rcases k7 with rfl | ⟨r7, y, mo, dd, h, mi, s, z, rfl, h7, isd⟩
        · refine ⟨_, rfl, rfl, _, rfl, ?_⟩
          refine ite2 (fun _ => ?_) (fun c => absurd (decide_eq_true rfl) c)
          exact ⟨(by show 7 ≤ sizeLine; decide), put _ (D7.more (by omega))⟩
        · refine ⟨_, rfl, rfl, _, rfl, ?_⟩
          refine ite2 (fun c => absurd (of_decide_eq_true c) (fun z => V.noConfusion z)) (fun _ => ?_)
          have ne7 : r7 ≠ d := by
            obtain ⟨kvs, hd⟩ := D7.dic
            intro e; rw [e, hd] at h7; cases h7
          refine ⟨_, rfl, d, 8, _, rfl, D7, by decide, by decide, by omega, fun H8 k8 kp8 D8 _ _ => ⟨rfl, _, rfl, ?_⟩⟩
          have D8' := D8.more (show 40 * (i : Int) + 9 + 1 ≤ 40 * (i : Int) + 10 by omega)
          refine ite2 (fun _ => ?_) (fun _ => ?_)
          · exact ⟨(by show 7 ≤ sizeLine; decide), put _ D8'⟩
          · exact ⟨_, rfl, r H8 _ ⟨D8', r7, y, mo, dd, h, mi, s, z, rfl, kp8 _ _ ne7 h7, isd⟩⟩
      obtain ⟨D8, r8, y, mo, dd, h, mi, s, z, rfl, h8, bd⟩ := k8
      -- letters
      refine ⟨_, rfl, _, rfl, d, _, r8, y, mo, dd, h, mi, s, z, rfl, D8, by omega, h8, bd, fun H9 S kp9 D9 L1 A1 => ?_⟩
      -- odd
      refine ⟨(by show 12 ≤ sizeLine; decide), fun p10 n10 => ?_⟩
      have s10 := same_new (o := .lst (oddS.map V.str)) n10
      have ne10 := Good.dictNe D9 n10
      refine ⟨_, rfl, _, rfl, d, 12, _, rfl, D9.same s10, by decide, by decide, by omega, fun H11 k11 kp11 D11 a11 b11 => ?_⟩
      obtain ⟨v, hv, hm⟩ := at_some (xs := oddS.map V.str) a11 b11
      obtain ⟨o, hom, rfl⟩ := List.mem_map.mp hm
      obtain ⟨o1, o2⟩ := odd_ok o hom
      refine ⟨p10, _, k11, _, rfl, rfl, SqL.of (kp11 _ _ ne10 upd_same), hv, ?_⟩
      -- the four
      refine ⟨_, rfl, _, rfl, _, rfl, d, _, S, rfl, D11, by omega, by omega, A1, fun H12 x12 k12 D12 l12 a12 => ?_⟩
      refine ⟨_, rfl, _, rfl, _, rfl, d, _, S, rfl, D12, by omega, by omega, A1, fun H13 x13 k13 D13 l13 a13 => ?_⟩
      refine ⟨d, _, x13, rfl, D13, by omega, by omega, a13, fun H14 x14 k14 D14 l14 a14 => ?_⟩
      refine ⟨_, rfl, (by show 4 ≤ sizeLine; decide), fun p15 n15 => ?_⟩
      have s15 := same_new (o := .tup ([S, x12, x14, o].map V.str)) n15
      have D15 := D14.same s15
      have g15 := upd_same (H := H14) (a := p15) (o := .tup ([S, x12, x14, o].map V.str))
      refine ⟨p15, rfl, ⟨_, SqT.of g15⟩, ?_⟩
      refine for_tup (D := ⟨_, _, _, _⟩) (xs := ([S, x12, x14, o] : List Str).map V.str) (fun j σ H' => ∃ x6 : Option V, σ = [some (.ref a), some (.ref d), some (.int (0 + (i : Int))), some (.ref r8), some (.str S), some (.str o), x6] ∧ Same (upd H14 p15 (.tup ([S, x12, x14, o].map V.str))) H') ⟨x6, rfl, fun _ _ e => e⟩ ?_ ?_ ?_
      · rintro j σ H' _ ⟨x6, _, e⟩
        exact SqT.of (e _ _ g15)
      · rintro j x σ H16 hx ⟨x6, rfl, s16⟩
        rw [List.getElem?_map] at hx
        obtain ⟨u, hu, rfl⟩ := Option.map_eq_some_iff.mp hx
        have hm := List.mem_of_getElem? hu
        obtain ⟨u1, u2⟩ : u.length ≤ 100 ∧ asc (tl u) := by
          simp only [List.mem_cons, List.not_mem_nil, or_false] at hm
          rcases hm with rfl | rfl | rfl | rfl
          · exact ⟨by omega, A1⟩
          · exact ⟨by omega, a12⟩
          · exact ⟨by omega, a14⟩
          · exact ⟨o1, o2⟩
        refine ⟨_, rfl, u, rfl, u1, u2, fun H17 s17 => ⟨_, rfl, iteF ?_⟩⟩
        exact ⟨_, rfl, s16.trans s17⟩
      · rintro σ H16 ⟨x6, rfl, s16⟩
        exact ⟨_, _, _, _, _, rfl, (D15.same s16).more (by omega)⟩
    · rintro σ H' ⟨x2, x3, x4, x5, x6, rfl, D2⟩
      exact q _
end
end Toy
set_option Elab.async false
set_option linter.all false
set_option maxRecDepth 100000
set_option maxHeartbeats 8000000
namespace Toy
open PySem PySem.Spec PyProof.Rows L2
theorem all_mk {l : PySem.W.OpenLaw} {w : World} {K : PySem.W.Frag} {h : Heap} {mg : Str → Option Value} {fa : Addr} (X : K.In h) (G : h.Ns mainGlobals mg) (hfa : mg "law" = some (.ref fa))
    {f1 : Addr} {od1 an1 : Option Addr} {sl1 : Array (Option Value)} {oc1 kV1 dc1 pm1 cd1 ct1 : Value}
    (a1 : PySem.W.nsIn K mainGlobals "is_int" = some (some (.ref f1))) (l1 : K.lookup f1 = some ⟨oc1, od1, .func (PySem.W.fnOf "is_int" "is_int" (defArgs s_is_int) (defBody s_is_int) (defScope s_is_int) .none kV1 dc1 pm1 an1 cd1 ct1), sl1⟩)
    (c1 : PySem.W.codeIn K cd1 "is_int" = true) (k1 : PySem.W.keepIn K (.ref f1) = true)
    {f2 : Addr} {od2 an2 : Option Addr} {sl2 : Array (Option Value)} {oc2 kV2 dc2 pm2 cd2 ct2 : Value}
    (a2 : PySem.W.nsIn K mainGlobals "is_within" = some (some (.ref f2))) (l2 : K.lookup f2 = some ⟨oc2, od2, .func (PySem.W.fnOf "is_within" "is_within" (defArgs s_is_within) (defBody s_is_within) (defScope s_is_within) .none kV2 dc2 pm2 an2 cd2 ct2), sl2⟩)
    (c2 : PySem.W.codeIn K cd2 "is_within" = true) (k2 : PySem.W.keepIn K (.ref f2) = true)
    {f3 : Addr} {od3 an3 : Option Addr} {sl3 : Array (Option Value)} {oc3 kV3 dc3 pm3 cd3 ct3 : Value}
    (a3 : PySem.W.nsIn K mainGlobals "consists_of" = some (some (.ref f3))) (l3 : K.lookup f3 = some ⟨oc3, od3, .func (PySem.W.fnOf "consists_of" "consists_of" (defArgs s_consists_of) (defBody s_consists_of) (defScope s_consists_of) .none kV3 dc3 pm3 an3 cd3 ct3), sl3⟩)
    (c3 : PySem.W.codeIn K cd3 "consists_of" = true) (k3 : PySem.W.keepIn K (.ref f3) = true)
    {f4 : Addr} {od4 an4 : Option Addr} {sl4 : Array (Option Value)} {oc4 kV4 dc4 pm4 cd4 ct4 : Value}
    (a4 : PySem.W.nsIn K mainGlobals "is_zone" = some (some (.ref f4))) (l4 : K.lookup f4 = some ⟨oc4, od4, .func (PySem.W.fnOf "is_zone" "is_zone" (defArgs s_is_zone) (defBody s_is_zone) (defScope s_is_zone) .none kV4 dc4 pm4 an4 cd4 ct4), sl4⟩)
    (c4 : PySem.W.codeIn K cd4 "is_zone" = true) (k4 : PySem.W.keepIn K (.ref f4) = true)
    {f5 : Addr} {od5 an5 : Option Addr} {sl5 : Array (Option Value)} {oc5 kV5 dc5 pm5 cd5 ct5 : Value}
    (a5 : PySem.W.nsIn K mainGlobals "is_date" = some (some (.ref f5))) (l5 : K.lookup f5 = some ⟨oc5, od5, .func (PySem.W.fnOf "is_date" "is_date" (defArgs s_is_date) (defBody s_is_date) (defScope s_is_date) .none kV5 dc5 pm5 an5 cd5 ct5), sl5⟩)
    (c5 : PySem.W.codeIn K cd5 "is_date" = true) (k5 : PySem.W.keepIn K (.ref f5) = true)
    {f6 : Addr} {od6 an6 : Option Addr} {sl6 : Array (Option Value)} {oc6 kV6 dc6 pm6 cd6 ct6 : Value}
    (a6 : PySem.W.nsIn K mainGlobals "long_text" = some (some (.ref f6))) (l6 : K.lookup f6 = some ⟨oc6, od6, .func (PySem.W.fnOf "long_text" "long_text" (defArgs s_long_text) (defBody s_long_text) (defScope s_long_text) .none kV6 dc6 pm6 an6 cd6 ct6), sl6⟩)
    (c6 : PySem.W.codeIn K cd6 "long_text" = true) (k6 : PySem.W.keepIn K (.ref f6) = true)
    {f7 : Addr} {od7 an7 : Option Addr} {sl7 : Array (Option Value)} {oc7 kV7 dc7 pm7 cd7 ct7 : Value}
    (a7 : PySem.W.nsIn K mainGlobals "read_long" = some (some (.ref f7))) (l7 : K.lookup f7 = some ⟨oc7, od7, .func (PySem.W.fnOf "read_long" "read_long" (defArgs s_read_long) (defBody s_read_long) (defScope s_read_long) .none kV7 dc7 pm7 an7 cd7 ct7), sl7⟩)
    (c7 : PySem.W.codeIn K cd7 "read_long" = true) (k7 : PySem.W.keepIn K (.ref f7) = true)
    {f8 : Addr} {od8 an8 : Option Addr} {sl8 : Array (Option Value)} {oc8 kV8 dc8 pm8 cd8 ct8 : Value}
    (a8 : PySem.W.nsIn K mainGlobals "_days_before" = some (some (.ref f8))) (l8 : K.lookup f8 = some ⟨oc8, od8, .func (PySem.W.fnOf "_days_before" "_days_before" (defArgs s__days_before) (defBody s__days_before) (defScope s__days_before) .none kV8 dc8 pm8 an8 cd8 ct8), sl8⟩)
    (c8 : PySem.W.codeIn K cd8 "_days_before" = true) (k8 : PySem.W.keepIn K (.ref f8) = true)
    {f9 : Addr} {od9 an9 : Option Addr} {sl9 : Array (Option Value)} {oc9 kV9 dc9 pm9 cd9 ct9 : Value}
    (a9 : PySem.W.nsIn K mainGlobals "_year_of_day" = some (some (.ref f9))) (l9 : K.lookup f9 = some ⟨oc9, od9, .func (PySem.W.fnOf "_year_of_day" "_year_of_day" (defArgs s__year_of_day) (defBody s__year_of_day) (defScope s__year_of_day) .none kV9 dc9 pm9 an9 cd9 ct9), sl9⟩)
    (c9 : PySem.W.codeIn K cd9 "_year_of_day" = true) (k9 : PySem.W.keepIn K (.ref f9) = true)
    {f10 : Addr} {od10 an10 : Option Addr} {sl10 : Array (Option Value)} {oc10 kV10 dc10 pm10 cd10 ct10 : Value}
    (a10 : PySem.W.nsIn K mainGlobals "_days_in_month" = some (some (.ref f10))) (l10 : K.lookup f10 = some ⟨oc10, od10, .func (PySem.W.fnOf "_days_in_month" "_days_in_month" (defArgs s__days_in_month) (defBody s__days_in_month) (defScope s__days_in_month) .none kV10 dc10 pm10 an10 cd10 ct10), sl10⟩)
    (c10 : PySem.W.codeIn K cd10 "_days_in_month" = true) (k10 : PySem.W.keepIn K (.ref f10) = true)
    {f11 : Addr} {od11 an11 : Option Addr} {sl11 : Array (Option Value)} {oc11 kV11 dc11 pm11 cd11 ct11 : Value}
    (a11 : PySem.W.nsIn K mainGlobals "_fits_calendar" = some (some (.ref f11))) (l11 : K.lookup f11 = some ⟨oc11, od11, .func (PySem.W.fnOf "_fits_calendar" "_fits_calendar" (defArgs s__fits_calendar) (defBody s__fits_calendar) (defScope s__fits_calendar) .none kV11 dc11 pm11 an11 cd11 ct11), sl11⟩)
    (c11 : PySem.W.codeIn K cd11 "_fits_calendar" = true) (k11 : PySem.W.keepIn K (.ref f11) = true)
    {f12 : Addr} {od12 an12 : Option Addr} {sl12 : Array (Option Value)} {oc12 kV12 dc12 pm12 cd12 ct12 : Value}
    (a12 : PySem.W.nsIn K mainGlobals "_seconds_before" = some (some (.ref f12))) (l12 : K.lookup f12 = some ⟨oc12, od12, .func (PySem.W.fnOf "_seconds_before" "_seconds_before" (defArgs s__seconds_before) (defBody s__seconds_before) (defScope s__seconds_before) .none kV12 dc12 pm12 an12 cd12 ct12), sl12⟩)
    (c12 : PySem.W.codeIn K cd12 "_seconds_before" = true) (k12 : PySem.W.keepIn K (.ref f12) = true)
    {f13 : Addr} {od13 an13 : Option Addr} {sl13 : Array (Option Value)} {oc13 kV13 dc13 pm13 cd13 ct13 : Value}
    (a13 : PySem.W.nsIn K mainGlobals "_is_before_leap_second" = some (some (.ref f13))) (l13 : K.lookup f13 = some ⟨oc13, od13, .func (PySem.W.fnOf "_is_before_leap_second" "_is_before_leap_second" (defArgs s__is_before_leap_second) (defBody s__is_before_leap_second) (defScope s__is_before_leap_second) .none kV13 dc13 pm13 an13 cd13 ct13), sl13⟩)
    (c13 : PySem.W.codeIn K cd13 "_is_before_leap_second" = true) (k13 : PySem.W.keepIn K (.ref f13) = true)
    {f14 : Addr} {od14 an14 : Option Addr} {sl14 : Array (Option Value)} {oc14 kV14 dc14 pm14 cd14 ct14 : Value}
    (a14 : PySem.W.nsIn K mainGlobals "_weekday" = some (some (.ref f14))) (l14 : K.lookup f14 = some ⟨oc14, od14, .func (PySem.W.fnOf "_weekday" "_weekday" (defArgs s__weekday) (defBody s__weekday) (defScope s__weekday) .none kV14 dc14 pm14 an14 cd14 ct14), sl14⟩)
    (c14 : PySem.W.codeIn K cd14 "_weekday" = true) (k14 : PySem.W.keepIn K (.ref f14) = true)
    {f15 : Addr} {od15 an15 : Option Addr} {sl15 : Array (Option Value)} {oc15 kV15 dc15 pm15 cd15 ct15 : Value}
    (a15 : PySem.W.nsIn K mainGlobals "_time_text" = some (some (.ref f15))) (l15 : K.lookup f15 = some ⟨oc15, od15, .func (PySem.W.fnOf "_time_text" "_time_text" (defArgs s__time_text) (defBody s__time_text) (defScope s__time_text) .none kV15 dc15 pm15 an15 cd15 ct15), sl15⟩)
    (c15 : PySem.W.codeIn K cd15 "_time_text" = true) (k15 : PySem.W.keepIn K (.ref f15) = true)
    {f16 : Addr} {od16 an16 : Option Addr} {sl16 : Array (Option Value)} {oc16 kV16 dc16 pm16 cd16 ct16 : Value}
    (a16 : PySem.W.nsIn K mainGlobals "_zone_text" = some (some (.ref f16))) (l16 : K.lookup f16 = some ⟨oc16, od16, .func (PySem.W.fnOf "_zone_text" "_zone_text" (defArgs s__zone_text) (defBody s__zone_text) (defScope s__zone_text) .none kV16 dc16 pm16 an16 cd16 ct16), sl16⟩)
    (c16 : PySem.W.codeIn K cd16 "_zone_text" = true) (k16 : PySem.W.keepIn K (.ref f16) = true)
    {f17 : Addr} {od17 an17 : Option Addr} {sl17 : Array (Option Value)} {oc17 kV17 dc17 pm17 cd17 ct17 : Value}
    (a17 : PySem.W.nsIn K mainGlobals "_date_of_words" = some (some (.ref f17))) (l17 : K.lookup f17 = some ⟨oc17, od17, .func (PySem.W.fnOf "_date_of_words" "_date_of_words" (defArgs s__date_of_words) (defBody s__date_of_words) (defScope s__date_of_words) .none kV17 dc17 pm17 an17 cd17 ct17), sl17⟩)
    (c17 : PySem.W.codeIn K cd17 "_date_of_words" = true) (k17 : PySem.W.keepIn K (.ref f17) = true)
    {f18 : Addr} {od18 an18 : Option Addr} {sl18 : Array (Option Value)} {oc18 kV18 dc18 pm18 cd18 ct18 : Value}
    (a18 : PySem.W.nsIn K mainGlobals "_plain_number" = some (some (.ref f18))) (l18 : K.lookup f18 = some ⟨oc18, od18, .func (PySem.W.fnOf "_plain_number" "_plain_number" (defArgs s__plain_number) (defBody s__plain_number) (defScope s__plain_number) .none kV18 dc18 pm18 an18 cd18 ct18), sl18⟩)
    (c18 : PySem.W.codeIn K cd18 "_plain_number" = true) (k18 : PySem.W.keepIn K (.ref f18) = true)
    {f19 : Addr} {od19 an19 : Option Addr} {sl19 : Array (Option Value)} {oc19 kV19 dc19 pm19 cd19 ct19 : Value}
    (a19 : PySem.W.nsIn K mainGlobals "_number_of_digits" = some (some (.ref f19))) (l19 : K.lookup f19 = some ⟨oc19, od19, .func (PySem.W.fnOf "_number_of_digits" "_number_of_digits" (defArgs s__number_of_digits) (defBody s__number_of_digits) (defScope s__number_of_digits) .none kV19 dc19 pm19 an19 cd19 ct19), sl19⟩)
    (c19 : PySem.W.codeIn K cd19 "_number_of_digits" = true) (k19 : PySem.W.keepIn K (.ref f19) = true)
    {f20 : Addr} {od20 an20 : Option Addr} {sl20 : Array (Option Value)} {oc20 kV20 dc20 pm20 cd20 ct20 : Value}
    (a20 : PySem.W.nsIn K mainGlobals "_month_of" = some (some (.ref f20))) (l20 : K.lookup f20 = some ⟨oc20, od20, .func (PySem.W.fnOf "_month_of" "_month_of" (defArgs s__month_of) (defBody s__month_of) (defScope s__month_of) .none kV20 dc20 pm20 an20 cd20 ct20), sl20⟩)
    (c20 : PySem.W.codeIn K cd20 "_month_of" = true) (k20 : PySem.W.keepIn K (.ref f20) = true)
    {f21 : Addr} {od21 an21 : Option Addr} {sl21 : Array (Option Value)} {oc21 kV21 dc21 pm21 cd21 ct21 : Value}
    (a21 : PySem.W.nsIn K mainGlobals "_time_of" = some (some (.ref f21))) (l21 : K.lookup f21 = some ⟨oc21, od21, .func (PySem.W.fnOf "_time_of" "_time_of" (defArgs s__time_of) (defBody s__time_of) (defScope s__time_of) .none kV21 dc21 pm21 an21 cd21 ct21), sl21⟩)
    (c21 : PySem.W.codeIn K cd21 "_time_of" = true) (k21 : PySem.W.keepIn K (.ref f21) = true)
    {f22 : Addr} {od22 an22 : Option Addr} {sl22 : Array (Option Value)} {oc22 kV22 dc22 pm22 cd22 ct22 : Value}
    (a22 : PySem.W.nsIn K mainGlobals "_zone_of" = some (some (.ref f22))) (l22 : K.lookup f22 = some ⟨oc22, od22, .func (PySem.W.fnOf "_zone_of" "_zone_of" (defArgs s__zone_of) (defBody s__zone_of) (defScope s__zone_of) .none kV22 dc22 pm22 an22 cd22 ct22), sl22⟩)
    (c22 : PySem.W.codeIn K cd22 "_zone_of" = true) (k22 : PySem.W.keepIn K (.ref f22) = true)
    {f23 : Addr} {od23 an23 : Option Addr} {sl23 : Array (Option Value)} {oc23 kV23 dc23 pm23 cd23 ct23 : Value}
    (a23 : PySem.W.nsIn K mainGlobals "_law_begin" = some (some (.ref f23))) (l23 : K.lookup f23 = some ⟨oc23, od23, .func (PySem.W.fnOf "_law_begin" "_law_begin" (defArgs s__law_begin) (defBody s__law_begin) (defScope s__law_begin) .none kV23 dc23 pm23 an23 cd23 ct23), sl23⟩)
    (c23 : PySem.W.codeIn K cd23 "_law_begin" = true) (k23 : PySem.W.keepIn K (.ref f23) = true)
    {f24 : Addr} {od24 an24 : Option Addr} {sl24 : Array (Option Value)} {oc24 kV24 dc24 pm24 cd24 ct24 : Value}
    (a24 : PySem.W.nsIn K mainGlobals "_law_mixed" = some (some (.ref f24))) (l24 : K.lookup f24 = some ⟨oc24, od24, .func (PySem.W.fnOf "_law_mixed" "_law_mixed" (defArgs s__law_mixed) (defBody s__law_mixed) (defScope s__law_mixed) .none kV24 dc24 pm24 an24 cd24 ct24), sl24⟩)
    (c24 : PySem.W.codeIn K cd24 "_law_mixed" = true) (k24 : PySem.W.keepIn K (.ref f24) = true)
    {f25 : Addr} {od25 an25 : Option Addr} {sl25 : Array (Option Value)} {oc25 kV25 dc25 pm25 cd25 ct25 : Value}
    (a25 : PySem.W.nsIn K mainGlobals "_law_next" = some (some (.ref f25))) (l25 : K.lookup f25 = some ⟨oc25, od25, .func (PySem.W.fnOf "_law_next" "_law_next" (defArgs s__law_next) (defBody s__law_next) (defScope s__law_next) .none kV25 dc25 pm25 an25 cd25 ct25), sl25⟩)
    (c25 : PySem.W.codeIn K cd25 "_law_next" = true) (k25 : PySem.W.keepIn K (.ref f25) = true)
    {f26 : Addr} {od26 an26 : Option Addr} {sl26 : Array (Option Value)} {oc26 kV26 dc26 pm26 cd26 ct26 : Value}
    (a26 : PySem.W.nsIn K mainGlobals "_law_days" = some (some (.ref f26))) (l26 : K.lookup f26 = some ⟨oc26, od26, .func (PySem.W.fnOf "_law_days" "_law_days" (defArgs s__law_days) (defBody s__law_days) (defScope s__law_days) .none kV26 dc26 pm26 an26 cd26 ct26), sl26⟩)
    (c26 : PySem.W.codeIn K cd26 "_law_days" = true) (k26 : PySem.W.keepIn K (.ref f26) = true)
    {f27 : Addr} {od27 an27 : Option Addr} {sl27 : Array (Option Value)} {oc27 kV27 dc27 pm27 cd27 ct27 : Value}
    (a27 : PySem.W.nsIn K mainGlobals "_law_begin_of" = some (some (.ref f27))) (l27 : K.lookup f27 = some ⟨oc27, od27, .func (PySem.W.fnOf "_law_begin_of" "_law_begin_of" (defArgs s__law_begin_of) (defBody s__law_begin_of) (defScope s__law_begin_of) .none kV27 dc27 pm27 an27 cd27 ct27), sl27⟩)
    (c27 : PySem.W.codeIn K cd27 "_law_begin_of" = true) (k27 : PySem.W.keepIn K (.ref f27) = true)
    {f28 : Addr} {od28 an28 : Option Addr} {sl28 : Array (Option Value)} {oc28 kV28 dc28 pm28 cd28 ct28 : Value}
    (a28 : PySem.W.nsIn K mainGlobals "_law_local" = some (some (.ref f28))) (l28 : K.lookup f28 = some ⟨oc28, od28, .func (PySem.W.fnOf "_law_local" "_law_local" (defArgs s__law_local) (defBody s__law_local) (defScope s__law_local) .none kV28 dc28 pm28 an28 cd28 ct28), sl28⟩)
    (c28 : PySem.W.codeIn K cd28 "_law_local" = true) (k28 : PySem.W.keepIn K (.ref f28) = true)
    {f29 : Addr} {od29 an29 : Option Addr} {sl29 : Array (Option Value)} {oc29 kV29 dc29 pm29 cd29 ct29 : Value}
    (a29 : PySem.W.nsIn K mainGlobals "_law_date" = some (some (.ref f29))) (l29 : K.lookup f29 = some ⟨oc29, od29, .func (PySem.W.fnOf "_law_date" "_law_date" (defArgs s__law_date) (defBody s__law_date) (defScope s__law_date) .none kV29 dc29 pm29 an29 cd29 ct29), sl29⟩)
    (c29 : PySem.W.codeIn K cd29 "_law_date" = true) (k29 : PySem.W.keepIn K (.ref f29) = true)
    {f30 : Addr} {od30 an30 : Option Addr} {sl30 : Array (Option Value)} {oc30 kV30 dc30 pm30 cd30 ct30 : Value}
    (a30 : PySem.W.nsIn K mainGlobals "_law_is_whole" = some (some (.ref f30))) (l30 : K.lookup f30 = some ⟨oc30, od30, .func (PySem.W.fnOf "_law_is_whole" "_law_is_whole" (defArgs s__law_is_whole) (defBody s__law_is_whole) (defScope s__law_is_whole) .none kV30 dc30 pm30 an30 cd30 ct30), sl30⟩)
    (c30 : PySem.W.codeIn K cd30 "_law_is_whole" = true) (k30 : PySem.W.keepIn K (.ref f30) = true)
    {f31 : Addr} {od31 an31 : Option Addr} {sl31 : Array (Option Value)} {oc31 kV31 dc31 pm31 cd31 ct31 : Value}
    (a31 : PySem.W.nsIn K mainGlobals "_law_moment" = some (some (.ref f31))) (l31 : K.lookup f31 = some ⟨oc31, od31, .func (PySem.W.fnOf "_law_moment" "_law_moment" (defArgs s__law_moment) (defBody s__law_moment) (defScope s__law_moment) .none kV31 dc31 pm31 an31 cd31 ct31), sl31⟩)
    (c31 : PySem.W.codeIn K cd31 "_law_moment" = true) (k31 : PySem.W.keepIn K (.ref f31) = true)
    {f32 : Addr} {od32 an32 : Option Addr} {sl32 : Array (Option Value)} {oc32 kV32 dc32 pm32 cd32 ct32 : Value}
    (a32 : PySem.W.nsIn K mainGlobals "_law_year" = some (some (.ref f32))) (l32 : K.lookup f32 = some ⟨oc32, od32, .func (PySem.W.fnOf "_law_year" "_law_year" (defArgs s__law_year) (defBody s__law_year) (defScope s__law_year) .none kV32 dc32 pm32 an32 cd32 ct32), sl32⟩)
    (c32 : PySem.W.codeIn K cd32 "_law_year" = true) (k32 : PySem.W.keepIn K (.ref f32) = true)
    {f33 : Addr} {od33 an33 : Option Addr} {sl33 : Array (Option Value)} {oc33 kV33 dc33 pm33 cd33 ct33 : Value}
    (a33 : PySem.W.nsIn K mainGlobals "_law_time" = some (some (.ref f33))) (l33 : K.lookup f33 = some ⟨oc33, od33, .func (PySem.W.fnOf "_law_time" "_law_time" (defArgs s__law_time) (defBody s__law_time) (defScope s__law_time) .none kV33 dc33 pm33 an33 cd33 ct33), sl33⟩)
    (c33 : PySem.W.codeIn K cd33 "_law_time" = true) (k33 : PySem.W.keepIn K (.ref f33) = true)
    {f34 : Addr} {od34 an34 : Option Addr} {sl34 : Array (Option Value)} {oc34 kV34 dc34 pm34 cd34 ct34 : Value}
    (a34 : PySem.W.nsIn K mainGlobals "_law_zone" = some (some (.ref f34))) (l34 : K.lookup f34 = some ⟨oc34, od34, .func (PySem.W.fnOf "_law_zone" "_law_zone" (defArgs s__law_zone) (defBody s__law_zone) (defScope s__law_zone) .none kV34 dc34 pm34 an34 cd34 ct34), sl34⟩)
    (c34 : PySem.W.codeIn K cd34 "_law_zone" = true) (k34 : PySem.W.keepIn K (.ref f34) = true)
    {f35 : Addr} {od35 an35 : Option Addr} {sl35 : Array (Option Value)} {oc35 kV35 dc35 pm35 cd35 ct35 : Value}
    (a35 : PySem.W.nsIn K mainGlobals "_law_two" = some (some (.ref f35))) (l35 : K.lookup f35 = some ⟨oc35, od35, .func (PySem.W.fnOf "_law_two" "_law_two" (defArgs s__law_two) (defBody s__law_two) (defScope s__law_two) .none kV35 dc35 pm35 an35 cd35 ct35), sl35⟩)
    (c35 : PySem.W.codeIn K cd35 "_law_two" = true) (k35 : PySem.W.keepIn K (.ref f35) = true)
    {f36 : Addr} {od36 an36 : Option Addr} {sl36 : Array (Option Value)} {oc36 kV36 dc36 pm36 cd36 ct36 : Value}
    (a36 : PySem.W.nsIn K mainGlobals "_law_zone_text" = some (some (.ref f36))) (l36 : K.lookup f36 = some ⟨oc36, od36, .func (PySem.W.fnOf "_law_zone_text" "_law_zone_text" (defArgs s__law_zone_text) (defBody s__law_zone_text) (defScope s__law_zone_text) .none kV36 dc36 pm36 an36 cd36 ct36), sl36⟩)
    (c36 : PySem.W.codeIn K cd36 "_law_zone_text" = true) (k36 : PySem.W.keepIn K (.ref f36) = true)
    {f37 : Addr} {od37 an37 : Option Addr} {sl37 : Array (Option Value)} {oc37 kV37 dc37 pm37 cd37 ct37 : Value}
    (a37 : PySem.W.nsIn K mainGlobals "_law_long" = some (some (.ref f37))) (l37 : K.lookup f37 = some ⟨oc37, od37, .func (PySem.W.fnOf "_law_long" "_law_long" (defArgs s__law_long) (defBody s__law_long) (defScope s__law_long) .none kV37 dc37 pm37 an37 cd37 ct37), sl37⟩)
    (c37 : PySem.W.codeIn K cd37 "_law_long" = true) (k37 : PySem.W.keepIn K (.ref f37) = true)
    {f38 : Addr} {od38 an38 : Option Addr} {sl38 : Array (Option Value)} {oc38 kV38 dc38 pm38 cd38 ct38 : Value}
    (a38 : PySem.W.nsIn K mainGlobals "_law_number" = some (some (.ref f38))) (l38 : K.lookup f38 = some ⟨oc38, od38, .func (PySem.W.fnOf "_law_number" "_law_number" (defArgs s__law_number) (defBody s__law_number) (defScope s__law_number) .none kV38 dc38 pm38 an38 cd38 ct38), sl38⟩)
    (c38 : PySem.W.codeIn K cd38 "_law_number" = true) (k38 : PySem.W.keepIn K (.ref f38) = true)
    {f39 : Addr} {od39 an39 : Option Addr} {sl39 : Array (Option Value)} {oc39 kV39 dc39 pm39 cd39 ct39 : Value}
    (a39 : PySem.W.nsIn K mainGlobals "_law_plain_number" = some (some (.ref f39))) (l39 : K.lookup f39 = some ⟨oc39, od39, .func (PySem.W.fnOf "_law_plain_number" "_law_plain_number" (defArgs s__law_plain_number) (defBody s__law_plain_number) (defScope s__law_plain_number) .none kV39 dc39 pm39 an39 cd39 ct39), sl39⟩)
    (c39 : PySem.W.codeIn K cd39 "_law_plain_number" = true) (k39 : PySem.W.keepIn K (.ref f39) = true)
    {f40 : Addr} {od40 an40 : Option Addr} {sl40 : Array (Option Value)} {oc40 kV40 dc40 pm40 cd40 ct40 : Value}
    (a40 : PySem.W.nsIn K mainGlobals "_law_zone_in" = some (some (.ref f40))) (l40 : K.lookup f40 = some ⟨oc40, od40, .func (PySem.W.fnOf "_law_zone_in" "_law_zone_in" (defArgs s__law_zone_in) (defBody s__law_zone_in) (defScope s__law_zone_in) .none kV40 dc40 pm40 an40 cd40 ct40), sl40⟩)
    (c40 : PySem.W.codeIn K cd40 "_law_zone_in" = true) (k40 : PySem.W.keepIn K (.ref f40) = true)
    {f41 : Addr} {od41 an41 : Option Addr} {sl41 : Array (Option Value)} {oc41 kV41 dc41 pm41 cd41 ct41 : Value}
    (a41 : PySem.W.nsIn K mainGlobals "_law_clock_in" = some (some (.ref f41))) (l41 : K.lookup f41 = some ⟨oc41, od41, .func (PySem.W.fnOf "_law_clock_in" "_law_clock_in" (defArgs s__law_clock_in) (defBody s__law_clock_in) (defScope s__law_clock_in) .none kV41 dc41 pm41 an41 cd41 ct41), sl41⟩)
    (c41 : PySem.W.codeIn K cd41 "_law_clock_in" = true) (k41 : PySem.W.keepIn K (.ref f41) = true)
    {f42 : Addr} {od42 an42 : Option Addr} {sl42 : Array (Option Value)} {oc42 kV42 dc42 pm42 cd42 ct42 : Value}
    (a42 : PySem.W.nsIn K mainGlobals "_law_month_in" = some (some (.ref f42))) (l42 : K.lookup f42 = some ⟨oc42, od42, .func (PySem.W.fnOf "_law_month_in" "_law_month_in" (defArgs s__law_month_in) (defBody s__law_month_in) (defScope s__law_month_in) .none kV42 dc42 pm42 an42 cd42 ct42), sl42⟩)
    (c42 : PySem.W.codeIn K cd42 "_law_month_in" = true) (k42 : PySem.W.keepIn K (.ref f42) = true)
    {f43 : Addr} {od43 an43 : Option Addr} {sl43 : Array (Option Value)} {oc43 kV43 dc43 pm43 cd43 ct43 : Value}
    (a43 : PySem.W.nsIn K mainGlobals "_law_read" = some (some (.ref f43))) (l43 : K.lookup f43 = some ⟨oc43, od43, .func (PySem.W.fnOf "_law_read" "_law_read" (defArgs s__law_read) (defBody s__law_read) (defScope s__law_read) .none kV43 dc43 pm43 an43 cd43 ct43), sl43⟩)
    (c43 : PySem.W.codeIn K cd43 "_law_read" = true) (k43 : PySem.W.keepIn K (.ref f43) = true)
    {f44 : Addr} {od44 an44 : Option Addr} {sl44 : Array (Option Value)} {oc44 kV44 dc44 pm44 cd44 ct44 : Value}
    (a44 : PySem.W.nsIn K mainGlobals "_law_varied" = some (some (.ref f44))) (l44 : K.lookup f44 = some ⟨oc44, od44, .func (PySem.W.fnOf "_law_varied" "_law_varied" (defArgs s__law_varied) (defBody s__law_varied) (defScope s__law_varied) .none kV44 dc44 pm44 an44 cd44 ct44), sl44⟩)
    (c44 : PySem.W.codeIn K cd44 "_law_varied" = true) (k44 : PySem.W.keepIn K (.ref f44) = true)
    {f45 : Addr} {od45 an45 : Option Addr} {sl45 : Array (Option Value)} {oc45 kV45 dc45 pm45 cd45 ct45 : Value}
    (a45 : PySem.W.nsIn K mainGlobals "_law_bent" = some (some (.ref f45))) (l45 : K.lookup f45 = some ⟨oc45, od45, .func (PySem.W.fnOf "_law_bent" "_law_bent" (defArgs s__law_bent) (defBody s__law_bent) (defScope s__law_bent) .none kV45 dc45 pm45 an45 cd45 ct45), sl45⟩)
    (c45 : PySem.W.codeIn K cd45 "_law_bent" = true) (k45 : PySem.W.keepIn K (.ref f45) = true)
    {f46 : Addr} {od46 an46 : Option Addr} {sl46 : Array (Option Value)} {oc46 kV46 dc46 pm46 cd46 ct46 : Value}
    (a46 : PySem.W.nsIn K mainGlobals "_law_right" = some (some (.ref f46))) (l46 : K.lookup f46 = some ⟨oc46, od46, .func (PySem.W.fnOf "_law_right" "_law_right" (defArgs s__law_right) (defBody s__law_right) (defScope s__law_right) .none kV46 dc46 pm46 an46 cd46 ct46), sl46⟩)
    (c46 : PySem.W.codeIn K cd46 "_law_right" = true) (k46 : PySem.W.keepIn K (.ref f46) = true)
    {f47 : Addr} {od47 an47 : Option Addr} {sl47 : Array (Option Value)} {oc47 kV47 dc47 pm47 cd47 ct47 : Value}
    (a47 : PySem.W.nsIn K mainGlobals "law" = some (some (.ref f47))) (l47 : K.lookup f47 = some ⟨oc47, od47, .func (PySem.W.fnOf "law" "law" (defArgs s_law) (defBody s_law) (defScope s_law) .none kV47 dc47 pm47 an47 cd47 ct47), sl47⟩)
    (c47 : PySem.W.codeIn K cd47 "law" = true) (k47 : PySem.W.keepIn K (.ref f47) = true)
    {C_FeedError : Addr} (g_FeedError : PySem.W.nsIn K mainGlobals "FeedError" = some (some (.ref C_FeedError)))
    {C_BadDate : Addr} (g_BadDate : PySem.W.nsIn K mainGlobals "BadDate" = some (some (.ref C_BadDate)))
    {nm_BadDate qq_BadDate : Str} {N_BadDate : Addr} {bs_BadDate : List Value} {sn_BadDate : List Str} {sub_BadDate : List Value} {ab_BadDate : Bool} {col_BadDate : Option Bool} {dd_BadDate : Option Addr} {m0_BadDate m1_BadDate m2_BadDate m3_BadDate m5_BadDate : Option Value}
    (x_BadDate : K.lookup C_BadDate = some (excClassObj nm_BadDate qq_BadDate C_BadDate N_BadDate bs_BadDate [.ref C_FeedError, .type "ValueError", .type "Exception", .type "BaseException", .type "object"] true sn_BadDate sub_BadDate ab_BadDate col_BadDate dd_BadDate m0_BadDate m1_BadDate m2_BadDate m3_BadDate m5_BadDate "ValueError.__new__"))
    (sa_BadDate : PySem.W.findIn K (.ref C_BadDate) "__setattr__" = some (some (.builtin "object.__setattr__"))) (eC_BadDate : PySem.W.subIn K (.ref C_BadDate) (.type "BaseException") = some true) (tC_BadDate : PySem.W.typeIn K (.ref C_BadDate) = some (.type "type")) (kC_BadDate : PySem.W.keepIn K (.ref C_BadDate) = true)
    {I_BadDate : Addr} {odI_BadDate anI_BadDate : Option Addr} {slI_BadDate : Array (Option Value)} {ocI_BadDate kVI_BadDate dcI_BadDate pmI_BadDate cdI_BadDate ctI_BadDate : Value}
    (iC_BadDate : PySem.W.findIn K (.ref C_BadDate) "__init__" = some (some (.ref I_BadDate))) (tI_BadDate : PySem.W.typeIn K (.ref I_BadDate) = some (.type "function"))
    (lI_BadDate : K.lookup I_BadDate = some ⟨ocI_BadDate, odI_BadDate, .func (PySem.W.fnOf "__init__" "BadDate.__init__" (defArgs s_BadDate) (defBody s_BadDate) (defScope s_BadDate) .none kVI_BadDate dcI_BadDate pmI_BadDate anI_BadDate cdI_BadDate ctI_BadDate), slI_BadDate⟩) (cI_BadDate : PySem.W.codeIn K cdI_BadDate "BadDate.__init__" = true) (kI_BadDate : PySem.W.keepIn K (.ref I_BadDate) = true)
    (n_BadDate_given : PySem.W.findIn K (.ref C_BadDate) "given" = some none)
    (fdl : PySem.W.nsIn K cStatics "sys.int_max_str_digits" = some none)
    (z_abs : PySem.W.nsIn K mainGlobals "abs" = some none)
    (z_all : PySem.W.nsIn K mainGlobals "all" = some none)
    (z_bool : PySem.W.nsIn K mainGlobals "bool" = some none)
    (z_divmod : PySem.W.nsIn K mainGlobals "divmod" = some none)
    (z_enumerate : PySem.W.nsIn K mainGlobals "enumerate" = some none)
    (z_int : PySem.W.nsIn K mainGlobals "int" = some none)
    (z_isinstance : PySem.W.nsIn K mainGlobals "isinstance" = some none)
    (z_len : PySem.W.nsIn K mainGlobals "len" = some none)
    (z_max : PySem.W.nsIn K mainGlobals "max" = some none)
    (z_min : PySem.W.nsIn K mainGlobals "min" = some none)
    (z_range : PySem.W.nsIn K mainGlobals "range" = some none)
    (z_repr : PySem.W.nsIn K mainGlobals "repr" = some none)
    (z_str : PySem.W.nsIn K mainGlobals "str" = some none)
    (z_tuple : PySem.W.nsIn K mainGlobals "tuple" = some none)
    (z_zip : PySem.W.nsIn K mainGlobals "zip" = some none)
    {t_LAST_YEAR : Tok} (m_LAST_YEAR : PySem.W.nsIn K mainGlobals "LAST_YEAR" = some (some (.int 9999 t_LAST_YEAR)))
    {t_DAY_SECONDS : Tok} (m_DAY_SECONDS : PySem.W.nsIn K mainGlobals "DAY_SECONDS" = some (some (.int 86400 t_DAY_SECONDS)))
    {t_MONTH_DAYS : Tok} (m_MONTH_DAYS : PySem.W.nsIn K mainGlobals "MONTH_DAYS" = some (some (.int 28 t_MONTH_DAYS)))
    {t_YEAR_DAYS : Tok} (m_YEAR_DAYS : PySem.W.nsIn K mainGlobals "YEAR_DAYS" = some (some (.int 365 t_YEAR_DAYS)))
    {r_MONTHS : Addr} {u_MONTHS_0 u_MONTHS_1 u_MONTHS_2 u_MONTHS_3 u_MONTHS_4 u_MONTHS_5 u_MONTHS_6 u_MONTHS_7 u_MONTHS_8 u_MONTHS_9 u_MONTHS_10 u_MONTHS_11 u_MONTHS_12 : Tok} {n_MONTHS : Nat} {dd_MONTHS : Option Addr} {ss_MONTHS : Array (Option Value)} (m_MONTHS : PySem.W.nsIn K mainGlobals "MONTHS" = some (some (.ref r_MONTHS)))
    (o_MONTHS : K.lookup r_MONTHS = some ⟨.type "tuple", dd_MONTHS, .seq #[.str "Ash" u_MONTHS_0, .str "Birch" u_MONTHS_1, .str "Cedar" u_MONTHS_2, .str "Elm" u_MONTHS_3, .str "Fir" u_MONTHS_4, .str "Hazel" u_MONTHS_5, .str "Larch" u_MONTHS_6, .str "Maple" u_MONTHS_7, .str "Oak" u_MONTHS_8, .str "Pine" u_MONTHS_9, .str "Rowan" u_MONTHS_10, .str "Willow" u_MONTHS_11, .str "Yew" u_MONTHS_12] n_MONTHS, ss_MONTHS⟩)
    {r_WEEKDAYS : Addr} {u_WEEKDAYS_0 u_WEEKDAYS_1 u_WEEKDAYS_2 u_WEEKDAYS_3 u_WEEKDAYS_4 u_WEEKDAYS_5 u_WEEKDAYS_6 u_WEEKDAYS_7 : Tok} {n_WEEKDAYS : Nat} {dd_WEEKDAYS : Option Addr} {ss_WEEKDAYS : Array (Option Value)} (m_WEEKDAYS : PySem.W.nsIn K mainGlobals "WEEKDAYS" = some (some (.ref r_WEEKDAYS)))
    (o_WEEKDAYS : K.lookup r_WEEKDAYS = some ⟨.type "tuple", dd_WEEKDAYS, .seq #[.str "Ar" u_WEEKDAYS_0, .str "Be" u_WEEKDAYS_1, .str "Co" u_WEEKDAYS_2, .str "Da" u_WEEKDAYS_3, .str "Ev" u_WEEKDAYS_4, .str "Fo" u_WEEKDAYS_5, .str "Gi" u_WEEKDAYS_6, .str "Rest" u_WEEKDAYS_7] n_WEEKDAYS, ss_WEEKDAYS⟩)
    {t_DIGITS : Tok} (m_DIGITS : PySem.W.nsIn K mainGlobals "DIGITS" = some (some (.str "0123456789" t_DIGITS))) :
    ∃ fd : FuncData, (∀ (s : Shared) (v : Value), BindsTo s fd ⟨[v], []⟩ [("script", v)]) ∧ ∀ base : Heap, K.In base → base.Ns mainGlobals mg → Vz.FnG l.prog w K mg base CX0 8 fa fd ["script"] (sp_law K) := by
  have e := hfa.symm.trans (PySem.W.mg_of X G a47)
  cases e
  have F1 := fun_mk (st := s_is_int) l1 c1 k1
  have b1 := F1.binds (ps := ["value"]) fun _ _ _ _ _ _ us hl => match us, hl with | [_], _ => rfl
  have F2 := fun_mk (st := s_is_within) l2 c2 k2
  have b2 := F2.binds (ps := ["value", "low", "high"]) fun _ _ _ _ _ _ us hl => match us, hl with | [_, _, _], _ => rfl
  have F3 := fun_mk (st := s_consists_of) l3 c3 k3
  have b3 := F3.binds (ps := ["text", "signs"]) fun _ _ _ _ _ _ us hl => match us, hl with | [_, _], _ => rfl
  have F4 := fun_mk (st := s_is_zone) l4 c4 k4
  have b4 := F4.binds (ps := ["value"]) fun _ _ _ _ _ _ us hl => match us, hl with | [_], _ => rfl
  have F5 := fun_mk (st := s_is_date) l5 c5 k5
  have b5 := F5.binds (ps := ["value"]) fun _ _ _ _ _ _ us hl => match us, hl with | [_], _ => rfl
  have F6 := fun_mk (st := s_long_text) l6 c6 k6
  have b6 := F6.binds (ps := ["date"]) fun _ _ _ _ _ _ us hl => match us, hl with | [_], _ => rfl
  have F7 := fun_mk (st := s_read_long) l7 c7 k7
  have b7 := F7.binds (ps := ["text"]) fun _ _ _ _ _ _ us hl => match us, hl with | [_], _ => rfl
  have F8 := fun_mk (st := s__days_before) l8 c8 k8
  have b8 := F8.binds (ps := ["year"]) fun _ _ _ _ _ _ us hl => match us, hl with | [_], _ => rfl
  have F9 := fun_mk (st := s__year_of_day) l9 c9 k9
  have b9 := F9.binds (ps := ["day"]) fun _ _ _ _ _ _ us hl => match us, hl with | [_], _ => rfl
  have F10 := fun_mk (st := s__days_in_month) l10 c10 k10
  have b10 := F10.binds (ps := ["year", "month"]) fun _ _ _ _ _ _ us hl => match us, hl with | [_, _], _ => rfl
  have F11 := fun_mk (st := s__fits_calendar) l11 c11 k11
  have b11 := F11.binds (ps := ["date"]) fun _ _ _ _ _ _ us hl => match us, hl with | [_], _ => rfl
  have F12 := fun_mk (st := s__seconds_before) l12 c12 k12
  have b12 := F12.binds (ps := ["date"]) fun _ _ _ _ _ _ us hl => match us, hl with | [_], _ => rfl
  have F13 := fun_mk (st := s__is_before_leap_second) l13 c13 k13
  have b13 := F13.binds (ps := ["before"]) fun _ _ _ _ _ _ us hl => match us, hl with | [_], _ => rfl
  have F14 := fun_mk (st := s__weekday) l14 c14 k14
  have b14 := F14.binds (ps := ["day"]) fun _ _ _ _ _ _ us hl => match us, hl with | [_], _ => rfl
  have F15 := fun_mk (st := s__time_text) l15 c15 k15
  have b15 := F15.binds (ps := ["date"]) fun _ _ _ _ _ _ us hl => match us, hl with | [_], _ => rfl
  have F16 := fun_mk (st := s__zone_text) l16 c16 k16
  have b16 := F16.binds (ps := ["zone"]) fun _ _ _ _ _ _ us hl => match us, hl with | [_], _ => rfl
  have F17 := fun_mk (st := s__date_of_words) l17 c17 k17
  have b17 := F17.binds (ps := ["words"]) fun _ _ _ _ _ _ us hl => match us, hl with | [_], _ => rfl
  have F18 := fun_mk (st := s__plain_number) l18 c18 k18
  have b18 := F18.binds (ps := ["word", "most"]) fun _ _ _ _ _ _ us hl => match us, hl with | [_, _], _ => rfl
  have F19 := fun_mk (st := s__number_of_digits) l19 c19 k19
  have b19 := F19.binds (ps := ["word", "count"]) fun _ _ _ _ _ _ us hl => match us, hl with | [_, _], _ => rfl
  have F20 := fun_mk (st := s__month_of) l20 c20 k20
  have b20 := F20.binds (ps := ["word"]) fun _ _ _ _ _ _ us hl => match us, hl with | [_], _ => rfl
  have F21 := fun_mk (st := s__time_of) l21 c21 k21
  have b21 := F21.binds (ps := ["word"]) fun _ _ _ _ _ _ us hl => match us, hl with | [_], _ => rfl
  have F22 := fun_mk (st := s__zone_of) l22 c22 k22
  have b22 := F22.binds (ps := ["word"]) fun _ _ _ _ _ _ us hl => match us, hl with | [_], _ => rfl
  have F23 := fun_mk (st := s__law_begin) l23 c23 k23
  have b23 := F23.binds (ps := ["script"]) fun _ _ _ _ _ _ us hl => match us, hl with | [_], _ => rfl
  have F24 := fun_mk (st := s__law_mixed) l24 c24 k24
  have b24 := F24.binds (ps := ["cell", "k"]) fun _ _ _ _ _ _ us hl => match us, hl with | [_, _], _ => rfl
  have F25 := fun_mk (st := s__law_next) l25 c25 k25
  have b25 := F25.binds (ps := ["draw", "bound"]) fun _ _ _ _ _ _ us hl => match us, hl with | [_, _], _ => rfl
  have F26 := fun_mk (st := s__law_days) l26 c26 k26
  have b26 := F26.binds (ps := ["year"]) fun _ _ _ _ _ _ us hl => match us, hl with | [_], _ => rfl
  have F27 := fun_mk (st := s__law_begin_of) l27 c27 k27
  have b27 := F27.binds (ps := ["year"]) fun _ _ _ _ _ _ us hl => match us, hl with | [_], _ => rfl
  have F28 := fun_mk (st := s__law_local) l28 c28 k28
  have b28 := F28.binds (ps := ["plain", "second", "belt"]) fun _ _ _ _ _ _ us hl => match us, hl with | [_, _, _], _ => rfl
  have F29 := fun_mk (st := s__law_date) l29 c29 k29
  have b29 := F29.binds (ps := ["spot", "belt"]) fun _ _ _ _ _ _ us hl => match us, hl with | [_, _], _ => rfl
  have F30 := fun_mk (st := s__law_is_whole) l30 c30 k30
  have b30 := F30.binds (ps := ["thing", "least", "most"]) fun _ _ _ _ _ _ us hl => match us, hl with | [_, _, _], _ => rfl
  have F31 := fun_mk (st := s__law_moment) l31 c31 k31
  have b31 := F31.binds (ps := ["stamp"]) fun _ _ _ _ _ _ us hl => match us, hl with | [_], _ => rfl
  have F32 := fun_mk (st := s__law_year) l32 c32 k32
  have b32 := F32.binds (ps := ["draw"]) fun _ _ _ _ _ _ us hl => match us, hl with | [_], _ => rfl
  have F33 := fun_mk (st := s__law_time) l33 c33 k33
  have b33 := F33.binds (ps := ["draw"]) fun _ _ _ _ _ _ us hl => match us, hl with | [_], _ => rfl
  have F34 := fun_mk (st := s__law_zone) l34 c34 k34
  have b34 := F34.binds (ps := ["draw"]) fun _ _ _ _ _ _ us hl => match us, hl with | [_], _ => rfl
  have F35 := fun_mk (st := s__law_two) l35 c35 k35
  have b35 := F35.binds (ps := ["number"]) fun _ _ _ _ _ _ us hl => match us, hl with | [_], _ => rfl
  have F36 := fun_mk (st := s__law_zone_text) l36 c36 k36
  have b36 := F36.binds (ps := ["belt"]) fun _ _ _ _ _ _ us hl => match us, hl with | [_], _ => rfl
  have F37 := fun_mk (st := s__law_long) l37 c37 k37
  have b37 := F37.binds (ps := ["date"]) fun _ _ _ _ _ _ us hl => match us, hl with | [_], _ => rfl
  have F38 := fun_mk (st := s__law_number) l38 c38 k38
  have b38 := F38.binds (ps := ["word", "least", "most"]) fun _ _ _ _ _ _ us hl => match us, hl with | [_, _, _], _ => rfl
  have F39 := fun_mk (st := s__law_plain_number) l39 c39 k39
  have b39 := F39.binds (ps := ["word"]) fun _ _ _ _ _ _ us hl => match us, hl with | [_], _ => rfl
  have F40 := fun_mk (st := s__law_zone_in) l40 c40 k40
  have b40 := F40.binds (ps := ["word"]) fun _ _ _ _ _ _ us hl => match us, hl with | [_], _ => rfl
  have F41 := fun_mk (st := s__law_clock_in) l41 c41 k41
  have b41 := F41.binds (ps := ["word", "is_short"]) fun _ _ _ _ _ _ us hl => match us, hl with | [_, _], _ => rfl
  have F42 := fun_mk (st := s__law_month_in) l42 c42 k42
  have b42 := F42.binds (ps := ["word"]) fun _ _ _ _ _ _ us hl => match us, hl with | [_], _ => rfl
  have F43 := fun_mk (st := s__law_read) l43 c43 k43
  have b43 := F43.binds (ps := ["letters"]) fun _ _ _ _ _ _ us hl => match us, hl with | [_], _ => rfl
  have F44 := fun_mk (st := s__law_varied) l44 c44 k44
  have b44 := F44.binds (ps := ["draw", "date"]) fun _ _ _ _ _ _ us hl => match us, hl with | [_, _], _ => rfl
  have F45 := fun_mk (st := s__law_bent) l45 c45 k45
  have b45 := F45.binds (ps := ["draw", "letters"]) fun _ _ _ _ _ _ us hl => match us, hl with | [_, _], _ => rfl
  have F46 := fun_mk (st := s__law_right) l46 c46 k46
  have b46 := F46.binds (ps := ["letters"]) fun _ _ _ _ _ _ us hl => match us, hl with | [_], _ => rfl
  have F47 := fun_mk (st := s_law) l47 c47 k47
  have b47 := F47.binds (ps := ["script"]) fun _ _ _ _ _ _ us hl => match us, hl with | [_], _ => rfl
  have FI_BadDate := fun_mk (st := s_BadDate) lI_BadDate cI_BadDate kI_BadDate
  have bI_BadDate := FI_BadDate.binds (ps := ["self", "given"]) fun _ _ _ _ _ _ us hl => match us, hl with | [_, _], _ => rfl
  let T : Txt K mg := { a_is_int := f1, d_is_int := _, F_is_int := F1, g_is_int := PySem.W.mg_of X G a1, b_is_int := b1, a_is_within := f2, d_is_within := _, F_is_within := F2, g_is_within := PySem.W.mg_of X G a2, b_is_within := b2, a_consists_of := f3, d_consists_of := _, F_consists_of := F3, g_consists_of := PySem.W.mg_of X G a3, b_consists_of := b3, a_is_zone := f4, d_is_zone := _, F_is_zone := F4, g_is_zone := PySem.W.mg_of X G a4, b_is_zone := b4, a_is_date := f5, d_is_date := _, F_is_date := F5, g_is_date := PySem.W.mg_of X G a5, b_is_date := b5, a_long_text := f6, d_long_text := _, F_long_text := F6, g_long_text := PySem.W.mg_of X G a6, b_long_text := b6, a_read_long := f7, d_read_long := _, F_read_long := F7, g_read_long := PySem.W.mg_of X G a7, b_read_long := b7, a__days_before := f8, d__days_before := _, F__days_before := F8, g__days_before := PySem.W.mg_of X G a8, b__days_before := b8, a__year_of_day := f9, d__year_of_day := _, F__year_of_day := F9, g__year_of_day := PySem.W.mg_of X G a9, b__year_of_day := b9, a__days_in_month := f10, d__days_in_month := _, F__days_in_month := F10, g__days_in_month := PySem.W.mg_of X G a10, b__days_in_month := b10, a__fits_calendar := f11, d__fits_calendar := _, F__fits_calendar := F11, g__fits_calendar := PySem.W.mg_of X G a11, b__fits_calendar := b11, a__seconds_before := f12, d__seconds_before := _, F__seconds_before := F12, g__seconds_before := PySem.W.mg_of X G a12, b__seconds_before := b12, a__is_before_leap_second := f13, d__is_before_leap_second := _, F__is_before_leap_second := F13, g__is_before_leap_second := PySem.W.mg_of X G a13, b__is_before_leap_second := b13, a__weekday := f14, d__weekday := _, F__weekday := F14, g__weekday := PySem.W.mg_of X G a14, b__weekday := b14, a__time_text := f15, d__time_text := _, F__time_text := F15, g__time_text := PySem.W.mg_of X G a15, b__time_text := b15, a__zone_text := f16, d__zone_text := _, F__zone_text := F16, g__zone_text := PySem.W.mg_of X G a16, b__zone_text := b16, a__date_of_words := f17, d__date_of_words := _, F__date_of_words := F17, g__date_of_words := PySem.W.mg_of X G a17, b__date_of_words := b17, a__plain_number := f18, d__plain_number := _, F__plain_number := F18, g__plain_number := PySem.W.mg_of X G a18, b__plain_number := b18, a__number_of_digits := f19, d__number_of_digits := _, F__number_of_digits := F19, g__number_of_digits := PySem.W.mg_of X G a19, b__number_of_digits := b19, a__month_of := f20, d__month_of := _, F__month_of := F20, g__month_of := PySem.W.mg_of X G a20, b__month_of := b20, a__time_of := f21, d__time_of := _, F__time_of := F21, g__time_of := PySem.W.mg_of X G a21, b__time_of := b21, a__zone_of := f22, d__zone_of := _, F__zone_of := F22, g__zone_of := PySem.W.mg_of X G a22, b__zone_of := b22, a__law_begin := f23, d__law_begin := _, F__law_begin := F23, g__law_begin := PySem.W.mg_of X G a23, b__law_begin := b23, a__law_mixed := f24, d__law_mixed := _, F__law_mixed := F24, g__law_mixed := PySem.W.mg_of X G a24, b__law_mixed := b24, a__law_next := f25, d__law_next := _, F__law_next := F25, g__law_next := PySem.W.mg_of X G a25, b__law_next := b25, a__law_days := f26, d__law_days := _, F__law_days := F26, g__law_days := PySem.W.mg_of X G a26, b__law_days := b26, a__law_begin_of := f27, d__law_begin_of := _, F__law_begin_of := F27, g__law_begin_of := PySem.W.mg_of X G a27, b__law_begin_of := b27, a__law_local := f28, d__law_local := _, F__law_local := F28, g__law_local := PySem.W.mg_of X G a28, b__law_local := b28, a__law_date := f29, d__law_date := _, F__law_date := F29, g__law_date := PySem.W.mg_of X G a29, b__law_date := b29, a__law_is_whole := f30, d__law_is_whole := _, F__law_is_whole := F30, g__law_is_whole := PySem.W.mg_of X G a30, b__law_is_whole := b30, a__law_moment := f31, d__law_moment := _, F__law_moment := F31, g__law_moment := PySem.W.mg_of X G a31, b__law_moment := b31, a__law_year := f32, d__law_year := _, F__law_year := F32, g__law_year := PySem.W.mg_of X G a32, b__law_year := b32, a__law_time := f33, d__law_time := _, F__law_time := F33, g__law_time := PySem.W.mg_of X G a33, b__law_time := b33, a__law_zone := f34, d__law_zone := _, F__law_zone := F34, g__law_zone := PySem.W.mg_of X G a34, b__law_zone := b34, a__law_two := f35, d__law_two := _, F__law_two := F35, g__law_two := PySem.W.mg_of X G a35, b__law_two := b35, a__law_zone_text := f36, d__law_zone_text := _, F__law_zone_text := F36, g__law_zone_text := PySem.W.mg_of X G a36, b__law_zone_text := b36, a__law_long := f37, d__law_long := _, F__law_long := F37, g__law_long := PySem.W.mg_of X G a37, b__law_long := b37, a__law_number := f38, d__law_number := _, F__law_number := F38, g__law_number := PySem.W.mg_of X G a38, b__law_number := b38, a__law_plain_number := f39, d__law_plain_number := _, F__law_plain_number := F39, g__law_plain_number := PySem.W.mg_of X G a39, b__law_plain_number := b39, a__law_zone_in := f40, d__law_zone_in := _, F__law_zone_in := F40, g__law_zone_in := PySem.W.mg_of X G a40, b__law_zone_in := b40, a__law_clock_in := f41, d__law_clock_in := _, F__law_clock_in := F41, g__law_clock_in := PySem.W.mg_of X G a41, b__law_clock_in := b41, a__law_month_in := f42, d__law_month_in := _, F__law_month_in := F42, g__law_month_in := PySem.W.mg_of X G a42, b__law_month_in := b42, a__law_read := f43, d__law_read := _, F__law_read := F43, g__law_read := PySem.W.mg_of X G a43, b__law_read := b43, a__law_varied := f44, d__law_varied := _, F__law_varied := F44, g__law_varied := PySem.W.mg_of X G a44, b__law_varied := b44, a__law_bent := f45, d__law_bent := _, F__law_bent := F45, g__law_bent := PySem.W.mg_of X G a45, b__law_bent := b45, a__law_right := f46, d__law_right := _, F__law_right := F46, g__law_right := PySem.W.mg_of X G a46, b__law_right := b46, a_law := fa, d_law := _, F_law := F47, g_law := PySem.W.mg_of X G a47, b_law := b47, C_FeedError := C_FeedError, g_FeedError := PySem.W.mg_of X G g_FeedError, C_BadDate := C_BadDate, g_BadDate := PySem.W.mg_of X G g_BadDate, I_BadDate := I_BadDate, i_BadDate := _, o_BadDate := ⟨⟨_, _, _, _, _, _, _, _, _, _, _, _, _, _, _, x_BadDate, rfl⟩, sa_BadDate, eC_BadDate, tC_BadDate, kC_BadDate⟩, iC_BadDate := iC_BadDate, tI_BadDate := tI_BadDate, FI_BadDate := FI_BadDate, bI_BadDate := bI_BadDate, n_BadDate_given := n_BadDate_given, fdl := fdl, z_abs := PySem.W.mg_none_of X G z_abs, z_all := PySem.W.mg_none_of X G z_all, z_bool := PySem.W.mg_none_of X G z_bool, z_divmod := PySem.W.mg_none_of X G z_divmod, z_enumerate := PySem.W.mg_none_of X G z_enumerate, z_int := PySem.W.mg_none_of X G z_int, z_isinstance := PySem.W.mg_none_of X G z_isinstance, z_len := PySem.W.mg_none_of X G z_len, z_max := PySem.W.mg_none_of X G z_max, z_min := PySem.W.mg_none_of X G z_min, z_range := PySem.W.mg_none_of X G z_range, z_repr := PySem.W.mg_none_of X G z_repr, z_str := PySem.W.mg_none_of X G z_str, z_tuple := PySem.W.mg_none_of X G z_tuple, z_zip := PySem.W.mg_none_of X G z_zip, t_LAST_YEAR := t_LAST_YEAR, c_LAST_YEAR := PySem.W.mg_of X G m_LAST_YEAR, t_DAY_SECONDS := t_DAY_SECONDS, c_DAY_SECONDS := PySem.W.mg_of X G m_DAY_SECONDS, t_MONTH_DAYS := t_MONTH_DAYS, c_MONTH_DAYS := PySem.W.mg_of X G m_MONTH_DAYS, t_YEAR_DAYS := t_YEAR_DAYS, c_YEAR_DAYS := PySem.W.mg_of X G m_YEAR_DAYS, r_MONTHS := r_MONTHS, c_MONTHS := PySem.W.mg_of X G m_MONTHS, e_MONTHS := fun H => .inr ⟨_, _, _, o_MONTHS, rfl, rfl, (by show 13 ≤ sizeLine; decide), (.cons ⟨_, rfl⟩ (.cons ⟨_, rfl⟩ (.cons ⟨_, rfl⟩ (.cons ⟨_, rfl⟩ (.cons ⟨_, rfl⟩ (.cons ⟨_, rfl⟩ (.cons ⟨_, rfl⟩ (.cons ⟨_, rfl⟩ (.cons ⟨_, rfl⟩ (.cons ⟨_, rfl⟩ (.cons ⟨_, rfl⟩ (.cons ⟨_, rfl⟩ (.cons ⟨_, rfl⟩ .nil)))))))))))))⟩, r_WEEKDAYS := r_WEEKDAYS, c_WEEKDAYS := PySem.W.mg_of X G m_WEEKDAYS, e_WEEKDAYS := fun H => .inr ⟨_, _, _, o_WEEKDAYS, rfl, rfl, (by show 8 ≤ sizeLine; decide), (.cons ⟨_, rfl⟩ (.cons ⟨_, rfl⟩ (.cons ⟨_, rfl⟩ (.cons ⟨_, rfl⟩ (.cons ⟨_, rfl⟩ (.cons ⟨_, rfl⟩ (.cons ⟨_, rfl⟩ (.cons ⟨_, rfl⟩ .nil))))))))⟩, t_DIGITS := t_DIGITS, c_DIGITS := PySem.W.mg_of X G m_DIGITS }
  exact ⟨T.d_law, fun s v => .of_eq rfl, fun base _ _ => ok_law T⟩
theorem walk {l : PySem.W.OpenLaw} {q : Program} {loose : List Str} {XP : (Str → Option Value) → Heap → Prop} {YP : World → Heap → Prop} {d : DefRec} {K : Params → PySem.W.Frag} (hn : l.most = some 63) (hdf : d.params.defaults = [])
    (hY : ∀ (w : World) (h : Heap), YP w h → (K w.params).In h)
    (F : ∀ (w : World) (mg : Str → Option Value) (fa : Addr) (h : Heap), (K w.params).In h → h.Ns mainGlobals mg → mg d.name = some (.ref fa) →
      ∃ fd : FuncData, (∀ (s : Shared) (u : Value), BindsTo s fd ⟨[u], []⟩ [("script", u)]) ∧ ∀ base : Heap, (K w.params).In base → base.Ns mainGlobals mg → Vz.FnG l.prog w (K w.params) mg base CX0 8 fa fd ["script"] (sp_law (K w.params))) :
    PySem.W.WalkO q loose XP YP l.row.toRowW d [] (fun f vs => PySem.call f vs) :=
  Vz.walk_ofG (n := 63) (k := 8) (x := "script") (sp := fun K => sp_law K) hn (by decide) hdf ⟨rfl, by decide, by decide⟩ hY F (fun K H a ns hl hO hS => law_in K H a ns hl hO hS)
end Toy
open PySem PySem.W PyProof.Rows in
set_option maxRecDepth 100000 in
set_option maxHeartbeats 0 in
theorem PySem.Challenge.cw_feedreader_k07_whole_lenient_texts_holds : PySem.Challenge.rw_feedreader_k07_whole_lenient_texts.Holds := by
  w_on; o_law; k_head; (case hw => w_witness2)
  k_fill
  refine Toy.walk (l := PySem.Challenge.rw_feedreader_k07_whole_lenient_texts) rfl rfl (fun w h Y => PySem.W.kIn_of Y) ?F
  case F =>
    intro w mg fa h KX G hmg
    refine' Toy.all_mk KX G hmg ?a1 ?l1 ?c1 ?k1 ?a2 ?l2 ?c2 ?k2 ?a3 ?l3 ?c3 ?k3 ?a4 ?l4 ?c4 ?k4 ?a5 ?l5 ?c5 ?k5 ?a6 ?l6 ?c6 ?k6 ?a7 ?l7 ?c7 ?k7 ?a8 ?l8 ?c8 ?k8 ?a9 ?l9 ?c9 ?k9 ?a10 ?l10 ?c10 ?k10 ?a11 ?l11 ?c11 ?k11 ?a12 ?l12 ?c12 ?k12 ?a13 ?l13 ?c13 ?k13 ?a14 ?l14 ?c14 ?k14 ?a15 ?l15 ?c15 ?k15 ?a16 ?l16 ?c16 ?k16 ?a17 ?l17 ?c17 ?k17 ?a18 ?l18 ?c18 ?k18 ?a19 ?l19 ?c19 ?k19 ?a20 ?l20 ?c20 ?k20 ?a21 ?l21 ?c21 ?k21 ?a22 ?l22 ?c22 ?k22 ?a23 ?l23 ?c23 ?k23 ?a24 ?l24 ?c24 ?k24 ?a25 ?l25 ?c25 ?k25 ?a26 ?l26 ?c26 ?k26 ?a27 ?l27 ?c27 ?k27 ?a28 ?l28 ?c28 ?k28 ?a29 ?l29 ?c29 ?k29 ?a30 ?l30 ?c30 ?k30 ?a31 ?l31 ?c31 ?k31 ?a32 ?l32 ?c32 ?k32 ?a33 ?l33 ?c33 ?k33 ?a34 ?l34 ?c34 ?k34 ?a35 ?l35 ?c35 ?k35 ?a36 ?l36 ?c36 ?k36 ?a37 ?l37 ?c37 ?k37 ?a38 ?l38 ?c38 ?k38 ?a39 ?l39 ?c39 ?k39 ?a40 ?l40 ?c40 ?k40 ?a41 ?l41 ?c41 ?k41 ?a42 ?l42 ?c42 ?k42 ?a43 ?l43 ?c43 ?k43 ?a44 ?l44 ?c44 ?k44 ?a45 ?l45 ?c45 ?k45 ?a46 ?l46 ?c46 ?k46 ?a47 ?l47 ?c47 ?k47 ?g_FeedError ?g_BadDate ?x_BadDate ?sa_BadDate ?eC_BadDate ?tC_BadDate ?kC_BadDate ?iC_BadDate ?tI_BadDate ?lI_BadDate ?cI_BadDate ?kI_BadDate ?n_BadDate_given ?fdl ?z_abs ?z_all ?z_bool ?z_divmod ?z_enumerate ?z_int ?z_isinstance ?z_len ?z_max ?z_min ?z_range ?z_repr ?z_str ?z_tuple ?z_zip ?m_LAST_YEAR ?m_DAY_SECONDS ?m_MONTH_DAYS ?m_YEAR_DAYS ?m_MONTHS ?o_MONTHS ?m_WEEKDAYS ?o_WEEKDAYS ?m_DIGITS
    (case a1 => first | k_is | kit_is)
    (case l1 => first | k_is | kit_is)
    (case c1 => first | k_is | kit_is)
    (case k1 => first | k_is | kit_is)
    (case a2 => first | k_is | kit_is)
    (case l2 => first | k_is | kit_is)
    (case c2 => first | k_is | kit_is)
    (case k2 => first | k_is | kit_is)
    (case a3 => first | k_is | kit_is)
    (case l3 => first | k_is | kit_is)
    (case c3 => first | k_is | kit_is)
    (case k3 => first | k_is | kit_is)
    (case a4 => first | k_is | kit_is)
    (case l4 => first | k_is | kit_is)
    (case c4 => first | k_is | kit_is)
    (case k4 => first | k_is | kit_is)
    (case a5 => first | k_is | kit_is)
    (case l5 => first | k_is | kit_is)
    (case c5 => first | k_is | kit_is)
    (case k5 => first | k_is | kit_is)
    (case a6 => first | k_is | kit_is)
    (case l6 => first | k_is | kit_is)
    (case c6 => first | k_is | kit_is)
    (case k6 => first | k_is | kit_is)
    (case a7 => first | k_is | kit_is)
    (case l7 => first | k_is | kit_is)
    (case c7 => first | k_is | kit_is)
    (case k7 => first | k_is | kit_is)
    (case a8 => first | k_is | kit_is)
    (case l8 => first | k_is | kit_is)
    (case c8 => first | k_is | kit_is)
    (case k8 => first | k_is | kit_is)
    (case a9 => first | k_is | kit_is)
    (case l9 => first | k_is | kit_is)
    (case c9 => first | k_is | kit_is)
    (case k9 => first | k_is | kit_is)
    (case a10 => first | k_is | kit_is)
    (case l10 => first | k_is | kit_is)
    (case c10 => first | k_is | kit_is)
    (case k10 => first | k_is | kit_is)
    (case a11 => first | k_is | kit_is)
    (case l11 => first | k_is | kit_is)
    (case c11 => first | k_is | kit_is)
    (case k11 => first | k_is | kit_is)
    (case a12 => first | k_is | kit_is)
    (case l12 => first | k_is | kit_is)
    (case c12 => first | k_is | kit_is)
    (case k12 => first | k_is | kit_is)
    (case a13 => first | k_is | kit_is)
    (case l13 => first | k_is | kit_is)
    (case c13 => first | k_is | kit_is)
    (case k13 => first | k_is | kit_is)
    (case a14 => first | k_is | kit_is)
    (case l14 => first | k_is | kit_is)
    (case c14 => first | k_is | kit_is)
    (case k14 => first | k_is | kit_is)
    (case a15 => first | k_is | kit_is)
    (case l15 => first | k_is | kit_is)
    (case c15 => first | k_is | kit_is)
    (case k15 => first | k_is | kit_is)
    (case a16 => first | k_is | kit_is)
    (case l16 => first | k_is | kit_is)
    (case c16 => first | k_is | kit_is)
    (case k16 => first | k_is | kit_is)
    (case a17 => first | k_is | kit_is)
    (case l17 => first | k_is | kit_is)
    (case c17 => first | k_is | kit_is)
    (case k17 => first | k_is | kit_is)
    (case a18 => first | k_is | kit_is)
    (case l18 => first | k_is | kit_is)
    (case c18 => first | k_is | kit_is)
    (case k18 => first | k_is | kit_is)
    (case a19 => first | k_is | kit_is)
    (case l19 => first | k_is | kit_is)
    (case c19 => first | k_is | kit_is)
    (case k19 => first | k_is | kit_is)
    (case a20 => first | k_is | kit_is)
    (case l20 => first | k_is | kit_is)
    (case c20 => first | k_is | kit_is)
    (case k20 => first | k_is | kit_is)
    (case a21 => first | k_is | kit_is)
    (case l21 => first | k_is | kit_is)
    (case c21 => first | k_is | kit_is)
    (case k21 => first | k_is | kit_is)
    (case a22 => first | k_is | kit_is)
    (case l22 => first | k_is | kit_is)
    (case c22 => first | k_is | kit_is)
    (case k22 => first | k_is | kit_is)
    (case a23 => first | k_is | kit_is)
    (case l23 => first | k_is | kit_is)
    (case c23 => first | k_is | kit_is)
    (case k23 => first | k_is | kit_is)
    (case a24 => first | k_is | kit_is)
    (case l24 => first | k_is | kit_is)
    (case c24 => first | k_is | kit_is)
    (case k24 => first | k_is | kit_is)
    (case a25 => first | k_is | kit_is)
    (case l25 => first | k_is | kit_is)
    (case c25 => first | k_is | kit_is)
    (case k25 => first | k_is | kit_is)
    (case a26 => first | k_is | kit_is)
    (case l26 => first | k_is | kit_is)
    (case c26 => first | k_is | kit_is)
    (case k26 => first | k_is | kit_is)
    (case a27 => first | k_is | kit_is)
    (case l27 => first | k_is | kit_is)
    (case c27 => first | k_is | kit_is)
    (case k27 => first | k_is | kit_is)
    (case a28 => first | k_is | kit_is)
    (case l28 => first | k_is | kit_is)
    (case c28 => first | k_is | kit_is)
    (case k28 => first | k_is | kit_is)
    (case a29 => first | k_is | kit_is)
    (case l29 => first | k_is | kit_is)
    (case c29 => first | k_is | kit_is)
    (case k29 => first | k_is | kit_is)
    (case a30 => first | k_is | kit_is)
    (case l30 => first | k_is | kit_is)
    (case c30 => first | k_is | kit_is)
    (case k30 => first | k_is | kit_is)
    (case a31 => first | k_is | kit_is)
    (case l31 => first | k_is | kit_is)
    (case c31 => first | k_is | kit_is)
    (case k31 => first | k_is | kit_is)
    (case a32 => first | k_is | kit_is)
    (case l32 => first | k_is | kit_is)
    (case c32 => first | k_is | kit_is)
    (case k32 => first | k_is | kit_is)
    (case a33 => first | k_is | kit_is)
    (case l33 => first | k_is | kit_is)
    (case c33 => first | k_is | kit_is)
    (case k33 => first | k_is | kit_is)
    (case a34 => first | k_is | kit_is)
    (case l34 => first | k_is | kit_is)
    (case c34 => first | k_is | kit_is)
    (case k34 => first | k_is | kit_is)
    (case a35 => first | k_is | kit_is)
    (case l35 => first | k_is | kit_is)
    (case c35 => first | k_is | kit_is)
    (case k35 => first | k_is | kit_is)
    (case a36 => first | k_is | kit_is)
    (case l36 => first | k_is | kit_is)
    (case c36 => first | k_is | kit_is)
    (case k36 => first | k_is | kit_is)
    (case a37 => first | k_is | kit_is)
    (case l37 => first | k_is | kit_is)
    (case c37 => first | k_is | kit_is)
    (case k37 => first | k_is | kit_is)
    (case a38 => first | k_is | kit_is)
    (case l38 => first | k_is | kit_is)
    (case c38 => first | k_is | kit_is)
    (case k38 => first | k_is | kit_is)
    (case a39 => first | k_is | kit_is)
    (case l39 => first | k_is | kit_is)
    (case c39 => first | k_is | kit_is)
    (case k39 => first | k_is | kit_is)
    (case a40 => first | k_is | kit_is)
    (case l40 => first | k_is | kit_is)
    (case c40 => first | k_is | kit_is)
    (case k40 => first | k_is | kit_is)
    (case a41 => first | k_is | kit_is)
    (case l41 => first | k_is | kit_is)
    (case c41 => first | k_is | kit_is)
    (case k41 => first | k_is | kit_is)
    (case a42 => first | k_is | kit_is)
    (case l42 => first | k_is | kit_is)
    (case c42 => first | k_is | kit_is)
    (case k42 => first | k_is | kit_is)
    (case a43 => first | k_is | kit_is)
    (case l43 => first | k_is | kit_is)
    (case c43 => first | k_is | kit_is)
    (case k43 => first | k_is | kit_is)
    (case a44 => first | k_is | kit_is)
    (case l44 => first | k_is | kit_is)
    (case c44 => first | k_is | kit_is)
    (case k44 => first | k_is | kit_is)
    (case a45 => first | k_is | kit_is)
    (case l45 => first | k_is | kit_is)
    (case c45 => first | k_is | kit_is)
    (case k45 => first | k_is | kit_is)
    (case a46 => first | k_is | kit_is)
    (case l46 => first | k_is | kit_is)
    (case c46 => first | k_is | kit_is)
    (case k46 => first | k_is | kit_is)
    (case a47 => first | k_is | kit_is)
    (case l47 => first | k_is | kit_is)
    (case c47 => first | k_is | kit_is)
    (case k47 => first | k_is | kit_is)
    (case g_FeedError => first | k_is | kit_is)
    (case g_BadDate => first | k_is | kit_is)
    (case x_BadDate => first | k_is | kit_is)
    (case sa_BadDate => first | k_is | kit_is)
    (case eC_BadDate => first | k_is | kit_is)
    (case tC_BadDate => first | k_is | kit_is)
    (case kC_BadDate => first | k_is | kit_is)
    (case iC_BadDate => first | k_is | kit_is)
    (case tI_BadDate => first | k_is | kit_is)
    (case lI_BadDate => first | k_is | kit_is)
    (case cI_BadDate => first | k_is | kit_is)
    (case kI_BadDate => first | k_is | kit_is)
    (case n_BadDate_given => first | k_is | kit_is)
    (case fdl => first | k_is | kit_is)
    (case z_abs => first | k_is | kit_is)
    (case z_all => first | k_is | kit_is)
    (case z_bool => first | k_is | kit_is)
    (case z_divmod => first | k_is | kit_is)
    (case z_enumerate => first | k_is | kit_is)
    (case z_int => first | k_is | kit_is)
    (case z_isinstance => first | k_is | kit_is)
    (case z_len => first | k_is | kit_is)
    (case z_max => first | k_is | kit_is)
    (case z_min => first | k_is | kit_is)
    (case z_range => first | k_is | kit_is)
    (case z_repr => first | k_is | kit_is)
    (case z_str => first | k_is | kit_is)
    (case z_tuple => first | k_is | kit_is)
    (case z_zip => first | k_is | kit_is)
    (case m_LAST_YEAR => first | k_is | kit_is)
    (case m_DAY_SECONDS => first | k_is | kit_is)
    (case m_MONTH_DAYS => first | k_is | kit_is)
    (case m_YEAR_DAYS => first | k_is | kit_is)
    (case m_MONTHS => first | k_is | kit_is)
    (case o_MONTHS => first | k_is | kit_is)
    (case m_WEEKDAYS => first | k_is | kit_is)
    (case o_WEEKDAYS => first | k_is | kit_is)
    (case m_DIGITS => first | k_is | kit_is)

