import PyProof.Rows.All
import HandS.ForMost
import HandS.Wide
import HandS.Defaults
import HandS.IsInst
import HandS.RaiseMore
import PyProof.ReprRoads
import PyProof.RulesMatch
import PyProof.ReprLen
import PyProof.FitsInt
import PyProof.StrLawsRepr
import PyProof.Rows.ReprOcc
import KE.BitLaws
import KE.KBits
import PyProof.Rows.CountFlat
import HandS.NoneIn
import HandS.Dict
import HandS.Style
import HandS.Exc
import HandS.ExcOwn
import HandS.ExcIs
import HandS.WordsExc
import HandS.Iter
import HandS.ExcValue
import HandS.SetFor
import HandS.Strs
import KE.GoesMore
import HandS.Walk
import HandS.SetKeys
import PySem.Challenge.RW_boundgate_k09_two_for_each_unsure_bit
set_option Elab.async false
set_option linter.all false
set_option maxRecDepth 100000
set_option maxHeartbeats 4000000
namespace Bg
open PySem PySem.Spec PyProof.Rows L2

/-! ### defs that may show things: nothing is being shown around them -/
def Gd (A : Around) : Prop := A.guards = some []
theorem Gd.deep {A : Around} (g : Gd A) (e : Env) : Gd (A.deeper e) := g
structure FnG (P : Program) (w : World) (K : PySem.W.Frag) (mg : Str → Option Value) (base : Heap)
    (CX : CXT) (k : Nat) (f : Addr) (fd : FuncData) (ps : List Str) (sp : Sp) : Prop where
  len : ∀ vs H Q E, sp vs H Q E → vs.length = ps.length
  run : ∀ (A : Around) (outer : List Env) (s : Shared) (H : Hp) (args : Args) (us : List Value)
    (vs : List V) (Q : VK) (E : XK), Room k A → Gd A → Env0 P w K mg base A outer s H →
    BindsTo s fd args (ps.zip us) → Vals vs us → sp vs H Q E →
    codeAny (model P w) A (.call (.ref f) args) (CR CX outer P w H s Q E) s

section
variable {P : Program} {w : World} {K : PySem.W.Frag} {mg : Str → Option Value} {base : Heap}
theorem FnG.of {CX : CXT} {k : Nat} {f : Addr} {fd : FuncData} {ps : List Str} {sp : Sp}
    (F : FnOk P w K mg base CX k f fd ps sp) : FnG P w K mg base CX k f fd ps sp :=
  ⟨F.len, fun A o s H a us vs Q E hr _ => F.run A o s H a us vs Q E hr⟩
theorem fnG {CX : CXT} {k : Nat} {x qual : Str} {st : Stmt} {f : Addr} {fd : FuncData} {N ps : List Str} {sp : Sp}
    (F : Fun K x qual st f fd) (S : FnScope N ps (defScope st)) (len : ∀ vs H Q E, sp vs H Q E → vs.length = ps.length)
    (hbody : ∀ (cdv : Value) (A : Around) (outer : List Env) (s : Shared) (H : Hp) (vs : List V) (Q : VK) (E : XK),
      Room k (A.deeper (envOfC qual (defScope st) s.heap.objs.size f cdv)) → Gd A → sp vs H Q E →
      ∃ t, PSs (cxOf CX P w K mg base N qual (defScope st) f cdv A outer s H E) (defBody st) t ∧
        t { nx := fun _ H' => Q .non H', rt := Q } (start N vs) H) :
    FnG P w K mg base CX (k + 1) f fd ps sp := by
  obtain ⟨oc, od, kV, doc, pm, an, cdv, ct, osl, rfl, lk, hcd⟩ := F.ex
  constructor
  · exact len
  intro A outer s H args us vs Q E room gd env bnd rel hsp
  have kin : K.In s.heap := env.mod.kin.keeps (fun b o e => (env.bs b o e).1)
  have kinds : ∀ y ∈ ps.zip us, (defScope st).names.lookup y.1 = some .local ∨
      ((defScope st).names.lookup y.1 = some .cell ∧
        ((cellsFrom (s.heap.objs.size + 1) (defScope st).names []).lookup y.1).isSome = true) := by
    rintro ⟨n, v⟩ hy
    cases S.par n (List.of_mem_zip hy).1 with
    | inl q => exact Or.inl q
    | inr q => exact Or.inr ⟨q, PySem.W.cellsFrom_some _ _ _ (Or.inl q)⟩
  apply codeAny_call_function room.depth (kin _ _ lk) rfl S.co S.gen rfl (PySem.W.codeRec_of kin hcd)
  apply bnd
  apply wpAny_newFunctionEnv_cells S.kind kinds
  intro env' he s1 x1
  subst he
  obtain ⟨t, ht, hq⟩ := hbody cdv A outer s H vs Q E (room.deeper _) gd hsp
  have I := inv_start (CX := CX) (E := E) (outer := outer) S room.hd env (len _ _ _ _ hsp) rel x1
  refine ⟨(env.mod.nolimit.keeps (fun b o e => (env.bs b o e).1)).keeps x1.toInCall.keep, codeAny_func ?_⟩
  apply wpAny_mono (ht.run [] s1 (start N vs) H _ I hq)
  · intro fl s' hs
    cases fl with
    | ret u => obtain ⟨v, σ', H', J, rv, q⟩ := hs; exact ⟨v, H', J.os, J.bare, J.base, J.hok, rv, q⟩
    | next => obtain ⟨σ', H', J, q⟩ := hs; exact ⟨V.non, H', J.os, J.bare, J.base, J.hok, rfl, q⟩
    | brk => obtain ⟨_, _, _, q⟩ := hs; exact q.elim
    | cont => obtain ⟨_, _, _, q⟩ := hs; exact q.elim
  · exact fun _ _ hs => hs
end

theorem fnG0 {P : Program} {w : World} {K : PySem.W.Frag} {mg : Str → Option Value} {base : Heap} {k : Nat} {x qual : Str} {st : Stmt} {f : Addr} {fd : FuncData} {N ps : List Str} {sp : Sp}
    (F : Fun K x qual st f fd) (S : FnScope N ps (defScope st)) (len : ∀ vs H Q E, sp vs H Q E → vs.length = ps.length)
    (hbody : ∀ (cdv : Value) (A : Around) (outer : List Env) (s : Shared) (H : Hp) (vs : List V) (Q : VK) (E : XK),
      Room k (A.deeper (envOfC qual (defScope st) s.heap.objs.size f cdv)) → Gd A → sp vs H Q E →
      ∃ t, PSs (cxOf CX0 P w K mg base N qual (defScope st) f cdv A outer s H E).nox (defBody st) t ∧
        t { nx := fun _ H' => Q .non H', rt := Q } (start N vs) H) :
    FnG P w K mg base CX0 (k + 1) f fd ps sp :=
  fnG F S len fun cdv A outer s H vs Q E hr g h => by
    obtain ⟨t, ht, q⟩ := hbody cdv A outer s H vs Q E hr g h
    exact ⟨t, ht.nox, q⟩

/-! ### the call of such a def -/
section
variable {X : Cx} {CX : CXT} {k : Nat} {f : Addr} {fd : FuncData} {ps : List Str} {sp : Sp} {E : XK} {x : Str}
  {p pos : Pos} {e : Expr} {es : List Expr} {t : TA}
theorem pe_callG (F : FnG X.prog X.w X.K X.mg X.base CX k f fd ps sp) (hr : Room k X.A) (gd : Gd X.A) (hg : Gl X x)
    (hm : X.mg x = some (.ref f)) (hk : PySem.W.keepIn X.K (.ref f) = true) (hb : Binds X.K fd ps [])
    (hx : Passes CX X E) (ha : PA X (e :: es) t) (hdb : (x == ("__debug__" : Str)) = false := by decide)
    (he : starEach (e :: es) X.env = (false, eval e X.env) :: starEach es X.env := by rfl)
    (hpl : (backTo pos (starEach es X.env)).any (·.1) = false := by rfl) :
    PE X (.Call (.Name x p) (e :: es) [] pos) (tCall sp [] E t) := by
  constructor
  intro pins s σ H Q I h
  apply wpAny_Call_Name_kw
  apply ld_glob I hg hm _ hdb
  refine PySem.W.callWith_K (h₀ := X.base) I.ok.mod.kin hk ?_ he hpl
  refine thn (ha.run pos pins s σ H _ I h) ?_
  rintro us s1 ⟨vs, H1, I1, r, q⟩
  refine ⟨I1.kIn, ?_⟩
  have hl : (us ++ []).length = ps.length := by
    rw [List.append_nil, ← r.length, ← F.len _ _ _ _ q, List.append_nil]
  have bd := hb s1 us I1.kIn hl
  rw [List.append_nil] at q bd
  refine wpAny_call (codeAny_mono (F.run X.A X.stack s1 H1 ⟨us, []⟩ us vs Q E hr gd I1.env0 bd r q) ?_)
  intro r s' hq
  cases r with
  | error e => exact hx pins σ H1 s1 e s' I1 hq
  | ok fl =>
    cases fl with
    | ret u => exact I1.after hq
    | next => exact hq.elim
    | brk => exact hq.elim
    | cont => exact hq.elim
end

/-! ### repr of data -/
theorem shsm {d : PyData} {as : List Addr} (h : d.hasDict = false) : d.hasDict = true → sysModules ∉ as := by
  rw [h]; intro z; cases z
section
variable {X : Cx}
/-- repr(x), x a list or a tuple of data -/
def rRep (K : PySem.W.Frag) : List V → Hp → VK → Prop := fun xs H Q => ∃ a d, xs = [.ref a] ∧ Dp K H (.ref a) d ∧
  d.showable = true ∧ d.hasDict = false ∧ d.depth ≤ 60 ∧ d.shown.length ≤ sizeLine ∧ Q (.str d.shown) H
theorem call_rep (gd : Gd X.A) (hu : X.A.units + 64 < cLine) : CallR X (.builtin "repr") (rRep X.K) := by
  intro pins s σ H xs us Q I r h
  obtain ⟨a, d, rfl, hd, sh, nd, dp, sz, q⟩ := h
  obtain ⟨u, rfl, ru⟩ := vals1 r
  obtain ⟨as, rd⟩ := Dp.reads I d _ u hd ru
  cases (show u = Value.ref a from ru)
  refine repr_of_reads' rd sh (shsm nd) gd (by omega) (fun _ _ e => e) (fun h' u tk hk => ?_) sz
  exact ⟨.str d.shown, H, I.kept hk, ⟨_, rfl⟩, q⟩
end

/-! ### match over texts -/
structure PM (X : Cx) (cs : List MatchCase) (tm : V → TS) : Prop where
  run : ∀ (pins : List (Addr × Obj)) (s : Shared) (σ : L2.St) (H : Hp) (D : Ends) (v : V) (u : Value) (b : Bool),
    Inv X pins σ H s → RelV v u → tm v D σ H → wpAny (model X.prog X.w) X.A (matchCases cs X.env u b) (SP X pins D) X.xe s
def mNil : V → TS := fun _ => tNext
def mAny (tb : TS) : V → TS := fun _ => tb
def mStr (z : Str) (tb : TS) (tr : V → TS) : V → TS := fun v D σ H => ∃ x, v = .str x ∧ if x = z then tb D σ H else tr v D σ H
def tMatch (ta : TE) (tm : V → TS) : TS := fun D σ H => ta σ H fun v H1 => tm v D σ H1
section
variable {X : Cx} {rest : List MatchCase} {body : List Stmt} {tb : TS} {tr : V → TS} {pos p1 : Pos} {z : Str} {j : Nat}
theorem pm_nil : PM X [] mNil := ⟨fun pins s σ H D v u b I r h => wpAny_matchCases_nil ⟨σ, H, I, h⟩⟩
theorem pm_any (h : PSs X body tb) : PM X (⟨.MatchAs none none pos, none, body⟩ :: rest) (mAny tb) := by
  constructor
  intro pins s σ H D v u b I r q
  apply wpAny_matchCases_cons
  apply wpAny_matchPattern_Capture
  exact wpAny_assignInOrder_none (h.run pins s σ H D I q)
theorem pm_str (h : PSs X body tb) (hr : PM X rest tr) :
    PM X (⟨.MatchValue (.Constant (.str z) j p1) pos, none, body⟩ :: rest) (mStr z tb tr) := by
  constructor
  intro pins s σ H D v u b I r q
  obtain ⟨x, rfl, q⟩ := q
  apply wpAny_matchCases_cons
  apply wpAny_matchPattern_Value
  refine thn ((pe_str (X := X) (x := z) (j := j) (pos := p1)).run pins s σ H (fun v H1 => v = .str z ∧ H1 = H) I ⟨rfl, rfl⟩) ?_
  rintro y s1 ⟨v1, H1, I1, r1, rfl, rfl⟩
  refine thn (op_eq pins s1 σ H1 (.str x) (.str z) u y (fun c H2 => c = .bl (decide (x = z)) ∧ H2 = H1) I1 r r1 ⟨rfl, by
    rw [show decide ((V.str x) = V.str z) = decide (x = z) from by simp]; exact ⟨rfl, rfl⟩⟩) ?_
  rintro c s2 ⟨v2, H2, I2, r2, rfl, rfl⟩
  cases (show c = Value.bool (decide (x = z)) from r2)
  apply wpAny_truthy_bool
  by_cases e : x = z
  · rw [if_pos (decide_eq_true e)]
    rw [if_pos e] at q
    exact wpAny_assignInOrder_none (h.run pins s2 σ H2 D I2 q)
  · rw [decide_eq_false e, if_neg Bool.false_ne_true]
    rw [if_neg e] at q
    exact hr.run pins s2 σ H2 D (.str x) u false I2 r q
theorem ps_match {e : Expr} {cs : List MatchCase} {ta : TE} {tm : V → TS} (ha : PE X e ta) (hm : PM X cs tm) : PS X (.Match e cs pos) (tMatch ta tm) := by
  constructor
  intro pins s σ H D I q
  apply wpAny_Match
  refine thn (ha.run pins s σ H _ I q) ?_
  rintro u s1 ⟨v, H1, I1, r1, q1⟩
  exact hm.run pins s1 σ H1 D v u true I1 r1 q1
end

/-! ### keywords: every keyword-only parameter is written -/
theorem kbn_all {K : PySem.W.Frag} {x qual : Str} {st : Stmt} {f : Addr} {fd : FuncData} {ps ks : List Str} {n : Nat} (F : Fun K x qual st f fd)
    (h : ∀ (kV doc pm : Value) (an : Option Addr) (cdv ct : Value) (us ws : List Value), us.length = n → ws.length = ks.length →
      bindArgs (PySem.W.fnOf x qual (defArgs st) (defBody st) (defScope st) .none kV doc pm an cdv ct) ⟨us, ks.zip ws⟩ = pure (ps.zip (us ++ ws))) :
    KBn K fd ps n ks (fun us ws => us ++ ws) (fun vs zs => vs ++ zs) := by
  obtain ⟨oc, od, kV, doc, pm, an, cdv, ct, osl, rfl, lk, hcd⟩ := F.ex
  constructor
  · intro s us ws kin l1 l2
    exact .of_eq (h kV doc pm an cdv ct us ws l1 l2)
  · intro vs us zs ws r1 r2
    exact r1.append r2

/-! ### the end of a law's row, its def told by FnG -/
section
variable {P : Program} {w : World} {K : PySem.W.Frag} {mg mb : Str → Option Value} {CX : CXT} {k : Nat} {fa a : Addr} {fd : FuncData} {x : Str} {sp : Sp}
  {s1 : Shared} {vs : List Value} {ns : List Int}
/-- H tracks the script alone, locked -/
structure Scr (P : Program) (w : World) (K : PySem.W.Frag) (H : Hp) (s1 : Shared) (a : Addr) (xs : List V) : Prop where
  only : ∀ b, H b = none ∨ (b = a ∧ ∃ o, H b = some (.frz o (.lst xs)))
  seq : SqL K H a xs
  hok : HOk P w H s1.heap
  out : H a ≠ none → K.lookup a = none
theorem scr_run (kin : K.In s1.heap) (hns : s1.heap.Ns mainGlobals mg) (hb : s1.heap.Ns builtinsNs mb) (hbb : ∀ x : Str, x ≠ "__name__" → mb x = bootBuiltins x)
    (hlim : s1.heap.NoLimit) (hg : s1.gens = #[]) (ha : s1.heap.get? a = some { cls := .type "list", data := .seq vs.toArray }) (hr : Room k callerA)
    (F : ∀ base : Heap, K.In base → base.Ns mainGlobals mg → FnG P w K mg base CX k fa fd [x] sp)
    (hbind : ∀ (s : Shared) (u : Value), BindsTo s fd ⟨[u], []⟩ [(x, u)]) (H : Hp) {xs : List V} (C : Scr P w K H s1 a xs)
    (hsp : sp [.ref a] H (fun v _ => v = .bl true) fun _ _ _ => False) (hCX : ∀ e s', CX [] H s1 (fun _ _ _ => False) e s' → False) :
    codeAny (model P w) callerA (.call (.ref fa) ⟨[.ref a], []⟩)
      (fun r s' => r = .ok (.ret (.bool true)) ∧ OldK s1.heap s'.heap ∧ s'.os = s1.os ∧ AllBare s'.gens) s1 := by
  have free : ∀ {b : Addr} {o : Obj}, s1.heap.get? b = some o → (∀ es, o.data ≠ .seq es 0) → H b = none := by
    intro b o e hne
    rcases C.only b with q | ⟨rfl, _⟩
    · exact q
    · rw [ha] at e; cases e; exact absurd rfl (hne _)
  have nsk : ∀ {b : Addr} {m : Str → Option Value}, s1.heap.Ns b m → (hidT s1.heap H).Ns b m := by
    rintro b m ⟨o, es, ep, e, d, r⟩
    exact ⟨o, es, ep, hidT_get e (free e (fun q z => by rw [d] at z; cases z)), d, r⟩
  have kb : K.In (hidT s1.heap H) := by
    intro b o e
    apply hidT_get (kin b o e)
    rcases C.only b with q | ⟨rfl, ob, q⟩
    · exact q
    · rw [C.out (by rw [q]; exact fun z => by cases z)] at e; cases e
  have md : Mod K mg (hidT s1.heap H) := by
    obtain ⟨mc, h1, h2⟩ := hlim
    exact ⟨kb, nsk hns, ⟨mb, nsk hb, hbb⟩, mc, nsk h1, h2⟩
  have env : Env0 P w K mg (hidT s1.heap H) callerA [] s1 H :=
    ⟨rfl, md, fun _ _ e => of_hidT e, Nat.le_of_eq (hidT_size _ _), trivial, fun b z => (nomatch (show b ∈ ([] : List Addr) from z)), C.hok, .of_eq hg⟩
  have run := (F _ kb (nsk hns)).run callerA [] s1 H ⟨[.ref a], []⟩ [.ref a] [.ref a] _ _ hr rfl env (hbind s1 (.ref a)) (.cons rfl .nil) hsp
  refine codeAny_mono run ?_
  intro r s' h
  cases r with
  | error e => exact (hCX e s' h).elim
  | ok fl =>
    cases fl with
    | next => exact h.elim
    | brk => exact h.elim
    | cont => exact h.elim
    | ret u =>
      obtain ⟨v, H', os, bare, un, hok, rv, q⟩ := h
      cases (show v = .bl true from q)
      cases (show u = Value.bool true from rv)
      refine ⟨rfl, OldK.of_keep ?_, os, bare⟩
      intro b o e
      rcases C.only b with z | ⟨_, ob, z⟩
      · exact un.keep b o e z (fun y => (nomatch (show b ∈ ([] : List Addr) from y))) (fun y => (nomatch y))
      · have e1 := (C.hok b _ z).1
        have e2 := (hok b _ (un.frzs b ob _ z)).1
        rw [e] at e1; cases e1
        exact e2
theorem scr_of (P : Program) (w : World) (ha : s1.heap.get? a = some { cls := .type "list", data := .seq vs.toArray }) (hi : IntsAre vs ns) (hl : ns.length ≤ sizeLine) (kin : K.In s1.heap) :
    ∃ H, Scr P w K H s1 a (ns.map V.int) := by
  have rv := vals_ints hi
  cases hk : K.lookup a with
  | some o =>
    have e := kin a o hk
    rw [ha] at e; cases e
    refine ⟨fun _ => none, fun _ => .inl rfl, .inr ⟨_, vs.toArray, _, hk, rfl, rfl, rfl, ?_, by simpa using rv⟩, fun b u z => (nomatch z), fun z => absurd rfl z⟩
    rw [List.size_toArray, hi.length]; exact hl
  | none =>
    refine ⟨fun b => if b = a then some (.frz { cls := .type "list", data := .seq vs.toArray } (.lst (ns.map V.int))) else none, ?_, .inl (.inr ⟨_, if_pos rfl⟩), ?_, fun _ => hk⟩
    · intro b
      by_cases e : b = a
      · exact .inr ⟨e, _, if_pos e⟩
      · exact .inl (if_neg e)
    · intro b u z
      by_cases e : b = a
      · subst e
        have z2 : (HO.frz { cls := .type "list", data := .seq vs.toArray } (.lst (ns.map V.int))) = u := Option.some.inj ((if_pos rfl).symm.trans z)
        subst z2
        exact ⟨ha, by rw [List.length_map]; exact hl, vs, _, rv, ha⟩
      · exact nomatch ((if_neg e).symm.trans z)
end
theorem walkG {l : PySem.W.OpenLaw} {n k : Nat} {q : Program} {loose : List Str} {XP : (Str → Option Value) → Heap → Prop} {YP : World → Heap → Prop} {d : DefRec}
    {K : Params → PySem.W.Frag} {CX : World → CXT} {sp : World → Sp} {x : Str} (hn : l.most = some n) (hn2 : n ≤ sizeLine) (hdf : d.params.defaults = []) (hr : Room k callerA)
    (hY : ∀ (w : World) (h : Heap), YP w h → (K w.params).In h)
    (F : ∀ (w : World) (mg : Str → Option Value) (fa : Addr) (h : Heap), (K w.params).In h → h.Ns mainGlobals mg → mg d.name = some (.ref fa) →
      ∃ fd : FuncData, (∀ (s : Shared) (u : Value), BindsTo s fd ⟨[u], []⟩ [(x, u)]) ∧
        ∀ base : Heap, (K w.params).In base → base.Ns mainGlobals mg → FnG l.prog w (K w.params) mg base (CX w) k fa fd [x] (sp w))
    (hsp : ∀ (w : World) (H : Hp) (a : Addr) (ns : List Int), ns.length ≤ n → SqL (K w.params) H a (ns.map V.int) → sp w [.ref a] H (fun v _ => v = .bl true) fun _ _ _ => False)
    (hCX : ∀ (w : World) (H : Hp) (s : Shared) (e : Value) (s' : Shared), CX w [] H s (fun _ _ _ => False) e s' → False) :
    PySem.W.WalkO q loose XP YP l.row.toRowW d [] (fun f vs => PySem.call f vs) := by
  apply Att.attach_call hn hdf
  intro w s0 s1 mg mb fa o pm cd doc a vs ns G Y ho hd hcd hmg hobj hints hlen hg
  have kin := hY w _ Y
  obtain ⟨fd, hb, hF⟩ := F w mg fa _ kin G.T.g hmg
  obtain ⟨H, C⟩ := scr_of (K := K w.params) l.prog w hobj hints (Nat.le_trans hlen hn2) kin
  exact scr_run kin G.T.g G.T.b G.T.builtins G.T.nolimit hg hobj hr hF hb H C (hsp w H a ns hlen C.seq) (fun e s' => hCX w H s1 e s')
end Bg

set_option Elab.async false
set_option linter.all false
set_option maxRecDepth 100000
set_option maxHeartbeats 4000000
namespace Bg
open PySem PySem.Spec PyProof.Rows L2
/-! ### readings, step by step -/
section
variable {σ : L2.St} {H : Hp} {Q : VK} {QT : Bool → Hp → Prop} {QA : List V → Hp → Prop} {D : Ends} {v x y : V} {i j : Int} {n : Nat} {ta tb te : TE} {tt tu : TT} {tA : TA} {t1 t2 : TS} {r : R2} {K : PySem.W.Frag} {p : Addr} {xs : List V} {b : Bool}
theorem rd_var (h : σ[n]? = some (some v)) (q : Q v H) : tVar n σ H Q := ⟨v, h, q⟩
theorem rd_c (q : Q v H) : tC v σ H Q := q
theorem rd_op (q : ta σ H fun x H1 => tb σ H1 fun y H2 => r x y H2 Q) : tOp r ta tb σ H Q := q
theorem rd_un {u : V → Hp → VK → Prop} (q : ta σ H fun x H1 => u x H1 Q) : tUn u ta σ H Q := q
theorem rd_I0 {g : Int → Int → V} (q : Q (g i j) H) : rI0 g (.int i) (.int j) H Q := ⟨i, j, rfl, rfl, q⟩
theorem rd_I {C : Int → Int → Prop} {g : Int → Int → V} (c : C i j) (q : Q (g i j) H) : rI C g (.int i) (.int j) H Q := ⟨i, j, rfl, rfl, c, q⟩
theorem rd_U {g : Int → V} (q : Q (g i) H) : rU g (.int i) H Q := ⟨i, rfl, q⟩
theorem rd_eq (s : scal x y = true) (q : Q (.bl (decide (x = y))) H) : rEq x y H Q := ⟨s, q⟩
theorem rd_ne (s : scal x y = true) (q : Q (.bl (!decide (x = y))) H) : rNe x y H Q := ⟨s, q⟩
theorem rd_test (q : te σ H fun x H' => ∃ k, x = .bl k ∧ QT k H') : tTest te σ H QT := q
theorem rd_B (q : te σ H fun x H' => ∃ k, x = .bl k ∧ QT k H') : tB te σ H QT := q
theorem rd_bl {R : Bool → Prop} (q : R b) : ∃ k, V.bl b = .bl k ∧ R k := ⟨b, rfl, q⟩
theorem rd_not (q : tt σ H fun c H1 => QT (!c) H1) : tNot tt σ H QT := q
theorem rd_and (q : tt σ H fun c H1 => if c = true then tu σ H1 QT else QT false H1) : tAnd tt tu σ H QT := q
theorem rd_or (q : tt σ H fun c H1 => if c = true then QT true H1 else tu σ H1 QT) : tOr tt tu σ H QT := q
theorem rd_andV (q : ta σ H fun x H1 => ∃ c, x = .bl c ∧ if c = true then tb σ H1 Q else Q (.bl false) H1) : tAndV ta tb σ H Q := q
theorem rd_orV (q : ta σ H fun x H1 => ∃ c, x = .bl c ∧ if c = true then Q (.bl true) H1 else tb σ H1 Q) : tOrV ta tb σ H Q := q
theorem rd_notV (q : ta σ H fun x H1 => ∃ c, x = .bl c ∧ Q (.bl (!c)) H1) : tNotV ta σ H Q := q
theorem rd_if (q : tt σ H fun c H1 => if c = true then ta σ H1 Q else tb σ H1 Q) : tIf tt ta tb σ H Q := q
theorem rd_chain {r' : R2} {tc : TE} (q : ta σ H fun x H1 => tb σ H1 fun y H2 => r x y H2 fun z H3 => ∃ k, z = .bl k ∧ (if k = true then tc σ H3 fun w' H4 => r' y w' H4 Q else Q (.bl false) H3)) : tChain r r' ta tb tc σ H Q := q
theorem rd_seq (q : t1 { D with nx := t2 D } σ H) : tSeq t1 t2 D σ H := q
theorem rd_next (q : D.nx σ H) : tNext D σ H := q
theorem rd_asg {g : TG} (q : te σ H fun x H1 => g x σ H1 D.nx) : tAsg te g D σ H := q
theorem rd_name {R : L2.St → Hp → Prop} (q : R (σ.set n (some v)) H) : gName n v σ H R := q
theorem rd_gsub {to ti : TE} {tset : V → V → V → Hp → (Hp → Prop) → Prop} {R : L2.St → Hp → Prop} (q : to σ H fun o H1 => ti σ H1 fun i H2 => tset o i v H2 fun H3 => R σ H3) : gSub to ti tset v σ H R := q
theorem rd_setL {R : Hp → Prop} {k : Int} {j : Nat} (h : H p = some (.lst xs)) (e : ixN xs.length k = some j) (q : R (upd H p (.lst (xs.set j v)))) : rSetL (.ref p) (.int k) v H R := ⟨p, xs, k, j, rfl, rfl, h, e, q⟩
theorem rd_ret (q : te σ H D.rt) : tRet te D σ H := q
theorem rd_drop (q : te σ H fun _ H1 => D.nx σ H1) : tDrop te D σ H := q
theorem rd_ifS (q : tt σ H fun b H1 => if b = true then t1 D σ H1 else t2 D σ H1) : tIfS tt t1 t2 D σ H := q
theorem rd_nil (q : QA [] H) : tNil σ H QA := q
theorem rd_cons (q : ta σ H fun x H1 => tA σ H1 fun xs H2 => QA (x :: xs) H2) : tCons ta tA σ H QA := q
theorem rd_CB {u : List V → Hp → VK → Prop} (q : tA σ H fun vs H1 => u vs H1 Q) : tCB u tA σ H Q := q
theorem rd_call {sp : Sp} {dvs : List V} {E : XK} (q : tA σ H fun vs H1 => sp (vs ++ dvs) H1 Q E) : tCall sp dvs E tA σ H Q := q
theorem rd_callN {sp : Sp} {m k : Nat} {gV : List V → List V → List V} {E : XK} {tk : TA} (q : tA σ H fun vs H1 => tk σ H1 fun zs H2 => vs.length = m ∧ zs.length = k ∧ sp (gV vs zs) H2 Q E) : tCallN m k sp gV E tA tk σ H Q := q
/-- a new object at p, all else as it was -/
def NewAt (H : Hp) (o : HO) (R : Addr → Hp → Prop) : Prop := ∀ p H', H p = none → Same H H' → H' p = some o → R p H'
theorem new_at {o : HO} {R : Addr → Hp → Prop} (q : NewAt H o R) (p : Addr) (np : H p = none) : R p (upd H p o) := q p _ np (fun b x e => by rw [upd_ne (ne_of_none e np)]; exact e) upd_same
theorem rd_dnew (q : NewAt H (.dK []) fun p H' => Q (.ref p) H') : tDNewK σ H Q := fun p np => new_at q p np
theorem rd_ixL (h : SqL K H p xs) (e : atI xs i = some v) (q : Q v H) : rIxL K (.ref p) (.int i) H Q := ⟨p, xs, i, v, rfl, rfl, h, e, q⟩
theorem rd_ixT (h : SqT K H p xs) (e : atI xs i = some v) (q : Q v H) : rIxT K (.ref p) (.int i) H Q := ⟨p, xs, i, v, rfl, rfl, h, e, q⟩
theorem rd_match {tm : V → TS} (q : ta σ H fun v H1 => tm v D σ H1) : tMatch ta tm D σ H := q
theorem rd_mstr {z w : Str} {tr : V → TS} (q : if w = z then t1 D σ H else tr (.str w) D σ H) : mStr z t1 tr (.str w) D σ H := ⟨w, rfl, q⟩
theorem rd_par {a b : Nat} {v w : V} (q : tA σ H fun vs H1 => ∃ v w, vs = [v, w] ∧ D.nx ((σ.set a (some v)).set b (some w)) H1) : tPar a b tA D σ H := q
end
section
variable {σ : L2.St} {H : Hp} {Q : VK} {D : Ends} {te : TE} {tA : TA} {K : PySem.W.Frag} {p : Addr} {xs : List V} {R : It → Hp → Prop} {QO : Option Int → Hp → Prop} {x : V} {i : Int}
theorem rd_sl {r : V → Option Int → Option Int → Hp → VK → Prop} {tl th : TO} (q : te σ H fun x H1 => tl σ H1 fun l H2 => th σ H2 fun u H3 => r x l u H3 Q) : tSl r te tl th σ H Q := q
theorem rd_nopart (q : QO none H) : tNoPart σ H QO := q
theorem rd_part (q : te σ H fun x H1 => ∃ i, x = .int i ∧ QO (some i) H1) : tPart te σ H QO := q
theorem rd_slL {lo hi : Option Int} (h : SqL K H p xs) (q : NewAt H (.lst (cutV xs lo hi)) fun p H' => Q (.ref p) H') : rSlL K (.ref p) lo hi H Q := ⟨p, xs, rfl, h, fun p np => new_at q p np⟩
theorem rd_sum {ns : List Int} (h : SqL K H p xs) (e : xs = ns.map V.int) (q : Q (.int ns.sum) H) : rSum K [.ref p] H Q := ⟨p, ns, rfl, e ▸ h, q⟩
def FOR (J : It) (g : TG) (tb : TS) (D : Ends) (σ : L2.St) (H : Hp) : Prop := ∃ W : Nat → Nat → L2.St → Hp → Prop, (∃ m, W 0 m σ H) ∧ ∀ i m σ H, W i m σ H →
  (J.stop i H ∧ D.nx σ H) ∨
    (J.go i H ∧ ∃ N : L2.St → Hp → Prop, (∀ σ' H', N σ' H' → ∃ m', m' < m ∧ W (i + 1) m' σ' H') ∧
      ∀ x H', J.yld i H x H' → g x σ H' fun σ2 H2 => tb { D with nx := N, ct := N, bk := D.nx } σ2 H2)
theorem rd_for {wi : TI} {g : TG} {tb : TS} (q : wi σ H fun J H1 => FOR J g tb D σ H1) : tFor wi g tb D σ H := q
theorem rd_rng1 (q : tA σ H fun vs H1 => ∃ j : Int, vs = [.int j] ∧ -(2 ^ 62) ≤ j ∧ j < 2 ^ 62 ∧ R (Itr 0 j.toNat) H1) : iRng1 tA σ H R := q
theorem rd_ilist (q : te σ H fun x H1 => ∃ a, x = .ref a ∧ (∃ xs, SqL K H1 a xs) ∧ R (Itl K a) H1) : iList K te σ H R := q
theorem rd_itup (q : te σ H fun x H1 => ∃ a, x = .ref a ∧ (∃ xs, SqT K H1 a xs) ∧ R (Itt K a) H1) : iTup K te σ H R := q
theorem rd_cat {l b : Addr} {zs : List V} (h : H l = some (.lst xs)) (h2 : H b = some (.lst zs)) (z : xs.length + zs.length ≤ sizeLine) (q : NewAt H (.lst (xs ++ zs)) fun p H' => Q (.ref p) H') : rCat (.ref l) (.ref b) H Q := ⟨l, b, xs, zs, rfl, rfl, h, h2, z, fun p np => new_at q p np⟩
theorem rd_len {A : List V → Prop} (h : SqL K H p xs) (q : A xs) : ∃ a ys, [V.ref p] = [V.ref a] ∧ (SqL K H a ys ∨ SqT K H a ys) ∧ A ys := ⟨p, xs, rfl, .inl h, q⟩
theorem rd_lenT {A : List V → Prop} (h : SqT K H p xs) (q : A xs) : ∃ a ys, [V.ref p] = [V.ref a] ∧ (SqL K H a ys ∨ SqT K H a ys) ∧ A ys := ⟨p, xs, rfl, .inr h, q⟩
theorem rd_int1 {A : Int → Prop} (q : A i) : ∃ j, [V.int i] = [V.int j] ∧ A j := ⟨i, rfl, q⟩
theorem rd_int2 {A : Int → Int → Prop} {j : Int} (q : A i j) : ∃ a b, [V.int i, V.int j] = [V.int a, V.int b] ∧ A a b := ⟨i, j, rfl, q⟩
theorem rd_intp {A : Int → Prop} (q : A i) : ∃ j, V.int i = V.int j ∧ A j := ⟨i, rfl, q⟩
theorem rd_ofb {b : Bool} {A : Int → Prop} {B : Bool → Prop} (q : B b) : (∃ i, [V.bl b] = [V.int i] ∧ A i) ∨ ∃ k, [V.bl b] = [V.bl k] ∧ B k := .inr ⟨b, rfl, q⟩
theorem rd_two {A : V → V → Prop} {v w : V} (q : A v w) : ∃ a b, [v, w] = [a, b] ∧ A a b := ⟨v, w, rfl, q⟩
theorem rd_isi {c : V} {t u : Value} {b : Bool} (k : ClsV c u) (ty : TyX K H x t) (e : PySem.W.kitOne K t u = some b) (q : Q (.bl b) H) : rIsi K [x, c] H Q := ⟨x, c, t, u, b, rfl, k, ty, e, q⟩
end
/-! ### new lists and tuples, the heap behind them told by what stands in it -/
def tLstN (t : TA) : TE := fun σ H Q => t σ H fun xs H1 => xs.length ≤ sizeLine ∧ NewAt H1 (.lst xs) fun p H' => Q (.ref p) H'
def tTupN (t : TA) : TE := fun σ H Q => t σ H fun xs H1 => xs.length ≤ sizeLine ∧ NewAt H1 (.tup xs) fun p H' => Q (.ref p) H'
def tWk (t : TA) : TA := fun σ H QA => ∃ QB, t σ H QB ∧ ∀ xs H1, QB xs H1 → QA xs H1
section
variable {X : Cx} {es : List Expr} {t : TA} {pos : Pos}
theorem pa_wk (h : PA X es t) : PA X es (tWk t) := by
  constructor
  intro pos pins s σ H Q I q
  obtain ⟨QB, q1, q2⟩ := q
  refine thn (h.run pos pins s σ H QB I q1) ?_
  rintro us s1 ⟨vs, H1, I1, r, z⟩
  exact ⟨vs, H1, I1, r, q2 _ _ z⟩
theorem pe_lstN (h : PA X es t) : PE X (.List es pos) (tLstN t) :=
  ⟨fun pins s σ H Q I q => (pe_lst (pa_wk h)).run pins s σ H Q I ⟨_, q, fun xs H1 z => ⟨z.1, fun p np => new_at z.2 p np⟩⟩⟩
theorem pe_tupN {k} (h : PA X es t) : PE X (.Tuple es k pos) (tTupN t) :=
  ⟨fun pins s σ H Q I q => (pe_tup (pa_wk h)).run pins s σ H Q I ⟨_, q, fun xs H1 z => ⟨z.1, fun p np => new_at z.2 p np⟩⟩⟩
end
section
variable {σ : L2.St} {H : Hp} {Q : VK} {tA : TA} {xs : List V} {A : Prop}
theorem rd_lst (q : tA σ H fun xs H1 => xs.length ≤ sizeLine ∧ NewAt H1 (.lst xs) fun p H' => Q (.ref p) H') : tLstN tA σ H Q := q
theorem rd_tup (q : tA σ H fun xs H1 => xs.length ≤ sizeLine ∧ NewAt H1 (.tup xs) fun p H' => Q (.ref p) H') : tTupN tA σ H Q := q
theorem rd_sz (z : xs.length ≤ 1000) (q : A) : xs.length ≤ sizeLine ∧ A := ⟨Nat.le_trans z (by decide), q⟩
end
/-- the joining of ways behind a statement -/
def tJoin (t u : TS) : TS := fun D σ H => ∃ Mid : L2.St → Hp → Prop, t { D with nx := Mid } σ H ∧ ∀ σ' H', Mid σ' H' → u D σ' H'
theorem SP_mono {X : Cx} {pins : List (Addr × Obj)} {D D' : Ends} (a : ∀ σ H, D.nx σ H → D'.nx σ H) (b : ∀ σ H, D.bk σ H → D'.bk σ H) (c : ∀ σ H, D.ct σ H → D'.ct σ H) (d : ∀ v H, D.rt v H → D'.rt v H)
    {f : Flow} {s : Shared} (h : SP X pins D f s) : SP X pins D' f s := by
  cases f with
  | next => obtain ⟨σ, H, I, q⟩ := h; exact ⟨σ, H, I, a _ _ q⟩
  | brk => obtain ⟨σ, H, I, q⟩ := h; exact ⟨σ, H, I, b _ _ q⟩
  | cont => obtain ⟨σ, H, I, q⟩ := h; exact ⟨σ, H, I, c _ _ q⟩
  | ret u => obtain ⟨v, σ, H, I, r, q⟩ := h; exact ⟨v, σ, H, I, r, d _ _ q⟩
def tsWk (t : TS) : TS := fun D σ H => ∃ D' : Ends, t D' σ H ∧ (∀ σ H, D'.nx σ H → D.nx σ H) ∧ (∀ σ H, D'.bk σ H → D.bk σ H) ∧ (∀ σ H, D'.ct σ H → D.ct σ H) ∧ ∀ v H, D'.rt v H → D.rt v H
theorem ps_wk {X : Cx} {st : Stmt} {t : TS} (h : PS X st t) : PS X st (tsWk t) := by
  constructor
  intro pins s σ H D I q
  obtain ⟨D', q1, a, b, c, d⟩ := q
  exact thn (h.run pins s σ H D' I q1) fun f s1 z => SP_mono a b c d z
theorem pss_join {X : Cx} {st : Stmt} {rest : List Stmt} {t u : TS} (h : PS X st t) (hr : PSs X rest u) : PSs X (st :: rest) (tJoin t u) :=
  ⟨fun pins s σ H D I q => by
    obtain ⟨Mid, q1, q2⟩ := q
    exact (pss_cons (ps_wk h) hr).run pins s σ H D I ⟨_, q1, q2, fun _ _ z => z, fun _ _ z => z, fun _ _ z => z⟩⟩
theorem rd_join {t u : TS} {D : Ends} {σ : L2.St} {H : Hp} (Mid : L2.St → Hp → Prop) (h : t { D with nx := Mid } σ H) (q : ∀ σ' H', Mid σ' H' → u D σ' H') : tJoin t u D σ H := ⟨Mid, h, q⟩
def rRepI : List V → Hp → VK → Prop := fun xs H Q => ∃ i, xs = [.int i] ∧ i.natAbs.log2 < 1920 ∧ Q (.str (toString i)) H
theorem call_repI {X : Cx} : CallR X (.builtin "repr") rRepI := by
  intro pins s σ H xs us Q I r h
  obtain ⟨i, rfl, hz, q⟩ := h
  obtain ⟨u, rfl, t, rfl⟩ := vals1 r
  exact PySem.P.repr_of_int hz ⟨.str _, H, I.tok _, ⟨_, rfl⟩, q⟩
theorem rd_repI {i : Int} {H : Hp} {Q : VK} (h : i.natAbs < 2 ^ 1000) (q : Q (.str (toString i)) H) : rRepI [.int i] H Q := ⟨i, rfl, Nat.lt_trans (PySem.Flt.log2_lt_of (by decide) h) (by decide), q⟩
/-! ### data of lists -/
theorem cut_map (ns : List Int) (lo hi : Option Int) : ∃ ms : List Int, cutV (ns.map V.int) lo hi = ms.map V.int := by
  refine ⟨(ns.drop (HT.sIx (ns.map V.int).length 0 lo)).take (HT.sIx (ns.map V.int).length (ns.map V.int).length hi - HT.sIx (ns.map V.int).length 0 lo), ?_⟩
  unfold cutV
  rw [List.map_take, List.map_drop]
theorem atI_in {xs : List V} {i : Int} (h0 : 0 ≤ i) (h1 : i < xs.length) : ∃ v, atI xs i = some v ∧ v ∈ xs := by
  obtain ⟨n, rfl⟩ : ∃ n : Nat, i = (n : Int) := ⟨i.toNat, by omega⟩
  have hn : n < xs.length := by omega
  exact ⟨xs[n], atI_nat (List.getElem?_eq_getElem hn), List.getElem_mem hn⟩
theorem atI_int {xs : List V} {i : Int} (h : ∀ v ∈ xs, ∃ z, v = V.int z) (h0 : 0 ≤ i) (h1 : i < xs.length) : ∃ z, atI xs i = some (.int z) := by
  obtain ⟨v, e, m⟩ := atI_in h0 h1
  obtain ⟨z, rfl⟩ := h v m
  exact ⟨z, e⟩
theorem sz_le {xs : List V} (h : xs.length ≤ 1000) : xs.length ≤ sizeLine := Nat.le_trans h (by decide)
theorem cdiv64 {i m : Int} (h0 : 0 < m) (h1 : m < 18446744073709551616) : CDivW i m := wide_div (b := 64) h0 (by omega) (by decide) (by decide)
theorem same_new {H : Hp} {p : Addr} {o : HO} (h : H p = none) : Same H (upd H p o) := fun b x e => by rw [upd_ne (ne_of_none e h)]; exact e
theorem same_add {H H1 : Hp} {p : Addr} {o : HO} (s : Same H H1) (h : H1 p = none) : Same H (upd H1 p o) := s.trans (same_new h)
/-! ### the pool that a law draws from -/
def PoolAt (H : Hp) (p : Addr) : Prop := ∃ a b : Int, H p = some (.lst [.int a, .int b])
/-- all but the pool stays -/
def Kp (p : Addr) (H H' : Hp) : Prop := PoolAt H' p ∧ ∀ c o, c ≠ p → H c = some o → H' c = some o
theorem Kp.refl {p : Addr} {H : Hp} (h : PoolAt H p) : Kp p H H := ⟨h, fun _ _ _ e => e⟩
theorem Kp.trans {p : Addr} {H H1 H2 : Hp} (a : Kp p H H1) (b : Kp p H1 H2) : Kp p H H2 := ⟨b.1, fun c o n e => b.2 c o n (a.2 c o n e)⟩
theorem Kp.new {p c : Addr} {H H1 : Hp} {o : HO} (a : Kp p H H1) (hc : H1 c = none) : Kp p H (upd H1 c o) := by
  obtain ⟨⟨x, y, e⟩, k⟩ := a
  refine ⟨⟨x, y, ?_⟩, fun d u n h => ?_⟩
  · rw [upd_ne (ne_of_none e hc)]; exact e
  · rw [upd_ne (ne_of_none (k d u n h) hc)]; exact k d u n h
theorem Kp.same {p : Addr} {H H1 H2 : Hp} (a : Kp p H H1) (s : Same H1 H2) : Kp p H H2 := by
  obtain ⟨⟨x, y, e⟩, k⟩ := a
  exact ⟨⟨x, y, s _ _ e⟩, fun d u n h => s _ _ (k d u n h)⟩
theorem Kp.at {p c : Addr} {H H1 : Hp} {o : HO} (a : Kp p H H1) (n : c ≠ p) (e : H c = some o) : H1 c = some o := a.2 c o n e
theorem Kp.sqL {K : PySem.W.Frag} {p c : Addr} {H H1 : Hp} {xs : List V} (a : Kp p H H1) (n : c ≠ p) (e : SqL K H c xs) : SqL K H1 c xs := by
  rcases e with (h | ⟨o, h⟩) | h
  · exact .inl (.inl (a.2 _ _ n h))
  · exact .inl (.inr ⟨o, a.2 _ _ n h⟩)
  · exact .inr h
theorem same_kp {H H1 H2 : Hp} {p : Addr} (n : H p = none) (s : Same H H1) (k : Kp p H1 H2) : Same H H2 := fun b o e => k.2 b o (ne_of_none e n) (s b o e)
theorem Kp.ne {p c : Addr} {H H1 : Hp} (k : Kp p H H1) (n : H1 c = none) : c ≠ p := by
  obtain ⟨⟨x, y, e⟩, _⟩ := k
  exact (ne_of_none e n).symm
theorem PoolAt.same {p : Addr} {H H1 : Hp} (a : PoolAt H p) (s : Same H H1) : PoolAt H1 p := by
  obtain ⟨x, y, e⟩ := a
  exact ⟨x, y, s _ _ e⟩
theorem PoolAt.ne {p c : Addr} {H : Hp} (a : PoolAt H p) (n : H c = none) : c ≠ p := by
  obtain ⟨x, y, e⟩ := a
  exact (ne_of_none e n).symm
def spTake : Sp := fun vs H Q _ => ∃ (p : Addr) (m : Int), vs = [.ref p, .int m] ∧ PoolAt H p ∧ 0 < m ∧ m < 18446744073709551616 ∧
  ∀ (r : Int) H', 0 ≤ r → r < m → Kp p H H' → Q (.int r) H'
def spPool (K : PySem.W.Frag) : Sp := fun vs H Q _ => ∃ (a : Addr) (ns : List Int) (k : Int), vs = [.ref a, .int k] ∧ SqL K H a (ns.map V.int) ∧ 0 ≤ k ∧ k < 64 ∧
  ∀ H' p, H p = none → Same H H' → PoolAt H' p → Q (.ref p) H'
def spWide : Sp := fun vs H Q _ => ∃ p : Addr, vs = [.ref p] ∧ PoolAt H p ∧ ∀ (n : Nat) H', 1 ≤ n → n ≤ 32 → Kp p H H' → Q (.int n) H'
def spSize : Sp := fun vs H Q _ => ∃ n : Nat, vs = [.int n] ∧ n ≤ 64 ∧ Q (.int (2 ^ n)) H
def spWorth : Sp := fun vs H Q _ => ∃ (p : Addr) (m : Int), vs = [.ref p, .int m] ∧ PoolAt H p ∧ 2 ≤ m ∧ m < 18446744073709551616 ∧
  ∀ (r : Int) H', 0 ≤ r → r < m → Kp p H H' → Q (.int r) H'
end Bg

set_option Elab.async false
set_option linter.all false
set_option maxRecDepth 100000
set_option maxHeartbeats 4000000
namespace Bg
open PySem PySem.Spec PyProof.Rows L2
/-! ### data of things -/
def tyN : PyData → String
  | .none => "NoneType" | .bool _ => "bool" | .int _ => "int" | .str _ => "str" | .list _ => "list" | .tuple _ => "tuple" | .dict _ => "dict"
/-- data, or an empty dict -/
inductive Dz (K : PySem.W.Frag) (H : Hp) : V → PyData → Prop
  | dat {x : V} {d : PyData} (h : Dp K H x d) : Dz K H x d
  | dct {a : Addr} (h : H a = some (.dK [])) : Dz K H (.ref a) (.dict [])
section
variable {K : PySem.W.Frag} {H H' : Hp} {x : V} {d : PyData}
theorem sqT_same {a : Addr} {xs : List V} (e : Same H H') (h : SqT K H a xs) : SqT K H' a xs := by
  rcases h with (h | ⟨o, h⟩) | h
  · exact .inl (.inl (e _ _ h))
  · exact .inl (.inr ⟨o, e _ _ h⟩)
  · exact .inr h
mutual
theorem dp_same (e : Same H H') : ∀ (d : PyData) (x : V), Dp K H x d → Dp K H' x d
  | .none, x, h => by cases h; exact .non
  | .bool _, x, h => by cases h; exact .bl _
  | .int _, x, h => by cases h; exact .int _
  | .str _, x, h => by cases h; exact .str _
  | .list ds, x, h => by cases h with | lst s a => exact .lst (e.seq s) (dpAll_same e ds _ a)
  | .tuple ds, x, h => by cases h with | tup s a => exact .tup (sqT_same e s) (dpAll_same e ds _ a)
  | .dict _, x, h => by cases h
theorem dpAll_same (e : Same H H') : ∀ (ds : List PyData) (xs : List V), DpAll K H xs ds → DpAll K H' xs ds
  | [], xs, h => by cases h; exact .nil
  | d :: ds, xs, h => by cases h with | cons a b => exact .cons (dp_same e d _ a) (dpAll_same e ds _ b)
end
theorem Dz.same (e : Same H H') (h : Dz K H x d) : Dz K H' x d := by
  cases h with
  | dat h => exact .dat (dp_same e _ _ h)
  | dct h => exact .dct (e _ _ h)
theorem sqL_ty {a : Addr} {xs : List V} (h : SqL K H a xs) : TyX K H (.ref a) (.type "list") := by
  rcases h with (h | ⟨o, h⟩) | ⟨o, its, n, l, c, _⟩
  · exact .base (.lst h)
  · exact .base (.frz h)
  · exact .kList l c
theorem sqT_ty {a : Addr} {xs : List V} (h : SqT K H a xs) : TyX K H (.ref a) (.type "tuple") := by
  rcases h with (h | ⟨o, h⟩) | ⟨o, its, n, l, c, _⟩
  · exact .base (.tup h)
  · exact .fTuple h
  · exact .kTuple l c
theorem Dz.ty (h : Dz K H x d) : TyX K H x (.type (tyN d)) := by
  cases h with
  | dct h => exact .base (.dK h)
  | dat h =>
    cases h with
    | non => exact .base .non
    | bl b => exact .base (.bl b)
    | int i => exact .base (.int i)
    | str z => exact .base (.str z)
    | lst s _ => exact sqL_ty s
    | tup s _ => exact sqT_ty s
def isIntD : PyData → Bool | .int _ => true | .bool _ => true | _ => false
def isBoolD : PyData → Bool | .bool _ => true | _ => false
def isStrD : PyData → Bool | .str _ => true | _ => false
def isTupD : PyData → Bool | .tuple _ => true | _ => false
theorem kit_int : PySem.W.kitOne K (.type (tyN d)) (.type "int") = some (isIntD d) := by
  cases d with
  | none => exact kit_ty (show kitB "NoneType" "int" = some false by decide +kernel)
  | bool _ => exact kit_ty (show kitB "bool" "int" = some true by decide +kernel)
  | int _ => exact kit_ty (show kitB "int" "int" = some true by decide +kernel)
  | str _ => exact kit_ty (show kitB "str" "int" = some false by decide +kernel)
  | list _ => exact kit_ty (show kitB "list" "int" = some false by decide +kernel)
  | tuple _ => exact kit_ty (show kitB "tuple" "int" = some false by decide +kernel)
  | dict _ => exact kit_ty (show kitB "dict" "int" = some false by decide +kernel)
theorem kit_bool : PySem.W.kitOne K (.type (tyN d)) (.type "bool") = some (isBoolD d) := by
  cases d with
  | none => exact kit_ty (show kitB "NoneType" "bool" = some false by decide +kernel)
  | bool _ => exact kit_ty (show kitB "bool" "bool" = some true by decide +kernel)
  | int _ => exact kit_ty (show kitB "int" "bool" = some false by decide +kernel)
  | str _ => exact kit_ty (show kitB "str" "bool" = some false by decide +kernel)
  | list _ => exact kit_ty (show kitB "list" "bool" = some false by decide +kernel)
  | tuple _ => exact kit_ty (show kitB "tuple" "bool" = some false by decide +kernel)
  | dict _ => exact kit_ty (show kitB "dict" "bool" = some false by decide +kernel)
theorem kit_str : PySem.W.kitOne K (.type (tyN d)) (.type "str") = some (isStrD d) := by
  cases d with
  | none => exact kit_ty (show kitB "NoneType" "str" = some false by decide +kernel)
  | bool _ => exact kit_ty (show kitB "bool" "str" = some false by decide +kernel)
  | int _ => exact kit_ty (show kitB "int" "str" = some false by decide +kernel)
  | str _ => exact kit_ty (show kitB "str" "str" = some true by decide +kernel)
  | list _ => exact kit_ty (show kitB "list" "str" = some false by decide +kernel)
  | tuple _ => exact kit_ty (show kitB "tuple" "str" = some false by decide +kernel)
  | dict _ => exact kit_ty (show kitB "dict" "str" = some false by decide +kernel)
theorem kit_tup : PySem.W.kitOne K (.type (tyN d)) (.type "tuple") = some (isTupD d) := by
  cases d with
  | none => exact kit_ty (show kitB "NoneType" "tuple" = some false by decide +kernel)
  | bool _ => exact kit_ty (show kitB "bool" "tuple" = some false by decide +kernel)
  | int _ => exact kit_ty (show kitB "int" "tuple" = some false by decide +kernel)
  | str _ => exact kit_ty (show kitB "str" "tuple" = some false by decide +kernel)
  | list _ => exact kit_ty (show kitB "list" "tuple" = some false by decide +kernel)
  | tuple _ => exact kit_ty (show kitB "tuple" "tuple" = some true by decide +kernel)
  | dict _ => exact kit_ty (show kitB "dict" "tuple" = some false by decide +kernel)
variable {Q : VK}
theorem rd_isInt (h : Dz K H x d) (q : Q (.bl (isIntD d)) H) : rIsi K [x, .ty "int"] H Q := rd_isi (.ty _) h.ty kit_int q
theorem rd_isBool (h : Dz K H x d) (q : Q (.bl (isBoolD d)) H) : rIsi K [x, .ty "bool"] H Q := rd_isi (.ty _) h.ty kit_bool q
theorem rd_isStr (h : Dz K H x d) (q : Q (.bl (isStrD d)) H) : rIsi K [x, .ty "str"] H Q := rd_isi (.ty _) h.ty kit_str q
theorem rd_isTup (h : Dz K H x d) (q : Q (.bl (isTupD d)) H) : rIsi K [x, .ty "tuple"] H Q := rd_isi (.ty _) h.ty kit_tup q
end
/-! ### what repr shows of it -/
structure Sh (k n : Nat) (d : PyData) : Prop where
  sh : d.showable = true
  nd : d.hasDict = false
  dp : d.depth ≤ k
  ln : d.shown.length ≤ n
  cl : d.canLay0 = true
structure ShAll (k n : Nat) (ds : List PyData) : Prop where
  sh : PyData.showableAll ds = true
  nd : PyData.hasDictAll ds = false
  dp : PyData.depthAll ds ≤ k
  ln : ((PyData.shownAll ds).map (·.length)).sum + 2 * (PyData.shownAll ds).length ≤ n
  cl : PyData.canLayAll0 ds = true
theorem Sh.non : Sh 0 10 .none := ⟨rfl, rfl, Nat.le_refl _, by decide +kernel, rfl⟩
theorem Sh.bl (b : Bool) : Sh 0 10 (.bool b) := ⟨rfl, rfl, Nat.le_refl _, by cases b <;> decide +kernel, rfl⟩
theorem Sh.int {i : Int} (h : i.natAbs < 2 ^ 1000) : Sh 0 1001 (.int i) := by
  have h1 : i.natAbs.log2 < 1000 := PySem.Flt.log2_lt_of (by decide) h
  refine ⟨decide_eq_true (Nat.lt_trans h1 (by decide)), rfl, Nat.le_refl _, ?_, rfl⟩
  have e := int_text_length_le (k := 1000) (by decide) h1
  have e2 : (PyData.shown (.int i)).length = (toString i).length := by
    exact PySem.ofString_length _
  omega
theorem Sh.mono {k n k' n' : Nat} {d : PyData} (h : Sh k n d) (a : k ≤ k') (b : n ≤ n') : Sh k' n' d := ⟨h.sh, h.nd, Nat.le_trans h.dp a, Nat.le_trans h.ln b, h.cl⟩
theorem ShAll.nil {k n : Nat} : ShAll k n [] := ⟨rfl, rfl, Nat.zero_le _, Nat.zero_le _, rfl⟩
theorem ShAll.cons {k n m : Nat} {d : PyData} {ds : List PyData} (h : Sh k n d) (t : ShAll k m ds) : ShAll k (n + 2 + m) (d :: ds) := by
  refine ⟨?_, ?_, ?_, ?_, ?_⟩
  · show (d.showable && PyData.showableAll ds) = true
    rw [h.sh, t.sh]; rfl
  · show (d.hasDict || PyData.hasDictAll ds) = false
    rw [h.nd, t.nd]; rfl
  · exact Nat.max_le.mpr ⟨h.dp, t.dp⟩
  · have a := h.ln
    have b := t.ln
    simp only [PyData.shownAll, List.map_cons, List.sum_cons, List.length_cons]
    omega
  · show (d.canLay0 && PyData.canLayAll0 ds) = true
    rw [h.cl, t.cl]; rfl
theorem ShAll.tup {k n : Nat} {ds : List PyData} (h : ShAll k n ds) : Sh (k + 1) (n + 3) (.tuple ds) := by
  refine ⟨h.sh, h.nd, Nat.succ_le_succ h.dp, ?_, h.cl⟩
  have a := h.ln
  have b := tupleText_len_le (PyData.shownAll ds)
  show (tupleText (PyData.shownAll ds)).length ≤ _
  omega
theorem ShAll.lst {k n : Nat} {ds : List PyData} (h : ShAll k n ds) : Sh (k + 1) (n + 3) (.list ds) := by
  refine ⟨h.sh, h.nd, Nat.succ_le_succ h.dp, ?_, h.cl⟩
  have a := h.ln
  have b := listText_len_le (PyData.shownAll ds)
  show (listText (PyData.shownAll ds)).length ≤ _
  omega
/-- of a text of a string -/
theorem code_lt (z : String) : ∀ c ∈ (Str.ofString z).cps.toList, c < 1114112 := by
  intro c hc
  rw [signs_ofString] at hc
  obtain ⟨ch, _, rfl⟩ := List.mem_map.mp hc
  rcases ch.valid with h | ⟨_, h⟩
  · exact Nat.lt_trans h (by decide)
  · exact h
theorem Sh.str {z : String} {m : Nat} (h : z.length ≤ m) : Sh 0 (10 * m + 10) (.str z) := by
  refine ⟨rfl, rfl, Nat.le_refl _, ?_, ?_⟩
  · have e := StrLaws.reprText_len (Str.ofString z) (fun c hc => Nat.lt_trans (code_lt z c hc) (by decide))
    rw [PySem.ofString_length] at e
    show (reprText (Str.ofString z)).length ≤ _
    omega
  · show (Str.ofString z).cps.all (· < 0x110000) = true
    rw [← Array.all_toList, List.all_eq_true]
    exact fun c hc => decide_eq_true (code_lt z c hc)
theorem Sh.shaped {k n : Nat} {d : PyData} (h : Sh k n d) (hk : k ≤ 64) : SeqAt.shaped d = true := by
  show (d.canLay0 && decide (d.depth ≤ 64)) = true
  rw [h.cl, decide_eq_true (Nat.le_trans h.dp hk)]
  rfl
/-- repr(x) of any of these -/
inductive Rp (K : PySem.W.Frag) (H : Hp) : V → Str → Prop
  | dat {x : V} {d : PyData} (h : Dp K H x d) (s : Sh 50 1000000 d) : Rp K H x d.shown
  | dct {a : Addr} (h : H a = some (.dK [])) : Rp K H (.ref a) (PyData.dict []).shown
def rRepA (K : PySem.W.Frag) : List V → Hp → VK → Prop := fun xs H Q => ∃ x z, xs = [x] ∧ Rp K H x z ∧ Q (.str z) H
theorem rd_repA {K : PySem.W.Frag} {H : Hp} {Q : VK} {x : V} {z : Str} (h : Rp K H x z) (q : Q (.str z) H) : rRepA K [x] H Q := ⟨x, z, rfl, h, q⟩
theorem Rp.same {K : PySem.W.Frag} {H H' : Hp} {x : V} {z : Str} (e : Same H H') (h : Rp K H x z) : Rp K H' x z := by
  cases h with
  | dat h s => exact .dat (dp_same e _ _ h) s
  | dct h => exact .dct (e _ _ h)
theorem call_repA {X : Cx} (gd : Gd X.A) (hu : X.A.units + 64 < cLine) : CallR X (.builtin "repr") (rRepA X.K) := by
  intro pins s σ H xs us Q I r h
  obtain ⟨x, z, rfl, hr, q⟩ := h
  obtain ⟨u, rfl, ru⟩ := vals1 r
  cases hr with
  | dat hd sm =>
    rename_i d
    have hz : d.shown.length ≤ sizeLine := Nat.le_trans sm.ln (by decide)
    cases hd with
    | non => cases (show u = Value.none from ru); exact PySem.P.repr_of_none ⟨.str _, H, I.tok _, ⟨_, rfl⟩, q⟩
    | bl b => cases (show u = Value.bool b from ru); exact PySem.P.repr_of_bool ⟨.str _, H, I.tok _, ⟨_, rfl⟩, q⟩
    | int i => obtain ⟨t, rfl⟩ := ru; exact PySem.P.repr_of_int (of_decide_eq_true sm.sh) ⟨.str _, H, I.tok _, ⟨_, rfl⟩, q⟩
    | str y => obtain ⟨t, rfl⟩ := ru; exact PySem.P.repr_of_str ⟨.str _, H, I.tok _, ⟨_, rfl⟩, q⟩ hz
    | lst sl al =>
      obtain ⟨as, rd⟩ := Dp.reads I _ _ u (.lst sl al) ru
      cases ru
      refine repr_of_reads' rd sm.sh (shsm sm.nd) gd (by have := sm.dp; omega) (fun _ _ e => e) (fun h' u tk hk => ?_) hz
      exact ⟨.str _, H, I.kept hk, ⟨_, rfl⟩, q⟩
    | tup sl al =>
      obtain ⟨as, rd⟩ := Dp.reads I _ _ u (.tup sl al) ru
      cases ru
      refine repr_of_reads' rd sm.sh (shsm sm.nd) gd (by have := sm.dp; omega) (fun _ _ e => e) (fun h' u tk hk => ?_) hz
      exact ⟨.str _, H, I.kept hk, ⟨_, rfl⟩, q⟩
  | @dct a ha =>
    cases (show u = Value.ref a from ru)
    obtain ⟨_, ns, vs, kv, o, es, ep, h1, h2, h3, _, h5, _⟩ := (show ObjOk X.prog X.w H s.heap a (.dK []) from I.hok a _ ha)
    cases kv
    have he : es.toList = [] := by
      cases hh : es.toList with
      | nil => rfl
      | cons e r => rw [hh] at h5; cases h5
    have rd : Reads s.heap (.ref a) (.dict []) (a :: [] ++ []) := .dict h1 h2.1 h3 (by rw [he]; exact .nil) (by rw [he]; exact .nil)
    have hno : sysModules ∉ (a :: [] ++ [] : List Addr) := by
      intro z
      have z2 : sysModules = a := by simpa using z
      subst z2
      simp at ns
    refine repr_of_reads' rd rfl (fun _ => hno) gd (by have : (PyData.dict []).depth = 1 := rfl; omega) (fun _ _ e => e) (fun h' u tk hk => ?_) (by decide +kernel)
    exact ⟨.str _, H, I.kept hk, ⟨_, rfl⟩, q⟩
end Bg

set_option Elab.async false
set_option linter.all false
set_option maxRecDepth 100000
set_option maxHeartbeats 4000000
namespace Bg
open PySem PySem.Spec PyProof.Rows L2
/-! ### bits of whole numbers that are not negative -/
theorem nat_xor_add (m : Nat) : ∀ n : Nat, (m ^^^ n) + 2 * (m &&& n) = m + n := by
  induction m using Nat.strongRecOn with
  | ind m ih =>
    intro n
    by_cases h0 : m = 0
    · subst h0; simp
    · have ih' := ih (m / 2) (by omega) (n / 2)
      rw [← Nat.xor_div_two, ← Nat.and_div_two] at ih'
      have o1 := @Nat.xor_mod_two_eq_one m n
      have a1 := @Nat.and_mod_two_eq_one m n
      omega
theorem bA (a b : Nat) : Builtin.bitAnd (a : Int) (b : Int) = ((a &&& b : Nat) : Int) := by
  rw [bitAnd_pp (Int.natCast_nonneg a) (Int.natCast_nonneg b), Int.toNat_natCast, Int.toNat_natCast]
theorem bO (a b : Nat) : Builtin.bitOr (a : Int) (b : Int) = ((a ||| b : Nat) : Int) := by
  rw [bitOr_and, bA]
  have := nat_or_add_and a b
  omega
theorem bX (a b : Nat) : Builtin.bitXor (a : Int) (b : Int) = ((a ^^^ b : Nat) : Int) := by
  rw [bitXor_and, bA]
  have := nat_xor_add a b
  omega
theorem nat_of {i : Int} (h : 0 ≤ i) : ∃ a : Nat, i = (a : Int) := ⟨i.toNat, by omega⟩
theorem pow_cast (n : Nat) : (2 : Int) ^ n = ((2 ^ n : Nat) : Int) := by rw [Int.natCast_pow]; rfl
theorem top_cast (n : Nat) : (2 : Int) ^ n - 1 = ((2 ^ n - 1 : Nat) : Int) := by
  have := Nat.two_pow_pos n
  rw [pow_cast]
  omega
theorem nat_lt {a n : Nat} (h : (a : Int) < 2 ^ n) : a < 2 ^ n := by rw [pow_cast] at h; omega
theorem pow_lt64 {n : Nat} (h : n ≤ 63) : (2 : Int) ^ n < 18446744073709551616 := by
  have h1 : 2 ^ n ≤ 2 ^ 63 := Nat.pow_le_pow_right (by decide) h
  have h3 : (2 : Nat) ^ 63 = 9223372036854775808 := by decide
  rw [pow_cast]
  omega
theorem pow_pos2 (n : Nat) : (0 : Int) < 2 ^ n := Int.pow_pos (by decide)
theorem two_le {n : Nat} (h : 1 ≤ n) : (2 : Int) ≤ 2 ^ n := by
  obtain ⟨m, rfl⟩ : ∃ m, n = m + 1 := ⟨n - 1, by omega⟩
  have := pow_pos2 m
  rw [Int.pow_succ]
  omega
/-- a part of the bits that another has not -/
theorem held_of {n : Nat} {r u : Int} (r0 : 0 ≤ r) (r1 : r < 2 ^ n) (u0 : 0 ≤ u) (u1 : u < 2 ^ n) :
    0 ≤ Builtin.bitAnd r (Builtin.bitXor (2 ^ n - 1) u) ∧ Builtin.bitAnd r (Builtin.bitXor (2 ^ n - 1) u) < 2 ^ n ∧ Builtin.bitAnd (Builtin.bitAnd r (Builtin.bitXor (2 ^ n - 1) u)) u = 0 := by
  obtain ⟨a, rfl⟩ := nat_of r0
  obtain ⟨b, rfl⟩ := nat_of u0
  have ha := nat_lt r1
  have hb := nat_lt u1
  rw [top_cast, bX, bA, bA]
  refine ⟨Int.natCast_nonneg _, ?_, ?_⟩
  · have := Nat.and_le_left (n := a) (m := (2 ^ n - 1) ^^^ b)
    rw [pow_cast]
    omega
  · have e : (a &&& ((2 ^ n - 1) ^^^ b)) &&& b = 0 := by
      apply Nat.eq_of_testBit_eq
      intro i
      rw [Nat.testBit_and, Nat.testBit_and, Nat.testBit_xor, Nat.testBit_two_pow_sub_one, Nat.zero_testBit]
      by_cases hi : i < n
      · rw [decide_eq_true hi]
        cases a.testBit i <;> cases b.testBit i <;> rfl
      · rw [Nat.testBit_lt_two_pow (Nat.lt_of_lt_of_le hb (Nat.pow_le_pow_right (by decide) (by omega)))]
        cases (a.testBit i && (decide (i < n) ^^ false)) <;> rfl
    rw [e]
    rfl
/-! ### tests whose answer is known -/
theorem ite_eq {v : V} {A B : Prop} (q : A) : if decide (v = v) = true then A else B := by
  rw [decide_eq_true rfl]
  exact iteT q
theorem ite_ne {v : V} {A B : Prop} (q : B) : if (!decide (v = v)) = true then A else B := by
  rw [decide_eq_true rfl]
  exact iteF q
theorem ite_b {b : Bool} {A B : Prop} (h : b = true) (q : A) : if b = true then A else B := by rw [h]; exact iteT q
theorem ite_n {b : Bool} {A B : Prop} (h : b = false) (q : B) : if b = true then A else B := by rw [h]; exact iteF q
/-! ### unpacking, tests of a comprehension -/
section
variable {σ : L2.St} {H : Hp} {R : L2.St → Hp → Prop} {K : PySem.W.Frag} {a : Addr} {xs : List V} {n : Nat} {t : TGs} {QT : Bool → Hp → Prop}
theorem rd_gtup (h : SqT K H a xs) (l : xs.length = n) (q : t xs σ H R) : gTup K n t (.ref a) σ H R := ⟨a, xs, rfl, h, l, q⟩
theorem rd_gcons {v : V} {r : List V} {g : TG} {u : TGs} (q : g v σ H fun σ' H' => u r σ' H' R) : gCons g u (v :: r) σ H R := ⟨v, r, rfl, q⟩
theorem rd_gnil (q : R σ H) : gNil [] σ H R := ⟨rfl, q⟩
end
/-! ### comprehensions -/
def LC (J : It) (g : TG) (tt : TT) (te : TE) (vs : List Nat) (D : Addr) (σ : L2.St) (H1 : Hp) (Q : VK) : Prop := ∃ W : Nat → Nat → Hp → Prop, (∃ m, W 0 m (upd H1 D (.lst []))) ∧ ∀ i m H, W i m H →
  (J.stop i H ∧ Q (.ref D) H) ∨
    (J.go i H ∧ ∃ Nx : Hp → Prop, (∀ H', Nx H' → ∃ m', m' < m ∧ W (i + 1) m' H') ∧
      ∀ x H', J.yld i H x H' → g x (wipe σ vs) H' fun σ2 H2 => wipe σ2 vs = wipe σ vs ∧ tt σ2 H2 fun b H3 =>
        if b = true then te σ2 H3 fun y H4 => ∃ acc, H4 D = some (.lst acc) ∧ acc.length < sizeLine ∧ Nx (upd H4 D (.lst (acc ++ [y]))) else Nx H3)
section
variable {σ : L2.St} {H : Hp} {Q : VK} {QT : Bool → Hp → Prop}
theorem rd_lc {wi : TI} {g : TG} {tt : TT} {te : TE} {vs : List Nat} (q : wi σ H fun J H1 => ∀ D, H1 D = none → LC J g tt te vs D σ H1 Q) : tLc wi g tt te vs σ H Q := q
theorem rd_yes (q : QT true H) : tYes σ H QT := q
end
section
variable {H : Hp} {Q : VK} {K : PySem.W.Frag} {x y : V} {d e : PyData}
theorem rd_neD (a : Dp K H x d) (b : Dp K H y e) (s1 : SeqAt.shaped d = true) (s2 : SeqAt.shaped e = true) (q : Q (.bl (!PyData.eqv d e)) H) : rNeD K x y H Q := ⟨d, e, a, b, s1, s2, q⟩
theorem rd_eqD (a : Dp K H x d) (b : Dp K H y e) (s1 : SeqAt.shaped d = true) (s2 : SeqAt.shaped e = true) (q : Q (.bl (PyData.eqv d e)) H) : rEqD K x y H Q := ⟨d, e, a, b, s1, s2, q⟩
end
/-! ### the laws' own sure bits -/
def spTop : Sp := fun vs H Q _ => ∃ n : Nat, vs = [.int n] ∧ n ≤ 64 ∧ Q (.int (2 ^ n - 1)) H
/-- a tuple of sure bits of the width n -/
structure Bt (n : Nat) (v u : Int) : Prop where
  v0 : 0 ≤ v
  v1 : v < 2 ^ n
  u0 : 0 ≤ u
  u1 : u < 2 ^ n
  vu : Builtin.bitAnd v u = 0
def spBits : Sp := fun vs H Q _ => ∃ (p : Addr) (n : Nat), vs = [.ref p, .int n] ∧ 1 ≤ n ∧ n ≤ 32 ∧ PoolAt H p ∧
  ∀ (v u : Int) (t : Addr) H', Bt n v u → H t = none → Kp p H H' → H' t = some (.tup [.int v, .int u]) → Q (.ref t) H'
theorem Kp.free {p c : Addr} {H H1 : Hp} (k : Kp p H H1) (h : H1 c = none) : H c = none := by
  cases e : H c with
  | none => rfl
  | some o => rw [k.2 c o (k.1.ne h) e] at h; cases h
end Bg

set_option Elab.async false
set_option linter.all false
set_option maxRecDepth 100000
set_option maxHeartbeats 4000000
namespace Bg
open PySem PySem.Spec PyProof.Rows L2
section
variable {σ : L2.St} {H : Hp} {D : Ends} {t1 : TS} {tr : V → TS} {z w : Str} {v : V}
theorem rd_my (q : t1 D σ H) : mStr z t1 tr (.str z) D σ H := ⟨z, rfl, by rw [if_pos rfl]; exact q⟩
theorem rd_mn (h : w ≠ z) (q : tr (.str w) D σ H) : mStr z t1 tr (.str w) D σ H := ⟨w, rfl, by rw [if_neg h]; exact q⟩
theorem rd_many (q : t1 D σ H) : mAny t1 v D σ H := q
end
/-! ### bits moved -/
theorem toNat_bit (b : Bool) (k : Nat) : b.toNat.testBit k = (b && decide (k = 0)) := by
  cases b
  · simp
  · cases k with
    | zero => rfl
    | succ k => simp [Nat.testBit_succ]
theorem mod_step (X i : Nat) : X % 2 ^ (i + 1) = X % 2 ^ i ||| (X / 2 ^ i % 2) * 2 ^ i := by
  apply Nat.eq_of_testBit_eq
  intro j
  rw [Nat.testBit_or, Nat.testBit_mod_two_pow, Nat.testBit_mod_two_pow, Nat.testBit_mul_two_pow, ← Nat.toNat_testBit, toNat_bit]
  by_cases h1 : j < i
  · rw [decide_eq_true h1, decide_eq_true (show j < i + 1 by omega), decide_eq_false (show ¬ i ≤ j by omega)]
    simp
  · by_cases h2 : j = i
    · subst h2
      rw [decide_eq_true (show j < j + 1 by omega), decide_eq_true (Nat.le_refl j), Nat.sub_self]
      simp
    · rw [decide_eq_false h1, decide_eq_false (show ¬ j < i + 1 by omega), decide_eq_false (show ¬ j - i = 0 by omega)]
      simp
theorem bit_step {X i c : Nat} (h : X.testBit i = true ↔ c = 1) (hc : c ≤ 1) : X % 2 ^ (i + 1) = X % 2 ^ i ||| c * 2 ^ i := by
  rw [mod_step, ← Nat.toNat_testBit]
  cases hb : X.testBit i with
  | true => rw [h.mp hb]; rfl
  | false =>
    have : c ≠ 1 := fun e => by rw [h.mpr e] at hb; cases hb
    have : c = 0 := by omega
    rw [this]; rfl
def mvN (l : Bool) (n a j : Nat) : Nat := if n ≤ j then 0 else if l then a * 2 ^ j % 2 ^ n else a / 2 ^ j
theorem mv_bit {l : Bool} {n a j i : Nat} (ha : a < 2 ^ n) (hi : i < n) : (mvN l n a j).testBit i = if l then (decide (j ≤ i) && a.testBit (i - j)) else a.testBit (i + j) := by
  unfold mvN
  by_cases h : n ≤ j
  · rw [if_pos h, Nat.zero_testBit]
    cases l with
    | true => rw [if_pos rfl, decide_eq_false (show ¬ j ≤ i by omega)]; rfl
    | false =>
      rw [if_neg Bool.false_ne_true, Nat.testBit_lt_two_pow (Nat.lt_of_lt_of_le ha (Nat.pow_le_pow_right (by decide) (by omega)))]
  · rw [if_neg h]
    cases l with
    | true => rw [if_pos rfl, if_pos rfl, Nat.testBit_mod_two_pow, Nat.testBit_mul_two_pow, decide_eq_true hi, Bool.true_and]
    | false => rw [if_neg Bool.false_ne_true, if_neg Bool.false_ne_true, Nat.testBit_div_two_pow]
theorem mv_lt {l : Bool} {n a j : Nat} (ha : a < 2 ^ n) : mvN l n a j < 2 ^ n := by
  unfold mvN
  split
  · exact Nat.two_pow_pos n
  · split
    · exact Nat.mod_lt _ (Nat.two_pow_pos n)
    · exact Nat.lt_of_le_of_lt (Nat.div_le_self _ _) ha
/-- what a law's going bit by bit does at one bit -/
theorem mv_step {l : Bool} {n a j i : Nat} (ha : a < 2 ^ n) (hi : i < n) (h0 : Int) (hh : h0 = if l then (i : Int) - j else (i : Int) + j) :
    ((mvN l n a j % 2 ^ (i + 1) : Nat) : Int) = if 0 ≤ h0 ∧ h0 < n then Builtin.bitOr ((mvN l n a j % 2 ^ i : Nat) : Int) (Builtin.bitAnd ((a : Int) / 2 ^ h0.toNat) 1 * 2 ^ (i : Int).toNat) else ((mvN l n a j % 2 ^ i : Nat) : Int) := by
  have mb := mv_bit (l := l) (j := j) ha hi
  by_cases h : 0 ≤ h0 ∧ h0 < n
  · rw [if_pos h, PyProof.Rows.bitAnd_m1, pow_cast, pow_cast, Int.toNat_natCast]
    have e : ((a : Int) / ((2 ^ h0.toNat : Nat) : Int)) % 2 * ((2 ^ i : Nat) : Int) = ((a / 2 ^ h0.toNat % 2 * 2 ^ i : Nat) : Int) := by
      rw [Int.natCast_mul, Int.natCast_emod, Int.natCast_ediv]; rfl
    rw [e, bO]
    congr 1
    refine bit_step ?_ (by omega)
    rw [mb, ← Nat.toNat_testBit]
    cases l with
    | true =>
      rw [if_pos rfl] at hh
      have e1 : h0.toNat = i - j := by omega
      have e2 : j ≤ i := by omega
      rw [if_pos rfl, decide_eq_true e2, e1, Bool.true_and]
      cases a.testBit (i - j) <;> simp
    | false =>
      rw [if_neg Bool.false_ne_true] at hh
      have e1 : h0.toNat = i + j := by omega
      rw [if_neg Bool.false_ne_true, e1]
      cases a.testBit (i + j) <;> simp
  · rw [if_neg h]
    have z : (mvN l n a j).testBit i = false := by
      rw [mb]
      cases l with
      | true =>
        rw [if_pos rfl] at hh ⊢
        rw [decide_eq_false (show ¬ j ≤ i by omega)]
        rfl
      | false =>
        rw [if_neg Bool.false_ne_true] at hh ⊢
        exact Nat.testBit_lt_two_pow (Nat.lt_of_lt_of_le ha (Nat.pow_le_pow_right (by decide) (by omega)))
    rw [bit_step (c := 0) (by rw [z]; simp) (by decide)]
    simp
/-! ### what sure bits hold, by going through all -/
def heldL (n v u : Nat) : List Nat := (List.range (2 ^ n)).filter fun x => decide (x &&& ((2 ^ n - 1) ^^^ u) = v)
def andAll (n : Nat) (L : List Nat) : Nat := L.foldl (fun a b => a &&& b) (2 ^ n - 1)
def orAll (L : List Nat) : Nat := L.foldl (fun a b => a ||| b) 0
theorem and_fold_bit (L : List Nat) : ∀ (t i : Nat), (L.foldl (fun a b => a &&& b) t).testBit i = (t.testBit i && L.all fun x => x.testBit i) := by
  induction L with
  | nil => intro t i; simp
  | cons x L ih => intro t i; rw [List.foldl_cons, ih, Nat.testBit_and, List.all_cons, Bool.and_assoc]
theorem or_fold_bit (L : List Nat) : ∀ (t i : Nat), (L.foldl (fun a b => a ||| b) t).testBit i = (t.testBit i || L.any fun x => x.testBit i) := by
  induction L with
  | nil => intro t i; simp
  | cons x L ih => intro t i; rw [List.foldl_cons, ih, Nat.testBit_or, List.any_cons, Bool.or_assoc]
/-- v and u without a bit in common, of the width n -/
structure Sb (n v u : Nat) : Prop where
  v1 : v < 2 ^ n
  u1 : u < 2 ^ n
  vu : v &&& u = 0
theorem Sb.not {n v u i : Nat} (h : Sb n v u) (a : v.testBit i = true) : u.testBit i = false := by
  have z : (v &&& u).testBit i = false := by rw [h.vu, Nat.zero_testBit]
  rw [Nat.testBit_and, a, Bool.true_and] at z
  exact z
theorem held_iff {n v u x : Nat} (h : Sb n v u) : x ∈ heldL n v u ↔ x < 2 ^ n ∧ ∀ i, i < n → u.testBit i = false → x.testBit i = v.testBit i := by
  unfold heldL
  rw [List.mem_filter, List.mem_range, decide_eq_true_eq]
  constructor
  · rintro ⟨hx, e⟩
    refine ⟨hx, fun i hi hu => ?_⟩
    have e2 := congrArg (·.testBit i) e
    simp only [Nat.testBit_and, Nat.testBit_xor, Nat.testBit_two_pow_sub_one, decide_eq_true hi, hu] at e2
    simpa using e2
  · rintro ⟨hx, e⟩
    refine ⟨hx, Nat.eq_of_testBit_eq fun i => ?_⟩
    rw [Nat.testBit_and, Nat.testBit_xor, Nat.testBit_two_pow_sub_one]
    by_cases hi : i < n
    · rw [decide_eq_true hi]
      cases hu : u.testBit i with
      | false => rw [e i hi hu]; simp
      | true =>
        cases hv : v.testBit i with
        | false => simp
        | true => rw [h.not hv] at hu; cases hu
    · rw [Nat.testBit_lt_two_pow (Nat.lt_of_lt_of_le hx (Nat.pow_le_pow_right (by decide) (by omega))), Nat.testBit_lt_two_pow (Nat.lt_of_lt_of_le h.v1 (Nat.pow_le_pow_right (by decide) (by omega)))]
      rfl
theorem held_low {n v u : Nat} (h : Sb n v u) : v ∈ heldL n v u := (held_iff h).mpr ⟨h.v1, fun _ _ _ => rfl⟩
theorem held_high {n v u : Nat} (h : Sb n v u) : v ||| u ∈ heldL n v u := (held_iff h).mpr ⟨Nat.or_lt_two_pow h.v1 h.u1, fun i _ hu => by rw [Nat.testBit_or, hu, Bool.or_false]⟩
theorem held_ge {n v u x i : Nat} (h : Sb n v u) (hx : x ∈ heldL n v u) (hv : v.testBit i = true) : x.testBit i = true := by
  have hi : i < n := by
    by_cases hi : i < n
    · exact hi
    · rw [Nat.testBit_lt_two_pow (Nat.lt_of_lt_of_le h.v1 (Nat.pow_le_pow_right (by decide) (by omega)))] at hv; cases hv
  rw [((held_iff h).mp hx).2 i hi (h.not hv)]
  exact hv
theorem held_le {n v u x i : Nat} (h : Sb n v u) (hx : x ∈ heldL n v u) (hb : x.testBit i = true) : (v ||| u).testBit i = true := by
  have hi : i < n := by
    by_cases hi : i < n
    · exact hi
    · rw [Nat.testBit_lt_two_pow (Nat.lt_of_lt_of_le ((held_iff h).mp hx).1 (Nat.pow_le_pow_right (by decide) (by omega)))] at hb; cases hb
  rw [Nat.testBit_or]
  cases hu : u.testBit i with
  | true => simp
  | false => rw [← ((held_iff h).mp hx).2 i hi hu, hb]; rfl
/-- the sharpest of a list with a least and a greatest one, bit by bit -/
theorem sharpest_of {n lo hi : Nat} {L : List Nat} (h1 : lo ∈ L) (h2 : hi ∈ L) (hl : lo < 2 ^ n) (a : ∀ x ∈ L, ∀ i, lo.testBit i = true → x.testBit i = true) (b : ∀ x ∈ L, ∀ i, x.testBit i = true → hi.testBit i = true) :
    andAll n L = lo ∧ orAll L = hi := by
  constructor
  · apply Nat.eq_of_testBit_eq
    intro i
    unfold andAll
    rw [and_fold_bit, Nat.testBit_two_pow_sub_one]
    cases hb : lo.testBit i with
    | true =>
      have hi : i < n := by
        by_cases hi : i < n
        · exact hi
        · rw [Nat.testBit_lt_two_pow (Nat.lt_of_lt_of_le hl (Nat.pow_le_pow_right (by decide) (by omega)))] at hb; cases hb
      rw [decide_eq_true hi, Bool.true_and, List.all_eq_true]
      exact fun x hx => a x hx i hb
    | false =>
      have : (L.all fun x => x.testBit i) = false := by
        rw [List.all_eq_false]
        exact ⟨lo, h1, by rw [hb]; simp⟩
      rw [this, Bool.and_false]
  · apply Nat.eq_of_testBit_eq
    intro i
    unfold orAll
    rw [or_fold_bit, Nat.zero_testBit, Bool.false_or]
    cases hb : hi.testBit i with
    | true =>
      rw [List.any_eq_true]
      exact ⟨hi, h2, hb⟩
    | false =>
      rw [List.any_eq_false]
      intro x hx z
      rw [b x hx i z] at hb
      cases hb
theorem Bt.sb {n : Nat} {v u : Int} (b : Bt n v u) : ∃ a c : Nat, v = (a : Int) ∧ u = (c : Int) ∧ Sb n a c := by
  obtain ⟨a, rfl⟩ := nat_of b.v0
  obtain ⟨c, rfl⟩ := nat_of b.u0
  have z := b.vu
  rw [bA] at z
  exact ⟨a, c, rfl, rfl, nat_lt b.v1, nat_lt b.u1, by omega⟩
/-! ### the promises of the laws' own going through all -/
def intsN (L : List Nat) : List V := L.map fun x : Nat => V.int (x : Int)
def spHeld (K : PySem.W.Frag) : Sp := fun vs H Q _ => ∃ (t : Addr) (n v u : Nat), vs = [.ref t, .int n] ∧ n ≤ 7 ∧ SqT K H t [.int v, .int u] ∧ u < 2 ^ n ∧ NewAt H (.lst (intsN (heldL n v u))) fun p H' => Q (.ref p) H'
def spSharpest (K : PySem.W.Frag) : Sp := fun vs H Q _ => ∃ (l : Addr) (n : Nat) (L : List Nat), vs = [.ref l, .int n] ∧ n ≤ 64 ∧ SqL K H l (intsN L) ∧ NewAt H (.tup [.int (andAll n L : Nat), .int (andAll n L ^^^ orAll L : Nat)]) fun p H' => Q (.ref p) H'
end Bg

set_option Elab.async false
set_option linter.all false
set_option maxRecDepth 100000
set_option maxHeartbeats 4000000
namespace Bg
open PySem PySem.Spec PyProof.Rows L2
/-! ### what sure bits hold -/
def bdiff (a b : Nat) : Nat := a ^^^ (a &&& b)
theorem bdiff_bit (a b i : Nat) : (bdiff a b).testBit i = (a.testBit i && !b.testBit i) := by
  unfold bdiff
  rw [Nat.testBit_xor, Nat.testBit_and]
  cases a.testBit i <;> cases b.testBit i <;> rfl
theorem bdiff_eq (a b : Nat) : Builtin.bitAnd (a : Int) (Builtin.bitNot (b : Int)) = ((bdiff a b : Nat) : Int) := by
  rw [bitAnd_not, bA]
  unfold bdiff
  have h := nat_xor_add a (a &&& b)
  have e : a &&& (a &&& b) = a &&& b := by rw [← Nat.and_assoc, Nat.and_self]
  rw [e] at h
  have := Nat.and_le_left (n := a) (m := b)
  omega
theorem bit_lt {n x i : Nat} (h : x < 2 ^ n) (hb : x.testBit i = true) : i < n := by
  by_cases hi : i < n
  · exact hi
  · rw [Nat.testBit_lt_two_pow (Nat.lt_of_lt_of_le h (Nat.pow_le_pow_right (by decide) (by omega)))] at hb; cases hb
def hasB (v u x : Nat) : Bool := decide (x ||| u = v ||| u)
theorem or_eq_iff {a b u : Nat} : a ||| u = b ||| u ↔ ∀ i, u.testBit i = false → a.testBit i = b.testBit i := by
  constructor
  · intro e i hu
    have e2 := congrArg (·.testBit i) e
    simp only [Nat.testBit_or, hu, Bool.or_false] at e2
    exact e2
  · intro h
    apply Nat.eq_of_testBit_eq
    intro i
    rw [Nat.testBit_or, Nat.testBit_or]
    cases hu : u.testBit i with
    | true => simp
    | false => rw [h i hu]
theorem has_iff {n v u x : Nat} (h : Sb n v u) (hx : x < 2 ^ n) : hasB v u x = decide (x ∈ heldL n v u) := by
  unfold hasB
  have e : (x ||| u = v ||| u) ↔ x ∈ heldL n v u := by
    rw [or_eq_iff, held_iff h]
    constructor
    · exact fun q => ⟨hx, fun i _ hu => q i hu⟩
    · rintro ⟨_, q⟩ i hu
      by_cases hi : i < n
      · exact q i hi hu
      · have z : ∀ y, y < 2 ^ n → y.testBit i = false := fun y hy => Nat.testBit_lt_two_pow (Nat.lt_of_lt_of_le hy (Nat.pow_le_pow_right (by decide) (by omega)))
        rw [z x hx, z v h.v1]
  by_cases q : x ||| u = v ||| u
  · rw [decide_eq_true q, decide_eq_true (e.mp q)]
  · rw [decide_eq_false q, decide_eq_false (fun z => q (e.mpr z))]
def withinB (v1 u1 v2 u2 : Nat) : Bool := if u1 ||| u2 = u2 then hasB v2 u2 v1 else false
theorem within_iff {n v1 u1 v2 u2 : Nat} (h1 : Sb n v1 u1) (h2 : Sb n v2 u2) : withinB v1 u1 v2 u2 = true ↔ ∀ x, x ∈ heldL n v1 u1 → x ∈ heldL n v2 u2 := by
  unfold withinB
  constructor
  · intro h x hx
    split at h
    · rename_i hu
      have hv := or_eq_iff.mp (of_decide_eq_true h)
      have hx1 := (held_iff h1).mp hx
      refine (held_iff h2).mpr ⟨hx1.1, fun i hi hu2 => ?_⟩
      have hu1 : u1.testBit i = false := by
        have e := congrArg (·.testBit i) hu
        simp only [Nat.testBit_or, hu2, Bool.or_false] at e
        exact e
      rw [hx1.2 i hi hu1, hv i hu2]
    · cases h
  · intro h
    have low := (held_iff h2).mp (h v1 (held_low h1))
    have high := (held_iff h2).mp (h _ (held_high h1))
    have hu : u1 ||| u2 = u2 := by
      apply Nat.eq_of_testBit_eq
      intro i
      rw [Nat.testBit_or]
      cases e2 : u2.testBit i with
      | true => simp
      | false =>
        cases e1 : u1.testBit i with
        | false => rfl
        | true =>
          have hi := bit_lt h1.u1 e1
          have a := low.2 i hi e2
          have b := high.2 i hi e2
          rw [Nat.testBit_or, e1, Bool.or_true] at b
          have c : v1.testBit i = false := by
            cases e : v1.testBit i with
            | false => rfl
            | true => rw [h1.not e] at e1; cases e1
          rw [c, ← b] at a
          cases a
    rw [if_pos hu]
    unfold hasB
    refine decide_eq_true (or_eq_iff.mpr fun i hu2 => ?_)
    by_cases hi : i < n
    · exact low.2 i hi hu2
    · have z : ∀ y, y < 2 ^ n → y.testBit i = false := fun y hy => Nat.testBit_lt_two_pow (Nat.lt_of_lt_of_le hy (Nat.pow_le_pow_right (by decide) (by omega)))
      rw [z _ h1.v1, z _ h2.v1]
def bothU (v1 u1 v2 u2 : Nat) : Nat := u1 ||| u2 ||| (v1 ^^^ v2)
theorem bothU_lt {n v1 u1 v2 u2 : Nat} (h1 : Sb n v1 u1) (h2 : Sb n v2 u2) : bothU v1 u1 v2 u2 < 2 ^ n := Nat.or_lt_two_pow (Nat.or_lt_two_pow h1.u1 h2.u1) (Nat.xor_lt_two_pow h1.v1 h2.v1)
theorem both_low {n v1 u1 v2 u2 : Nat} (h1 : Sb n v1 u1) (h2 : Sb n v2 u2) : bdiff v1 (bothU v1 u1 v2 u2) = v1 &&& v2 := by
  apply Nat.eq_of_testBit_eq
  intro i
  rw [bdiff_bit, Nat.testBit_and]
  unfold bothU
  rw [Nat.testBit_or, Nat.testBit_or, Nat.testBit_xor]
  cases e1 : v1.testBit i with
  | false => simp
  | true =>
    rw [h1.not e1]
    cases e2 : v2.testBit i with
    | false => simp
    | true => rw [h2.not e2]; rfl
theorem both_sb {n v1 u1 v2 u2 : Nat} (h1 : Sb n v1 u1) (h2 : Sb n v2 u2) : Sb n (bdiff v1 (bothU v1 u1 v2 u2)) (bothU v1 u1 v2 u2) := by
  refine ⟨?_, bothU_lt h1 h2, ?_⟩
  · rw [both_low h1 h2]
    exact Nat.lt_of_le_of_lt Nat.and_le_left h1.v1
  · apply Nat.eq_of_testBit_eq
    intro i
    rw [Nat.testBit_and, bdiff_bit, Nat.zero_testBit]
    cases v1.testBit i <;> cases (bothU v1 u1 v2 u2).testBit i <;> rfl
theorem both_high {n v1 u1 v2 u2 : Nat} (h1 : Sb n v1 u1) (h2 : Sb n v2 u2) : (v1 &&& v2) ^^^ ((v1 ||| u1) ||| (v2 ||| u2)) = bothU v1 u1 v2 u2 := by
  apply Nat.eq_of_testBit_eq
  intro i
  unfold bothU
  simp only [Nat.testBit_or, Nat.testBit_xor, Nat.testBit_and]
  cases e1 : v1.testBit i with
  | false => cases v2.testBit i <;> cases u1.testBit i <;> cases u2.testBit i <;> rfl
  | true =>
    rw [h1.not e1]
    cases e2 : v2.testBit i with
    | false => cases u2.testBit i <;> rfl
    | true => rw [h2.not e2]; rfl
/-- the sharpest of two heaps of worths -/
theorem sharpest_two {n v1 u1 v2 u2 : Nat} (h1 : Sb n v1 u1) (h2 : Sb n v2 u2) :
    andAll n (heldL n v1 u1 ++ heldL n v2 u2) = bdiff v1 (bothU v1 u1 v2 u2) ∧ andAll n (heldL n v1 u1 ++ heldL n v2 u2) ^^^ orAll (heldL n v1 u1 ++ heldL n v2 u2) = bothU v1 u1 v2 u2 := by
  have a : andAll n (heldL n v1 u1 ++ heldL n v2 u2) = v1 &&& v2 := by
    apply Nat.eq_of_testBit_eq
    intro i
    unfold andAll
    rw [and_fold_bit, Nat.testBit_and, Nat.testBit_two_pow_sub_one]
    cases e1 : v1.testBit i with
    | false =>
      have z : ((heldL n v1 u1 ++ heldL n v2 u2).all fun x => x.testBit i) = false := List.all_eq_false.mpr ⟨v1, List.mem_append_left _ (held_low h1), by rw [e1]; simp⟩
      rw [z]; simp
    | true =>
      rw [decide_eq_true (bit_lt h1.v1 e1)]
      cases e2 : v2.testBit i with
      | false =>
        have z : ((heldL n v1 u1 ++ heldL n v2 u2).all fun x => x.testBit i) = false := List.all_eq_false.mpr ⟨v2, List.mem_append_right _ (held_low h2), by rw [e2]; simp⟩
        rw [z, Bool.and_false]
      | true =>
        have z : ((heldL n v1 u1 ++ heldL n v2 u2).all fun x => x.testBit i) = true := List.all_eq_true.mpr fun x hx => by
          rcases List.mem_append.mp hx with q | q
          · exact held_ge h1 q e1
          · exact held_ge h2 q e2
        rw [z]
  have o : orAll (heldL n v1 u1 ++ heldL n v2 u2) = (v1 ||| u1) ||| (v2 ||| u2) := by
    apply Nat.eq_of_testBit_eq
    intro i
    unfold orAll
    rw [or_fold_bit, Nat.zero_testBit, Bool.false_or, Nat.testBit_or]
    cases e1 : (v1 ||| u1).testBit i with
    | true => rw [Bool.true_or]; exact List.any_eq_true.mpr ⟨_, List.mem_append_left _ (held_high h1), e1⟩
    | false =>
      cases e2 : (v2 ||| u2).testBit i with
      | true => exact List.any_eq_true.mpr ⟨_, List.mem_append_right _ (held_high h2), e2⟩
      | false =>
        refine List.any_eq_false.mpr fun x hx z => ?_
        rcases List.mem_append.mp hx with q | q
        · rw [held_le h1 q z] at e1; cases e1
        · rw [held_le h2 q z] at e2; cases e2
  rw [a, o]
  exact ⟨(both_low h1 h2).symm, both_high h1 h2⟩
/-- both hold something in common -/
def meetB (v1 u1 v2 u2 : Nat) : Prop := v1 ||| (u1 ||| u2) = v2 ||| (u1 ||| u2)
instance (v1 u1 v2 u2 : Nat) : Decidable (meetB v1 u1 v2 u2) := inferInstanceAs (Decidable (_ = _))
theorem meet_bit {v1 u1 v2 u2 i : Nat} (h : meetB v1 u1 v2 u2) (a : u1.testBit i = false) (b : u2.testBit i = false) : v1.testBit i = v2.testBit i := or_eq_iff.mp h i (by rw [Nat.testBit_or, a, b]; rfl)
theorem met_sb {n v1 u1 v2 u2 : Nat} (h1 : Sb n v1 u1) (h2 : Sb n v2 u2) (m : meetB v1 u1 v2 u2) : Sb n (v1 ||| v2) (u1 &&& u2) := by
  refine ⟨Nat.or_lt_two_pow h1.v1 h2.v1, Nat.lt_of_le_of_lt Nat.and_le_left h1.u1, ?_⟩
  apply Nat.eq_of_testBit_eq
  intro i
  rw [Nat.testBit_and, Nat.testBit_or, Nat.testBit_and, Nat.zero_testBit]
  cases e1 : v1.testBit i with
  | true => rw [h1.not e1]; simp
  | false =>
    cases e2 : v2.testBit i with
    | true => rw [h2.not e2]; simp
    | false => rfl
theorem met_iff {n v1 u1 v2 u2 x : Nat} (h1 : Sb n v1 u1) (h2 : Sb n v2 u2) (m : meetB v1 u1 v2 u2) : x ∈ heldL n (v1 ||| v2) (u1 &&& u2) ↔ x ∈ heldL n v1 u1 ∧ x ∈ heldL n v2 u2 := by
  rw [held_iff h1, held_iff h2, held_iff (met_sb h1 h2 m)]
  constructor
  · rintro ⟨hx, q⟩
    refine ⟨⟨hx, fun i hi hu => ?_⟩, hx, fun i hi hu => ?_⟩
    · rw [q i hi (by rw [Nat.testBit_and, hu]; rfl), Nat.testBit_or]
      cases e2 : v2.testBit i with
      | false => simp
      | true => rw [meet_bit m hu (h2.not e2), e2]; rfl
    · rw [q i hi (by rw [Nat.testBit_and, hu]; simp), Nat.testBit_or]
      cases e1 : v1.testBit i with
      | false => simp
      | true => rw [← meet_bit m (h1.not e1) hu, e1]; rfl
  · rintro ⟨⟨hx, a⟩, _, b⟩
    refine ⟨hx, fun i hi hu => ?_⟩
    rw [Nat.testBit_and] at hu
    rw [Nat.testBit_or]
    cases e1 : u1.testBit i with
    | false =>
      rw [a i hi e1]
      cases e2 : v2.testBit i with
      | false => simp
      | true => rw [meet_bit m e1 (h2.not e2), e2]; rfl
    | true =>
      rw [e1, Bool.true_and] at hu
      rw [b i hi hu]
      cases e2 : v1.testBit i with
      | false => simp
      | true => rw [h1.not e2] at e1; cases e1
theorem met_none {n v1 u1 v2 u2 x : Nat} (h1 : Sb n v1 u1) (h2 : Sb n v2 u2) (m : ¬ meetB v1 u1 v2 u2) (a : x ∈ heldL n v1 u1) (b : x ∈ heldL n v2 u2) : False := by
  apply m
  refine or_eq_iff.mpr fun i hu => ?_
  rw [Nat.testBit_or] at hu
  have z1 : u1.testBit i = false := by cases e : u1.testBit i with | false => rfl | true => rw [e] at hu; cases hu
  have z2 : u2.testBit i = false := by cases e : u2.testBit i with | false => rfl | true => rw [e] at hu; simp at hu
  by_cases hi : i < n
  · rw [← ((held_iff h1).mp a).2 i hi z1, ((held_iff h2).mp b).2 i hi z2]
  · have z : ∀ y, y < 2 ^ n → y.testBit i = false := fun y hy => Nat.testBit_lt_two_pow (Nat.lt_of_lt_of_le hy (Nat.pow_le_pow_right (by decide) (by omega)))
    rw [z _ h1.v1, z _ h2.v1]
theorem sharpest_met {n v1 u1 v2 u2 : Nat} {L : List Nat} (h1 : Sb n v1 u1) (h2 : Sb n v2 u2) (m : meetB v1 u1 v2 u2) (hL : ∀ x, x ∈ L ↔ x ∈ heldL n v1 u1 ∧ x ∈ heldL n v2 u2) :
    andAll n L = v1 ||| v2 ∧ andAll n L ^^^ orAll L = u1 &&& u2 := by
  have s := met_sb h1 h2 m
  have e : ∀ x, x ∈ L ↔ x ∈ heldL n (v1 ||| v2) (u1 &&& u2) := fun x => (hL x).trans (met_iff h1 h2 m).symm
  obtain ⟨a, b⟩ := sharpest_of ((e _).mpr (held_low s)) ((e _).mpr (held_high s)) s.v1 (fun x hx i hi => held_ge s ((e x).mp hx) hi) (fun x hx i hi => held_le s ((e x).mp hx) hi)
  rw [a, b]
  refine ⟨rfl, ?_⟩
  apply Nat.eq_of_testBit_eq
  intro i
  rw [Nat.testBit_xor, Nat.testBit_or (v1 ||| v2)]
  cases hv : (v1 ||| v2).testBit i with
  | false => simp
  | true => rw [s.not hv]; rfl
/-! ### lists of worths -/
theorem in_ints (x : Nat) (L : List Nat) : inV (.int x) (intsN L) = decide (x ∈ L) := by
  unfold inV intsN
  induction L with
  | nil => simp
  | cons y L ih =>
    rw [List.map_cons, List.any_cons, ih]
    show (((y : Int) == (x : Int)) || decide (x ∈ L)) = _
    by_cases h : y = x
    · subst h; simp
    · have h1 : ((y : Int) == (x : Int)) = false := beq_eq_false_iff_ne.mpr (by omega)
      have h2 : (x ∈ y :: L) ↔ x ∈ L := by simp [Ne.symm h]
      rw [h1, Bool.false_or]
      simp only [h2]
theorem ints_flat (L : List Nat) : (intsN L).all flatV = true := by
  rw [List.all_eq_true]
  intro v hv
  obtain ⟨x, _, rfl⟩ := List.mem_map.mp hv
  rfl
def datN (L : List Nat) : List PyData := L.map fun x : Nat => PyData.int (x : Int)
theorem ints_dp {K : PySem.W.Frag} {H : Hp} : ∀ L : List Nat, DpAll K H (intsN L) (datN L)
  | [] => .nil
  | x :: L => .cons (.int _) (ints_dp L)
theorem dat_shaped (L : List Nat) : SeqAt.shaped (.list (datN L)) = true := by
  have a : ∀ L : List Nat, PyData.canLayAll0 (datN L) = true ∧ PyData.depthAll (datN L) = 0 := by
    intro L
    induction L with
    | nil => exact ⟨rfl, rfl⟩
    | cons x L ih => exact ⟨by show (true && PyData.canLayAll0 (datN L)) = true; rw [ih.1]; rfl, by show max 0 (PyData.depthAll (datN L)) = 0; rw [ih.2]; rfl⟩
  show (PyData.canLayAll0 (datN L) && decide (PyData.depthAll (datN L) + 1 ≤ 64)) = true
  rw [(a L).1, (a L).2]
  rfl
theorem eqv_nil (L : List Nat) : PyData.eqv (.list (datN L)) (.list []) = decide (L = []) := by
  cases L with
  | nil => rfl
  | cons x L => exact (decide_eq_false (fun z => by cases z)).symm
end Bg
namespace Bg
open PySem PySem.Spec PyProof.Rows L2
theorem has_bits {v u x : Nat} : hasB v u x = true ↔ ∀ i, u.testBit i = false → x.testBit i = v.testBit i := by
  unfold hasB
  rw [decide_eq_true_iff, or_eq_iff]
theorem has_drawn {v u r : Nat} : hasB v u (v ||| (u &&& r)) = true := has_bits.mpr fun i hu => by
  rw [Nat.testBit_or, Nat.testBit_and, hu, Bool.false_and, Bool.or_false]
theorem bothU_bit {v1 u1 v2 u2 i : Nat} (h : (bothU v1 u1 v2 u2).testBit i = false) : u1.testBit i = false ∧ u2.testBit i = false ∧ v1.testBit i = v2.testBit i := by
  unfold bothU at h
  simp only [Nat.testBit_or, Nat.testBit_xor, Bool.or_eq_false_iff] at h
  refine ⟨h.1.1, h.1.2, ?_⟩
  have z := h.2
  revert z
  cases v1.testBit i <;> cases v2.testBit i <;> simp
theorem has_both1 {v1 u1 v2 u2 x : Nat} (h : hasB v1 u1 x = true) : hasB (bdiff v1 (bothU v1 u1 v2 u2)) (bothU v1 u1 v2 u2) x = true := has_bits.mpr fun i hu => by
  rw [has_bits.mp h i (bothU_bit hu).1, bdiff_bit, hu]
  simp
theorem has_both2 {v1 u1 v2 u2 x : Nat} (h : hasB v2 u2 x = true) : hasB (bdiff v1 (bothU v1 u1 v2 u2)) (bothU v1 u1 v2 u2) x = true := has_bits.mpr fun i hu => by
  rw [has_bits.mp h i (bothU_bit hu).2.1, bdiff_bit, hu, (bothU_bit hu).2.2]
  simp
theorem has_met {n v1 u1 v2 u2 x : Nat} (h1 : Sb n v1 u1) (h2 : Sb n v2 u2) (m : meetB v1 u1 v2 u2) : hasB (v1 ||| v2) (u1 &&& u2) x = (hasB v1 u1 x && hasB v2 u2 x) := by
  have e : hasB (v1 ||| v2) (u1 &&& u2) x = true ↔ (hasB v1 u1 x && hasB v2 u2 x) = true := by
    rw [Bool.and_eq_true, has_bits, has_bits, has_bits]
    constructor
    · intro q
      refine ⟨fun i hu => ?_, fun i hu => ?_⟩
      · rw [q i (by rw [Nat.testBit_and, hu]; rfl), Nat.testBit_or]
        cases e2 : v2.testBit i with
        | false => simp
        | true => rw [meet_bit m hu (h2.not e2), e2]; rfl
      · rw [q i (by rw [Nat.testBit_and, hu]; simp), Nat.testBit_or]
        cases e1 : v1.testBit i with
        | false => simp
        | true => rw [← meet_bit m (h1.not e1) hu, e1]; rfl
    · rintro ⟨a, b⟩ i hu
      rw [Nat.testBit_and] at hu
      rw [Nat.testBit_or]
      cases e1 : u1.testBit i with
      | false =>
        rw [a i e1]
        cases e2 : v2.testBit i with
        | false => simp
        | true => rw [meet_bit m e1 (h2.not e2), e2]; rfl
      | true =>
        rw [e1, Bool.true_and] at hu
        rw [b i hu]
        cases e2 : v1.testBit i with
        | false => simp
        | true => rw [h1.not e2] at e1; cases e1
  cases q : hasB (v1 ||| v2) (u1 &&& u2) x with
  | true => rw [e.mp q]
  | false =>
    cases z : (hasB v1 u1 x && hasB v2 u2 x) with
    | false => rfl
    | true => rw [e.mpr z] at q; cases q
theorem has_unmet {v1 u1 v2 u2 x : Nat} (m : ¬ meetB v1 u1 v2 u2) : (hasB v1 u1 x && hasB v2 u2 x) = false := by
  cases z : (hasB v1 u1 x && hasB v2 u2 x) with
  | false => rfl
  | true =>
    rw [Bool.and_eq_true, has_bits, has_bits] at z
    refine absurd (or_eq_iff.mpr fun i hu => ?_) m
    rw [Nat.testBit_or] at hu
    have z1 : u1.testBit i = false := by cases e : u1.testBit i with | false => rfl | true => rw [e] at hu; cases hu
    have z2 : u2.testBit i = false := by cases e : u2.testBit i with | false => rfl | true => rw [e] at hu; simp at hu
    rw [← z.1 i z1, z.2 i z2]
theorem bdiff_top {n a b : Nat} (ha : a < 2 ^ n) : a &&& ((2 ^ n - 1) ^^^ b) = bdiff a b := by
  apply Nat.eq_of_testBit_eq
  intro i
  rw [bdiff_bit, Nat.testBit_and, Nat.testBit_xor, Nat.testBit_two_pow_sub_one]
  cases e : a.testBit i with
  | false => rfl
  | true => rw [decide_eq_true (bit_lt ha e)]; simp
theorem clash_iff {n v1 u1 v2 u2 : Nat} (h1 : Sb n v1 u1) (h2 : Sb n v2 u2) : (v1 ^^^ v2) &&& ((2 ^ n - 1) ^^^ (u1 ||| u2)) = 0 ↔ meetB v1 u1 v2 u2 := by
  rw [bdiff_top (Nat.xor_lt_two_pow h1.v1 h2.v1)]
  constructor
  · intro e
    refine or_eq_iff.mpr fun i hu => ?_
    have z := congrArg (·.testBit i) e
    simp only [bdiff_bit, hu, Nat.testBit_xor, Nat.zero_testBit, Bool.not_false, Bool.and_true] at z
    revert z
    cases v1.testBit i <;> cases v2.testBit i <;> simp
  · intro m
    apply Nat.eq_of_testBit_eq
    intro i
    rw [bdiff_bit, Nat.zero_testBit, Nat.testBit_xor]
    cases hu : (u1 ||| u2).testBit i with
    | true => simp
    | false => rw [or_eq_iff.mp m i hu]; simp
theorem within_both {v1 u1 v2 u2 : Nat} : withinB v1 u1 (bdiff v1 (bothU v1 u1 v2 u2)) (bothU v1 u1 v2 u2) = true ∧ withinB v2 u2 (bdiff v1 (bothU v1 u1 v2 u2)) (bothU v1 u1 v2 u2) = true := by
  have self : ∀ v u : Nat, hasB v u v = true := fun v u => decide_eq_true rfl
  have e1 : u1 ||| bothU v1 u1 v2 u2 = bothU v1 u1 v2 u2 := by
    apply Nat.eq_of_testBit_eq
    intro i
    unfold bothU
    simp only [Nat.testBit_or]
    cases u1.testBit i <;> simp
  have e2 : u2 ||| bothU v1 u1 v2 u2 = bothU v1 u1 v2 u2 := by
    apply Nat.eq_of_testBit_eq
    intro i
    unfold bothU
    simp only [Nat.testBit_or]
    cases u2.testBit i <;> simp
  unfold withinB
  rw [if_pos e1, if_pos e2]
  exact ⟨has_both1 (self v1 u1), has_both2 (self v2 u2)⟩
end Bg

set_option Elab.async false
set_option linter.all false
set_option maxRecDepth 100000
set_option maxHeartbeats 4000000
namespace Bg
open PySem PySem.Spec PyProof.Rows L2
/-! ### the eight deeds -/
inductive Op | plus | minus | times | and | or | either | left | right
  deriving DecidableEq
def opW : Op → Str
  | .plus => "plus" | .minus => "minus" | .times => "times" | .and => "and" | .or => "or" | .either => "either" | .left => "left" | .right => "right"
def opV : Op → Nat → Nat → Nat → Nat
  | .plus, n, a, b => (a + b) % 2 ^ n
  | .minus, n, a, b => (a + (2 ^ n - b)) % 2 ^ n
  | .times, n, a, b => (a * b) % 2 ^ n
  | .and, _, a, b => a &&& b
  | .or, _, a, b => a ||| b
  | .either, _, a, b => a ^^^ b
  | .left, n, a, b => mvN true n a b
  | .right, n, a, b => mvN false n a b
def isMv : Op → Bool
  | .left => true | .right => true | _ => false
theorem opV_lt {o : Op} {n a b : Nat} (ha : a < 2 ^ n) (hb : b < 2 ^ n ∨ isMv o = true) : opV o n a b < 2 ^ n := by
  have p := Nat.two_pow_pos n
  cases o with
  | plus => exact Nat.mod_lt _ p
  | minus => exact Nat.mod_lt _ p
  | times => exact Nat.mod_lt _ p
  | and => exact Nat.lt_of_le_of_lt Nat.and_le_left ha
  | or => exact Nat.or_lt_two_pow ha (hb.resolve_right (fun z => by cases z))
  | either => exact Nat.xor_lt_two_pow ha (hb.resolve_right (fun z => by cases z))
  | left => exact mv_lt ha
  | right => exact mv_lt ha
theorem plus_eq (n a b : Nat) : Builtin.bitAnd ((a : Int) + b) (2 ^ n - 1) = ((opV .plus n a b : Nat) : Int) := by
  rw [PySem.W.kbt_mask, pow_cast, ← Int.natCast_add, ← Int.natCast_emod]; rfl
theorem times_eq (n a b : Nat) : Builtin.bitAnd ((a : Int) * b) (2 ^ n - 1) = ((opV .times n a b : Nat) : Int) := by
  rw [PySem.W.kbt_mask, pow_cast, ← Int.natCast_mul, ← Int.natCast_emod]; rfl
theorem minus_eq {n a b : Nat} (hb : b < 2 ^ n) : Builtin.bitAnd ((a : Int) - b) (2 ^ n - 1) = ((opV .minus n a b : Nat) : Int) := by
  rw [PySem.W.kbt_mask, pow_cast]
  show _ = (((a + (2 ^ n - b)) % 2 ^ n : Nat) : Int)
  rw [Int.natCast_emod]
  have e : ((a + (2 ^ n - b) : Nat) : Int) = ((a : Int) - b) + ((2 ^ n : Nat) : Int) := by omega
  rw [e, Int.add_emod_right]
def spDone : Sp := fun vs H Q _ => ∃ (o : Op) (a b n : Nat), vs = [.str (opW o), .int a, .int b, .int n] ∧ a < 2 ^ n ∧ n ≤ 32 ∧ (b < 2 ^ n ∨ isMv o = true) ∧ Q (.int (opV o n a b : Nat)) H
theorem nat_small {a n : Nat} (h : a < 2 ^ n) (hn : n ≤ 32) : a < 4294967296 := Nat.lt_of_lt_of_le h (Nat.pow_le_pow_right (n := 2) (by decide) hn)
theorem mvl_eq {a j n : Nat} (h : ¬ n ≤ j) : Builtin.bitAnd ((a : Int) * 2 ^ (j : Int).toNat) (2 ^ n - 1) = ((mvN true n a j : Nat) : Int) := by
  rw [PySem.W.kbt_mask, Int.toNat_natCast, pow_cast, pow_cast, ← Int.natCast_mul, ← Int.natCast_emod]
  unfold mvN
  rw [if_neg h, if_pos rfl]
theorem mvr_eq {a j n : Nat} (h : ¬ n ≤ j) : (a : Int) / 2 ^ (j : Int).toNat = ((mvN false n a j : Nat) : Int) := by
  rw [Int.toNat_natCast, pow_cast, ← Int.natCast_ediv]
  unfold mvN
  rw [if_neg h, if_neg Bool.false_ne_true]
theorem mv_zero {l : Bool} {a j n : Nat} (h : n ≤ j) : mvN l n a j = 0 := if_pos h
def spGreatest : Sp := fun vs H Q _ => ∃ n : Nat, vs = [.int n] ∧ n ≤ 64 ∧ Q (.int (2 ^ n - 1)) H
def spMv (l : Bool) : Sp := fun vs H Q _ => ∃ a j n : Nat, vs = [.int a, .int j, .int n] ∧ a < 2 ^ n ∧ n ≤ 32 ∧ Q (.int (mvN l n a j : Nat)) H
/-! ### a word among words -/
def amongD : PyData → List Str → Bool
  | .str x, ws => decide (x ∈ ws)
  | _, _ => false
theorem in_strs (w : Str) (ws : List Str) : inV (.str w) (ws.map V.str) = decide (w ∈ ws) := by
  unfold inV
  induction ws with
  | nil => simp
  | cons x ws ih =>
    rw [List.map_cons, List.any_cons, ih]
    show ((x == w) || decide (w ∈ ws)) = _
    by_cases h : x = w
    · subst h; simp
    · have h1 : (x == w) = false := beq_eq_false_iff_ne.mpr h
      have h2 : (w ∈ x :: ws) ↔ w ∈ ws := by simp [Ne.symm h]
      rw [h1, Bool.false_or]
      simp only [h2]
theorem strs_flat (ws : List Str) : (ws.map V.str).all flatV = true := by
  rw [List.all_eq_true]
  intro v hv
  obtain ⟨x, _, rfl⟩ := List.mem_map.mp hv
  rfl
def spAmong (K : PySem.W.Frag) : Sp := fun vs H Q _ => ∃ (x : V) (d : PyData) (a : Addr) (ws : List Str), vs = [x, .ref a] ∧ Dz K H x d ∧ SqT K H a (ws.map V.str) ∧ Q (.bl (amongD d ws)) H
def deedsS : List Str := ["plus", "minus", "times", "and", "or", "either", "left", "right"]
theorem op_among (o : Op) : amongD (.str (opW o)) deedsS = true := by cases o <;> decide
/-! ### the twelve asks -/
inductive Ak | same | under | upto | below | least | bits
  deriving DecidableEq
def akW : Ak → Str
  | .same => "same" | .under => "under" | .upto => "upto" | .below => "below" | .least => "least" | .bits => "bits"
def akC : Ak → Str
  | .same => "unlike" | .under => "from" | .upto => "over" | .below => "notbelow" | .least => "above" | .bits => "nobits"
def akN : Ak → Nat
  | .same => 0 | .under => 1 | .upto => 2 | .below => 3 | .least => 4 | .bits => 5
def sgnI (a n : Nat) : Int := if a < 2 ^ (n - 1) then (a : Int) else (a : Int) - 2 ^ n
def akB : Ak → Nat → Nat → Nat → Bool
  | .same, _, a, b => decide (a = b)
  | .under, _, a, b => decide (a < b)
  | .upto, _, a, b => decide (a ≤ b)
  | .below, n, a, b => decide (sgnI a n < sgnI b n)
  | .least, n, a, b => decide (sgnI a n ≤ sgnI b n)
  | .bits, _, a, b => !decide (a &&& b = 0)
def asksS : List Str := ["same", "under", "upto", "below", "least", "bits", "unlike", "over", "from", "above", "notbelow", "nobits"]
theorem ak_among (k : Ak) : amongD (.str (akW k)) asksS = true ∧ amongD (.str (akC k)) asksS = true := by cases k <;> decide
/-- w is the word of k (c: its contrary) -/
def akS (k : Ak) (c : Bool) : Str := if c then akC k else akW k
def pairF : Nat → Ak
  | 0 => .same | 1 => .under | 2 => .upto | 3 => .below | 4 => .least | _ => .bits
theorem pair_hit (k : Ak) (c : Bool) (i : Nat) (hi : i < 6) : amongD (.str (akS k c)) [akW (pairF i), akC (pairF i)] = decide (i = akN k) := by
  match i, hi with
  | 0, _ => cases k <;> cases c <;> decide
  | 1, _ => cases k <;> cases c <;> decide
  | 2, _ => cases k <;> cases c <;> decide
  | 3, _ => cases k <;> cases c <;> decide
  | 4, _ => cases k <;> cases c <;> decide
  | 5, _ => cases k <;> cases c <;> decide
theorem pair_at (k : Ak) : pairF (akN k) = k ∧ akN k < 6 := by cases k <;> exact ⟨rfl, by decide⟩
def spContrary : Sp := fun vs H Q _ => ∃ (k : Ak) (c : Bool), vs = [.str (akS k c)] ∧ ∀ H', Same H H' → Q (.str (akS k (!c))) H'
def spSigned : Sp := fun vs H Q _ => ∃ a n : Nat, vs = [.int a, .int n] ∧ 1 ≤ n ∧ n ≤ 64 ∧ Q (.int (sgnI a n)) H
def spAskedD : Sp := fun vs H Q _ => ∃ (k : Ak) (a b n : Nat), vs = [.str (akW k), .int a, .int b, .int n] ∧ 1 ≤ n ∧ n ≤ 64 ∧ Q (.bl (akB k n a b)) H
def spAskedC : Sp := fun vs H Q _ => ∃ (k : Ak) (a b n : Nat), vs = [.str (akC k), .int a, .int b, .int n] ∧ 1 ≤ n ∧ n ≤ 64 ∧ ∀ H', Same H H' → Q (.bl (!akB k n a b)) H'
def akV (k : Ak) (c : Bool) (n a b : Nat) : Bool := if c then !akB k n a b else akB k n a b
def spAsked : Sp := fun vs H Q _ => ∃ (k : Ak) (c : Bool) (a b n : Nat), vs = [.str (akS k c), .int a, .int b, .int n] ∧ 1 ≤ n ∧ n ≤ 64 ∧ ∀ H', Same H H' → Q (.bl (akV k c n a b)) H'
theorem fn_asked {P : Program} {w : World} {K : PySem.W.Frag} {mg : Str → Option Value} {base : Heap} {CX : CXT} {k : Nat} {f : Addr} {fd : FuncData} {ps : List Str}
    (A : FnOk P w K mg base CX k f fd ps spAskedD) (B : FnOk P w K mg base CX k f fd ps spAskedC) : FnOk P w K mg base CX k f fd ps spAsked := by
  have key : ∀ vs H Q E, spAsked vs H Q E → spAskedD vs H Q E ∨ spAskedC vs H Q E := by
    rintro vs H Q E ⟨k, c, a, b, n, rfl, h1, h2, q⟩
    cases c with
    | false => exact .inl ⟨k, a, b, n, rfl, h1, h2, q H (Same.refl H)⟩
    | true => exact .inr ⟨k, a, b, n, rfl, h1, h2, q⟩
  constructor
  · intro vs H Q E h
    rcases key _ _ _ _ h with h | h
    · exact A.len _ _ _ _ h
    · exact B.len _ _ _ _ h
  · intro A' o s H args us vs Q E hr he hb hv h
    rcases key _ _ _ _ h with h | h
    · exact A.run A' o s H args us vs Q E hr he hb hv h
    · exact B.run A' o s H args us vs Q E hr he hb hv h
theorem sgn_eq {a n : Nat} (h1 : 1 ≤ n) : decide (V.int ((a : Int) / 2 ^ ((n : Int) - 1).toNat) = V.int 0) = decide (a < 2 ^ (n - 1)) := by
  have e : ((n : Int) - 1).toNat = n - 1 := by omega
  rw [e, pow_cast, ← Int.natCast_ediv]
  have p := Nat.two_pow_pos (n - 1)
  by_cases h : a < 2 ^ (n - 1)
  · rw [decide_eq_true h, Nat.div_eq_of_lt h]; exact decide_eq_true rfl
  · rw [decide_eq_false h]
    refine decide_eq_false (fun z => ?_)
    have z1 := V.int.inj z
    have := Nat.div_pos (show 2 ^ (n - 1) ≤ a by omega) p
    omega
/-! ### xs.count(k) of truths -/
theorem bools_eq {k : Bool} : ∀ {bs : List Bool} {us : List Value}, Vals (bs.map V.bl) us → (∀ y, y ∈ us → ∀ (A : Around) (s : Shared), SeqAt.EqAt A s y (.bool k) (isBoolOf k y)) ∧ us.countP (isBoolOf k) = bs.count k
  | [], _, h => by cases h; exact ⟨fun y hy => absurd hy (by simp), rfl⟩
  | b :: bs, _, h => by
    cases h with
    | cons r t =>
      rename_i u us
      cases (show u = Value.bool b from r)
      obtain ⟨h1, h2⟩ := bools_eq (k := k) t
      refine ⟨fun y hy A s => ?_, ?_⟩
      · rcases List.mem_cons.mp hy with rfl | hy
        · exact SeqAt.EqAt.bool_bool b k
        · exact h1 y hy A s
      · rw [List.countP_cons, List.count_cons, h2]
        rfl
def rCntB (K : PySem.W.Frag) : V → List V → Hp → VK → Prop := fun x xs H Q => ∃ (p : Addr) (bs : List Bool) (k : Bool), x = .ref p ∧ xs = [.bl k] ∧ SqL K H p (bs.map V.bl) ∧ Q (.int (bs.count k : Nat)) H
theorem mt_countB {X : Cx} : MtR X "list.count" (rCntB X.K) := by
  intro pins s σ H x xs v us Q I rx rxs h
  obtain ⟨p, bs, k, rfl, rfl, hs, q⟩ := h
  cases rx
  obtain ⟨u, rfl, ru⟩ := rxs.one
  cases (show u = Value.bool k from ru)
  obtain ⟨its, rv, ⟨⟨cls, dd, data, sl⟩, n, ho, hc, hdn, hd⟩, hlen⟩ := I.list hs
  simp only at hc hd
  subst hc hd
  obtain ⟨h1, h2⟩ := bools_eq (k := k) rv
  refine call_meets PySem.F.slot_list_count ⟨_, ho, rfl⟩ PySem.F.entry_list_count (PySem.F.args_list_count_2 _ _) (SeqAt.list_countAt p its.toArray n dd sl (.bool k) (isBoolOf k)) ⟨ho, fun y hy => h1 y (by simpa using hy) _ _, ?_⟩
  refine ⟨.int (bs.count k : Nat), H, I.tok _, ⟨s.toks, ?_⟩, q⟩
  show Value.int ((its.countP (isBoolOf k) : Nat) : Int) s.toks = _
  rw [h2]
/-! ### the ring of worths -/
theorem op_comm {o : Op} (h : o = .plus ∨ o = .times ∨ o = .and ∨ o = .or ∨ o = .either) (n a b : Nat) : opV o n a b = opV o n b a := by
  rcases h with rfl | rfl | rfl | rfl | rfl
  · show (a + b) % _ = (b + a) % _; rw [Nat.add_comm]
  · show (a * b) % _ = (b * a) % _; rw [Nat.mul_comm]
  · exact Nat.and_comm _ _
  · exact Nat.or_comm _ _
  · exact Nat.xor_comm _ _
theorem op_assoc {o : Op} (h : o = .plus ∨ o = .times ∨ o = .and ∨ o = .or ∨ o = .either) (n a b c : Nat) : opV o n (opV o n a b) c = opV o n a (opV o n b c) := by
  rcases h with rfl | rfl | rfl | rfl | rfl
  · show ((a + b) % _ + c) % _ = (a + (b + c) % _) % _
    rw [Nat.mod_add_mod, Nat.add_mod_mod, Nat.add_assoc]
  · show ((a * b) % _ * c) % _ = (a * ((b * c) % _)) % _
    rw [Nat.mod_mul_mod, Nat.mul_mod_mod, Nat.mul_assoc]
  · exact Nat.and_assoc _ _ _
  · exact Nat.or_assoc _ _ _
  · exact Nat.xor_assoc _ _ _
theorem op_distrib (n a b c : Nat) : opV .times n a (opV .plus n b c) = opV .plus n (opV .times n a b) (opV .times n a c) := by
  show (a * ((b + c) % _)) % _ = ((a * b) % _ + (a * c) % _) % _
  rw [Nat.mul_mod_mod, ← Nat.add_mod, Nat.mul_add]
theorem op_back {n a b : Nat} (ha : a < 2 ^ n) (hb : b < 2 ^ n) : opV .minus n (opV .plus n a b) b = a := by
  show ((a + b) % 2 ^ n + (2 ^ n - b)) % 2 ^ n = a
  rw [Nat.mod_add_mod, show a + b + (2 ^ n - b) = a + 2 ^ n by omega, Nat.add_mod_right, Nat.mod_eq_of_lt ha]
theorem left_one {n a : Nat} (n1 : 1 ≤ n) : opV .left n a 1 = (2 * a) % 2 ^ n := by
  show mvN true n a 1 = _
  unfold mvN
  by_cases h : n ≤ 1
  · have : n = 1 := by omega
    subst this
    rw [if_pos h]
    omega
  · rw [if_neg h, if_pos rfl, Nat.pow_one, Nat.mul_comm]
theorem op_carry {n a b : Nat} (n1 : 1 ≤ n) : opV .plus n (opV .either n a b) (opV .left n (opV .and n a b) 1) = opV .plus n a b := by
  rw [left_one n1]
  show ((a ^^^ b) + (2 * (a &&& b)) % 2 ^ n) % 2 ^ n = (a + b) % 2 ^ n
  rw [Nat.add_mod_mod, nat_xor_add]
theorem op_twice (n a b : Nat) : opV .either n (opV .either n a b) b = a := by
  show (a ^^^ b) ^^^ b = a
  rw [Nat.xor_assoc, Nat.xor_self, Nat.xor_zero]
theorem op_top {n a : Nat} (ha : a < 2 ^ n) : opV .or n a (2 ^ n - 1) = 2 ^ n - 1 := by
  apply Nat.eq_of_testBit_eq
  intro i
  show (a ||| (2 ^ n - 1)).testBit i = _
  rw [Nat.testBit_or, Nat.testBit_two_pow_sub_one]
  cases e : a.testBit i with
  | false => rfl
  | true => rw [decide_eq_true (bit_lt ha e)]; rfl
theorem op_double {n a : Nat} (n1 : 1 ≤ n) : opV .left n a 1 = opV .plus n a a := by
  rw [left_one n1]
  show _ = (a + a) % _
  rw [Nat.two_mul]
theorem op_halved {n a : Nat} (n1 : 1 ≤ n) (ha : a < 2 ^ n) : opV .left n (opV .right n a 1) 1 = a - a % 2 := by
  rw [left_one n1]
  show (2 * mvN false n a 1) % 2 ^ n = _
  unfold mvN
  by_cases h : n ≤ 1
  · have : n = 1 := by omega
    subst this
    rw [if_pos h]
    omega
  · rw [if_neg h, if_neg Bool.false_ne_true, Nat.pow_one, Nat.mod_eq_of_lt (by omega)]
    omega
theorem sgn_under {n a b : Nat} (n1 : 1 ≤ n) (ha : a < 2 ^ n) (hb : b < 2 ^ n) : akB .under n ((a + 2 ^ n / 2) % 2 ^ n) ((b + 2 ^ n / 2) % 2 ^ n) = akB .below n a b := by
  obtain ⟨m, rfl⟩ : ∃ m, n = m + 1 := ⟨n - 1, by omega⟩
  have e : 2 ^ (m + 1) = 2 * 2 ^ m := by rw [Nat.pow_succ, Nat.mul_comm]
  have e2 : (2 : Int) ^ (m + 1) = 2 * ((2 ^ m : Nat) : Int) := by rw [Int.pow_succ, pow_cast, Int.mul_comm]
  have p := Nat.two_pow_pos m
  have s : ∀ x : Nat, x < 2 ^ (m + 1) → (((x + 2 ^ (m + 1) / 2) % 2 ^ (m + 1) : Nat) : Int) = sgnI x (m + 1) + ((2 ^ m : Nat) : Int) := by
    intro x hx
    unfold sgnI
    rw [Nat.add_sub_cancel, e, Nat.mul_div_cancel_left _ (by decide), e2]
    by_cases h : x < 2 ^ m
    · rw [if_pos h, Nat.mod_eq_of_lt (by omega)]
      omega
    · rw [if_neg h, show x + 2 ^ m = (x - 2 ^ m) + 2 * 2 ^ m by omega, Nat.add_mod_right, Nat.mod_eq_of_lt (by omega)]
      omega
  have sa := s a ha
  have sb := s b hb
  show decide (_ < _) = decide (_ < _)
  by_cases h : sgnI a (m + 1) < sgnI b (m + 1)
  · rw [decide_eq_true h, decide_eq_true (by omega)]
  · rw [decide_eq_false h, decide_eq_false (by omega)]
theorem sgn_sum {n a b : Nat} (n1 : 1 ≤ n) : (sgnI a n + sgnI b n) % 2 ^ n = ((opV .plus n a b : Nat) : Int) := by
  show _ = (((a + b) % 2 ^ n : Nat) : Int)
  rw [Int.natCast_emod, pow_cast, Int.natCast_add]
  have s : ∀ x : Nat, ∃ k : Int, sgnI x n = (x : Int) + ((2 ^ n : Nat) : Int) * k := fun x => by
    unfold sgnI
    split
    · exact ⟨0, by rw [Int.mul_zero, Int.add_zero]⟩
    · exact ⟨-1, by rw [pow_cast]; omega⟩
  obtain ⟨k, hk⟩ := s a
  obtain ⟨l, hl⟩ := s b
  rw [hk, hl, show ((a : Int) + ((2 ^ n : Nat) : Int) * k) + ((b : Int) + ((2 ^ n : Nat) : Int) * l) = ((a : Int) + b) + ((2 ^ n : Nat) : Int) * (k + l) by rw [Int.mul_add]; omega, Int.add_mul_emod_self_left]
theorem three (n a b : Nat) : [akV .under false n a b, akV .same false n a b, akV .upto true n a b].count true = 1 := by
  show [decide (a < b), decide (a = b), !decide (a ≤ b)].count true = 1
  rcases Nat.lt_trichotomy a b with h | h | h
  · rw [decide_eq_true h, decide_eq_false (by omega), decide_eq_true (by omega)]; rfl
  · rw [decide_eq_false (by omega), decide_eq_true h, decide_eq_true (by omega)]; rfl
  · rw [decide_eq_false (by omega), decide_eq_false (by omega), decide_eq_false (by omega)]; rfl
theorem sgn_inj {n a b : Nat} (n1 : 1 ≤ n) (ha : a < 2 ^ n) (hb : b < 2 ^ n) (h : sgnI a n = sgnI b n) : a = b := by
  obtain ⟨m, rfl⟩ : ∃ m, n = m + 1 := ⟨n - 1, by omega⟩
  have e : 2 ^ (m + 1) = 2 * 2 ^ m := by rw [Nat.pow_succ, Nat.mul_comm]
  have e2 : (2 : Int) ^ (m + 1) = 2 * ((2 ^ m : Nat) : Int) := by rw [Int.pow_succ, pow_cast, Int.mul_comm]
  unfold sgnI at h
  rw [Nat.add_sub_cancel, e2] at h
  split at h <;> split at h <;> omega
theorem three_sgn {n a b : Nat} (n1 : 1 ≤ n) (ha : a < 2 ^ n) (hb : b < 2 ^ n) : [akV .below false n a b, akV .same false n a b, akV .least true n a b].count true = 1 := by
  show [decide (sgnI a n < sgnI b n), decide (a = b), !decide (sgnI a n ≤ sgnI b n)].count true = 1
  by_cases h : a = b
  · subst h
    rw [decide_eq_false (by omega), decide_eq_true rfl, decide_eq_true (by omega)]; rfl
  · have hn : sgnI a n ≠ sgnI b n := fun z => h (sgn_inj n1 ha hb z)
    by_cases h2 : sgnI a n < sgnI b n
    · rw [decide_eq_true h2, decide_eq_false h, decide_eq_true (by omega)]; rfl
    · rw [decide_eq_false h2, decide_eq_false h, decide_eq_false (by omega)]; rfl
end Bg

set_option Elab.async false
set_option linter.all false
set_option maxRecDepth 100000
set_option maxHeartbeats 4000000
namespace Bg
open PySem PySem.Spec PyProof.Rows L2
/-! ### refusals -/
/-- a reading that is asked for only where p -/
def tWhen (p : Prop) (t : TS) : TS := fun D σ H => p ∧ t D σ H
theorem pss_when {X : Cx} {ss : List Stmt} {p : Prop} {t : TS} (h : p → PSs X ss t) : PSs X ss (tWhen p t) :=
  ⟨fun pins s σ H D I q => (h q.1).run pins s σ H D I q.2⟩
section
variable {X : Cx} {CX : CXT} {k : Nat} {f : Addr} {fd : FuncData} {ps : List Str} {sp : Sp} {dvs : List V} {ds : List Value} {E : L2.St → XK} {x : Str} {p pos : Pos} {e : Expr} {es : List Expr} {t : TA}
/-- a call of a def that may let out, some parameters left out -/
def tCallD (sp : Sp) (dvs : List V) (E : L2.St → XK) (t : TA) : TE := fun σ H Q => t σ H fun vs H1 => sp (vs ++ dvs) H1 Q (E σ)
theorem pe_callD (F : FnOk X.prog X.w X.K X.mg X.base CX k f fd ps sp) (room : Room k X.A) (gl : Gl X x) (at_ : X.mg x = some (.ref f)) (kp : PySem.W.keepIn X.K (.ref f) = true) (bi : Binds X.K fd ps ds) (dv : Vals dvs ds)
    (out : ∀ σ, PassesAt CX X σ (E σ)) (ar : PA X (e :: es) t) (nd : (x == ("__debug__" : Str)) = false := by decide) (st : starEach (e :: es) X.env = (false, eval e X.env) :: starEach es X.env := by rfl)
    (pl : (backTo pos (starEach es X.env)).any (·.1) = false := by rfl) : PE X (.Call (.Name x p) (e :: es) [] pos) (tCallD sp dvs E t) := by
  constructor
  intro pins s σ H Q I h
  apply wpAny_Call_Name_kw
  apply ld_glob I gl at_ _ nd
  apply PySem.W.callWith_K (h₀ := X.base) I.ok.mod.kin kp _ st pl
  apply thn (ar.run pos pins s σ H _ I h)
  rintro us s1 ⟨vs, H1, I1, r, q⟩
  refine ⟨I1.kIn, ?_⟩
  have both : Vals (vs ++ dvs) (us ++ ds) := r.append dv
  have long : (us ++ ds).length = ps.length := both.length.symm.trans (F.len _ _ _ _ q)
  apply wpAny_call
  apply codeAny_mono (F.run X.A X.stack s1 H1 ⟨us, []⟩ (us ++ ds) (vs ++ dvs) Q (E σ) room I1.env0 (bi s1 us I1.kIn long) both q)
  intro res s2 hq
  match res, hq with
  | .error u, hq => exact out σ pins H1 s1 u s2 I1 hq
  | .ok (.ret u), hq => exact I1.after hq
end
/-- isinstance(e, (c, ..)), e the exception that the suite holds -/
def rIsET (K : PySem.W.Frag) (D a : Addr) : List V → Hp → VK → Prop := fun xs H Q => ∃ (tp : Addr) (cs : List V) (us : List Value) (b : Bool), xs = [.ref a, .ref tp] ∧ H tp = some (.tup cs) ∧ Paired ClsV cs us ∧ PySem.W.kitAny K (.ref D) us = some b ∧ Q (.bl b) H
theorem call_isET {X : Cx} {a D : Addr} {oe : Obj} {pn : List (Addr × Obj)} (C : ExcC X.K D) (hz : Zc (.ref D) none oe) (hf : ∃ vs, oe.data = .fields vs) : CallR (X.suite a ((a, oe) :: pn)) (.builtin "isinstance") (rIsET X.K D a) := by
  rintro pins s σ H xs us Q I r ⟨tp, cs, ws, b, rfl, hT, k, e, q⟩
  obtain ⟨u1, u2, rfl, r1, r2⟩ := vals2 r
  cases (show u2 = Value.ref tp from r2)
  cases (show u1 = Value.ref a from r1)
  have hget := (I.pin (a, oe) (List.mem_append.mpr (.inl List.mem_cons_self))).1
  obtain ⟨vs, hv⟩ := hf
  have J : PySem.W.InstAt s.heap a oe D none := by
    cases oe with
    | mk c d u l =>
      cases hz.1
      cases hz.2
      cases (show u = _ from hv)
      exact ⟨hget, rfl, rfl, trivial⟩
  have ob : ObjOk X.prog X.w H s.heap tp (.tup cs) := I.hok tp _ hT
  obtain ⟨_, its, rv, o, h1, h2, n, h3⟩ := ob
  cases ClsV.all k rv
  cases o with
  | mk c d u l =>
    cases (show c = _ from h2)
    cases (show u = _ from h3)
    exact PySem.W.kia_tup (PySem.W.handS_kitx_exc C.hg C.hk C.hs C.hd C.ha C.hn C.ht C.hm) I.kIn J h1 e (fun z => nomatch z) fun tk => ⟨.bl b, H, I.tok tk, rfl, q⟩
/-- what the class at C of a refusal must say -/
structure Refl (K : PySem.W.Frag) (C : Addr) : Prop where
  x : PySem.W.excIn K C [.type "ValueError", .type "Exception", .type "BaseException", .type "object"] "ValueError.__new__" = true
  k : PySem.W.keepIn K (.ref C) = true
  s : PySem.W.subIn K (.ref C) (.type "BaseException") = some true
  t : PySem.W.typeIn K (.ref C) = some (.type "type")
  c : ExcC K C
  m : PySem.W.exmOne K (.ref C) (.ref C) = some true
/-- what is asked of a class that is named -/
structure ClsI (K : PySem.W.Frag) (D : Addr) : Prop where
  b : PySem.W.subIn K (.ref D) (.type "BaseException") = some true
  d : PySem.W.hasDictIn K D = true
  i : PySem.W.isClsIn K D = true
  t : PySem.W.typeIn K (.ref D) = some (.type "type")
theorem kit_ref {K : PySem.W.Frag} {C D : Addr} {b : Bool} (self : PySem.W.subIn K (.ref C) (.ref C) = some true) (I : ClsI K D) (h : PySem.W.subIn K (.ref C) (.ref D) = some b) : PySem.W.kitOne K (.ref C) (.ref D) = some b := by
  unfold PySem.W.kitOne
  by_cases e : (Value.ref C == Value.ref D) = true
  · rw [if_pos e]
    have z : C = D := by
      have := LawfulBEq.eq_of_beq e
      cases this
      rfl
    subst z
    exact self.symm.trans h
  · rw [if_neg e]
    show (if ((PySem.W.clsIn K D).isSome && PySem.W.typeIn K (.ref D) == some (.type "type")) = true then PySem.W.subIn K (.ref C) (.ref D) else none) = some b
    have e2 : ((PySem.W.clsIn K D).isSome && PySem.W.typeIn K (.ref D) == some (.type "type")) = true := by
      have i : (PySem.W.clsIn K D).isSome = true := I.i
      rw [i, I.t] <;> rfl
    rw [if_pos e2]
    exact h
theorem kit_ve {K : PySem.W.Frag} {C : Addr} (h : PySem.W.subIn K (.ref C) (.type "ValueError") = some true) : PySem.W.kitOne K (.ref C) (.type "ValueError") = some true := h
theorem zc_of {cls : Value} {d : Option Addr} {C : Addr} {oe : Obj} (h : cls = .ref C ∧ d = none) (z : Zc cls d oe) : Zc (.ref C) none oe := by
  obtain ⟨rfl, rfl⟩ := h
  exact z
theorem hu_of {A : Around} (h : A.units + 64 < cLine) : A.units + 1 < cLine := by omega
section
variable {σ : L2.St} {H : Hp} {Q : VK}
theorem rd_par2 {ta : TA} {i j : Nat} {D : Ends} (q : ta σ H fun vs H1 => ∃ v w, vs = [v, w] ∧ D.nx ((σ.set i (some v)).set j (some w)) H1) : tPar i j ta D σ H := q
theorem ex2 {R : V → V → Prop} {a b : V} (q : R a b) : ∃ v w, [a, b] = [v, w] ∧ R v w := ⟨a, b, rfl, q⟩
theorem ex3 {R : V → V → V → Prop} {a b c : V} (q : R a b c) : ∃ u v w, [a, b, c] = [u, v, w] ∧ R u v w := ⟨a, b, c, rfl, q⟩
theorem rd_par3 {ta : TA} {i j l : Nat} {D : Ends} (q : ta σ H fun vs H1 => ∃ u v w, vs = [u, v, w] ∧ D.nx (((σ.set i (some u)).set j (some v)).set l (some w)) H1) : tPar3 i j l ta D σ H := q
theorem rd_callD {sp : Sp} {dvs : List V} {E : L2.St → XK} {t : TA} (q : t σ H fun vs H1 => sp (vs ++ dvs) H1 Q (E σ)) : tCallD sp dvs E t σ H Q := q
theorem rd_disp {trs : List (TE × TE)} (q : ∀ p, H p = none → tPairs trs σ (upd H p (.dK [])) fun ps H2 => H2 p = some (.dK []) ∧ ∃ kvs : List (Key × V), ps = kvs.map (fun kv => (kV kv.1, kv.2)) ∧ kvs.length ≤ 15 ∧ Q (.ref p) (upd H2 p (.dK (mergeK [] kvs)))) : tDisp trs σ H Q := q
theorem rd_pcons {tk tv : TE} {r : List (TE × TE)} {R : List (V × V) → Hp → Prop} (q : tk σ H fun x H1 => tv σ H1 fun y H2 => tPairs r σ H2 fun ps H3 => R ((x, y) :: ps) H3) : tPairs ((tk, tv) :: r) σ H R := q
theorem rd_pnil {R : List (V × V) → Hp → Prop} (q : R [] H) : tPairs [] σ H R := q
theorem rd_dget {td ty : TE} (q : td σ H fun x H1 => ty σ H1 fun y H2 => ∃ a v, x = .ref a ∧ DGet H2 a y (some v) ∧ Q v H2) : tDGet td ty σ H Q := q
/-- a dict of texts, read -/
theorem dgetS {a : Addr} {kvs : List (Key × V)} {k : Str} {v : V} (e : H a = some (.dK kvs)) (g : valV kvs (.inr k) = some v) : DGet H a (.str k) (some v) := by
  rw [← g]
  exact DGet.k (k := .inr k) e
end
/-! ### rows of bits -/
theorem bit_one (z i : Nat) : z / 2 ^ i % 2 = if z.testBit i then 1 else 0 := by
  rw [Nat.testBit_eq_decide_div_mod_eq]
  have h := Nat.mod_lt (z / 2 ^ i) (show 2 > 0 by decide)
  by_cases e : z / 2 ^ i % 2 = 1
  · rw [decide_eq_true e, e]; rfl
  · rw [decide_eq_false e, if_neg Bool.false_ne_true]; omega
def bitV : Op → Nat → Nat → Int
  | .and, x, y => if decide (V.int ((x : Int) + y) = V.int 2) = true then 1 else 0
  | .or, x, y => if decide ((0 : Int) < (x : Int) + y) = true then 1 else 0
  | _, x, y => if (!decide (V.int (x : Int) = V.int (y : Int))) = true then 1 else 0
def isBit : Op → Bool
  | .and => true | .or => true | .either => true | _ => false
theorem bitV_is {o : Op} (ho : isBit o = true) (n a b i : Nat) : bitV o (a / 2 ^ i % 2) (b / 2 ^ i % 2) = ((opV o n a b / 2 ^ i % 2 : Nat) : Int) := by
  rw [bit_one a, bit_one b]
  cases o with
  | and =>
    rw [show opV .and n a b = a &&& b from rfl, bit_one, Nat.testBit_and]
    cases a.testBit i <;> cases b.testBit i <;> decide
  | or =>
    rw [show opV .or n a b = a ||| b from rfl, bit_one, Nat.testBit_or]
    cases a.testBit i <;> cases b.testBit i <;> decide
  | either =>
    rw [show opV .either n a b = a ^^^ b from rfl, bit_one, Nat.testBit_xor]
    cases a.testBit i <;> cases b.testBit i <;> decide
  | _ => cases ho
theorem valB {o : Op} (ho : isBit o = true) (x y : Nat) : valV (mergeK [] [(.inr "and", .int (bitV .and x y)), (.inr "or", .int (bitV .or x y)), (.inr "either", .int (bitV .either x y))]) (.inr (opW o)) = some (.int (bitV o x y)) := by
  cases o with
  | and => rfl
  | or => rfl
  | either => rfl
  | _ => cases ho
theorem half_nat (a i : Nat) : ((a / 2 ^ i : Nat) : Int) / 2 = ((a / 2 ^ (i + 1) : Nat) : Int) := by
  rw [Nat.pow_succ, ← Nat.div_div_eq_div_mul]; omega
theorem next_bits (x i : Nat) : ((x % 2 ^ i : Nat) : Int) + ((2 ^ i : Nat) : Int) * ((x / 2 ^ i % 2 : Nat) : Int) = ((x % 2 ^ (i + 1) : Nat) : Int) := by
  rw [Nat.mod_pow_succ, Int.natCast_add, Int.natCast_mul]
theorem next_pow (i : Nat) : (2 : Int) * ((2 ^ i : Nat) : Int) = ((2 ^ (i + 1) : Nat) : Int) := by
  rw [Nat.pow_succ]; omega
theorem mod_cast2 (x : Nat) : (x : Int) % 2 = ((x % 2 : Nat) : Int) := by omega
theorem rd_inS {K : PySem.W.Frag} {H : Hp} {t : Addr} {w : Str} {ws : List Str} {Q : VK} (h : H t = some (.tup (ws.map V.str))) (q : Q (.bl (decide (w ∈ ws))) H) : rIn K false (.str w) (.ref t) H Q := by
  refine ⟨t, _, rfl, .inr (SqT.of h), rfl, strs_flat ws, ?_⟩
  rw [in_strs]
  exact q
theorem in_bits (o : Op) : decide (opW o ∈ (["and", "or", "either"] : List Str)) = isBit o := by cases o <;> decide
theorem in_mvs (o : Op) : decide (opW o ∈ (["left", "right"] : List Str)) = isMv o := by cases o <;> decide
theorem min_nat (b n : Nat) : (if (n : Int) < b then (n : Int) else b) = ((min b n : Nat) : Int) := by
  split <;> omega
theorem mv_left {a b n : Nat} : ((a : Int) * 2 ^ (min b n)) % 2 ^ n = ((opV .left n a b : Nat) : Int) := by
  rw [pow_cast, pow_cast, ← Int.natCast_mul, ← Int.natCast_emod]
  show _ = ((mvN true n a b : Nat) : Int)
  unfold mvN
  by_cases h : n ≤ b
  · rw [if_pos h, Nat.min_eq_right h, Nat.mul_mod_left]
  · rw [if_neg h, if_pos rfl, Nat.min_eq_left (by omega)]
theorem mv_right {a b n : Nat} (ha : a < 2 ^ n) : (a : Int) / 2 ^ (min b n) = ((opV .right n a b : Nat) : Int) := by
  rw [pow_cast, ← Int.natCast_ediv]
  show _ = ((mvN false n a b : Nat) : Int)
  unfold mvN
  by_cases h : n ≤ b
  · rw [if_pos h, Nat.min_eq_right h, Nat.div_eq_of_lt ha]
  · rw [if_neg h, if_neg Bool.false_ne_true, Nat.min_eq_left (by omega)]
def ringI : Op → Int → Int → Int
  | .plus, a, b => a + b
  | .minus, a, b => a - b
  | _, a, b => a * b
theorem valR {o : Op} (h1 : isBit o = false) (h2 : isMv o = false) (a b : Int) : valV (mergeK [] [(.inr "plus", .int (a + b)), (.inr "minus", .int (a - b)), (.inr "times", .int (a * b))]) (.inr (opW o)) = some (.int (ringI o a b)) := by
  cases o with
  | plus => rfl
  | minus => rfl
  | times => rfl
  | left => cases h2
  | right => cases h2
  | _ => cases h1
theorem ring_is {o : Op} (h1 : isBit o = false) (h2 : isMv o = false) {n a b : Nat} (hb : b < 2 ^ n) : ringI o a b % 2 ^ n = ((opV o n a b : Nat) : Int) := by
  cases o with
  | plus => show ((a : Int) + b) % 2 ^ n = (((a + b) % 2 ^ n : Nat) : Int); rw [pow_cast, Int.natCast_emod, Int.natCast_add]
  | minus => show ((a : Int) - b) % 2 ^ n = _; rw [← minus_eq hb, PySem.W.kbt_mask]
  | times => show ((a : Int) * b) % 2 ^ n = (((a * b) % 2 ^ n : Nat) : Int); rw [pow_cast, Int.natCast_emod, Int.natCast_mul]
  | left => cases h2
  | right => cases h2
  | _ => cases h1
theorem strs_dp {K : PySem.W.Frag} {H : Hp} : ∀ ws : List Str, DpAll K H (ws.map V.str) (ws.map PyData.str)
  | [] => .nil
  | w :: ws => .cons (.str w) (strs_dp ws)
theorem two_pow2 {n : Nat} (h : 1 ≤ n) : (2 : Int) ≤ 2 ^ n := by
  have := Nat.pow_le_pow_right (n := 2) (by decide) h
  rw [pow_cast]
  omega
theorem op_of_mem {x : V} (h : x ∈ deedsS.map V.str) : ∃ o, x = .str (opW o) := by
  unfold deedsS at h
  simp only [List.map_cons, List.map_nil, List.mem_cons, List.not_mem_nil, or_false] at h
  rcases h with rfl | rfl | rfl | rfl | rfl | rfl | rfl | rfl
  · exact ⟨.plus, rfl⟩
  · exact ⟨.minus, rfl⟩
  · exact ⟨.times, rfl⟩
  · exact ⟨.and, rfl⟩
  · exact ⟨.or, rfl⟩
  · exact ⟨.either, rfl⟩
  · exact ⟨.left, rfl⟩
  · exact ⟨.right, rfl⟩
theorem nat_mod {n : Nat} {z : Int} : ∃ m : Nat, z % 2 ^ n = (m : Int) ∧ m < 2 ^ n := by
  have p := pow_pos2 n
  have h0 := Int.emod_nonneg z (show (2 : Int) ^ n ≠ 0 by omega)
  have h1 := Int.emod_lt_of_pos z p
  refine ⟨(z % 2 ^ n).toNat, by omega, ?_⟩
  have e := pow_cast n
  omega
theorem rep_small {x n : Nat} (h : x < 2 ^ n) (hn : n ≤ 32) : ((x : Int)).natAbs < 2 ^ 1000 := by
  rw [Int.natAbs_natCast]
  exact Nat.lt_of_lt_of_le h (Nat.pow_le_pow_right (by decide) (by omega))
def spBad (K : PySem.W.Frag) (ws : List Str) (C : Addr) (m : Nat) : Sp := fun vs H Q E => ∃ (x : V) (d : PyData) (r : List V), vs = x :: r ∧ r.length = m ∧ Dz K H x d ∧ amongD d ws = false ∧ E (.ref C) none H
/-- a try, kept as one word -/
def tTry (K : PySem.W.Frag) (c : Value) (i : Nat) (ts : Addr → Value → Option Addr → TS) (out : WX) (tb : WX → TS) : TS := fun D σ H => tb (wAs K c i ts out D) D σ H
theorem ps_tryT {X : Cx} {st : Stmt} {K : PySem.W.Frag} {c : Value} {i : Nat} {ts : Addr → Value → Option Addr → TS} {out : WX} {tb : WX → TS} (h : PS X st (fun D σ H => tb (wAs K c i ts out D) D σ H)) : PS X st (tTry K c i ts out tb) := h
theorem rd_try {K : PySem.W.Frag} {c : Value} {i : Nat} {ts : Addr → Value → Option Addr → TS} {out : WX} {tb : WX → TS} {D : Ends} {σ : L2.St} {H : Hp} (q : tb (wAs K c i ts out D) D σ H) : tTry K c i ts out tb D σ H := q
end Bg

set_option Elab.async false
set_option linter.all false
set_option maxRecDepth 100000
set_option maxHeartbeats 400000
namespace Bg
open PySem PySem.Spec PyProof.Rows L2
/-- a method's reading by the fragment itself, whatever the suite -/
theorem pe_atK {X : Cx} {K : PySem.W.Frag} {e : Expr} {T : String} {r : V → List V → Hp → VK → Prop} {to : TE} {t : TA} (hK : X.K = K) (h : PE X e (tBM X.K T r to t)) : PE X e (tBM K T r to t) := hK ▸ h
theorem rd_bm {K : PySem.W.Frag} {T : String} {r : V → List V → Hp → VK → Prop} {to : TE} {t : TA} {σ : L2.St} {H : Hp} {Q : VK} (q : to σ H fun x H1 => tyV K T x H1 ∧ t σ H1 fun xs H2 => r x xs H2 Q) : tBM K T r to t σ H Q := q
/-! ### d.update(e) -/
def rUpd : V → List V → Hp → VK → Prop := fun x vs H Q => ∃ (d e : Addr) (kvs more : List (Key × V)), x = .ref d ∧ vs = [.ref e] ∧ d ≠ e ∧ H d = some (.dK kvs) ∧ H e = some (.dK more) ∧ kvs.length + more.length ≤ sizeLine ∧ Q .non (upd H d (.dK (mergeK kvs more)))
theorem len_put (kvs : List (Key × V)) (k : Key) (v : V) : (putK kvs k v).length ≤ kvs.length + 1 := by
  have := length_putK kvs k v
  omega
theorem len_merge (more : List (Key × V)) : ∀ kvs : List (Key × V), (mergeK kvs more).length ≤ kvs.length + more.length := by
  induction more with
  | nil => exact fun kvs => Nat.le_refl _
  | cons p ps ih =>
    intro kvs
    have h1 := ih (putK kvs p.1 p.2)
    have h2 := len_put kvs p.1 p.2
    show (mergeK (putK kvs p.1 p.2) ps).length ≤ _
    rw [List.length_cons]
    omega
theorem mt_update {X : Cx} : MtM X "dict.update" rUpd := by
  rintro pins s σ H x vs v us Q I rx rv ⟨d, e, kvs, more, rfl, rfl, ne, hd, he, hz, q⟩
  cases rx
  obtain ⟨u, rfl, ru⟩ := rv.one
  cases ru
  obtain ⟨z1, m1, w1, r1, d1⟩ := dk_of I.hok hd
  obtain ⟨z2, m2, w2, r2, d2⟩ := dk_of I.hok he
  apply call_meetsIn PySem.F.slot_dict_update d1.typeIs PySem.F.entry_dict_update (PySem.F.args_dict_update_2 _ _) (meets_dict_update (mixKind X.prog X.w) d e ne m2)
  refine ⟨w1, w2, d1, d2, by rw [← r1.length, ← r2.length]; exact hz, fun h' dd _ sb => ?_⟩
  have at_ : ∃ o, h'.get? d = some o := let ⟨o, _, _, ho, _⟩ := dd; ⟨o, ho⟩
  have le := len_merge more kvs
  exact ⟨.non, _, d_write I (by rw [hd]; exact True.intro) sb at_ (dk_new (by omega) m1 (KV.merge r2 r1) dd), rfl, q⟩
/-! ### for k in d -/
theorem for_keys {d : Addr} {ob : Obj} {kvs : List (Key × V)} {g : TG} {tb : TS} {D : Ends} {σ : L2.St} {H : Hp} (P : Nat → L2.St → Hp → Prop) (start : P 0 σ H) (lay : ∀ i σ H, P i σ H → H d = some (.frz ob (.dK kvs)))
    (turn : ∀ i k v σ H, kvs[i]? = some (k, v) → P i σ H → g (kV k) σ H fun σ2 H2 => tb { D with nx := P (i + 1), ct := P (i + 1), bk := D.nx } σ2 H2) (fin : ∀ σ H, P kvs.length σ H → D.nx σ H) :
    ∃ W : Nat → Nat → L2.St → Hp → Prop, (∃ m, W 0 m σ H) ∧ ∀ i m σ H, W i m σ H →
      (Itk d ob kvs).stop i H ∧ D.nx σ H ∨ (Itk d ob kvs).go i H ∧ ∃ N : L2.St → Hp → Prop, (∀ σ' H', N σ' H' → ∃ m', m' < m ∧ W (i + 1) m' σ' H') ∧ ∀ x H', (Itk d ob kvs).yld i H x H' → g x σ H' fun σ2 H2 => tb { D with nx := N, ct := N, bk := D.nx } σ2 H2 := by
  refine ⟨fun i m σ H => m + i = kvs.length ∧ P i σ H, ⟨kvs.length, rfl, start⟩, ?_⟩
  rintro i m σ H ⟨e, p⟩
  have l := lay i σ H p
  cases m with
  | zero =>
    have e' : i = kvs.length := by omega
    subst e'
    exact .inl ⟨⟨l, Nat.le_refl _⟩, fin σ H p⟩
  | succ m =>
    refine .inr ⟨⟨l, by omega⟩, P (i + 1), fun σ' H' p' => ⟨m, Nat.lt_succ_self m, by omega, p'⟩, ?_⟩
    rintro x H' ⟨rfl, k, v, h1, rfl⟩
    exact turn i k v σ _ h1 p
/-! ### t + u -/
section
variable {K : PySem.W.Frag} {H : Hp} {Q : VK}
theorem rd_catT {a b : Addr} {xs ys : List V} (h1 : H a = some (.tup xs)) (h2 : H b = some (.tup ys)) (n1 : xs ≠ []) (n2 : ys ≠ []) (z : xs.length + ys.length ≤ sizeLine) (q : NewAt H (.tup (xs ++ ys)) fun p H' => Q (.ref p) H') : rCatT K (.ref a) (.ref b) H Q :=
  ⟨a, b, xs, ys, rfl, rfl, SqT.of h1, SqT.of h2, n1, z, fun e => absurd e n2, fun _ p np => new_at q p np⟩
end
/-! ### the law's own table of answers -/
theorem merge_cons (kvs : List (Key × V)) (k : Key) (v : V) (r : List (Key × V)) : mergeK kvs ((k, v) :: r) = mergeK (putK kvs k v) r := rfl
theorem merge_nil (kvs : List (Key × V)) : mergeK kvs [] = kvs := rfl
theorem val_hit {kvs : List (Key × V)} {j k : Key} {y : V} (h : j = k) : valV (putK kvs k y) j = some y := by rw [valV_put, if_pos h]
theorem val_miss {kvs : List (Key × V)} {j k : Key} {y : V} {r : Option V} (h : decide (j = k) = false) (q : valV kvs j = r) : valV (putK kvs k y) j = r := by rw [valV_put, if_neg (of_decide_eq_false h)]; exact q
theorem val12 (k : Ak) (c : Bool) (f : Ak → Bool → Bool) :
    valV (mergeK (mergeK (mergeK (mergeK [] [(.inr "same", .bl (f .same false)), (.inr "under", .bl (f .under false)), (.inr "upto", .bl (f .upto false)), (.inr "below", .bl (f .below false))])
      [(.inr "least", .bl (f .least false)), (.inr "bits", .bl (f .bits false))])
      [(.inr "unlike", .bl (f .same true)), (.inr "over", .bl (f .upto true)), (.inr "from", .bl (f .under true)), (.inr "above", .bl (f .least true))])
      [(.inr "notbelow", .bl (f .below true)), (.inr "nobits", .bl (f .bits true))]) (.inr (akS k c)) = some (.bl (f k c)) := by
  simp only [merge_cons, merge_nil]
  cases k <;> cases c <;> repeat (first | refine val_miss (by decide) ?_ | exact val_hit (of_decide_eq_true (by decide)))
theorem valBits (x0 x1 x2 x3 x4 x5 x6 x7 x8 x9 : V) :
    valV (mergeK (mergeK (mergeK [] [((.inr "same" : Key), x0), (.inr "under", x1), (.inr "upto", x2), (.inr "below", x3)]) [(.inr "least", x4), (.inr "bits", x5)]) [(.inr "unlike", x6), (.inr "over", x7), (.inr "from", x8), (.inr "above", x9)]) (.inr "bits") = some x5 := by
  simp only [merge_cons, merge_nil]
  repeat (first | refine val_miss (by decide) ?_ | exact val_hit (of_decide_eq_true (by decide)))
/-- the law's own sign -/
theorem sgn_law {a n : Nat} (n1 : 1 ≤ n) : (if (2 : Int) ^ n ≤ 2 * (a : Int) then (a : Int) - 2 ^ n else (a : Int)) = sgnI a n := by
  obtain ⟨m, rfl⟩ : ∃ m, n = m + 1 := ⟨n - 1, by omega⟩
  unfold sgnI
  rw [Nat.add_sub_cancel]
  have e2 : (2 : Int) ^ (m + 1) = 2 * ((2 ^ m : Nat) : Int) := by rw [Int.pow_succ, pow_cast, Int.mul_comm]
  rw [e2]
  by_cases h : a < 2 ^ m
  · rw [if_pos h, if_neg (by omega)]
  · rw [if_neg h, if_pos (by omega)]
theorem ak_of_mem {x : V} (h : x ∈ asksS.map V.str) : ∃ k c, x = .str (akS k c) := by
  unfold asksS at h
  simp only [List.map_cons, List.map_nil, List.mem_cons, List.not_mem_nil, or_false] at h
  rcases h with rfl | rfl | rfl | rfl | rfl | rfl | rfl | rfl | rfl | rfl | rfl | rfl
  · exact ⟨.same, false, rfl⟩
  · exact ⟨.under, false, rfl⟩
  · exact ⟨.upto, false, rfl⟩
  · exact ⟨.below, false, rfl⟩
  · exact ⟨.least, false, rfl⟩
  · exact ⟨.bits, false, rfl⟩
  · exact ⟨.same, true, rfl⟩
  · exact ⟨.upto, true, rfl⟩
  · exact ⟨.under, true, rfl⟩
  · exact ⟨.least, true, rfl⟩
  · exact ⟨.below, true, rfl⟩
  · exact ⟨.bits, true, rfl⟩
/-- the answers, as the law writes them -/
def ansV (n a b : Nat) : Ak → Bool → Bool
  | .same, false => decide (V.int (a : Int) = V.int (b : Int))
  | .same, true => !decide (V.int (a : Int) = V.int (b : Int))
  | .under, false => decide ((a : Int) < b)
  | .under, true => decide ((b : Int) ≤ a)
  | .upto, false => decide ((a : Int) ≤ b)
  | .upto, true => decide ((b : Int) < a)
  | .below, false => decide (sgnI a n < sgnI b n)
  | .below, true => decide (sgnI b n ≤ sgnI a n)
  | .least, false => decide (sgnI a n ≤ sgnI b n)
  | .least, true => decide (sgnI b n < sgnI a n)
  | .bits, false => decide ((0 : Int) < ((opV .and n a b : Nat) : Int))
  | .bits, true => !decide ((0 : Int) < ((opV .and n a b : Nat) : Int))
theorem dec_not_le {a b : Int} : decide (b ≤ a) = !decide (a < b) := by
  by_cases h : a < b
  · rw [decide_eq_true h, decide_eq_false (by omega)]; rfl
  · rw [decide_eq_false h, decide_eq_true (by omega)]; rfl
theorem dec_not_lt {a b : Int} : decide (b < a) = !decide (a ≤ b) := by
  by_cases h : a ≤ b
  · rw [decide_eq_true h, decide_eq_false (by omega)]; rfl
  · rw [decide_eq_false h, decide_eq_true (by omega)]; rfl
theorem ans_is (n a b : Nat) (k : Ak) (c : Bool) : ansV n a b k c = akV k c n a b := by
  have e0 : decide (V.int (a : Int) = V.int (b : Int)) = decide (a = b) := by
    by_cases h : a = b
    · subst h; simp
    · rw [decide_eq_false h, decide_eq_false (fun z => h (by have := V.int.inj z; omega))]
  have e1 : decide ((a : Int) < b) = decide (a < b) := by
    by_cases h : a < b
    · rw [decide_eq_true h, decide_eq_true (by omega)]
    · rw [decide_eq_false h, decide_eq_false (by omega)]
  have e2 : decide ((a : Int) ≤ b) = decide (a ≤ b) := by
    by_cases h : a ≤ b
    · rw [decide_eq_true h, decide_eq_true (by omega)]
    · rw [decide_eq_false h, decide_eq_false (by omega)]
  have e3 : decide ((0 : Int) < ((opV .and n a b : Nat) : Int)) = !decide (a &&& b = 0) := by
    show decide ((0 : Int) < ((a &&& b : Nat) : Int)) = _
    by_cases h : a &&& b = 0
    · rw [decide_eq_true h, h]; rfl
    · rw [decide_eq_false h, decide_eq_true (by omega)]; rfl
  unfold akV
  cases k <;> cases c
  · exact e0
  · exact congrArg not e0
  · exact e1
  · exact dec_not_le.trans (congrArg not e1)
  · exact e2
  · exact dec_not_lt.trans (congrArg not e2)
  · rfl
  · exact dec_not_le
  · rfl
  · exact dec_not_lt
  · exact e3
  · exact congrArg not e3
theorem put_new {kvs : List (Key × V)} {k : Key} {v : V} (h : (kvs.any fun kv => decide (kv.1 = k)) = false) : putK kvs k v = kvs ++ [(k, v)] := by
  unfold putK
  rw [if_neg (by rw [h]; exact Bool.false_ne_true)]
theorem any1 {k k' : Key} {v : V} {r : List (Key × V)} (h : decide (k = k') = false) (q : (r.any fun kv => decide (kv.1 = k')) = false) : (((k, v) :: r).any fun kv => decide (kv.1 = k')) = false := by
  rw [List.any_cons, q, Bool.or_false]
  exact h
theorem merge_two {k1 k2 : Key} {x y : V} (h : decide (k1 = k2) = false) : mergeK [] [(k1, x), (k2, y)] = [(k1, x), (k2, y)] := by
  rw [merge_cons, put_new rfl, List.nil_append, merge_cons, put_new (any1 h rfl), merge_nil]
  rfl
theorem merge_four {k1 k2 k3 k4 : Key} {x y z u : V} (h12 : decide (k1 = k2) = false) (h13 : decide (k1 = k3) = false) (h14 : decide (k1 = k4) = false) (h23 : decide (k2 = k3) = false) (h24 : decide (k2 = k4) = false) (h34 : decide (k3 = k4) = false) :
    mergeK [] [(k1, x), (k2, y), (k3, z), (k4, u)] = [(k1, x), (k2, y), (k3, z), (k4, u)] := by
  have e1 : ∀ (p q : Key × V), [p] ++ [q] = [p, q] := fun _ _ => rfl
  have e2 : ∀ (p q r : Key × V), [p, q] ++ [r] = [p, q, r] := fun _ _ _ => rfl
  rw [merge_cons, put_new rfl, List.nil_append, merge_cons, put_new (any1 h12 rfl), e1, merge_cons, put_new (any1 h13 (any1 h23 rfl)), e2, merge_cons, put_new (any1 h14 (any1 h24 (any1 h34 rfl))), merge_nil]
  rfl
/-! ### the law's own pairs -/
def pairsL : List (Key × V) := [(.inr "same", .str "unlike"), (.inr "under", .str "from"), (.inr "upto", .str "over"), (.inr "below", .str "notbelow"), (.inr "least", .str "above"), (.inr "bits", .str "nobits")]
theorem pairs_merge : mergeK [] pairsL = pairsL := by
  unfold pairsL
  have e1 : ∀ (p q : Key × V), [p] ++ [q] = [p, q] := fun _ _ => rfl
  have e2 : ∀ (p q r : Key × V), [p, q] ++ [r] = [p, q, r] := fun _ _ _ => rfl
  have e3 : ∀ (p q r u : Key × V), [p, q, r] ++ [u] = [p, q, r, u] := fun _ _ _ _ => rfl
  have e4 : ∀ (p q r u v : Key × V), [p, q, r, u] ++ [v] = [p, q, r, u, v] := fun _ _ _ _ _ => rfl
  rw [merge_cons, put_new rfl, List.nil_append, merge_cons, put_new (any1 (by decide) rfl), e1, merge_cons, put_new (any1 (by decide) (any1 (by decide) rfl)), e2, merge_cons, put_new (any1 (by decide) (any1 (by decide) (any1 (by decide) rfl))), e3,
    merge_cons, put_new (any1 (by decide) (any1 (by decide) (any1 (by decide) (any1 (by decide) rfl)))), e4, merge_cons, put_new (any1 (by decide) (any1 (by decide) (any1 (by decide) (any1 (by decide) (any1 (by decide) rfl))))), merge_nil]
  rfl
theorem pairs_at {i : Nat} {k : Key} {v : V} (h : pairsL[i]? = some (k, v)) : ∃ q : Ak, k = .inr (akW q) ∧ v = .str (akC q) ∧ valV pairsL k = some v := by
  match i, h with
  | 0, h => obtain ⟨rfl, rfl⟩ := Prod.mk.inj (Option.some.inj h); exact ⟨.same, rfl, rfl, valV_pos (of_decide_eq_true (by decide))⟩
  | 1, h => obtain ⟨rfl, rfl⟩ := Prod.mk.inj (Option.some.inj h); exact ⟨.under, rfl, rfl, (valV_neg (of_decide_eq_false (by decide))).trans (valV_pos (of_decide_eq_true (by decide)))⟩
  | 2, h => obtain ⟨rfl, rfl⟩ := Prod.mk.inj (Option.some.inj h); exact ⟨.upto, rfl, rfl, (valV_neg (of_decide_eq_false (by decide))).trans ((valV_neg (of_decide_eq_false (by decide))).trans (valV_pos (of_decide_eq_true (by decide))))⟩
  | 3, h => obtain ⟨rfl, rfl⟩ := Prod.mk.inj (Option.some.inj h); exact ⟨.below, rfl, rfl, (valV_neg (of_decide_eq_false (by decide))).trans ((valV_neg (of_decide_eq_false (by decide))).trans ((valV_neg (of_decide_eq_false (by decide))).trans (valV_pos (of_decide_eq_true (by decide)))))⟩
  | 4, h => obtain ⟨rfl, rfl⟩ := Prod.mk.inj (Option.some.inj h); exact ⟨.least, rfl, rfl, (valV_neg (of_decide_eq_false (by decide))).trans ((valV_neg (of_decide_eq_false (by decide))).trans ((valV_neg (of_decide_eq_false (by decide))).trans ((valV_neg (of_decide_eq_false (by decide))).trans (valV_pos (of_decide_eq_true (by decide))))))⟩
  | 5, h => obtain ⟨rfl, rfl⟩ := Prod.mk.inj (Option.some.inj h); exact ⟨.bits, rfl, rfl, (valV_neg (of_decide_eq_false (by decide))).trans ((valV_neg (of_decide_eq_false (by decide))).trans ((valV_neg (of_decide_eq_false (by decide))).trans ((valV_neg (of_decide_eq_false (by decide))).trans ((valV_neg (of_decide_eq_false (by decide))).trans (valV_pos (of_decide_eq_true (by decide)))))))⟩
  | n + 6, h => cases h
theorem rd_lock {t : TS} {D : Ends} {σ : L2.St} {H : Hp} {d : Addr} {u : HO} (h : H d = some u) (m : Mut (some u)) (q : ∀ od, t ⟨fun σ' H' => H' d = some (.frz od u) ∧ D.nx σ' (upd H' d u), fun v H' => H' d = some (.frz od u) ∧ D.rt v (upd H' d u), fun σ' H' => H' d = some (.frz od u) ∧ D.bk σ' (upd H' d u), fun σ' H' => H' d = some (.frz od u) ∧ D.ct σ' (upd H' d u)⟩ σ (upd H d (.frz od u))) : tLock t D σ H := ⟨d, u, h, m, q⟩
theorem rp_bls {K : PySem.W.Frag} {H : Hp} {p : Addr} {x y : Bool} (h : H p = some (.lst [.bl x, .bl y])) : Rp K H (.ref p) (PyData.list [.bool x, .bool y]).shown :=
  .dat (.lst (SqL.of h) (.cons (.bl _) (.cons (.bl _) .nil))) ((ShAll.lst (k := 0) (n := 10 + 2 + (10 + 2 + 0)) (.cons (Sh.bl x) (.cons (Sh.bl y) .nil))).mono (by decide) (by decide))
theorem ak_not (k : Ak) (c : Bool) (n a b : Nat) : akV k (!c) n a b = !akV k c n a b := by
  cases c with
  | false => rfl
  | true => exact (Bool.not_not _).symm
end Bg

set_option Elab.async false
set_option linter.all false
set_option maxRecDepth 100000
set_option maxHeartbeats 400000
namespace Bg
open PySem PySem.Spec PyProof.Rows L2
/-! ### a refusal that was caught and is kept -/
/-- an exception object of the class cls at a, without fields of its own -/
def ExT (cls : Value) (a : Addr) : HO := .ext fun h => ∃ (oe : Obj) (vs : Array Value), h.get? a = some oe ∧ Zc cls none oe ∧ oe.data = .fields vs
theorem exT_ok {P : Program} {w : World} {H : Hp} {h : Heap} {a : Addr} {cls : Value} {oe : Obj} {vs : Array Value} (e : h.get? a = some oe) (z : Zc cls none oe) (d : oe.data = .fields vs) : ObjOk P w H h a (ExT cls a) :=
  ⟨⟨oe, vs, e, z, d⟩, ⟨oe, e⟩, fun _ _ ⟨o, v, p, q, r⟩ k => ⟨o, v, k _ p, q, r⟩⟩
section
variable {X : Cx} {pins : List (Addr × Obj)} {σ : L2.St} {H : Hp} {s : Shared}
theorem track {a : Addr} {oe : Obj} {vs : Array Value} {cls : Value} (I : Inv X pins σ H s) (he : s.heap.get? a = some oe) (hz : Zc cls none oe) (hd : oe.data = .fields vs) (na : H a = none)
    (n0 : X.s_0.heap.get? a = none) (nL : a ≠ X.env.locals) (np : ∀ p ∈ X.pn ++ pins, p.1 ≠ a) : Inv X pins σ (upd H a (ExT cls a)) s where
  ok := I.ok
  os := I.os
  bare := I.bare
  base :=
    { keep := I.base.keep
      slot := I.base.slot
      there := I.base.there
      free := fun b o q n x => by
        have ne : b ≠ a := fun z => by rw [z, n0] at q; cases q
        rw [upd_ne ne]
        exact I.base.free b o q n x
      tups := fun b xs q => by
        have e := I.base.tups b xs q
        rw [upd_ne (ne_of_none e na)]
        exact e
      frzs := fun b o u q => by
        have e := I.base.frzs b o u q
        rw [upd_ne (ne_of_none e na)]
        exact e
      tbls := fun b ps q => by
        obtain ⟨m, e⟩ := I.base.tbls b ps q
        exact ⟨m, by rw [upd_ne (ne_of_none e na)]; exact e⟩ }
  loc := I.loc
  cell := I.cell
  free := by rw [upd_ne nL.symm]; exact I.free
  freeC := fun x c l => by
    have ne : c ≠ a := fun z => by
      subst z
      obtain ⟨v, o, q, r⟩ := I.cell x c l
      rw [he] at q
      cases q
      rw [hd] at r
      cases r
    rw [upd_ne ne]
    exact I.freeC x c l
  pin := fun p hp => by
    obtain ⟨h1, h2, h3⟩ := I.pin p hp
    exact ⟨h1, by rw [upd_ne (np p hp)]; exact h2, h3⟩
  hok := I.hok.laidN (fun _ _ q => q) na (exT_ok he hz hd)
  len := I.len
theorem toSuite (I : Inv X pins σ H s) (a : Addr) : Inv (X.suite a (X.pn ++ pins)) [] σ H s where
  ok := I.ok.suite _ _
  os := I.os
  bare := I.bare
  base := I.base
  loc := I.loc
  cell := I.cell
  free := I.free
  freeC := I.freeC
  pin := fun p hp => I.pin p (by rw [List.append_nil] at hp; exact hp)
  hok := I.hok
  len := I.len
theorem ofSuite {a : Addr} (ok : X.Ok) (I : Inv (X.suite a (X.pn ++ pins)) [] σ H s) : Inv X pins σ H s where
  ok := ok
  os := I.os
  bare := I.bare
  base := I.base
  loc := I.loc
  cell := I.cell
  free := I.free
  freeC := I.freeC
  pin := fun p hp => I.pin p (by rw [List.append_nil]; exact hp)
  hok := I.hok
  len := I.len
end
/-- the ends of a clause's suite, whose name (slot i) goes behind it -/
def endsOf (i : Nat) (D : Ends) : Ends := { nx := fun σ H => D.nx (σ.set i none) H, rt := D.rt, bk := fun σ H => D.bk (σ.set i none) H, ct := fun σ H => D.ct (σ.set i none) H }
/-- what 'except x as n' wishes of what the body lets out, where all of it is the clause's; the object is tracked from then on -/
def wKeep (K : PySem.W.Frag) (c : Value) (i : Nat) (ts : Addr → TS) (D : Ends) : WX := fun cls d σ H =>
  PySem.W.exmOne K cls c = some true ∧ d = none ∧ ∀ a, H a = none → ts a (endsOf i D) (σ.set i (some (.ref a))) (upd H a (ExT cls a))
def tKeep (K : PySem.W.Frag) (c : Value) (i : Nat) (ts : Addr → TS) (tb : WX → TS) : TS := fun D σ H => tb (wKeep K c i ts D) D σ H
/-- the way of an exception u out of a try's body into its clauses -/
def landing (X : Cx) (hs : List ExceptHandler) (R : Flow → Shared → Prop) (u : Value) (s1 : Shared) : Prop :=
  wpAny (model X.prog X.w) X.A (noteFrame u X.env) (fun _ s2 => wpAny (model X.prog X.w) X.A (setFlight u none)
    (fun _ s3 => wpAny (model X.prog X.w) X.A (handleBy u X.env hs) R X.xe s3) X.xe s2) X.xe s1
section
variable {X : Cx} {x n : Str} {c : Value} {i : Nat} {body suite : List Stmt} {b0 : Stmt} {np pos pos' : Pos} {tb : WX → TS} {ts : Addr → TS}
theorem ps_try_keep (stk : X.stack = X.env :: X.outer) (frm : X.env.frame = some X.env.locals) (noex : X.ex = []) (nd : X.N.Nodup) (at_ : X.N[i]? = some n) (loc : X.env.kindOf n = some .local) (nm : Names X x c)
    (hb : ∀ (W : WX) (pn : List (Addr × Obj)) (xe : Value → Shared → Prop), Takes (X.tr pn xe) W → PassesOwn (model X.prog X.w) X.A X.env xe → PSs (X.tr pn xe) body (tb W))
    (hsu : ∀ (a : Addr) (pn : List (Addr × Obj)), PSs (X.suite a pn) (b0 :: suite) (ts a)) :
    PS X (.Try body [.ExceptHandler (some (.Name x np)) (some n) (b0 :: suite) pos'] [] [] pos) (tKeep X.K c i ts tb) := by
  constructor
  intro pins s σ H D I h
  have ok := I.ok
  have frames : X.A.frames = some (X.env :: X.outer) := by rw [ok.frames, stk]
  apply wpAny_Try_except
  have run := (hb (wKeep X.K c i ts D) (X.pn ++ pins) (landing X [.ExceptHandler (some (.Name x np)) (some n) (b0 :: suite) pos'] (SP X pins D)) ?takes PassesOwn.looking).run [] s σ H D (I.toTry _) h
  case takes =>
    rintro u s' ⟨a, B, sI, pins', σ', H', cls, d, rfl, J0, ground, up, sky, na, os, ag, hm, rfl, hyes⟩
    have J : Inv X pins σ' H' sI := J0.ofTry ok
    have sky' : Sky B (X.env :: X.outer) a (Zc cls none) X.env.locals s'.heap := stk ▸ sky
    apply Sky.land Zc.steady frames frm sky'
    intro h3 fl3 up3
    have apart : ∀ {g : Heap}, HandSPX.FlyingZ B (X.env :: X.outer) a (Zc cls none) g → a ∉ frs (X.env :: X.outer) := by
      intro g fl hmem
      obtain ⟨o, vs, q, _, r⟩ := fl.there
      obtain ⟨_, o', q', r'⟩ := fl.2.2.1.mem hmem
      rw [q] at q'
      cases q'
      exact r' vs r
    have nfr := apart fl3
    have gone : ∀ o, sI.heap.get? a ≠ some o := fun o q => by
      have z := ground a o q (show a ∉ frs X.stack by rw [stk]; exact nfr)
      rw [fl3.2.1] at z
      cases z
    have J3 : Inv X pins σ' H' { s' with heap := h3 } := J.landed ground fl3.1 (up.trans up3) os ag
    have S3 := toSuite J3 a
    obtain ⟨o3, v3, q3, z3, _⟩ := fl3.there
    refine wpAny_handleBy_cons (codeAny_handlers_test ?_) (fun z => by cases z)
    have kind : PySem.W.Looks (model X.prog X.w) h3 (typeOf (.ref a)) cls := fun _ _ _ _ k q => wpAny_typeOf_ref (k _ _ q3) (by rw [z3.1]; exact q)
    have hit := PySem.W.exm_one (M := model X.prog X.w) J3.kIn kind hm
    have name : ∀ {Q : Value → Shared → Prop} {E : Value → Shared → Prop}, Q c { s' with heap := h3 } → wpAny (model X.prog X.w) (X.A.mark (some (.ref a))) (eval (.Name x np) X.env) Q E { s' with heap := h3 } := by
      intro Q E q
      rcases nm with ⟨g, dbg, m | ⟨m, v, nn⟩⟩
      · exact ld_glob (X := X.suite a (X.pn ++ pins)) S3 g m q dbg
      · exact ld_blt (X := X.suite a (X.pn ++ pins)) S3 g m v q nn dbg
    apply name
    apply hit.here
    apply codeAny_handlers_suite_as
    apply HandSPX.lands_againZ fl3
    intro h4 fl4 up4
    have J4 : Inv X pins σ' H' { s' with heap := h4 } := J.landed ground fl4.1 ((up.trans up3).trans up4) os ag
    obtain ⟨o4, v4, q4, z4, r4⟩ := fl4.there
    have new0 : X.s_0.heap.get? a = none := by
      cases e : X.s_0.heap.get? a with
      | none => rfl
      | some o =>
        obtain ⟨o', e'⟩ := J.base.there a o e (by rw [noex]; exact fun z => nomatch z)
        exact absurd e' (gone o')
    have nloc : a ≠ X.env.locals := fun z => nfr (List.mem_filterMap.mpr ⟨X.env, List.mem_cons_self, by rw [frm, z]⟩)
    have npin : ∀ p ∈ X.pn ++ pins, p.1 ≠ a := fun p hp z => gone p.2 (z ▸ (J.pin p hp).1)
    have T4 := toSuite (track J4 q4 z4 r4 na new0 nloc npin) a
    apply store_ok (X := X.suite a (X.pn ++ pins)) (v := .ref a) T4 nd at_ (.inl loc) rfl _ (.inr loc)
    intro s5 S5
    apply wpAny_mono ((hsu a (X.pn ++ pins)).run [] s5 _ _ _ S5 (hyes a na)) _ (fun _ _ z => z.elim)
    have close : ∀ {σ6 : L2.St} {H6 : Hp} {s6 : Shared} {Q : Shared → Prop}, Inv (X.suite a (X.pn ++ pins)) [] σ6 H6 s6 → (∀ s7, Inv X pins (σ6.set i none) H6 s7 → Q s7) →
        wpAny (model X.prog X.w) X.A (do bindName X.env n .none; unbindBehindTheSuite X.env n pos') (fun _ s7 => Q s7) X.xe s6 :=
      fun S6 q => gone_ok (ofSuite ok S6) nd at_ loc q
    intro fl s6 post
    cases fl with
    | ret u => let ⟨_, _, _, S6, r, q⟩ := post; exact close S6 fun _ J7 => ⟨_, _, _, J7, r, q⟩
    | next => let ⟨_, _, S6, q⟩ := post; exact close S6 fun _ J7 => ⟨_, _, J7, q⟩
    | brk => let ⟨_, _, S6, q⟩ := post; exact close S6 fun _ J7 => ⟨_, _, J7, q⟩
    | cont => let ⟨_, _, S6, q⟩ := post; exact close S6 fun _ J7 => ⟨_, _, J7, q⟩
  apply wpAny_mono run _ (fun _ _ z => z)
  intro fl s1 post
  cases fl with
  | ret u => let ⟨_, _, _, S6, r, q⟩ := post; exact ⟨_, _, _, S6.ofTry ok, r, q⟩
  | next => let ⟨_, _, S6, q⟩ := post; exact wpAny_execs_nil ⟨_, _, S6.ofTry ok, q⟩
  | brk => let ⟨_, _, S6, q⟩ := post; exact ⟨_, _, S6.ofTry ok, q⟩
  | cont => let ⟨_, _, S6, q⟩ := post; exact ⟨_, _, S6.ofTry ok, q⟩
end
theorem rd_keep {K : PySem.W.Frag} {c : Value} {i : Nat} {ts : Addr → TS} {tb : WX → TS} {D : Ends} {σ : L2.St} {H : Hp} (q : tb (wKeep K c i ts D) D σ H) : tKeep K c i ts tb D σ H := q
theorem rd_ends {i : Nat} {D : Ends} {σ : L2.St} {H : Hp} (q : D.nx (σ.set i none) H) : (endsOf i D).nx σ H := q
/-- isinstance(x, c), x a tracked exception -/
def rIsX (K : PySem.W.Frag) : List V → Hp → VK → Prop := fun xs H Q => ∃ (a D : Addr) (c : V) (cv : Value) (b : Bool), xs = [.ref a, c] ∧ H a = some (ExT (.ref D) a) ∧ ExcC K D ∧ ClsV c cv ∧ PySem.W.kitOne K (.ref D) cv = some b ∧ Q (.bl b) H
theorem call_isX {X : Cx} : CallR X (.builtin "isinstance") (rIsX X.K) := by
  rintro pins s σ H xs us Q I r ⟨a, D, c, cv, b, rfl, hH, C, k, e, q⟩
  obtain ⟨u1, u2, rfl, r1, r2⟩ := vals2 r
  cases (show u1 = Value.ref a from r1)
  cases k.eq r2
  have ob : ObjOk X.prog X.w H s.heap a (ExT (.ref D) a) := I.hok a _ hH
  obtain ⟨⟨oe, vs, hget, hz, hv⟩, _, _⟩ := ob
  have J : PySem.W.InstAt s.heap a oe D none := by
    cases oe with
    | mk o1 o2 o3 o4 =>
      cases hz.1
      cases hz.2
      cases (show o3 = _ from hv)
      exact ⟨hget, rfl, rfl, trivial⟩
  exact PySem.W.kia_one (PySem.W.handS_kitx_exc C.hg C.hk C.hs C.hd C.ha C.hn C.ht C.hm) I.kIn J e (fun z => nomatch z) fun tk => ⟨.bl b, H, I.tok tk, rfl, q⟩
end Bg

set_option Elab.async false
set_option linter.all false
set_option maxRecDepth 100000
set_option maxHeartbeats 400000
namespace Bg
open PySem PySem.Spec PyProof.Rows
/-! ### bits of whole numbers of any sign -/
/-- a bit of a whole number, in two's complement -/
def ib (x : Int) (i : Nat) : Bool := decide (x / 2 ^ i % 2 = 1)
theorem ib_zero (x : Int) : ib x 0 = decide (x % 2 = 1) := by
  unfold ib
  rw [Int.pow_zero, Int.ediv_one]
theorem ib_succ (x : Int) (i : Nat) : ib x (i + 1) = ib (x / 2) i := by
  unfold ib
  rw [Int.pow_succ, Int.mul_comm, Int.ediv_ediv_of_nonneg (show (0 : Int) ≤ 2 by decide)]
theorem and_half (x y : Int) : Builtin.bitAnd x y / 2 = Builtin.bitAnd (x / 2) (y / 2) := by
  have h := PySem.W.kbt_halves x y
  split at h <;> omega
theorem ib_and (i : Nat) : ∀ x y : Int, ib (Builtin.bitAnd x y) i = (ib x i && ib y i) := by
  induction i with
  | zero =>
    intro x y
    rw [ib_zero, ib_zero, ib_zero]
    have h := PySem.W.kbt_halves x y
    split at h
    · rename_i c
      rw [decide_eq_true c.1, decide_eq_true c.2, decide_eq_true (by omega)]
      rfl
    · rename_i c
      rw [decide_eq_false (by omega)]
      by_cases a : x % 2 = 1
      · rw [decide_eq_false (fun b => c ⟨a, b⟩), Bool.and_false]
      · rw [decide_eq_false a, Bool.false_and]
  | succ i ih =>
    intro x y
    rw [ib_succ, ib_succ, ib_succ, and_half, ih]
theorem xor_half (x y : Int) : Builtin.bitXor x y / 2 = Builtin.bitXor (x / 2) (y / 2) := by
  have h := PySem.W.kbt_halves x y
  rw [bitXor_and, bitXor_and]
  split at h <;> omega
theorem ib_xor (i : Nat) : ∀ x y : Int, ib (Builtin.bitXor x y) i = (ib x i ^^ ib y i) := by
  induction i with
  | zero =>
    intro x y
    rw [ib_zero, ib_zero, ib_zero, bitXor_and]
    by_cases a : x % 2 = 1 <;> by_cases b : y % 2 = 1
    · rw [decide_eq_true a, decide_eq_true b, decide_eq_false (by omega)]; rfl
    · rw [decide_eq_true a, decide_eq_false b, decide_eq_true (by omega)]; rfl
    · rw [decide_eq_false a, decide_eq_true b, decide_eq_true (by omega)]; rfl
    · rw [decide_eq_false a, decide_eq_false b, decide_eq_false (by omega)]; rfl
  | succ i ih =>
    intro x y
    rw [ib_succ, ib_succ, ib_succ, xor_half, ih]
theorem ib_not (i : Nat) : ∀ x : Int, ib (Builtin.bitNot x) i = !ib x i := by
  induction i with
  | zero =>
    intro x
    rw [ib_zero, ib_zero, PySem.W.kbt_not]
    by_cases a : x % 2 = 1
    · rw [decide_eq_true a, decide_eq_false (by omega)]; rfl
    · rw [decide_eq_false a, decide_eq_true (by omega)]; rfl
  | succ i ih =>
    intro x
    rw [ib_succ, ib_succ, ← ih, PySem.W.kbt_not, PySem.W.kbt_not]
    congr 1
    omega
theorem or_not (x y : Int) : Builtin.bitOr x y = Builtin.bitNot (Builtin.bitAnd (Builtin.bitNot x) (Builtin.bitNot y)) := rfl
theorem ib_or (i : Nat) (x y : Int) : ib (Builtin.bitOr x y) i = (ib x i || ib y i) := by
  rw [or_not, ib_not, ib_and, ib_not, ib_not, Bool.not_and, Bool.not_not, Bool.not_not]
theorem ib_nat (a i : Nat) : ib (a : Int) i = a.testBit i := by
  unfold ib
  rw [Nat.testBit_eq_decide_div_mod_eq]
  have e : (a : Int) / 2 ^ i % 2 = ((a / 2 ^ i % 2 : Nat) : Int) := by
    rw [Int.natCast_emod, Int.natCast_ediv, Int.natCast_pow]; rfl
  rw [e]
  by_cases h : a / 2 ^ i % 2 = 1
  · rw [decide_eq_true h, decide_eq_true (by omega)]
  · rw [decide_eq_false h, decide_eq_false (by omega)]
theorem ib_mask (x : Int) (n i : Nat) : ib (x % 2 ^ n) i = (decide (i < n) && ib x i) := by
  rw [← PySem.W.kbt_mask, ib_and]
  have e : (2 : Int) ^ n - 1 = ((2 ^ n - 1 : Nat) : Int) := by
    have := Nat.two_pow_pos n
    have h : ((2 ^ n : Nat) : Int) = (2 : Int) ^ n := by rw [Int.natCast_pow]; rfl
    omega
  rw [e, ib_nat, Nat.testBit_two_pow_sub_one, Bool.and_comm]
/-- a whole number below a power is told by its bits -/
theorem mask_nat {x : Int} {n m : Nat} (h : ∀ i, m.testBit i = (decide (i < n) && ib x i)) : x % 2 ^ n = (m : Int) := by
  have p : (0 : Int) < 2 ^ n := Int.pow_pos (by decide)
  have h0 := Int.emod_nonneg x (show (2 : Int) ^ n ≠ 0 by omega)
  obtain ⟨k, hk⟩ : ∃ k : Nat, x % 2 ^ n = (k : Int) := ⟨(x % 2 ^ n).toNat, by omega⟩
  rw [hk]
  congr 1
  apply Nat.eq_of_testBit_eq
  intro i
  rw [h i, ← ib_nat, ← hk, ib_mask]
/-! ### carries and borrows -/
def maj (a b c : Bool) : Bool := (a && b) || (a && c) || (b && c)
def car (x y : Int) : Nat → Bool
  | 0 => false
  | i + 1 => maj (ib x i) (ib y i) (car x y i)
def bor (x y : Int) : Nat → Bool
  | 0 => false
  | i + 1 => maj (!ib x i) (ib y i) (bor x y i)
def b2 (b : Bool) : Int := if b = true then 1 else 0
theorem ib_b2 (x : Int) (i : Nat) : x / 2 ^ i % 2 = b2 (ib x i) := by
  unfold b2 ib
  by_cases h : x / 2 ^ i % 2 = 1
  · rw [decide_eq_true h, h]; rfl
  · rw [decide_eq_false h, if_neg Bool.false_ne_true]; omega
theorem div_succ (x : Int) (i : Nat) : x / 2 ^ (i + 1) = x / 2 ^ i / 2 := by
  have p : (0 : Int) ≤ 2 ^ i := Int.le_of_lt (Int.pow_pos (by decide))
  rw [Int.pow_succ, Int.ediv_ediv_of_nonneg p]
theorem add_div (x y : Int) (i : Nat) : (x + y) / 2 ^ i = x / 2 ^ i + y / 2 ^ i + b2 (car x y i) := by
  induction i with
  | zero => rw [Int.pow_zero, Int.ediv_one, Int.ediv_one, Int.ediv_one]; show _ = x + y + 0; omega
  | succ i ih =>
    rw [div_succ, div_succ, div_succ, ih]
    have hx := ib_b2 x i
    have hy := ib_b2 y i
    show _ = _ + _ + b2 (maj (ib x i) (ib y i) (car x y i))
    revert hx hy
    cases ib x i <;> cases ib y i <;> cases car x y i <;> simp only [b2, maj] <;> simp <;> omega
theorem sub_div (x y : Int) (i : Nat) : (x - y) / 2 ^ i = x / 2 ^ i - y / 2 ^ i - b2 (bor x y i) := by
  induction i with
  | zero => rw [Int.pow_zero, Int.ediv_one, Int.ediv_one, Int.ediv_one]; show _ = x - y - 0; omega
  | succ i ih =>
    rw [div_succ, div_succ, div_succ, ih]
    have hx := ib_b2 x i
    have hy := ib_b2 y i
    show _ = _ - _ - b2 (maj (!ib x i) (ib y i) (bor x y i))
    revert hx hy
    cases ib x i <;> cases ib y i <;> cases bor x y i <;> simp only [b2, maj] <;> simp <;> omega
theorem ib_add (x y : Int) (i : Nat) : ib (x + y) i = (ib x i ^^ ib y i ^^ car x y i) := by
  have h := add_div x y i
  have hx := ib_b2 x i
  have hy := ib_b2 y i
  have hs := ib_b2 (x + y) i
  rw [h] at hs
  revert hx hy hs
  cases ib x i <;> cases ib y i <;> cases car x y i <;> cases ib (x + y) i <;> simp only [b2] <;> simp <;> omega
theorem ib_sub (x y : Int) (i : Nat) : ib (x - y) i = (ib x i ^^ ib y i ^^ bor x y i) := by
  have h := sub_div x y i
  have hx := ib_b2 x i
  have hy := ib_b2 y i
  have hs := ib_b2 (x - y) i
  rw [h] at hs
  revert hx hy hs
  cases ib x i <;> cases ib y i <;> cases bor x y i <;> cases ib (x - y) i <;> simp only [b2] <;> simp <;> omega
end Bg

set_option Elab.async false
set_option linter.all false
set_option maxRecDepth 100000
set_option maxHeartbeats 400000
namespace Bg
open PySem PySem.Spec PyProof.Rows L2
/-! ### deeds of sure bits, bit by bit -/
def is5 : Op → Bool
  | .plus => true | .minus => true | .and => true | .or => true | .either => true | _ => false
/-- the least carry, or borrow, of held worths into a bit -/
def cl (o : Op) (v1 u1 v2 u2 i : Nat) : Bool := match o with
  | .plus => car v1 v2 i
  | .minus => bor (v1 ||| u1 : Nat) v2 i
  | _ => false
/-- the greatest one -/
def ch (o : Op) (v1 u1 v2 u2 i : Nat) : Bool := match o with
  | .plus => car (v1 ||| u1 : Nat) (v2 ||| u2 : Nat) i
  | .minus => bor v1 (v2 ||| u2 : Nat) i
  | _ => false
/-- is the bit unsure -/
def duB : Op → Bool → Bool → Bool → Bool → Bool → Bool → Bool
  | .and, a, c, b, d, _, _ => (a || c) && (b || d) && !(a && b)
  | .or, a, c, b, d, _, _ => (c || d) && !(a || b)
  | .either, _, c, _, d, _, _ => c || d
  | _, _, c, _, d, l, h => c || d || (l ^^ h)
def dvB : Op → Bool → Bool → Bool → Bool → Bool → Bool → Bool
  | .and, a, _, b, _, _, _ => a && b
  | .or, a, _, b, _, _, _ => a || b
  | .either, a, c, b, d, _, _ => !(c || d) && (a ^^ b)
  | _, a, c, b, d, l, h => !(c || d || (l ^^ h)) && (a ^^ b ^^ l)
def duA (o : Op) (v1 u1 v2 u2 i : Nat) : Bool := duB o (v1.testBit i) (u1.testBit i) (v2.testBit i) (u2.testBit i) (cl o v1 u1 v2 u2 i) (ch o v1 u1 v2 u2 i)
def dvA (o : Op) (v1 u1 v2 u2 i : Nat) : Bool := dvB o (v1.testBit i) (u1.testBit i) (v2.testBit i) (u2.testBit i) (cl o v1 u1 v2 u2 i) (ch o v1 u1 v2 u2 i)
/-- the sharpest sure bits of what comes -/
structure Due (o : Op) (n v1 u1 v2 u2 dv du : Nat) : Prop where
  v : ∀ i, dv.testBit i = (decide (i < n) && dvA o v1 u1 v2 u2 i)
  u : ∀ i, du.testBit i = (decide (i < n) && duA o v1 u1 v2 u2 i)
theorem lt_of_bits {x n : Nat} (h : ∀ i, n ≤ i → x.testBit i = false) : x < 2 ^ n := Nat.lt_pow_two_of_testBit x h
theorem Due.sb {o : Op} {n v1 u1 v2 u2 dv du : Nat} (h : Due o n v1 u1 v2 u2 dv du) : Sb n dv du := by
  refine ⟨lt_of_bits fun i hi => ?_, lt_of_bits fun i hi => ?_, ?_⟩
  · rw [h.v, decide_eq_false (by omega), Bool.false_and]
  · rw [h.u, decide_eq_false (by omega), Bool.false_and]
  · apply Nat.eq_of_testBit_eq
    intro i
    rw [Nat.testBit_and, h.v, h.u, Nat.zero_testBit]
    unfold dvA duA
    clear h
    cases decide (i < n)
    · rfl
    · generalize v1.testBit i = a
      generalize u1.testBit i = c
      generalize v2.testBit i = b
      generalize u2.testBit i = d
      generalize cl o v1 u1 v2 u2 i = l
      generalize ch o v1 u1 v2 u2 i = h
      cases o <;> revert a b c d l h <;> decide
/-- x modulo a power, as it is told by bits -/
def mk (x : Int) (n : Nat) : Nat := (x % 2 ^ n).toNat
theorem mk_eq (x : Int) (n : Nat) : x % 2 ^ n = (mk x n : Int) := by
  have p : (0 : Int) < 2 ^ n := Int.pow_pos (by decide)
  have h0 := Int.emod_nonneg x (show (2 : Int) ^ n ≠ 0 by omega)
  unfold mk
  omega
theorem mk_bit (x : Int) (n i : Nat) : (mk x n).testBit i = (decide (i < n) && ib x i) := by
  rw [← ib_nat, ← mk_eq, ib_mask]
theorem mk_lt (x : Int) (n : Nat) : mk x n < 2 ^ n := lt_of_bits fun i hi => by rw [mk_bit, decide_eq_false (by omega), Bool.false_and]
theorem sum_or {n v u : Nat} (h : Sb n v u) : v + u = v ||| u := by
  have := nat_or_add_and v u
  have := h.vu
  omega
theorem car_congr {x y x' y' : Int} {i : Nat} (hx : ∀ j, j < i → ib x j = ib x' j) (hy : ∀ j, j < i → ib y j = ib y' j) : car x y i = car x' y' i := by
  induction i with
  | zero => rfl
  | succ i ih =>
    show maj _ _ _ = maj _ _ _
    rw [hx i (by omega), hy i (by omega), ih (fun j hj => hx j (by omega)) (fun j hj => hy j (by omega))]
theorem bor_congr {x y x' y' : Int} {i : Nat} (hx : ∀ j, j < i → ib x j = ib x' j) (hy : ∀ j, j < i → ib y j = ib y' j) : bor x y i = bor x' y' i := by
  induction i with
  | zero => rfl
  | succ i ih =>
    show maj _ _ _ = maj _ _ _
    rw [hx i (by omega), hy i (by omega), ih (fun j hj => hx j (by omega)) (fun j hj => hy j (by omega))]
theorem maj_mono {a b c a' b' c' : Bool} (ha : a = true → a' = true) (hb : b = true → b' = true) (hc : c = true → c' = true) : maj a b c = true → maj a' b' c' = true := by
  revert a b c a' b' c'; decide
theorem car_mono {x y x' y' : Int} {i : Nat} (hx : ∀ j, j < i → ib x j = true → ib x' j = true) (hy : ∀ j, j < i → ib y j = true → ib y' j = true) : car x y i = true → car x' y' i = true := by
  induction i with
  | zero => exact id
  | succ i ih => exact maj_mono (hx i (by omega)) (hy i (by omega)) (ih (fun j hj => hx j (by omega)) (fun j hj => hy j (by omega)))
theorem not_mono {a b : Bool} (h : b = true → a = true) : (!a) = true → (!b) = true := by revert a b; decide
theorem bor_mono {x y x' y' : Int} {i : Nat} (hx : ∀ j, j < i → ib x' j = true → ib x j = true) (hy : ∀ j, j < i → ib y j = true → ib y' j = true) : bor x y i = true → bor x' y' i = true := by
  induction i with
  | zero => exact id
  | succ i ih => exact maj_mono (not_mono (hx i (by omega))) (hy i (by omega)) (ih (fun j hj => hx j (by omega)) (fun j hj => hy j (by omega)))
theorem or_ib {v u j : Nat} (h : ib (v : Int) j = true) : ib ((v ||| u : Nat) : Int) j = true := by
  rw [ib_nat] at h ⊢
  rw [Nat.testBit_or, h, Bool.true_or]
/-- the carry of held worths lies between -/
theorem cl_le {o : Op} {v1 u1 v2 u2 i : Nat} : cl o v1 u1 v2 u2 i = true → ch o v1 u1 v2 u2 i = true := by
  cases o with
  | plus => exact car_mono (fun j _ h => or_ib h) (fun j _ h => or_ib h)
  | minus => exact bor_mono (fun j _ h => or_ib h) (fun j _ h => or_ib h)
  | _ => exact id
theorem plus_due {n v1 u1 v2 u2 : Nat} (h1 : Sb n v1 u1) (h2 : Sb n v2 u2) :
    Due .plus n v1 u1 v2 u2 (mk (Builtin.bitAnd ((v1 : Int) + v2) (Builtin.bitNot (mk (Builtin.bitOr (Builtin.bitOr (Builtin.bitXor ((v1 : Int) + v2) ((v1 : Int) + v2 + u1 + u2)) u1) u2) n : Int))) n)
      (mk (Builtin.bitOr (Builtin.bitOr (Builtin.bitXor ((v1 : Int) + v2) ((v1 : Int) + v2 + u1 + u2)) u1) u2) n) := by
  have e : (v1 : Int) + v2 + u1 + u2 = ((v1 ||| u1 : Nat) : Int) + ((v2 ||| u2 : Nat) : Int) := by
    have := sum_or h1
    have := sum_or h2
    omega
  have hu : ∀ i, (mk (Builtin.bitOr (Builtin.bitOr (Builtin.bitXor ((v1 : Int) + v2) ((v1 : Int) + v2 + u1 + u2)) u1) u2) n).testBit i = (decide (i < n) && duA .plus v1 u1 v2 u2 i) := by
    intro i
    rw [mk_bit, ib_or, ib_or, ib_xor, e, ib_add, ib_add, ib_nat, ib_nat, ib_nat, ib_nat, ib_nat, ib_nat, Nat.testBit_or, Nat.testBit_or]
    unfold duA
    show _ = (decide (i < n) && (u1.testBit i || u2.testBit i || (car v1 v2 i ^^ car (v1 ||| u1 : Nat) (v2 ||| u2 : Nat) i)))
    congr 1
    generalize car v1 v2 i = l
    generalize car (v1 ||| u1 : Nat) (v2 ||| u2 : Nat) i = h
    generalize v1.testBit i = a
    generalize u1.testBit i = c
    generalize v2.testBit i = b
    generalize u2.testBit i = d
    revert a b c d l h; decide
  refine ⟨fun i => ?_, hu⟩
  rw [mk_bit, ib_and, ib_not, ib_nat (mk _ _), hu, ib_add, ib_nat, ib_nat]
  unfold dvA duA
  show (_ && (_ && !(_ && (u1.testBit i || u2.testBit i || (car v1 v2 i ^^ car (v1 ||| u1 : Nat) (v2 ||| u2 : Nat) i))))) = (_ && (!(u1.testBit i || u2.testBit i || (car v1 v2 i ^^ car (v1 ||| u1 : Nat) (v2 ||| u2 : Nat) i)) && _))
  generalize (u1.testBit i || u2.testBit i || (car v1 v2 i ^^ car (v1 ||| u1 : Nat) (v2 ||| u2 : Nat) i)) = z
  show _ = (_ && (!z && (v1.testBit i ^^ v2.testBit i ^^ car v1 v2 i)))
  generalize (v1.testBit i ^^ v2.testBit i ^^ car v1 v2 i) = y
  cases decide (i < n) <;> cases z <;> cases y <;> rfl
theorem minus_due {n v1 u1 v2 u2 : Nat} (h1 : Sb n v1 u1) (h2 : Sb n v2 u2) :
    Due .minus n v1 u1 v2 u2 (mk (Builtin.bitAnd ((v1 : Int) - v2) (Builtin.bitNot (mk (Builtin.bitOr (Builtin.bitOr (Builtin.bitXor ((v1 : Int) - v2 - u2) ((v1 : Int) - v2 + u1)) u1) u2) n : Int))) n)
      (mk (Builtin.bitOr (Builtin.bitOr (Builtin.bitXor ((v1 : Int) - v2 - u2) ((v1 : Int) - v2 + u1)) u1) u2) n) := by
  have e1 : (v1 : Int) - v2 - u2 = (v1 : Int) - ((v2 ||| u2 : Nat) : Int) := by
    have := sum_or h2
    omega
  have e2 : (v1 : Int) - v2 + u1 = ((v1 ||| u1 : Nat) : Int) - (v2 : Int) := by
    have := sum_or h1
    omega
  have hu : ∀ i, (mk (Builtin.bitOr (Builtin.bitOr (Builtin.bitXor ((v1 : Int) - v2 - u2) ((v1 : Int) - v2 + u1)) u1) u2) n).testBit i = (decide (i < n) && duA .minus v1 u1 v2 u2 i) := by
    intro i
    rw [mk_bit, ib_or, ib_or, ib_xor, e1, e2, ib_sub, ib_sub, ib_nat, ib_nat, ib_nat, ib_nat, ib_nat, ib_nat, Nat.testBit_or, Nat.testBit_or]
    unfold duA
    show _ = (decide (i < n) && (u1.testBit i || u2.testBit i || (bor (v1 ||| u1 : Nat) v2 i ^^ bor v1 (v2 ||| u2 : Nat) i)))
    congr 1
    generalize bor (v1 ||| u1 : Nat) v2 i = l
    generalize bor v1 (v2 ||| u2 : Nat) i = h
    generalize v1.testBit i = a
    generalize u1.testBit i = c
    generalize v2.testBit i = b
    generalize u2.testBit i = d
    revert a b c d l h; decide
  refine ⟨fun i => ?_, hu⟩
  have m1 : bor (v1 ||| u1 : Nat) v2 i = true → bor v1 v2 i = true := bor_mono (fun j _ h => or_ib h) (fun j _ h => h)
  have m2 : bor v1 v2 i = true → bor v1 (v2 ||| u2 : Nat) i = true := bor_mono (fun j _ h => h) (fun j _ h => or_ib h)
  rw [mk_bit, ib_and, ib_not, ib_nat (mk _ _), hu, ib_sub, ib_nat, ib_nat]
  unfold dvA duA
  show (_ && (_ && !(_ && (u1.testBit i || u2.testBit i || (bor (v1 ||| u1 : Nat) v2 i ^^ bor v1 (v2 ||| u2 : Nat) i))))) = (_ && (!(u1.testBit i || u2.testBit i || (bor (v1 ||| u1 : Nat) v2 i ^^ bor v1 (v2 ||| u2 : Nat) i)) && (v1.testBit i ^^ v2.testBit i ^^ bor (v1 ||| u1 : Nat) v2 i)))
  revert m1 m2
  generalize bor (v1 ||| u1 : Nat) v2 i = l
  generalize bor v1 v2 i = m
  generalize bor v1 (v2 ||| u2 : Nat) i = h
  generalize (v1.testBit i ^^ v2.testBit i) = y
  generalize (u1.testBit i || u2.testBit i) = z
  generalize decide (i < n) = w
  revert l m h y z w; decide
theorem bits_above {n x i : Nat} (h : x < 2 ^ n) (hi : ¬ i < n) : x.testBit i = false := Nat.testBit_lt_two_pow (Nat.lt_of_lt_of_le h (Nat.pow_le_pow_right (by decide) (by omega)))
theorem and_due {n v1 u1 v2 u2 : Nat} (h1 : Sb n v1 u1) (h2 : Sb n v2 u2) : Due .and n v1 u1 v2 u2 (v1 &&& v2) (bdiff ((v1 ||| u1) &&& (v2 ||| u2)) (v1 &&& v2)) := by
  constructor
  · intro i
    rw [Nat.testBit_and]
    by_cases hi : i < n
    · rw [decide_eq_true hi]; rfl
    · rw [decide_eq_false hi, bits_above h1.v1 hi]; rfl
  · intro i
    rw [bdiff_bit, Nat.testBit_and, Nat.testBit_or, Nat.testBit_or, Nat.testBit_and]
    by_cases hi : i < n
    · rw [decide_eq_true hi]; rfl
    · rw [decide_eq_false hi, bits_above h1.v1 hi, bits_above h1.u1 hi]; rfl
theorem or_due {n v1 u1 v2 u2 : Nat} (h1 : Sb n v1 u1) (h2 : Sb n v2 u2) : Due .or n v1 u1 v2 u2 (v1 ||| v2) (bdiff (u1 ||| u2) (v1 ||| v2)) := by
  constructor
  · intro i
    rw [Nat.testBit_or]
    by_cases hi : i < n
    · rw [decide_eq_true hi]; rfl
    · rw [decide_eq_false hi, bits_above h1.v1 hi, bits_above h2.v1 hi]; rfl
  · intro i
    rw [bdiff_bit, Nat.testBit_or, Nat.testBit_or]
    by_cases hi : i < n
    · rw [decide_eq_true hi]; rfl
    · rw [decide_eq_false hi, bits_above h1.u1 hi, bits_above h2.u1 hi]; rfl
theorem either_due {n v1 u1 v2 u2 : Nat} (h1 : Sb n v1 u1) (h2 : Sb n v2 u2) : Due .either n v1 u1 v2 u2 (bdiff (v1 ^^^ v2) (u1 ||| u2)) (u1 ||| u2) := by
  constructor
  · intro i
    rw [bdiff_bit, Nat.testBit_or, Nat.testBit_xor]
    by_cases hi : i < n
    · rw [decide_eq_true hi]; exact Bool.and_comm _ _
    · rw [decide_eq_false hi, bits_above h1.v1 hi, bits_above h2.v1 hi]; rfl
  · intro i
    rw [Nat.testBit_or]
    by_cases hi : i < n
    · rw [decide_eq_true hi]; rfl
    · rw [decide_eq_false hi, bits_above h1.u1 hi, bits_above h2.u1 hi]; rfl
/-! ### a bit of what comes of two worths -/
def opB : Op → Nat → Nat → Nat → Bool
  | .plus, x, y, i => x.testBit i ^^ y.testBit i ^^ car x y i
  | .minus, x, y, i => x.testBit i ^^ y.testBit i ^^ bor x y i
  | .and, x, y, i => x.testBit i && y.testBit i
  | .or, x, y, i => x.testBit i || y.testBit i
  | _, x, y, i => x.testBit i ^^ y.testBit i
theorem op_bit {o : Op} (ho : is5 o = true) {n x y : Nat} (hx : x < 2 ^ n) (hy : y < 2 ^ n) (i : Nat) : (opV o n x y).testBit i = (decide (i < n) && opB o x y i) := by
  cases o with
  | plus =>
    have e := plus_eq n x y
    rw [PySem.W.kbt_mask] at e
    rw [← ib_nat, ← e, ib_mask, ib_add, ib_nat, ib_nat]
    rfl
  | minus =>
    have e := minus_eq (a := x) hy
    rw [PySem.W.kbt_mask] at e
    rw [← ib_nat, ← e, ib_mask, ib_sub, ib_nat, ib_nat]
    rfl
  | and =>
    show (x &&& y).testBit i = _
    rw [Nat.testBit_and]
    by_cases hi : i < n
    · rw [decide_eq_true hi]; rfl
    · rw [decide_eq_false hi, bits_above hx hi]; rfl
  | or =>
    show (x ||| y).testBit i = _
    rw [Nat.testBit_or]
    by_cases hi : i < n
    · rw [decide_eq_true hi]; rfl
    · rw [decide_eq_false hi, bits_above hx hi, bits_above hy hi]; rfl
  | either =>
    show (x ^^^ y).testBit i = _
    rw [Nat.testBit_xor]
    by_cases hi : i < n
    · rw [decide_eq_true hi]; rfl
    · rw [decide_eq_false hi, bits_above hx hi, bits_above hy hi]; rfl
  | _ => cases ho
/-- the pairs of which two differ at an unsure bit -/
def six (v1 u1 v2 u2 i : Nat) : List (Nat × Nat) := [(v1, v2), (v1 ||| u1, v2 ||| u2), (v1 ||| u1, v2), (v1, v2 ||| u2), (v1 ||| (u1 &&& 2 ^ i), v2), (v1, v2 ||| (u2 &&& 2 ^ i))]
theorem held_some {n v u w : Nat} (h : Sb n v u) : v ||| (u &&& w) ∈ heldL n v u := (held_iff h).mpr ⟨Nat.or_lt_two_pow h.v1 (Nat.lt_of_le_of_lt Nat.and_le_left h.u1), fun i _ hu => by rw [Nat.testBit_or, Nat.testBit_and, hu, Bool.false_and, Bool.or_false]⟩
theorem six_held {n v1 u1 v2 u2 i : Nat} (h1 : Sb n v1 u1) (h2 : Sb n v2 u2) {p : Nat × Nat} (hp : p ∈ six v1 u1 v2 u2 i) : p.1 ∈ heldL n v1 u1 ∧ p.2 ∈ heldL n v2 u2 := by
  unfold six at hp
  simp only [List.mem_cons, List.not_mem_nil, or_false] at hp
  rcases hp with rfl | rfl | rfl | rfl | rfl | rfl
  · exact ⟨held_low h1, held_low h2⟩
  · exact ⟨held_high h1, held_high h2⟩
  · exact ⟨held_high h1, held_low h2⟩
  · exact ⟨held_low h1, held_high h2⟩
  · exact ⟨held_some h1, held_low h2⟩
  · exact ⟨held_low h1, held_some h2⟩
theorem turn_bit {v u i j : Nat} : (v ||| (u &&& 2 ^ i)).testBit j = if j = i then (v.testBit i || u.testBit i) else v.testBit j := by
  rw [Nat.testBit_or, Nat.testBit_and, Nat.testBit_two_pow]
  by_cases h : j = i
  · subst h; simp
  · rw [if_neg h, decide_eq_false (fun z => h z.symm), Bool.and_false, Bool.or_false]
theorem Sb.not2 {n v u i : Nat} (h : Sb n v u) (a : u.testBit i = true) : v.testBit i = false := by
  cases e : v.testBit i with
  | false => rfl
  | true => rw [h.not e] at a; cases a
theorem ne_bool {a b : Bool} (h : a = !b) : a ≠ b := by subst h; cases b <;> decide
theorem six_differ {o : Op} (ho : is5 o = true) {n v1 u1 v2 u2 i : Nat} (h1 : Sb n v1 u1) (h2 : Sb n v2 u2) (hu : duA o v1 u1 v2 u2 i = true) :
    ∃ p q, p ∈ six v1 u1 v2 u2 i ∧ q ∈ six v1 u1 v2 u2 i ∧ opB o p.1 p.2 i ≠ opB o q.1 q.2 i := by
  have lowx : ∀ j, j < i → ib (v1 : Int) j = ib ((v1 ||| (u1 &&& 2 ^ i) : Nat) : Int) j := fun j hj => by rw [ib_nat, ib_nat, turn_bit, if_neg (by omega)]
  have lowy : ∀ j, j < i → ib (v2 : Int) j = ib ((v2 ||| (u2 &&& 2 ^ i) : Nat) : Int) j := fun j hj => by rw [ib_nat, ib_nat, turn_bit, if_neg (by omega)]
  have m0 : (v1, v2) ∈ six v1 u1 v2 u2 i := .head _
  have m1 : (v1 ||| u1, v2 ||| u2) ∈ six v1 u1 v2 u2 i := .tail _ (.head _)
  have m2 : (v1 ||| u1, v2) ∈ six v1 u1 v2 u2 i := .tail _ (.tail _ (.head _))
  have m3 : (v1, v2 ||| u2) ∈ six v1 u1 v2 u2 i := .tail _ (.tail _ (.tail _ (.head _)))
  have m4 : (v1 ||| (u1 &&& 2 ^ i), v2) ∈ six v1 u1 v2 u2 i := .tail _ (.tail _ (.tail _ (.tail _ (.head _))))
  have m5 : (v1, v2 ||| (u2 &&& 2 ^ i)) ∈ six v1 u1 v2 u2 i := .tail _ (.tail _ (.tail _ (.tail _ (.tail _ (.head _)))))
  unfold duA at hu
  cases o with
  | plus =>
    by_cases c1 : u1.testBit i = true
    · refine ⟨_, _, m0, m4, ?_⟩
      show (v1.testBit i ^^ v2.testBit i ^^ car v1 v2 i) ≠ ((v1 ||| (u1 &&& 2 ^ i)).testBit i ^^ v2.testBit i ^^ car (v1 ||| (u1 &&& 2 ^ i) : Nat) v2 i)
      rw [turn_bit, if_pos rfl, c1, h1.not2 c1, ← car_congr lowx (fun _ _ => rfl)]
      cases v2.testBit i <;> cases car v1 v2 i <;> decide
    · by_cases c2 : u2.testBit i = true
      · refine ⟨_, _, m0, m5, ?_⟩
        show (v1.testBit i ^^ v2.testBit i ^^ car v1 v2 i) ≠ (v1.testBit i ^^ (v2 ||| (u2 &&& 2 ^ i)).testBit i ^^ car v1 (v2 ||| (u2 &&& 2 ^ i) : Nat) i)
        rw [turn_bit, if_pos rfl, c2, h2.not2 c2, ← car_congr (fun _ _ => rfl) lowy]
        cases v1.testBit i <;> cases car v1 v2 i <;> decide
      · refine ⟨_, _, m0, m1, ?_⟩
        replace c1 := Bool.eq_false_iff.mpr c1
        replace c2 := Bool.eq_false_iff.mpr c2
        rw [c1, c2] at hu
        show (v1.testBit i ^^ v2.testBit i ^^ car v1 v2 i) ≠ ((v1 ||| u1).testBit i ^^ (v2 ||| u2).testBit i ^^ car (v1 ||| u1 : Nat) (v2 ||| u2 : Nat) i)
        have hu2 : (car v1 v2 i ^^ car (v1 ||| u1 : Nat) (v2 ||| u2 : Nat) i) = true := hu
        rw [Nat.testBit_or, Nat.testBit_or, c1, c2]
        revert hu2
        cases v1.testBit i <;> cases v2.testBit i <;> cases car v1 v2 i <;> cases car (v1 ||| u1 : Nat) (v2 ||| u2 : Nat) i <;> decide
  | minus =>
    by_cases c1 : u1.testBit i = true
    · refine ⟨_, _, m0, m4, ?_⟩
      show (v1.testBit i ^^ v2.testBit i ^^ bor v1 v2 i) ≠ ((v1 ||| (u1 &&& 2 ^ i)).testBit i ^^ v2.testBit i ^^ bor (v1 ||| (u1 &&& 2 ^ i) : Nat) v2 i)
      rw [turn_bit, if_pos rfl, c1, h1.not2 c1, ← bor_congr lowx (fun _ _ => rfl)]
      cases v2.testBit i <;> cases bor v1 v2 i <;> decide
    · by_cases c2 : u2.testBit i = true
      · refine ⟨_, _, m0, m5, ?_⟩
        show (v1.testBit i ^^ v2.testBit i ^^ bor v1 v2 i) ≠ (v1.testBit i ^^ (v2 ||| (u2 &&& 2 ^ i)).testBit i ^^ bor v1 (v2 ||| (u2 &&& 2 ^ i) : Nat) i)
        rw [turn_bit, if_pos rfl, c2, h2.not2 c2, ← bor_congr (fun _ _ => rfl) lowy]
        cases v1.testBit i <;> cases bor v1 v2 i <;> decide
      · refine ⟨_, _, m2, m3, ?_⟩
        replace c1 := Bool.eq_false_iff.mpr c1
        replace c2 := Bool.eq_false_iff.mpr c2
        rw [c1, c2] at hu
        show ((v1 ||| u1).testBit i ^^ v2.testBit i ^^ bor (v1 ||| u1 : Nat) v2 i) ≠ (v1.testBit i ^^ (v2 ||| u2).testBit i ^^ bor v1 (v2 ||| u2 : Nat) i)
        have hu2 : (bor (v1 ||| u1 : Nat) v2 i ^^ bor v1 (v2 ||| u2 : Nat) i) = true := hu
        rw [Nat.testBit_or, Nat.testBit_or, c1, c2]
        revert hu2
        cases v1.testBit i <;> cases v2.testBit i <;> cases bor (v1 ||| u1 : Nat) v2 i <;> cases bor v1 (v2 ||| u2 : Nat) i <;> decide
  | and =>
    refine ⟨_, _, m0, m1, ?_⟩
    show (v1.testBit i && v2.testBit i) ≠ ((v1 ||| u1).testBit i && (v2 ||| u2).testBit i)
    rw [Nat.testBit_or, Nat.testBit_or]
    revert hu
    show ((v1.testBit i || u1.testBit i) && (v2.testBit i || u2.testBit i) && !(v1.testBit i && v2.testBit i)) = true → _
    cases v1.testBit i <;> cases v2.testBit i <;> cases u1.testBit i <;> cases u2.testBit i <;> decide
  | or =>
    refine ⟨_, _, m0, m1, ?_⟩
    show (v1.testBit i || v2.testBit i) ≠ ((v1 ||| u1).testBit i || (v2 ||| u2).testBit i)
    rw [Nat.testBit_or, Nat.testBit_or]
    revert hu
    show ((u1.testBit i || u2.testBit i) && !(v1.testBit i || v2.testBit i)) = true → _
    cases v1.testBit i <;> cases v2.testBit i <;> cases u1.testBit i <;> cases u2.testBit i <;> decide
  | either =>
    by_cases c1 : u1.testBit i = true
    · refine ⟨_, _, m0, m4, ?_⟩
      show (v1.testBit i ^^ v2.testBit i) ≠ ((v1 ||| (u1 &&& 2 ^ i)).testBit i ^^ v2.testBit i)
      rw [turn_bit, if_pos rfl, c1, h1.not2 c1]
      cases v2.testBit i <;> decide
    · refine ⟨_, _, m0, m5, ?_⟩
      have c2 : u2.testBit i = true := by
        replace c1 := Bool.eq_false_iff.mpr c1
        rw [c1] at hu
        exact hu
      show (v1.testBit i ^^ v2.testBit i) ≠ (v1.testBit i ^^ (v2 ||| (u2 &&& 2 ^ i)).testBit i)
      rw [turn_bit, if_pos rfl, c2, h2.not2 c2]
      cases v1.testBit i <;> decide
  | _ => cases ho
theorem six_bits {o : Op} (ho : is5 o = true) {n v1 u1 v2 u2 i : Nat} (h1 : Sb n v1 u1) (h2 : Sb n v2 u2) (hu : duA o v1 u1 v2 u2 i = true) (b : Bool) : ∃ p, p ∈ six v1 u1 v2 u2 i ∧ opB o p.1 p.2 i = b := by
  obtain ⟨p, q, hp, hq, ne⟩ := six_differ ho h1 h2 hu
  by_cases e : opB o p.1 p.2 i = b
  · exact ⟨p, hp, e⟩
  · refine ⟨q, hq, ?_⟩
    revert ne e
    cases opB o p.1 p.2 i <;> cases opB o q.1 q.2 i <;> cases b <;> decide
/-- a sure bit is the same in all that comes -/
theorem sure_bit {o : Op} (ho : is5 o = true) {n v1 u1 v2 u2 i x y : Nat} (h1 : Sb n v1 u1) (h2 : Sb n v2 u2) (hi : i < n) (hx : x ∈ heldL n v1 u1) (hy : y ∈ heldL n v2 u2) (hu : duA o v1 u1 v2 u2 i = false) : opB o x y i = dvA o v1 u1 v2 u2 i := by
  have ex : u1.testBit i = false → x.testBit i = v1.testBit i := fun z => ((held_iff h1).mp hx).2 i hi z
  have ey : u2.testBit i = false → y.testBit i = v2.testBit i := fun z => ((held_iff h2).mp hy).2 i hi z
  have lx : ∀ j, ib (v1 : Int) j = true → ib (x : Int) j = true := fun j z => by rw [ib_nat] at z ⊢; exact held_ge h1 hx z
  have ly : ∀ j, ib (v2 : Int) j = true → ib (y : Int) j = true := fun j z => by rw [ib_nat] at z ⊢; exact held_ge h2 hy z
  have gx : ∀ j, ib (x : Int) j = true → ib ((v1 ||| u1 : Nat) : Int) j = true := fun j z => by rw [ib_nat] at z ⊢; exact held_le h1 hx z
  have gy : ∀ j, ib (y : Int) j = true → ib ((v2 ||| u2 : Nat) : Int) j = true := fun j z => by rw [ib_nat] at z ⊢; exact held_le h2 hy z
  have bx : (v1.testBit i = true → x.testBit i = true) := fun z => held_ge h1 hx z
  have cx : (x.testBit i = true → (v1.testBit i || u1.testBit i) = true) := fun z => by have := held_le h1 hx z; rw [Nat.testBit_or] at this; exact this
  have bY : (v2.testBit i = true → y.testBit i = true) := fun z => held_ge h2 hy z
  have cY : (y.testBit i = true → (v2.testBit i || u2.testBit i) = true) := fun z => by have := held_le h2 hy z; rw [Nat.testBit_or] at this; exact this
  unfold duA at hu
  unfold dvA
  cases o with
  | plus =>
    have a1 : car v1 v2 i = true → car x y i = true := car_mono (fun j _ => lx j) (fun j _ => ly j)
    have a2 : car x y i = true → car (v1 ||| u1 : Nat) (v2 ||| u2 : Nat) i = true := car_mono (fun j _ => gx j) (fun j _ => gy j)
    have hu2 : (u1.testBit i || u2.testBit i || (car v1 v2 i ^^ car (v1 ||| u1 : Nat) (v2 ||| u2 : Nat) i)) = false := hu
    show (x.testBit i ^^ y.testBit i ^^ car x y i) = (!(u1.testBit i || u2.testBit i || (car v1 v2 i ^^ car (v1 ||| u1 : Nat) (v2 ||| u2 : Nat) i)) && (v1.testBit i ^^ v2.testBit i ^^ car v1 v2 i))
    rw [hu2]
    rw [Bool.or_eq_false_iff, Bool.or_eq_false_iff] at hu2
    rw [ex hu2.1.1, ey hu2.1.2]
    have e := hu2.2
    revert a1 a2 e
    cases v1.testBit i <;> cases v2.testBit i <;> cases car v1 v2 i <;> cases car x y i <;> cases car (v1 ||| u1 : Nat) (v2 ||| u2 : Nat) i <;> decide
  | minus =>
    have a1 : bor (v1 ||| u1 : Nat) v2 i = true → bor x y i = true := bor_mono (fun j _ => gx j) (fun j _ => ly j)
    have a2 : bor x y i = true → bor v1 (v2 ||| u2 : Nat) i = true := bor_mono (fun j _ => lx j) (fun j _ => gy j)
    have hu2 : (u1.testBit i || u2.testBit i || (bor (v1 ||| u1 : Nat) v2 i ^^ bor v1 (v2 ||| u2 : Nat) i)) = false := hu
    show (x.testBit i ^^ y.testBit i ^^ bor x y i) = (!(u1.testBit i || u2.testBit i || (bor (v1 ||| u1 : Nat) v2 i ^^ bor v1 (v2 ||| u2 : Nat) i)) && (v1.testBit i ^^ v2.testBit i ^^ bor (v1 ||| u1 : Nat) v2 i))
    rw [hu2]
    rw [Bool.or_eq_false_iff, Bool.or_eq_false_iff] at hu2
    rw [ex hu2.1.1, ey hu2.1.2]
    have e := hu2.2
    revert a1 a2 e
    cases v1.testBit i <;> cases v2.testBit i <;> cases bor (v1 ||| u1 : Nat) v2 i <;> cases bor x y i <;> cases bor v1 (v2 ||| u2 : Nat) i <;> decide
  | and =>
    have hu2 : ((v1.testBit i || u1.testBit i) && (v2.testBit i || u2.testBit i) && !(v1.testBit i && v2.testBit i)) = false := hu
    show (x.testBit i && y.testBit i) = (v1.testBit i && v2.testBit i)
    revert bx cx bY cY hu2
    cases v1.testBit i <;> cases v2.testBit i <;> cases u1.testBit i <;> cases u2.testBit i <;> cases x.testBit i <;> cases y.testBit i <;> decide
  | or =>
    have hu2 : ((u1.testBit i || u2.testBit i) && !(v1.testBit i || v2.testBit i)) = false := hu
    show (x.testBit i || y.testBit i) = (v1.testBit i || v2.testBit i)
    revert bx cx bY cY hu2
    cases v1.testBit i <;> cases v2.testBit i <;> cases u1.testBit i <;> cases u2.testBit i <;> cases x.testBit i <;> cases y.testBit i <;> decide
  | either =>
    have hu2 : (u1.testBit i || u2.testBit i) = false := hu
    show (x.testBit i ^^ y.testBit i) = (!(u1.testBit i || u2.testBit i) && (v1.testBit i ^^ v2.testBit i))
    rw [hu2]
    rw [Bool.or_eq_false_iff] at hu2
    rw [ex hu2.1, ey hu2.2]
    rfl
  | _ => cases ho
theorem dv_of_du {o : Op} {v1 u1 v2 u2 i : Nat} (h : duA o v1 u1 v2 u2 i = true) : dvA o v1 u1 v2 u2 i = false := by
  revert h
  unfold duA dvA
  generalize v1.testBit i = a
  generalize u1.testBit i = c
  generalize v2.testBit i = b
  generalize u2.testBit i = d
  generalize cl o v1 u1 v2 u2 i = l
  generalize ch o v1 u1 v2 u2 i = h
  cases o <;> revert a b c d l h <;> decide
/-- all that comes -/
def allOf (o : Op) (n v1 u1 v2 u2 : Nat) : List Nat := (heldL n v1 u1).flatMap fun x => (heldL n v2 u2).map fun y => opV o n x y
theorem mem_all {o : Op} {n v1 u1 v2 u2 z : Nat} : z ∈ allOf o n v1 u1 v2 u2 ↔ ∃ x y, x ∈ heldL n v1 u1 ∧ y ∈ heldL n v2 u2 ∧ opV o n x y = z := by
  unfold allOf
  rw [List.mem_flatMap]
  constructor
  · rintro ⟨x, hx, h⟩
    obtain ⟨y, hy, e⟩ := List.mem_map.mp h
    exact ⟨x, y, hx, hy, e⟩
  · rintro ⟨x, y, hx, hy, e⟩
    exact ⟨x, hx, List.mem_map.mpr ⟨y, hy, e⟩⟩
theorem sharpest_due {o : Op} (ho : is5 o = true) {n v1 u1 v2 u2 dv du : Nat} (h1 : Sb n v1 u1) (h2 : Sb n v2 u2) (hd : Due o n v1 u1 v2 u2 dv du) :
    andAll n (allOf o n v1 u1 v2 u2) = dv ∧ andAll n (allOf o n v1 u1 v2 u2) ^^^ orAll (allOf o n v1 u1 v2 u2) = du := by
  have lt1 : ∀ x, x ∈ heldL n v1 u1 → x < 2 ^ n := fun x hx => ((held_iff h1).mp hx).1
  have lt2 : ∀ x, x ∈ heldL n v2 u2 → x < 2 ^ n := fun x hx => ((held_iff h2).mp hx).1
  have bit : ∀ x y i, x ∈ heldL n v1 u1 → y ∈ heldL n v2 u2 → i < n → (opV o n x y).testBit i = opB o x y i := fun x y i hx hy hi => by rw [op_bit ho (lt1 x hx) (lt2 y hy), decide_eq_true hi, Bool.true_and]
  have key : ∀ i, i < n → ((allOf o n v1 u1 v2 u2).all (fun x => x.testBit i) = dvA o v1 u1 v2 u2 i) ∧ ((allOf o n v1 u1 v2 u2).any (fun x => x.testBit i) = (dvA o v1 u1 v2 u2 i || duA o v1 u1 v2 u2 i)) := by
    intro i hi
    cases hu : duA o v1 u1 v2 u2 i with
    | true =>
      rw [dv_of_du hu]
      obtain ⟨p, hp, ep⟩ := six_bits ho h1 h2 hu false
      obtain ⟨q, hq, eq⟩ := six_bits ho h1 h2 hu true
      obtain ⟨p1, p2⟩ := six_held h1 h2 hp
      obtain ⟨q1, q2⟩ := six_held h1 h2 hq
      constructor
      · rw [List.all_eq_false]
        exact ⟨_, mem_all.mpr ⟨_, _, p1, p2, rfl⟩, by rw [bit _ _ _ p1 p2 hi, ep]; exact Bool.false_ne_true⟩
      · rw [Bool.or_true, List.any_eq_true]
        exact ⟨_, mem_all.mpr ⟨_, _, q1, q2, rfl⟩, by rw [bit _ _ _ q1 q2 hi, eq]⟩
    | false =>
      have all : ∀ z, z ∈ allOf o n v1 u1 v2 u2 → z.testBit i = dvA o v1 u1 v2 u2 i := by
        intro z hz
        obtain ⟨x, y, hx, hy, rfl⟩ := mem_all.mp hz
        rw [bit _ _ _ hx hy hi, sure_bit ho h1 h2 hi hx hy hu]
      have one : opV o n v1 v2 ∈ allOf o n v1 u1 v2 u2 := mem_all.mpr ⟨_, _, held_low h1, held_low h2, rfl⟩
      cases hv : dvA o v1 u1 v2 u2 i with
      | true =>
        constructor
        · rw [List.all_eq_true]; exact fun z hz => (all z hz).trans hv
        · rw [Bool.true_or, List.any_eq_true]; exact ⟨_, one, (all _ one).trans hv⟩
      | false =>
        constructor
        · rw [List.all_eq_false]; exact ⟨_, one, by rw [(all _ one).trans hv]; exact Bool.false_ne_true⟩
        · rw [Bool.or_false, List.any_eq_false]; exact fun z hz => by rw [(all z hz).trans hv]; exact Bool.false_ne_true
  have ea : andAll n (allOf o n v1 u1 v2 u2) = dv := by
    apply Nat.eq_of_testBit_eq
    intro i
    unfold andAll
    rw [and_fold_bit, Nat.testBit_two_pow_sub_one, hd.v]
    by_cases hi : i < n
    · rw [decide_eq_true hi, (key i hi).1]
    · rw [decide_eq_false hi]; rfl
  refine ⟨ea, ?_⟩
  apply Nat.eq_of_testBit_eq
  intro i
  rw [ea, Nat.testBit_xor, hd.v, hd.u]
  unfold orAll
  rw [or_fold_bit, Nat.zero_testBit, Bool.false_or]
  by_cases hi : i < n
  · rw [decide_eq_true hi, (key i hi).2]
    cases hu : duA o v1 u1 v2 u2 i with
    | true => rw [dv_of_du hu]; rfl
    | false => cases dvA o v1 u1 v2 u2 i <;> rfl
  · have z : (allOf o n v1 u1 v2 u2).any (fun x => x.testBit i) = false := List.any_eq_false.mpr fun z hz => by
      obtain ⟨x, y, hx, hy, rfl⟩ := mem_all.mp hz
      rw [op_bit ho (lt1 x hx) (lt2 y hy), decide_eq_false hi, Bool.false_and]
      exact Bool.false_ne_true
    rw [decide_eq_false hi, z]
    rfl
/-! ### the law's own going bit by bit -/
def sgn (v u : Bool) : List Bool := if u then [false, true] else [v]
def oneS : Op → Bool → Bool → Bool → Bool × Bool
  | .plus, f, s, c => (f ^^ s ^^ c, maj f s c)
  | .minus, f, s, c => (f ^^ s ^^ c, maj (!f) s c)
  | .and, f, s, _ => (f && s, false)
  | .or, f, s, _ => (f || s, false)
  | _, f, s, _ => (f ^^ s, false)
def tbl (o : Op) (a c b d : Bool) (cs : List Bool) : List (Bool × Bool) := (sgn a c).flatMap fun f => (sgn b d).flatMap fun s => cs.map fun x => oneS o f s x
def Cs (l h : Bool) : List Bool := if l = h then [l] else [false, true]
/-- a list's things, each once, by rising size -/
def once (l : List Bool) : List Bool := (if l.any (!·) then [false] else []) ++ (if l.any id then [true] else [])
def nl (o : Op) (a c b d l : Bool) : Bool := match o with
  | .plus => maj a b l
  | .minus => maj (!(a || c)) b l
  | _ => false
def nh (o : Op) (a c b d h : Bool) : Bool := match o with
  | .plus => maj (a || c) (b || d) h
  | .minus => maj (!a) (b || d) h
  | _ => false
theorem cl_succ {o : Op} {v1 u1 v2 u2 i : Nat} : cl o v1 u1 v2 u2 (i + 1) = nl o (v1.testBit i) (u1.testBit i) (v2.testBit i) (u2.testBit i) (cl o v1 u1 v2 u2 i) := by
  cases o with
  | plus => show maj _ _ _ = maj _ _ _; rw [ib_nat, ib_nat]; rfl
  | minus => show maj _ _ _ = maj _ _ _; rw [ib_nat, ib_nat, Nat.testBit_or]; rfl
  | _ => rfl
theorem ch_succ {o : Op} {v1 u1 v2 u2 i : Nat} : ch o v1 u1 v2 u2 (i + 1) = nh o (v1.testBit i) (u1.testBit i) (v2.testBit i) (u2.testBit i) (ch o v1 u1 v2 u2 i) := by
  cases o with
  | plus => show maj _ _ _ = maj _ _ _; rw [ib_nat, ib_nat, Nat.testBit_or, Nat.testBit_or]; rfl
  | minus => show maj _ _ _ = maj _ _ _; rw [ib_nat, ib_nat, Nat.testBit_or]; rfl
  | _ => rfl
theorem tbl_ok {o : Op} {a c b d l h : Bool} (h1 : (a && c) = false) (h2 : (b && d) = false) (hl : l = true → h = true) (ho : o = .plus ∨ o = .minus ∨ (l = false ∧ h = false)) :
    once ((tbl o a c b d (Cs l h)).map (·.2)) = Cs (nl o a c b d l) (nh o a c b d h) ∧ once ((tbl o a c b d (Cs l h)).map (·.1)) = (if duB o a c b d l h then [false, true] else [dvB o a c b d l h]) := by
  have hp : o = .plus ∨ o = .minus ∨ (l = false ∧ h = false) := ho
  cases o with
  | plus => clear ho hp; revert a b c d l h; decide
  | minus => clear ho hp; revert a b c d l h; decide
  | _ =>
    obtain ⟨rfl, rfl⟩ : l = false ∧ h = false := by
      rcases hp with z | z | z
      · cases z
      · cases z
      · exact z
    clear ho hp hl; revert a b c d; decide
end Bg

set_option Elab.async false
set_option linter.all false
set_option maxRecDepth 100000
set_option maxHeartbeats 3200000
namespace Bg
open PySem PySem.Spec PyProof.Rows L2 PySem.Calls
/-! ### set(l), l a list of whole numbers -/
/-- the object of a set that is new -/
abbrev bareSet (w : World) : Obj := { cls := .type "set", dict := none, data := .set #[] 0 (.fresh 0 0 (!w.params.followText "set-order")) }
section
variable {P : Program} {w : World} {A : Around} {E : Value → Shared → Prop} {s : Shared}
theorem set_of_list {a : Addr} {vs : Array Value} (ks : List Int) {Q : Value → Shared → Prop} (calm : A.handled = none) (isl : s.heap.IsList a vs) (are : IntsAre vs.toList ks) (few : ks.length + 1 < scanBound)
    (out : ∀ (g : Heap) (tk c : Nat), SetR w g s.heap.objs.size (fun j => decide (j ∈ ks)) c → c ≤ ks.length → (∀ b o, s.heap.get? b = some o → g.get? b = some o) → Q (.ref s.heap.objs.size) { s with heap := g, toks := tk }) :
    wpAny (model P w) A (call (.type "set") [.ref a]) Q E s := by
  have size : vs.size = ks.length := by
    have z := IntsAre.length are
    rwa [Array.length_toList] at z
  obtain ⟨c0, tl0, mro0⟩ := F.called_set.mro
  have made0 := F.called_set.made
  have sub0 := F.called_set.sub
  apply wpAny_call
  apply codeAny_of_tree
  show wpAny _ _ (callAny (.type "set") _) _ _ s
  apply wpAny_pure
  refine ⟨Code.quiet_builtin _ (by decide +kernel), ?_⟩
  apply codeAny_builtin F.entry_type_call
  rw [Around.under_plain (weight_type_call_type "set" [Value.ref a] []) rfl]
  have no0 := F.called_set.notType
  have can0 := F.called_set.canCreate
  have call0 := F.typeCall_set_1 (Value.ref a)
  repeat any_goals first | assumption | wp_step
  refine codeAny_mono (code_set_led1 (Value.ref a) (E := E) (Q₁ := fun u t => u = .ref s.heap.objs.size ∧ t = { s with heap := s.heap.push (bareSet w) }) ⟨rfl, rfl⟩) ?_
  intro r0 t0 hr0
  match r0, hr0 with
  | .error _, hr0 => exact hr0
  | .ok (.ret u), hr0 =>
    obtain ⟨rfl, rfl⟩ := hr0
    have at0 : (s.heap.push (bareSet w)).get? s.heap.objs.size = some (bareSet w) := Heap.get?_push_size _ rfl
    have ty0 : Shared.TypeIs { s with heap := s.heap.push (bareSet w) } (.ref s.heap.objs.size) "set" := ⟨_, at0, rfl⟩
    have look0 := F.called_set.init.lookup
    have bind0 := F.called_set.init.bind (Value.ref s.heap.objs.size)
    repeat any_goals first | assumption | wp_step
    refine codeAny_mono (codeAny_call_builtin (R := wants (fun r t => r = .none ∧ ∃ g tk c, t = { s with heap := g, toks := tk } ∧ SetR w g s.heap.objs.size (fun j => decide (j ∈ ks)) c ∧ c ≤ ks.length ∧ (∀ b o, s.heap.get? b = some o → g.get? b = some o)) E) F.called_set.init.plain F.entry_set_init (check_set_init_1 ty0 ?_)) ?_
    · obtain ⟨ob, get0, cls0, m0, dat0⟩ := isl
      obtain ⟨oc, od, ou, os0⟩ := ob
      simp only at cls0 dat0
      subst cls0
      subst dat0
      have get1 : (s.heap.push (bareSet w)).get? a = some { cls := .type "list", dict := od, data := .seq vs m0, slots := os0 } := Heap.get?_push_of_some _ get0
      have nset := F.sub_list_set
      have nfro := F.sub_list_frozenset
      have ndict : (Value.type "list" == Value.type "dict") = false := by decide
      have isl1 : (s.heap.push (bareSet w)).IsList a vs := ⟨_, get1, rfl, m0, rfl⟩
      unfold Builtin.«set.__init__» noKeywords Builtin.Frozenset.updateFrom
      generalize keep : pyIter = it
      wp_walk
      subst keep
      apply wpAny_pyIter_list isl1
      apply wpAny_bind
      apply wpAny_runValue
      have below : a < s.heap.objs.size := Heap.lt_size get0
      have calm3 : A.in1.in1.in1.handled = none := by simp [calm]
      have apart : a ≠ (s.heap.push (bareSet w)).objs.size := by
        rw [Heap.size_push]
        exact Nat.ne_of_lt (Nat.lt_succ_of_lt below)
      have fresh : s.heap.objs.size ∉ [(s.heap.push (bareSet w)).objs.size, a] := by
        rw [Heap.size_push]
        simp only [List.mem_cons, List.not_mem_nil, or_false, not_or]
        exact ⟨Nat.ne_of_lt (Nat.lt_succ_self _), (Nat.ne_of_lt below).symm⟩
      have item : ∀ (i : Nat) (v : Value), vs[i]? = some v → ∃ k t, ks[i]? = some k ∧ v = .int k t := by
        intro i v hv
        have lt : i < ks.length := by rw [← size]; exact (Array.getElem?_eq_some_iff.mp hv).1
        obtain ⟨t, e⟩ := PyProof.Rows.IntsAre.int_at are i v (by rw [Array.getElem?_toList]; exact hv)
        refine ⟨ks[i], t, List.getElem?_eq_getElem lt, ?_⟩
        rw [e, List.getD_eq_getElem?_getD, List.getElem?_eq_getElem lt]
        rfl
      refine set_update_ints ((Walks.list calm3 _ a apart vs).toS) s.heap.objs.size fresh ks size few item (vs.size - 0) 0 _ (by omega) (Nat.zero_le _) ⟨⟨_, Heap.get?_push_size _ rfl, rfl, rfl⟩, (isl1.push _)⟩ ?start ?done
      case start =>
        have at1 : ((s.heap.push (bareSet w)).push { cls := .type "list_iterator", data := .fields #[.ref a, .int 0 0] }).get? s.heap.objs.size = some (bareSet w) := Heap.get?_push_of_some _ at0
        exact ⟨0, Nat.le_refl 0, setR_new_at at1⟩
      case done =>
        intro t1 c1 mv le1 R1
        obtain ⟨g1, ge1, dr1, tk1, os1⟩ := t1
        have eg : ge1 = s.gens := mv.gens
        have ed : dr1 = s.drawn := mv.drawn
        have eo : os1 = s.os := mv.os
        subst eg
        subst ed
        subst eo
        show wpAny _ _ _ _ _ _
        apply wpAny_pure
        show wpAny _ _ (ret Value.none) _ _ _
        rw [size] at le1
        refine wpAny_pure ⟨rfl, g1, tk1, c1, rfl, R1, le1, fun b o e => ?_⟩
        have lt0 : b < s.heap.objs.size := Heap.lt_size e
        refine mv.heap b o ?_ (Heap.get?_push_of_some _ (Heap.get?_push_of_some _ e))
        rw [Heap.size_push]
        simp only [List.mem_cons, List.not_mem_nil, or_false, not_or]
        exact ⟨Nat.ne_of_lt lt0, Nat.ne_of_lt (Nat.lt_succ_of_lt lt0)⟩
    · intro r2 t2 hr2
      match r2, hr2 with
      | .error _, hr2 => exact hr2
      | .ok (.ret v2), hr2 =>
        obtain ⟨rfl, g2, tk2, c2, rfl, R2, le2, keep2⟩ := hr2
        repeat any_goals first | assumption | wp_step
        exact out _ _ _ R2 le2 keep2
end
/-- set(l) -/
def rSetL (K : PySem.W.Frag) (w : World) : List V → Hp → VK → Prop := fun xs H Q => ∃ (l : Addr) (ks : List Int), xs = [.ref l] ∧ SqL K H l (ks.map V.int) ∧ ks.length ≤ 1000 ∧ ∀ a c, H a = none → c ≤ ks.length → Q (.ref a) (upd H a (SetO w a (fun j => decide (j ∈ ks)) c))
theorem call_setL {X : Cx} (hc : X.calm = true) : CallR X (.type "set") (rSetL X.K X.w) := by
  intro pins s σ H xs us Q I r h
  obtain ⟨l, ks, rfl, hl, few, q⟩ := h
  rw [Vals.ref1 r]
  obtain ⟨its, rv, pl, hz⟩ := I.list hl
  have new : H s.heap.objs.size = none := I.hok.fresh (Nat.le_refl _)
  refine set_of_list (P := X.prog) (w := X.w) ks (I.ok.hd hc) pl.isList (by simpa using ints_of_vals rv) (by unfold scanBound; omega) fun g tk c R le k => ?_
  exact ⟨.ref s.heap.objs.size, upd H s.heap.objs.size _, I.laid (t' := tk) k (Nat.le_refl _) (setO_new R), rfl, q _ c new le⟩
/-- a rising list is told by what is in it -/
theorem rising_eq : ∀ {xs ys : List Int}, xs.Pairwise (· < ·) → ys.Pairwise (· < ·) → (∀ k, k ∈ xs ↔ k ∈ ys) → xs = ys
  | [], [], _, _, _ => rfl
  | [], y :: ys, _, _, h => absurd ((h y).mpr List.mem_cons_self) (List.not_mem_nil)
  | x :: xs, [], _, _, h => absurd ((h x).mp List.mem_cons_self) (List.not_mem_nil)
  | x :: xs, y :: ys, hx, hy, h => by
    obtain ⟨hx1, hx2⟩ := List.pairwise_cons.mp hx
    obtain ⟨hy1, hy2⟩ := List.pairwise_cons.mp hy
    have e : x = y := by
      have a := (h x).mp List.mem_cons_self
      have b := (h y).mpr List.mem_cons_self
      rcases List.mem_cons.mp a with z | z
      · exact z
      · rcases List.mem_cons.mp b with z2 | z2
        · exact z2.symm
        · have := hy1 x z
          have := hx1 y z2
          omega
    subst e
    congr 1
    refine rising_eq hx2 hy2 fun k => ⟨fun hk => ?_, fun hk => ?_⟩
    · rcases List.mem_cons.mp ((h k).mp (List.mem_cons_of_mem _ hk)) with z | z
      · have := hx1 k hk
        omega
      · exact z
    · rcases List.mem_cons.mp ((h k).mpr (List.mem_cons_of_mem _ hk)) with z | z
      · have := hy1 k hk
        omega
      · exact z
end Bg
namespace Bg
open PySem PySem.Spec PyProof.Rows L2
/-! ### truths as numbers -/
def boolI (l : List Bool) : List V := l.map fun b => V.int (b2 b)
theorem bit_b2 (v i : Nat) : Builtin.bitAnd ((v : Int) / 2 ^ i) 1 = b2 (v.testBit i) := by
  rw [PyProof.Rows.bitAnd_m1, ib_b2, ib_nat]
theorem b2_one (b : Bool) : decide (V.int (b2 b) = V.int 1) = b := by cases b <;> decide
theorem b2_inj {a b : Bool} (h : b2 a = b2 b) : a = b := by revert h; cases a <;> cases b <;> decide
theorem once_mem (l : List Bool) (k : Int) : k ∈ (once l).map b2 ↔ k ∈ l.map b2 := by
  have e : ∀ b : Bool, b ∈ once l ↔ b ∈ l := by
    intro b
    unfold once
    rw [List.mem_append]
    have hf : (l.any (!·)) = true ↔ false ∈ l := by simp
    have ht : (l.any id) = true ↔ true ∈ l := by simp
    cases b
    · rw [← hf]; cases l.any (!·) <;> cases l.any id <;> simp
    · rw [← ht]; cases l.any (!·) <;> cases l.any id <;> simp
  rw [List.mem_map, List.mem_map]
  exact ⟨fun ⟨b, hb, q⟩ => ⟨b, (e b).mp hb, q⟩, fun ⟨b, hb, q⟩ => ⟨b, (e b).mpr hb, q⟩⟩
theorem once_rise (l : List Bool) : ((once l).map b2).Pairwise (· < ·) := by
  unfold once
  cases l.any (!·) <;> cases l.any id <;> simp [b2]
theorem once_eq {l : List Bool} {ns : List Int} (h1 : ns.Pairwise (· < ·)) (h2 : ∀ k, k ∈ ns ↔ decide (k ∈ l.map b2) = true) : ns = (once l).map b2 :=
  rising_eq h1 (once_rise l) fun k => by rw [h2, once_mem, decide_eq_true_iff]
/-! ### a list of tuples of two truths -/
inductive Tw (H : Hp) : List Addr → List (Bool × Bool) → Prop
  | nil : Tw H [] []
  | cons {a : Addr} {q : Bool × Bool} {as : List Addr} {qs : List (Bool × Bool)} (h : H a = some (.tup [.int (b2 q.1), .int (b2 q.2)])) (t : Tw H as qs) : Tw H (a :: as) (q :: qs)
theorem Tw.len {H : Hp} : ∀ {as : List Addr} {qs : List (Bool × Bool)}, Tw H as qs → as.length = qs.length
  | _, _, .nil => rfl
  | _, _, .cons _ t => congrArg Nat.succ t.len
theorem Tw.same {H H' : Hp} (s : Same H H') : ∀ {as : List Addr} {qs : List (Bool × Bool)}, Tw H as qs → Tw H' as qs
  | _, _, .nil => .nil
  | _, _, .cons h t => .cons (s _ _ h) (t.same s)
theorem Tw.app {H : Hp} : ∀ {as bs : List Addr} {qs rs : List (Bool × Bool)}, Tw H as qs → Tw H bs rs → Tw H (as ++ bs) (qs ++ rs)
  | _, _, _, _, .nil, u => u
  | _, _, _, _, .cons h t, u => .cons h (t.app u)
theorem Tw.at {H : Hp} : ∀ {as : List Addr} {qs : List (Bool × Bool)} {i : Nat} {a : Addr}, Tw H as qs → as[i]? = some a → ∃ q, qs[i]? = some q ∧ H a = some (.tup [.int (b2 q.1), .int (b2 q.2)])
  | _, _, _, _, .nil, e => by cases e
  | _, _, 0, _, .cons h t, e => by cases e; exact ⟨_, rfl, h⟩
  | _, _, i + 1, _, .cons h t, e => t.at (i := i) e
theorem Tw.mono {H H' : Hp} {D : Addr} {o : HO} (h : ∀ a u, a ≠ D → H a = some u → H' a = some u) : ∀ {as : List Addr} {qs : List (Bool × Bool)}, (H D = none ∨ ∃ xs, H D = some (.lst xs)) → Tw H as qs → Tw H' as qs
  | _, _, _, .nil => .nil
  | _, _, hD, .cons e t => .cons (h _ _ (fun z => by
      subst z
      rcases hD with q | ⟨xs, q⟩
      · rw [q] at e; cases e
      · rw [q] at e; cases e) e) (t.mono (o := o) h hD)
theorem take_flat {α β : Type} {xs : List α} {j : Nat} {x : α} (h : xs[j]? = some x) (g : α → List β) : (xs.take (j + 1)).flatMap g = (xs.take j).flatMap g ++ g x := by
  rw [List.take_add_one, h, List.flatMap_append]
  simp
end Bg
namespace Bg
open PySem PySem.Spec PyProof.Rows L2
theorem sb_and {n v u : Nat} (h : Sb n v u) (i : Nat) : (v.testBit i && u.testBit i) = false := by
  rw [← Nat.testBit_and, h.vu, Nat.zero_testBit]
theorem boolI_at {l : List Bool} {i : Nat} {x : V} (h : (boolI l)[i]? = some x) : ∃ b, l[i]? = some b ∧ V.int (b2 b) = x := by
  unfold boolI at h
  rw [List.getElem?_map] at h
  cases e : l[i]? with
  | none => rw [e] at h; cases h
  | some b => rw [e] at h; exact ⟨b, rfl, Option.some.inj h⟩
end Bg
namespace Bg
open PySem PySem.Spec PyProof.Rows L2
theorem sgn_len (a b : Bool) : (sgn a b).length ≤ 2 := by cases b <;> exact (by simp [sgn])
theorem Cs_len (a b : Bool) : (Cs a b).length ≤ 2 := by cases a <;> cases b <;> decide
theorem refs_at {as : List Addr} {i : Nat} {x : V} (h : (as.map V.ref)[i]? = some x) : ∃ a, as[i]? = some a ∧ V.ref a = x := by
  rw [List.getElem?_map] at h
  cases e : as[i]? with
  | none => rw [e] at h; cases h
  | some b => rw [e] at h; exact ⟨b, rfl, Option.some.inj h⟩
theorem eqv_int (a b : Int) : PyData.eqv (.int a) (.int b) = decide (a = b) := by
  show (a == b) = _
  by_cases h : a = b
  · subst h; simp
  · rw [decide_eq_false h, beq_eq_false_iff_ne.mpr h]
def datB (l : List Bool) : List PyData := l.map fun b => PyData.int (b2 b)
theorem bools_dp {K : PySem.W.Frag} {H : Hp} : ∀ l : List Bool, DpAll K H (boolI l) (datB l)
  | [] => .nil
  | b :: l => .cons (.int _) (bools_dp l)
end Bg
namespace Bg
open PySem PySem.Spec PyProof.Rows L2
theorem rd_mkset {K : PySem.W.Frag} {w : World} {H : Hp} {Q : VK} {l : Addr} {ks : List Int} (h : SqL K H l (ks.map V.int)) (few : ks.length ≤ 1000) (q : ∀ a c H', H a = none → c ≤ ks.length → Same H H' → H' a = some (SetO w a (fun j => decide (j ∈ ks)) c) → Q (.ref a) H') : rSetL K w [.ref l] H Q :=
  ⟨l, ks, rfl, h, few, fun a c na hc => q a c _ na hc (same_new na) upd_same⟩
theorem rd_sortedB {w : World} {H : Hp} {Q : VK} {a : Addr} {l : List Bool} {c : Nat} (h : H a = some (SetO w a (fun j => decide (j ∈ l.map b2)) c)) (c64 : c < 64) (q : NewAt H (.lst (boolI (once l))) fun p H' => Q (.ref p) H') : rSortedSet w [.ref a] H Q :=
  ⟨a, _, c, rfl, h, c64, fun ns p rise mem _ np => by
    cases once_eq rise mem
    rw [show ((once l).map b2).map V.int = boolI (once l) from List.map_map]
    exact new_at q p np⟩
end Bg
namespace Bg
open PySem PySem.Spec PyProof.Rows L2
theorem datB_shaped (l : List Bool) : SeqAt.shaped (.list (datB l)) = true := by
  have a : ∀ l : List Bool, PyData.canLayAll0 (datB l) = true ∧ PyData.depthAll (datB l) = 0 := by
    intro l
    induction l with
    | nil => exact ⟨rfl, rfl⟩
    | cons x l ih => exact ⟨by show (true && PyData.canLayAll0 (datB l)) = true; rw [ih.1]; rfl, by show max 0 (PyData.depthAll (datB l)) = 0; rw [ih.2]; rfl⟩
  show (PyData.canLayAll0 (datB l) && decide (PyData.depthAll (datB l) + 1 ≤ 64)) = true
  rw [(a l).1, (a l).2]
  rfl
/-- what the law asks of the signs at a bit -/
theorem signs_told {l : List Bool} {u v : Bool} (h : l = if u then [false, true] else [v]) (z : u = true → v = false) :
    (if decide (V.int ((boolI l).length : Int) = V.int 2) = true then (1 : Int) else 0) = b2 u ∧ (if PyData.eqv (.list (datB l)) (.list [.int 1]) = true then (1 : Int) else 0) = b2 v := by
  subst h
  cases u with
  | true => rw [z rfl]; exact ⟨by decide, by decide⟩
  | false => cases v <;> exact ⟨by decide, by decide⟩
end Bg
namespace Bg
open PySem PySem.Spec PyProof.Rows L2
theorem due_ex {o : Op} (ho : is5 o = true) {n v1 u1 v2 u2 : Nat} (h1 : Sb n v1 u1) (h2 : Sb n v2 u2) : ∃ dv du, Due o n v1 u1 v2 u2 dv du := by
  cases o with
  | plus => exact ⟨_, _, plus_due h1 h2⟩
  | minus => exact ⟨_, _, minus_due h1 h2⟩
  | and => exact ⟨_, _, and_due h1 h2⟩
  | or => exact ⟨_, _, or_due h1 h2⟩
  | either => exact ⟨_, _, either_due h1 h2⟩
  | _ => cases ho
theorem Due.uniq {o : Op} {n v1 u1 v2 u2 dv du dv' du' : Nat} (h : Due o n v1 u1 v2 u2 dv du) (h' : Due o n v1 u1 v2 u2 dv' du') : dv = dv' ∧ du = du' :=
  ⟨Nat.eq_of_testBit_eq fun i => by rw [h.v, h'.v], Nat.eq_of_testBit_eq fun i => by rw [h.u, h'.u]⟩
theorem rp_tup {K : PySem.W.Frag} {H : Hp} {p : Addr} {a b : Nat} {n : Nat} (hn : n ≤ 32) (ha : a < 2 ^ n) (hb : b < 2 ^ n) (h : H p = some (.tup [.int a, .int b])) : Rp K H (.ref p) (PyData.tuple [.int a, .int b]).shown := by
  have h1 := nat_small ha hn
  have h2 := nat_small hb hn
  have z : ∀ x : Nat, x < 4294967296 → ((x : Int)).natAbs < 2 ^ 1000 := fun x hx => Nat.lt_trans (m := 4294967296) (by omega) (by decide +kernel)
  exact .dat (.tup (SqT.of h) (.cons (.int _) (.cons (.int _) .nil))) ((ShAll.tup (k := 0) (n := 1001 + 2 + (1001 + 2 + 0)) (.cons (Sh.int (z a h1)) (.cons (Sh.int (z b h2)) .nil))).mono (by decide) (by decide))
def fiveS : List Str := ["plus", "minus", "and", "or", "either"]
theorem five_op {x : V} (h : x ∈ fiveS.map V.str) : ∃ o, x = .str (opW o) ∧ is5 o = true := by
  unfold fiveS at h
  simp only [List.map_cons, List.map_nil, List.mem_cons, List.not_mem_nil, or_false] at h
  rcases h with rfl | rfl | rfl | rfl | rfl
  · exact ⟨.plus, rfl, rfl⟩
  · exact ⟨.minus, rfl, rfl⟩
  · exact ⟨.and, rfl, rfl⟩
  · exact ⟨.or, rfl, rfl⟩
  · exact ⟨.either, rfl, rfl⟩
theorem ints_at {L : List Nat} {i : Nat} {x : V} (h : (intsN L)[i]? = some x) : ∃ z : Nat, L[i]? = some z ∧ V.int (z : Int) = x := by
  unfold intsN at h
  rw [List.getElem?_map] at h
  cases e : L[i]? with
  | none => rw [e] at h; cases h
  | some z => rw [e] at h; exact ⟨z, rfl, Option.some.inj h⟩
theorem ints_app (L M : List Nat) : intsN L ++ intsN M = intsN (L ++ M) := by unfold intsN; rw [List.map_append]
theorem ints_len (L : List Nat) : (intsN L).length = L.length := by unfold intsN; rw [List.length_map]
theorem held_len (n v u : Nat) : (heldL n v u).length ≤ 2 ^ n := by
  refine Nat.le_trans (List.length_filter_le _ _) ?_
  rw [List.length_range]
  exact Nat.le_refl _
end Bg

set_option Elab.async false
set_option linter.all false
set_option maxRecDepth 100000
set_option maxHeartbeats 1000000
namespace Bg
open PySem PySem.Spec PyProof.Rows L2 PySem.Calls
open AutoSeq1 (wpAny_loadPart')
/-! ### enumerate(t), t a tuple -/
/-- the objects of an enumerate of a tuple: the tuple's own walk, and itself -/
abbrev walkO (a : Addr) : Obj := { cls := .type "tuple_iterator", data := .fields #[.ref a, .int 0 0] }
abbrev enumO (it : Addr) : Obj := { cls := .type "enumerate", data := .fields #[.none, .bool false, .ref it, rawInt 0, .none, .none] }
theorem enum_new (a : Addr) (vs : Array Value) (m : Nat) (od : Option Addr) (os : Array (Option Value)) :
    Meets (Builtin.«enumerate.__new__» ⟨[.type "enumerate", .ref a], []⟩) (fun _ R s => s.heap.get? a = some { cls := .type "tuple", dict := od, data := .seq vs m, slots := os } ∧
      R (.ok (.ret (.ref (s.heap.push (walkO a)).objs.size))) { s with heap := (s.heap.push (walkO a)).push (enumO s.heap.objs.size) }) :=
  .of_wp fun prog w A R s h => by
    obtain ⟨hp, g, d, tk, os⟩ := s
    obtain ⟨got, fin⟩ := h
    have sub0 := sub_enumerate
    have isT : Heap.IsTuple (Shared.heap ⟨hp, g, d, tk, os⟩) a vs := ⟨_, got, rfl, m, rfl⟩
    wp_walk using wpAny_loadPart' got
    refine wpAny_stack_any fun st => wpAny_pure ?_
    split
    · rename_i c _ _ _ _ _
      cases (c == Value.type "enumerate")
      · wp_walk using wpAny_loadPart' got, wpAny_pyIter_tuple isT
        exact ⟨_, rfl, fin⟩
      · wp_walk using wpAny_loadPart' got, wpAny_pyIter_tuple isT
        exact ⟨_, rfl, fin⟩
    · wp_walk using wpAny_loadPart' got, wpAny_pyIter_tuple isT
      exact ⟨_, rfl, fin⟩
section
variable {prog : Program} {w : World} {A : Around} {E : Value → Shared → Prop} {s : Shared}
theorem enum_tuple {a : Addr} {vs : Array Value} {Q : Value → Shared → Prop} (isT : s.heap.IsTuple a vs)
    (fin : ∀ g, IsEnum g (s.heap.objs.size + 1) s.heap.objs.size 0 .none → g.IsTupleIter s.heap.objs.size a 0 → (∀ b o, s.heap.get? b = some o → g.get? b = some o) → Q (.ref (s.heap.objs.size + 1)) { s with heap := g }) :
    wpAny (model prog w) A (call (.type "enumerate") [.ref a]) Q E s := by
  obtain ⟨⟨c, od, ou, os⟩, got, hc, m, hd⟩ := isT
  replace hc : c = .type "tuple" := hc
  replace hd : ou = .seq vs m := hd
  subst hc
  subst hd
  refine callType_new F.called_enumerate (by decide) (F.typeCall_enumerate_1 _) (F.newCall_enumerate_1 _) (fun u => F.args_object_init_2 u _) F.entry_enumerate_new (enum_new a vs m od os) ⟨got, ?_⟩
  have size1 : (s.heap.push (walkO a)).objs.size = s.heap.objs.size + 1 := Heap.size_push ..
  show _ ∧ _
  rw [size1]
  have isE : IsEnum ((s.heap.push (walkO a)).push (enumO s.heap.objs.size)) (s.heap.objs.size + 1) s.heap.objs.size 0 .none := by
    have z := Heap.get?_push_size (s.heap.push (walkO a)) (o := enumO s.heap.objs.size) rfl
    rw [size1] at z
    exact z
  exact ⟨⟨_, isE, rfl⟩, fin _ isE ⟨_, Heap.get?_push_of_some _ (Heap.get?_push_size _ rfl), rfl, rfl⟩ fun b o e => Heap.get?_push_of_some _ (Heap.get?_push_of_some _ e)⟩
end
/-- the tuple at a, each item in a new pair -/
def IteT (K : PySem.W.Frag) (a : Addr) : It where
  go i H := ∃ (xs : List V) (x : V), SqT K H a xs ∧ xs[i]? = some x
  yld i H v H' := ∃ T x, v = .ref T ∧ H T = none ∧ H' = upd H T (.tup [.int (i : Nat), x]) ∧ ∀ xs, SqT K H a xs → xs[i]? = some x
  stop i H := ∃ xs : List V, SqT K H a xs ∧ xs.length ≤ i
theorem turn_enumT {P : Program} {w : World} {K : PySem.W.Frag} {elts : List Expr} {kk : Nat} {tpos : Pos} (a e it : Addr) :
    Turn P w K (.Tuple elts kk tpos) (IteT K a) [e, it] e (fun i h => (∃ old, IsEnum h e it ((i : Nat) : Int) old) ∧ h.IsTupleIter it a i ∧ e ≠ it ∧ a ≠ it ∧ e ≠ a) where
  mem := List.mem_cons_self
  obj := fun i h st b hb => by
    obtain ⟨⟨old, isE⟩, ⟨o, got, hc, hd⟩, _⟩ := st
    rcases List.mem_cons.mp hb with rfl | hb
    · exact ⟨_, isE, fun v q => nomatch q⟩
    · cases List.mem_singleton.mp hb
      exact ⟨o, got, fun v q => by rw [hd] at q; cases q⟩
  keep := fun i h h' st k => by
    obtain ⟨⟨old, isE⟩, isI, rest⟩ := st
    exact ⟨⟨old, k e List.mem_cons_self _ isE⟩, isI.at fun o q => k it (List.mem_cons_of_mem _ List.mem_cons_self) o q, rest⟩
  item := by
    intro X hP hw hK calm i pins s σ H E I hf st hg
    subst hP
    subst hw
    subst hK
    obtain ⟨⟨old, isE⟩, isI, ne1, ne2, ne3⟩ := st
    obtain ⟨xs, x, sq, hx⟩ := hg
    obtain ⟨its, rv, isT, hz⟩ := I.tuple sq
    obtain ⟨u, hu, ru⟩ := rv.get hx
    have lt : i < its.toArray.size := by
      have := (List.getElem?_eq_some_iff.mp hu).1
      simpa using this
    have lte : e < s.heap.objs.size := Heap.lt_size isE
    have lti : it < s.heap.objs.size := by obtain ⟨_, z, _⟩ := isI; exact Heap.lt_size z
    have D := Draws.tuple (prog := X.prog) (w := X.w) (A := X.A.in1) (by simpa using I.ok.hd calm) it a ne2 its.toArray
    refine wpAny_pyNext_enum_itemD D isE ⟨isI, isT⟩ lt ne1 (by simp [ne1, ne3]) fun y g tk hy isO st2 gotT size2 keep2 => ?_
    have ey : y = u := by
      have e2 : its.toArray[i]? = some u := by simpa using hu
      exact Option.some.inj (hy.symm.trans e2)
    subst ey
    refine ⟨_, rfl, wpAny_letOwnedTupleGo_enum (s := { s with heap := g, toks := tk + 1 }) isO fun g2 isE2 sb => ?_⟩
    have gotT2 : g2.get? s.heap.objs.size = some { cls := .type "tuple", data := .seq #[.int i tk, y] } := (sb.2 _ (Nat.ne_of_gt lte)).trans gotT
    have new : ObjOk X.prog X.w (upd H s.heap.objs.size (.tup [.int (i : Nat), x])) g2 s.heap.objs.size (.tup [.int (i : Nat), x]) :=
      ⟨(show 2 ≤ sizeLine by decide), [.int i tk, y], .cons ⟨_, rfl⟩ (.cons ru .nil), ⟨_, gotT2, rfl, _, rfl⟩⟩
    have I2 : Inv X pins σ (upd H s.heap.objs.size (.tup [.int (i : Nat), x])) { s with heap := g2, toks := tk + 1 } :=
      I.turnedNew (ch := [e, it]) (fun b ob hb q => (sb.2 b (fun z => hb (by simp [z]))).trans (keep2 b ob (fun z => hb (by simp [z])) (fun z => hb (by simp [z])) q)) hf (Nat.le_refl _) new
    refine ⟨.ref s.heap.objs.size, _, I2, rfl, ⟨_, x, rfl, I.hok.fresh (Nat.le_refl _), rfl, fun ys hy => by rw [I.tuple_inj hy sq]; exact hx⟩, ⟨⟨y, ?_⟩, st2.1.at fun o q => (sb.2 it ne1.symm).trans q, ne1, ne2, ne3⟩, fun b hb => ?_⟩
    · rw [show ((i + 1 : Nat) : Int) = (i : Int) + 1 by omega]
      exact isE2
    · have ltb : b < s.heap.objs.size := by
        rcases List.mem_cons.mp hb with rfl | hb
        · exact lte
        · cases List.mem_singleton.mp hb
          exact lti
      rw [upd_ne (Nat.ne_of_lt ltb)]
      exact (hf b hb).1
  done := by
    intro X hP hw hK calm i pins s σ H E I hf st hg
    subst hP
    subst hw
    subst hK
    obtain ⟨⟨old, isE⟩, isI, ne1, ne2, ne3⟩ := st
    obtain ⟨xs, sq, le⟩ := hg
    obtain ⟨its, rv, isT, hz⟩ := I.tuple sq
    obtain ⟨f0, f1, f2, f3, f4, f5⟩ := hf it (by simp)
    have len := rv.length
    have calm2 : X.A.in1.handled = none := by simpa using I.ok.hd calm
    have D : Draws X.prog X.w X.A.in1 it [it, a] i (fun _ _ => False) (fun j h => j = i ∧ h.IsTupleIter it a i ∧ h.IsTuple a its.toArray) :=
      { live := fun _ _ st => let ⟨o, ho, _⟩ := st.2.1; ⟨o, ho⟩
        frame := fun _ _ _ st hk => ⟨st.1, st.2.1.at fun o q => hk it (by simp) o q, st.2.2.at fun o q => hk a (by simp) o q⟩
        item := fun j _ _ _ lt st _ => absurd st.1 (Nat.ne_of_lt lt)
        done := fun _ _ _ st hE => wpAny_nextOf_tuple_end calm2 st.2.1 st.2.2 (by simp; omega) hE }
    exact wpAny_pyNext_enum_endD D isE ⟨rfl, isI, isT⟩ fun g eb => ⟨rfl, I.turned (t' := s.toks) (fun b o hb q => eb b o hb q) f0 f1 f3 f4 f5⟩
  self := fun A i s Q E st h => let ⟨⟨_, isE⟩, _⟩ := st; wpAny_pyIter_enum isE h
def iEnumT (K : PySem.W.Frag) (ta : TA) : TI := fun σ H R => ta σ H fun vs H1 => ∃ a xs, vs = [.ref a] ∧ SqT K H1 a xs ∧ R (IteT K a) H1
theorem pi_enumT {X : Cx} {e : Expr} {ta : TA} {p pos tpos : Pos} {elts : List Expr} {kk : Nat} (gl : Gl X "enumerate") (no : X.mg "enumerate" = none) (ha : PA X [e] ta) (st : starEach [e] X.env = [(false, eval e X.env)] := by rfl) :
    PI X (.Tuple elts kk tpos) (.Call (.Name "enumerate" p) [e] [] pos) (iEnumT X.K ta) := by
  constructor
  intro pins s σ H R I h
  refine Call_ (ld_blt I gl no boot_enumerate ?_)
  refine PyProof.Rows.callWith_type1 (thn (ha.run pos pins s σ H _ I h) ?_) st rfl
  rintro us s1 ⟨vs, H1, I1, r1, q1⟩
  obtain ⟨a, xs, rfl, sq, q⟩ := q1
  obtain ⟨u, rfl, ru⟩ := vals1 r1
  cases (show u = Value.ref a from ru)
  obtain ⟨its, rv, isT, hz⟩ := I1.tuple sq
  have lta : a < s1.heap.objs.size := by obtain ⟨_, z, _⟩ := isT; exact Heap.lt_size z
  refine enum_tuple isT fun g isE isI keep => wpAny_pyIter_enum isE ?_
  have I2 : Inv X pins σ H1 { s1 with heap := g } := I1.kept (t' := s1.toks) keep
  refine ⟨s1.heap.objs.size + 1, [s1.heap.objs.size + 1, s1.heap.objs.size], _, _, H1, rfl, I2, turn_enumT a (s1.heap.objs.size + 1) s1.heap.objs.size, ⟨⟨.none, isE⟩, isI, Nat.succ_ne_self _, Nat.ne_of_lt lta, (Nat.ne_of_lt (Nat.lt_succ_of_lt lta)).symm⟩, fun b hb => ?_, q⟩
  have le : s1.heap.objs.size ≤ b := by
    rcases List.mem_cons.mp hb with rfl | hb
    · exact Nat.le_add_right _ _
    · cases List.mem_singleton.mp hb
      exact Nat.le_refl _
  exact I1.fpOk le (I1.hok.fresh le)
theorem walk_enumT {K : PySem.W.Frag} {a : Addr} {xs : List V} : Walk (IteT K a) xs.length (fun H => SqT K H a xs) (YPair (fun i => some (.int (i : Nat))) (fun i => xs[i]?)) := by
  refine ⟨fun i _ hi q => ⟨xs, xs[i], q, by simp [hi]⟩, fun _ q => ⟨xs, q, Nat.le_refl _⟩, fun i H v H' _ q y => ?_⟩
  obtain ⟨T, x, h1, h2, h3, h4⟩ := y
  exact ⟨T, .int (i : Nat), x, h1, h2, h3, rfl, h4 xs q⟩
theorem rd_ienumT {K : PySem.W.Frag} {ta : TA} {σ : L2.St} {H : Hp} {R : It → Hp → Prop} (q : ta σ H fun vs H1 => ∃ a xs, vs = [.ref a] ∧ SqT K H1 a xs ∧ R (IteT K a) H1) : iEnumT K ta σ H R := q
end Bg

set_option Elab.async false
set_option linter.all false
set_option maxRecDepth 100000
set_option maxHeartbeats 400000
namespace Bg
open PySem PySem.Spec PyProof.Rows L2
def wholeD : PyData → Bool
  | .int _ => true
  | _ => false
def spWhole (K : PySem.W.Frag) : Sp := fun vs H Q _ => ∃ (x : V) (d : PyData), vs = [x] ∧ Dz K H x d ∧ Q (.bl (wholeD d)) H
/-! ### the seven words of sure bits -/
/-- by what a word is done: sure bits, or places -/
inductive By (K : PySem.W.Frag) (H : Hp) (n v2 u2 j : Nat) (o : Op) : V → Prop
  | five {t : Addr} (ho : is5 o = true) (h : SqT K H t [.int v2, .int u2]) (s : Sb n v2 u2) : By K H n v2 u2 j o (.ref t)
  | mv (ho : isMv o = true) : By K H n v2 u2 j o (.int j)
theorem By.same {K : PySem.W.Frag} {H H' : Hp} {n v2 u2 j : Nat} {o : Op} {x : V} (s : Same H H') (b : By K H n v2 u2 j o x) : By K H' n v2 u2 j o x := by
  cases b with
  | five ho h sb => exact .five ho (sqT_same s h) sb
  | mv ho => exact .mv ho
theorem five_not {o : Op} (h : is5 o = true) : isMv o = false := by cases o <;> first | rfl | cases h
theorem mv_not {o : Op} (h : isMv o = true) : is5 o = false := by cases o <;> first | rfl | cases h
def Res (o : Op) (n v1 u1 v2 u2 j dv du : Nat) : Prop := (is5 o = true ∧ Due o n v1 u1 v2 u2 dv du) ∨ (isMv o = true ∧ dv = opV o n v1 j ∧ du = opV o n u1 j)
theorem Res.uniq {o : Op} {n v1 u1 v2 u2 j dv du dv' du' : Nat} (h : Res o n v1 u1 v2 u2 j dv du) (h' : Res o n v1 u1 v2 u2 j dv' du') : dv = dv' ∧ du = du' := by
  rcases h with ⟨a, b⟩ | ⟨a, b⟩ <;> rcases h' with ⟨a', b'⟩ | ⟨a', b'⟩
  · exact b.uniq b'
  · rw [mv_not a'] at a; cases a
  · rw [mv_not a] at a'; cases a'
  · exact ⟨b.1.trans b'.1.symm, b.2.trans b'.2.symm⟩
theorem Res.lt {o : Op} {n v1 u1 v2 u2 j dv du : Nat} (h : Res o n v1 u1 v2 u2 j dv du) (h1 : Sb n v1 u1) : du < 2 ^ n := by
  rcases h with ⟨_, b⟩ | ⟨a, _, rfl⟩
  · exact b.sb.u1
  · exact opV_lt h1.u1 (.inr a)
def prs (o : Op) (v1 u1 v2 u2 j i : Nat) : List (Nat × Nat) := if isMv o then [(v1, j), (v1 ||| u1, j)] else six v1 u1 v2 u2 i
def bitP (o : Op) (n i : Nat) (p : Nat × Nat) : Bool := (opV o n p.1 p.2).testBit i
theorem prs_held {o : Op} {n v1 u1 v2 u2 j i : Nat} (h1 : Sb n v1 u1) {p : Nat × Nat} (hp : p ∈ prs o v1 u1 v2 u2 j i) : (is5 o = true → Sb n v2 u2 → p.1 ∈ heldL n v1 u1 ∧ p.2 ∈ heldL n v2 u2) ∧ (isMv o = true → p.1 ∈ heldL n v1 u1 ∧ p.2 = j) := by
  unfold prs at hp
  refine ⟨fun ho h2 => ?_, fun ho => ?_⟩
  · rw [five_not ho, if_neg Bool.false_ne_true] at hp
    exact six_held h1 h2 hp
  · rw [ho, if_pos rfl] at hp
    simp only [List.mem_cons, List.not_mem_nil, or_false] at hp
    rcases hp with rfl | rfl
    · exact ⟨held_low h1, rfl⟩
    · exact ⟨held_high h1, rfl⟩
theorem mv_op {o : Op} (h : isMv o = true) : ∃ l, ∀ n a b, opV o n a b = mvN l n a b := by
  cases o with
  | left => exact ⟨true, fun _ _ _ => rfl⟩
  | right => exact ⟨false, fun _ _ _ => rfl⟩
  | _ => cases h
theorem mv_differ {o : Op} (ho : isMv o = true) {n v u j i : Nat} (h : Sb n v u) (hu : (opV o n u j).testBit i = true) : (opV o n v j).testBit i = false ∧ (opV o n (v ||| u) j).testBit i = true := by
  obtain ⟨l, e⟩ := mv_op ho
  rw [e] at hu ⊢
  rw [e]
  have hin : i < n := bit_lt (mv_lt h.u1) hu
  rw [mv_bit h.u1 hin] at hu
  rw [mv_bit h.v1 hin, mv_bit (Nat.or_lt_two_pow h.v1 h.u1) hin]
  cases l with
  | true =>
    rw [if_pos rfl, Bool.and_eq_true] at hu
    rw [if_pos rfl, if_pos rfl, hu.1, h.not2 hu.2, Nat.testBit_or, hu.2]
    exact ⟨rfl, by simp⟩
  | false =>
    rw [if_neg Bool.false_ne_true] at hu
    rw [if_neg Bool.false_ne_true, if_neg Bool.false_ne_true, h.not2 hu, Nat.testBit_or, hu]
    exact ⟨rfl, by simp⟩
theorem prs_bits {o : Op} {n v1 u1 v2 u2 j i dv du : Nat} (h1 : Sb n v1 u1) (h2 : is5 o = true → Sb n v2 u2) (hr : Res o n v1 u1 v2 u2 j dv du) (hu : du.testBit i = true) (b : Bool) : ∃ p, p ∈ prs o v1 u1 v2 u2 j i ∧ bitP o n i p = b := by
  rcases hr with ⟨ho, due⟩ | ⟨ho, _, rfl⟩
  · have hi : i < n := bit_lt due.sb.u1 hu
    rw [due.u, decide_eq_true hi, Bool.true_and] at hu
    obtain ⟨p, hp, e⟩ := six_bits ho h1 (h2 ho) hu b
    obtain ⟨q1, q2⟩ := six_held h1 (h2 ho) hp
    refine ⟨p, ?_, ?_⟩
    · unfold prs
      rw [five_not ho, if_neg Bool.false_ne_true]
      exact hp
    · unfold bitP
      rw [op_bit ho ((held_iff h1).mp q1).1 ((held_iff (h2 ho)).mp q2).1, decide_eq_true hi, Bool.true_and, e]
  · obtain ⟨a, c⟩ := mv_differ ho h1 hu
    have e : prs o v1 u1 v2 u2 j i = [(v1, j), (v1 ||| u1, j)] := by unfold prs; rw [ho, if_pos rfl]
    rw [e]
    cases b with
    | false => exact ⟨_, .head _, a⟩
    | true => exact ⟨_, .tail _ (.head _), c⟩
theorem prs_find {o : Op} {n v1 u1 v2 u2 j i dv du : Nat} (h1 : Sb n v1 u1) (h2 : is5 o = true → Sb n v2 u2) (hr : Res o n v1 u1 v2 u2 j dv du) (hu : du.testBit i = true) (b : Bool) :
    ∃ p, (prs o v1 u1 v2 u2 j i).find? (fun p => bitP o n i p == b) = some p ∧ p ∈ prs o v1 u1 v2 u2 j i ∧ bitP o n i p = b := by
  obtain ⟨p, hp, e⟩ := prs_bits h1 h2 hr hu b
  have z : ((prs o v1 u1 v2 u2 j i).find? (fun p => bitP o n i p == b)).isSome = true := List.find?_isSome.mpr ⟨p, hp, by rw [e]; exact beq_self_eq_true b⟩
  obtain ⟨q, hq⟩ := Option.isSome_iff_exists.mp z
  exact ⟨q, hq, List.mem_of_find?_eq_some hq, by simpa using List.find?_some hq⟩
/-! ### tuples of two worths in the heap -/
inductive Pn (H : Hp) : List Addr → List (Nat × Nat) → Prop
  | nil : Pn H [] []
  | cons {a : Addr} {q : Nat × Nat} {as : List Addr} {qs : List (Nat × Nat)} (h : H a = some (.tup [.int q.1, .int q.2])) (t : Pn H as qs) : Pn H (a :: as) (q :: qs)
theorem Pn.len {H : Hp} : ∀ {as : List Addr} {qs : List (Nat × Nat)}, Pn H as qs → as.length = qs.length
  | _, _, .nil => rfl
  | _, _, .cons _ t => congrArg Nat.succ t.len
theorem Pn.same {H H' : Hp} (s : Same H H') : ∀ {as : List Addr} {qs : List (Nat × Nat)}, Pn H as qs → Pn H' as qs
  | _, _, .nil => .nil
  | _, _, .cons h t => .cons (s _ _ h) (t.same s)
theorem Pn.at {H : Hp} : ∀ {as : List Addr} {qs : List (Nat × Nat)} {i : Nat} {a : Addr}, Pn H as qs → as[i]? = some a → ∃ q, qs[i]? = some q ∧ H a = some (.tup [.int q.1, .int q.2])
  | _, _, _, _, .nil, e => by cases e
  | _, _, 0, _, .cons h t, e => by cases e; exact ⟨_, rfl, h⟩
  | _, _, i + 1, _, .cons h t, e => t.at (i := i) e
/-- what the dict of found ones says behind some pairs -/
def Fd (H : Hp) (kvs : List (Key × V)) (f : Nat × Nat → Bool) (L : List (Nat × Nat)) : Prop := ∀ b : Bool, match L.find? (fun p => f p == b) with
  | none => valV kvs (.inl (b2 b)) = none
  | some p => ∃ q, valV kvs (.inl (b2 b)) = some (.ref q) ∧ H q = some (.tup [.int p.1, .int p.2])
theorem key_ne {a b : Bool} (h : a ≠ b) : (Sum.inl (b2 a) : Key) ≠ Sum.inl (b2 b) := fun z => h (b2_inj (Sum.inl.inj z))
theorem Fd.same {H H' : Hp} {kvs : List (Key × V)} {f : Nat × Nat → Bool} {L : List (Nat × Nat)} (s : ∀ a u, H a = some (.tup u) → H' a = some (.tup u)) (h : Fd H kvs f L) : Fd H' kvs f L := by
  intro b
  have z := h b
  cases e : L.find? (fun p => f p == b) with
  | none => rw [e] at z; exact z
  | some p =>
    rw [e] at z
    obtain ⟨q, h1, h2⟩ := z
    exact ⟨q, h1, s _ _ h2⟩
theorem find_snoc {f : Nat × Nat → Bool} {L : List (Nat × Nat)} {p : Nat × Nat} (b : Bool) : (L ++ [p]).find? (fun p => f p == b) = ((L.find? fun p => f p == b).or (if f p = b then some p else none)) := by
  rw [List.find?_append]
  congr 1
  by_cases e : f p = b
  · rw [if_pos e, List.find?_cons_of_pos (by rw [e]; exact beq_self_eq_true b)]
  · rw [if_neg e, List.find?_cons_of_neg (by simpa using e)]
    rfl
/-- a pair that is met anew is not put -/
theorem Fd.met {H : Hp} {kvs : List (Key × V)} {f : Nat × Nat → Bool} {L : List (Nat × Nat)} {p : Nat × Nat} {v : V} (h : Fd H kvs f L) (hv : valV kvs (.inl (b2 (f p))) = some v) : Fd H kvs f (L ++ [p]) := by
  intro b
  rw [find_snoc]
  have z := h b
  by_cases e : f p = b
  · subst e
    cases e2 : L.find? (fun q => f q == f p) with
    | none => rw [e2] at z; rw [show valV kvs (.inl (b2 (f p))) = none from z] at hv; cases hv
    | some q => rw [e2] at z; exact z
  · rw [if_neg e, Option.or_none]
    exact z
/-- the first one of its bit is put -/
theorem Fd.put {H H' : Hp} {kvs : List (Key × V)} {f : Nat × Nat → Bool} {L : List (Nat × Nat)} {p : Nat × Nat} {a : Addr} (h : Fd H kvs f L) (hv : valV kvs (.inl (b2 (f p))) = none) (ha : H' a = some (.tup [.int p.1, .int p.2])) (s : ∀ a u, H a = some (.tup u) → H' a = some (.tup u)) :
    Fd H' (putK kvs (.inl (b2 (f p))) (.ref a)) f (L ++ [p]) := by
  intro b
  rw [find_snoc]
  have z := h b
  by_cases e : f p = b
  · subst e
    cases e2 : L.find? (fun q => f q == f p) with
    | some q =>
      rw [e2] at z
      obtain ⟨w, h1, _⟩ := z
      rw [h1] at hv
      cases hv
    | none =>
      rw [if_pos rfl, Option.none_or]
      exact ⟨a, by rw [valV_put, if_pos rfl], ha⟩
  · rw [if_neg e, Option.or_none]
    have ne : (Sum.inl (b2 b) : Key) ≠ Sum.inl (b2 (f p)) := key_ne (fun z => e z.symm)
    cases e2 : L.find? (fun q => f q == b) with
    | none =>
      rw [e2] at z
      show valV (putK kvs _ _) _ = none
      rw [valV_put, if_neg ne]
      exact z
    | some q =>
      rw [e2] at z
      obtain ⟨w, h1, h2⟩ := z
      exact ⟨w, by rw [valV_put, if_neg ne]; exact h1, s _ _ h2⟩
theorem rd_dsetd {td ty tx : TE} {σ : L2.St} {H : Hp} {Q : VK} (q : td σ H fun x H1 => ∃ a, x = .ref a ∧ IsD H1 a ∧ ty σ H1 fun y H2 => tx σ H2 fun z H3 => ∃ (kvs : List (Key × V)) (k : Key), H3 a = some (.dK kvs) ∧ y = kV k ∧ kvs.length < sizeLine ∧
  (∀ v, valV kvs k = some v → Q v H3) ∧ (valV kvs k = none → Q z (upd H3 a (.dK (putK kvs k z))))) : tDSetd td ty tx σ H Q := q
end Bg
namespace Bg
open PySem PySem.Spec PyProof.Rows L2
/-! ### a call with keywords of a def that may let out -/
def tCallNX (n m : Nat) (sp : Sp) (gV : List V → List V → List V) (E : L2.St → XK) (t tk : TA) : TE := fun σ H Q => t σ H fun vs H1 => tk σ H1 fun zs H2 => vs.length = n ∧ zs.length = m ∧ sp (gV vs zs) H2 Q (E σ)
section
variable {X : Cx} {CX : CXT} {k n : Nat} {f : Addr} {fd : FuncData} {ps ks : List Str} {sp : Sp} {g : List Value → List Value → List Value} {gV : List V → List V → List V} {E : L2.St → XK} {x : Str} {p pos : Pos} {e : Expr} {es : List Expr} {kws : List Keyword} {t tk : TA}
theorem pe_callNX (F : FnOk X.prog X.w X.K X.mg X.base CX k f fd ps sp) (room : Room k X.A) (gl : Gl X x) (at_ : X.mg x = some (.ref f)) (kp : PySem.W.keepIn X.K (.ref f) = true) (kb : KBn X.K fd ps n ks g gV) (out : ∀ σ, PassesAt CX X σ (E σ))
    (ar : PA X (e :: es) t) (kw : PK X kws tk) (all : (backToKw pos (keywordEach kws X.env)).all (·.1.isSome) = true := by rfl) (named : (backToKw pos (keywordEach kws X.env)).filterMap (·.1) = ks := by rfl)
    (nd : (x == ("__debug__" : Str)) = false := by decide) (st : starEach (e :: es) X.env = (false, eval e X.env) :: starEach es X.env := by rfl)
    (pl : ((backTo pos (starEach (e :: es) X.env)).any (·.1) || (backToKw pos (keywordEach kws X.env)).any (·.1.isNone)) = false := by rfl) : PE X (.Call (.Name x p) (e :: es) kws pos) (tCallNX n ks.length sp gV E t tk) := by
  constructor
  intro pins s σ H Q I h
  apply wpAny_Call_Name_kw
  apply ld_glob I gl at_ _ nd
  refine PySem.W.callWith_KW (h₀ := X.base) I.ok.mod.kin kp all ?_ pl st
  apply thn (ar.run pos pins s σ H _ I h)
  rintro us s1 ⟨vs, H1, I1, r, q⟩
  apply thn (kw.run pos pins s1 σ H1 _ I1 q)
  rintro ws s2 ⟨zs, H2, I2, rz, l1, l2, q2⟩
  refine ⟨I2.kIn, ?_⟩
  rw [named]
  have both : Vals (gV vs zs) (g us ws) := kb.rel r rz
  apply wpAny_call
  apply codeAny_mono (F.run X.A X.stack s2 H2 ⟨us, ks.zip ws⟩ (g us ws) (gV vs zs) Q (E σ) room I2.env0 (kb.to s2 us ws I2.kIn (r.length.symm.trans l1) (rz.length.symm.trans l2)) both q2)
  intro res s3 hq
  match res, hq with
  | .error u, hq => exact out σ pins H2 s2 u s3 I2 hq
  | .ok (.ret u), hq => exact I2.after hq
end
theorem rd_callNX {σ : L2.St} {H : Hp} {Q : VK} {sp : Sp} {m k : Nat} {gV : List V → List V → List V} {E : L2.St → XK} {tA tk : TA} (q : tA σ H fun vs H1 => tk σ H1 fun zs H2 => vs.length = m ∧ zs.length = k ∧ sp (gV vs zs) H2 Q (E σ)) : tCallNX m k sp gV E tA tk σ H Q := q
end Bg
namespace Bg
open PySem PySem.Spec PyProof.Rows L2
theorem rd_inT {K : PySem.W.Frag} {H : Hp} {t : Addr} {w : Str} {ws : List Str} {Q : VK} (h : SqT K H t (ws.map V.str)) (q : Q (.bl (decide (w ∈ ws))) H) : rIn K false (.str w) (.ref t) H Q := by
  refine ⟨t, _, rfl, .inr h, rfl, strs_flat ws, ?_⟩
  rw [in_strs]
  exact q
end Bg
namespace Bg
open PySem PySem.Spec PyProof.Rows L2
theorem Kp.sqT {K : PySem.W.Frag} {p c : Addr} {H H1 : Hp} {xs : List V} (a : Kp p H H1) (n : c ≠ p) (e : SqT K H c xs) : SqT K H1 c xs := by
  rcases e with (h | ⟨o, h⟩) | h
  · exact .inl (.inl (a.2 _ _ n h))
  · exact .inl (.inr ⟨o, a.2 _ _ n h⟩)
  · exact .inr h
end Bg

set_option Elab.async false
set_option linter.all false
set_option maxRecDepth 100000
set_option maxHeartbeats 400000
namespace Bg
open PySem PySem.Spec PyProof.Rows L2
def topS (i : Nat) : Stmt := PySem.Challenge.pw_boundgate_k09_two_for_each_unsure_bit.main.body.getD i (.Pass ⟨0, 0, 0, 0⟩)
abbrev s_greatest : Stmt := topS 7
theorem sc_greatest : FnScope ["wide"] ["wide"] (defScope s_greatest) := ⟨rfl, rfl, rfl, by decide +kernel, rfl, by decide +kernel, by decide +kernel⟩
abbrev s_is_whole : Stmt := topS 8
theorem sc_is_whole : FnScope ["thing"] ["thing"] (defScope s_is_whole) := ⟨rfl, rfl, rfl, by decide +kernel, rfl, by decide +kernel, by decide +kernel⟩
abbrev s_is_among : Stmt := topS 9
theorem sc_is_among : FnScope ["word", "words"] ["word", "words"] (defScope s_is_among) := ⟨rfl, rfl, rfl, by decide +kernel, rfl, by decide +kernel, by decide +kernel⟩
abbrev s_moved_left : Stmt := topS 10
theorem sc_moved_left : FnScope ["worth", "places", "wide"] ["worth", "places", "wide"] (defScope s_moved_left) := ⟨rfl, rfl, rfl, by decide +kernel, rfl, by decide +kernel, by decide +kernel⟩
abbrev s_moved_right : Stmt := topS 11
theorem sc_moved_right : FnScope ["worth", "places", "wide"] ["worth", "places", "wide"] (defScope s_moved_right) := ⟨rfl, rfl, rfl, by decide +kernel, rfl, by decide +kernel, by decide +kernel⟩
abbrev s_done : Stmt := topS 12
theorem sc_done : FnScope ["word", "one", "other", "wide"] ["word", "one", "other", "wide"] (defScope s_done) := ⟨rfl, rfl, rfl, by decide +kernel, rfl, by decide +kernel, by decide +kernel⟩
abbrev s_plus_bits : Stmt := topS 16
theorem sc_plus_bits : FnScope ["one", "other", "wide", "low", "high", "unsure"] ["one", "other", "wide"] (defScope s_plus_bits) := ⟨rfl, rfl, rfl, by decide +kernel, rfl, by decide +kernel, by decide +kernel⟩
abbrev s_minus_bits : Stmt := topS 17
theorem sc_minus_bits : FnScope ["one", "other", "wide", "plain", "high", "low", "unsure"] ["one", "other", "wide"] (defScope s_minus_bits) := ⟨rfl, rfl, rfl, by decide +kernel, rfl, by decide +kernel, by decide +kernel⟩
abbrev s_and_bits : Stmt := topS 18
theorem sc_and_bits : FnScope ["one", "other", "value", "may_be"] ["one", "other"] (defScope s_and_bits) := ⟨rfl, rfl, rfl, by decide +kernel, rfl, by decide +kernel, by decide +kernel⟩
abbrev s_or_bits : Stmt := topS 19
theorem sc_or_bits : FnScope ["one", "other", "value"] ["one", "other"] (defScope s_or_bits) := ⟨rfl, rfl, rfl, by decide +kernel, rfl, by decide +kernel, by decide +kernel⟩
abbrev s_either_bits : Stmt := topS 20
theorem sc_either_bits : FnScope ["one", "other", "unsure"] ["one", "other"] (defScope s_either_bits) := ⟨rfl, rfl, rfl, by decide +kernel, rfl, by decide +kernel, by decide +kernel⟩
abbrev s_moved_bits : Stmt := topS 21
theorem sc_moved_bits : FnScope ["word", "one", "places", "wide"] ["word", "one", "places", "wide"] (defScope s_moved_bits) := ⟨rfl, rfl, rfl, by decide +kernel, rfl, by decide +kernel, by decide +kernel⟩
abbrev s_bits_done : Stmt := topS 22
theorem sc_bits_done : FnScope ["word", "one", "other", "wide"] ["word", "one", "other", "wide"] (defScope s_bits_done) := ⟨rfl, rfl, rfl, by decide +kernel, rfl, by decide +kernel, by decide +kernel⟩
abbrev s_pairs_to_try : Stmt := topS 23
theorem sc_pairs_to_try : FnScope ["one", "other", "bit", "low", "high", "other_low", "other_high", "place"] ["one", "other", "bit"] (defScope s_pairs_to_try) := ⟨rfl, rfl, rfl, by decide +kernel, rfl, by decide +kernel, by decide +kernel⟩
abbrev s_bit_pair : Stmt := topS 24
theorem sc_bit_pair : FnScope ["word", "one", "other", "bit", "wide", "unsure", "pairs", "found", "pair", "came"] ["word", "one", "other", "bit", "wide"] (defScope s_bit_pair) := ⟨rfl, rfl, rfl, by decide +kernel, rfl, by decide +kernel, by decide +kernel⟩
abbrev s_pool : Stmt := topS 26
theorem sc_pool : FnScope ["_law_script", "_law_k", "_law_cell", "_law_size", "_law_mixed"] ["_law_script", "_law_k"] (defScope s_pool) := ⟨rfl, rfl, rfl, by decide +kernel, rfl, by decide +kernel, by decide +kernel⟩
abbrev s_take : Stmt := topS 27
theorem sc_take : FnScope ["_law_pool_here", "_law_many", "_law_found"] ["_law_pool_here", "_law_many"] (defScope s_take) := ⟨rfl, rfl, rfl, by decide +kernel, rfl, by decide +kernel, by decide +kernel⟩
abbrev s_top : Stmt := topS 28
theorem sc_top : FnScope ["_law_size"] ["_law_size"] (defScope s_top) := ⟨rfl, rfl, rfl, by decide +kernel, rfl, by decide +kernel, by decide +kernel⟩
abbrev s_bits : Stmt := topS 29
theorem sc_bits : FnScope ["_law_pool_here", "_law_size", "_law_top_here", "_law_unsure"] ["_law_pool_here", "_law_size"] (defScope s_bits) := ⟨rfl, rfl, rfl, by decide +kernel, rfl, by decide +kernel, by decide +kernel⟩
abbrev s_l_done : Stmt := topS 32
theorem sc_l_done : FnScope ["_law_word", "_law_one", "_law_other", "_law_size", "_law_top_here"] ["_law_word", "_law_one", "_law_other", "_law_size"] (defScope s_l_done) := ⟨rfl, rfl, rfl, by decide +kernel, rfl, by decide +kernel, by decide +kernel⟩
abbrev s_is_held : Stmt := topS 33
theorem sc_is_held : FnScope ["_law_bits_here", "_law_worth", "_law_size"] ["_law_bits_here", "_law_worth", "_law_size"] (defScope s_is_held) := ⟨rfl, rfl, rfl, by decide +kernel, rfl, by decide +kernel, by decide +kernel⟩
abbrev s_so : Stmt := topS 34
theorem sc_so : FnScope ["_law_word", "_law_one", "_law_other", "_law_bit", "_law_size", "_law_found", "_law_sign", "_law_pair"] ["_law_word", "_law_one", "_law_other", "_law_bit", "_law_size"] (defScope s_so) := ⟨rfl, rfl, rfl, by decide +kernel, rfl, by decide +kernel, by decide +kernel⟩
abbrev s_refused : Stmt := topS 35
theorem sc_refused : FnScope ["_law_word", "_law_one", "_law_other", "_law_bit", "_law_size", "_law_kept", "e"] ["_law_word", "_law_one", "_law_other", "_law_bit", "_law_size"] (defScope s_refused) := ⟨rfl, rfl, rfl, by decide +kernel, rfl, by decide +kernel, by decide +kernel⟩
abbrev s_law : Stmt := topS 36
theorem sc_law : FnScope ["_law_script", "_law_k", "_law_pool_here", "_law_size", "_law_one", "_law_other", "_law_places", "_law_word", "_law_by", "_law_unsure", "_law_bit", "_law_odd", "_law_bits_here", "_law_at"] ["_law_script"] (defScope s_law) := ⟨rfl, rfl, rfl, by decide +kernel, rfl, by decide +kernel, by decide +kernel⟩
structure Txt (K : PySem.W.Frag) (mg : Str → Option Value) where
  a_greatest : Addr
  fd_greatest : FuncData
  F_greatest : Fun K "greatest" "greatest" s_greatest a_greatest fd_greatest
  g_greatest : mg "greatest" = some (.ref a_greatest)
  b_greatest : Binds K fd_greatest ["wide"] []
  a_is_whole : Addr
  fd_is_whole : FuncData
  F_is_whole : Fun K "is_whole" "is_whole" s_is_whole a_is_whole fd_is_whole
  g_is_whole : mg "is_whole" = some (.ref a_is_whole)
  b_is_whole : Binds K fd_is_whole ["thing"] []
  a_is_among : Addr
  fd_is_among : FuncData
  F_is_among : Fun K "is_among" "is_among" s_is_among a_is_among fd_is_among
  g_is_among : mg "is_among" = some (.ref a_is_among)
  b_is_among : Binds K fd_is_among ["word", "words"] []
  a_moved_left : Addr
  fd_moved_left : FuncData
  F_moved_left : Fun K "moved_left" "moved_left" s_moved_left a_moved_left fd_moved_left
  g_moved_left : mg "moved_left" = some (.ref a_moved_left)
  b_moved_left : Binds K fd_moved_left ["worth", "places", "wide"] []
  a_moved_right : Addr
  fd_moved_right : FuncData
  F_moved_right : Fun K "moved_right" "moved_right" s_moved_right a_moved_right fd_moved_right
  g_moved_right : mg "moved_right" = some (.ref a_moved_right)
  b_moved_right : Binds K fd_moved_right ["worth", "places", "wide"] []
  a_done : Addr
  fd_done : FuncData
  F_done : Fun K "done" "done" s_done a_done fd_done
  g_done : mg "done" = some (.ref a_done)
  d_done : List Value
  v_done : Vals [.int 16] d_done
  b_done : Binds K fd_done ["word", "one", "other", "wide"] d_done
  k_done : KBn K fd_done ["word", "one", "other", "wide"] 3 ["wide"] (fun us ws => us ++ ws) (fun vs zs => vs ++ zs)
  a_plus_bits : Addr
  fd_plus_bits : FuncData
  F_plus_bits : Fun K "plus_bits" "plus_bits" s_plus_bits a_plus_bits fd_plus_bits
  g_plus_bits : mg "plus_bits" = some (.ref a_plus_bits)
  b_plus_bits : Binds K fd_plus_bits ["one", "other", "wide"] []
  a_minus_bits : Addr
  fd_minus_bits : FuncData
  F_minus_bits : Fun K "minus_bits" "minus_bits" s_minus_bits a_minus_bits fd_minus_bits
  g_minus_bits : mg "minus_bits" = some (.ref a_minus_bits)
  b_minus_bits : Binds K fd_minus_bits ["one", "other", "wide"] []
  a_and_bits : Addr
  fd_and_bits : FuncData
  F_and_bits : Fun K "and_bits" "and_bits" s_and_bits a_and_bits fd_and_bits
  g_and_bits : mg "and_bits" = some (.ref a_and_bits)
  b_and_bits : Binds K fd_and_bits ["one", "other"] []
  a_or_bits : Addr
  fd_or_bits : FuncData
  F_or_bits : Fun K "or_bits" "or_bits" s_or_bits a_or_bits fd_or_bits
  g_or_bits : mg "or_bits" = some (.ref a_or_bits)
  b_or_bits : Binds K fd_or_bits ["one", "other"] []
  a_either_bits : Addr
  fd_either_bits : FuncData
  F_either_bits : Fun K "either_bits" "either_bits" s_either_bits a_either_bits fd_either_bits
  g_either_bits : mg "either_bits" = some (.ref a_either_bits)
  b_either_bits : Binds K fd_either_bits ["one", "other"] []
  a_moved_bits : Addr
  fd_moved_bits : FuncData
  F_moved_bits : Fun K "moved_bits" "moved_bits" s_moved_bits a_moved_bits fd_moved_bits
  g_moved_bits : mg "moved_bits" = some (.ref a_moved_bits)
  b_moved_bits : Binds K fd_moved_bits ["word", "one", "places", "wide"] []
  a_bits_done : Addr
  fd_bits_done : FuncData
  F_bits_done : Fun K "bits_done" "bits_done" s_bits_done a_bits_done fd_bits_done
  g_bits_done : mg "bits_done" = some (.ref a_bits_done)
  d_bits_done : List Value
  v_bits_done : Vals [.int 16] d_bits_done
  b_bits_done : Binds K fd_bits_done ["word", "one", "other", "wide"] d_bits_done
  k_bits_done : KBn K fd_bits_done ["word", "one", "other", "wide"] 3 ["wide"] (fun us ws => us ++ ws) (fun vs zs => vs ++ zs)
  a_pairs_to_try : Addr
  fd_pairs_to_try : FuncData
  F_pairs_to_try : Fun K "pairs_to_try" "pairs_to_try" s_pairs_to_try a_pairs_to_try fd_pairs_to_try
  g_pairs_to_try : mg "pairs_to_try" = some (.ref a_pairs_to_try)
  b_pairs_to_try : Binds K fd_pairs_to_try ["one", "other", "bit"] []
  a_bit_pair : Addr
  fd_bit_pair : FuncData
  F_bit_pair : Fun K "bit_pair" "bit_pair" s_bit_pair a_bit_pair fd_bit_pair
  g_bit_pair : mg "bit_pair" = some (.ref a_bit_pair)
  d_bit_pair : List Value
  v_bit_pair : Vals [.int 16] d_bit_pair
  b_bit_pair : Binds K fd_bit_pair ["word", "one", "other", "bit", "wide"] d_bit_pair
  k_bit_pair : KBn K fd_bit_pair ["word", "one", "other", "bit", "wide"] 4 ["wide"] (fun us ws => us ++ ws) (fun vs zs => vs ++ zs)
  a_pool : Addr
  fd_pool : FuncData
  F_pool : Fun K "_law_pool" "_law_pool" s_pool a_pool fd_pool
  g_pool : mg "_law_pool" = some (.ref a_pool)
  b_pool : Binds K fd_pool ["_law_script", "_law_k"] []
  a_take : Addr
  fd_take : FuncData
  F_take : Fun K "_law_take" "_law_take" s_take a_take fd_take
  g_take : mg "_law_take" = some (.ref a_take)
  b_take : Binds K fd_take ["_law_pool_here", "_law_many"] []
  a_top : Addr
  fd_top : FuncData
  F_top : Fun K "_law_top" "_law_top" s_top a_top fd_top
  g_top : mg "_law_top" = some (.ref a_top)
  b_top : Binds K fd_top ["_law_size"] []
  a_bits : Addr
  fd_bits : FuncData
  F_bits : Fun K "_law_bits" "_law_bits" s_bits a_bits fd_bits
  g_bits : mg "_law_bits" = some (.ref a_bits)
  b_bits : Binds K fd_bits ["_law_pool_here", "_law_size"] []
  a_l_done : Addr
  fd_l_done : FuncData
  F_l_done : Fun K "_law_done" "_law_done" s_l_done a_l_done fd_l_done
  g_l_done : mg "_law_done" = some (.ref a_l_done)
  b_l_done : Binds K fd_l_done ["_law_word", "_law_one", "_law_other", "_law_size"] []
  a_is_held : Addr
  fd_is_held : FuncData
  F_is_held : Fun K "_law_is_held" "_law_is_held" s_is_held a_is_held fd_is_held
  g_is_held : mg "_law_is_held" = some (.ref a_is_held)
  b_is_held : Binds K fd_is_held ["_law_bits_here", "_law_worth", "_law_size"] []
  a_so : Addr
  fd_so : FuncData
  F_so : Fun K "_law_so" "_law_so" s_so a_so fd_so
  g_so : mg "_law_so" = some (.ref a_so)
  b_so : Binds K fd_so ["_law_word", "_law_one", "_law_other", "_law_bit", "_law_size"] []
  a_refused : Addr
  fd_refused : FuncData
  F_refused : Fun K "_law_refused" "_law_refused" s_refused a_refused fd_refused
  g_refused : mg "_law_refused" = some (.ref a_refused)
  b_refused : Binds K fd_refused ["_law_word", "_law_one", "_law_other", "_law_bit", "_law_size"] []
  a_BIT_WORDS : Addr
  g_BIT_WORDS : mg "BIT_WORDS" = some (.ref a_BIT_WORDS)
  q_BIT_WORDS : ∀ H : Hp, SqT K H a_BIT_WORDS [.str "plus", .str "minus", .str "and", .str "or", .str "either", .str "left", .str "right"]
  a_DEEDS : Addr
  g_DEEDS : mg "DEEDS" = some (.ref a_DEEDS)
  q_DEEDS : ∀ H : Hp, SqT K H a_DEEDS [.str "plus", .str "minus", .str "times", .str "and", .str "or", .str "either", .str "left", .str "right"]
  a_MOVES : Addr
  g_MOVES : mg "MOVES" = some (.ref a_MOVES)
  q_MOVES : ∀ H : Hp, SqT K H a_MOVES [.str "left", .str "right"]
  b_ValueError : mg "ValueError" = none
  b_abs : mg "abs" = none
  b_bool : mg "bool" = none
  b_enumerate : mg "enumerate" = none
  b_int : mg "int" = none
  b_isinstance : mg "isinstance" = none
  b_len : mg "len" = none
  b_max : mg "max" = none
  b_min : mg "min" = none
  b_range : mg "range" = none
  b_repr : mg "repr" = none
  b_str : mg "str" = none
  b_sum : mg "sum" = none
  b_tuple : mg "tuple" = none
  a_GateError : Addr
  g_GateError : mg "GateError" = some (.ref a_GateError)
  i_GateError : ClsI K a_GateError
  a_NoBit : Addr
  g_NoBit : mg "NoBit" = some (.ref a_NoBit)
  i_NoBit : ClsI K a_NoBit
  a_NoWord : Addr
  g_NoWord : mg "NoWord" = some (.ref a_NoWord)
  i_NoWord : ClsI K a_NoWord
  r_NoBit : Refl K a_NoBit
  s_NoBit_GateError : PySem.W.subIn K (.ref a_NoBit) (.ref a_GateError) = some true
  s_NoBit_NoBit : PySem.W.subIn K (.ref a_NoBit) (.ref a_NoBit) = some true
  s_NoBit_NoWord : PySem.W.subIn K (.ref a_NoBit) (.ref a_NoWord) = some false
  v_NoBit : PySem.W.subIn K (.ref a_NoBit) (.type "ValueError") = some true
local macro_rules | `(tactic| walk_at "side") => `(tactic| first
  | (show (0 : Int) < _; first | decide | omega)
  | (show (0 : Int) ≤ _; first | decide | omega)
  | exact cdiv64 (by first | decide | omega) (by first | decide | omega)
  | (show CMul _ _; first | exact Or.inl ⟨by omega, by omega⟩ | exact Or.inr ⟨by omega, by omega⟩ | exact Or.inr (by split; exact ⟨by omega, by omega⟩; exact ⟨by omega, by omega⟩))
  | (show CPow _ _; exact ⟨by first | decide | omega, by first | decide | omega, by first | decide | omega⟩))
local macro_rules | `(tactic| walk_at "rd") => `(tactic| repeat (first
  | ((with_reducible refine' rd_var ?h ?_); (case h => exact rfl))
  | (with_reducible refine' rd_c ?_)
  | (with_reducible refine' rd_op ?_)
  | (with_reducible refine' rd_un ?_)
  | (with_reducible refine' rd_I0 ?_)
  | ((with_reducible refine' rd_I ?h ?_); (case h => walk_at "side"))
  | (with_reducible refine' rd_U ?_)
  | ((with_reducible refine' rd_eq ?h ?_); (case h => exact rfl))
  | ((with_reducible refine' rd_ne ?h ?_); (case h => exact rfl))
  | (with_reducible refine' rd_test ?_)
  | (with_reducible refine' rd_B ?_)
  | (with_reducible refine' rd_bl ?_)
  | (with_reducible refine' rd_not ?_)
  | (with_reducible refine' rd_and ?_)
  | (with_reducible refine' rd_or ?_)
  | (with_reducible refine' rd_andV ?_)
  | (with_reducible refine' rd_orV ?_)
  | (with_reducible refine' rd_notV ?_)
  | (with_reducible refine' rd_if ?_)
  | (with_reducible refine' rd_chain ?_)
  | (with_reducible refine' rd_seq ?_)
  | (with_reducible refine' rd_next ?_)
  | (with_reducible refine' rd_asg ?_)
  | (with_reducible refine' rd_name ?_)
  | (with_reducible refine' rd_gsub ?_)
  | (with_reducible refine' rd_ret ?_)
  | (with_reducible refine' rd_ifS ?_)
  | (with_reducible refine' rd_nil ?_)
  | (with_reducible refine' rd_cons ?_)
  | (with_reducible refine' rd_CB ?_)
  | (with_reducible refine' rd_call ?_)
  | (with_reducible refine' rd_callN ?_)
  | ((with_reducible refine' rd_ixL ?h ?e ?_); (case h => first | exact SqL.of (by assumption) | exact SqL.of upd_same | assumption); (case e => exact rfl))
  | ((with_reducible refine' rd_ixT ?h ?e ?_); (case h => first | exact SqT.of (by assumption) | exact SqT.of upd_same | assumption); (case e => exact rfl))
  | ((with_reducible refine' rd_setL ?h ?e ?_); (case h => first | assumption | exact upd_same); (case e => exact rfl))
  | (with_reducible refine' rd_sl ?_)
  | (with_reducible refine' rd_nopart ?_)
  | (with_reducible refine' rd_part ?_)
  | (with_reducible refine' rd_lst ?_)
  | (with_reducible refine' rd_tup ?_)
  | ((with_reducible refine' rd_sz ?h ?_); (case h => first | (simp only [List.length_cons, List.length_nil]; decide)))
  | (with_reducible refine' rd_dnew ?_)
  | (with_reducible refine' rd_for ?_)
  | (with_reducible refine' rd_rng1 ?_)
  | (with_reducible refine' rd_ilist ?_)
  | (with_reducible refine' rd_itup ?_)
  | (with_reducible refine' rd_match ?_)
  | (with_reducible refine' rd_my ?_)
  | ((with_reducible refine' rd_mn ?h ?_); (case h => decide))
  | (with_reducible refine' rd_many ?_)
  | (with_reducible refine' rd_lc ?_)
  | (with_reducible refine' rd_yes ?_)
  | (with_reducible refine' rd_gcons ?_)
  | (with_reducible refine' rd_gnil ?_)
  | (with_reducible refine' iteT ?_)
  | (with_reducible refine' iteF ?_)
  | ((with_reducible refine' rd_len ?h ?_); (case h => first | assumption | exact SqL.of (by assumption)))
  | (with_reducible refine' rd_int1 ?_)
  | (with_reducible refine' rd_int2 ?_)
  | (with_reducible refine' rd_intp ?_)
  | (with_reducible refine' rd_ofb ?_)
  | (with_reducible refine' rd_two ?_)
  | (with_reducible refine' rd_drop ?_)
  | (with_reducible refine' rd_par3 ?_)
  | (with_reducible refine' rd_par2 ?_)
  | (with_reducible refine' ex2 ?_)
  | (with_reducible refine' ex3 ?_)
  | (with_reducible refine' rd_callD ?_)
  | (with_reducible refine' rd_disp ?_)
  | (with_reducible refine' rd_pcons ?_)
  | (with_reducible refine' rd_pnil ?_)
  | (with_reducible refine' rd_dget ?_)
  | (with_reducible refine' rd_try ?_)
  | (with_reducible refine' rd_keep ?_)
  | (with_reducible refine' rd_ends ?_)
  | (with_reducible refine' rd_callNX ?_)
  | (with_reducible refine' rd_dsetd ?_)
  | (with_reducible refine' rd_ienumT ?_)
  | (with_reducible refine' rd_bm ?_)))
section
variable {P : Program} {w : World} {K : PySem.W.Frag} {mg : Str → Option Value} {base : Heap}
theorem ok_take (T : Txt K mg) : FnOk P w K mg base CX0 1 T.a_take T.fd_take ["_law_pool_here", "_law_many"] spTake := by
  refine T.F_take.ok sc_take (fun vs H Q E h => by obtain ⟨p, m, rfl, _⟩ := h; rfl) (fun cdv A outer s H vs Q E hr h => ?_)
  obtain ⟨p, m, rfl, ⟨a, b, hp⟩, m0, m1, q⟩ := h
  refine ⟨_, (pss_cons (ps_if (pt_cmpR op_gt (pe_ix ix_list (pv 0) pe_int (fun _ _ => rfl)) pe_int (nomark _))
  (pss_cons (ps_set (i := 2) sc_take.nd rfl (.inl rfl) (pe_op op_mod (pe_ix ix_list (pv 0) pe_int (fun _ _ => rfl)) (pv 1)))
 (pss_cons (ps_asg (pe_op op_fdivW (pe_ix ix_list (pv 0) pe_int (fun _ _ => rfl)) (pv 1)) (pg_sub (pv 0) pe_int set_list))
 (pss_one (ps_ret (pv 2)))))
  pss_nil)
 (pss_cons (ps_asg (pe_op op_mod (pe_op op_add (pe_op op_mul (pe_ix ix_list (pv 0) pe_int (fun _ _ => rfl)) pe_int) pe_int) pe_int) (pg_sub (pv 0) pe_int set_list))
 (pss_one (ps_ret (pe_op op_mod (pe_op op_fdivW (pe_op op_mod (pe_op op_mul (pe_ix ix_list (pv 0) pe_int (fun _ _ => rfl)) (pe_ix ix_list (pv 0) pe_int (fun _ _ => rfl))) pe_int) pe_int) (pv 1)))))), ?_⟩
  walk_at "rd"
  refine ite2 (fun c => ?_) (fun c => ?_)
  · walk_at "rd"
    exact q _ _ (Int.emod_nonneg _ (by omega)) (Int.emod_lt_of_pos _ m0) ⟨⟨_, _, upd_same⟩, fun c o n e => by rw [upd_ne n]; exact e⟩
  · walk_at "rd"
    exact q _ _ (Int.emod_nonneg _ (by omega)) (Int.emod_lt_of_pos _ m0) ⟨⟨_, _, upd_same⟩, fun c o n e => by rw [upd_ne n]; exact e⟩
theorem ok_pool (T : Txt K mg) : FnOk P w K mg base CX0 1 T.a_pool T.fd_pool ["_law_script", "_law_k"] (spPool K) := by
  refine T.F_pool.ok sc_pool (fun vs H Q E h => by obtain ⟨a, ns, k, rfl, _⟩ := h; rfl) (fun cdv A outer s H vs Q E hr h => ?_)
  obtain ⟨a, ns, k, rfl, hS, k0, k1, q⟩ := h
  refine ⟨_, (pss_cons (ps_set (i := 2) sc_pool.nd rfl (.inl rfl) (pe_op op_add (pe_op op_mul pe_int (pe_callB (cr_sum rfl) (by rfl) T.b_sum (by decide +kernel) (pa_cons (pe_slice sl_list (pv 0) po_none (po_some pe_int)) pa_nil))) (pv 1)))
 (pss_cons (ps_if (pt_cmpR op_lt (pv 1) (pe_callB call_len_seq (by rfl) T.b_len (by decide +kernel) (pa_cons (pv 0) pa_nil)) (nomark _))
  (pss_one (ps_set (i := 2) sc_pool.nd rfl (.inl rfl) (pe_ix ix_list (pv 0) (pv 1) (fun _ _ => rfl))))
  pss_nil)
 (pss_cons (ps_set (i := 3) sc_pool.nd rfl (.inl rfl) (pe_callB call_abs (by rfl) T.b_abs (by decide +kernel) (pa_cons (pv 2) pa_nil)))
 (pss_cons (ps_set (i := 4) sc_pool.nd rfl (.inl rfl) (pe_op op_mod (pe_op op_mul (pe_op op_add (pe_op op_add (pe_op op_add (pe_op op_mod (pv 3) pe_int) (pe_op op_mul (pe_op op_mul pe_int (pv 1)) (pv 1))) (pe_op op_mul pe_int (pv 1))) pe_int) pe_int) pe_int))
 (pss_one (ps_ret (pe_lstN (pa_cons (pe_op op_mul (pv 3) (pe_callTy call_int1 (by rfl) T.b_int (by decide +kernel) (pa_cons (pe_cmpR op_ge (pv 3) (pe_op op_pow pe_int pe_int) (nomark _)) pa_nil))) (pa_cons (pe_op op_mod (pe_op op_mul (pv 4) (pv 4)) pe_int) pa_nil))))))))), ?_⟩
  walk_at "rd"
  refine rd_slL hS (fun c Hc nc sc hc => ?_)
  walk_at "rd"
  obtain ⟨ms, em⟩ := cut_map ns none (some 63)
  refine rd_sum (SqL.of hc) em ?_
  have hS1 : SqL K Hc a (ns.map V.int) := sc.seq hS
  walk_at "rd"
  refine ite2 (fun c => ?_) (fun c => ?_)
  · obtain ⟨z, ez⟩ := atI_int (xs := ns.map V.int) (i := k) (fun v hv => by obtain ⟨z, _, e⟩ := List.mem_map.mp hv; exact ⟨z, e.symm⟩) k0 (of_decide_eq_true c)
    walk_at "rd"
    refine rd_ixL hS1 ez ?_
    walk_at "rd"
    exact fun p H' np sp hp => q H' p (sc.free np) (sc.trans sp) ⟨_, _, hp⟩
  · walk_at "rd"
    exact fun p H' np sp hp => q H' p (sc.free np) (sc.trans sp) ⟨_, _, hp⟩
theorem ok_top (T : Txt K mg) : FnOk P w K mg base CX0 1 T.a_top T.fd_top ["_law_size"] spTop := by
  refine T.F_top.ok sc_top (fun vs H Q E h => by obtain ⟨n, rfl, _⟩ := h; rfl) (fun cdv A outer s H vs Q E hr h => ?_)
  obtain ⟨n, rfl, hn, q⟩ := h
  refine ⟨_, (pss_one (ps_ret (pe_op op_sub (pe_op op_shl pe_int (pv 0)) pe_int))), ?_⟩
  walk_at "rd"
  rw [Int.one_mul, Int.toNat_natCast]
  exact q
theorem ok_bits (T : Txt K mg) : FnOk P w K mg base CX0 2 T.a_bits T.fd_bits ["_law_pool_here", "_law_size"] spBits := by
  refine T.F_bits.ok sc_bits (fun vs H Q E h => by obtain ⟨p, n, rfl, _⟩ := h; rfl) (fun cdv A outer s H vs Q E hr h => ?_)
  obtain ⟨p, n, rfl, n1, n2, hp, q⟩ := h
  have pw := pow_lt64 (n := n) (by omega)
  have pp := two_le n1
  refine ⟨_, (pss_cons (ps_set (i := 2) sc_bits.nd rfl (.inl rfl) (pe_call (ok_top T) (hr.mono (by decide)) (by rfl) T.g_top T.F_top.kp T.b_top .nil pass0 (pa_cons (pv 1) pa_nil)))
 (pss_cons (ps_set (i := 3) sc_bits.nd rfl (.inl rfl) (pe_ix ix_list (pe_lstN (pa_cons pe_int (pa_cons (pv 2) (pa_cons (pe_call (ok_take T) (hr.mono (by decide)) (by rfl) T.g_take T.F_take.kp T.b_take .nil pass0 (pa_cons (pv 0) (pa_cons (pe_op op_add (pv 2) pe_int) pa_nil))) (pa_cons (pe_op op_shl pe_int (pe_call (ok_take T) (hr.mono (by decide)) (by rfl) T.g_take T.F_take.kp T.b_take .nil pass0 (pa_cons (pv 0) (pa_cons (pv 1) pa_nil)))) pa_nil))))) (pe_call (ok_take T) (hr.mono (by decide)) (by rfl) T.g_take T.F_take.kp T.b_take .nil pass0 (pa_cons (pv 0) (pa_cons pe_int pa_nil))) (fun _ _ => rfl)))
 (pss_one (ps_ret (pe_tupN (pa_cons (pe_op op_and (pe_call (ok_take T) (hr.mono (by decide)) (by rfl) T.g_take T.F_take.kp T.b_take .nil pass0 (pa_cons (pv 0) (pa_cons (pe_op op_add (pv 2) pe_int) pa_nil))) (pe_op op_xor (pv 2) (pv 3))) (pa_cons (pv 3) pa_nil))))))), ?_⟩
  walk_at "rd"
  refine ⟨n, rfl, by omega, ?_⟩
  walk_at "rd"
  refine ⟨p, _, rfl, hp, by omega, by omega, fun r H1 r0 r1 k1 => ?_⟩
  walk_at "rd"
  refine ⟨p, _, rfl, k1.1, by omega, by omega, fun s1 H2 s0 s2 k2 => ?_⟩
  walk_at "rd"
  refine fun c Hc nc sc hc => ?_
  walk_at "rd"
  have k3 := (k1.trans k2).same sc
  refine ⟨p, 4, rfl, k3.1, by decide, by decide, fun x H3 x0 x1 k4 => ?_⟩
  walk_at "rd"
  replace hc := k4.at ((k1.trans k2).1.ne nc) hc
  have es : (1 : Int) * 2 ^ s1.toNat < 2 ^ n := by
    rw [Int.one_mul, pow_cast, pow_cast]
    exact Int.ofNat_lt.mpr (Nat.pow_lt_pow_right (by decide) (by omega))
  have es0 : (0 : Int) < 1 * 2 ^ s1.toNat := by rw [Int.one_mul]; exact pow_pos2 _
  obtain ⟨uv, eu, mu⟩ := atI_in (xs := [V.int 0, V.int (2 ^ n - 1), V.int r, V.int (1 * 2 ^ s1.toNat)]) x0 x1
  obtain ⟨u, rfl, u0, u1⟩ : ∃ u : Int, uv = .int u ∧ 0 ≤ u ∧ u < 2 ^ n := by
    simp only [List.mem_cons, List.not_mem_nil, or_false] at mu
    rcases mu with rfl | rfl | rfl | rfl
    · exact ⟨_, rfl, by omega, by omega⟩
    · exact ⟨_, rfl, by omega, by omega⟩
    · exact ⟨_, rfl, by omega, by omega⟩
    · exact ⟨_, rfl, by omega, by omega⟩
  refine rd_ixL (SqL.of hc) eu ?_
  walk_at "rd"
  have k5 := k3.trans k4
  refine ⟨p, _, rfl, k5.1, by omega, by omega, fun v H4 v0 v1 k6 => ?_⟩
  walk_at "rd"
  refine fun t H5 nt s5 ht => ?_
  obtain ⟨h0, h1, h2⟩ := held_of v0 (show v < 2 ^ n by omega) u0 u1
  have k7 := k5.trans k6
  exact q _ u t H5 ⟨h0, h1, u0, u1, h2⟩ (k7.free nt) (k7.same s5) ht
theorem ok_is_among (T : Txt K mg) : FnOk P w K mg base CX0 1 T.a_is_among T.fd_is_among ["word", "words"] (spAmong K) := by
  refine T.F_is_among.ok sc_is_among (fun vs H Q E h => by obtain ⟨x, d, a, ws, rfl, _⟩ := h; rfl) (fun cdv A outer s H vs Q E hr h => ?_)
  obtain ⟨x, d, a, ws, rfl, dz, hs, q⟩ := h
  refine ⟨_, (pss_one (ps_ret (pe_and (pe_callB call_isi (by rfl) T.b_isinstance (by decide +kernel) (pa_cons (pv 0) (pa_cons (pe_bltn (v := .ty "str") (by rfl) T.b_str (by decide +kernel) rfl) pa_nil))) (pe_one (pe_cmpR op_in_seq (pv 0) (pv 1) (by rfl)))))), ?_⟩
  walk_at "rd"
  refine rd_isStr dz ?_
  walk_at "rd"
  cases d with
  | str z =>
    obtain rfl : x = .str z := by cases dz with | dat h => cases h; rfl
    refine ite_b rfl ?_
    walk_at "rd"
    refine ⟨a, _, rfl, .inr hs, rfl, strs_flat ws, ?_⟩
    rw [in_strs]
    exact q
  | _ => exact ite_n rfl q
theorem ok_greatest (T : Txt K mg) : FnOk P w K mg base CX0 1 T.a_greatest T.fd_greatest ["wide"] spGreatest := by
  refine T.F_greatest.ok sc_greatest (fun vs H Q E h => by obtain ⟨n, rfl, _⟩ := h; rfl) (fun cdv A outer s H vs Q E hr h => ?_)
  obtain ⟨n, rfl, hn, q⟩ := h
  refine ⟨_, (pss_one (ps_ret (pe_op op_sub (pe_op op_shl pe_int (pv 0)) pe_int))), ?_⟩
  walk_at "rd"
  rw [Int.one_mul, Int.toNat_natCast]
  exact q
theorem ok_moved_left (T : Txt K mg) : FnOk P w K mg base CX0 2 T.a_moved_left T.fd_moved_left ["worth", "places", "wide"] (spMv true) := by
  refine T.F_moved_left.ok sc_moved_left (fun vs H Q E h => by obtain ⟨a, j, n, rfl, _⟩ := h; rfl) (fun cdv A outer s H vs Q E hr h => ?_)
  obtain ⟨a, j, n, rfl, ha, hn, q⟩ := h
  have hs := nat_small ha hn
  refine ⟨_, (pss_cons (ps_if (pt_cmpR op_ge (pv 1) (pv 2) (nomark _))
  (pss_one (ps_ret pe_int))
  pss_nil)
 (pss_one (ps_ret (pe_op op_and (pe_op op_shl (pv 0) (pv 1)) (pe_call (ok_greatest T) (hr.mono (by decide)) (by rfl) T.g_greatest T.F_greatest.kp T.b_greatest .nil pass0 (pa_cons (pv 2) pa_nil)))))), ?_⟩
  walk_at "rd"
  refine ite2 (fun c => ?_) (fun c => ?_)
  · walk_at "rd"
    rw [mv_zero (by have := of_decide_eq_true c; omega)] at q
    exact q
  · have hj : ¬ n ≤ j := fun z => c (decide_eq_true (by omega))
    walk_at "rd"
    refine ⟨n, rfl, by omega, ?_⟩
    walk_at "rd"
    rw [mvl_eq hj]
    exact q
theorem ok_moved_right (T : Txt K mg) : FnOk P w K mg base CX0 1 T.a_moved_right T.fd_moved_right ["worth", "places", "wide"] (spMv false) := by
  refine T.F_moved_right.ok sc_moved_right (fun vs H Q E h => by obtain ⟨a, j, n, rfl, _⟩ := h; rfl) (fun cdv A outer s H vs Q E hr h => ?_)
  obtain ⟨a, j, n, rfl, ha, hn, q⟩ := h
  refine ⟨_, (pss_cons (ps_if (pt_cmpR op_ge (pv 1) (pv 2) (nomark _))
  (pss_one (ps_ret pe_int))
  pss_nil)
 (pss_one (ps_ret (pe_op op_shr (pv 0) (pv 1))))), ?_⟩
  walk_at "rd"
  refine ite2 (fun c => ?_) (fun c => ?_)
  · walk_at "rd"
    rw [mv_zero (by have := of_decide_eq_true c; omega)] at q
    exact q
  · have hj : ¬ n ≤ j := fun z => c (decide_eq_true (by omega))
    walk_at "rd"
    rw [mvr_eq hj]
    exact q
theorem ok_done (T : Txt K mg) : FnOk P w K mg base CX0 3 T.a_done T.fd_done ["word", "one", "other", "wide"] spDone := by
  refine T.F_done.ok sc_done (fun vs H Q E h => by obtain ⟨o, a, b, n, rfl, _⟩ := h; rfl) (fun cdv A outer s H vs Q E hr h => ?_)
  obtain ⟨o, a, b, n, rfl, ha, hn, hb, q⟩ := h
  have hs := nat_small ha hn
  refine ⟨_, (pss_cons (ps_if (pt_not (pt_val (pe_call (ok_is_among T) (hr.mono (by decide)) (by rfl) T.g_is_among T.F_is_among.kp T.b_is_among .nil pass0 (pa_cons (pv 0) (pa_cons (pe_glob (v := .ref T.a_DEEDS) (by rfl) T.g_DEEDS rfl) pa_nil)))))
  (pss_one ps_never)
  pss_nil)
 (pss_one (ps_match (pv 0) (pm_str (pss_one (ps_ret (pe_op op_and (pe_op op_add (pv 1) (pv 2)) (pe_call (ok_greatest T) (hr.mono (by decide)) (by rfl) T.g_greatest T.F_greatest.kp T.b_greatest .nil pass0 (pa_cons (pv 3) pa_nil)))))
  (pm_str (pss_one (ps_ret (pe_op op_and (pe_op op_sub (pv 1) (pv 2)) (pe_call (ok_greatest T) (hr.mono (by decide)) (by rfl) T.g_greatest T.F_greatest.kp T.b_greatest .nil pass0 (pa_cons (pv 3) pa_nil)))))
  (pm_str (pss_one (ps_ret (pe_op op_and (pe_op op_mul (pv 1) (pv 2)) (pe_call (ok_greatest T) (hr.mono (by decide)) (by rfl) T.g_greatest T.F_greatest.kp T.b_greatest .nil pass0 (pa_cons (pv 3) pa_nil)))))
  (pm_str (pss_one (ps_ret (pe_op op_and (pv 1) (pv 2))))
  (pm_str (pss_one (ps_ret (pe_op op_or (pv 1) (pv 2))))
  (pm_str (pss_one (ps_ret (pe_op op_xor (pv 1) (pv 2))))
  (pm_str (pss_one (ps_ret (pe_call (ok_moved_left T) (hr.mono (by decide)) (by rfl) T.g_moved_left T.F_moved_left.kp T.b_moved_left .nil pass0 (pa_cons (pv 1) (pa_cons (pv 2) (pa_cons (pv 3) pa_nil))))))
  (pm_any (pss_one (ps_ret (pe_call (ok_moved_right T) (hr.mono (by decide)) (by rfl) T.g_moved_right T.F_moved_right.kp T.b_moved_right .nil pass0 (pa_cons (pv 1) (pa_cons (pv 2) (pa_cons (pv 3) pa_nil))))))))))))))))), ?_⟩
  walk_at "rd"
  refine ⟨_, .str (opW o), T.a_DEEDS, deedsS, rfl, .dat (.str _), T.q_DEEDS H, ?_⟩
  rw [op_among]
  walk_at "rd"
  refine ite_n rfl ?_
  cases o with
  | plus =>
    dsimp only [opW]
    walk_at "rd"
    refine ⟨n, rfl, by omega, ?_⟩
    walk_at "rd"
    rw [plus_eq]
    exact q
  | minus =>
    dsimp only [opW]
    walk_at "rd"
    refine ⟨n, rfl, by omega, ?_⟩
    walk_at "rd"
    rw [minus_eq (hb.resolve_right (fun z => by cases z))]
    exact q
  | times =>
    dsimp only [opW]
    walk_at "rd"
    refine ⟨n, rfl, by omega, ?_⟩
    walk_at "rd"
    rw [times_eq]
    exact q
  | and =>
    dsimp only [opW]
    walk_at "rd"
    rw [bA]
    exact q
  | or =>
    dsimp only [opW]
    walk_at "rd"
    rw [bO]
    exact q
  | either =>
    dsimp only [opW]
    walk_at "rd"
    rw [bX]
    exact q
  | left =>
    dsimp only [opW]
    walk_at "rd"
    exact ⟨a, b, n, rfl, ha, hn, q⟩
  | right =>
    dsimp only [opW]
    walk_at "rd"
    exact ⟨a, b, n, rfl, ha, hn, q⟩
theorem ok_is_whole (T : Txt K mg) : FnOk P w K mg base CX0 1 T.a_is_whole T.fd_is_whole ["thing"] (spWhole K) := by
  refine T.F_is_whole.ok sc_is_whole (fun vs H Q E h => by obtain ⟨x, d, rfl, _⟩ := h; rfl) (fun cdv A outer s H vs Q E hr h => ?_)
  obtain ⟨x, d, rfl, k, q⟩ := h
  refine ⟨_, (pss_one (ps_ret (pe_and (pe_callB call_isi (by rfl) T.b_isinstance (by decide +kernel) (pa_cons (pv 0) (pa_cons (pe_bltn (v := .ty "int") (by rfl) T.b_int (by decide +kernel) rfl) pa_nil))) (pe_one (pe_not (pe_callB call_isi (by rfl) T.b_isinstance (by decide +kernel) (pa_cons (pv 0) (pa_cons (pe_bltn (v := .ty "bool") (by rfl) T.b_bool (by decide +kernel) rfl) pa_nil)))))))), ?_⟩
  walk_at "rd"
  refine rd_isInt k ?_
  walk_at "rd"
  refine ite2 (fun c => ?_) (fun c => ?_)
  · walk_at "rd"
    refine rd_isBool k ?_
    walk_at "rd"
    have z : (!isBoolD d) = wholeD d := by cases d <;> first | rfl | exact absurd c Bool.false_ne_true
    rw [z]
    exact q
  · have z : wholeD d = false := by cases d <;> first | rfl | exact absurd rfl c
    rw [z] at q
    exact q
def spOp3 (o : Op) (K : PySem.W.Frag) : Sp := fun vs H Q _ => ∃ (t1 t2 : Addr) (v1 u1 v2 u2 n : Nat), vs = [.ref t1, .ref t2, .int n] ∧ SqT K H t1 [.int v1, .int u1] ∧ SqT K H t2 [.int v2, .int u2] ∧ Sb n v1 u1 ∧ Sb n v2 u2 ∧ n ≤ 32 ∧ ∀ dv du, Due o n v1 u1 v2 u2 dv du → NewAt H (.tup [.int dv, .int du]) fun p H' => Q (.ref p) H'
def spOp2 (o : Op) (K : PySem.W.Frag) : Sp := fun vs H Q _ => ∃ (t1 t2 : Addr) (v1 u1 v2 u2 n : Nat), vs = [.ref t1, .ref t2] ∧ SqT K H t1 [.int v1, .int u1] ∧ SqT K H t2 [.int v2, .int u2] ∧ Sb n v1 u1 ∧ Sb n v2 u2 ∧ n ≤ 32 ∧ ∀ dv du, Due o n v1 u1 v2 u2 dv du → NewAt H (.tup [.int dv, .int du]) fun p H' => Q (.ref p) H'
theorem ok_plus_bits (T : Txt K mg) : FnOk P w K mg base CX0 2 T.a_plus_bits T.fd_plus_bits ["one", "other", "wide"] (spOp3 .plus K) := by
  refine T.F_plus_bits.ok sc_plus_bits (fun vs H Q E h => by obtain ⟨t1, t2, v1, u1, v2, u2, n, rfl, _⟩ := h; rfl) (fun cdv A outer s H vs Q E hr h => ?_)
  obtain ⟨t1, t2, v1, u1, v2, u2, n, rfl, h1, h2, s1, s2, n32, q⟩ := h
  refine ⟨_, (pss_cons (ps_set (i := 3) sc_plus_bits.nd rfl (.inl rfl) (pe_op op_add (pe_ix ix_tup (pv 0) pe_int (fun _ _ => rfl)) (pe_ix ix_tup (pv 1) pe_int (fun _ _ => rfl))))
 (pss_cons (ps_set (i := 4) sc_plus_bits.nd rfl (.inl rfl) (pe_op op_add (pe_op op_add (pv 3) (pe_ix ix_tup (pv 0) pe_int (fun _ _ => rfl))) (pe_ix ix_tup (pv 1) pe_int (fun _ _ => rfl))))
 (pss_cons (ps_set (i := 5) sc_plus_bits.nd rfl (.inl rfl) (pe_op op_and (pe_op op_or (pe_op op_or (pe_op op_xor (pv 3) (pv 4)) (pe_ix ix_tup (pv 0) pe_int (fun _ _ => rfl))) (pe_ix ix_tup (pv 1) pe_int (fun _ _ => rfl))) (pe_call (ok_greatest T) (hr.mono (by decide)) (by rfl) T.g_greatest T.F_greatest.kp T.b_greatest .nil pass0 (pa_cons (pv 2) pa_nil))))
 (pss_one (ps_ret (pe_tupN (pa_cons (pe_op op_and (pe_op op_and (pv 3) (pe_un un_inv (pv 5))) (pe_call (ok_greatest T) (hr.mono (by decide)) (by rfl) T.g_greatest T.F_greatest.kp T.b_greatest .nil pass0 (pa_cons (pv 2) pa_nil))) (pa_cons (pv 5) pa_nil)))))))), ?_⟩
  walk_at "rd"
  refine ⟨n, rfl, by omega, ?_⟩
  walk_at "rd"
  refine ⟨n, rfl, by omega, ?_⟩
  rw [PySem.W.kbt_mask, mk_eq]
  walk_at "rd"
  rw [PySem.W.kbt_mask, mk_eq]
  exact q _ _ (plus_due s1 s2)
theorem ok_minus_bits (T : Txt K mg) : FnOk P w K mg base CX0 2 T.a_minus_bits T.fd_minus_bits ["one", "other", "wide"] (spOp3 .minus K) := by
  refine T.F_minus_bits.ok sc_minus_bits (fun vs H Q E h => by obtain ⟨t1, t2, v1, u1, v2, u2, n, rfl, _⟩ := h; rfl) (fun cdv A outer s H vs Q E hr h => ?_)
  obtain ⟨t1, t2, v1, u1, v2, u2, n, rfl, h1, h2, s1, s2, n32, q⟩ := h
  refine ⟨_, (pss_cons (ps_set (i := 3) sc_minus_bits.nd rfl (.inl rfl) (pe_op op_sub (pe_ix ix_tup (pv 0) pe_int (fun _ _ => rfl)) (pe_ix ix_tup (pv 1) pe_int (fun _ _ => rfl))))
 (pss_cons (ps_set (i := 4) sc_minus_bits.nd rfl (.inl rfl) (pe_op op_add (pv 3) (pe_ix ix_tup (pv 0) pe_int (fun _ _ => rfl))))
 (pss_cons (ps_set (i := 5) sc_minus_bits.nd rfl (.inl rfl) (pe_op op_sub (pv 3) (pe_ix ix_tup (pv 1) pe_int (fun _ _ => rfl))))
 (pss_cons (ps_set (i := 6) sc_minus_bits.nd rfl (.inl rfl) (pe_op op_and (pe_op op_or (pe_op op_or (pe_op op_xor (pv 5) (pv 4)) (pe_ix ix_tup (pv 0) pe_int (fun _ _ => rfl))) (pe_ix ix_tup (pv 1) pe_int (fun _ _ => rfl))) (pe_call (ok_greatest T) (hr.mono (by decide)) (by rfl) T.g_greatest T.F_greatest.kp T.b_greatest .nil pass0 (pa_cons (pv 2) pa_nil))))
 (pss_one (ps_ret (pe_tupN (pa_cons (pe_op op_and (pe_op op_and (pv 3) (pe_un un_inv (pv 6))) (pe_call (ok_greatest T) (hr.mono (by decide)) (by rfl) T.g_greatest T.F_greatest.kp T.b_greatest .nil pass0 (pa_cons (pv 2) pa_nil))) (pa_cons (pv 6) pa_nil))))))))), ?_⟩
  walk_at "rd"
  refine ⟨n, rfl, by omega, ?_⟩
  walk_at "rd"
  refine ⟨n, rfl, by omega, ?_⟩
  rw [PySem.W.kbt_mask, mk_eq]
  walk_at "rd"
  rw [PySem.W.kbt_mask, mk_eq]
  exact q _ _ (minus_due s1 s2)
theorem ok_and_bits (T : Txt K mg) : FnOk P w K mg base CX0 2 T.a_and_bits T.fd_and_bits ["one", "other"] (spOp2 .and K) := by
  refine T.F_and_bits.ok sc_and_bits (fun vs H Q E h => by obtain ⟨t1, t2, v1, u1, v2, u2, n, rfl, _⟩ := h; rfl) (fun cdv A outer s H vs Q E hr h => ?_)
  obtain ⟨t1, t2, v1, u1, v2, u2, n, rfl, h1, h2, s1, s2, n32, q⟩ := h
  refine ⟨_, (pss_cons (ps_set (i := 2) sc_and_bits.nd rfl (.inl rfl) (pe_op op_and (pe_ix ix_tup (pv 0) pe_int (fun _ _ => rfl)) (pe_ix ix_tup (pv 1) pe_int (fun _ _ => rfl))))
 (pss_cons (ps_set (i := 3) sc_and_bits.nd rfl (.inl rfl) (pe_op op_and (pe_op op_or (pe_ix ix_tup (pv 0) pe_int (fun _ _ => rfl)) (pe_ix ix_tup (pv 0) pe_int (fun _ _ => rfl))) (pe_op op_or (pe_ix ix_tup (pv 1) pe_int (fun _ _ => rfl)) (pe_ix ix_tup (pv 1) pe_int (fun _ _ => rfl)))))
 (pss_one (ps_ret (pe_tupN (pa_cons (pv 2) (pa_cons (pe_op op_and (pv 3) (pe_un un_inv (pv 2))) pa_nil))))))), ?_⟩
  walk_at "rd"
  rw [bA, bO, bO, bA, bdiff_eq]
  exact q _ _ (and_due s1 s2)
theorem ok_or_bits (T : Txt K mg) : FnOk P w K mg base CX0 2 T.a_or_bits T.fd_or_bits ["one", "other"] (spOp2 .or K) := by
  refine T.F_or_bits.ok sc_or_bits (fun vs H Q E h => by obtain ⟨t1, t2, v1, u1, v2, u2, n, rfl, _⟩ := h; rfl) (fun cdv A outer s H vs Q E hr h => ?_)
  obtain ⟨t1, t2, v1, u1, v2, u2, n, rfl, h1, h2, s1, s2, n32, q⟩ := h
  refine ⟨_, (pss_cons (ps_set (i := 2) sc_or_bits.nd rfl (.inl rfl) (pe_op op_or (pe_ix ix_tup (pv 0) pe_int (fun _ _ => rfl)) (pe_ix ix_tup (pv 1) pe_int (fun _ _ => rfl))))
 (pss_one (ps_ret (pe_tupN (pa_cons (pv 2) (pa_cons (pe_op op_and (pe_op op_or (pe_ix ix_tup (pv 0) pe_int (fun _ _ => rfl)) (pe_ix ix_tup (pv 1) pe_int (fun _ _ => rfl))) (pe_un un_inv (pv 2))) pa_nil)))))), ?_⟩
  walk_at "rd"
  rw [bO, bO, bdiff_eq]
  exact q _ _ (or_due s1 s2)
theorem ok_either_bits (T : Txt K mg) : FnOk P w K mg base CX0 2 T.a_either_bits T.fd_either_bits ["one", "other"] (spOp2 .either K) := by
  refine T.F_either_bits.ok sc_either_bits (fun vs H Q E h => by obtain ⟨t1, t2, v1, u1, v2, u2, n, rfl, _⟩ := h; rfl) (fun cdv A outer s H vs Q E hr h => ?_)
  obtain ⟨t1, t2, v1, u1, v2, u2, n, rfl, h1, h2, s1, s2, n32, q⟩ := h
  refine ⟨_, (pss_cons (ps_set (i := 2) sc_either_bits.nd rfl (.inl rfl) (pe_op op_or (pe_ix ix_tup (pv 0) pe_int (fun _ _ => rfl)) (pe_ix ix_tup (pv 1) pe_int (fun _ _ => rfl))))
 (pss_one (ps_ret (pe_tupN (pa_cons (pe_op op_and (pe_op op_xor (pe_ix ix_tup (pv 0) pe_int (fun _ _ => rfl)) (pe_ix ix_tup (pv 1) pe_int (fun _ _ => rfl))) (pe_un un_inv (pv 2))) (pa_cons (pv 2) pa_nil)))))), ?_⟩
  walk_at "rd"
  rw [bO, bX, bdiff_eq]
  exact q _ _ (either_due s1 s2)
def bitW : List Str := ["plus", "minus", "and", "or", "either", "left", "right"]
theorem ok_moved_bits (T : Txt K mg) : FnOk P w K mg base CX0 4 T.a_moved_bits T.fd_moved_bits ["word", "one", "places", "wide"] (fun vs H Q _ => ∃ (o : Op) (t : Addr) (v u j n : Nat), vs = [.str (opW o), .ref t, .int j, .int n] ∧ isMv o = true ∧ SqT K H t [.int v, .int u] ∧ v < 2 ^ n ∧ u < 2 ^ n ∧ n ≤ 32 ∧ NewAt H (.tup [.int (opV o n v j : Nat), .int (opV o n u j : Nat)]) fun p H' => Q (.ref p) H') := by
  refine T.F_moved_bits.ok sc_moved_bits (fun vs H Q E h => by obtain ⟨o, t, v, u, j, n, rfl, _⟩ := h; rfl) (fun cdv A outer s H vs Q E hr h => ?_)
  obtain ⟨o, t, v, u, j, n, rfl, ho, ht, hv, hu, hn, q⟩ := h
  refine ⟨_, (pss_one (ps_ret (pe_tupN (pa_cons (pe_callN (ok_done T) (hr.mono (by decide)) (by rfl) T.g_done T.F_done.kp T.k_done pass0 (pa_cons (pv 0) (pa_cons (pe_ix ix_tup (pv 1) pe_int (fun _ _ => rfl)) (pa_cons (pv 2) pa_nil))) (pk_cons (pv 3) pk_nil)) (pa_cons (pe_callN (ok_done T) (hr.mono (by decide)) (by rfl) T.g_done T.F_done.kp T.k_done pass0 (pa_cons (pv 0) (pa_cons (pe_ix ix_tup (pv 1) pe_int (fun _ _ => rfl)) (pa_cons (pv 2) pa_nil))) (pk_cons (pv 3) pk_nil)) pa_nil))))), ?_⟩
  walk_at "rd"
  refine ⟨rfl, rfl, o, v, j, n, rfl, hv, hn, .inr ho, ?_⟩
  walk_at "rd"
  refine ⟨rfl, rfl, o, u, j, n, rfl, hu, hn, .inr ho, ?_⟩
  walk_at "rd"
  exact q
def spBits7 (K : PySem.W.Frag) : Sp := fun vs H Q _ => ∃ (o : Op) (t1 : Addr) (by_ : V) (v1 u1 v2 u2 j n : Nat), vs = [.str (opW o), .ref t1, by_, .int n] ∧ SqT K H t1 [.int v1, .int u1] ∧ By K H n v2 u2 j o by_ ∧ Sb n v1 u1 ∧ n ≤ 32 ∧ ∀ dv du, Res o n v1 u1 v2 u2 j dv du → NewAt H (.tup [.int dv, .int du]) fun p H' => Q (.ref p) H'
theorem ok_bits_done (T : Txt K mg) : FnOk P w K mg base CX0 5 T.a_bits_done T.fd_bits_done ["word", "one", "other", "wide"] (spBits7 K) := by
  refine T.F_bits_done.ok sc_bits_done (fun vs H Q E h => by obtain ⟨o, t1, b, v1, u1, v2, u2, j, n, rfl, _⟩ := h; rfl) (fun cdv A outer s H vs Q E hr h => ?_)
  obtain ⟨o, t1, b, v1, u1, v2, u2, j, n, rfl, h1, hb, s1, n32, q⟩ := h
  refine ⟨_, (pss_cons (ps_if (pt_not (pt_val (pe_call (ok_is_among T) (hr.mono (by decide)) (by rfl) T.g_is_among T.F_is_among.kp T.b_is_among .nil pass0 (pa_cons (pv 0) (pa_cons (pe_glob (v := .ref T.a_BIT_WORDS) (by rfl) T.g_BIT_WORDS rfl) pa_nil)))))
  (pss_one ps_never)
  pss_nil)
 (pss_one (ps_match (pv 0) (pm_str (pss_one (ps_ret (pe_call (ok_plus_bits T) (hr.mono (by decide)) (by rfl) T.g_plus_bits T.F_plus_bits.kp T.b_plus_bits .nil pass0 (pa_cons (pv 1) (pa_cons (pv 2) (pa_cons (pv 3) pa_nil))))))
  (pm_str (pss_one (ps_ret (pe_call (ok_minus_bits T) (hr.mono (by decide)) (by rfl) T.g_minus_bits T.F_minus_bits.kp T.b_minus_bits .nil pass0 (pa_cons (pv 1) (pa_cons (pv 2) (pa_cons (pv 3) pa_nil))))))
  (pm_str (pss_one (ps_ret (pe_call (ok_and_bits T) (hr.mono (by decide)) (by rfl) T.g_and_bits T.F_and_bits.kp T.b_and_bits .nil pass0 (pa_cons (pv 1) (pa_cons (pv 2) pa_nil)))))
  (pm_str (pss_one (ps_ret (pe_call (ok_or_bits T) (hr.mono (by decide)) (by rfl) T.g_or_bits T.F_or_bits.kp T.b_or_bits .nil pass0 (pa_cons (pv 1) (pa_cons (pv 2) pa_nil)))))
  (pm_str (pss_one (ps_ret (pe_call (ok_either_bits T) (hr.mono (by decide)) (by rfl) T.g_either_bits T.F_either_bits.kp T.b_either_bits .nil pass0 (pa_cons (pv 1) (pa_cons (pv 2) pa_nil)))))
  (pm_any (pss_one (ps_ret (pe_call (ok_moved_bits T) (hr.mono (by decide)) (by rfl) T.g_moved_bits T.F_moved_bits.kp T.b_moved_bits .nil pass0 (pa_cons (pv 0) (pa_cons (pv 1) (pa_cons (pv 2) (pa_cons (pv 3) pa_nil)))))))))))))))), ?_⟩
  walk_at "rd"
  refine ⟨_, .str (opW o), T.a_BIT_WORDS, bitW, rfl, .dat (.str _), T.q_BIT_WORDS H, ?_⟩
  cases hb with
  | five ho h2 s2 =>
    rename_i t2
    have qq : ∀ dv du, Due o n v1 u1 v2 u2 dv du → NewAt H (.tup [.int dv, .int du]) fun p H' => Q (.ref p) H' := fun dv du d => q dv du (.inl ⟨ho, d⟩)
    cases o with
    | plus => walk_at "rd"; refine ite_n (by decide) ?_; dsimp only [opW]; walk_at "rd"; exact ⟨t1, t2, v1, u1, v2, u2, n, rfl, h1, h2, s1, s2, n32, qq⟩
    | minus => walk_at "rd"; refine ite_n (by decide) ?_; dsimp only [opW]; walk_at "rd"; exact ⟨t1, t2, v1, u1, v2, u2, n, rfl, h1, h2, s1, s2, n32, qq⟩
    | and => walk_at "rd"; refine ite_n (by decide) ?_; dsimp only [opW]; walk_at "rd"; exact ⟨t1, t2, v1, u1, v2, u2, n, rfl, h1, h2, s1, s2, n32, qq⟩
    | or => walk_at "rd"; refine ite_n (by decide) ?_; dsimp only [opW]; walk_at "rd"; exact ⟨t1, t2, v1, u1, v2, u2, n, rfl, h1, h2, s1, s2, n32, qq⟩
    | either => walk_at "rd"; refine ite_n (by decide) ?_; dsimp only [opW]; walk_at "rd"; exact ⟨t1, t2, v1, u1, v2, u2, n, rfl, h1, h2, s1, s2, n32, qq⟩
    | _ => cases ho
  | mv ho =>
    have qq : NewAt H (.tup [.int (opV o n v1 j : Nat), .int (opV o n u1 j : Nat)]) fun p H' => Q (.ref p) H' := q _ _ (.inr ⟨ho, rfl, rfl⟩)
    cases o with
    | left => walk_at "rd"; refine ite_n (by decide) ?_; dsimp only [opW]; walk_at "rd"; exact ⟨.left, t1, v1, u1, j, n, rfl, rfl, h1, s1.v1, s1.u1, n32, qq⟩
    | right => walk_at "rd"; refine ite_n (by decide) ?_; dsimp only [opW]; walk_at "rd"; exact ⟨.right, t1, v1, u1, j, n, rfl, rfl, h1, s1.v1, s1.u1, n32, qq⟩
    | _ => cases ho
def spTry (K : PySem.W.Frag) : Sp := fun vs H Q _ => ∃ (t1 t2 : Addr) (v1 u1 v2 u2 n i : Nat), vs = [.ref t1, .ref t2, .int i] ∧ SqT K H t1 [.int v1, .int u1] ∧ SqT K H t2 [.int v2, .int u2] ∧ i < 32 ∧
  ∀ p as H', H p = none → Same H H' → H' p = some (.tup (as.map V.ref)) → Pn H' as (six v1 u1 v2 u2 i) → Q (.ref p) H'
theorem ok_pairs_to_try (T : Txt K mg) : FnOk P w K mg base CX0 1 T.a_pairs_to_try T.fd_pairs_to_try ["one", "other", "bit"] (spTry K) := by
  refine T.F_pairs_to_try.ok sc_pairs_to_try (fun vs H Q E h => by obtain ⟨t1, t2, v1, u1, v2, u2, n, i, rfl, _⟩ := h; rfl) (fun cdv A outer s H vs Q E hr h => ?_)
  obtain ⟨t1, t2, v1, u1, v2, u2, n, i, rfl, h1, h2, i32, q⟩ := h
  refine ⟨_, (pss_cons (ps_par (i := 3) (j := 4) (by rfl) sc_pairs_to_try.nd rfl rfl (by decide) rfl rfl (pa_cons (pe_ix ix_tup (pv 0) pe_int (fun _ _ => rfl)) (pa_cons (pe_op op_or (pe_ix ix_tup (pv 0) pe_int (fun _ _ => rfl)) (pe_ix ix_tup (pv 0) pe_int (fun _ _ => rfl))) pa_nil)) (by rfl))
 (pss_cons (ps_par (i := 5) (j := 6) (by rfl) sc_pairs_to_try.nd rfl rfl (by decide) rfl rfl (pa_cons (pe_ix ix_tup (pv 1) pe_int (fun _ _ => rfl)) (pa_cons (pe_op op_or (pe_ix ix_tup (pv 1) pe_int (fun _ _ => rfl)) (pe_ix ix_tup (pv 1) pe_int (fun _ _ => rfl))) pa_nil)) (by rfl))
 (pss_cons (ps_set (i := 7) sc_pairs_to_try.nd rfl (.inl rfl) (pe_op op_shl pe_int (pv 2)))
 (pss_one (ps_ret (pe_tupN (pa_cons (pe_tupN (pa_cons (pv 3) (pa_cons (pv 5) pa_nil))) (pa_cons (pe_tupN (pa_cons (pv 4) (pa_cons (pv 6) pa_nil))) (pa_cons (pe_tupN (pa_cons (pv 4) (pa_cons (pv 5) pa_nil))) (pa_cons (pe_tupN (pa_cons (pv 3) (pa_cons (pv 6) pa_nil))) (pa_cons (pe_tupN (pa_cons (pe_op op_or (pv 3) (pe_op op_and (pe_ix ix_tup (pv 0) pe_int (fun _ _ => rfl)) (pv 7))) (pa_cons (pv 5) pa_nil))) (pa_cons (pe_tupN (pa_cons (pv 3) (pa_cons (pe_op op_or (pv 5) (pe_op op_and (pe_ix ix_tup (pv 1) pe_int (fun _ _ => rfl)) (pv 7))) pa_nil))) pa_nil)))))))))))), ?_⟩
  walk_at "rd"
  have ep : (1 : Int) * 2 ^ (i : Int).toNat = ((2 ^ i : Nat) : Int) := by rw [Int.one_mul, Int.toNat_natCast, pow_cast]
  rw [bO, bO, ep]
  refine fun a1 G1 n1 g1 e1 => ?_
  walk_at "rd"
  refine fun a2 G2 n2 g2 e2 => ?_
  walk_at "rd"
  refine fun a3 G3 n3 g3 e3 => ?_
  walk_at "rd"
  refine fun a4 G4 n4 g4 e4 => ?_
  have h1' := sqT_same (((g1.trans g2).trans g3).trans g4) h1
  have h2' := sqT_same (((g1.trans g2).trans g3).trans g4) h2
  walk_at "rd"
  rw [bA, bO]
  refine fun a5 G5 n5 g5 e5 => ?_
  have h2'' := sqT_same g5 h2'
  walk_at "rd"
  rw [bA, bO]
  refine fun a6 G6 n6 g6 e6 => ?_
  walk_at "rd"
  refine fun p G7 n7 g7 e7 => ?_
  have f6 := g6.trans g7
  have f5 := g5.trans f6
  have f4 := g4.trans f5
  have f3 := g3.trans f4
  have f2 := g2.trans f3
  refine q p [a1, a2, a3, a4, a5, a6] G7 (g1.free (g2.free (g3.free (g4.free (g5.free (g6.free n7)))))) (g1.trans f2) e7 ?_
  exact .cons (f2 _ _ e1) (.cons (f3 _ _ e2) (.cons (f4 _ _ e3) (.cons (f5 _ _ e4) (.cons (f6 _ _ e5) (.cons (g7 _ _ e6) .nil)))))
def spPair (K : PySem.W.Frag) : Sp := fun vs H Q _ => ∃ (o : Op) (t1 : Addr) (by_ : V) (v1 u1 v2 u2 j n i dv du : Nat), vs = [.str (opW o), .ref t1, by_, .int i, .int n] ∧ SqT K H t1 [.int v1, .int u1] ∧ By K H n v2 u2 j o by_ ∧ Sb n v1 u1 ∧ n ≤ 32 ∧ Res o n v1 u1 v2 u2 j dv du ∧ du.testBit i = true ∧
  ∀ p q0 q1 (p0 p1 : Nat × Nat) H', H p = none → Same H H' → H' p = some (.tup [.ref q0, .ref q1]) → H' q0 = some (.tup [.int p0.1, .int p0.2]) → H' q1 = some (.tup [.int p1.1, .int p1.2]) → (prs o v1 u1 v2 u2 j i).find? (fun p => bitP o n i p == false) = some p0 → (prs o v1 u1 v2 u2 j i).find? (fun p => bitP o n i p == true) = some p1 → Q (.ref p) H'
theorem bit_zero (du i : Nat) : decide (V.int (Builtin.bitAnd ((du : Int) / 2 ^ (i : Int).toNat) 1) = V.int 0) = !du.testBit i := by
  rw [Int.toNat_natCast, bit_b2]
  cases du.testBit i <;> decide
theorem ok_bit_pair (T : Txt K mg) : FnOk P w K mg base CX0 6 T.a_bit_pair T.fd_bit_pair ["word", "one", "other", "bit", "wide"] (spPair K) := by
  refine T.F_bit_pair.ok sc_bit_pair (fun vs H Q E h => by obtain ⟨o, t1, b, v1, u1, v2, u2, j, n, i, dv, du, rfl, _⟩ := h; rfl) (fun cdv A outer s H vs Q E hr h => ?_)
  obtain ⟨o, t1, b, v1, u1, v2, u2, j, n, i, dv, du, rfl, h1, hb, s1, n32, res, hu, q⟩ := h
  have hi : i < n := bit_lt (res.lt s1) hu
  have h2 : is5 o = true → Sb n v2 u2 := fun ho => by
    cases hb with
    | five _ _ s => exact s
    | mv hm => rw [mv_not hm] at ho; cases ho
  refine ⟨_, (pss_cons (ps_set (i := 5) sc_bit_pair.nd rfl (.inl rfl) (pe_ix ix_tup (pe_callN (ok_bits_done T) (hr.mono (by decide)) (by rfl) T.g_bits_done T.F_bits_done.kp T.k_bits_done pass0 (pa_cons (pv 0) (pa_cons (pv 1) (pa_cons (pv 2) pa_nil))) (pk_cons (pv 4) pk_nil)) pe_int (fun _ _ => rfl)))
 (pss_cons (ps_if (PW.pt (pw_or (pt_not (pt_val (pe_call (ok_is_whole T) (hr.mono (by decide)) (by rfl) T.g_is_whole T.F_is_whole.kp T.b_is_whole .nil pass0 (pa_cons (pv 3) pa_nil)))) (pw_or (pt_not (pt_chain op_le op_lt pe_int (pv 3) (pv 4))) (pw_or1 (pt_cmpR op_eq (pe_op op_and (pe_op op_shr (pv 5) (pv 3)) pe_int) pe_int (nomark _))))))
  (pss_one ps_never)
  pss_nil)
 (pss_join (ps_if (pt_cmpR op_in_seq (pv 0) (pe_glob (v := .ref T.a_MOVES) (by rfl) T.g_MOVES rfl) (by rfl))
  (pss_one (ps_set (i := 6) sc_bit_pair.nd rfl (.inl rfl) (pe_tupN (pa_cons (pe_tupN (pa_cons (pe_ix ix_tup (pv 1) pe_int (fun _ _ => rfl)) (pa_cons (pv 2) pa_nil))) (pa_cons (pe_tupN (pa_cons (pe_op op_or (pe_ix ix_tup (pv 1) pe_int (fun _ _ => rfl)) (pe_ix ix_tup (pv 1) pe_int (fun _ _ => rfl))) (pa_cons (pv 2) pa_nil))) pa_nil)))))
  (pss_one (ps_set (i := 6) sc_bit_pair.nd rfl (.inl rfl) (pe_call (ok_pairs_to_try T) (hr.mono (by decide)) (by rfl) T.g_pairs_to_try T.F_pairs_to_try.kp T.b_pairs_to_try .nil pass0 (pa_cons (pv 1) (pa_cons (pv 2) (pa_cons (pv 3) pa_nil)))))))
 (pss_cons (ps_set (i := 7) sc_bit_pair.nd rfl (.inl rfl) pe_dnewK)
 (pss_cons (ps_for PassesOwn.never rfl (pi_tup (pv 6)) (pg_name (i := 8) sc_bit_pair.nd rfl (.inl rfl))
  (pss_cons (ps_set (i := 9) sc_bit_pair.nd rfl (.inl rfl) (pe_callN (ok_done T) (hr.mono (by decide)) (by rfl) T.g_done T.F_done.kp T.k_done pass0 (pa_cons (pv 0) (pa_cons (pe_ix ix_tup (pv 8) pe_int (fun _ _ => rfl)) (pa_cons (pe_ix ix_tup (pv 8) pe_int (fun _ _ => rfl)) pa_nil))) (pk_cons (pv 4) pk_nil)))
 (pss_one (ps_expr (pe_dsetd (pv 7) (pe_op op_and (pe_op op_shr (pv 9) (pv 3)) pe_int) (pv 8) ⟨by rfl, by rfl, by rfl, by rfl⟩)))))
 (pss_one (ps_ret (pe_tupN (pa_cons (pe_dget (hu_of hr.units) (pv 7) pe_int (fun _ _ => rfl)) (pa_cons (pe_dget (hu_of hr.units) (pv 7) pe_int (fun _ _ => rfl)) pa_nil)))))))))), ?_⟩
  walk_at "rd"
  refine ⟨rfl, rfl, o, t1, b, v1, u1, v2, u2, j, n, rfl, h1, hb, s1, n32, fun dv2 du2 res2 pb H1 npb sm1 hpb => ?_⟩
  obtain ⟨rfl, rfl⟩ := res2.uniq res
  walk_at "rd"
  refine ⟨_, .int i, rfl, .dat (.int _), ?_⟩
  walk_at "rd"
  refine ite_n rfl ?_
  walk_at "rd"
  refine ite_b (decide_eq_true (by omega)) ?_
  walk_at "rd"
  refine ite_n (by rw [decide_eq_true (show (i : Int) < n by omega)]; rfl) ?_
  walk_at "rd"
  rw [bit_zero, hu]
  walk_at "rd"
  refine ite_n rfl ?_
  walk_at "rd"
  refine rd_join (fun σ' G => ∃ (pr : Addr) (as : List Addr) (y5 y7 y8 y9 : Option V), σ' = [some (.str (opW o)), some (.ref t1), some b, some (.int i), some (.int n), y5, some (.ref pr), y7, y8, y9] ∧ Same H1 G ∧ H1 pr = none ∧ G pr = some (.tup (as.map V.ref)) ∧ Pn G as (prs o v1 u1 v2 u2 j i)) ?_ ?_
  · walk_at "rd"
    refine rd_inT (ws := ["left", "right"]) (T.q_MOVES _) ?_
    rw [in_mvs]
    walk_at "rd"
    have h1' := sqT_same sm1 h1
    cases hb with
    | five ho hs2 s2 =>
      rename_i t2
      rw [five_not ho]
      refine iteF ?_
      walk_at "rd"
      refine ⟨t1, t2, v1, u1, v2, u2, n, i, rfl, h1', sqT_same sm1 hs2, by omega, fun p as G np sg hp pn => ?_⟩
      walk_at "rd"
      refine ⟨p, as, _, _, _, _, rfl, sg, np, hp, ?_⟩
      unfold prs
      rw [five_not ho, if_neg Bool.false_ne_true]
      exact pn
    | mv ho =>
      rw [ho]
      refine iteT ?_
      walk_at "rd"
      refine fun a1 G1 n1 g1 e1 => ?_
      have h1'' := sqT_same g1 h1'
      walk_at "rd"
      rw [bO]
      refine fun a2 G2 n2 g2 e2 => ?_
      walk_at "rd"
      refine fun a3 G3 n3 g3 e3 => ?_
      walk_at "rd"
      refine ⟨a3, [a1, a2], _, _, _, _, rfl, (g1.trans g2).trans g3, g1.free (g2.free n3), e3, ?_⟩
      unfold prs
      rw [ho, if_pos rfl]
      exact .cons (g3 _ _ (g2 _ _ e1)) (.cons (g3 _ _ e2) .nil)
  · rintro σ' G ⟨pr, as, y5, y7, y8, y9, rfl, sg, npr, hpr, pn⟩
    have held := fun p hp => prs_held (o := o) (n := n) (v1 := v1) (u1 := u1) (v2 := v2) (u2 := u2) (j := j) (i := i) s1 (p := p) hp
    generalize hL : prs o v1 u1 v2 u2 j i = L at pn held
    have few : L.length ≤ 6 := by rw [← hL]; unfold prs six; split <;> simp
    walk_at "rd"
    refine fun d G2 nd sg2 hd => ?_
    walk_at "rd"
    refine ⟨pr, rfl, ⟨_, SqT.of (sg2 _ _ hpr)⟩, ?_⟩
    have lenA := pn.len
    refine for_tup (K := K) (xs := as.map V.ref) (fun k σ G3 => ∃ (kvs : List (Key × V)) (y8 y9 : Option V), σ = [some (.str (opW o)), some (.ref t1), some b, some (.int i), some (.int n), y5, some (.ref pr), some (.ref d), y8, y9] ∧ Same G G3 ∧ G3 d = some (.dK kvs) ∧ kvs.length ≤ k ∧ Fd G3 kvs (bitP o n i) (L.take k))
      ⟨[], _, _, rfl, sg2, hd, Nat.le_refl _, fun b => rfl⟩ (fun k σ G3 _ hW => ?_) (fun k x σ G3 hx hW => ?_) (fun σ G3 hW => ?_)
    · obtain ⟨_, _, _, _, sm3, _⟩ := hW
      exact SqT.of (sm3 _ _ hpr)
    · obtain ⟨kvs, y8, y9, rfl, sm3, hd3, ln, fd⟩ := hW
      obtain ⟨a, ha, rfl⟩ := refs_at hx
      obtain ⟨p, hp, hpp⟩ := pn.at ha
      have hpa := sm3 _ _ hpp
      have hmem := List.mem_of_getElem? hp
      have k6 : k < 6 := Nat.lt_of_lt_of_le (List.getElem?_eq_some_iff.mp hp).1 few
      have lts : p.1 < 2 ^ n ∧ (p.2 < 2 ^ n ∨ isMv o = true) := by
        cases hb with
        | five ho _ s2 => exact ⟨((held_iff s1).mp ((held p hmem).1 ho s2).1).1, .inl ((held_iff s2).mp ((held p hmem).1 ho s2).2).1⟩
        | mv ho => exact ⟨((held_iff s1).mp ((held p hmem).2 ho).1).1, .inr ho⟩
      walk_at "rd"
      refine ⟨rfl, rfl, o, p.1, p.2, n, rfl, lts.1, n32, lts.2, ?_⟩
      walk_at "rd"
      refine ⟨d, rfl, .inl ⟨kvs, .inl hd3⟩, ?_⟩
      walk_at "rd"
      rw [Int.toNat_natCast, bit_b2]
      have tk : L.take (k + 1) = L.take k ++ [p] := by rw [List.take_add_one, hp]; rfl
      refine ⟨kvs, .inl (b2 ((opV o n p.1 p.2).testBit i)), hd3, rfl, Nat.lt_of_le_of_lt (show kvs.length ≤ 1000 by omega) (by decide), fun v hv => ?_, fun hn => ?_⟩
      · refine ⟨kvs, _, _, rfl, sm3, hd3, by omega, ?_⟩
        rw [tk]
        exact fd.met hv
      · have keep : ∀ c u, G3 c = some (.tup u) → upd G3 d (.dK (putK kvs (.inl (b2 ((opV o n p.1 p.2).testBit i))) (.ref a))) c = some (.tup u) := fun c u e => by
          rw [upd_ne (ne_of e hd3 (fun z => by cases z))]
          exact e
        refine ⟨_, _, _, rfl, fun c u e => ?_, upd_same, Nat.le_trans (length_putK _ _ _) (by omega), ?_⟩
        · rw [upd_ne (ne_of_none e nd)]
          exact sm3 _ _ e
        · rw [tk]
          exact fd.put hn (keep _ _ hpa) keep
    · obtain ⟨kvs, y8, y9, rfl, sm3, hd3, ln, fd⟩ := hW
      rw [List.length_map, lenA, List.take_length] at fd
      obtain ⟨p0, f0, _⟩ := prs_find s1 h2 res hu false
      obtain ⟨p1, f1, _⟩ := prs_find s1 h2 res hu true
      rw [hL] at f0 f1
      have d0 := fd false
      have d1 := fd true
      rw [f0] at d0
      rw [f1] at d1
      obtain ⟨q0, v0, e0⟩ := d0
      obtain ⟨q1, v1', e1⟩ := d1
      walk_at "rd"
      refine ⟨d, _, rfl, by rw [← v0]; exact DGet.k (k := .inl 0) hd3, ?_⟩
      walk_at "rd"
      refine ⟨d, _, rfl, by rw [← v1']; exact DGet.k (k := .inl 1) hd3, ?_⟩
      walk_at "rd"
      refine fun p G4 np sg4 hp => ?_
      refine q p q0 q1 p0 p1 G4 (sm1.free (sg.free (sm3.free np))) (((sm1.trans sg).trans sm3).trans sg4) hp (sg4 _ _ e0) (sg4 _ _ e1) ?_ ?_
      · rw [hL]; exact f0
      · rw [hL]; exact f1
def spNoBit (K : PySem.W.Frag) (C : Addr) : Sp := fun vs H Q E => ∃ (o : Op) (t1 : Addr) (by_ x : V) (d : PyData) (v1 u1 v2 u2 j n : Nat), vs = [.str (opW o), .ref t1, by_, x, .int n] ∧ SqT K H t1 [.int v1, .int u1] ∧ By K H n v2 u2 j o by_ ∧ Sb n v1 u1 ∧ n ≤ 32 ∧ Dz K H x d ∧
  (∀ dv du (i : Nat), Res o n v1 u1 v2 u2 j dv du → d = .int i → i < n → du.testBit i = false) ∧ ∀ H', Same H H' → E (.ref C) none H'
theorem okX_bit_pair (T : Txt K mg) : FnOk P w K mg base (L2.CX P w) 6 T.a_bit_pair T.fd_bit_pair ["word", "one", "other", "bit", "wide"] (spNoBit K T.a_NoBit) := by
  refine T.F_bit_pair.okX sc_bit_pair (fun vs H Q E h => by obtain ⟨o, t1, b, x, d, v1, u1, v2, u2, j, n, rfl, _⟩ := h; rfl) (fun cdv A outer s H vs Q E hr h => ?_)
  obtain ⟨o, t1, b, x, d, v1, u1, v2, u2, j, n, rfl, h1, hb, s1, n32, dz, bad, q⟩ := h
  refine ⟨_, (pss_cons (ps_set (i := 5) sc_bit_pair.nd rfl (.inl rfl) (pe_ix ix_tup (pe_callN (ok_bits_done T) (hr.mono (by decide)) (by rfl) T.g_bits_done T.F_bits_done.kp T.k_bits_done pass0 (pa_cons (pv 0) (pa_cons (pv 1) (pa_cons (pv 2) pa_nil))) (pk_cons (pv 4) pk_nil)) pe_int (fun _ _ => rfl)))
 (pss_cons (ps_if (PW.pt (pw_or (pt_not (pt_val (pe_call (ok_is_whole T) (hr.mono (by decide)) (by rfl) T.g_is_whole T.F_is_whole.kp T.b_is_whole .nil pass0 (pa_cons (pv 3) pa_nil)))) (pw_or (pt_not (pt_chain op_le op_lt pe_int (pv 3) (pv 4))) (pw_or1 (pt_cmpR op_eq (pe_op op_and (pe_op op_shr (pv 5) (pv 3)) pe_int) pe_int (nomark _))))))
  (pss_one (ps_raise rfl (takes_of rfl rfl rfl rfl) (pmk_own PySem.F.excBase_ValueError T.r_NoBit.x T.g_NoBit T.r_NoBit.k (raises_own T.r_NoBit.s T.r_NoBit.t) (by exact rfl))))
  pss_nil)
 pss_never)), ?_⟩
  walk_at "rd"
  refine ⟨rfl, rfl, o, t1, b, v1, u1, v2, u2, j, n, rfl, h1, hb, s1, n32, fun dv du res pb H1 npb sm1 hpb => ?_⟩
  walk_at "rd"
  refine ⟨_, d, rfl, dz.same sm1, ?_⟩
  walk_at "rd"
  cases d with
  | int z =>
    obtain rfl : x = .int z := by cases dz with | dat h => cases h; rfl
    refine ite_n rfl ?_
    walk_at "rd"
    refine ite2 (fun c => ?_) (fun c => ?_)
    · have z0 : 0 ≤ z := of_decide_eq_true c
      obtain ⟨i, rfl⟩ := nat_of z0
      walk_at "rd"
      refine ite2 (fun c2 => ?_) (fun c2 => ?_)
      · walk_at "rd"
        exact q _ sm1
      · have hi : i < n := by
          by_cases h : (i : Int) < n
          · omega
          · rw [decide_eq_false h] at c2
            exact absurd rfl c2
        walk_at "rd"
        rw [bit_zero, bad dv du i res rfl hi]
        walk_at "rd"
        refine ite_b rfl ?_
        exact q _ sm1
    · walk_at "rd"
      exact q _ sm1
  | _ =>
    refine ite_b rfl ?_
    walk_at "rd"
    exact q _ sm1
theorem ok_refused (T : Txt K mg) : FnOk P w K mg base CX0 7 T.a_refused T.fd_refused ["_law_word", "_law_one", "_law_other", "_law_bit", "_law_size"] (fun vs H Q _ => ∃ (o : Op) (t1 : Addr) (by_ x : V) (d : PyData) (v1 u1 v2 u2 j n : Nat), vs = [.str (opW o), .ref t1, by_, x, .int n] ∧ SqT K H t1 [.int v1, .int u1] ∧ By K H n v2 u2 j o by_ ∧ Sb n v1 u1 ∧ n ≤ 32 ∧ Dz K H x d ∧
    (∀ dv du (i : Nat), Res o n v1 u1 v2 u2 j dv du → d = .int i → i < n → du.testBit i = false) ∧ ∀ H', Same H H' → Q (.bl true) H') := by
  refine T.F_refused.ok sc_refused (fun vs H Q E h => by obtain ⟨o, t1, b, x, d, v1, u1, v2, u2, j, n, rfl, _⟩ := h; rfl) (fun cdv A outer s H vs Q E hr h => ?_)
  obtain ⟨o, t1, b, x, d, v1, u1, v2, u2, j, n, rfl, h1, hb, s1, n32, dz, bad, q⟩ := h
  refine ⟨_, (pss_cons (ps_set (i := 5) sc_refused.nd rfl (.inl rfl) pe_non)
 (pss_cons (ps_try_keep (i := 6) rfl rfl rfl sc_refused.nd rfl rfl ⟨rfl, by decide, Or.inl T.g_GateError⟩
 (fun W pn xe tk _ => (pss_one (ps_expr (pe_callNX (okX_bit_pair T) (hr.mono (by decide)) (by rfl) T.g_bit_pair T.F_bit_pair.kp T.k_bit_pair (fun σ => passAt tk σ) (pa_cons (pv 0) (pa_cons (pv 1) (pa_cons (pv 2) (pa_cons (pv 3) pa_nil)))) (pk_cons (pv 4) pk_nil)))))
 (fun a pn => (pss_one (ps_set (i := 5) sc_refused.nd rfl (.inl rfl) (pv 6)))))
 (pss_one (ps_ret (pe_and (pe_callB call_isX (by rfl) T.b_isinstance (by decide +kernel) (pa_cons (pv 5) (pa_cons (pe_glob (v := .ref T.a_NoBit) (by rfl) T.g_NoBit rfl) pa_nil))) (pe_and (pe_not (pe_callB call_isX (by rfl) T.b_isinstance (by decide +kernel) (pa_cons (pv 5) (pa_cons (pe_glob (v := .ref T.a_NoWord) (by rfl) T.g_NoWord rfl) pa_nil)))) (pe_one (pe_callB call_isX (by rfl) T.b_isinstance (by decide +kernel) (pa_cons (pv 5) (pa_cons (pe_bltn (v := .ty "ValueError") (by rfl) T.b_ValueError (by decide +kernel) rfl) pa_nil)))))))))), ?_⟩
  have kb := kit_ref T.s_NoBit_NoBit T.i_NoBit T.s_NoBit_NoBit
  have kw := kit_ref T.s_NoBit_NoBit T.i_NoWord T.s_NoBit_NoWord
  walk_at "rd"
  refine ⟨rfl, rfl, o, t1, b, x, d, v1, u1, v2, u2, j, n, rfl, h1, hb, s1, n32, dz, bad, fun H1 sm1 => ?_⟩
  refine ⟨PySem.W.exm_ref T.i_GateError.b T.i_GateError.d T.i_GateError.t T.s_NoBit_GateError, rfl, fun a ha => ?_⟩
  have sm : Same H1 (upd H1 a (ExT (.ref T.a_NoBit) a)) := same_new ha
  walk_at "rd"
  refine ⟨a, T.a_NoBit, _, _, true, rfl, upd_same, T.r_NoBit.c, .own _, kb, ?_⟩
  walk_at "rd"
  refine ⟨a, T.a_NoBit, _, _, false, rfl, upd_same, T.r_NoBit.c, .own _, kw, ?_⟩
  walk_at "rd"
  refine ite_b rfl ?_
  walk_at "rd"
  refine ⟨a, T.a_NoBit, _, _, true, rfl, upd_same, T.r_NoBit.c, .ty _, kit_ve T.v_NoBit, ?_⟩
  exact q _ (sm1.trans sm)
def spHeld1 (K : PySem.W.Frag) : Sp := fun vs H Q _ => ∃ (t : Addr) (x v u n : Nat), vs = [.ref t, .int x, .int n] ∧ SqT K H t [.int v, .int u] ∧ n ≤ 32 ∧ x ∈ heldL n v u ∧ Q (.bl true) H
theorem ok_is_held (T : Txt K mg) : FnOk P w K mg base CX0 2 T.a_is_held T.fd_is_held ["_law_bits_here", "_law_worth", "_law_size"] (spHeld1 K) := by
  refine T.F_is_held.ok sc_is_held (fun vs H Q E h => by obtain ⟨t, x, v, u, n, rfl, _⟩ := h; rfl) (fun cdv A outer s H vs Q E hr h => ?_)
  obtain ⟨t, x, v, u, n, rfl, ht, n32, hx, q⟩ := h
  unfold heldL at hx
  rw [List.mem_filter, List.mem_range, decide_eq_true_eq] at hx
  have tc := top_cast n
  refine ⟨_, (pss_cons (ps_if (PW.pt (pw_or (pt_not (pt_val (pe_callB call_isi (by rfl) T.b_isinstance (by decide +kernel) (pa_cons (pv 1) (pa_cons (pe_bltn (v := .ty "int") (by rfl) T.b_int (by decide +kernel) rfl) pa_nil))))) (pw_or (pt_val (pe_callB call_isi (by rfl) T.b_isinstance (by decide +kernel) (pa_cons (pv 1) (pa_cons (pe_bltn (v := .ty "bool") (by rfl) T.b_bool (by decide +kernel) rfl) pa_nil)))) (pw_or1 (pt_not (pt_chain op_le op_le pe_int (pv 1) (pe_call (ok_top T) (hr.mono (by decide)) (by rfl) T.g_top T.F_top.kp T.b_top .nil pass0 (pa_cons (pv 2) pa_nil))))))))
  (pss_one (ps_ret pe_bl))
  pss_nil)
 (pss_one (ps_ret (pe_cmpR op_eq (pe_op op_and (pv 1) (pe_op op_xor (pe_call (ok_top T) (hr.mono (by decide)) (by rfl) T.g_top T.F_top.kp T.b_top .nil pass0 (pa_cons (pv 2) pa_nil)) (pe_ix ix_tup (pv 0) pe_int (fun _ _ => rfl)))) (pe_ix ix_tup (pv 0) pe_int (fun _ _ => rfl)) (nomark _))))), ?_⟩
  walk_at "rd"
  refine rd_isInt (d := .int x) (.dat (.int _)) ?_
  walk_at "rd"
  refine ite_n rfl ?_
  walk_at "rd"
  refine rd_isBool (d := .int x) (.dat (.int _)) ?_
  walk_at "rd"
  refine ite_n rfl ?_
  walk_at "rd"
  refine ite_b (decide_eq_true (by omega)) ?_
  walk_at "rd"
  refine ⟨n, rfl, by omega, ?_⟩
  walk_at "rd"
  refine ite_n (by rw [decide_eq_true (show (x : Int) ≤ 2 ^ n - 1 by omega)]; rfl) ?_
  walk_at "rd"
  refine ⟨n, rfl, by omega, ?_⟩
  walk_at "rd"
  rw [top_cast, bX, bA, hx.2, decide_eq_true rfl]
  exact q
def spLawDone : Sp := fun vs H Q _ => ∃ (o : Op) (a b n : Nat), vs = [.str (opW o), .int a, .int b, .int n] ∧ (is5 o = true ∧ b < 2 ^ n ∨ isMv o = true) ∧ a < 2 ^ n ∧ n ≤ 32 ∧ Q (.int (opV o n a b : Nat)) H
theorem ok_l_done (T : Txt K mg) : FnOk P w K mg base CX0 2 T.a_l_done T.fd_l_done ["_law_word", "_law_one", "_law_other", "_law_size"] spLawDone := by
  refine T.F_l_done.ok sc_l_done (fun vs H Q E h => by obtain ⟨o, a, b, n, rfl, _⟩ := h; rfl) (fun cdv A outer s H vs Q E hr h => ?_)
  obtain ⟨o, a, b, n, rfl, ho, ha, hn, q⟩ := h
  have hs := nat_small ha hn
  refine ⟨_, (pss_cons (ps_set (i := 4) sc_l_done.nd rfl (.inl rfl) (pe_call (ok_top T) (hr.mono (by decide)) (by rfl) T.g_top T.F_top.kp T.b_top .nil pass0 (pa_cons (pv 3) pa_nil)))
 (pss_cons (ps_if (pt_cmpR op_eq (pv 0) pe_str (nomark _))
  (pss_one (ps_ret (pe_op op_and (pe_op op_add (pv 1) (pv 2)) (pv 4))))
  pss_nil)
 (pss_cons (ps_if (pt_cmpR op_eq (pv 0) pe_str (nomark _))
  (pss_one (ps_ret (pe_op op_and (pe_op op_sub (pv 1) (pv 2)) (pv 4))))
  pss_nil)
 (pss_cons (ps_if (pt_cmpR op_eq (pv 0) pe_str (nomark _))
  (pss_one (ps_ret (pe_op op_and (pe_op op_mul (pv 1) (pv 2)) (pv 4))))
  pss_nil)
 (pss_cons (ps_if (pt_cmpR op_eq (pv 0) pe_str (nomark _))
  (pss_one (ps_ret (pe_op op_and (pv 1) (pv 2))))
  pss_nil)
 (pss_cons (ps_if (pt_cmpR op_eq (pv 0) pe_str (nomark _))
  (pss_one (ps_ret (pe_op op_or (pv 1) (pv 2))))
  pss_nil)
 (pss_cons (ps_if (pt_cmpR op_eq (pv 0) pe_str (nomark _))
  (pss_one (ps_ret (pe_op op_xor (pv 1) (pv 2))))
  pss_nil)
 (pss_cons (ps_if (pt_cmpR op_ge (pv 2) (pv 3) (nomark _))
  (pss_one (ps_ret pe_int))
  pss_nil)
 (pss_cons (ps_if (pt_cmpR op_eq (pv 0) pe_str (nomark _))
  (pss_one (ps_ret (pe_op op_and (pe_op op_shl (pv 1) (pv 2)) (pv 4))))
  pss_nil)
 (pss_one (ps_ret (pe_op op_shr (pv 1) (pv 2))))))))))))), ?_⟩
  walk_at "rd"
  refine ⟨n, rfl, by omega, ?_⟩
  walk_at "rd"
  rcases ho with ⟨ho, hb⟩ | ho
  · cases o with
    | plus => refine ite_b (by decide) ?_; walk_at "rd"; rw [plus_eq]; exact q
    | minus => refine ite_n (by decide) ?_; walk_at "rd"; refine ite_b (by decide) ?_; walk_at "rd"; rw [minus_eq hb]; exact q
    | and => iterate 3 (refine ite_n (by decide) ?_; walk_at "rd")
             refine ite_b (by decide) ?_; walk_at "rd"; rw [bA]; exact q
    | or => iterate 4 (refine ite_n (by decide) ?_; walk_at "rd")
            refine ite_b (by decide) ?_; walk_at "rd"; rw [bO]; exact q
    | either => iterate 5 (refine ite_n (by decide) ?_; walk_at "rd")
                refine ite_b (by decide) ?_; walk_at "rd"; rw [bX]; exact q
    | _ => cases ho
  · cases o with
    | left =>
      iterate 6 (refine ite_n (by decide) ?_; walk_at "rd")
      refine ite2 (fun c => ?_) (fun c => ?_)
      · walk_at "rd"
        rw [show opV .left n a b = 0 from mv_zero (by have := of_decide_eq_true c; omega)] at q
        exact q
      · have hj : ¬ n ≤ b := fun z => c (decide_eq_true (by omega))
        walk_at "rd"
        refine ite_b (by decide) ?_
        walk_at "rd"
        rw [mvl_eq hj]
        exact q
    | right =>
      iterate 6 (refine ite_n (by decide) ?_; walk_at "rd")
      refine ite2 (fun c => ?_) (fun c => ?_)
      · walk_at "rd"
        rw [show opV .right n a b = 0 from mv_zero (by have := of_decide_eq_true c; omega)] at q
        exact q
      · have hj : ¬ n ≤ b := fun z => c (decide_eq_true (by omega))
        walk_at "rd"
        refine ite_n (by decide) ?_
        walk_at "rd"
        rw [mvr_eq hj]
        exact q
    | _ => cases ho
def spSo (K : PySem.W.Frag) : Sp := fun vs H Q _ => ∃ (o : Op) (t1 : Addr) (by_ : V) (v1 u1 v2 u2 j n i dv du : Nat), vs = [.str (opW o), .ref t1, by_, .int i, .int n] ∧ SqT K H t1 [.int v1, .int u1] ∧ By K H n v2 u2 j o by_ ∧ Sb n v1 u1 ∧ n ≤ 32 ∧ j ≤ 100 ∧ Res o n v1 u1 v2 u2 j dv du ∧ du.testBit i = true ∧ ∀ H', Same H H' → Q (.bl true) H'
theorem ok_so (T : Txt K mg) : FnG P w K mg base CX0 7 T.a_so T.fd_so ["_law_word", "_law_one", "_law_other", "_law_bit", "_law_size"] (spSo K) := by
  refine fnG0 T.F_so sc_so (fun vs H Q E h => by obtain ⟨o, t1, b, v1, u1, v2, u2, j, n, i, dv, du, rfl, _⟩ := h; rfl) (fun cdv A outer s H vs Q E hr gd h => ?_)
  obtain ⟨o, t1, b, v1, u1, v2, u2, j, n, i, dv, du, rfl, h1, hb, s1, n32, j100, res, hu, q⟩ := h
  replace gd := gd.deep (envOfC "_law_so" (defScope s_so) s.heap.objs.size T.a_so cdv)
  have hi : i < n := bit_lt (res.lt s1) hu
  refine ⟨_, (pss_cons (ps_set (i := 5) sc_so.nd rfl (.inl rfl) (pe_callN (ok_bit_pair T) (hr.mono (by decide)) (by rfl) T.g_bit_pair T.F_bit_pair.kp T.k_bit_pair pass0 (pa_cons (pv 0) (pa_cons (pv 1) (pa_cons (pv 2) (pa_cons (pv 3) pa_nil)))) (pk_cons (pv 4) pk_nil)))
 (pss_cons (ps_if (PW.pt (pw_or (pt_not (pt_val (pe_callB call_isi (by rfl) T.b_isinstance (by decide +kernel) (pa_cons (pv 5) (pa_cons (pe_bltn (v := .ty "tuple") (by rfl) T.b_tuple (by decide +kernel) rfl) pa_nil))))) (pw_or1 (pt_cmpR op_ne (pe_callB call_len_seq (by rfl) T.b_len (by decide +kernel) (pa_cons (pv 5) pa_nil)) pe_int (nomark _)))))
  (pss_one (ps_ret pe_bl))
  pss_nil)
 (pss_cons (ps_for PassesOwn.never rfl (pi_enumT (by rfl) T.b_enumerate (pa_cons (pv 5) pa_nil)) (pg_tup rfl (pgs_cons (pg_name (i := 6) sc_so.nd rfl (.inl rfl)) (pgs_cons (pg_name (i := 7) sc_so.nd rfl (.inl rfl)) pgs_nil)))
  (pss_cons (ps_if (PW.pt (pw_or (pt_not (pt_val (pe_callB call_isi (by rfl) T.b_isinstance (by decide +kernel) (pa_cons (pv 7) (pa_cons (pe_bltn (v := .ty "tuple") (by rfl) T.b_tuple (by decide +kernel) rfl) pa_nil))))) (pw_or (pt_cmpR op_ne (pe_callB call_len_seq (by rfl) T.b_len (by decide +kernel) (pa_cons (pv 7) pa_nil)) pe_int (nomark _)) (pw_or1 (pt_not (pt_val (pe_call (ok_is_held T) (hr.mono (by decide)) (by rfl) T.g_is_held T.F_is_held.kp T.b_is_held .nil pass0 (pa_cons (pv 1) (pa_cons (pe_ix ix_tup (pv 7) pe_int (fun _ _ => rfl)) (pa_cons (pv 4) pa_nil))))))))))
  (pss_one (ps_ret pe_bl))
  pss_nil)
 (pss_cons (ps_if (pt_cmpR op_in_seq (pv 0) (pe_tupN (pa_cons pe_str (pa_cons pe_str pa_nil))) (by rfl))
  (pss_one (ps_if (pt_cmpR op_ne (pe_callB (call_repA gd hr.units) (by rfl) T.b_repr (by decide +kernel) (pa_cons (pe_ix ix_tup (pv 7) pe_int (fun _ _ => rfl)) pa_nil)) (pe_callB (call_repA gd hr.units) (by rfl) T.b_repr (by decide +kernel) (pa_cons (pv 2) pa_nil)) (nomark _))
  (pss_one (ps_ret pe_bl))
  pss_nil))
  (pss_one (ps_if (pt_not (pt_val (pe_call (ok_is_held T) (hr.mono (by decide)) (by rfl) T.g_is_held T.F_is_held.kp T.b_is_held .nil pass0 (pa_cons (pv 2) (pa_cons (pe_ix ix_tup (pv 7) pe_int (fun _ _ => rfl)) (pa_cons (pv 4) pa_nil))))))
  (pss_one (ps_ret pe_bl))
  pss_nil)))
 (pss_one (ps_if (pt_cmpR op_ne (pe_op op_and (pe_op op_shr (pe_call (ok_l_done T) (hr.mono (by decide)) (by rfl) T.g_l_done T.F_l_done.kp T.b_l_done .nil pass0 (pa_cons (pv 0) (pa_cons (pe_ix ix_tup (pv 7) pe_int (fun _ _ => rfl)) (pa_cons (pe_ix ix_tup (pv 7) pe_int (fun _ _ => rfl)) (pa_cons (pv 4) pa_nil))))) (pv 3)) pe_int) (pv 6) (nomark _))
  (pss_one (ps_ret pe_bl))
  pss_nil)))))
 (pss_one (ps_ret pe_bl))))), ?_⟩
  walk_at "rd"
  refine ⟨rfl, rfl, o, t1, b, v1, u1, v2, u2, j, n, i, dv, du, rfl, h1, hb, s1, n32, res, hu, fun p q0 q1 p0 p1 H1 np sm1 hp hq0 hq1 f0 f1 => ?_⟩
  have m0 := List.mem_of_find?_eq_some f0
  have m1 := List.mem_of_find?_eq_some f1
  have b0 : bitP o n i p0 = false := by simpa using List.find?_some f0
  have b1 : bitP o n i p1 = true := by simpa using List.find?_some f1
  have hpT : Dz K H1 (.ref p) (.tuple [.tuple [.int p0.1, .int p0.2], .tuple [.int p1.1, .int p1.2]]) := .dat (.tup (SqT.of hp) (.cons (.tup (SqT.of hq0) (.cons (.int _) (.cons (.int _) .nil))) (.cons (.tup (SqT.of hq1) (.cons (.int _) (.cons (.int _) .nil))) .nil)))
  walk_at "rd"
  refine rd_isTup hpT ?_
  walk_at "rd"
  refine ite_n rfl ?_
  walk_at "rd"
  refine rd_lenT (SqT.of hp) ?_
  walk_at "rd"
  refine ite_ne ?_
  walk_at "rd"
  refine ⟨p, _, rfl, SqT.of hp, ?_⟩
  refine for_it (walk_enumT (K := K) (a := p) (xs := [.ref q0, .ref q1])) (fun k σ G => ∃ y6 y7, σ = [some (.str (opW o)), some (.ref t1), some b, some (.int i), some (.int n), some (.ref p), y6, y7] ∧ Same H1 G) ⟨_, _, rfl, Same.refl H1⟩ (fun k σ G _ hW => ?_) (fun k x σ G G' hk hW hY => ?_) (fun σ G hW => ?_)
  · obtain ⟨_, _, _, sm⟩ := hW
    exact SqT.of (sm _ _ hp)
  · obtain ⟨y6, y7, rfl, sm⟩ := hW
    obtain ⟨tt, x1, x2, rfl, ntt, rfl, e1, e2⟩ := hY
    cases Option.some.inj e1
    obtain ⟨qa, pp, rfl, hqa, mp, bp⟩ : ∃ (qa : Addr) (pp : Nat × Nat), x2 = .ref qa ∧ H1 qa = some (.tup [.int pp.1, .int pp.2]) ∧ pp ∈ prs o v1 u1 v2 u2 j i ∧ b2 (bitP o n i pp) = (k : Int) := by
      match k, hk, e2 with
      | 0, _, e2 => exact ⟨q0, p0, (Option.some.inj e2).symm, hq0, m0, by rw [b0]; rfl⟩
      | 1, _, e2 => exact ⟨q1, p1, (Option.some.inj e2).symm, hq1, m1, by rw [b1]; rfl⟩
      | k + 2, hk, _ => exact absurd hk (by simp)
    have smT : Same H1 (upd G tt (.tup [.int (k : Nat), .ref qa])) := sm.trans (same_new ntt)
    have hqa' := smT _ _ hqa
    have h1' := sqT_same (sm1.trans smT) h1
    have hb' := hb.same (sm1.trans smT)
    refine rd_gtup (SqT.of upd_same) rfl ?_
    walk_at "rd"
    refine rd_isTup (d := .tuple [.int pp.1, .int pp.2]) (.dat (.tup (SqT.of hqa') (.cons (.int _) (.cons (.int _) .nil)))) ?_
    walk_at "rd"
    refine ite_n rfl ?_
    walk_at "rd"
    refine rd_lenT (SqT.of hqa') ?_
    walk_at "rd"
    refine ite_ne ?_
    walk_at "rd"
    obtain ⟨hl1, hl2⟩ := prs_held s1 mp
    have hx1 : pp.1 ∈ heldL n v1 u1 := by
      cases hb with
      | five ho _ s2 => exact (hl1 ho s2).1
      | mv ho => exact (hl2 ho).1
    refine ⟨t1, pp.1, v1, u1, n, rfl, h1', n32, hx1, ?_⟩
    walk_at "rd"
    refine ite_n rfl ?_
    walk_at "rd"
    refine fun tw G2 ntw g2 htw => ?_
    refine rd_inS (ws := ["left", "right"]) htw ?_
    rw [in_mvs]
    walk_at "rd"
    have hqa2 := g2 _ _ hqa'
    have bit2 : Builtin.bitAnd ((opV o n pp.1 pp.2 : Int) / 2 ^ (i : Int).toNat) 1 = (k : Int) := by
      rw [Int.toNat_natCast, bit_b2]
      exact bp
    cases hb with
    | five ho hs2 s2 =>
      rename_i t2
      rw [five_not ho]
      refine iteF ?_
      walk_at "rd"
      have h2' := sqT_same ((sm1.trans smT).trans g2) hs2
      refine ⟨t2, pp.2, v2, u2, n, rfl, h2', n32, (hl1 ho s2).2, ?_⟩
      walk_at "rd"
      refine ite_n rfl ?_
      walk_at "rd"
      refine ⟨o, pp.1, pp.2, n, rfl, .inl ⟨ho, ((held_iff s2).mp (hl1 ho s2).2).1⟩, ((held_iff s1).mp hx1).1, n32, ?_⟩
      walk_at "rd"
      rw [bit2]
      refine ite_ne ?_
      walk_at "rd"
      exact ⟨_, _, rfl, smT.trans g2⟩
    | mv ho =>
      rw [ho]
      refine iteT ?_
      have ej := (hl2 ho).2
      walk_at "rd"
      have rj : ∀ G3 : Hp, Rp K G3 (.int (j : Int)) (PyData.int j).shown := fun G3 => .dat (.int _) ((Sh.int (by rw [Int.natAbs_natCast]; exact Nat.lt_of_le_of_lt j100 (by decide +kernel))).mono (by decide) (by decide))
      rw [ej]
      refine rd_repA (rj _) ?_
      walk_at "rd"
      refine rd_repA (rj _) ?_
      walk_at "rd"
      refine ite_ne ?_
      walk_at "rd"
      refine ⟨o, pp.1, pp.2, n, rfl, .inr ho, ((held_iff s1).mp hx1).1, n32, ?_⟩
      walk_at "rd"
      rw [bit2]
      refine ite_ne ?_
      walk_at "rd"
      exact ⟨_, _, rfl, smT.trans g2⟩
  · obtain ⟨y6, y7, rfl, sm⟩ := hW
    walk_at "rd"
    exact q _ (sm1.trans sm)
def sevenS : List Str := ["plus", "minus", "and", "or", "either", "left", "right"]
theorem seven_op {x : V} (h : x ∈ sevenS.map V.str) : ∃ o, x = .str (opW o) ∧ (is5 o = true ∨ isMv o = true) := by
  unfold sevenS at h
  simp only [List.map_cons, List.map_nil, List.mem_cons, List.not_mem_nil, or_false] at h
  rcases h with rfl | rfl | rfl | rfl | rfl | rfl | rfl
  · exact ⟨.plus, rfl, .inl rfl⟩
  · exact ⟨.minus, rfl, .inl rfl⟩
  · exact ⟨.and, rfl, .inl rfl⟩
  · exact ⟨.or, rfl, .inl rfl⟩
  · exact ⟨.either, rfl, .inl rfl⟩
  · exact ⟨.left, rfl, .inr rfl⟩
  · exact ⟨.right, rfl, .inr rfl⟩
theorem bit_is (du i : Nat) : decide (V.int (Builtin.bitAnd ((du : Int) / 2 ^ (i : Int).toNat) 1) = V.int 1) = du.testBit i := by
  rw [Int.toNat_natCast, bit_b2, b2_one]
theorem odd_bad {H : Hp} {t : Addr} {v : V} {n : Nat} (hn : n ≤ 32) (ht : H t = some (.tup [.int 0])) (mv : v ∈ [V.int (-1), V.int n, V.non, V.bl true, V.str "0", V.ref t, V.int (10 ^ Int.toNat 20), V.bl false]) : ∃ d, Dz K H v d ∧ ∀ i : Nat, d = .int i → ¬ i < n := by
  simp only [List.mem_cons, List.not_mem_nil, or_false] at mv
  rcases mv with rfl | rfl | rfl | rfl | rfl | rfl | rfl | rfl
  · exact ⟨_, .dat (.int _), fun i e => by cases PyData.int.inj e⟩
  · exact ⟨_, .dat (.int _), fun i e => by have := PyData.int.inj e; omega⟩
  · exact ⟨_, .dat .non, fun i e => by cases e⟩
  · exact ⟨_, .dat (.bl _), fun i e => by cases e⟩
  · exact ⟨_, .dat (.str _), fun i e => by cases e⟩
  · exact ⟨_, .dat (.tup (SqT.of ht) (.cons (.int _) .nil)), fun i e => by cases e⟩
  · refine ⟨_, .dat (.int _), fun i e => ?_⟩
    have z := PyData.int.inj e
    have y : (10 : Int) ^ Int.toNat 20 = 100000000000000000000 := by decide
    omega
  · exact ⟨_, .dat (.bl _), fun i e => by cases e⟩
def spLaw (K : PySem.W.Frag) : Sp := fun vs H Q _ => ∃ (a : Addr) (ns : List Int), vs = [.ref a] ∧ SqL K H a (ns.map V.int) ∧ ns.length ≤ 63 ∧ ∀ H', Q (.bl true) H'
theorem ok_law (T : Txt K mg) {f : Addr} {fd : FuncData} (F : Fun K "law" "law" s_law f fd) : FnG P w K mg base CX0 8 f fd ["_law_script"] (spLaw K) := by
  refine fnG0 F sc_law (fun vs H Q E h => by obtain ⟨a, ns, rfl, _⟩ := h; rfl) (fun cdv A outer s H vs Q E hr gd h => ?_)
  obtain ⟨a, ns, rfl, hS, hlen, q⟩ := h
  replace gd := gd.deep (envOfC "law" (defScope s_law) s.heap.objs.size f cdv)
  refine ⟨_, (pss_cons (ps_for PassesOwn.never rfl (pi_range1 (by rfl) T.b_range (pa_cons (pe_callB (call_max2 rfl) (by rfl) T.b_max (by decide +kernel) (pa_cons pe_int (pa_cons (pe_callB (call_min2 rfl) (by rfl) T.b_min (by decide +kernel) (pa_cons (pe_callB call_len_seq (by rfl) T.b_len (by decide +kernel) (pa_cons (pv 0) pa_nil)) (pa_cons pe_int pa_nil))) pa_nil))) pa_nil)) (pg_name (i := 1) sc_law.nd rfl (.inl rfl))
  (pss_cons (ps_set (i := 2) sc_law.nd rfl (.inl rfl) (pe_call (ok_pool T) (hr.mono (by decide)) (by rfl) T.g_pool T.F_pool.kp T.b_pool .nil pass0 (pa_cons (pv 0) (pa_cons (pv 1) pa_nil))))
 (pss_cons (ps_set (i := 3) sc_law.nd rfl (.inl rfl) (pe_ix ix_list (pe_lstN (pa_cons pe_int (pa_cons (pe_op op_add pe_int (pe_call (ok_take T) (hr.mono (by decide)) (by rfl) T.g_take T.F_take.kp T.b_take .nil pass0 (pa_cons (pv 2) (pa_cons pe_int pa_nil)))) pa_nil))) (pe_call (ok_take T) (hr.mono (by decide)) (by rfl) T.g_take T.F_take.kp T.b_take .nil pass0 (pa_cons (pv 2) (pa_cons pe_int pa_nil))) (fun _ _ => rfl)))
 (pss_cons (ps_set (i := 4) sc_law.nd rfl (.inl rfl) (pe_call (ok_bits T) (hr.mono (by decide)) (by rfl) T.g_bits T.F_bits.kp T.b_bits .nil pass0 (pa_cons (pv 2) (pa_cons (pv 3) pa_nil))))
 (pss_cons (ps_set (i := 5) sc_law.nd rfl (.inl rfl) (pe_call (ok_bits T) (hr.mono (by decide)) (by rfl) T.g_bits T.F_bits.kp T.b_bits .nil pass0 (pa_cons (pv 2) (pa_cons (pv 3) pa_nil))))
 (pss_cons (ps_set (i := 6) sc_law.nd rfl (.inl rfl) (pe_call (ok_take T) (hr.mono (by decide)) (by rfl) T.g_take T.F_take.kp T.b_take .nil pass0 (pa_cons (pv 2) (pa_cons (pe_op op_add (pv 3) pe_int) pa_nil))))
 (pss_cons (ps_for PassesOwn.never rfl (pi_list (pe_lstN (pa_cons pe_str (pa_cons pe_str (pa_cons pe_str (pa_cons pe_str (pa_cons pe_str (pa_cons pe_str (pa_cons pe_str pa_nil))))))))) (pg_name (i := 7) sc_law.nd rfl (.inl rfl))
  (pss_cons (ps_set (i := 8) sc_law.nd rfl (.inl rfl) (pe_ix ix_list (pe_lstN (pa_cons (pv 5) (pa_cons (pv 6) pa_nil))) (pe_callTy call_int1 (by rfl) T.b_int (by decide +kernel) (pa_cons (pe_cmpR op_in_seq (pv 7) (pe_tupN (pa_cons pe_str (pa_cons pe_str pa_nil))) (by rfl)) pa_nil)) (fun _ _ => rfl)))
 (pss_cons (ps_set (i := 9) sc_law.nd rfl (.inl rfl) (pe_ix ix_tup (pe_callN (ok_bits_done T) (hr.mono (by decide)) (by rfl) T.g_bits_done T.F_bits_done.kp T.k_bits_done pass0 (pa_cons (pv 7) (pa_cons (pv 4) (pa_cons (pv 8) pa_nil))) (pk_cons (pv 3) pk_nil)) pe_int (fun _ _ => rfl)))
 (pss_cons (ps_for PassesOwn.never rfl (pi_range1 (by rfl) T.b_range (pa_cons (pv 3) pa_nil)) (pg_name (i := 10) sc_law.nd rfl (.inl rfl))
  (pss_one (ps_if (pt_cmpR op_eq (pe_op op_and (pe_op op_shr (pv 9) (pv 10)) pe_int) pe_int (nomark _))
  (pss_one (ps_if (pt_not (pt_val (pe_callG (ok_so T) (hr.mono (by decide)) gd (by rfl) T.g_so T.F_so.kp T.b_so pass0 (pa_cons (pv 7) (pa_cons (pv 4) (pa_cons (pv 8) (pa_cons (pv 10) (pa_cons (pv 3) pa_nil))))))))
  (pss_one (ps_ret pe_bl))
  pss_nil))
  (pss_one (ps_if (pt_not (pt_val (pe_call (ok_refused T) (hr.mono (by decide)) (by rfl) T.g_refused T.F_refused.kp T.b_refused .nil pass0 (pa_cons (pv 7) (pa_cons (pv 4) (pa_cons (pv 8) (pa_cons (pv 10) (pa_cons (pv 3) pa_nil))))))))
  (pss_one (ps_ret pe_bl))
  pss_nil)))))
 (pss_cons (ps_set (i := 11) sc_law.nd rfl (.inl rfl) (pe_ix ix_list (pe_lstN (pa_cons (pe_un un_neg pe_int) (pa_cons (pv 3) (pa_cons pe_non (pa_cons pe_bl (pa_cons pe_str (pa_cons (pe_tupN (pa_cons pe_int pa_nil)) (pa_cons (pe_op op_pow pe_int pe_int) (pa_cons pe_bl pa_nil))))))))) (pe_call (ok_take T) (hr.mono (by decide)) (by rfl) T.g_take T.F_take.kp T.b_take .nil pass0 (pa_cons (pv 2) (pa_cons pe_int pa_nil))) (fun _ _ => rfl)))
 (pss_one (ps_if (pt_not (pt_val (pe_call (ok_refused T) (hr.mono (by decide)) (by rfl) T.g_refused T.F_refused.kp T.b_refused .nil pass0 (pa_cons (pv 7) (pa_cons (pv 4) (pa_cons (pv 8) (pa_cons (pv 11) (pa_cons (pv 3) pa_nil))))))))
  (pss_one (ps_ret pe_bl))
  pss_nil)))))))
 (pss_cons (ps_set (i := 12) sc_law.nd rfl (.inr rfl) (pe_ix ix_tup (pe_callN (ok_bits_done T) (hr.mono (by decide)) (by rfl) T.g_bits_done T.F_bits_done.kp T.k_bits_done pass0 (pa_cons pe_str (pa_cons (pv 4) (pa_cons (pv 5) pa_nil))) (pk_cons (pv 3) pk_nil)) pe_int (fun _ _ => rfl)))
 (pss_one (ps_if (PW.pt (pw_and (pt_cmpR op_eq (pv 3) pe_int (nomark _)) (pw_and1 (pt_cmpR op_ne (pv 12) pe_int (nomark _)))))
  (pss_cons (ps_set (i := 10) sc_law.nd rfl (.inl rfl) (pe_ix ix_list (pe_lc (own := [("_law_at", 13)]) (g := (gName 13)) (tt := (tTest (tOp rEq (tOp (rI0 fun i j => .int (Builtin.bitAnd i j)) (tOp (rI (fun _ j => 0 ≤ j) fun i j => .int (i / 2 ^ j.toNat)) (tVar 12) (tVar 13)) (tC (.int (1)))) (tC (.int (1)))))) (te := (tVar 13)) (by rfl) sc_law.nd (pi_range1 (by rfl) T.b_range (pa_cons pe_int pa_nil)) (blkOk_by (own := [("_law_at", 13)]) (N := ["_law_script", "_law_k", "_law_pool_here", "_law_size", "_law_one", "_law_other", "_law_places", "_law_word", "_law_by", "_law_unsure", "_law_bit", "_law_odd", "_law_bits_here", "_law_at"]) (sc := defScope s_law) (by decide +kernel)) (fun _ _ _ _ _ => (pg_name (i := 13) sc_law.nd rfl (.inl rfl))) (fun _ _ _ _ _ => (pts_one (pt_cmpR op_eq (pe_op op_and (pe_op op_shr (pv 12) (pv 13)) pe_int) pe_int (nomark _)))) (fun _ _ _ _ _ => (pv 13))) (pe_un un_neg pe_int) (fun _ _ => rfl)))
 (pss_one (ps_if (pt_cmpR (op_neD hr.units) (pe_call (ok_bit_pair T) (hr.mono (by decide)) (by rfl) T.g_bit_pair T.F_bit_pair.kp T.b_bit_pair T.v_bit_pair pass0 (pa_cons pe_str (pa_cons (pv 4) (pa_cons (pv 5) (pa_cons (pv 10) pa_nil))))) (pe_callN (ok_bit_pair T) (hr.mono (by decide)) (by rfl) T.g_bit_pair T.F_bit_pair.kp T.k_bit_pair pass0 (pa_cons pe_str (pa_cons (pv 4) (pa_cons (pv 5) (pa_cons (pv 10) pa_nil)))) (pk_cons pe_int pk_nil)) (nomark _))
  (pss_one (ps_ret pe_bl))
  pss_nil)))
  pss_nil))))))))))
 (pss_one (ps_ret pe_bl))), ?_⟩
  walk_at "rd"
  refine ⟨by (repeat' split) <;> omega, by (repeat' split) <;> omega, ?_⟩
  refine for_range (lo := 0) (fun i σ H1 => ∃ y1 y2 y3 y4 y5 y6 y7 y8 y9 y10 y11 y12 y13, σ = [some (.ref a), y1, y2, y3, y4, y5, y6, y7, y8, y9, y10, y11, y12, y13] ∧ SqL K H1 a (ns.map V.int)) ⟨none, none, none, none, none, none, none, none, none, none, none, none, none, rfl, hS⟩ (fun i σ H1 hi hW => ?_) (fun σ H1 hW => ?_)
  · obtain ⟨y1, y2, y3, y4, y5, y6, y7, y8, y9, y10, y11, y12, y13, rfl, hS1⟩ := hW
    have hi2 : i < 16 := Nat.lt_of_lt_of_le hi (by (repeat' split) <;> omega)
    clear hi
    walk_at "rd"
    refine ⟨a, ns, _, rfl, hS1, by omega, by omega, fun H2 p np s2 p2 => ?_⟩
    walk_at "rd"
    refine ⟨p, 32, rfl, p2, by decide, by decide, fun r3 H3 r30 r31 k3 => ?_⟩
    walk_at "rd"
    refine fun l1 H4 nl1 s4 hl1 => ?_
    walk_at "rd"
    have l1p : l1 ≠ p := k3.1.ne nl1
    refine ⟨p, 2, rfl, k3.1.same s4, by decide, by decide, fun r5 H5 r50 r51 k5 => ?_⟩
    walk_at "rd"
    obtain ⟨n, en, n1, n32⟩ : ∃ n : Nat, atI [V.int 16, V.int (1 + r3)] r5 = some (.int n) ∧ 1 ≤ n ∧ n ≤ 32 := by
      obtain ⟨v, ev, mv⟩ := atI_in (xs := [V.int 16, V.int (1 + r3)]) r50 r51
      simp only [List.mem_cons, List.not_mem_nil, or_false] at mv
      rcases mv with rfl | rfl
      · exact ⟨16, ev, by decide, by decide⟩
      · exact ⟨(1 + r3).toNat, by rw [ev, Int.toNat_of_nonneg (by omega)], by omega, by omega⟩
    refine rd_ixL (SqL.of (k5.at l1p hl1)) en ?_
    walk_at "rd"
    refine ⟨p, n, rfl, n1, n32, k5.1, fun v0 u0 t1 H6 bt nt1 k6 ht1 => ?_⟩
    obtain ⟨v1, u1, rfl, rfl, sb1⟩ := bt.sb
    have t1p : t1 ≠ p := by
      obtain ⟨x, y, e⟩ := k6.1
      exact ne_of ht1 e (fun z => by cases z)
    walk_at "rd"
    refine ⟨p, n, rfl, n1, n32, k6.1, fun v0 u0 t2 H7 bt nt2 k7 ht2 => ?_⟩
    obtain ⟨v2, u2, rfl, rfl, sb2⟩ := bt.sb
    have t2p : t2 ≠ p := by
      obtain ⟨x, y, e⟩ := k7.1
      exact ne_of ht2 e (fun z => by cases z)
    walk_at "rd"
    refine ⟨p, _, rfl, k7.1, by omega, by omega, fun r8 H8 r80 r81 k8 => ?_⟩
    obtain ⟨j, rfl⟩ := nat_of r80
    have j100 : j ≤ 100 := by omega
    have et1 := k8.at t1p (k7.at t1p ht1)
    have et2 := k8.at t2p ht2
    walk_at "rd"
    refine fun lw H9 nlw s9 hlw => ⟨lw, rfl, ⟨_, SqL.of hlw⟩, ?_⟩
    have et1 := s9 _ _ et1
    have et2 := s9 _ _ et2
    have lwp : lw ≠ p := k8.1.ne nlw
    have kA : Kp p H2 H9 := ((((k3.same s4).trans k5).trans (k6.trans k7)).trans k8).same s9
    refine for_list (K := K) (xs := sevenS.map V.str) (fun _ σ H' => ∃ y7 y8 y9 y10 y11 y12 y13, σ = [some (.ref a), some (.int (0 + i)), some (.ref p), some (.int n), some (.ref t1), some (.ref t2), some (.int j), y7, y8, y9, y10, y11, y12, y13] ∧ Kp p H9 H') ⟨_, _, _, _, _, _, _, rfl, Kp.refl kA.1⟩ (fun _ σ H' _ hW => ?_) (fun _ x σ H' hx hW => ?_) (fun σ H' hW => ?_)
    · obtain ⟨_, _, _, _, _, _, _, _, kk⟩ := hW
      exact SqL.of (kk.at lwp hlw)
    · obtain ⟨y7, y8, y9, y10, y11, y12, y13, rfl, kk⟩ := hW
      obtain ⟨o, rfl, ho⟩ := seven_op (List.mem_of_getElem? hx)
      have ft1 := kk.at t1p et1
      have ft2 := kk.at t2p et2
      walk_at "rd"
      refine fun lo G1 nlo g1 hlo => ?_
      walk_at "rd"
      refine fun tm G2 ntm g2 htm => ?_
      refine rd_inS (ws := ["left", "right"]) htm ?_
      rw [in_mvs]
      walk_at "rd"
      obtain ⟨b, eb, hbG⟩ : ∃ b, atI [V.ref t2, V.int j] (if isMv o = true then 1 else 0) = some b ∧ ∀ G, SqT K G t2 [.int v2, .int u2] → By K G n v2 u2 j o b := by
        rcases ho with ho | ho
        · rw [five_not ho, if_neg Bool.false_ne_true]
          exact ⟨_, rfl, fun G h => .five ho h sb2⟩
        · rw [ho, if_pos rfl]
          exact ⟨_, rfl, fun G _ => .mv ho⟩
      have hb := hbG G2 (SqT.of (g2 _ _ (g1 _ _ ft2)))
      refine rd_ixL (SqL.of (g2 _ _ hlo)) eb ?_
      walk_at "rd"
      refine ⟨rfl, rfl, o, t1, b, v1, u1, v2, u2, j, n, rfl, SqT.of (g2 _ _ (g1 _ _ ft1)), hb, sb1, n32, fun dv du res rp G3 nrp g3 hrp => ?_⟩
      walk_at "rd"
      refine ⟨by omega, by omega, ?_⟩
      have gt1 := g3 _ _ (g2 _ _ (g1 _ _ ft1))
      have hb3 := hb.same g3
      refine for_range (lo := 0) (n := n) (fun _ σ G => ∃ y10 y11 y12 y13, σ = [some (.ref a), some (.int (0 + i)), some (.ref p), some (.int n), some (.ref t1), some (.ref t2), some (.int j), some (.str (opW o)), some b, some (.int du), y10, y11, y12, y13] ∧ Same G3 G) ⟨_, _, _, _, rfl, Same.refl G3⟩ (fun z σ G hz hW => ?_) (fun σ G hW => ?_)
      · obtain ⟨y10, y11, y12, y13, rfl, sg⟩ := hW
        rw [show (0 : Int) + (z : Int) = (z : Int) by omega]
        walk_at "rd"
        rw [bit_is]
        walk_at "rd"
        cases hu : du.testBit z with
        | true =>
          refine iteT ?_
          walk_at "rd"
          refine ⟨o, t1, b, v1, u1, v2, u2, j, n, z, dv, du, rfl, SqT.of (sg _ _ gt1), hb3.same sg, sb1, n32, j100, res, hu, fun G4 g4 => ?_⟩
          walk_at "rd"
          refine ite_n rfl ?_
          walk_at "rd"
          exact ⟨_, _, _, _, rfl, sg.trans g4⟩
        | false =>
          refine iteF ?_
          walk_at "rd"
          refine ⟨o, t1, b, _, .int z, v1, u1, v2, u2, j, n, rfl, SqT.of (sg _ _ gt1), hb3.same sg, sb1, n32, .dat (.int _), fun dv' du' i' res' e _ => ?_, fun G4 g4 => ?_⟩
          · have e2 := PyData.int.inj e
            have e3 : i' = z := by omega
            rw [e3, (res'.uniq res).2]
            exact hu
          walk_at "rd"
          refine ite_n rfl ?_
          walk_at "rd"
          exact ⟨_, _, _, _, rfl, sg.trans g4⟩
      · obtain ⟨y10, y11, y12, y13, rfl, sg⟩ := hW
        walk_at "rd"
        refine fun tz G4 ntz g4 htz => ?_
        walk_at "rd"
        refine fun l8 G5 nl8 g5 hl8 => ?_
        walk_at "rd"
        have gAll := ((((g1.trans g2).trans g3).trans sg).trans g4).trans g5
        have k5' := kk.same gAll
        refine ⟨p, 8, rfl, k5'.1, by decide, by decide, fun r6 G6 r60 r61 k6' => ?_⟩
        walk_at "rd"
        have tzp : tz ≠ p := (kk.same (((g1.trans g2).trans g3).trans sg)).1.ne ntz
        have l8p : l8 ≠ p := (kk.same ((((g1.trans g2).trans g3).trans sg).trans g4)).1.ne nl8
        obtain ⟨ov, eo, mo⟩ := atI_in (xs := [V.int (-1), V.int n, V.non, V.bl true, V.str "0", V.ref tz, V.int (10 ^ Int.toNat 20), V.bl false]) r60 r61
        refine rd_ixL (SqL.of (k6'.at l8p hl8)) eo ?_
        walk_at "rd"
        obtain ⟨d, dz, bad⟩ := odd_bad (K := K) n32 (k6'.at tzp (g5 _ _ htz)) mo
        have hb6 : By K G6 n v2 u2 j o b := hbG G6 (k6'.sqT t2p (SqT.of (gAll _ _ ft2)))
        refine ⟨o, t1, b, _, d, v1, u1, v2, u2, j, n, rfl, SqT.of (k6'.at t1p (gAll _ _ ft1)), hb6, sb1, n32, dz, fun dv' du' i' _ e h => absurd h (bad i' e), fun G7 g7 => ?_⟩
        walk_at "rd"
        refine ite_n rfl ?_
        walk_at "rd"
        exact ⟨_, _, _, _, _, _, _, rfl, (k5'.trans k6').same g7⟩
    · obtain ⟨y7, y8, y9, y10, y11, y12, y13, rfl, kk⟩ := hW
      have ft1 := kk.at t1p et1
      have ft2 := kk.at t2p et2
      walk_at "rd"
      refine ⟨rfl, rfl, .plus, t1, .ref t2, v1, u1, v2, u2, j, n, rfl, SqT.of ft1, .five rfl (SqT.of ft2) sb2, sb1, n32, fun dv du res rp G1 nrp g1 hrp => ?_⟩
      walk_at "rd"
      have sEnd : Same H1 G1 := (same_kp np s2 (kA.trans kk)).trans g1
      refine ite2 (fun c => ?_) (fun c => ?_)
      · have n16 : n = 16 := by
          have := V.int.inj (of_decide_eq_true c)
          omega
        subst n16
        walk_at "rd"
        refine ite2 (fun c2 => ?_) (fun c2 => ?_)
        · have du0 : du ≠ 0 := fun z => by subst z; simp at c2
          walk_at "rd"
          refine ⟨by decide, by decide, fun D nD => ?_⟩
          refine lc_range (lo := 0) (n := 16) (fun z G => Same G1 G ∧ G D = some (.lst (intsN ((List.range z).filter fun x => du.testBit x)))) ⟨same_new nD, upd_same⟩ (fun z G hz hP => ?_) (fun G hP => ?_)
          · obtain ⟨sg, hD⟩ := hP
            rw [show (0 : Int) + (z : Int) = (z : Int) by omega]
            refine rd_name ⟨rfl, ?_⟩
            walk_at "rd"
            rw [bit_is]
            have ln : ((List.range z).filter fun x => du.testBit x).length ≤ 16 := by
              refine Nat.le_trans (List.length_filter_le _ _) ?_
              rw [List.length_range]
              omega
            cases hb : du.testBit z with
            | true =>
              refine iteT ?_
              walk_at "rd"
              refine ⟨_, hD, ?_, fun b u e => ?_, ?_⟩
              · rw [ints_len]
                exact Nat.lt_of_le_of_lt ln (by decide)
              · rw [upd_ne (ne_of_none e nD)]
                exact sg b u e
              · rw [upd_same, List.range_succ, List.filter_append, List.filter_cons_of_pos hb, ← ints_app]
                rfl
            | false =>
              refine iteF ⟨sg, ?_⟩
              rw [hD, List.range_succ, List.filter_append, List.filter_cons_of_neg (by rw [hb]; exact Bool.false_ne_true)]
              simp
          · obtain ⟨sg, hD⟩ := hP
            have lt16 : du < 2 ^ 16 := res.lt sb1
            obtain ⟨zs, z, eL⟩ : ∃ zs z, (List.range 16).filter (fun x => du.testBit x) = zs ++ [z] := by
              have ne : (List.range 16).filter (fun x => du.testBit x) ≠ [] := fun e => du0 (Nat.eq_of_testBit_eq fun i => by
                rw [Nat.zero_testBit]
                by_cases hi : i < 16
                · have m : ¬ i ∈ (List.range 16).filter (fun x => du.testBit x) := by rw [e]; exact List.not_mem_nil
                  rw [List.mem_filter, List.mem_range] at m
                  exact Bool.eq_false_iff.mpr fun z => m ⟨hi, z⟩
                · exact bits_above lt16 hi)
              exact ⟨_, _, (List.dropLast_concat_getLast ne).symm⟩
            have hz : du.testBit z = true := by
              have m : z ∈ (List.range 16).filter (fun x => du.testBit x) := by rw [eL]; exact List.mem_append_right _ (.head _)
              exact (List.mem_filter.mp m).2
            walk_at "rd"
            refine rd_ixL (v := .int z) (SqL.of hD) (by rw [eL, ← ints_app]; exact atI_last _ _) ?_
            walk_at "rd"
            have gt1 := sg _ _ (g1 _ _ ft1)
            have gt2 := sg _ _ (g1 _ _ ft2)
            refine ⟨.plus, t1, .ref t2, v1, u1, v2, u2, j, 16, z, dv, du, rfl, SqT.of gt1, .five rfl (SqT.of gt2) sb2, sb1, by decide, res, hz, fun w1 a0 a1 p0 p1 G2 nw1 g2 hw1 ha0 ha1 f0 f1 => ?_⟩
            walk_at "rd"
            refine ⟨rfl, rfl, .plus, t1, .ref t2, v1, u1, v2, u2, j, 16, z, dv, du, rfl, SqT.of (g2 _ _ gt1), .five rfl (SqT.of (g2 _ _ gt2)) sb2, sb1, by decide, res, hz, fun w2 c0 c1 q0 q1 G3 nw2 g3 hw2 hc0 hc1 e0 e1 => ?_⟩
            cases f0.symm.trans e0
            cases f1.symm.trans e1
            have d1 : Dp K G3 (.ref w1) (.tuple [.tuple [.int p0.1, .int p0.2], .tuple [.int p1.1, .int p1.2]]) := .tup (SqT.of (g3 _ _ hw1)) (.cons (.tup (SqT.of (g3 _ _ ha0)) (.cons (.int _) (.cons (.int _) .nil))) (.cons (.tup (SqT.of (g3 _ _ ha1)) (.cons (.int _) (.cons (.int _) .nil))) .nil))
            have d2 : Dp K G3 (.ref w2) (.tuple [.tuple [.int p0.1, .int p0.2], .tuple [.int p1.1, .int p1.2]]) := .tup (SqT.of hw2) (.cons (.tup (SqT.of hc0) (.cons (.int _) (.cons (.int _) .nil))) (.cons (.tup (SqT.of hc1) (.cons (.int _) (.cons (.int _) .nil))) .nil))
            refine rd_neD d1 d2 (by rfl) (by rfl) ?_
            rw [SeqAt.eqv_refl _ (by rfl)]
            walk_at "rd"
            refine ite_n rfl ?_
            walk_at "rd"
            exact ⟨_, _, _, _, _, _, _, _, _, _, _, _, _, rfl, (((sEnd.trans sg).trans g2).trans g3).seq hS1⟩
        · walk_at "rd"
          exact ⟨_, _, _, _, _, _, _, _, _, _, _, _, _, rfl, sEnd.seq hS1⟩
      · walk_at "rd"
        exact ⟨_, _, _, _, _, _, _, _, _, _, _, _, _, rfl, sEnd.seq hS1⟩
  · obtain ⟨y1, y2, y3, y4, y5, y6, y7, y8, y9, y10, y11, y12, y13, rfl, hS1⟩ := hW
    walk_at "rd"
    exact q _
end
theorem all_mk {l : PySem.W.OpenLaw} {w : World} {K : PySem.W.Frag} {h : Heap} {mg : Str → Option Value} {fa : Addr} (X : K.In h) (G : h.Ns mainGlobals mg) (hfa : mg "law" = some (.ref fa))
    {f0 : Addr} {od0 an0 : Option Addr} {sl0 : Array (Option Value)} {oc0 kV0 dc0 pm0 cd0 ct0 : Value}
    (x0 : PySem.W.nsIn K mainGlobals "greatest" = some (some (.ref f0))) (l0 : K.lookup f0 = some ⟨oc0, od0, .func (PySem.W.fnOf "greatest" "greatest" (defArgs s_greatest) (defBody s_greatest) (defScope s_greatest) .none kV0 dc0 pm0 an0 cd0 ct0), sl0⟩) (c0 : PySem.W.codeIn K cd0 "greatest" = true) (k0 : PySem.W.keepIn K (.ref f0) = true)
    {f1 : Addr} {od1 an1 : Option Addr} {sl1 : Array (Option Value)} {oc1 kV1 dc1 pm1 cd1 ct1 : Value}
    (x1 : PySem.W.nsIn K mainGlobals "is_whole" = some (some (.ref f1))) (l1 : K.lookup f1 = some ⟨oc1, od1, .func (PySem.W.fnOf "is_whole" "is_whole" (defArgs s_is_whole) (defBody s_is_whole) (defScope s_is_whole) .none kV1 dc1 pm1 an1 cd1 ct1), sl1⟩) (c1 : PySem.W.codeIn K cd1 "is_whole" = true) (k1 : PySem.W.keepIn K (.ref f1) = true)
    {f2 : Addr} {od2 an2 : Option Addr} {sl2 : Array (Option Value)} {oc2 kV2 dc2 pm2 cd2 ct2 : Value}
    (x2 : PySem.W.nsIn K mainGlobals "is_among" = some (some (.ref f2))) (l2 : K.lookup f2 = some ⟨oc2, od2, .func (PySem.W.fnOf "is_among" "is_among" (defArgs s_is_among) (defBody s_is_among) (defScope s_is_among) .none kV2 dc2 pm2 an2 cd2 ct2), sl2⟩) (c2 : PySem.W.codeIn K cd2 "is_among" = true) (k2 : PySem.W.keepIn K (.ref f2) = true)
    {f3 : Addr} {od3 an3 : Option Addr} {sl3 : Array (Option Value)} {oc3 kV3 dc3 pm3 cd3 ct3 : Value}
    (x3 : PySem.W.nsIn K mainGlobals "moved_left" = some (some (.ref f3))) (l3 : K.lookup f3 = some ⟨oc3, od3, .func (PySem.W.fnOf "moved_left" "moved_left" (defArgs s_moved_left) (defBody s_moved_left) (defScope s_moved_left) .none kV3 dc3 pm3 an3 cd3 ct3), sl3⟩) (c3 : PySem.W.codeIn K cd3 "moved_left" = true) (k3 : PySem.W.keepIn K (.ref f3) = true)
    {f4 : Addr} {od4 an4 : Option Addr} {sl4 : Array (Option Value)} {oc4 kV4 dc4 pm4 cd4 ct4 : Value}
    (x4 : PySem.W.nsIn K mainGlobals "moved_right" = some (some (.ref f4))) (l4 : K.lookup f4 = some ⟨oc4, od4, .func (PySem.W.fnOf "moved_right" "moved_right" (defArgs s_moved_right) (defBody s_moved_right) (defScope s_moved_right) .none kV4 dc4 pm4 an4 cd4 ct4), sl4⟩) (c4 : PySem.W.codeIn K cd4 "moved_right" = true) (k4 : PySem.W.keepIn K (.ref f4) = true)
    {f5 : Addr} {od5 an5 : Option Addr} {sl5 : Array (Option Value)} {oc5  dc5 pm5 cd5 ct5 : Value} {D5 : Addr} {tk5 : Tok}
    (x5 : PySem.W.nsIn K mainGlobals "done" = some (some (.ref f5))) (l5 : K.lookup f5 = some ⟨oc5, od5, .func (PySem.W.fnOf "done" "done" (defArgs s_done) (defBody s_done) (defScope s_done) .none (.ref D5) dc5 pm5 an5 cd5 ct5), sl5⟩) (c5 : PySem.W.codeIn K cd5 "done" = true) (k5 : PySem.W.keepIn K (.ref f5) = true)
    (w5 : PySem.W.nsIn K D5 "wide" = some (some (.int 16 tk5)))
    {f6 : Addr} {od6 an6 : Option Addr} {sl6 : Array (Option Value)} {oc6 kV6 dc6 pm6 cd6 ct6 : Value}
    (x6 : PySem.W.nsIn K mainGlobals "plus_bits" = some (some (.ref f6))) (l6 : K.lookup f6 = some ⟨oc6, od6, .func (PySem.W.fnOf "plus_bits" "plus_bits" (defArgs s_plus_bits) (defBody s_plus_bits) (defScope s_plus_bits) .none kV6 dc6 pm6 an6 cd6 ct6), sl6⟩) (c6 : PySem.W.codeIn K cd6 "plus_bits" = true) (k6 : PySem.W.keepIn K (.ref f6) = true)
    {f7 : Addr} {od7 an7 : Option Addr} {sl7 : Array (Option Value)} {oc7 kV7 dc7 pm7 cd7 ct7 : Value}
    (x7 : PySem.W.nsIn K mainGlobals "minus_bits" = some (some (.ref f7))) (l7 : K.lookup f7 = some ⟨oc7, od7, .func (PySem.W.fnOf "minus_bits" "minus_bits" (defArgs s_minus_bits) (defBody s_minus_bits) (defScope s_minus_bits) .none kV7 dc7 pm7 an7 cd7 ct7), sl7⟩) (c7 : PySem.W.codeIn K cd7 "minus_bits" = true) (k7 : PySem.W.keepIn K (.ref f7) = true)
    {f8 : Addr} {od8 an8 : Option Addr} {sl8 : Array (Option Value)} {oc8 kV8 dc8 pm8 cd8 ct8 : Value}
    (x8 : PySem.W.nsIn K mainGlobals "and_bits" = some (some (.ref f8))) (l8 : K.lookup f8 = some ⟨oc8, od8, .func (PySem.W.fnOf "and_bits" "and_bits" (defArgs s_and_bits) (defBody s_and_bits) (defScope s_and_bits) .none kV8 dc8 pm8 an8 cd8 ct8), sl8⟩) (c8 : PySem.W.codeIn K cd8 "and_bits" = true) (k8 : PySem.W.keepIn K (.ref f8) = true)
    {f9 : Addr} {od9 an9 : Option Addr} {sl9 : Array (Option Value)} {oc9 kV9 dc9 pm9 cd9 ct9 : Value}
    (x9 : PySem.W.nsIn K mainGlobals "or_bits" = some (some (.ref f9))) (l9 : K.lookup f9 = some ⟨oc9, od9, .func (PySem.W.fnOf "or_bits" "or_bits" (defArgs s_or_bits) (defBody s_or_bits) (defScope s_or_bits) .none kV9 dc9 pm9 an9 cd9 ct9), sl9⟩) (c9 : PySem.W.codeIn K cd9 "or_bits" = true) (k9 : PySem.W.keepIn K (.ref f9) = true)
    {f10 : Addr} {od10 an10 : Option Addr} {sl10 : Array (Option Value)} {oc10 kV10 dc10 pm10 cd10 ct10 : Value}
    (x10 : PySem.W.nsIn K mainGlobals "either_bits" = some (some (.ref f10))) (l10 : K.lookup f10 = some ⟨oc10, od10, .func (PySem.W.fnOf "either_bits" "either_bits" (defArgs s_either_bits) (defBody s_either_bits) (defScope s_either_bits) .none kV10 dc10 pm10 an10 cd10 ct10), sl10⟩) (c10 : PySem.W.codeIn K cd10 "either_bits" = true) (k10 : PySem.W.keepIn K (.ref f10) = true)
    {f11 : Addr} {od11 an11 : Option Addr} {sl11 : Array (Option Value)} {oc11 kV11 dc11 pm11 cd11 ct11 : Value}
    (x11 : PySem.W.nsIn K mainGlobals "moved_bits" = some (some (.ref f11))) (l11 : K.lookup f11 = some ⟨oc11, od11, .func (PySem.W.fnOf "moved_bits" "moved_bits" (defArgs s_moved_bits) (defBody s_moved_bits) (defScope s_moved_bits) .none kV11 dc11 pm11 an11 cd11 ct11), sl11⟩) (c11 : PySem.W.codeIn K cd11 "moved_bits" = true) (k11 : PySem.W.keepIn K (.ref f11) = true)
    {f12 : Addr} {od12 an12 : Option Addr} {sl12 : Array (Option Value)} {oc12  dc12 pm12 cd12 ct12 : Value} {D12 : Addr} {tk12 : Tok}
    (x12 : PySem.W.nsIn K mainGlobals "bits_done" = some (some (.ref f12))) (l12 : K.lookup f12 = some ⟨oc12, od12, .func (PySem.W.fnOf "bits_done" "bits_done" (defArgs s_bits_done) (defBody s_bits_done) (defScope s_bits_done) .none (.ref D12) dc12 pm12 an12 cd12 ct12), sl12⟩) (c12 : PySem.W.codeIn K cd12 "bits_done" = true) (k12 : PySem.W.keepIn K (.ref f12) = true)
    (w12 : PySem.W.nsIn K D12 "wide" = some (some (.int 16 tk12)))
    {f13 : Addr} {od13 an13 : Option Addr} {sl13 : Array (Option Value)} {oc13 kV13 dc13 pm13 cd13 ct13 : Value}
    (x13 : PySem.W.nsIn K mainGlobals "pairs_to_try" = some (some (.ref f13))) (l13 : K.lookup f13 = some ⟨oc13, od13, .func (PySem.W.fnOf "pairs_to_try" "pairs_to_try" (defArgs s_pairs_to_try) (defBody s_pairs_to_try) (defScope s_pairs_to_try) .none kV13 dc13 pm13 an13 cd13 ct13), sl13⟩) (c13 : PySem.W.codeIn K cd13 "pairs_to_try" = true) (k13 : PySem.W.keepIn K (.ref f13) = true)
    {f14 : Addr} {od14 an14 : Option Addr} {sl14 : Array (Option Value)} {oc14  dc14 pm14 cd14 ct14 : Value} {D14 : Addr} {tk14 : Tok}
    (x14 : PySem.W.nsIn K mainGlobals "bit_pair" = some (some (.ref f14))) (l14 : K.lookup f14 = some ⟨oc14, od14, .func (PySem.W.fnOf "bit_pair" "bit_pair" (defArgs s_bit_pair) (defBody s_bit_pair) (defScope s_bit_pair) .none (.ref D14) dc14 pm14 an14 cd14 ct14), sl14⟩) (c14 : PySem.W.codeIn K cd14 "bit_pair" = true) (k14 : PySem.W.keepIn K (.ref f14) = true)
    (w14 : PySem.W.nsIn K D14 "wide" = some (some (.int 16 tk14)))
    {f15 : Addr} {od15 an15 : Option Addr} {sl15 : Array (Option Value)} {oc15 kV15 dc15 pm15 cd15 ct15 : Value}
    (x15 : PySem.W.nsIn K mainGlobals "_law_pool" = some (some (.ref f15))) (l15 : K.lookup f15 = some ⟨oc15, od15, .func (PySem.W.fnOf "_law_pool" "_law_pool" (defArgs s_pool) (defBody s_pool) (defScope s_pool) .none kV15 dc15 pm15 an15 cd15 ct15), sl15⟩) (c15 : PySem.W.codeIn K cd15 "_law_pool" = true) (k15 : PySem.W.keepIn K (.ref f15) = true)
    {f16 : Addr} {od16 an16 : Option Addr} {sl16 : Array (Option Value)} {oc16 kV16 dc16 pm16 cd16 ct16 : Value}
    (x16 : PySem.W.nsIn K mainGlobals "_law_take" = some (some (.ref f16))) (l16 : K.lookup f16 = some ⟨oc16, od16, .func (PySem.W.fnOf "_law_take" "_law_take" (defArgs s_take) (defBody s_take) (defScope s_take) .none kV16 dc16 pm16 an16 cd16 ct16), sl16⟩) (c16 : PySem.W.codeIn K cd16 "_law_take" = true) (k16 : PySem.W.keepIn K (.ref f16) = true)
    {f17 : Addr} {od17 an17 : Option Addr} {sl17 : Array (Option Value)} {oc17 kV17 dc17 pm17 cd17 ct17 : Value}
    (x17 : PySem.W.nsIn K mainGlobals "_law_top" = some (some (.ref f17))) (l17 : K.lookup f17 = some ⟨oc17, od17, .func (PySem.W.fnOf "_law_top" "_law_top" (defArgs s_top) (defBody s_top) (defScope s_top) .none kV17 dc17 pm17 an17 cd17 ct17), sl17⟩) (c17 : PySem.W.codeIn K cd17 "_law_top" = true) (k17 : PySem.W.keepIn K (.ref f17) = true)
    {f18 : Addr} {od18 an18 : Option Addr} {sl18 : Array (Option Value)} {oc18 kV18 dc18 pm18 cd18 ct18 : Value}
    (x18 : PySem.W.nsIn K mainGlobals "_law_bits" = some (some (.ref f18))) (l18 : K.lookup f18 = some ⟨oc18, od18, .func (PySem.W.fnOf "_law_bits" "_law_bits" (defArgs s_bits) (defBody s_bits) (defScope s_bits) .none kV18 dc18 pm18 an18 cd18 ct18), sl18⟩) (c18 : PySem.W.codeIn K cd18 "_law_bits" = true) (k18 : PySem.W.keepIn K (.ref f18) = true)
    {f19 : Addr} {od19 an19 : Option Addr} {sl19 : Array (Option Value)} {oc19 kV19 dc19 pm19 cd19 ct19 : Value}
    (x19 : PySem.W.nsIn K mainGlobals "_law_done" = some (some (.ref f19))) (l19 : K.lookup f19 = some ⟨oc19, od19, .func (PySem.W.fnOf "_law_done" "_law_done" (defArgs s_l_done) (defBody s_l_done) (defScope s_l_done) .none kV19 dc19 pm19 an19 cd19 ct19), sl19⟩) (c19 : PySem.W.codeIn K cd19 "_law_done" = true) (k19 : PySem.W.keepIn K (.ref f19) = true)
    {f20 : Addr} {od20 an20 : Option Addr} {sl20 : Array (Option Value)} {oc20 kV20 dc20 pm20 cd20 ct20 : Value}
    (x20 : PySem.W.nsIn K mainGlobals "_law_is_held" = some (some (.ref f20))) (l20 : K.lookup f20 = some ⟨oc20, od20, .func (PySem.W.fnOf "_law_is_held" "_law_is_held" (defArgs s_is_held) (defBody s_is_held) (defScope s_is_held) .none kV20 dc20 pm20 an20 cd20 ct20), sl20⟩) (c20 : PySem.W.codeIn K cd20 "_law_is_held" = true) (k20 : PySem.W.keepIn K (.ref f20) = true)
    {f21 : Addr} {od21 an21 : Option Addr} {sl21 : Array (Option Value)} {oc21 kV21 dc21 pm21 cd21 ct21 : Value}
    (x21 : PySem.W.nsIn K mainGlobals "_law_so" = some (some (.ref f21))) (l21 : K.lookup f21 = some ⟨oc21, od21, .func (PySem.W.fnOf "_law_so" "_law_so" (defArgs s_so) (defBody s_so) (defScope s_so) .none kV21 dc21 pm21 an21 cd21 ct21), sl21⟩) (c21 : PySem.W.codeIn K cd21 "_law_so" = true) (k21 : PySem.W.keepIn K (.ref f21) = true)
    {f22 : Addr} {od22 an22 : Option Addr} {sl22 : Array (Option Value)} {oc22 kV22 dc22 pm22 cd22 ct22 : Value}
    (x22 : PySem.W.nsIn K mainGlobals "_law_refused" = some (some (.ref f22))) (l22 : K.lookup f22 = some ⟨oc22, od22, .func (PySem.W.fnOf "_law_refused" "_law_refused" (defArgs s_refused) (defBody s_refused) (defScope s_refused) .none kV22 dc22 pm22 an22 cd22 ct22), sl22⟩) (c22 : PySem.W.codeIn K cd22 "_law_refused" = true) (k22 : PySem.W.keepIn K (.ref f22) = true)
    {f23 : Addr} {od23 an23 : Option Addr} {sl23 : Array (Option Value)} {oc23 kV23 dc23 pm23 cd23 ct23 : Value}
    (x23 : PySem.W.nsIn K mainGlobals "law" = some (some (.ref f23))) (l23 : K.lookup f23 = some ⟨oc23, od23, .func (PySem.W.fnOf "law" "law" (defArgs s_law) (defBody s_law) (defScope s_law) .none kV23 dc23 pm23 an23 cd23 ct23), sl23⟩) (c23 : PySem.W.codeIn K cd23 "law" = true) (k23 : PySem.W.keepIn K (.ref f23) = true)
    {ac_BIT_WORDS : Addr} (y_BIT_WORDS : PySem.W.nsIn K mainGlobals "BIT_WORDS" = some (some (.ref ac_BIT_WORDS)))
    {o_BIT_WORDS : Option Addr} {n_BIT_WORDS : Nat} {s_BIT_WORDS : Array (Option Value)} {k_BIT_WORDS_0 k_BIT_WORDS_1 k_BIT_WORDS_2 k_BIT_WORDS_3 k_BIT_WORDS_4 k_BIT_WORDS_5 k_BIT_WORDS_6 : Tok} (u_BIT_WORDS : K.lookup ac_BIT_WORDS = some ⟨.type "tuple", o_BIT_WORDS, .seq #[.str "plus" k_BIT_WORDS_0, .str "minus" k_BIT_WORDS_1, .str "and" k_BIT_WORDS_2, .str "or" k_BIT_WORDS_3, .str "either" k_BIT_WORDS_4, .str "left" k_BIT_WORDS_5, .str "right" k_BIT_WORDS_6] n_BIT_WORDS, s_BIT_WORDS⟩)
    {ac_DEEDS : Addr} (y_DEEDS : PySem.W.nsIn K mainGlobals "DEEDS" = some (some (.ref ac_DEEDS)))
    {o_DEEDS : Option Addr} {n_DEEDS : Nat} {s_DEEDS : Array (Option Value)} {k_DEEDS_0 k_DEEDS_1 k_DEEDS_2 k_DEEDS_3 k_DEEDS_4 k_DEEDS_5 k_DEEDS_6 k_DEEDS_7 : Tok} (u_DEEDS : K.lookup ac_DEEDS = some ⟨.type "tuple", o_DEEDS, .seq #[.str "plus" k_DEEDS_0, .str "minus" k_DEEDS_1, .str "times" k_DEEDS_2, .str "and" k_DEEDS_3, .str "or" k_DEEDS_4, .str "either" k_DEEDS_5, .str "left" k_DEEDS_6, .str "right" k_DEEDS_7] n_DEEDS, s_DEEDS⟩)
    {ac_MOVES : Addr} (y_MOVES : PySem.W.nsIn K mainGlobals "MOVES" = some (some (.ref ac_MOVES)))
    {o_MOVES : Option Addr} {n_MOVES : Nat} {s_MOVES : Array (Option Value)} {k_MOVES_0 k_MOVES_1 : Tok} (u_MOVES : K.lookup ac_MOVES = some ⟨.type "tuple", o_MOVES, .seq #[.str "left" k_MOVES_0, .str "right" k_MOVES_1] n_MOVES, s_MOVES⟩)
    (z_ValueError : PySem.W.nsIn K mainGlobals "ValueError" = some none)
    (z_abs : PySem.W.nsIn K mainGlobals "abs" = some none)
    (z_bool : PySem.W.nsIn K mainGlobals "bool" = some none)
    (z_enumerate : PySem.W.nsIn K mainGlobals "enumerate" = some none)
    (z_int : PySem.W.nsIn K mainGlobals "int" = some none)
    (z_isinstance : PySem.W.nsIn K mainGlobals "isinstance" = some none)
    (z_len : PySem.W.nsIn K mainGlobals "len" = some none)
    (z_max : PySem.W.nsIn K mainGlobals "max" = some none)
    (z_min : PySem.W.nsIn K mainGlobals "min" = some none)
    (z_range : PySem.W.nsIn K mainGlobals "range" = some none)
    (z_repr : PySem.W.nsIn K mainGlobals "repr" = some none)
    (z_str : PySem.W.nsIn K mainGlobals "str" = some none)
    (z_sum : PySem.W.nsIn K mainGlobals "sum" = some none)
    (z_tuple : PySem.W.nsIn K mainGlobals "tuple" = some none)
    {ac_GateError : Addr} (y_GateError : PySem.W.nsIn K mainGlobals "GateError" = some (some (.ref ac_GateError))) (cb_GateError : PySem.W.subIn K (.ref ac_GateError) (.type "BaseException") = some true) (cd_GateError : PySem.W.hasDictIn K ac_GateError = true) (ci_GateError : PySem.W.isClsIn K ac_GateError = true) (ct_GateError : PySem.W.typeIn K (.ref ac_GateError) = some (.type "type"))
    {ac_NoBit : Addr} (y_NoBit : PySem.W.nsIn K mainGlobals "NoBit" = some (some (.ref ac_NoBit))) (cb_NoBit : PySem.W.subIn K (.ref ac_NoBit) (.type "BaseException") = some true) (cd_NoBit : PySem.W.hasDictIn K ac_NoBit = true) (ci_NoBit : PySem.W.isClsIn K ac_NoBit = true) (ct_NoBit : PySem.W.typeIn K (.ref ac_NoBit) = some (.type "type"))
    {ac_NoWord : Addr} (y_NoWord : PySem.W.nsIn K mainGlobals "NoWord" = some (some (.ref ac_NoWord))) (cb_NoWord : PySem.W.subIn K (.ref ac_NoWord) (.type "BaseException") = some true) (cd_NoWord : PySem.W.hasDictIn K ac_NoWord = true) (ci_NoWord : PySem.W.isClsIn K ac_NoWord = true) (ct_NoWord : PySem.W.typeIn K (.ref ac_NoWord) = some (.type "type"))
    (rx_NoBit : PySem.W.excIn K ac_NoBit [.type "ValueError", .type "Exception", .type "BaseException", .type "object"] "ValueError.__new__" = true) (rk_NoBit : PySem.W.keepIn K (.ref ac_NoBit) = true)
    (eg_NoBit : PySem.W.findIn K (.ref ac_NoBit) "__getattribute__" = some (some (.builtin "BaseException.__getattribute__"))) (ek_NoBit : PySem.W.findIn K (.ref ac_NoBit) "__getattr__" = some none) (ea_NoBit : PySem.W.findIn K (.ref ac_NoBit) "__class__" = some (some (.builtin "object.__class__"))) (en_NoBit : PySem.W.specialIn K (.builtin "object.__class__") "__get__" = some (some (.builtin "getset_descriptor.__get__"))) (et_NoBit : PySem.W.takesIn K (.builtin "object.__class__") = some true) (em_NoBit : PySem.W.mroIn K ac_NoBit (.type "object") = some true)
    (s_NoBit_GateError : PySem.W.subIn K (.ref ac_NoBit) (.ref ac_GateError) = some true)
    (s_NoBit_NoBit : PySem.W.subIn K (.ref ac_NoBit) (.ref ac_NoBit) = some true)
    (s_NoBit_NoWord : PySem.W.subIn K (.ref ac_NoBit) (.ref ac_NoWord) = some false)
    (sv_NoBit : PySem.W.subIn K (.ref ac_NoBit) (.type "ValueError") = some true)
    : ∃ fd : FuncData, (∀ (s : Shared) (v : Value), BindsTo s fd ⟨[v], []⟩ [("_law_script", v)]) ∧ ∀ base : Heap, K.In base → base.Ns mainGlobals mg → FnG l.prog w K mg base CX0 8 fa fd ["_law_script"] (spLaw K) := by
  have e := hfa.symm.trans (PySem.W.mg_of X G x23)
  cases e
  have F0 := fun_mk (st := s_greatest) l0 c0 k0
  have b0 := F0.binds (ps := ["wide"]) fun _ _ _ _ _ _ us hl => match us, hl with | [_], _ => rfl
  have F1 := fun_mk (st := s_is_whole) l1 c1 k1
  have b1 := F1.binds (ps := ["thing"]) fun _ _ _ _ _ _ us hl => match us, hl with | [_], _ => rfl
  have F2 := fun_mk (st := s_is_among) l2 c2 k2
  have b2 := F2.binds (ps := ["word", "words"]) fun _ _ _ _ _ _ us hl => match us, hl with | [_, _], _ => rfl
  have F3 := fun_mk (st := s_moved_left) l3 c3 k3
  have b3 := F3.binds (ps := ["worth", "places", "wide"]) fun _ _ _ _ _ _ us hl => match us, hl with | [_, _, _], _ => rfl
  have F4 := fun_mk (st := s_moved_right) l4 c4 k4
  have b4 := F4.binds (ps := ["worth", "places", "wide"]) fun _ _ _ _ _ _ us hl => match us, hl with | [_, _, _], _ => rfl
  have F5 := fun_mk (st := s_done) l5 c5 k5
  have FD5 : FunD K "done" "done" (defArgs s_done) (defBody s_done) (defScope s_done) [] [("wide", .int 16)] f5 _ := ⟨⟨_, _, _, _, _, _, _, _, _, _, rfl, l5, c5, .inl ⟨rfl, rfl⟩, .inr ⟨D5, rfl, fun q hq => by cases hq with | head => exact ⟨_, w5, _, rfl⟩ | tail _ z => cases z⟩⟩, k5⟩
  obtain ⟨d5, v5, b5⟩ := FD5.binds0 (ps := ["word", "one", "other", "wide"]) 3 (fun z => by cases z) rfl (fun D doc pm an cdv ct us ks hu hk => match us, ks, hu, hk with | [_, _, _], [_], _, _ => ⟨_, _, _, _, _, _, rfl, rfl, rfl⟩)
  have kb5 := kbn_all (ps := ["word", "one", "other", "wide"]) (ks := ["wide"]) (n := 3) F5 fun _ _ _ _ _ _ us ws hu hw => match us, ws, hu, hw with | [_, _, _], [_], _, _ => rfl
  have F6 := fun_mk (st := s_plus_bits) l6 c6 k6
  have b6 := F6.binds (ps := ["one", "other", "wide"]) fun _ _ _ _ _ _ us hl => match us, hl with | [_, _, _], _ => rfl
  have F7 := fun_mk (st := s_minus_bits) l7 c7 k7
  have b7 := F7.binds (ps := ["one", "other", "wide"]) fun _ _ _ _ _ _ us hl => match us, hl with | [_, _, _], _ => rfl
  have F8 := fun_mk (st := s_and_bits) l8 c8 k8
  have b8 := F8.binds (ps := ["one", "other"]) fun _ _ _ _ _ _ us hl => match us, hl with | [_, _], _ => rfl
  have F9 := fun_mk (st := s_or_bits) l9 c9 k9
  have b9 := F9.binds (ps := ["one", "other"]) fun _ _ _ _ _ _ us hl => match us, hl with | [_, _], _ => rfl
  have F10 := fun_mk (st := s_either_bits) l10 c10 k10
  have b10 := F10.binds (ps := ["one", "other"]) fun _ _ _ _ _ _ us hl => match us, hl with | [_, _], _ => rfl
  have F11 := fun_mk (st := s_moved_bits) l11 c11 k11
  have b11 := F11.binds (ps := ["word", "one", "places", "wide"]) fun _ _ _ _ _ _ us hl => match us, hl with | [_, _, _, _], _ => rfl
  have F12 := fun_mk (st := s_bits_done) l12 c12 k12
  have FD12 : FunD K "bits_done" "bits_done" (defArgs s_bits_done) (defBody s_bits_done) (defScope s_bits_done) [] [("wide", .int 16)] f12 _ := ⟨⟨_, _, _, _, _, _, _, _, _, _, rfl, l12, c12, .inl ⟨rfl, rfl⟩, .inr ⟨D12, rfl, fun q hq => by cases hq with | head => exact ⟨_, w12, _, rfl⟩ | tail _ z => cases z⟩⟩, k12⟩
  obtain ⟨d12, v12, b12⟩ := FD12.binds0 (ps := ["word", "one", "other", "wide"]) 3 (fun z => by cases z) rfl (fun D doc pm an cdv ct us ks hu hk => match us, ks, hu, hk with | [_, _, _], [_], _, _ => ⟨_, _, _, _, _, _, rfl, rfl, rfl⟩)
  have kb12 := kbn_all (ps := ["word", "one", "other", "wide"]) (ks := ["wide"]) (n := 3) F12 fun _ _ _ _ _ _ us ws hu hw => match us, ws, hu, hw with | [_, _, _], [_], _, _ => rfl
  have F13 := fun_mk (st := s_pairs_to_try) l13 c13 k13
  have b13 := F13.binds (ps := ["one", "other", "bit"]) fun _ _ _ _ _ _ us hl => match us, hl with | [_, _, _], _ => rfl
  have F14 := fun_mk (st := s_bit_pair) l14 c14 k14
  have FD14 : FunD K "bit_pair" "bit_pair" (defArgs s_bit_pair) (defBody s_bit_pair) (defScope s_bit_pair) [] [("wide", .int 16)] f14 _ := ⟨⟨_, _, _, _, _, _, _, _, _, _, rfl, l14, c14, .inl ⟨rfl, rfl⟩, .inr ⟨D14, rfl, fun q hq => by cases hq with | head => exact ⟨_, w14, _, rfl⟩ | tail _ z => cases z⟩⟩, k14⟩
  obtain ⟨d14, v14, b14⟩ := FD14.binds0 (ps := ["word", "one", "other", "bit", "wide"]) 4 (fun z => by cases z) rfl (fun D doc pm an cdv ct us ks hu hk => match us, ks, hu, hk with | [_, _, _, _], [_], _, _ => ⟨_, _, _, _, _, _, rfl, rfl, rfl⟩)
  have kb14 := kbn_all (ps := ["word", "one", "other", "bit", "wide"]) (ks := ["wide"]) (n := 4) F14 fun _ _ _ _ _ _ us ws hu hw => match us, ws, hu, hw with | [_, _, _, _], [_], _, _ => rfl
  have F15 := fun_mk (st := s_pool) l15 c15 k15
  have b15 := F15.binds (ps := ["_law_script", "_law_k"]) fun _ _ _ _ _ _ us hl => match us, hl with | [_, _], _ => rfl
  have F16 := fun_mk (st := s_take) l16 c16 k16
  have b16 := F16.binds (ps := ["_law_pool_here", "_law_many"]) fun _ _ _ _ _ _ us hl => match us, hl with | [_, _], _ => rfl
  have F17 := fun_mk (st := s_top) l17 c17 k17
  have b17 := F17.binds (ps := ["_law_size"]) fun _ _ _ _ _ _ us hl => match us, hl with | [_], _ => rfl
  have F18 := fun_mk (st := s_bits) l18 c18 k18
  have b18 := F18.binds (ps := ["_law_pool_here", "_law_size"]) fun _ _ _ _ _ _ us hl => match us, hl with | [_, _], _ => rfl
  have F19 := fun_mk (st := s_l_done) l19 c19 k19
  have b19 := F19.binds (ps := ["_law_word", "_law_one", "_law_other", "_law_size"]) fun _ _ _ _ _ _ us hl => match us, hl with | [_, _, _, _], _ => rfl
  have F20 := fun_mk (st := s_is_held) l20 c20 k20
  have b20 := F20.binds (ps := ["_law_bits_here", "_law_worth", "_law_size"]) fun _ _ _ _ _ _ us hl => match us, hl with | [_, _, _], _ => rfl
  have F21 := fun_mk (st := s_so) l21 c21 k21
  have b21 := F21.binds (ps := ["_law_word", "_law_one", "_law_other", "_law_bit", "_law_size"]) fun _ _ _ _ _ _ us hl => match us, hl with | [_, _, _, _, _], _ => rfl
  have F22 := fun_mk (st := s_refused) l22 c22 k22
  have b22 := F22.binds (ps := ["_law_word", "_law_one", "_law_other", "_law_bit", "_law_size"]) fun _ _ _ _ _ _ us hl => match us, hl with | [_, _, _, _, _], _ => rfl
  have F23 := fun_mk (st := s_law) l23 c23 k23
  have T : Txt K mg := { a_greatest := f0, fd_greatest := _, F_greatest := F0, g_greatest := PySem.W.mg_of X G x0, b_greatest := b0, a_is_whole := f1, fd_is_whole := _, F_is_whole := F1, g_is_whole := PySem.W.mg_of X G x1, b_is_whole := b1, a_is_among := f2, fd_is_among := _, F_is_among := F2, g_is_among := PySem.W.mg_of X G x2, b_is_among := b2, a_moved_left := f3, fd_moved_left := _, F_moved_left := F3, g_moved_left := PySem.W.mg_of X G x3, b_moved_left := b3, a_moved_right := f4, fd_moved_right := _, F_moved_right := F4, g_moved_right := PySem.W.mg_of X G x4, b_moved_right := b4, a_done := f5, fd_done := _, F_done := F5, g_done := PySem.W.mg_of X G x5, d_done := d5, v_done := v5, b_done := b5, k_done := kb5, a_plus_bits := f6, fd_plus_bits := _, F_plus_bits := F6, g_plus_bits := PySem.W.mg_of X G x6, b_plus_bits := b6, a_minus_bits := f7, fd_minus_bits := _, F_minus_bits := F7, g_minus_bits := PySem.W.mg_of X G x7, b_minus_bits := b7, a_and_bits := f8, fd_and_bits := _, F_and_bits := F8, g_and_bits := PySem.W.mg_of X G x8, b_and_bits := b8, a_or_bits := f9, fd_or_bits := _, F_or_bits := F9, g_or_bits := PySem.W.mg_of X G x9, b_or_bits := b9, a_either_bits := f10, fd_either_bits := _, F_either_bits := F10, g_either_bits := PySem.W.mg_of X G x10, b_either_bits := b10, a_moved_bits := f11, fd_moved_bits := _, F_moved_bits := F11, g_moved_bits := PySem.W.mg_of X G x11, b_moved_bits := b11, a_bits_done := f12, fd_bits_done := _, F_bits_done := F12, g_bits_done := PySem.W.mg_of X G x12, d_bits_done := d12, v_bits_done := v12, b_bits_done := b12, k_bits_done := kb12, a_pairs_to_try := f13, fd_pairs_to_try := _, F_pairs_to_try := F13, g_pairs_to_try := PySem.W.mg_of X G x13, b_pairs_to_try := b13, a_bit_pair := f14, fd_bit_pair := _, F_bit_pair := F14, g_bit_pair := PySem.W.mg_of X G x14, d_bit_pair := d14, v_bit_pair := v14, b_bit_pair := b14, k_bit_pair := kb14, a_pool := f15, fd_pool := _, F_pool := F15, g_pool := PySem.W.mg_of X G x15, b_pool := b15, a_take := f16, fd_take := _, F_take := F16, g_take := PySem.W.mg_of X G x16, b_take := b16, a_top := f17, fd_top := _, F_top := F17, g_top := PySem.W.mg_of X G x17, b_top := b17, a_bits := f18, fd_bits := _, F_bits := F18, g_bits := PySem.W.mg_of X G x18, b_bits := b18, a_l_done := f19, fd_l_done := _, F_l_done := F19, g_l_done := PySem.W.mg_of X G x19, b_l_done := b19, a_is_held := f20, fd_is_held := _, F_is_held := F20, g_is_held := PySem.W.mg_of X G x20, b_is_held := b20, a_so := f21, fd_so := _, F_so := F21, g_so := PySem.W.mg_of X G x21, b_so := b21, a_refused := f22, fd_refused := _, F_refused := F22, g_refused := PySem.W.mg_of X G x22, b_refused := b22, a_BIT_WORDS := ac_BIT_WORDS, g_BIT_WORDS := PySem.W.mg_of X G y_BIT_WORDS, q_BIT_WORDS := fun H => .inr ⟨_, _, _, u_BIT_WORDS, rfl, rfl, (show 7 ≤ sizeLine by decide), (.cons ⟨_, rfl⟩ (.cons ⟨_, rfl⟩ (.cons ⟨_, rfl⟩ (.cons ⟨_, rfl⟩ (.cons ⟨_, rfl⟩ (.cons ⟨_, rfl⟩ (.cons ⟨_, rfl⟩ .nil)))))))⟩, a_DEEDS := ac_DEEDS, g_DEEDS := PySem.W.mg_of X G y_DEEDS, q_DEEDS := fun H => .inr ⟨_, _, _, u_DEEDS, rfl, rfl, (show 8 ≤ sizeLine by decide), (.cons ⟨_, rfl⟩ (.cons ⟨_, rfl⟩ (.cons ⟨_, rfl⟩ (.cons ⟨_, rfl⟩ (.cons ⟨_, rfl⟩ (.cons ⟨_, rfl⟩ (.cons ⟨_, rfl⟩ (.cons ⟨_, rfl⟩ .nil))))))))⟩, a_MOVES := ac_MOVES, g_MOVES := PySem.W.mg_of X G y_MOVES, q_MOVES := fun H => .inr ⟨_, _, _, u_MOVES, rfl, rfl, (show 2 ≤ sizeLine by decide), (.cons ⟨_, rfl⟩ (.cons ⟨_, rfl⟩ .nil))⟩, b_ValueError := PySem.W.mg_none_of X G z_ValueError, b_abs := PySem.W.mg_none_of X G z_abs, b_bool := PySem.W.mg_none_of X G z_bool, b_enumerate := PySem.W.mg_none_of X G z_enumerate, b_int := PySem.W.mg_none_of X G z_int, b_isinstance := PySem.W.mg_none_of X G z_isinstance, b_len := PySem.W.mg_none_of X G z_len, b_max := PySem.W.mg_none_of X G z_max, b_min := PySem.W.mg_none_of X G z_min, b_range := PySem.W.mg_none_of X G z_range, b_repr := PySem.W.mg_none_of X G z_repr, b_str := PySem.W.mg_none_of X G z_str, b_sum := PySem.W.mg_none_of X G z_sum, b_tuple := PySem.W.mg_none_of X G z_tuple, a_GateError := ac_GateError, g_GateError := PySem.W.mg_of X G y_GateError, i_GateError := ⟨cb_GateError, cd_GateError, ci_GateError, ct_GateError⟩, a_NoBit := ac_NoBit, g_NoBit := PySem.W.mg_of X G y_NoBit, i_NoBit := ⟨cb_NoBit, cd_NoBit, ci_NoBit, ct_NoBit⟩, a_NoWord := ac_NoWord, g_NoWord := PySem.W.mg_of X G y_NoWord, i_NoWord := ⟨cb_NoWord, cd_NoWord, ci_NoWord, ct_NoWord⟩, r_NoBit := ⟨rx_NoBit, rk_NoBit, cb_NoBit, ct_NoBit, ⟨eg_NoBit, ek_NoBit, cb_NoBit, cd_NoBit, ea_NoBit, en_NoBit, et_NoBit, em_NoBit⟩, PySem.W.exm_ref cb_NoBit cd_NoBit ct_NoBit s_NoBit_NoBit⟩, s_NoBit_GateError := s_NoBit_GateError, s_NoBit_NoBit := s_NoBit_NoBit, s_NoBit_NoWord := s_NoBit_NoWord, v_NoBit := sv_NoBit }
  exact ⟨_, fun s v => .of_eq rfl, fun base _ _ => ok_law T F23⟩
end Bg
open PySem PySem.W PyProof.Rows
set_option maxHeartbeats 0 in
theorem PySem.Challenge.cw_boundgate_k09_two_for_each_unsure_bit_holds : PySem.Challenge.rw_boundgate_k09_two_for_each_unsure_bit.Holds := by
  w_on; o_law; k_head; (case hw => w_witness2)
  k_fill
  refine Bg.walkG (l := PySem.Challenge.rw_boundgate_k09_two_for_each_unsure_bit) (n := 63) (k := 8) (x := "_law_script") (CX := fun _ => L2.CX0) (sp := fun w => Bg.spLaw _) rfl (by decide) rfl ⟨rfl, by decide, by decide⟩ (fun w h Y => PySem.W.kIn_of Y) ?F (fun _ _ a ns hl hS => ⟨a, ns, rfl, hS, hl, fun _ => rfl⟩) (fun _ _ _ _ _ h => h)
  case F =>
    intro w mg fa h KX G hmg
    refine' Bg.all_mk KX G hmg ?x0 ?l0 ?c0 ?k0 ?x1 ?l1 ?c1 ?k1 ?x2 ?l2 ?c2 ?k2 ?x3 ?l3 ?c3 ?k3 ?x4 ?l4 ?c4 ?k4 ?x5 ?l5 ?c5 ?k5 ?w5 ?x6 ?l6 ?c6 ?k6 ?x7 ?l7 ?c7 ?k7 ?x8 ?l8 ?c8 ?k8 ?x9 ?l9 ?c9 ?k9 ?x10 ?l10 ?c10 ?k10 ?x11 ?l11 ?c11 ?k11 ?x12 ?l12 ?c12 ?k12 ?w12 ?x13 ?l13 ?c13 ?k13 ?x14 ?l14 ?c14 ?k14 ?w14 ?x15 ?l15 ?c15 ?k15 ?x16 ?l16 ?c16 ?k16 ?x17 ?l17 ?c17 ?k17 ?x18 ?l18 ?c18 ?k18 ?x19 ?l19 ?c19 ?k19 ?x20 ?l20 ?c20 ?k20 ?x21 ?l21 ?c21 ?k21 ?x22 ?l22 ?c22 ?k22 ?x23 ?l23 ?c23 ?k23 ?y_BIT_WORDS ?u_BIT_WORDS ?y_DEEDS ?u_DEEDS ?y_MOVES ?u_MOVES ?z_ValueError ?z_abs ?z_bool ?z_enumerate ?z_int ?z_isinstance ?z_len ?z_max ?z_min ?z_range ?z_repr ?z_str ?z_sum ?z_tuple ?y_GateError ?cb_GateError ?cd_GateError ?ci_GateError ?ct_GateError ?y_NoBit ?cb_NoBit ?cd_NoBit ?ci_NoBit ?ct_NoBit ?y_NoWord ?cb_NoWord ?cd_NoWord ?ci_NoWord ?ct_NoWord ?rx_NoBit ?rk_NoBit ?eg_NoBit ?ek_NoBit ?ea_NoBit ?en_NoBit ?et_NoBit ?em_NoBit ?s_NoBit_GateError ?s_NoBit_NoBit ?s_NoBit_NoWord ?sv_NoBit
    (case x0 => k_is); (case l0 => k_is); (case c0 => k_is); (case k0 => k_is); (case x1 => k_is); (case l1 => k_is); (case c1 => k_is); (case k1 => k_is); (case x2 => k_is); (case l2 => k_is); (case c2 => k_is); (case k2 => k_is); (case x3 => k_is); (case l3 => k_is); (case c3 => k_is); (case k3 => k_is); (case x4 => k_is); (case l4 => k_is); (case c4 => k_is); (case k4 => k_is); (case x5 => k_is); (case l5 => k_is); (case c5 => k_is); (case k5 => k_is); (case w5 => k_is); (case x6 => k_is); (case l6 => k_is); (case c6 => k_is); (case k6 => k_is); (case x7 => k_is); (case l7 => k_is); (case c7 => k_is); (case k7 => k_is); (case x8 => k_is); (case l8 => k_is); (case c8 => k_is); (case k8 => k_is); (case x9 => k_is); (case l9 => k_is); (case c9 => k_is); (case k9 => k_is); (case x10 => k_is); (case l10 => k_is); (case c10 => k_is); (case k10 => k_is); (case x11 => k_is); (case l11 => k_is); (case c11 => k_is); (case k11 => k_is); (case x12 => k_is); (case l12 => k_is); (case c12 => k_is); (case k12 => k_is); (case w12 => k_is); (case x13 => k_is); (case l13 => k_is); (case c13 => k_is); (case k13 => k_is); (case x14 => k_is); (case l14 => k_is); (case c14 => k_is); (case k14 => k_is); (case w14 => k_is); (case x15 => k_is); (case l15 => k_is); (case c15 => k_is); (case k15 => k_is); (case x16 => k_is); (case l16 => k_is); (case c16 => k_is); (case k16 => k_is); (case x17 => k_is); (case l17 => k_is); (case c17 => k_is); (case k17 => k_is); (case x18 => k_is); (case l18 => k_is); (case c18 => k_is); (case k18 => k_is); (case x19 => k_is); (case l19 => k_is); (case c19 => k_is); (case k19 => k_is); (case x20 => k_is); (case l20 => k_is); (case c20 => k_is); (case k20 => k_is); (case x21 => k_is); (case l21 => k_is); (case c21 => k_is); (case k21 => k_is); (case x22 => k_is); (case l22 => k_is); (case c22 => k_is); (case k22 => k_is); (case x23 => k_is); (case l23 => k_is); (case c23 => k_is); (case k23 => k_is); (case y_BIT_WORDS => k_is); (case u_BIT_WORDS => k_is); (case y_DEEDS => k_is); (case u_DEEDS => k_is); (case y_MOVES => k_is); (case u_MOVES => k_is); (case z_ValueError => k_is); (case z_abs => k_is); (case z_bool => k_is); (case z_enumerate => k_is); (case z_int => k_is); (case z_isinstance => k_is); (case z_len => k_is); (case z_max => k_is); (case z_min => k_is); (case z_range => k_is); (case z_repr => k_is); (case z_str => k_is); (case z_sum => k_is); (case z_tuple => k_is); (case y_GateError => k_is); (case cb_GateError => k_is); (case cd_GateError => k_is); (case ci_GateError => k_is); (case ct_GateError => k_is); (case y_NoBit => k_is); (case cb_NoBit => k_is); (case cd_NoBit => k_is); (case ci_NoBit => k_is); (case ct_NoBit => k_is); (case y_NoWord => k_is); (case cb_NoWord => k_is); (case cd_NoWord => k_is); (case ci_NoWord => k_is); (case ct_NoWord => k_is); (case rx_NoBit => k_exc); (case rk_NoBit => k_is); (case eg_NoBit => k_is); (case ek_NoBit => k_is); (case ea_NoBit => k_is); (case en_NoBit => k_is); (case et_NoBit => k_is); (case em_NoBit => k_is); (case s_NoBit_GateError => first | rfl | k_is); (case s_NoBit_NoBit => first | rfl | k_is); (case s_NoBit_NoWord => first | rfl | k_is); (case sv_NoBit => k_is)
