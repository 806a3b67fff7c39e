import PyProof.Rows.All
import HandS.ForMost
import HandS.Wide
import HandS.Defaults
import HandS.IsInst
import HandS.RaiseMore
import PyProof.ReprRoads
import PyProof.RulesMatch
import PyProof.ReprLen
import PyProof.FitsInt
import PyProof.StrLawsRepr
import PyProof.Rows.ReprOcc
import KE.BitLaws
import KE.KBits
import HandS.WideBits
import HandS.NoneIn
import PySem.Challenge.RW_boundgate_k15_known_numbers_made
set_option Elab.async false
set_option linter.all false
set_option maxRecDepth 100000
set_option maxHeartbeats 4000000
namespace Bg
open PySem PySem.Spec PyProof.Rows L2

/-! ### defs that may show things: nothing is being shown around them -/
def Gd (A : Around) : Prop := A.guards = some []
theorem Gd.deep {A : Around} (g : Gd A) (e : Env) : Gd (A.deeper e) := g
structure FnG (P : Program) (w : World) (K : PySem.W.Frag) (mg : Str → Option Value) (base : Heap)
    (CX : CXT) (k : Nat) (f : Addr) (fd : FuncData) (ps : List Str) (sp : Sp) : Prop where
  len : ∀ vs H Q E, sp vs H Q E → vs.length = ps.length
  run : ∀ (A : Around) (outer : List Env) (s : Shared) (H : Hp) (args : Args) (us : List Value)
    (vs : List V) (Q : VK) (E : XK), Room k A → Gd A → Env0 P w K mg base A outer s H →
    BindsTo s fd args (ps.zip us) → Vals vs us → sp vs H Q E →
    codeAny (model P w) A (.call (.ref f) args) (CR CX outer P w H s Q E) s

section
variable {P : Program} {w : World} {K : PySem.W.Frag} {mg : Str → Option Value} {base : Heap}
theorem FnG.of {CX : CXT} {k : Nat} {f : Addr} {fd : FuncData} {ps : List Str} {sp : Sp}
    (F : FnOk P w K mg base CX k f fd ps sp) : FnG P w K mg base CX k f fd ps sp :=
  ⟨F.len, fun A o s H a us vs Q E hr _ => F.run A o s H a us vs Q E hr⟩
theorem fnG {CX : CXT} {k : Nat} {x qual : Str} {st : Stmt} {f : Addr} {fd : FuncData} {N ps : List Str} {sp : Sp}
    (F : Fun K x qual st f fd) (S : FnScope N ps (defScope st)) (len : ∀ vs H Q E, sp vs H Q E → vs.length = ps.length)
    (hbody : ∀ (cdv : Value) (A : Around) (outer : List Env) (s : Shared) (H : Hp) (vs : List V) (Q : VK) (E : XK),
      Room k (A.deeper (envOfC qual (defScope st) s.heap.objs.size f cdv)) → Gd A → sp vs H Q E →
      ∃ t, PSs (cxOf CX P w K mg base N qual (defScope st) f cdv A outer s H E) (defBody st) t ∧
        t { nx := fun _ H' => Q .non H', rt := Q } (start N vs) H) :
    FnG P w K mg base CX (k + 1) f fd ps sp := by
  obtain ⟨oc, od, kV, doc, pm, an, cdv, ct, osl, rfl, lk, hcd⟩ := F.ex
  constructor
  · exact len
  intro A outer s H args us vs Q E room gd env bnd rel hsp
  have kin : K.In s.heap := env.mod.kin.keeps (fun b o e => (env.bs b o e).1)
  have kinds : ∀ y ∈ ps.zip us, (defScope st).names.lookup y.1 = some .local ∨
      ((defScope st).names.lookup y.1 = some .cell ∧
        ((cellsFrom (s.heap.objs.size + 1) (defScope st).names []).lookup y.1).isSome = true) := by
    rintro ⟨n, v⟩ hy
    cases S.par n (List.of_mem_zip hy).1 with
    | inl q => exact Or.inl q
    | inr q => exact Or.inr ⟨q, PySem.W.cellsFrom_some _ _ _ (Or.inl q)⟩
  apply codeAny_call_function room.depth (kin _ _ lk) rfl S.co S.gen rfl (PySem.W.codeRec_of kin hcd)
  apply bnd
  apply wpAny_newFunctionEnv_cells S.kind kinds
  intro env' he s1 x1
  subst he
  obtain ⟨t, ht, hq⟩ := hbody cdv A outer s H vs Q E (room.deeper _) gd hsp
  have I := inv_start (CX := CX) (E := E) (outer := outer) S room.hd env (len _ _ _ _ hsp) rel x1
  refine ⟨(env.mod.nolimit.keeps (fun b o e => (env.bs b o e).1)).keeps x1.toInCall.keep, codeAny_func ?_⟩
  apply wpAny_mono (ht.run [] s1 (start N vs) H _ I hq)
  · intro fl s' hs
    cases fl with
    | ret u => obtain ⟨v, σ', H', J, rv, q⟩ := hs; exact ⟨v, H', J.os, J.bare, J.base, J.hok, rv, q⟩
    | next => obtain ⟨σ', H', J, q⟩ := hs; exact ⟨V.non, H', J.os, J.bare, J.base, J.hok, rfl, q⟩
    | brk => obtain ⟨_, _, _, q⟩ := hs; exact q.elim
    | cont => obtain ⟨_, _, _, q⟩ := hs; exact q.elim
  · exact fun _ _ hs => hs
end

theorem fnG0 {P : Program} {w : World} {K : PySem.W.Frag} {mg : Str → Option Value} {base : Heap} {k : Nat} {x qual : Str} {st : Stmt} {f : Addr} {fd : FuncData} {N ps : List Str} {sp : Sp}
    (F : Fun K x qual st f fd) (S : FnScope N ps (defScope st)) (len : ∀ vs H Q E, sp vs H Q E → vs.length = ps.length)
    (hbody : ∀ (cdv : Value) (A : Around) (outer : List Env) (s : Shared) (H : Hp) (vs : List V) (Q : VK) (E : XK),
      Room k (A.deeper (envOfC qual (defScope st) s.heap.objs.size f cdv)) → Gd A → sp vs H Q E →
      ∃ t, PSs (cxOf CX0 P w K mg base N qual (defScope st) f cdv A outer s H E).nox (defBody st) t ∧
        t { nx := fun _ H' => Q .non H', rt := Q } (start N vs) H) :
    FnG P w K mg base CX0 (k + 1) f fd ps sp :=
  fnG F S len fun cdv A outer s H vs Q E hr g h => by
    obtain ⟨t, ht, q⟩ := hbody cdv A outer s H vs Q E hr g h
    exact ⟨t, ht.nox, q⟩

/-! ### the call of such a def -/
section
variable {X : Cx} {CX : CXT} {k : Nat} {f : Addr} {fd : FuncData} {ps : List Str} {sp : Sp} {E : XK} {x : Str}
  {p pos : Pos} {e : Expr} {es : List Expr} {t : TA}
theorem pe_callG (F : FnG X.prog X.w X.K X.mg X.base CX k f fd ps sp) (hr : Room k X.A) (gd : Gd X.A) (hg : Gl X x)
    (hm : X.mg x = some (.ref f)) (hk : PySem.W.keepIn X.K (.ref f) = true) (hb : Binds X.K fd ps [])
    (hx : Passes CX X E) (ha : PA X (e :: es) t) (hdb : (x == ("__debug__" : Str)) = false := by decide)
    (he : starEach (e :: es) X.env = (false, eval e X.env) :: starEach es X.env := by rfl)
    (hpl : (backTo pos (starEach es X.env)).any (·.1) = false := by rfl) :
    PE X (.Call (.Name x p) (e :: es) [] pos) (tCall sp [] E t) := by
  constructor
  intro pins s σ H Q I h
  apply wpAny_Call_Name_kw
  apply ld_glob I hg hm _ hdb
  refine PySem.W.callWith_K (h₀ := X.base) I.ok.mod.kin hk ?_ he hpl
  refine thn (ha.run pos pins s σ H _ I h) ?_
  rintro us s1 ⟨vs, H1, I1, r, q⟩
  refine ⟨I1.kIn, ?_⟩
  have hl : (us ++ []).length = ps.length := by
    rw [List.append_nil, ← r.length, ← F.len _ _ _ _ q, List.append_nil]
  have bd := hb s1 us I1.kIn hl
  rw [List.append_nil] at q bd
  refine wpAny_call (codeAny_mono (F.run X.A X.stack s1 H1 ⟨us, []⟩ us vs Q E hr gd I1.env0 bd r q) ?_)
  intro r s' hq
  cases r with
  | error e => exact hx pins σ H1 s1 e s' I1 hq
  | ok fl =>
    cases fl with
    | ret u => exact I1.after hq
    | next => exact hq.elim
    | brk => exact hq.elim
    | cont => exact hq.elim
end

/-! ### repr of data -/
theorem shsm {d : PyData} {as : List Addr} (h : d.hasDict = false) : d.hasDict = true → sysModules ∉ as := by
  rw [h]; intro z; cases z
section
variable {X : Cx}
/-- repr(x), x a list or a tuple of data -/
def rRep (K : PySem.W.Frag) : List V → Hp → VK → Prop := fun xs H Q => ∃ a d, xs = [.ref a] ∧ Dp K H (.ref a) d ∧
  d.showable = true ∧ d.hasDict = false ∧ d.depth ≤ 60 ∧ d.shown.length ≤ sizeLine ∧ Q (.str d.shown) H
theorem call_rep (gd : Gd X.A) (hu : X.A.units + 64 < cLine) : CallR X (.builtin "repr") (rRep X.K) := by
  intro pins s σ H xs us Q I r h
  obtain ⟨a, d, rfl, hd, sh, nd, dp, sz, q⟩ := h
  obtain ⟨u, rfl, ru⟩ := vals1 r
  obtain ⟨as, rd⟩ := Dp.reads I d _ u hd ru
  cases (show u = Value.ref a from ru)
  refine repr_of_reads' rd sh (shsm nd) gd (by omega) (fun _ _ e => e) (fun h' u tk hk => ?_) sz
  exact ⟨.str d.shown, H, I.kept hk, ⟨_, rfl⟩, q⟩
end

/-! ### match over texts -/
structure PM (X : Cx) (cs : List MatchCase) (tm : V → TS) : Prop where
  run : ∀ (pins : List (Addr × Obj)) (s : Shared) (σ : L2.St) (H : Hp) (D : Ends) (v : V) (u : Value) (b : Bool),
    Inv X pins σ H s → RelV v u → tm v D σ H → wpAny (model X.prog X.w) X.A (matchCases cs X.env u b) (SP X pins D) X.xe s
def mNil : V → TS := fun _ => tNext
def mAny (tb : TS) : V → TS := fun _ => tb
def mStr (z : Str) (tb : TS) (tr : V → TS) : V → TS := fun v D σ H => ∃ x, v = .str x ∧ if x = z then tb D σ H else tr v D σ H
def tMatch (ta : TE) (tm : V → TS) : TS := fun D σ H => ta σ H fun v H1 => tm v D σ H1
section
variable {X : Cx} {rest : List MatchCase} {body : List Stmt} {tb : TS} {tr : V → TS} {pos p1 : Pos} {z : Str} {j : Nat}
theorem pm_nil : PM X [] mNil := ⟨fun pins s σ H D v u b I r h => wpAny_matchCases_nil ⟨σ, H, I, h⟩⟩
theorem pm_any (h : PSs X body tb) : PM X (⟨.MatchAs none none pos, none, body⟩ :: rest) (mAny tb) := by
  constructor
  intro pins s σ H D v u b I r q
  apply wpAny_matchCases_cons
  apply wpAny_matchPattern_Capture
  exact wpAny_assignInOrder_none (h.run pins s σ H D I q)
theorem pm_str (h : PSs X body tb) (hr : PM X rest tr) :
    PM X (⟨.MatchValue (.Constant (.str z) j p1) pos, none, body⟩ :: rest) (mStr z tb tr) := by
  constructor
  intro pins s σ H D v u b I r q
  obtain ⟨x, rfl, q⟩ := q
  apply wpAny_matchCases_cons
  apply wpAny_matchPattern_Value
  refine thn ((pe_str (X := X) (x := z) (j := j) (pos := p1)).run pins s σ H (fun v H1 => v = .str z ∧ H1 = H) I ⟨rfl, rfl⟩) ?_
  rintro y s1 ⟨v1, H1, I1, r1, rfl, rfl⟩
  refine thn (op_eq pins s1 σ H1 (.str x) (.str z) u y (fun c H2 => c = .bl (decide (x = z)) ∧ H2 = H1) I1 r r1 ⟨rfl, by
    rw [show decide ((V.str x) = V.str z) = decide (x = z) from by simp]; exact ⟨rfl, rfl⟩⟩) ?_
  rintro c s2 ⟨v2, H2, I2, r2, rfl, rfl⟩
  cases (show c = Value.bool (decide (x = z)) from r2)
  apply wpAny_truthy_bool
  by_cases e : x = z
  · rw [if_pos (decide_eq_true e)]
    rw [if_pos e] at q
    exact wpAny_assignInOrder_none (h.run pins s2 σ H2 D I2 q)
  · rw [decide_eq_false e, if_neg Bool.false_ne_true]
    rw [if_neg e] at q
    exact hr.run pins s2 σ H2 D (.str x) u false I2 r q
theorem ps_match {e : Expr} {cs : List MatchCase} {ta : TE} {tm : V → TS} (ha : PE X e ta) (hm : PM X cs tm) : PS X (.Match e cs pos) (tMatch ta tm) := by
  constructor
  intro pins s σ H D I q
  apply wpAny_Match
  refine thn (ha.run pins s σ H _ I q) ?_
  rintro u s1 ⟨v, H1, I1, r1, q1⟩
  exact hm.run pins s1 σ H1 D v u true I1 r1 q1
end

/-! ### keywords: every keyword-only parameter is written -/
theorem kbn_all {K : PySem.W.Frag} {x qual : Str} {st : Stmt} {f : Addr} {fd : FuncData} {ps ks : List Str} {n : Nat} (F : Fun K x qual st f fd)
    (h : ∀ (kV doc pm : Value) (an : Option Addr) (cdv ct : Value) (us ws : List Value), us.length = n → ws.length = ks.length →
      bindArgs (PySem.W.fnOf x qual (defArgs st) (defBody st) (defScope st) .none kV doc pm an cdv ct) ⟨us, ks.zip ws⟩ = pure (ps.zip (us ++ ws))) :
    KBn K fd ps n ks (fun us ws => us ++ ws) (fun vs zs => vs ++ zs) := by
  obtain ⟨oc, od, kV, doc, pm, an, cdv, ct, osl, rfl, lk, hcd⟩ := F.ex
  constructor
  · intro s us ws kin l1 l2
    exact .of_eq (h kV doc pm an cdv ct us ws l1 l2)
  · intro vs us zs ws r1 r2
    exact r1.append r2

/-! ### the end of a law's row, its def told by FnG -/
section
variable {P : Program} {w : World} {K : PySem.W.Frag} {mg mb : Str → Option Value} {CX : CXT} {k : Nat} {fa a : Addr} {fd : FuncData} {x : Str} {sp : Sp}
  {s1 : Shared} {vs : List Value} {ns : List Int}
/-- H tracks the script alone, locked -/
structure Scr (P : Program) (w : World) (K : PySem.W.Frag) (H : Hp) (s1 : Shared) (a : Addr) (xs : List V) : Prop where
  only : ∀ b, H b = none ∨ (b = a ∧ ∃ o, H b = some (.frz o (.lst xs)))
  seq : SqL K H a xs
  hok : HOk P w H s1.heap
  out : H a ≠ none → K.lookup a = none
theorem scr_run (kin : K.In s1.heap) (hns : s1.heap.Ns mainGlobals mg) (hb : s1.heap.Ns builtinsNs mb) (hbb : ∀ x : Str, x ≠ "__name__" → mb x = bootBuiltins x)
    (hlim : s1.heap.NoLimit) (hg : s1.gens = #[]) (ha : s1.heap.get? a = some { cls := .type "list", data := .seq vs.toArray }) (hr : Room k callerA)
    (F : ∀ base : Heap, K.In base → base.Ns mainGlobals mg → FnG P w K mg base CX k fa fd [x] sp)
    (hbind : ∀ (s : Shared) (u : Value), BindsTo s fd ⟨[u], []⟩ [(x, u)]) (H : Hp) {xs : List V} (C : Scr P w K H s1 a xs)
    (hsp : sp [.ref a] H (fun v _ => v = .bl true) fun _ _ _ => False) (hCX : ∀ e s', CX [] H s1 (fun _ _ _ => False) e s' → False) :
    codeAny (model P w) callerA (.call (.ref fa) ⟨[.ref a], []⟩)
      (fun r s' => r = .ok (.ret (.bool true)) ∧ OldK s1.heap s'.heap ∧ s'.os = s1.os ∧ AllBare s'.gens) s1 := by
  have free : ∀ {b : Addr} {o : Obj}, s1.heap.get? b = some o → (∀ es, o.data ≠ .seq es 0) → H b = none := by
    intro b o e hne
    rcases C.only b with q | ⟨rfl, _⟩
    · exact q
    · rw [ha] at e; cases e; exact absurd rfl (hne _)
  have nsk : ∀ {b : Addr} {m : Str → Option Value}, s1.heap.Ns b m → (hidT s1.heap H).Ns b m := by
    rintro b m ⟨o, es, ep, e, d, r⟩
    exact ⟨o, es, ep, hidT_get e (free e (fun q z => by rw [d] at z; cases z)), d, r⟩
  have kb : K.In (hidT s1.heap H) := by
    intro b o e
    apply hidT_get (kin b o e)
    rcases C.only b with q | ⟨rfl, ob, q⟩
    · exact q
    · rw [C.out (by rw [q]; exact fun z => by cases z)] at e; cases e
  have md : Mod K mg (hidT s1.heap H) := by
    obtain ⟨mc, h1, h2⟩ := hlim
    exact ⟨kb, nsk hns, ⟨mb, nsk hb, hbb⟩, mc, nsk h1, h2⟩
  have env : Env0 P w K mg (hidT s1.heap H) callerA [] s1 H :=
    ⟨rfl, md, fun _ _ e => of_hidT e, Nat.le_of_eq (hidT_size _ _), trivial, fun b z => (nomatch (show b ∈ ([] : List Addr) from z)), C.hok, .of_eq hg⟩
  have run := (F _ kb (nsk hns)).run callerA [] s1 H ⟨[.ref a], []⟩ [.ref a] [.ref a] _ _ hr rfl env (hbind s1 (.ref a)) (.cons rfl .nil) hsp
  refine codeAny_mono run ?_
  intro r s' h
  cases r with
  | error e => exact (hCX e s' h).elim
  | ok fl =>
    cases fl with
    | next => exact h.elim
    | brk => exact h.elim
    | cont => exact h.elim
    | ret u =>
      obtain ⟨v, H', os, bare, un, hok, rv, q⟩ := h
      cases (show v = .bl true from q)
      cases (show u = Value.bool true from rv)
      refine ⟨rfl, OldK.of_keep ?_, os, bare⟩
      intro b o e
      rcases C.only b with z | ⟨_, ob, z⟩
      · exact un.keep b o e z (fun y => (nomatch (show b ∈ ([] : List Addr) from y))) (fun y => (nomatch y))
      · have e1 := (C.hok b _ z).1
        have e2 := (hok b _ (un.frzs b ob _ z)).1
        rw [e] at e1; cases e1
        exact e2
theorem scr_of (P : Program) (w : World) (ha : s1.heap.get? a = some { cls := .type "list", data := .seq vs.toArray }) (hi : IntsAre vs ns) (hl : ns.length ≤ sizeLine) (kin : K.In s1.heap) :
    ∃ H, Scr P w K H s1 a (ns.map V.int) := by
  have rv := vals_ints hi
  cases hk : K.lookup a with
  | some o =>
    have e := kin a o hk
    rw [ha] at e; cases e
    refine ⟨fun _ => none, fun _ => .inl rfl, .inr ⟨_, vs.toArray, _, hk, rfl, rfl, rfl, ?_, by simpa using rv⟩, fun b u z => (nomatch z), fun z => absurd rfl z⟩
    rw [List.size_toArray, hi.length]; exact hl
  | none =>
    refine ⟨fun b => if b = a then some (.frz { cls := .type "list", data := .seq vs.toArray } (.lst (ns.map V.int))) else none, ?_, .inl (.inr ⟨_, if_pos rfl⟩), ?_, fun _ => hk⟩
    · intro b
      by_cases e : b = a
      · exact .inr ⟨e, _, if_pos e⟩
      · exact .inl (if_neg e)
    · intro b u z
      by_cases e : b = a
      · subst e
        have z2 : (HO.frz { cls := .type "list", data := .seq vs.toArray } (.lst (ns.map V.int))) = u := Option.some.inj ((if_pos rfl).symm.trans z)
        subst z2
        exact ⟨ha, by rw [List.length_map]; exact hl, vs, _, rv, ha⟩
      · exact nomatch ((if_neg e).symm.trans z)
end
theorem walkG {l : PySem.W.OpenLaw} {n k : Nat} {q : Program} {loose : List Str} {XP : (Str → Option Value) → Heap → Prop} {YP : World → Heap → Prop} {d : DefRec}
    {K : Params → PySem.W.Frag} {CX : World → CXT} {sp : World → Sp} {x : Str} (hn : l.most = some n) (hn2 : n ≤ sizeLine) (hdf : d.params.defaults = []) (hr : Room k callerA)
    (hY : ∀ (w : World) (h : Heap), YP w h → (K w.params).In h)
    (F : ∀ (w : World) (mg : Str → Option Value) (fa : Addr) (h : Heap), (K w.params).In h → h.Ns mainGlobals mg → mg d.name = some (.ref fa) →
      ∃ fd : FuncData, (∀ (s : Shared) (u : Value), BindsTo s fd ⟨[u], []⟩ [(x, u)]) ∧
        ∀ base : Heap, (K w.params).In base → base.Ns mainGlobals mg → FnG l.prog w (K w.params) mg base (CX w) k fa fd [x] (sp w))
    (hsp : ∀ (w : World) (H : Hp) (a : Addr) (ns : List Int), ns.length ≤ n → SqL (K w.params) H a (ns.map V.int) → sp w [.ref a] H (fun v _ => v = .bl true) fun _ _ _ => False)
    (hCX : ∀ (w : World) (H : Hp) (s : Shared) (e : Value) (s' : Shared), CX w [] H s (fun _ _ _ => False) e s' → False) :
    PySem.W.WalkO q loose XP YP l.row.toRowW d [] (fun f vs => PySem.call f vs) := by
  apply Att.attach_call hn hdf
  intro w s0 s1 mg mb fa o pm cd doc a vs ns G Y ho hd hcd hmg hobj hints hlen hg
  have kin := hY w _ Y
  obtain ⟨fd, hb, hF⟩ := F w mg fa _ kin G.T.g hmg
  obtain ⟨H, C⟩ := scr_of (K := K w.params) l.prog w hobj hints (Nat.le_trans hlen hn2) kin
  exact scr_run kin G.T.g G.T.b G.T.builtins G.T.nolimit hg hobj hr hF hb H C (hsp w H a ns hlen C.seq) (fun e s' => hCX w H s1 e s')
end Bg

set_option Elab.async false
set_option linter.all false
set_option maxRecDepth 100000
set_option maxHeartbeats 4000000
namespace Bg
open PySem PySem.Spec PyProof.Rows L2
/-! ### readings, step by step -/
section
variable {σ : L2.St} {H : Hp} {Q : VK} {QT : Bool → Hp → Prop} {QA : List V → Hp → Prop} {D : Ends} {v x y : V} {i j : Int} {n : Nat} {ta tb te : TE} {tt tu : TT} {tA : TA} {t1 t2 : TS} {r : R2} {K : PySem.W.Frag} {p : Addr} {xs : List V} {b : Bool}
theorem rd_var (h : σ[n]? = some (some v)) (q : Q v H) : tVar n σ H Q := ⟨v, h, q⟩
theorem rd_c (q : Q v H) : tC v σ H Q := q
theorem rd_op (q : ta σ H fun x H1 => tb σ H1 fun y H2 => r x y H2 Q) : tOp r ta tb σ H Q := q
theorem rd_un {u : V → Hp → VK → Prop} (q : ta σ H fun x H1 => u x H1 Q) : tUn u ta σ H Q := q
theorem rd_I0 {g : Int → Int → V} (q : Q (g i j) H) : rI0 g (.int i) (.int j) H Q := ⟨i, j, rfl, rfl, q⟩
theorem rd_I {C : Int → Int → Prop} {g : Int → Int → V} (c : C i j) (q : Q (g i j) H) : rI C g (.int i) (.int j) H Q := ⟨i, j, rfl, rfl, c, q⟩
theorem rd_U {g : Int → V} (q : Q (g i) H) : rU g (.int i) H Q := ⟨i, rfl, q⟩
theorem rd_eq (s : scal x y = true) (q : Q (.bl (decide (x = y))) H) : rEq x y H Q := ⟨s, q⟩
theorem rd_ne (s : scal x y = true) (q : Q (.bl (!decide (x = y))) H) : rNe x y H Q := ⟨s, q⟩
theorem rd_test (q : te σ H fun x H' => ∃ k, x = .bl k ∧ QT k H') : tTest te σ H QT := q
theorem rd_B (q : te σ H fun x H' => ∃ k, x = .bl k ∧ QT k H') : tB te σ H QT := q
theorem rd_bl {R : Bool → Prop} (q : R b) : ∃ k, V.bl b = .bl k ∧ R k := ⟨b, rfl, q⟩
theorem rd_not (q : tt σ H fun c H1 => QT (!c) H1) : tNot tt σ H QT := q
theorem rd_and (q : tt σ H fun c H1 => if c = true then tu σ H1 QT else QT false H1) : tAnd tt tu σ H QT := q
theorem rd_or (q : tt σ H fun c H1 => if c = true then QT true H1 else tu σ H1 QT) : tOr tt tu σ H QT := q
theorem rd_andV (q : ta σ H fun x H1 => ∃ c, x = .bl c ∧ if c = true then tb σ H1 Q else Q (.bl false) H1) : tAndV ta tb σ H Q := q
theorem rd_orV (q : ta σ H fun x H1 => ∃ c, x = .bl c ∧ if c = true then Q (.bl true) H1 else tb σ H1 Q) : tOrV ta tb σ H Q := q
theorem rd_notV (q : ta σ H fun x H1 => ∃ c, x = .bl c ∧ Q (.bl (!c)) H1) : tNotV ta σ H Q := q
theorem rd_if (q : tt σ H fun c H1 => if c = true then ta σ H1 Q else tb σ H1 Q) : tIf tt ta tb σ H Q := q
theorem rd_chain {r' : R2} {tc : TE} (q : ta σ H fun x H1 => tb σ H1 fun y H2 => r x y H2 fun z H3 => ∃ k, z = .bl k ∧ (if k = true then tc σ H3 fun w' H4 => r' y w' H4 Q else Q (.bl false) H3)) : tChain r r' ta tb tc σ H Q := q
theorem rd_seq (q : t1 { D with nx := t2 D } σ H) : tSeq t1 t2 D σ H := q
theorem rd_next (q : D.nx σ H) : tNext D σ H := q
theorem rd_asg {g : TG} (q : te σ H fun x H1 => g x σ H1 D.nx) : tAsg te g D σ H := q
theorem rd_name {R : L2.St → Hp → Prop} (q : R (σ.set n (some v)) H) : gName n v σ H R := q
theorem rd_gsub {to ti : TE} {tset : V → V → V → Hp → (Hp → Prop) → Prop} {R : L2.St → Hp → Prop} (q : to σ H fun o H1 => ti σ H1 fun i H2 => tset o i v H2 fun H3 => R σ H3) : gSub to ti tset v σ H R := q
theorem rd_setL {R : Hp → Prop} {k : Int} {j : Nat} (h : H p = some (.lst xs)) (e : ixN xs.length k = some j) (q : R (upd H p (.lst (xs.set j v)))) : rSetL (.ref p) (.int k) v H R := ⟨p, xs, k, j, rfl, rfl, h, e, q⟩
theorem rd_ret (q : te σ H D.rt) : tRet te D σ H := q
theorem rd_drop (q : te σ H fun _ H1 => D.nx σ H1) : tDrop te D σ H := q
theorem rd_ifS (q : tt σ H fun b H1 => if b = true then t1 D σ H1 else t2 D σ H1) : tIfS tt t1 t2 D σ H := q
theorem rd_nil (q : QA [] H) : tNil σ H QA := q
theorem rd_cons (q : ta σ H fun x H1 => tA σ H1 fun xs H2 => QA (x :: xs) H2) : tCons ta tA σ H QA := q
theorem rd_CB {u : List V → Hp → VK → Prop} (q : tA σ H fun vs H1 => u vs H1 Q) : tCB u tA σ H Q := q
theorem rd_call {sp : Sp} {dvs : List V} {E : XK} (q : tA σ H fun vs H1 => sp (vs ++ dvs) H1 Q E) : tCall sp dvs E tA σ H Q := q
theorem rd_callN {sp : Sp} {m k : Nat} {gV : List V → List V → List V} {E : XK} {tk : TA} (q : tA σ H fun vs H1 => tk σ H1 fun zs H2 => vs.length = m ∧ zs.length = k ∧ sp (gV vs zs) H2 Q E) : tCallN m k sp gV E tA tk σ H Q := q
/-- a new object at p, all else as it was -/
def NewAt (H : Hp) (o : HO) (R : Addr → Hp → Prop) : Prop := ∀ p H', H p = none → Same H H' → H' p = some o → R p H'
theorem new_at {o : HO} {R : Addr → Hp → Prop} (q : NewAt H o R) (p : Addr) (np : H p = none) : R p (upd H p o) := q p _ np (fun b x e => by rw [upd_ne (ne_of_none e np)]; exact e) upd_same
theorem rd_dnew (q : NewAt H (.dK []) fun p H' => Q (.ref p) H') : tDNewK σ H Q := fun p np => new_at q p np
theorem rd_ixL (h : SqL K H p xs) (e : atI xs i = some v) (q : Q v H) : rIxL K (.ref p) (.int i) H Q := ⟨p, xs, i, v, rfl, rfl, h, e, q⟩
theorem rd_ixT (h : SqT K H p xs) (e : atI xs i = some v) (q : Q v H) : rIxT K (.ref p) (.int i) H Q := ⟨p, xs, i, v, rfl, rfl, h, e, q⟩
theorem rd_match {tm : V → TS} (q : ta σ H fun v H1 => tm v D σ H1) : tMatch ta tm D σ H := q
theorem rd_mstr {z w : Str} {tr : V → TS} (q : if w = z then t1 D σ H else tr (.str w) D σ H) : mStr z t1 tr (.str w) D σ H := ⟨w, rfl, q⟩
theorem rd_par {a b : Nat} {v w : V} (q : tA σ H fun vs H1 => ∃ v w, vs = [v, w] ∧ D.nx ((σ.set a (some v)).set b (some w)) H1) : tPar a b tA D σ H := q
end
section
variable {σ : L2.St} {H : Hp} {Q : VK} {D : Ends} {te : TE} {tA : TA} {K : PySem.W.Frag} {p : Addr} {xs : List V} {R : It → Hp → Prop} {QO : Option Int → Hp → Prop} {x : V} {i : Int}
theorem rd_sl {r : V → Option Int → Option Int → Hp → VK → Prop} {tl th : TO} (q : te σ H fun x H1 => tl σ H1 fun l H2 => th σ H2 fun u H3 => r x l u H3 Q) : tSl r te tl th σ H Q := q
theorem rd_nopart (q : QO none H) : tNoPart σ H QO := q
theorem rd_part (q : te σ H fun x H1 => ∃ i, x = .int i ∧ QO (some i) H1) : tPart te σ H QO := q
theorem rd_slL {lo hi : Option Int} (h : SqL K H p xs) (q : NewAt H (.lst (cutV xs lo hi)) fun p H' => Q (.ref p) H') : rSlL K (.ref p) lo hi H Q := ⟨p, xs, rfl, h, fun p np => new_at q p np⟩
theorem rd_sum {ns : List Int} (h : SqL K H p xs) (e : xs = ns.map V.int) (q : Q (.int ns.sum) H) : rSum K [.ref p] H Q := ⟨p, ns, rfl, e ▸ h, q⟩
def FOR (J : It) (g : TG) (tb : TS) (D : Ends) (σ : L2.St) (H : Hp) : Prop := ∃ W : Nat → Nat → L2.St → Hp → Prop, (∃ m, W 0 m σ H) ∧ ∀ i m σ H, W i m σ H →
  (J.stop i H ∧ D.nx σ H) ∨
    (J.go i H ∧ ∃ N : L2.St → Hp → Prop, (∀ σ' H', N σ' H' → ∃ m', m' < m ∧ W (i + 1) m' σ' H') ∧
      ∀ x H', J.yld i H x H' → g x σ H' fun σ2 H2 => tb { D with nx := N, ct := N, bk := D.nx } σ2 H2)
theorem rd_for {wi : TI} {g : TG} {tb : TS} (q : wi σ H fun J H1 => FOR J g tb D σ H1) : tFor wi g tb D σ H := q
theorem rd_rng1 (q : tA σ H fun vs H1 => ∃ j : Int, vs = [.int j] ∧ -(2 ^ 62) ≤ j ∧ j < 2 ^ 62 ∧ R (Itr 0 j.toNat) H1) : iRng1 tA σ H R := q
theorem rd_ilist (q : te σ H fun x H1 => ∃ a, x = .ref a ∧ (∃ xs, SqL K H1 a xs) ∧ R (Itl K a) H1) : iList K te σ H R := q
theorem rd_itup (q : te σ H fun x H1 => ∃ a, x = .ref a ∧ (∃ xs, SqT K H1 a xs) ∧ R (Itt K a) H1) : iTup K te σ H R := q
theorem rd_cat {l b : Addr} {zs : List V} (h : H l = some (.lst xs)) (h2 : H b = some (.lst zs)) (z : xs.length + zs.length ≤ sizeLine) (q : NewAt H (.lst (xs ++ zs)) fun p H' => Q (.ref p) H') : rCat (.ref l) (.ref b) H Q := ⟨l, b, xs, zs, rfl, rfl, h, h2, z, fun p np => new_at q p np⟩
theorem rd_len {A : List V → Prop} (h : SqL K H p xs) (q : A xs) : ∃ a ys, [V.ref p] = [V.ref a] ∧ (SqL K H a ys ∨ SqT K H a ys) ∧ A ys := ⟨p, xs, rfl, .inl h, q⟩
theorem rd_lenT {A : List V → Prop} (h : SqT K H p xs) (q : A xs) : ∃ a ys, [V.ref p] = [V.ref a] ∧ (SqL K H a ys ∨ SqT K H a ys) ∧ A ys := ⟨p, xs, rfl, .inr h, q⟩
theorem rd_int1 {A : Int → Prop} (q : A i) : ∃ j, [V.int i] = [V.int j] ∧ A j := ⟨i, rfl, q⟩
theorem rd_int2 {A : Int → Int → Prop} {j : Int} (q : A i j) : ∃ a b, [V.int i, V.int j] = [V.int a, V.int b] ∧ A a b := ⟨i, j, rfl, q⟩
theorem rd_intp {A : Int → Prop} (q : A i) : ∃ j, V.int i = V.int j ∧ A j := ⟨i, rfl, q⟩
theorem rd_ofb {b : Bool} {A : Int → Prop} {B : Bool → Prop} (q : B b) : (∃ i, [V.bl b] = [V.int i] ∧ A i) ∨ ∃ k, [V.bl b] = [V.bl k] ∧ B k := .inr ⟨b, rfl, q⟩
theorem rd_two {A : V → V → Prop} {v w : V} (q : A v w) : ∃ a b, [v, w] = [a, b] ∧ A a b := ⟨v, w, rfl, q⟩
theorem rd_isi {c : V} {t u : Value} {b : Bool} (k : ClsV c u) (ty : TyX K H x t) (e : PySem.W.kitOne K t u = some b) (q : Q (.bl b) H) : rIsi K [x, c] H Q := ⟨x, c, t, u, b, rfl, k, ty, e, q⟩
end
/-! ### new lists and tuples, the heap behind them told by what stands in it -/
def tLstN (t : TA) : TE := fun σ H Q => t σ H fun xs H1 => xs.length ≤ sizeLine ∧ NewAt H1 (.lst xs) fun p H' => Q (.ref p) H'
def tTupN (t : TA) : TE := fun σ H Q => t σ H fun xs H1 => xs.length ≤ sizeLine ∧ NewAt H1 (.tup xs) fun p H' => Q (.ref p) H'
def tWk (t : TA) : TA := fun σ H QA => ∃ QB, t σ H QB ∧ ∀ xs H1, QB xs H1 → QA xs H1
section
variable {X : Cx} {es : List Expr} {t : TA} {pos : Pos}
theorem pa_wk (h : PA X es t) : PA X es (tWk t) := by
  constructor
  intro pos pins s σ H Q I q
  obtain ⟨QB, q1, q2⟩ := q
  refine thn (h.run pos pins s σ H QB I q1) ?_
  rintro us s1 ⟨vs, H1, I1, r, z⟩
  exact ⟨vs, H1, I1, r, q2 _ _ z⟩
theorem pe_lstN (h : PA X es t) : PE X (.List es pos) (tLstN t) :=
  ⟨fun pins s σ H Q I q => (pe_lst (pa_wk h)).run pins s σ H Q I ⟨_, q, fun xs H1 z => ⟨z.1, fun p np => new_at z.2 p np⟩⟩⟩
theorem pe_tupN {k} (h : PA X es t) : PE X (.Tuple es k pos) (tTupN t) :=
  ⟨fun pins s σ H Q I q => (pe_tup (pa_wk h)).run pins s σ H Q I ⟨_, q, fun xs H1 z => ⟨z.1, fun p np => new_at z.2 p np⟩⟩⟩
end
section
variable {σ : L2.St} {H : Hp} {Q : VK} {tA : TA} {xs : List V} {A : Prop}
theorem rd_lst (q : tA σ H fun xs H1 => xs.length ≤ sizeLine ∧ NewAt H1 (.lst xs) fun p H' => Q (.ref p) H') : tLstN tA σ H Q := q
theorem rd_tup (q : tA σ H fun xs H1 => xs.length ≤ sizeLine ∧ NewAt H1 (.tup xs) fun p H' => Q (.ref p) H') : tTupN tA σ H Q := q
theorem rd_sz (z : xs.length ≤ 1000) (q : A) : xs.length ≤ sizeLine ∧ A := ⟨Nat.le_trans z (by decide), q⟩
end
/-- the joining of ways behind a statement -/
def tJoin (t u : TS) : TS := fun D σ H => ∃ Mid : L2.St → Hp → Prop, t { D with nx := Mid } σ H ∧ ∀ σ' H', Mid σ' H' → u D σ' H'
theorem SP_mono {X : Cx} {pins : List (Addr × Obj)} {D D' : Ends} (a : ∀ σ H, D.nx σ H → D'.nx σ H) (b : ∀ σ H, D.bk σ H → D'.bk σ H) (c : ∀ σ H, D.ct σ H → D'.ct σ H) (d : ∀ v H, D.rt v H → D'.rt v H)
    {f : Flow} {s : Shared} (h : SP X pins D f s) : SP X pins D' f s := by
  cases f with
  | next => obtain ⟨σ, H, I, q⟩ := h; exact ⟨σ, H, I, a _ _ q⟩
  | brk => obtain ⟨σ, H, I, q⟩ := h; exact ⟨σ, H, I, b _ _ q⟩
  | cont => obtain ⟨σ, H, I, q⟩ := h; exact ⟨σ, H, I, c _ _ q⟩
  | ret u => obtain ⟨v, σ, H, I, r, q⟩ := h; exact ⟨v, σ, H, I, r, d _ _ q⟩
def tsWk (t : TS) : TS := fun D σ H => ∃ D' : Ends, t D' σ H ∧ (∀ σ H, D'.nx σ H → D.nx σ H) ∧ (∀ σ H, D'.bk σ H → D.bk σ H) ∧ (∀ σ H, D'.ct σ H → D.ct σ H) ∧ ∀ v H, D'.rt v H → D.rt v H
theorem ps_wk {X : Cx} {st : Stmt} {t : TS} (h : PS X st t) : PS X st (tsWk t) := by
  constructor
  intro pins s σ H D I q
  obtain ⟨D', q1, a, b, c, d⟩ := q
  exact thn (h.run pins s σ H D' I q1) fun f s1 z => SP_mono a b c d z
theorem pss_join {X : Cx} {st : Stmt} {rest : List Stmt} {t u : TS} (h : PS X st t) (hr : PSs X rest u) : PSs X (st :: rest) (tJoin t u) :=
  ⟨fun pins s σ H D I q => by
    obtain ⟨Mid, q1, q2⟩ := q
    exact (pss_cons (ps_wk h) hr).run pins s σ H D I ⟨_, q1, q2, fun _ _ z => z, fun _ _ z => z, fun _ _ z => z⟩⟩
theorem rd_join {t u : TS} {D : Ends} {σ : L2.St} {H : Hp} (Mid : L2.St → Hp → Prop) (h : t { D with nx := Mid } σ H) (q : ∀ σ' H', Mid σ' H' → u D σ' H') : tJoin t u D σ H := ⟨Mid, h, q⟩
def rRepI : List V → Hp → VK → Prop := fun xs H Q => ∃ i, xs = [.int i] ∧ i.natAbs.log2 < 1920 ∧ Q (.str (toString i)) H
theorem call_repI {X : Cx} : CallR X (.builtin "repr") rRepI := by
  intro pins s σ H xs us Q I r h
  obtain ⟨i, rfl, hz, q⟩ := h
  obtain ⟨u, rfl, t, rfl⟩ := vals1 r
  exact PySem.P.repr_of_int hz ⟨.str _, H, I.tok _, ⟨_, rfl⟩, q⟩
theorem rd_repI {i : Int} {H : Hp} {Q : VK} (h : i.natAbs < 2 ^ 1000) (q : Q (.str (toString i)) H) : rRepI [.int i] H Q := ⟨i, rfl, Nat.lt_trans (PySem.Flt.log2_lt_of (by decide) h) (by decide), q⟩
/-! ### data of lists -/
theorem cut_map (ns : List Int) (lo hi : Option Int) : ∃ ms : List Int, cutV (ns.map V.int) lo hi = ms.map V.int := by
  refine ⟨(ns.drop (HT.sIx (ns.map V.int).length 0 lo)).take (HT.sIx (ns.map V.int).length (ns.map V.int).length hi - HT.sIx (ns.map V.int).length 0 lo), ?_⟩
  unfold cutV
  rw [List.map_take, List.map_drop]
theorem atI_in {xs : List V} {i : Int} (h0 : 0 ≤ i) (h1 : i < xs.length) : ∃ v, atI xs i = some v ∧ v ∈ xs := by
  obtain ⟨n, rfl⟩ : ∃ n : Nat, i = (n : Int) := ⟨i.toNat, by omega⟩
  have hn : n < xs.length := by omega
  exact ⟨xs[n], atI_nat (List.getElem?_eq_getElem hn), List.getElem_mem hn⟩
theorem atI_int {xs : List V} {i : Int} (h : ∀ v ∈ xs, ∃ z, v = V.int z) (h0 : 0 ≤ i) (h1 : i < xs.length) : ∃ z, atI xs i = some (.int z) := by
  obtain ⟨v, e, m⟩ := atI_in h0 h1
  obtain ⟨z, rfl⟩ := h v m
  exact ⟨z, e⟩
theorem sz_le {xs : List V} (h : xs.length ≤ 1000) : xs.length ≤ sizeLine := Nat.le_trans h (by decide)
theorem cdiv64 {i m : Int} (h0 : 0 < m) (h1 : m < 18446744073709551616) : CDivW i m := wide_div (b := 64) h0 (by omega) (by decide) (by decide)
theorem same_new {H : Hp} {p : Addr} {o : HO} (h : H p = none) : Same H (upd H p o) := fun b x e => by rw [upd_ne (ne_of_none e h)]; exact e
theorem same_add {H H1 : Hp} {p : Addr} {o : HO} (s : Same H H1) (h : H1 p = none) : Same H (upd H1 p o) := s.trans (same_new h)
/-! ### the pool that a law draws from -/
def PoolAt (H : Hp) (p : Addr) : Prop := ∃ a b : Int, H p = some (.lst [.int a, .int b])
/-- all but the pool stays -/
def Kp (p : Addr) (H H' : Hp) : Prop := PoolAt H' p ∧ ∀ c o, c ≠ p → H c = some o → H' c = some o
theorem Kp.refl {p : Addr} {H : Hp} (h : PoolAt H p) : Kp p H H := ⟨h, fun _ _ _ e => e⟩
theorem Kp.trans {p : Addr} {H H1 H2 : Hp} (a : Kp p H H1) (b : Kp p H1 H2) : Kp p H H2 := ⟨b.1, fun c o n e => b.2 c o n (a.2 c o n e)⟩
theorem Kp.new {p c : Addr} {H H1 : Hp} {o : HO} (a : Kp p H H1) (hc : H1 c = none) : Kp p H (upd H1 c o) := by
  obtain ⟨⟨x, y, e⟩, k⟩ := a
  refine ⟨⟨x, y, ?_⟩, fun d u n h => ?_⟩
  · rw [upd_ne (ne_of_none e hc)]; exact e
  · rw [upd_ne (ne_of_none (k d u n h) hc)]; exact k d u n h
theorem Kp.same {p : Addr} {H H1 H2 : Hp} (a : Kp p H H1) (s : Same H1 H2) : Kp p H H2 := by
  obtain ⟨⟨x, y, e⟩, k⟩ := a
  exact ⟨⟨x, y, s _ _ e⟩, fun d u n h => s _ _ (k d u n h)⟩
theorem Kp.at {p c : Addr} {H H1 : Hp} {o : HO} (a : Kp p H H1) (n : c ≠ p) (e : H c = some o) : H1 c = some o := a.2 c o n e
theorem Kp.sqL {K : PySem.W.Frag} {p c : Addr} {H H1 : Hp} {xs : List V} (a : Kp p H H1) (n : c ≠ p) (e : SqL K H c xs) : SqL K H1 c xs := by
  rcases e with (h | ⟨o, h⟩) | h
  · exact .inl (.inl (a.2 _ _ n h))
  · exact .inl (.inr ⟨o, a.2 _ _ n h⟩)
  · exact .inr h
theorem same_kp {H H1 H2 : Hp} {p : Addr} (n : H p = none) (s : Same H H1) (k : Kp p H1 H2) : Same H H2 := fun b o e => k.2 b o (ne_of_none e n) (s b o e)
theorem Kp.ne {p c : Addr} {H H1 : Hp} (k : Kp p H H1) (n : H1 c = none) : c ≠ p := by
  obtain ⟨⟨x, y, e⟩, _⟩ := k
  exact (ne_of_none e n).symm
theorem PoolAt.same {p : Addr} {H H1 : Hp} (a : PoolAt H p) (s : Same H H1) : PoolAt H1 p := by
  obtain ⟨x, y, e⟩ := a
  exact ⟨x, y, s _ _ e⟩
theorem PoolAt.ne {p c : Addr} {H : Hp} (a : PoolAt H p) (n : H c = none) : c ≠ p := by
  obtain ⟨x, y, e⟩ := a
  exact (ne_of_none e n).symm
def spTake : Sp := fun vs H Q _ => ∃ (p : Addr) (m : Int), vs = [.ref p, .int m] ∧ PoolAt H p ∧ 0 < m ∧ m < 18446744073709551616 ∧
  ∀ (r : Int) H', 0 ≤ r → r < m → Kp p H H' → Q (.int r) H'
def spPool (K : PySem.W.Frag) : Sp := fun vs H Q _ => ∃ (a : Addr) (ns : List Int) (k : Int), vs = [.ref a, .int k] ∧ SqL K H a (ns.map V.int) ∧ 0 ≤ k ∧ k < 64 ∧
  ∀ H' p, H p = none → Same H H' → PoolAt H' p → Q (.ref p) H'
def spWide : Sp := fun vs H Q _ => ∃ p : Addr, vs = [.ref p] ∧ PoolAt H p ∧ ∀ (n : Nat) H', 1 ≤ n → n ≤ 32 → Kp p H H' → Q (.int n) H'
def spSize : Sp := fun vs H Q _ => ∃ n : Nat, vs = [.int n] ∧ n ≤ 64 ∧ Q (.int (2 ^ n)) H
def spWorth : Sp := fun vs H Q _ => ∃ (p : Addr) (m : Int), vs = [.ref p, .int m] ∧ PoolAt H p ∧ 2 ≤ m ∧ m < 18446744073709551616 ∧
  ∀ (r : Int) H', 0 ≤ r → r < m → Kp p H H' → Q (.int r) H'
end Bg

set_option Elab.async false
set_option linter.all false
set_option maxRecDepth 100000
set_option maxHeartbeats 4000000
namespace Bg
open PySem PySem.Spec PyProof.Rows L2
/-! ### data of things -/
def tyN : PyData → String
  | .none => "NoneType" | .bool _ => "bool" | .int _ => "int" | .str _ => "str" | .list _ => "list" | .tuple _ => "tuple" | .dict _ => "dict"
/-- data, or an empty dict -/
inductive Dz (K : PySem.W.Frag) (H : Hp) : V → PyData → Prop
  | dat {x : V} {d : PyData} (h : Dp K H x d) : Dz K H x d
  | dct {a : Addr} (h : H a = some (.dK [])) : Dz K H (.ref a) (.dict [])
section
variable {K : PySem.W.Frag} {H H' : Hp} {x : V} {d : PyData}
theorem sqT_same {a : Addr} {xs : List V} (e : Same H H') (h : SqT K H a xs) : SqT K H' a xs := by
  rcases h with (h | ⟨o, h⟩) | h
  · exact .inl (.inl (e _ _ h))
  · exact .inl (.inr ⟨o, e _ _ h⟩)
  · exact .inr h
mutual
theorem dp_same (e : Same H H') : ∀ (d : PyData) (x : V), Dp K H x d → Dp K H' x d
  | .none, x, h => by cases h; exact .non
  | .bool _, x, h => by cases h; exact .bl _
  | .int _, x, h => by cases h; exact .int _
  | .str _, x, h => by cases h; exact .str _
  | .list ds, x, h => by cases h with | lst s a => exact .lst (e.seq s) (dpAll_same e ds _ a)
  | .tuple ds, x, h => by cases h with | tup s a => exact .tup (sqT_same e s) (dpAll_same e ds _ a)
  | .dict _, x, h => by cases h
theorem dpAll_same (e : Same H H') : ∀ (ds : List PyData) (xs : List V), DpAll K H xs ds → DpAll K H' xs ds
  | [], xs, h => by cases h; exact .nil
  | d :: ds, xs, h => by cases h with | cons a b => exact .cons (dp_same e d _ a) (dpAll_same e ds _ b)
end
theorem Dz.same (e : Same H H') (h : Dz K H x d) : Dz K H' x d := by
  cases h with
  | dat h => exact .dat (dp_same e _ _ h)
  | dct h => exact .dct (e _ _ h)
theorem sqL_ty {a : Addr} {xs : List V} (h : SqL K H a xs) : TyX K H (.ref a) (.type "list") := by
  rcases h with (h | ⟨o, h⟩) | ⟨o, its, n, l, c, _⟩
  · exact .base (.lst h)
  · exact .base (.frz h)
  · exact .kList l c
theorem sqT_ty {a : Addr} {xs : List V} (h : SqT K H a xs) : TyX K H (.ref a) (.type "tuple") := by
  rcases h with (h | ⟨o, h⟩) | ⟨o, its, n, l, c, _⟩
  · exact .base (.tup h)
  · exact .fTuple h
  · exact .kTuple l c
theorem Dz.ty (h : Dz K H x d) : TyX K H x (.type (tyN d)) := by
  cases h with
  | dct h => exact .base (.dK h)
  | dat h =>
    cases h with
    | non => exact .base .non
    | bl b => exact .base (.bl b)
    | int i => exact .base (.int i)
    | str z => exact .base (.str z)
    | lst s _ => exact sqL_ty s
    | tup s _ => exact sqT_ty s
def isIntD : PyData → Bool | .int _ => true | .bool _ => true | _ => false
def isBoolD : PyData → Bool | .bool _ => true | _ => false
def isStrD : PyData → Bool | .str _ => true | _ => false
def isTupD : PyData → Bool | .tuple _ => true | _ => false
theorem kit_int : PySem.W.kitOne K (.type (tyN d)) (.type "int") = some (isIntD d) := by
  cases d with
  | none => exact kit_ty (show kitB "NoneType" "int" = some false by decide +kernel)
  | bool _ => exact kit_ty (show kitB "bool" "int" = some true by decide +kernel)
  | int _ => exact kit_ty (show kitB "int" "int" = some true by decide +kernel)
  | str _ => exact kit_ty (show kitB "str" "int" = some false by decide +kernel)
  | list _ => exact kit_ty (show kitB "list" "int" = some false by decide +kernel)
  | tuple _ => exact kit_ty (show kitB "tuple" "int" = some false by decide +kernel)
  | dict _ => exact kit_ty (show kitB "dict" "int" = some false by decide +kernel)
theorem kit_bool : PySem.W.kitOne K (.type (tyN d)) (.type "bool") = some (isBoolD d) := by
  cases d with
  | none => exact kit_ty (show kitB "NoneType" "bool" = some false by decide +kernel)
  | bool _ => exact kit_ty (show kitB "bool" "bool" = some true by decide +kernel)
  | int _ => exact kit_ty (show kitB "int" "bool" = some false by decide +kernel)
  | str _ => exact kit_ty (show kitB "str" "bool" = some false by decide +kernel)
  | list _ => exact kit_ty (show kitB "list" "bool" = some false by decide +kernel)
  | tuple _ => exact kit_ty (show kitB "tuple" "bool" = some false by decide +kernel)
  | dict _ => exact kit_ty (show kitB "dict" "bool" = some false by decide +kernel)
theorem kit_str : PySem.W.kitOne K (.type (tyN d)) (.type "str") = some (isStrD d) := by
  cases d with
  | none => exact kit_ty (show kitB "NoneType" "str" = some false by decide +kernel)
  | bool _ => exact kit_ty (show kitB "bool" "str" = some false by decide +kernel)
  | int _ => exact kit_ty (show kitB "int" "str" = some false by decide +kernel)
  | str _ => exact kit_ty (show kitB "str" "str" = some true by decide +kernel)
  | list _ => exact kit_ty (show kitB "list" "str" = some false by decide +kernel)
  | tuple _ => exact kit_ty (show kitB "tuple" "str" = some false by decide +kernel)
  | dict _ => exact kit_ty (show kitB "dict" "str" = some false by decide +kernel)
theorem kit_tup : PySem.W.kitOne K (.type (tyN d)) (.type "tuple") = some (isTupD d) := by
  cases d with
  | none => exact kit_ty (show kitB "NoneType" "tuple" = some false by decide +kernel)
  | bool _ => exact kit_ty (show kitB "bool" "tuple" = some false by decide +kernel)
  | int _ => exact kit_ty (show kitB "int" "tuple" = some false by decide +kernel)
  | str _ => exact kit_ty (show kitB "str" "tuple" = some false by decide +kernel)
  | list _ => exact kit_ty (show kitB "list" "tuple" = some false by decide +kernel)
  | tuple _ => exact kit_ty (show kitB "tuple" "tuple" = some true by decide +kernel)
  | dict _ => exact kit_ty (show kitB "dict" "tuple" = some false by decide +kernel)
variable {Q : VK}
theorem rd_isInt (h : Dz K H x d) (q : Q (.bl (isIntD d)) H) : rIsi K [x, .ty "int"] H Q := rd_isi (.ty _) h.ty kit_int q
theorem rd_isBool (h : Dz K H x d) (q : Q (.bl (isBoolD d)) H) : rIsi K [x, .ty "bool"] H Q := rd_isi (.ty _) h.ty kit_bool q
theorem rd_isStr (h : Dz K H x d) (q : Q (.bl (isStrD d)) H) : rIsi K [x, .ty "str"] H Q := rd_isi (.ty _) h.ty kit_str q
theorem rd_isTup (h : Dz K H x d) (q : Q (.bl (isTupD d)) H) : rIsi K [x, .ty "tuple"] H Q := rd_isi (.ty _) h.ty kit_tup q
end
/-! ### what repr shows of it -/
structure Sh (k n : Nat) (d : PyData) : Prop where
  sh : d.showable = true
  nd : d.hasDict = false
  dp : d.depth ≤ k
  ln : d.shown.length ≤ n
  cl : d.canLay0 = true
structure ShAll (k n : Nat) (ds : List PyData) : Prop where
  sh : PyData.showableAll ds = true
  nd : PyData.hasDictAll ds = false
  dp : PyData.depthAll ds ≤ k
  ln : ((PyData.shownAll ds).map (·.length)).sum + 2 * (PyData.shownAll ds).length ≤ n
  cl : PyData.canLayAll0 ds = true
theorem Sh.non : Sh 0 10 .none := ⟨rfl, rfl, Nat.le_refl _, by decide +kernel, rfl⟩
theorem Sh.bl (b : Bool) : Sh 0 10 (.bool b) := ⟨rfl, rfl, Nat.le_refl _, by cases b <;> decide +kernel, rfl⟩
theorem Sh.int {i : Int} (h : i.natAbs < 2 ^ 1000) : Sh 0 1001 (.int i) := by
  have h1 : i.natAbs.log2 < 1000 := PySem.Flt.log2_lt_of (by decide) h
  refine ⟨decide_eq_true (Nat.lt_trans h1 (by decide)), rfl, Nat.le_refl _, ?_, rfl⟩
  have e := int_text_length_le (k := 1000) (by decide) h1
  have e2 : (PyData.shown (.int i)).length = (toString i).length := by
    exact PySem.ofString_length _
  omega
theorem Sh.mono {k n k' n' : Nat} {d : PyData} (h : Sh k n d) (a : k ≤ k') (b : n ≤ n') : Sh k' n' d := ⟨h.sh, h.nd, Nat.le_trans h.dp a, Nat.le_trans h.ln b, h.cl⟩
theorem ShAll.nil {k n : Nat} : ShAll k n [] := ⟨rfl, rfl, Nat.zero_le _, Nat.zero_le _, rfl⟩
theorem ShAll.cons {k n m : Nat} {d : PyData} {ds : List PyData} (h : Sh k n d) (t : ShAll k m ds) : ShAll k (n + 2 + m) (d :: ds) := by
  refine ⟨?_, ?_, ?_, ?_, ?_⟩
  · show (d.showable && PyData.showableAll ds) = true
    rw [h.sh, t.sh]; rfl
  · show (d.hasDict || PyData.hasDictAll ds) = false
    rw [h.nd, t.nd]; rfl
  · exact Nat.max_le.mpr ⟨h.dp, t.dp⟩
  · have a := h.ln
    have b := t.ln
    simp only [PyData.shownAll, List.map_cons, List.sum_cons, List.length_cons]
    omega
  · show (d.canLay0 && PyData.canLayAll0 ds) = true
    rw [h.cl, t.cl]; rfl
theorem ShAll.tup {k n : Nat} {ds : List PyData} (h : ShAll k n ds) : Sh (k + 1) (n + 3) (.tuple ds) := by
  refine ⟨h.sh, h.nd, Nat.succ_le_succ h.dp, ?_, h.cl⟩
  have a := h.ln
  have b := tupleText_len_le (PyData.shownAll ds)
  show (tupleText (PyData.shownAll ds)).length ≤ _
  omega
theorem ShAll.lst {k n : Nat} {ds : List PyData} (h : ShAll k n ds) : Sh (k + 1) (n + 3) (.list ds) := by
  refine ⟨h.sh, h.nd, Nat.succ_le_succ h.dp, ?_, h.cl⟩
  have a := h.ln
  have b := listText_len_le (PyData.shownAll ds)
  show (listText (PyData.shownAll ds)).length ≤ _
  omega
/-- of a text of a string -/
theorem code_lt (z : String) : ∀ c ∈ (Str.ofString z).cps.toList, c < 1114112 := by
  intro c hc
  rw [signs_ofString] at hc
  obtain ⟨ch, _, rfl⟩ := List.mem_map.mp hc
  rcases ch.valid with h | ⟨_, h⟩
  · exact Nat.lt_trans h (by decide)
  · exact h
theorem Sh.str {z : String} {m : Nat} (h : z.length ≤ m) : Sh 0 (10 * m + 10) (.str z) := by
  refine ⟨rfl, rfl, Nat.le_refl _, ?_, ?_⟩
  · have e := StrLaws.reprText_len (Str.ofString z) (fun c hc => Nat.lt_trans (code_lt z c hc) (by decide))
    rw [PySem.ofString_length] at e
    show (reprText (Str.ofString z)).length ≤ _
    omega
  · show (Str.ofString z).cps.all (· < 0x110000) = true
    rw [← Array.all_toList, List.all_eq_true]
    exact fun c hc => decide_eq_true (code_lt z c hc)
theorem Sh.shaped {k n : Nat} {d : PyData} (h : Sh k n d) (hk : k ≤ 64) : SeqAt.shaped d = true := by
  show (d.canLay0 && decide (d.depth ≤ 64)) = true
  rw [h.cl, decide_eq_true (Nat.le_trans h.dp hk)]
  rfl
/-- repr(x) of any of these -/
inductive Rp (K : PySem.W.Frag) (H : Hp) : V → Str → Prop
  | dat {x : V} {d : PyData} (h : Dp K H x d) (s : Sh 50 1000000 d) : Rp K H x d.shown
  | dct {a : Addr} (h : H a = some (.dK [])) : Rp K H (.ref a) (PyData.dict []).shown
def rRepA (K : PySem.W.Frag) : List V → Hp → VK → Prop := fun xs H Q => ∃ x z, xs = [x] ∧ Rp K H x z ∧ Q (.str z) H
theorem rd_repA {K : PySem.W.Frag} {H : Hp} {Q : VK} {x : V} {z : Str} (h : Rp K H x z) (q : Q (.str z) H) : rRepA K [x] H Q := ⟨x, z, rfl, h, q⟩
theorem Rp.same {K : PySem.W.Frag} {H H' : Hp} {x : V} {z : Str} (e : Same H H') (h : Rp K H x z) : Rp K H' x z := by
  cases h with
  | dat h s => exact .dat (dp_same e _ _ h) s
  | dct h => exact .dct (e _ _ h)
theorem call_repA {X : Cx} (gd : Gd X.A) (hu : X.A.units + 64 < cLine) : CallR X (.builtin "repr") (rRepA X.K) := by
  intro pins s σ H xs us Q I r h
  obtain ⟨x, z, rfl, hr, q⟩ := h
  obtain ⟨u, rfl, ru⟩ := vals1 r
  cases hr with
  | dat hd sm =>
    rename_i d
    have hz : d.shown.length ≤ sizeLine := Nat.le_trans sm.ln (by decide)
    cases hd with
    | non => cases (show u = Value.none from ru); exact PySem.P.repr_of_none ⟨.str _, H, I.tok _, ⟨_, rfl⟩, q⟩
    | bl b => cases (show u = Value.bool b from ru); exact PySem.P.repr_of_bool ⟨.str _, H, I.tok _, ⟨_, rfl⟩, q⟩
    | int i => obtain ⟨t, rfl⟩ := ru; exact PySem.P.repr_of_int (of_decide_eq_true sm.sh) ⟨.str _, H, I.tok _, ⟨_, rfl⟩, q⟩
    | str y => obtain ⟨t, rfl⟩ := ru; exact PySem.P.repr_of_str ⟨.str _, H, I.tok _, ⟨_, rfl⟩, q⟩ hz
    | lst sl al =>
      obtain ⟨as, rd⟩ := Dp.reads I _ _ u (.lst sl al) ru
      cases ru
      refine repr_of_reads' rd sm.sh (shsm sm.nd) gd (by have := sm.dp; omega) (fun _ _ e => e) (fun h' u tk hk => ?_) hz
      exact ⟨.str _, H, I.kept hk, ⟨_, rfl⟩, q⟩
    | tup sl al =>
      obtain ⟨as, rd⟩ := Dp.reads I _ _ u (.tup sl al) ru
      cases ru
      refine repr_of_reads' rd sm.sh (shsm sm.nd) gd (by have := sm.dp; omega) (fun _ _ e => e) (fun h' u tk hk => ?_) hz
      exact ⟨.str _, H, I.kept hk, ⟨_, rfl⟩, q⟩
  | @dct a ha =>
    cases (show u = Value.ref a from ru)
    obtain ⟨_, ns, vs, kv, o, es, ep, h1, h2, h3, _, h5, _⟩ := (show ObjOk X.prog X.w H s.heap a (.dK []) from I.hok a _ ha)
    cases kv
    have he : es.toList = [] := by
      cases hh : es.toList with
      | nil => rfl
      | cons e r => rw [hh] at h5; cases h5
    have rd : Reads s.heap (.ref a) (.dict []) (a :: [] ++ []) := .dict h1 h2.1 h3 (by rw [he]; exact .nil) (by rw [he]; exact .nil)
    have hno : sysModules ∉ (a :: [] ++ [] : List Addr) := by
      intro z
      have z2 : sysModules = a := by simpa using z
      subst z2
      simp at ns
    refine repr_of_reads' rd rfl (fun _ => hno) gd (by have : (PyData.dict []).depth = 1 := rfl; omega) (fun _ _ e => e) (fun h' u tk hk => ?_) (by decide +kernel)
    exact ⟨.str _, H, I.kept hk, ⟨_, rfl⟩, q⟩
end Bg

set_option Elab.async false
set_option linter.all false
set_option maxRecDepth 100000
set_option maxHeartbeats 4000000
namespace Bg
open PySem PySem.Spec PyProof.Rows L2
/-! ### bits of whole numbers that are not negative -/
theorem nat_xor_add (m : Nat) : ∀ n : Nat, (m ^^^ n) + 2 * (m &&& n) = m + n := by
  induction m using Nat.strongRecOn with
  | ind m ih =>
    intro n
    by_cases h0 : m = 0
    · subst h0; simp
    · have ih' := ih (m / 2) (by omega) (n / 2)
      rw [← Nat.xor_div_two, ← Nat.and_div_two] at ih'
      have o1 := @Nat.xor_mod_two_eq_one m n
      have a1 := @Nat.and_mod_two_eq_one m n
      omega
theorem bA (a b : Nat) : Builtin.bitAnd (a : Int) (b : Int) = ((a &&& b : Nat) : Int) := by
  rw [bitAnd_pp (Int.natCast_nonneg a) (Int.natCast_nonneg b), Int.toNat_natCast, Int.toNat_natCast]
theorem bO (a b : Nat) : Builtin.bitOr (a : Int) (b : Int) = ((a ||| b : Nat) : Int) := by
  rw [bitOr_and, bA]
  have := nat_or_add_and a b
  omega
theorem bX (a b : Nat) : Builtin.bitXor (a : Int) (b : Int) = ((a ^^^ b : Nat) : Int) := by
  rw [bitXor_and, bA]
  have := nat_xor_add a b
  omega
theorem nat_of {i : Int} (h : 0 ≤ i) : ∃ a : Nat, i = (a : Int) := ⟨i.toNat, by omega⟩
theorem pow_cast (n : Nat) : (2 : Int) ^ n = ((2 ^ n : Nat) : Int) := by rw [Int.natCast_pow]; rfl
theorem top_cast (n : Nat) : (2 : Int) ^ n - 1 = ((2 ^ n - 1 : Nat) : Int) := by
  have := Nat.two_pow_pos n
  rw [pow_cast]
  omega
theorem nat_lt {a n : Nat} (h : (a : Int) < 2 ^ n) : a < 2 ^ n := by rw [pow_cast] at h; omega
theorem pow_lt64 {n : Nat} (h : n ≤ 63) : (2 : Int) ^ n < 18446744073709551616 := by
  have h1 : 2 ^ n ≤ 2 ^ 63 := Nat.pow_le_pow_right (by decide) h
  have h3 : (2 : Nat) ^ 63 = 9223372036854775808 := by decide
  rw [pow_cast]
  omega
theorem pow_pos2 (n : Nat) : (0 : Int) < 2 ^ n := Int.pow_pos (by decide)
theorem two_le {n : Nat} (h : 1 ≤ n) : (2 : Int) ≤ 2 ^ n := by
  obtain ⟨m, rfl⟩ : ∃ m, n = m + 1 := ⟨n - 1, by omega⟩
  have := pow_pos2 m
  rw [Int.pow_succ]
  omega
/-- a part of the bits that another has not -/
theorem held_of {n : Nat} {r u : Int} (r0 : 0 ≤ r) (r1 : r < 2 ^ n) (u0 : 0 ≤ u) (u1 : u < 2 ^ n) :
    0 ≤ Builtin.bitAnd r (Builtin.bitXor (2 ^ n - 1) u) ∧ Builtin.bitAnd r (Builtin.bitXor (2 ^ n - 1) u) < 2 ^ n ∧ Builtin.bitAnd (Builtin.bitAnd r (Builtin.bitXor (2 ^ n - 1) u)) u = 0 := by
  obtain ⟨a, rfl⟩ := nat_of r0
  obtain ⟨b, rfl⟩ := nat_of u0
  have ha := nat_lt r1
  have hb := nat_lt u1
  rw [top_cast, bX, bA, bA]
  refine ⟨Int.natCast_nonneg _, ?_, ?_⟩
  · have := Nat.and_le_left (n := a) (m := (2 ^ n - 1) ^^^ b)
    rw [pow_cast]
    omega
  · have e : (a &&& ((2 ^ n - 1) ^^^ b)) &&& b = 0 := by
      apply Nat.eq_of_testBit_eq
      intro i
      rw [Nat.testBit_and, Nat.testBit_and, Nat.testBit_xor, Nat.testBit_two_pow_sub_one, Nat.zero_testBit]
      by_cases hi : i < n
      · rw [decide_eq_true hi]
        cases a.testBit i <;> cases b.testBit i <;> rfl
      · rw [Nat.testBit_lt_two_pow (Nat.lt_of_lt_of_le hb (Nat.pow_le_pow_right (by decide) (by omega)))]
        cases (a.testBit i && (decide (i < n) ^^ false)) <;> rfl
    rw [e]
    rfl
/-! ### tests whose answer is known -/
theorem ite_eq {v : V} {A B : Prop} (q : A) : if decide (v = v) = true then A else B := by
  rw [decide_eq_true rfl]
  exact iteT q
theorem ite_ne {v : V} {A B : Prop} (q : B) : if (!decide (v = v)) = true then A else B := by
  rw [decide_eq_true rfl]
  exact iteF q
theorem ite_b {b : Bool} {A B : Prop} (h : b = true) (q : A) : if b = true then A else B := by rw [h]; exact iteT q
theorem ite_n {b : Bool} {A B : Prop} (h : b = false) (q : B) : if b = true then A else B := by rw [h]; exact iteF q
/-! ### unpacking, tests of a comprehension -/
section
variable {σ : L2.St} {H : Hp} {R : L2.St → Hp → Prop} {K : PySem.W.Frag} {a : Addr} {xs : List V} {n : Nat} {t : TGs} {QT : Bool → Hp → Prop}
theorem rd_gtup (h : SqT K H a xs) (l : xs.length = n) (q : t xs σ H R) : gTup K n t (.ref a) σ H R := ⟨a, xs, rfl, h, l, q⟩
theorem rd_gcons {v : V} {r : List V} {g : TG} {u : TGs} (q : g v σ H fun σ' H' => u r σ' H' R) : gCons g u (v :: r) σ H R := ⟨v, r, rfl, q⟩
theorem rd_gnil (q : R σ H) : gNil [] σ H R := ⟨rfl, q⟩
end
/-! ### comprehensions -/
def LC (J : It) (g : TG) (tt : TT) (te : TE) (vs : List Nat) (D : Addr) (σ : L2.St) (H1 : Hp) (Q : VK) : Prop := ∃ W : Nat → Nat → Hp → Prop, (∃ m, W 0 m (upd H1 D (.lst []))) ∧ ∀ i m H, W i m H →
  (J.stop i H ∧ Q (.ref D) H) ∨
    (J.go i H ∧ ∃ Nx : Hp → Prop, (∀ H', Nx H' → ∃ m', m' < m ∧ W (i + 1) m' H') ∧
      ∀ x H', J.yld i H x H' → g x (wipe σ vs) H' fun σ2 H2 => wipe σ2 vs = wipe σ vs ∧ tt σ2 H2 fun b H3 =>
        if b = true then te σ2 H3 fun y H4 => ∃ acc, H4 D = some (.lst acc) ∧ acc.length < sizeLine ∧ Nx (upd H4 D (.lst (acc ++ [y]))) else Nx H3)
section
variable {σ : L2.St} {H : Hp} {Q : VK} {QT : Bool → Hp → Prop}
theorem rd_lc {wi : TI} {g : TG} {tt : TT} {te : TE} {vs : List Nat} (q : wi σ H fun J H1 => ∀ D, H1 D = none → LC J g tt te vs D σ H1 Q) : tLc wi g tt te vs σ H Q := q
theorem rd_yes (q : QT true H) : tYes σ H QT := q
end
section
variable {H : Hp} {Q : VK} {K : PySem.W.Frag} {x y : V} {d e : PyData}
theorem rd_neD (a : Dp K H x d) (b : Dp K H y e) (s1 : SeqAt.shaped d = true) (s2 : SeqAt.shaped e = true) (q : Q (.bl (!PyData.eqv d e)) H) : rNeD K x y H Q := ⟨d, e, a, b, s1, s2, q⟩
theorem rd_eqD (a : Dp K H x d) (b : Dp K H y e) (s1 : SeqAt.shaped d = true) (s2 : SeqAt.shaped e = true) (q : Q (.bl (PyData.eqv d e)) H) : rEqD K x y H Q := ⟨d, e, a, b, s1, s2, q⟩
end
/-! ### the laws' own sure bits -/
def spTop : Sp := fun vs H Q _ => ∃ n : Nat, vs = [.int n] ∧ n ≤ 64 ∧ Q (.int (2 ^ n - 1)) H
/-- a tuple of sure bits of the width n -/
structure Bt (n : Nat) (v u : Int) : Prop where
  v0 : 0 ≤ v
  v1 : v < 2 ^ n
  u0 : 0 ≤ u
  u1 : u < 2 ^ n
  vu : Builtin.bitAnd v u = 0
def spBits : Sp := fun vs H Q _ => ∃ (p : Addr) (n : Nat), vs = [.ref p, .int n] ∧ 1 ≤ n ∧ n ≤ 32 ∧ PoolAt H p ∧
  ∀ (v u : Int) (t : Addr) H', Bt n v u → H t = none → Kp p H H' → H' t = some (.tup [.int v, .int u]) → Q (.ref t) H'
theorem Kp.free {p c : Addr} {H H1 : Hp} (k : Kp p H H1) (h : H1 c = none) : H c = none := by
  cases e : H c with
  | none => rfl
  | some o => rw [k.2 c o (k.1.ne h) e] at h; cases h
end Bg

set_option Elab.async false
set_option linter.all false
set_option maxRecDepth 100000
set_option maxHeartbeats 4000000
namespace Bg
open PySem PySem.Spec PyProof.Rows L2
section
variable {σ : L2.St} {H : Hp} {D : Ends} {t1 : TS} {tr : V → TS} {z w : Str} {v : V}
theorem rd_my (q : t1 D σ H) : mStr z t1 tr (.str z) D σ H := ⟨z, rfl, by rw [if_pos rfl]; exact q⟩
theorem rd_mn (h : w ≠ z) (q : tr (.str w) D σ H) : mStr z t1 tr (.str w) D σ H := ⟨w, rfl, by rw [if_neg h]; exact q⟩
theorem rd_many (q : t1 D σ H) : mAny t1 v D σ H := q
end
/-! ### bits moved -/
theorem toNat_bit (b : Bool) (k : Nat) : b.toNat.testBit k = (b && decide (k = 0)) := by
  cases b
  · simp
  · cases k with
    | zero => rfl
    | succ k => simp [Nat.testBit_succ]
theorem mod_step (X i : Nat) : X % 2 ^ (i + 1) = X % 2 ^ i ||| (X / 2 ^ i % 2) * 2 ^ i := by
  apply Nat.eq_of_testBit_eq
  intro j
  rw [Nat.testBit_or, Nat.testBit_mod_two_pow, Nat.testBit_mod_two_pow, Nat.testBit_mul_two_pow, ← Nat.toNat_testBit, toNat_bit]
  by_cases h1 : j < i
  · rw [decide_eq_true h1, decide_eq_true (show j < i + 1 by omega), decide_eq_false (show ¬ i ≤ j by omega)]
    simp
  · by_cases h2 : j = i
    · subst h2
      rw [decide_eq_true (show j < j + 1 by omega), decide_eq_true (Nat.le_refl j), Nat.sub_self]
      simp
    · rw [decide_eq_false h1, decide_eq_false (show ¬ j < i + 1 by omega), decide_eq_false (show ¬ j - i = 0 by omega)]
      simp
theorem bit_step {X i c : Nat} (h : X.testBit i = true ↔ c = 1) (hc : c ≤ 1) : X % 2 ^ (i + 1) = X % 2 ^ i ||| c * 2 ^ i := by
  rw [mod_step, ← Nat.toNat_testBit]
  cases hb : X.testBit i with
  | true => rw [h.mp hb]; rfl
  | false =>
    have : c ≠ 1 := fun e => by rw [h.mpr e] at hb; cases hb
    have : c = 0 := by omega
    rw [this]; rfl
def mvN (l : Bool) (n a j : Nat) : Nat := if n ≤ j then 0 else if l then a * 2 ^ j % 2 ^ n else a / 2 ^ j
theorem mv_bit {l : Bool} {n a j i : Nat} (ha : a < 2 ^ n) (hi : i < n) : (mvN l n a j).testBit i = if l then (decide (j ≤ i) && a.testBit (i - j)) else a.testBit (i + j) := by
  unfold mvN
  by_cases h : n ≤ j
  · rw [if_pos h, Nat.zero_testBit]
    cases l with
    | true => rw [if_pos rfl, decide_eq_false (show ¬ j ≤ i by omega)]; rfl
    | false =>
      rw [if_neg Bool.false_ne_true, Nat.testBit_lt_two_pow (Nat.lt_of_lt_of_le ha (Nat.pow_le_pow_right (by decide) (by omega)))]
  · rw [if_neg h]
    cases l with
    | true => rw [if_pos rfl, if_pos rfl, Nat.testBit_mod_two_pow, Nat.testBit_mul_two_pow, decide_eq_true hi, Bool.true_and]
    | false => rw [if_neg Bool.false_ne_true, if_neg Bool.false_ne_true, Nat.testBit_div_two_pow]
theorem mv_lt {l : Bool} {n a j : Nat} (ha : a < 2 ^ n) : mvN l n a j < 2 ^ n := by
  unfold mvN
  split
  · exact Nat.two_pow_pos n
  · split
    · exact Nat.mod_lt _ (Nat.two_pow_pos n)
    · exact Nat.lt_of_le_of_lt (Nat.div_le_self _ _) ha
/-- what a law's going bit by bit does at one bit -/
theorem mv_step {l : Bool} {n a j i : Nat} (ha : a < 2 ^ n) (hi : i < n) (h0 : Int) (hh : h0 = if l then (i : Int) - j else (i : Int) + j) :
    ((mvN l n a j % 2 ^ (i + 1) : Nat) : Int) = if 0 ≤ h0 ∧ h0 < n then Builtin.bitOr ((mvN l n a j % 2 ^ i : Nat) : Int) (Builtin.bitAnd ((a : Int) / 2 ^ h0.toNat) 1 * 2 ^ (i : Int).toNat) else ((mvN l n a j % 2 ^ i : Nat) : Int) := by
  have mb := mv_bit (l := l) (j := j) ha hi
  by_cases h : 0 ≤ h0 ∧ h0 < n
  · rw [if_pos h, PyProof.Rows.bitAnd_m1, pow_cast, pow_cast, Int.toNat_natCast]
    have e : ((a : Int) / ((2 ^ h0.toNat : Nat) : Int)) % 2 * ((2 ^ i : Nat) : Int) = ((a / 2 ^ h0.toNat % 2 * 2 ^ i : Nat) : Int) := by
      rw [Int.natCast_mul, Int.natCast_emod, Int.natCast_ediv]; rfl
    rw [e, bO]
    congr 1
    refine bit_step ?_ (by omega)
    rw [mb, ← Nat.toNat_testBit]
    cases l with
    | true =>
      rw [if_pos rfl] at hh
      have e1 : h0.toNat = i - j := by omega
      have e2 : j ≤ i := by omega
      rw [if_pos rfl, decide_eq_true e2, e1, Bool.true_and]
      cases a.testBit (i - j) <;> simp
    | false =>
      rw [if_neg Bool.false_ne_true] at hh
      have e1 : h0.toNat = i + j := by omega
      rw [if_neg Bool.false_ne_true, e1]
      cases a.testBit (i + j) <;> simp
  · rw [if_neg h]
    have z : (mvN l n a j).testBit i = false := by
      rw [mb]
      cases l with
      | true =>
        rw [if_pos rfl] at hh ⊢
        rw [decide_eq_false (show ¬ j ≤ i by omega)]
        rfl
      | false =>
        rw [if_neg Bool.false_ne_true] at hh ⊢
        exact Nat.testBit_lt_two_pow (Nat.lt_of_lt_of_le ha (Nat.pow_le_pow_right (by decide) (by omega)))
    rw [bit_step (c := 0) (by rw [z]; simp) (by decide)]
    simp
/-! ### what sure bits hold, by going through all -/
def heldL (n v u : Nat) : List Nat := (List.range (2 ^ n)).filter fun x => decide (x &&& ((2 ^ n - 1) ^^^ u) = v)
def andAll (n : Nat) (L : List Nat) : Nat := L.foldl (fun a b => a &&& b) (2 ^ n - 1)
def orAll (L : List Nat) : Nat := L.foldl (fun a b => a ||| b) 0
theorem and_fold_bit (L : List Nat) : ∀ (t i : Nat), (L.foldl (fun a b => a &&& b) t).testBit i = (t.testBit i && L.all fun x => x.testBit i) := by
  induction L with
  | nil => intro t i; simp
  | cons x L ih => intro t i; rw [List.foldl_cons, ih, Nat.testBit_and, List.all_cons, Bool.and_assoc]
theorem or_fold_bit (L : List Nat) : ∀ (t i : Nat), (L.foldl (fun a b => a ||| b) t).testBit i = (t.testBit i || L.any fun x => x.testBit i) := by
  induction L with
  | nil => intro t i; simp
  | cons x L ih => intro t i; rw [List.foldl_cons, ih, Nat.testBit_or, List.any_cons, Bool.or_assoc]
/-- v and u without a bit in common, of the width n -/
structure Sb (n v u : Nat) : Prop where
  v1 : v < 2 ^ n
  u1 : u < 2 ^ n
  vu : v &&& u = 0
theorem Sb.not {n v u i : Nat} (h : Sb n v u) (a : v.testBit i = true) : u.testBit i = false := by
  have z : (v &&& u).testBit i = false := by rw [h.vu, Nat.zero_testBit]
  rw [Nat.testBit_and, a, Bool.true_and] at z
  exact z
theorem held_iff {n v u x : Nat} (h : Sb n v u) : x ∈ heldL n v u ↔ x < 2 ^ n ∧ ∀ i, i < n → u.testBit i = false → x.testBit i = v.testBit i := by
  unfold heldL
  rw [List.mem_filter, List.mem_range, decide_eq_true_eq]
  constructor
  · rintro ⟨hx, e⟩
    refine ⟨hx, fun i hi hu => ?_⟩
    have e2 := congrArg (·.testBit i) e
    simp only [Nat.testBit_and, Nat.testBit_xor, Nat.testBit_two_pow_sub_one, decide_eq_true hi, hu] at e2
    simpa using e2
  · rintro ⟨hx, e⟩
    refine ⟨hx, Nat.eq_of_testBit_eq fun i => ?_⟩
    rw [Nat.testBit_and, Nat.testBit_xor, Nat.testBit_two_pow_sub_one]
    by_cases hi : i < n
    · rw [decide_eq_true hi]
      cases hu : u.testBit i with
      | false => rw [e i hi hu]; simp
      | true =>
        cases hv : v.testBit i with
        | false => simp
        | true => rw [h.not hv] at hu; cases hu
    · rw [Nat.testBit_lt_two_pow (Nat.lt_of_lt_of_le hx (Nat.pow_le_pow_right (by decide) (by omega))), Nat.testBit_lt_two_pow (Nat.lt_of_lt_of_le h.v1 (Nat.pow_le_pow_right (by decide) (by omega)))]
      rfl
theorem held_low {n v u : Nat} (h : Sb n v u) : v ∈ heldL n v u := (held_iff h).mpr ⟨h.v1, fun _ _ _ => rfl⟩
theorem held_high {n v u : Nat} (h : Sb n v u) : v ||| u ∈ heldL n v u := (held_iff h).mpr ⟨Nat.or_lt_two_pow h.v1 h.u1, fun i _ hu => by rw [Nat.testBit_or, hu, Bool.or_false]⟩
theorem held_ge {n v u x i : Nat} (h : Sb n v u) (hx : x ∈ heldL n v u) (hv : v.testBit i = true) : x.testBit i = true := by
  have hi : i < n := by
    by_cases hi : i < n
    · exact hi
    · rw [Nat.testBit_lt_two_pow (Nat.lt_of_lt_of_le h.v1 (Nat.pow_le_pow_right (by decide) (by omega)))] at hv; cases hv
  rw [((held_iff h).mp hx).2 i hi (h.not hv)]
  exact hv
theorem held_le {n v u x i : Nat} (h : Sb n v u) (hx : x ∈ heldL n v u) (hb : x.testBit i = true) : (v ||| u).testBit i = true := by
  have hi : i < n := by
    by_cases hi : i < n
    · exact hi
    · rw [Nat.testBit_lt_two_pow (Nat.lt_of_lt_of_le ((held_iff h).mp hx).1 (Nat.pow_le_pow_right (by decide) (by omega)))] at hb; cases hb
  rw [Nat.testBit_or]
  cases hu : u.testBit i with
  | true => simp
  | false => rw [← ((held_iff h).mp hx).2 i hi hu, hb]; rfl
/-- the sharpest of a list with a least and a greatest one, bit by bit -/
theorem sharpest_of {n lo hi : Nat} {L : List Nat} (h1 : lo ∈ L) (h2 : hi ∈ L) (hl : lo < 2 ^ n) (a : ∀ x ∈ L, ∀ i, lo.testBit i = true → x.testBit i = true) (b : ∀ x ∈ L, ∀ i, x.testBit i = true → hi.testBit i = true) :
    andAll n L = lo ∧ orAll L = hi := by
  constructor
  · apply Nat.eq_of_testBit_eq
    intro i
    unfold andAll
    rw [and_fold_bit, Nat.testBit_two_pow_sub_one]
    cases hb : lo.testBit i with
    | true =>
      have hi : i < n := by
        by_cases hi : i < n
        · exact hi
        · rw [Nat.testBit_lt_two_pow (Nat.lt_of_lt_of_le hl (Nat.pow_le_pow_right (by decide) (by omega)))] at hb; cases hb
      rw [decide_eq_true hi, Bool.true_and, List.all_eq_true]
      exact fun x hx => a x hx i hb
    | false =>
      have : (L.all fun x => x.testBit i) = false := by
        rw [List.all_eq_false]
        exact ⟨lo, h1, by rw [hb]; simp⟩
      rw [this, Bool.and_false]
  · apply Nat.eq_of_testBit_eq
    intro i
    unfold orAll
    rw [or_fold_bit, Nat.zero_testBit, Bool.false_or]
    cases hb : hi.testBit i with
    | true =>
      rw [List.any_eq_true]
      exact ⟨hi, h2, hb⟩
    | false =>
      rw [List.any_eq_false]
      intro x hx z
      rw [b x hx i z] at hb
      cases hb
theorem Bt.sb {n : Nat} {v u : Int} (b : Bt n v u) : ∃ a c : Nat, v = (a : Int) ∧ u = (c : Int) ∧ Sb n a c := by
  obtain ⟨a, rfl⟩ := nat_of b.v0
  obtain ⟨c, rfl⟩ := nat_of b.u0
  have z := b.vu
  rw [bA] at z
  exact ⟨a, c, rfl, rfl, nat_lt b.v1, nat_lt b.u1, by omega⟩
/-! ### the promises of the laws' own going through all -/
def intsN (L : List Nat) : List V := L.map fun x : Nat => V.int (x : Int)
def spHeld (K : PySem.W.Frag) : Sp := fun vs H Q _ => ∃ (t : Addr) (n v u : Nat), vs = [.ref t, .int n] ∧ n ≤ 7 ∧ SqT K H t [.int v, .int u] ∧ u < 2 ^ n ∧ NewAt H (.lst (intsN (heldL n v u))) fun p H' => Q (.ref p) H'
def spSharpest (K : PySem.W.Frag) : Sp := fun vs H Q _ => ∃ (l : Addr) (n : Nat) (L : List Nat), vs = [.ref l, .int n] ∧ n ≤ 64 ∧ SqL K H l (intsN L) ∧ NewAt H (.tup [.int (andAll n L : Nat), .int (andAll n L ^^^ orAll L : Nat)]) fun p H' => Q (.ref p) H'
end Bg

set_option Elab.async false
set_option linter.all false
set_option maxRecDepth 100000
set_option maxHeartbeats 4000000
namespace Bg
open PySem PySem.Spec PyProof.Rows L2
/-! ### what sure bits hold -/
def bdiff (a b : Nat) : Nat := a ^^^ (a &&& b)
theorem bdiff_bit (a b i : Nat) : (bdiff a b).testBit i = (a.testBit i && !b.testBit i) := by
  unfold bdiff
  rw [Nat.testBit_xor, Nat.testBit_and]
  cases a.testBit i <;> cases b.testBit i <;> rfl
theorem bdiff_eq (a b : Nat) : Builtin.bitAnd (a : Int) (Builtin.bitNot (b : Int)) = ((bdiff a b : Nat) : Int) := by
  rw [bitAnd_not, bA]
  unfold bdiff
  have h := nat_xor_add a (a &&& b)
  have e : a &&& (a &&& b) = a &&& b := by rw [← Nat.and_assoc, Nat.and_self]
  rw [e] at h
  have := Nat.and_le_left (n := a) (m := b)
  omega
theorem bit_lt {n x i : Nat} (h : x < 2 ^ n) (hb : x.testBit i = true) : i < n := by
  by_cases hi : i < n
  · exact hi
  · rw [Nat.testBit_lt_two_pow (Nat.lt_of_lt_of_le h (Nat.pow_le_pow_right (by decide) (by omega)))] at hb; cases hb
def hasB (v u x : Nat) : Bool := decide (x ||| u = v ||| u)
theorem or_eq_iff {a b u : Nat} : a ||| u = b ||| u ↔ ∀ i, u.testBit i = false → a.testBit i = b.testBit i := by
  constructor
  · intro e i hu
    have e2 := congrArg (·.testBit i) e
    simp only [Nat.testBit_or, hu, Bool.or_false] at e2
    exact e2
  · intro h
    apply Nat.eq_of_testBit_eq
    intro i
    rw [Nat.testBit_or, Nat.testBit_or]
    cases hu : u.testBit i with
    | true => simp
    | false => rw [h i hu]
theorem has_iff {n v u x : Nat} (h : Sb n v u) (hx : x < 2 ^ n) : hasB v u x = decide (x ∈ heldL n v u) := by
  unfold hasB
  have e : (x ||| u = v ||| u) ↔ x ∈ heldL n v u := by
    rw [or_eq_iff, held_iff h]
    constructor
    · exact fun q => ⟨hx, fun i _ hu => q i hu⟩
    · rintro ⟨_, q⟩ i hu
      by_cases hi : i < n
      · exact q i hi hu
      · have z : ∀ y, y < 2 ^ n → y.testBit i = false := fun y hy => Nat.testBit_lt_two_pow (Nat.lt_of_lt_of_le hy (Nat.pow_le_pow_right (by decide) (by omega)))
        rw [z x hx, z v h.v1]
  by_cases q : x ||| u = v ||| u
  · rw [decide_eq_true q, decide_eq_true (e.mp q)]
  · rw [decide_eq_false q, decide_eq_false (fun z => q (e.mpr z))]
def withinB (v1 u1 v2 u2 : Nat) : Bool := if u1 ||| u2 = u2 then hasB v2 u2 v1 else false
theorem within_iff {n v1 u1 v2 u2 : Nat} (h1 : Sb n v1 u1) (h2 : Sb n v2 u2) : withinB v1 u1 v2 u2 = true ↔ ∀ x, x ∈ heldL n v1 u1 → x ∈ heldL n v2 u2 := by
  unfold withinB
  constructor
  · intro h x hx
    split at h
    · rename_i hu
      have hv := or_eq_iff.mp (of_decide_eq_true h)
      have hx1 := (held_iff h1).mp hx
      refine (held_iff h2).mpr ⟨hx1.1, fun i hi hu2 => ?_⟩
      have hu1 : u1.testBit i = false := by
        have e := congrArg (·.testBit i) hu
        simp only [Nat.testBit_or, hu2, Bool.or_false] at e
        exact e
      rw [hx1.2 i hi hu1, hv i hu2]
    · cases h
  · intro h
    have low := (held_iff h2).mp (h v1 (held_low h1))
    have high := (held_iff h2).mp (h _ (held_high h1))
    have hu : u1 ||| u2 = u2 := by
      apply Nat.eq_of_testBit_eq
      intro i
      rw [Nat.testBit_or]
      cases e2 : u2.testBit i with
      | true => simp
      | false =>
        cases e1 : u1.testBit i with
        | false => rfl
        | true =>
          have hi := bit_lt h1.u1 e1
          have a := low.2 i hi e2
          have b := high.2 i hi e2
          rw [Nat.testBit_or, e1, Bool.or_true] at b
          have c : v1.testBit i = false := by
            cases e : v1.testBit i with
            | false => rfl
            | true => rw [h1.not e] at e1; cases e1
          rw [c, ← b] at a
          cases a
    rw [if_pos hu]
    unfold hasB
    refine decide_eq_true (or_eq_iff.mpr fun i hu2 => ?_)
    by_cases hi : i < n
    · exact low.2 i hi hu2
    · have z : ∀ y, y < 2 ^ n → y.testBit i = false := fun y hy => Nat.testBit_lt_two_pow (Nat.lt_of_lt_of_le hy (Nat.pow_le_pow_right (by decide) (by omega)))
      rw [z _ h1.v1, z _ h2.v1]
def bothU (v1 u1 v2 u2 : Nat) : Nat := u1 ||| u2 ||| (v1 ^^^ v2)
theorem bothU_lt {n v1 u1 v2 u2 : Nat} (h1 : Sb n v1 u1) (h2 : Sb n v2 u2) : bothU v1 u1 v2 u2 < 2 ^ n := Nat.or_lt_two_pow (Nat.or_lt_two_pow h1.u1 h2.u1) (Nat.xor_lt_two_pow h1.v1 h2.v1)
theorem both_low {n v1 u1 v2 u2 : Nat} (h1 : Sb n v1 u1) (h2 : Sb n v2 u2) : bdiff v1 (bothU v1 u1 v2 u2) = v1 &&& v2 := by
  apply Nat.eq_of_testBit_eq
  intro i
  rw [bdiff_bit, Nat.testBit_and]
  unfold bothU
  rw [Nat.testBit_or, Nat.testBit_or, Nat.testBit_xor]
  cases e1 : v1.testBit i with
  | false => simp
  | true =>
    rw [h1.not e1]
    cases e2 : v2.testBit i with
    | false => simp
    | true => rw [h2.not e2]; rfl
theorem both_sb {n v1 u1 v2 u2 : Nat} (h1 : Sb n v1 u1) (h2 : Sb n v2 u2) : Sb n (bdiff v1 (bothU v1 u1 v2 u2)) (bothU v1 u1 v2 u2) := by
  refine ⟨?_, bothU_lt h1 h2, ?_⟩
  · rw [both_low h1 h2]
    exact Nat.lt_of_le_of_lt Nat.and_le_left h1.v1
  · apply Nat.eq_of_testBit_eq
    intro i
    rw [Nat.testBit_and, bdiff_bit, Nat.zero_testBit]
    cases v1.testBit i <;> cases (bothU v1 u1 v2 u2).testBit i <;> rfl
theorem both_high {n v1 u1 v2 u2 : Nat} (h1 : Sb n v1 u1) (h2 : Sb n v2 u2) : (v1 &&& v2) ^^^ ((v1 ||| u1) ||| (v2 ||| u2)) = bothU v1 u1 v2 u2 := by
  apply Nat.eq_of_testBit_eq
  intro i
  unfold bothU
  simp only [Nat.testBit_or, Nat.testBit_xor, Nat.testBit_and]
  cases e1 : v1.testBit i with
  | false => cases v2.testBit i <;> cases u1.testBit i <;> cases u2.testBit i <;> rfl
  | true =>
    rw [h1.not e1]
    cases e2 : v2.testBit i with
    | false => cases u2.testBit i <;> rfl
    | true => rw [h2.not e2]; rfl
/-- the sharpest of two heaps of worths -/
theorem sharpest_two {n v1 u1 v2 u2 : Nat} (h1 : Sb n v1 u1) (h2 : Sb n v2 u2) :
    andAll n (heldL n v1 u1 ++ heldL n v2 u2) = bdiff v1 (bothU v1 u1 v2 u2) ∧ andAll n (heldL n v1 u1 ++ heldL n v2 u2) ^^^ orAll (heldL n v1 u1 ++ heldL n v2 u2) = bothU v1 u1 v2 u2 := by
  have a : andAll n (heldL n v1 u1 ++ heldL n v2 u2) = v1 &&& v2 := by
    apply Nat.eq_of_testBit_eq
    intro i
    unfold andAll
    rw [and_fold_bit, Nat.testBit_and, Nat.testBit_two_pow_sub_one]
    cases e1 : v1.testBit i with
    | false =>
      have z : ((heldL n v1 u1 ++ heldL n v2 u2).all fun x => x.testBit i) = false := List.all_eq_false.mpr ⟨v1, List.mem_append_left _ (held_low h1), by rw [e1]; simp⟩
      rw [z]; simp
    | true =>
      rw [decide_eq_true (bit_lt h1.v1 e1)]
      cases e2 : v2.testBit i with
      | false =>
        have z : ((heldL n v1 u1 ++ heldL n v2 u2).all fun x => x.testBit i) = false := List.all_eq_false.mpr ⟨v2, List.mem_append_right _ (held_low h2), by rw [e2]; simp⟩
        rw [z, Bool.and_false]
      | true =>
        have z : ((heldL n v1 u1 ++ heldL n v2 u2).all fun x => x.testBit i) = true := List.all_eq_true.mpr fun x hx => by
          rcases List.mem_append.mp hx with q | q
          · exact held_ge h1 q e1
          · exact held_ge h2 q e2
        rw [z]
  have o : orAll (heldL n v1 u1 ++ heldL n v2 u2) = (v1 ||| u1) ||| (v2 ||| u2) := by
    apply Nat.eq_of_testBit_eq
    intro i
    unfold orAll
    rw [or_fold_bit, Nat.zero_testBit, Bool.false_or, Nat.testBit_or]
    cases e1 : (v1 ||| u1).testBit i with
    | true => rw [Bool.true_or]; exact List.any_eq_true.mpr ⟨_, List.mem_append_left _ (held_high h1), e1⟩
    | false =>
      cases e2 : (v2 ||| u2).testBit i with
      | true => exact List.any_eq_true.mpr ⟨_, List.mem_append_right _ (held_high h2), e2⟩
      | false =>
        refine List.any_eq_false.mpr fun x hx z => ?_
        rcases List.mem_append.mp hx with q | q
        · rw [held_le h1 q z] at e1; cases e1
        · rw [held_le h2 q z] at e2; cases e2
  rw [a, o]
  exact ⟨(both_low h1 h2).symm, both_high h1 h2⟩
/-- both hold something in common -/
def meetB (v1 u1 v2 u2 : Nat) : Prop := v1 ||| (u1 ||| u2) = v2 ||| (u1 ||| u2)
instance (v1 u1 v2 u2 : Nat) : Decidable (meetB v1 u1 v2 u2) := inferInstanceAs (Decidable (_ = _))
theorem meet_bit {v1 u1 v2 u2 i : Nat} (h : meetB v1 u1 v2 u2) (a : u1.testBit i = false) (b : u2.testBit i = false) : v1.testBit i = v2.testBit i := or_eq_iff.mp h i (by rw [Nat.testBit_or, a, b]; rfl)
theorem met_sb {n v1 u1 v2 u2 : Nat} (h1 : Sb n v1 u1) (h2 : Sb n v2 u2) (m : meetB v1 u1 v2 u2) : Sb n (v1 ||| v2) (u1 &&& u2) := by
  refine ⟨Nat.or_lt_two_pow h1.v1 h2.v1, Nat.lt_of_le_of_lt Nat.and_le_left h1.u1, ?_⟩
  apply Nat.eq_of_testBit_eq
  intro i
  rw [Nat.testBit_and, Nat.testBit_or, Nat.testBit_and, Nat.zero_testBit]
  cases e1 : v1.testBit i with
  | true => rw [h1.not e1]; simp
  | false =>
    cases e2 : v2.testBit i with
    | true => rw [h2.not e2]; simp
    | false => rfl
theorem met_iff {n v1 u1 v2 u2 x : Nat} (h1 : Sb n v1 u1) (h2 : Sb n v2 u2) (m : meetB v1 u1 v2 u2) : x ∈ heldL n (v1 ||| v2) (u1 &&& u2) ↔ x ∈ heldL n v1 u1 ∧ x ∈ heldL n v2 u2 := by
  rw [held_iff h1, held_iff h2, held_iff (met_sb h1 h2 m)]
  constructor
  · rintro ⟨hx, q⟩
    refine ⟨⟨hx, fun i hi hu => ?_⟩, hx, fun i hi hu => ?_⟩
    · rw [q i hi (by rw [Nat.testBit_and, hu]; rfl), Nat.testBit_or]
      cases e2 : v2.testBit i with
      | false => simp
      | true => rw [meet_bit m hu (h2.not e2), e2]; rfl
    · rw [q i hi (by rw [Nat.testBit_and, hu]; simp), Nat.testBit_or]
      cases e1 : v1.testBit i with
      | false => simp
      | true => rw [← meet_bit m (h1.not e1) hu, e1]; rfl
  · rintro ⟨⟨hx, a⟩, _, b⟩
    refine ⟨hx, fun i hi hu => ?_⟩
    rw [Nat.testBit_and] at hu
    rw [Nat.testBit_or]
    cases e1 : u1.testBit i with
    | false =>
      rw [a i hi e1]
      cases e2 : v2.testBit i with
      | false => simp
      | true => rw [meet_bit m e1 (h2.not e2), e2]; rfl
    | true =>
      rw [e1, Bool.true_and] at hu
      rw [b i hi hu]
      cases e2 : v1.testBit i with
      | false => simp
      | true => rw [h1.not e2] at e1; cases e1
theorem met_none {n v1 u1 v2 u2 x : Nat} (h1 : Sb n v1 u1) (h2 : Sb n v2 u2) (m : ¬ meetB v1 u1 v2 u2) (a : x ∈ heldL n v1 u1) (b : x ∈ heldL n v2 u2) : False := by
  apply m
  refine or_eq_iff.mpr fun i hu => ?_
  rw [Nat.testBit_or] at hu
  have z1 : u1.testBit i = false := by cases e : u1.testBit i with | false => rfl | true => rw [e] at hu; cases hu
  have z2 : u2.testBit i = false := by cases e : u2.testBit i with | false => rfl | true => rw [e] at hu; simp at hu
  by_cases hi : i < n
  · rw [← ((held_iff h1).mp a).2 i hi z1, ((held_iff h2).mp b).2 i hi z2]
  · have z : ∀ y, y < 2 ^ n → y.testBit i = false := fun y hy => Nat.testBit_lt_two_pow (Nat.lt_of_lt_of_le hy (Nat.pow_le_pow_right (by decide) (by omega)))
    rw [z _ h1.v1, z _ h2.v1]
theorem sharpest_met {n v1 u1 v2 u2 : Nat} {L : List Nat} (h1 : Sb n v1 u1) (h2 : Sb n v2 u2) (m : meetB v1 u1 v2 u2) (hL : ∀ x, x ∈ L ↔ x ∈ heldL n v1 u1 ∧ x ∈ heldL n v2 u2) :
    andAll n L = v1 ||| v2 ∧ andAll n L ^^^ orAll L = u1 &&& u2 := by
  have s := met_sb h1 h2 m
  have e : ∀ x, x ∈ L ↔ x ∈ heldL n (v1 ||| v2) (u1 &&& u2) := fun x => (hL x).trans (met_iff h1 h2 m).symm
  obtain ⟨a, b⟩ := sharpest_of ((e _).mpr (held_low s)) ((e _).mpr (held_high s)) s.v1 (fun x hx i hi => held_ge s ((e x).mp hx) hi) (fun x hx i hi => held_le s ((e x).mp hx) hi)
  rw [a, b]
  refine ⟨rfl, ?_⟩
  apply Nat.eq_of_testBit_eq
  intro i
  rw [Nat.testBit_xor, Nat.testBit_or (v1 ||| v2)]
  cases hv : (v1 ||| v2).testBit i with
  | false => simp
  | true => rw [s.not hv]; rfl
/-! ### lists of worths -/
theorem in_ints (x : Nat) (L : List Nat) : inV (.int x) (intsN L) = decide (x ∈ L) := by
  unfold inV intsN
  induction L with
  | nil => simp
  | cons y L ih =>
    rw [List.map_cons, List.any_cons, ih]
    show (((y : Int) == (x : Int)) || decide (x ∈ L)) = _
    by_cases h : y = x
    · subst h; simp
    · have h1 : ((y : Int) == (x : Int)) = false := beq_eq_false_iff_ne.mpr (by omega)
      have h2 : (x ∈ y :: L) ↔ x ∈ L := by simp [Ne.symm h]
      rw [h1, Bool.false_or]
      simp only [h2]
theorem ints_flat (L : List Nat) : (intsN L).all flatV = true := by
  rw [List.all_eq_true]
  intro v hv
  obtain ⟨x, _, rfl⟩ := List.mem_map.mp hv
  rfl
def datN (L : List Nat) : List PyData := L.map fun x : Nat => PyData.int (x : Int)
theorem ints_dp {K : PySem.W.Frag} {H : Hp} : ∀ L : List Nat, DpAll K H (intsN L) (datN L)
  | [] => .nil
  | x :: L => .cons (.int _) (ints_dp L)
theorem dat_shaped (L : List Nat) : SeqAt.shaped (.list (datN L)) = true := by
  have a : ∀ L : List Nat, PyData.canLayAll0 (datN L) = true ∧ PyData.depthAll (datN L) = 0 := by
    intro L
    induction L with
    | nil => exact ⟨rfl, rfl⟩
    | cons x L ih => exact ⟨by show (true && PyData.canLayAll0 (datN L)) = true; rw [ih.1]; rfl, by show max 0 (PyData.depthAll (datN L)) = 0; rw [ih.2]; rfl⟩
  show (PyData.canLayAll0 (datN L) && decide (PyData.depthAll (datN L) + 1 ≤ 64)) = true
  rw [(a L).1, (a L).2]
  rfl
theorem eqv_nil (L : List Nat) : PyData.eqv (.list (datN L)) (.list []) = decide (L = []) := by
  cases L with
  | nil => rfl
  | cons x L => exact (decide_eq_false (fun z => by cases z)).symm
end Bg
namespace Bg
open PySem PySem.Spec PyProof.Rows L2
theorem has_bits {v u x : Nat} : hasB v u x = true ↔ ∀ i, u.testBit i = false → x.testBit i = v.testBit i := by
  unfold hasB
  rw [decide_eq_true_iff, or_eq_iff]
theorem has_drawn {v u r : Nat} : hasB v u (v ||| (u &&& r)) = true := has_bits.mpr fun i hu => by
  rw [Nat.testBit_or, Nat.testBit_and, hu, Bool.false_and, Bool.or_false]
theorem bothU_bit {v1 u1 v2 u2 i : Nat} (h : (bothU v1 u1 v2 u2).testBit i = false) : u1.testBit i = false ∧ u2.testBit i = false ∧ v1.testBit i = v2.testBit i := by
  unfold bothU at h
  simp only [Nat.testBit_or, Nat.testBit_xor, Bool.or_eq_false_iff] at h
  refine ⟨h.1.1, h.1.2, ?_⟩
  have z := h.2
  revert z
  cases v1.testBit i <;> cases v2.testBit i <;> simp
theorem has_both1 {v1 u1 v2 u2 x : Nat} (h : hasB v1 u1 x = true) : hasB (bdiff v1 (bothU v1 u1 v2 u2)) (bothU v1 u1 v2 u2) x = true := has_bits.mpr fun i hu => by
  rw [has_bits.mp h i (bothU_bit hu).1, bdiff_bit, hu]
  simp
theorem has_both2 {v1 u1 v2 u2 x : Nat} (h : hasB v2 u2 x = true) : hasB (bdiff v1 (bothU v1 u1 v2 u2)) (bothU v1 u1 v2 u2) x = true := has_bits.mpr fun i hu => by
  rw [has_bits.mp h i (bothU_bit hu).2.1, bdiff_bit, hu, (bothU_bit hu).2.2]
  simp
theorem has_met {n v1 u1 v2 u2 x : Nat} (h1 : Sb n v1 u1) (h2 : Sb n v2 u2) (m : meetB v1 u1 v2 u2) : hasB (v1 ||| v2) (u1 &&& u2) x = (hasB v1 u1 x && hasB v2 u2 x) := by
  have e : hasB (v1 ||| v2) (u1 &&& u2) x = true ↔ (hasB v1 u1 x && hasB v2 u2 x) = true := by
    rw [Bool.and_eq_true, has_bits, has_bits, has_bits]
    constructor
    · intro q
      refine ⟨fun i hu => ?_, fun i hu => ?_⟩
      · rw [q i (by rw [Nat.testBit_and, hu]; rfl), Nat.testBit_or]
        cases e2 : v2.testBit i with
        | false => simp
        | true => rw [meet_bit m hu (h2.not e2), e2]; rfl
      · rw [q i (by rw [Nat.testBit_and, hu]; simp), Nat.testBit_or]
        cases e1 : v1.testBit i with
        | false => simp
        | true => rw [← meet_bit m (h1.not e1) hu, e1]; rfl
    · rintro ⟨a, b⟩ i hu
      rw [Nat.testBit_and] at hu
      rw [Nat.testBit_or]
      cases e1 : u1.testBit i with
      | false =>
        rw [a i e1]
        cases e2 : v2.testBit i with
        | false => simp
        | true => rw [meet_bit m e1 (h2.not e2), e2]; rfl
      | true =>
        rw [e1, Bool.true_and] at hu
        rw [b i hu]
        cases e2 : v1.testBit i with
        | false => simp
        | true => rw [h1.not e2] at e1; cases e1
  cases q : hasB (v1 ||| v2) (u1 &&& u2) x with
  | true => rw [e.mp q]
  | false =>
    cases z : (hasB v1 u1 x && hasB v2 u2 x) with
    | false => rfl
    | true => rw [e.mpr z] at q; cases q
theorem has_unmet {v1 u1 v2 u2 x : Nat} (m : ¬ meetB v1 u1 v2 u2) : (hasB v1 u1 x && hasB v2 u2 x) = false := by
  cases z : (hasB v1 u1 x && hasB v2 u2 x) with
  | false => rfl
  | true =>
    rw [Bool.and_eq_true, has_bits, has_bits] at z
    refine absurd (or_eq_iff.mpr fun i hu => ?_) m
    rw [Nat.testBit_or] at hu
    have z1 : u1.testBit i = false := by cases e : u1.testBit i with | false => rfl | true => rw [e] at hu; cases hu
    have z2 : u2.testBit i = false := by cases e : u2.testBit i with | false => rfl | true => rw [e] at hu; simp at hu
    rw [← z.1 i z1, z.2 i z2]
theorem bdiff_top {n a b : Nat} (ha : a < 2 ^ n) : a &&& ((2 ^ n - 1) ^^^ b) = bdiff a b := by
  apply Nat.eq_of_testBit_eq
  intro i
  rw [bdiff_bit, Nat.testBit_and, Nat.testBit_xor, Nat.testBit_two_pow_sub_one]
  cases e : a.testBit i with
  | false => rfl
  | true => rw [decide_eq_true (bit_lt ha e)]; simp
theorem clash_iff {n v1 u1 v2 u2 : Nat} (h1 : Sb n v1 u1) (h2 : Sb n v2 u2) : (v1 ^^^ v2) &&& ((2 ^ n - 1) ^^^ (u1 ||| u2)) = 0 ↔ meetB v1 u1 v2 u2 := by
  rw [bdiff_top (Nat.xor_lt_two_pow h1.v1 h2.v1)]
  constructor
  · intro e
    refine or_eq_iff.mpr fun i hu => ?_
    have z := congrArg (·.testBit i) e
    simp only [bdiff_bit, hu, Nat.testBit_xor, Nat.zero_testBit, Bool.not_false, Bool.and_true] at z
    revert z
    cases v1.testBit i <;> cases v2.testBit i <;> simp
  · intro m
    apply Nat.eq_of_testBit_eq
    intro i
    rw [bdiff_bit, Nat.zero_testBit, Nat.testBit_xor]
    cases hu : (u1 ||| u2).testBit i with
    | true => simp
    | false => rw [or_eq_iff.mp m i hu]; simp
theorem within_both {v1 u1 v2 u2 : Nat} : withinB v1 u1 (bdiff v1 (bothU v1 u1 v2 u2)) (bothU v1 u1 v2 u2) = true ∧ withinB v2 u2 (bdiff v1 (bothU v1 u1 v2 u2)) (bothU v1 u1 v2 u2) = true := by
  have self : ∀ v u : Nat, hasB v u v = true := fun v u => decide_eq_true rfl
  have e1 : u1 ||| bothU v1 u1 v2 u2 = bothU v1 u1 v2 u2 := by
    apply Nat.eq_of_testBit_eq
    intro i
    unfold bothU
    simp only [Nat.testBit_or]
    cases u1.testBit i <;> simp
  have e2 : u2 ||| bothU v1 u1 v2 u2 = bothU v1 u1 v2 u2 := by
    apply Nat.eq_of_testBit_eq
    intro i
    unfold bothU
    simp only [Nat.testBit_or]
    cases u2.testBit i <;> simp
  unfold withinB
  rw [if_pos e1, if_pos e2]
  exact ⟨has_both1 (self v1 u1), has_both2 (self v2 u2)⟩
end Bg

set_option Elab.async false
set_option linter.all false
set_option maxRecDepth 100000
set_option maxHeartbeats 400000
namespace Bg
open PySem PySem.Spec PyProof.Rows
/-! ### bits of whole numbers of any sign -/
/-- a bit of a whole number, in two's complement -/
def ib (x : Int) (i : Nat) : Bool := decide (x / 2 ^ i % 2 = 1)
theorem ib_zero (x : Int) : ib x 0 = decide (x % 2 = 1) := by
  unfold ib
  rw [Int.pow_zero, Int.ediv_one]
theorem ib_succ (x : Int) (i : Nat) : ib x (i + 1) = ib (x / 2) i := by
  unfold ib
  rw [Int.pow_succ, Int.mul_comm, Int.ediv_ediv_of_nonneg (show (0 : Int) ≤ 2 by decide)]
theorem and_half (x y : Int) : Builtin.bitAnd x y / 2 = Builtin.bitAnd (x / 2) (y / 2) := by
  have h := PySem.W.kbt_halves x y
  split at h <;> omega
theorem ib_and (i : Nat) : ∀ x y : Int, ib (Builtin.bitAnd x y) i = (ib x i && ib y i) := by
  induction i with
  | zero =>
    intro x y
    rw [ib_zero, ib_zero, ib_zero]
    have h := PySem.W.kbt_halves x y
    split at h
    · rename_i c
      rw [decide_eq_true c.1, decide_eq_true c.2, decide_eq_true (by omega)]
      rfl
    · rename_i c
      rw [decide_eq_false (by omega)]
      by_cases a : x % 2 = 1
      · rw [decide_eq_false (fun b => c ⟨a, b⟩), Bool.and_false]
      · rw [decide_eq_false a, Bool.false_and]
  | succ i ih =>
    intro x y
    rw [ib_succ, ib_succ, ib_succ, and_half, ih]
theorem xor_half (x y : Int) : Builtin.bitXor x y / 2 = Builtin.bitXor (x / 2) (y / 2) := by
  have h := PySem.W.kbt_halves x y
  rw [bitXor_and, bitXor_and]
  split at h <;> omega
theorem ib_xor (i : Nat) : ∀ x y : Int, ib (Builtin.bitXor x y) i = (ib x i ^^ ib y i) := by
  induction i with
  | zero =>
    intro x y
    rw [ib_zero, ib_zero, ib_zero, bitXor_and]
    by_cases a : x % 2 = 1 <;> by_cases b : y % 2 = 1
    · rw [decide_eq_true a, decide_eq_true b, decide_eq_false (by omega)]; rfl
    · rw [decide_eq_true a, decide_eq_false b, decide_eq_true (by omega)]; rfl
    · rw [decide_eq_false a, decide_eq_true b, decide_eq_true (by omega)]; rfl
    · rw [decide_eq_false a, decide_eq_false b, decide_eq_false (by omega)]; rfl
  | succ i ih =>
    intro x y
    rw [ib_succ, ib_succ, ib_succ, xor_half, ih]
theorem ib_not (i : Nat) : ∀ x : Int, ib (Builtin.bitNot x) i = !ib x i := by
  induction i with
  | zero =>
    intro x
    rw [ib_zero, ib_zero, PySem.W.kbt_not]
    by_cases a : x % 2 = 1
    · rw [decide_eq_true a, decide_eq_false (by omega)]; rfl
    · rw [decide_eq_false a, decide_eq_true (by omega)]; rfl
  | succ i ih =>
    intro x
    rw [ib_succ, ib_succ, ← ih, PySem.W.kbt_not, PySem.W.kbt_not]
    congr 1
    omega
theorem or_not (x y : Int) : Builtin.bitOr x y = Builtin.bitNot (Builtin.bitAnd (Builtin.bitNot x) (Builtin.bitNot y)) := rfl
theorem ib_or (i : Nat) (x y : Int) : ib (Builtin.bitOr x y) i = (ib x i || ib y i) := by
  rw [or_not, ib_not, ib_and, ib_not, ib_not, Bool.not_and, Bool.not_not, Bool.not_not]
theorem ib_nat (a i : Nat) : ib (a : Int) i = a.testBit i := by
  unfold ib
  rw [Nat.testBit_eq_decide_div_mod_eq]
  have e : (a : Int) / 2 ^ i % 2 = ((a / 2 ^ i % 2 : Nat) : Int) := by
    rw [Int.natCast_emod, Int.natCast_ediv, Int.natCast_pow]; rfl
  rw [e]
  by_cases h : a / 2 ^ i % 2 = 1
  · rw [decide_eq_true h, decide_eq_true (by omega)]
  · rw [decide_eq_false h, decide_eq_false (by omega)]
theorem ib_mask (x : Int) (n i : Nat) : ib (x % 2 ^ n) i = (decide (i < n) && ib x i) := by
  rw [← PySem.W.kbt_mask, ib_and]
  have e : (2 : Int) ^ n - 1 = ((2 ^ n - 1 : Nat) : Int) := by
    have := Nat.two_pow_pos n
    have h : ((2 ^ n : Nat) : Int) = (2 : Int) ^ n := by rw [Int.natCast_pow]; rfl
    omega
  rw [e, ib_nat, Nat.testBit_two_pow_sub_one, Bool.and_comm]
/-- a whole number below a power is told by its bits -/
theorem mask_nat {x : Int} {n m : Nat} (h : ∀ i, m.testBit i = (decide (i < n) && ib x i)) : x % 2 ^ n = (m : Int) := by
  have p : (0 : Int) < 2 ^ n := Int.pow_pos (by decide)
  have h0 := Int.emod_nonneg x (show (2 : Int) ^ n ≠ 0 by omega)
  obtain ⟨k, hk⟩ : ∃ k : Nat, x % 2 ^ n = (k : Int) := ⟨(x % 2 ^ n).toNat, by omega⟩
  rw [hk]
  congr 1
  apply Nat.eq_of_testBit_eq
  intro i
  rw [h i, ← ib_nat, ← hk, ib_mask]
/-! ### carries and borrows -/
def maj (a b c : Bool) : Bool := (a && b) || (a && c) || (b && c)
def car (x y : Int) : Nat → Bool
  | 0 => false
  | i + 1 => maj (ib x i) (ib y i) (car x y i)
def bor (x y : Int) : Nat → Bool
  | 0 => false
  | i + 1 => maj (!ib x i) (ib y i) (bor x y i)
def b2 (b : Bool) : Int := if b = true then 1 else 0
theorem ib_b2 (x : Int) (i : Nat) : x / 2 ^ i % 2 = b2 (ib x i) := by
  unfold b2 ib
  by_cases h : x / 2 ^ i % 2 = 1
  · rw [decide_eq_true h, h]; rfl
  · rw [decide_eq_false h, if_neg Bool.false_ne_true]; omega
theorem div_succ (x : Int) (i : Nat) : x / 2 ^ (i + 1) = x / 2 ^ i / 2 := by
  have p : (0 : Int) ≤ 2 ^ i := Int.le_of_lt (Int.pow_pos (by decide))
  rw [Int.pow_succ, Int.ediv_ediv_of_nonneg p]
theorem add_div (x y : Int) (i : Nat) : (x + y) / 2 ^ i = x / 2 ^ i + y / 2 ^ i + b2 (car x y i) := by
  induction i with
  | zero => rw [Int.pow_zero, Int.ediv_one, Int.ediv_one, Int.ediv_one]; show _ = x + y + 0; omega
  | succ i ih =>
    rw [div_succ, div_succ, div_succ, ih]
    have hx := ib_b2 x i
    have hy := ib_b2 y i
    show _ = _ + _ + b2 (maj (ib x i) (ib y i) (car x y i))
    revert hx hy
    cases ib x i <;> cases ib y i <;> cases car x y i <;> simp only [b2, maj] <;> simp <;> omega
theorem sub_div (x y : Int) (i : Nat) : (x - y) / 2 ^ i = x / 2 ^ i - y / 2 ^ i - b2 (bor x y i) := by
  induction i with
  | zero => rw [Int.pow_zero, Int.ediv_one, Int.ediv_one, Int.ediv_one]; show _ = x - y - 0; omega
  | succ i ih =>
    rw [div_succ, div_succ, div_succ, ih]
    have hx := ib_b2 x i
    have hy := ib_b2 y i
    show _ = _ - _ - b2 (maj (!ib x i) (ib y i) (bor x y i))
    revert hx hy
    cases ib x i <;> cases ib y i <;> cases bor x y i <;> simp only [b2, maj] <;> simp <;> omega
theorem ib_add (x y : Int) (i : Nat) : ib (x + y) i = (ib x i ^^ ib y i ^^ car x y i) := by
  have h := add_div x y i
  have hx := ib_b2 x i
  have hy := ib_b2 y i
  have hs := ib_b2 (x + y) i
  rw [h] at hs
  revert hx hy hs
  cases ib x i <;> cases ib y i <;> cases car x y i <;> cases ib (x + y) i <;> simp only [b2] <;> simp <;> omega
theorem ib_sub (x y : Int) (i : Nat) : ib (x - y) i = (ib x i ^^ ib y i ^^ bor x y i) := by
  have h := sub_div x y i
  have hx := ib_b2 x i
  have hy := ib_b2 y i
  have hs := ib_b2 (x - y) i
  rw [h] at hs
  revert hx hy hs
  cases ib x i <;> cases ib y i <;> cases bor x y i <;> cases ib (x - y) i <;> simp only [b2] <;> simp <;> omega
end Bg

set_option Elab.async false
set_option linter.all false
set_option maxRecDepth 100000
set_option maxHeartbeats 4000000
namespace Bg
open PySem PySem.Spec PyProof.Rows L2
/-! ### known numbers: what the rules make of six numbers -/
structure Kn where
  v : Nat
  u : Nat
  l : Int
  m : Int
  lo : Int
  hi : Int
deriving DecidableEq
def mx (i j : Int) : Int := if j > i then j else i
def mn (i j : Int) : Int := if j < i then j else i
theorem mx_l (i j : Int) : i ≤ mx i j := by unfold mx; split <;> omega
theorem mx_r (i j : Int) : j ≤ mx i j := by unfold mx; split <;> omega
theorem mn_l (i j : Int) : mn i j ≤ i := by unfold mn; split <;> omega
theorem mn_r (i j : Int) : mn i j ≤ j := by unfold mn; split <;> omega
theorem mx_or (i j : Int) : mx i j = i ∨ mx i j = j := by unfold mx; split <;> simp
theorem mn_or (i j : Int) : mn i j = i ∨ mn i j = j := by unfold mn; split <;> simp
def hf (n : Nat) (x : Int) : Int := x / 2 ^ (n - 1)
def sg (n : Nat) (x : Int) : Int := if hf n x = 0 then x else x - 2 ^ n
def bl (x : Nat) : Nat := Builtin.Int.intBits (x : Int)
theorem bl_le {x i : Nat} : bl x ≤ i ↔ x < 2 ^ i := by
  unfold bl Builtin.Int.intBits
  by_cases h : x = 0
  · subst h; simp [Nat.two_pow_pos]
  · have e : ((x : Int) == 0) = false := by simpa using h
    rw [e, if_neg Bool.false_ne_true, Int.natAbs_natCast]
    have := Nat.log2_lt (n := x) (k := i) h
    omega
theorem div_xor (l m i : Nat) : l / 2 ^ i = m / 2 ^ i ↔ bl (l ^^^ m) ≤ i := by
  rw [bl_le]
  have e : (l ^^^ m) / 2 ^ i = (l / 2 ^ i) ^^^ (m / 2 ^ i) := by
    apply Nat.eq_of_testBit_eq
    intro j
    simp only [Nat.testBit_div_two_pow, Nat.testBit_xor]
  rw [← Nat.div_eq_zero_iff_lt (Nat.two_pow_pos i), e]
  constructor
  · intro h; rw [h, Nat.xor_self]
  · intro h
    apply Nat.eq_of_testBit_eq
    intro j
    have := congrArg (·.testBit j) h
    simp only [Nat.testBit_xor, Nat.zero_testBit] at this
    revert this
    cases (l / 2 ^ i).testBit j <;> cases (m / 2 ^ i).testBit j <;> simp
/-- sure bits met with those that least and most have alike -/
def bitsM (v u l m : Nat) : Option (Nat × Nat) :=
  if (v ||| (u ||| (2 ^ bl (l ^^^ m) - 1))) = (l / 2 ^ bl (l ^^^ m) * 2 ^ bl (l ^^^ m)) ||| (u ||| (2 ^ bl (l ^^^ m) - 1))
  then some (v ||| (l / 2 ^ bl (l ^^^ m) * 2 ^ bl (l ^^^ m)), u &&& (2 ^ bl (l ^^^ m) - 1)) else none
/-- the bits from B on are as those of l where they are sure -/
def Agree (B v u l : Nat) : Prop := ∀ i, B ≤ i → u.testBit i = false → v.testBit i = l.testBit i
theorem tb_cut (l B i : Nat) : (l / 2 ^ B * 2 ^ B).testBit i = (decide (B ≤ i) && l.testBit i) := by
  rw [Nat.testBit_mul_two_pow, Nat.testBit_div_two_pow]
  by_cases h : B ≤ i
  · rw [decide_eq_true h, show i - B + B = i by omega]
  · rw [decide_eq_false h]; rfl
theorem agree_iff {v u l m : Nat} : (v ||| (u ||| (2 ^ bl (l ^^^ m) - 1))) = (l / 2 ^ bl (l ^^^ m) * 2 ^ bl (l ^^^ m)) ||| (u ||| (2 ^ bl (l ^^^ m) - 1)) ↔ Agree (bl (l ^^^ m)) v u l := by
  generalize bl (l ^^^ m) = B
  constructor
  · intro h i hi hu
    have e := congrArg (·.testBit i) h
    simp only [Nat.testBit_or, tb_cut, Nat.testBit_two_pow_sub_one, hu, decide_eq_true hi, decide_eq_false (show ¬ i < B by omega), Bool.or_false, Bool.true_and] at e
    exact e
  · intro h
    apply Nat.eq_of_testBit_eq
    intro i
    simp only [Nat.testBit_or, tb_cut, Nat.testBit_two_pow_sub_one]
    by_cases hi : B ≤ i
    · cases hu : u.testBit i with
      | true => simp
      | false => rw [h i hi hu, decide_eq_true hi, Bool.true_and]
    · rw [decide_eq_true (show i < B by omega)]; simp
/-- the same bits, told by remainders -/
theorem bits_val {v u l B n : Nat} (sb : Sb n v u) (h : Agree B v u l) : v ||| (l / 2 ^ B * 2 ^ B) = l / 2 ^ B * 2 ^ B + v % 2 ^ B := by
  have e : l / 2 ^ B * 2 ^ B + v % 2 ^ B = l / 2 ^ B * 2 ^ B ||| v % 2 ^ B := by
    rw [Nat.mul_comm]
    exact Nat.two_pow_add_eq_or_of_lt (Nat.mod_lt _ (Nat.two_pow_pos B)) _
  rw [e]
  apply Nat.eq_of_testBit_eq
  intro i
  simp only [Nat.testBit_or, tb_cut, Nat.testBit_mod_two_pow]
  by_cases hi : B ≤ i
  · rw [decide_eq_true hi, decide_eq_false (show ¬ i < B by omega)]
    cases hu : u.testBit i with
    | true =>
      have : v.testBit i = false := by
        cases hv : v.testBit i with
        | false => rfl
        | true => rw [sb.not hv] at hu; cases hu
      rw [this]; simp
    | false => rw [h i hi hu]; simp
  · rw [decide_eq_false hi, decide_eq_true (show i < B by omega)]; simp
theorem bits_uns (u B : Nat) : u &&& (2 ^ B - 1) = u % 2 ^ B := Nat.and_two_pow_sub_one_eq_mod u B
def endL (n : Nat) (l m lo : Int) : Int := if hf n l = hf n m then mx lo (sg n l) else lo
def endH (n : Nat) (l m hi : Int) : Int := if hf n l = hf n m then mn hi (sg n m) else hi
def endl (n : Nat) (l lo1 hi1 : Int) : Int := if (decide (lo1 < 0)) = (decide (hi1 < 0)) then mx l (lo1 % 2 ^ n) else l
def endm (n : Nat) (m lo1 hi1 : Int) : Int := if (decide (lo1 < 0)) = (decide (hi1 < 0)) then mn m (hi1 % 2 ^ n) else m
/-- the four ends, each cut by the others -/
def lo1 (n : Nat) (k : Kn) : Int := endL n (mx k.l k.v) (mn k.m ((k.v ||| k.u : Nat) : Int)) k.lo
def hi1 (n : Nat) (k : Kn) : Int := endH n (mx k.l k.v) (mn k.m ((k.v ||| k.u : Nat) : Int)) k.hi
def l1 (n : Nat) (k : Kn) : Int := endl n (mx k.l k.v) (lo1 n k) (hi1 n k)
def m1 (n : Nat) (k : Kn) : Int := endm n (mn k.m ((k.v ||| k.u : Nat) : Int)) (lo1 n k) (hi1 n k)
def onceK (n : Nat) (k : Kn) : Option Kn :=
  if m1 n k < l1 n k ∨ hi1 n k < lo1 n k then none
  else match bitsM k.v k.u (l1 n k).toNat (m1 n k).toNat with
    | none => none
    | some p => some ⟨p.1, p.2, l1 n k, m1 n k, lo1 n k, hi1 n k⟩
section
variable {n : Nat} {k k' : Kn}
theorem lo1_ge : k.lo ≤ lo1 n k := by unfold lo1 endL; split; exact mx_l _ _; exact Int.le_refl _
theorem hi1_le : hi1 n k ≤ k.hi := by unfold hi1 endH; split; exact mn_l _ _; exact Int.le_refl _
theorem l1_ge0 : mx k.l k.v ≤ l1 n k := by unfold l1 endl; split; exact mx_l _ _; exact Int.le_refl _
theorem m1_le0 : m1 n k ≤ mn k.m ((k.v ||| k.u : Nat) : Int) := by unfold m1 endm; split; exact mn_l _ _; exact Int.le_refl _
theorem l1_ge : k.l ≤ l1 n k := Int.le_trans (mx_l _ _) l1_ge0
theorem l1_ge_v : (k.v : Int) ≤ l1 n k := Int.le_trans (mx_r _ _) l1_ge0
theorem m1_le : m1 n k ≤ k.m := Int.le_trans m1_le0 (mn_l _ _)
theorem m1_le_v : m1 n k ≤ ((k.v ||| k.u : Nat) : Int) := Int.le_trans m1_le0 (mn_r _ _)
/-- what stands behind a turn -/
structure Done (n : Nat) (k : Kn) : Prop where
  sb : Sb n k.v k.u
  l0 : 0 ≤ k.l
  lm : k.l ≤ k.m
  m1 : k.m < 2 ^ n
  lh : k.lo ≤ k.hi
theorem bitsM_some {v u l m a b : Nat} (sb : Sb n v u) (hl : l < 2 ^ n) (h : bitsM v u l m = some (a, b)) :
    Agree (bl (l ^^^ m)) v u l ∧ a = l / 2 ^ bl (l ^^^ m) * 2 ^ bl (l ^^^ m) + v % 2 ^ bl (l ^^^ m) ∧ b = u % 2 ^ bl (l ^^^ m) ∧ Sb n a b := by
  unfold bitsM at h
  split at h
  · rename_i c
    have ag := agree_iff.mp c
    have e := Option.some.inj h
    have e1 : a = v ||| (l / 2 ^ bl (l ^^^ m) * 2 ^ bl (l ^^^ m)) := (congrArg Prod.fst e).symm
    have e2 : b = u &&& (2 ^ bl (l ^^^ m) - 1) := (congrArg Prod.snd e).symm
    refine ⟨ag, ?_, ?_, ?_⟩
    · rw [e1, bits_val sb ag]
    · rw [e2, bits_uns]
    · rw [e1, e2]
      refine ⟨Nat.or_lt_two_pow sb.v1 (Nat.lt_of_le_of_lt (Nat.div_mul_le_self _ _) hl), Nat.lt_of_le_of_lt Nat.and_le_left sb.u1, ?_⟩
      apply Nat.eq_of_testBit_eq
      intro i
      simp only [Nat.testBit_and, Nat.testBit_or, tb_cut, Nat.testBit_two_pow_sub_one, Nat.zero_testBit]
      cases hv : v.testBit i with
      | true => rw [sb.not hv]; simp
      | false =>
        by_cases hi : i < bl (l ^^^ m)
        · rw [decide_eq_false (show ¬ bl (l ^^^ m) ≤ i by omega)]; simp
        · rw [decide_eq_false hi]; simp
  · cases h
theorem nat_pow_cast (n : Nat) : ((2 ^ n : Nat) : Int) = (2 : Int) ^ n := by rw [Int.natCast_pow]; rfl
theorem once_some (sb : Sb n k.v k.u) (h : onceK n k = some k') :
    Done n k' ∧ k'.l = l1 n k ∧ k'.m = m1 n k ∧ k'.lo = lo1 n k ∧ k'.hi = hi1 n k ∧ bitsM k.v k.u (l1 n k).toNat (m1 n k).toNat = some (k'.v, k'.u) := by
  unfold onceK at h
  split at h
  · cases h
  · rename_i c
    cases hb : bitsM k.v k.u (l1 n k).toNat (m1 n k).toNat with
    | none => rw [hb] at h; cases h
    | some p =>
      rw [hb] at h
      have e := (Option.some.inj h).symm
      subst e
      have h1 := @l1_ge_v n k
      have h2 := @m1_le_v n k
      have h3 : (k.v ||| k.u) < 2 ^ n := Nat.or_lt_two_pow sb.v1 sb.u1
      have h4 := nat_pow_cast n
      obtain ⟨_, _, _, s⟩ := bitsM_some (a := p.1) (b := p.2) sb (by omega) hb
      exact ⟨⟨s, by show 0 ≤ l1 n k; omega, by show l1 n k ≤ m1 n k; omega, by show m1 n k < 2 ^ n; omega, by show lo1 n k ≤ hi1 n k; omega⟩, rfl, rfl, rfl, rfl, rfl⟩
def mu (k : Kn) : Nat := k.u + (k.m - k.l).toNat + (k.hi - k.lo).toNat
theorem once_dec (d : Done n k) (h : onceK n k = some k') (ne : k' ≠ k) : mu k' < mu k := by
  obtain ⟨d', e1, e2, e3, e4, hb⟩ := once_some d.sb h
  have h1 := @l1_ge n k
  have h2 := @m1_le n k
  have h3 := @lo1_ge n k
  have h4 := @hi1_le n k
  have hl : (l1 n k).toNat < 2 ^ n := by
    have a := d'.lm; have b := d'.m1; have c := d'.l0; have e := nat_pow_cast n
    rw [e1] at a c; omega
  obtain ⟨ag, ev, eu, _⟩ := bitsM_some d.sb hl hb
  generalize bl ((l1 n k).toNat ^^^ (m1 n k).toNat) = B at ag ev eu
  have hu : k'.u ≤ k.u := by rw [eu]; exact Nat.mod_le _ _
  have a1 := d.lm; have a2 := d.lh; have a3 := d'.lm; have a4 := d'.lh
  unfold mu
  by_cases q : k'.u = k.u
  · have hv : k'.v = k.v := by
      rw [ev, ← bits_val d.sb ag]
      apply Nat.eq_of_testBit_eq
      intro i
      simp only [Nat.testBit_or, tb_cut]
      by_cases hi : B ≤ i
      · have : k.u.testBit i = false := by rw [← q, eu, Nat.testBit_mod_two_pow, decide_eq_false (show ¬ i < B by omega)]; rfl
        rw [ag i hi this]; simp
      · rw [decide_eq_false hi]; simp
    have : k'.l ≠ k.l ∨ k'.m ≠ k.m ∨ k'.lo ≠ k.lo ∨ k'.hi ≠ k.hi := by
      refine Decidable.byContradiction fun z => ne ?_
      have : k'.l = k.l ∧ k'.m = k.m ∧ k'.lo = k.lo ∧ k'.hi = k.hi := by omega
      obtain ⟨b1, b2, b3, b4⟩ := this
      cases k'; cases k
      simp only at hv q b1 b2 b3 b4
      subst hv; subst q; subst b1; subst b2; subst b3; subst b4
      rfl
    omega
  · omega
/-- the rules done again and again till nothing turns -/
inductive Stl (n : Nat) : Kn → Option Kn → Prop
  | no {k : Kn} (h : onceK n k = none) : Stl n k none
  | fix {k : Kn} (h : onceK n k = some k) : Stl n k (some k)
  | go {k k' : Kn} {r : Option Kn} (h : onceK n k = some k') (ne : k' ≠ k) (t : Stl n k' r) : Stl n k r
theorem Stl.det {r r' : Option Kn} (h : Stl n k r) : Stl n k r' → r = r' := by
  induction h with
  | no h =>
    intro g
    cases g with
    | no _ => rfl
    | fix h' => rw [h] at h'; cases h'
    | go h' _ _ => rw [h] at h'; cases h'
  | fix h =>
    intro g
    cases g with
    | no h' => rw [h] at h'; cases h'
    | fix h' => rfl
    | go h' ne _ => rw [h] at h'; exact absurd (Option.some.inj h').symm ne
  | go h ne t ih =>
    intro g
    cases g with
    | no h' => rw [h] at h'; cases h'
    | fix h' => rw [h] at h'; exact absurd (Option.some.inj h') ne
    | go h' _ t' => rw [h] at h'; cases h'; exact ih t'
theorem Stl.ex (b : Nat) : ∀ k : Kn, Done n k → mu k < b → ∃ r, Stl n k r := by
  induction b with
  | zero => intro k _ h; omega
  | succ b ih =>
    intro k d hb
    cases h : onceK n k with
    | none => exact ⟨_, .no h⟩
    | some k' =>
      by_cases e : k' = k
      · subst e; exact ⟨_, .fix h⟩
      · have dec := once_dec d h e
        obtain ⟨r, t⟩ := ih k' (once_some d.sb h).1 (by omega)
        exact ⟨r, .go h e t⟩
theorem Stl.all (sb : Sb n k.v k.u) : ∃ r, Stl n k r := by
  cases h : onceK n k with
  | none => exact ⟨_, .no h⟩
  | some k' =>
    by_cases e : k' = k
    · subst e; exact ⟨_, .fix h⟩
    · obtain ⟨r, t⟩ := Stl.ex _ k' (once_some sb h).1 (Nat.lt_succ_self _)
      exact ⟨r, .go h e t⟩
open Classical in
noncomputable def settle (n : Nat) (k : Kn) : Option Kn := if h : ∃ r, Stl n k r then Classical.choose h else none
theorem settle_ok (sb : Sb n k.v k.u) : Stl n k (settle n k) := by
  have h := Stl.all sb
  unfold settle
  rw [dif_pos h]
  exact Classical.choose_spec h
theorem settle_eq {r : Option Kn} (h : Stl n k r) : settle n k = r := by
  have q : ∃ r, Stl n k r := ⟨r, h⟩
  unfold settle
  rw [dif_pos q]
  exact (Classical.choose_spec q).det h
/-- what comes of settling lies within, and is done -/
theorem Stl.inn {r : Option Kn} (h : Stl n k r) : Sb n k.v k.u → ∀ k', r = some k' → Done n k' ∧ k.lo ≤ k'.lo ∧ k'.hi ≤ k.hi ∧ k.l ≤ k'.l ∧ k'.m ≤ k.m ∧ onceK n k' = some k' := by
  induction h with
  | no h => intro sb k' e; cases e
  | fix h =>
    intro sb k' e
    cases e
    have q := once_some sb h
    exact ⟨q.1, Int.le_refl _, Int.le_refl _, Int.le_refl _, Int.le_refl _, h⟩
  | go h ne t ih =>
    intro sb k' e
    obtain ⟨d, e1, e2, e3, e4, _⟩ := once_some sb h
    obtain ⟨d', b1, b2, b3, b4, b5⟩ := ih d.sb k' e
    have g1 := @l1_ge n
    have g2 := @m1_le n
    have g3 := @lo1_ge n
    have g4 := @hi1_le n
    refine ⟨d', Int.le_trans g3 (e3 ▸ b1), Int.le_trans (e4 ▸ b2) g4, Int.le_trans g1 (e1 ▸ b3), Int.le_trans (e2 ▸ b4) g2, b5⟩
end
end Bg

set_option Elab.async false
set_option linter.all false
set_option maxRecDepth 100000
set_option maxHeartbeats 4000000
namespace Bg
open PySem PySem.Spec PyProof.Rows L2
/-! ### a call by keywords alone -/
section
variable {X : Cx} {CX : CXT} {k n : Nat} {f : Addr} {fd : FuncData} {ps ks : List Str} {sp : Sp} {E : XK} {x : Str} {p pos : Pos} {kws : List Keyword} {tk : TA} {g : List Value → List Value → List Value} {gV : List V → List V → List V}
theorem pe_callN0 (F : FnOk X.prog X.w X.K X.mg X.base CX k f fd ps sp) (hr : Room k X.A) (hg : Gl X x) (hm : X.mg x = some (.ref f)) (hk : PySem.W.keepIn X.K (.ref f) = true) (hb : KBn X.K fd ps 0 ks g gV) (hx : Passes CX X E)
    (hkw : PK X kws tk) (hall : (backToKw pos (keywordEach kws X.env)).all (·.1.isSome) = true := by rfl) (hks : (backToKw pos (keywordEach kws X.env)).filterMap (·.1) = ks := by rfl)
    (hdb : (x == ("__debug__" : Str)) = false := by decide)
    (hpl : ((backTo pos (starEach [] X.env)).any (·.1) || (backToKw pos (keywordEach kws X.env)).any (·.1.isNone)) = false := by rfl) :
    PE X (.Call (.Name x p) [] kws pos) (tCallN 0 ks.length sp gV E tNil tk) := by
  refine ⟨fun pins s σ H Q I h => ?_⟩
  refine wpAny_Call_Name_kw (ld_glob I hg hm ?_ hdb)
  refine PySem.W.callWith_KW0 (h₀ := X.base) I.ok.mod.kin hk hall (thn (hkw.run pos pins s σ H _ I h) fun ws s2 ⟨zs, H2, I2, rz, l1, l2, q2⟩ => ⟨I2.kIn, ?_⟩) hpl
  rw [hks]
  exact run_fnN F hr hb hx I2 (us := []) .nil rz l1 l2 q2
end
/-! ### readings -/
section
variable {σ : L2.St} {H : Hp} {Q : VK} {D : Ends} {te : TE} {K : PySem.W.Frag} {p a : Addr} {xs ys : List V} {n : Nat} {t : TGs} {R : L2.St → Hp → Prop}
theorem rd_while {c : TT} {tb : TS} (W : Nat → L2.St → Hp → Prop) (m : Nat) (h0 : W m σ H)
    (hs : ∀ m σ H, W m σ H → c σ H fun b H1 => if b = true then ∃ N : L2.St → Hp → Prop, (∀ σ' H', N σ' H' → ∃ m', m' < m ∧ W m' σ' H') ∧ tb { D with nx := N, ct := N, bk := D.nx } σ H1 else D.nx σ H1) : tWhile c tb D σ H := ⟨W, ⟨m, h0⟩, hs⟩
theorem rd_bitlen (q : te σ H fun x H1 => ∃ i, x = .int i ∧ Q (.int (Builtin.Int.intBits i : Nat)) H1) : tBits te σ H Q := q
theorem rd_unl (h : SqL K H a xs) (l : xs.length = n) (q : t xs σ H R) : gUnl K n t (.ref a) σ H R := ⟨a, xs, rfl, h, l, q⟩
theorem rd_catK {b : Addr} (h : SqT K H a xs) (h2 : SqT K H b ys) (n1 : xs ≠ []) (n2 : ys ≠ []) (z : xs.length + ys.length ≤ sizeLine) (q : NewAt H (.tup (xs ++ ys)) fun p H' => Q (.ref p) H') : rCatT K (.ref a) (.ref b) H Q :=
  ⟨a, b, xs, ys, rfl, rfl, h, h2, n1, z, fun e => absurd e n2, fun _ p np => new_at q p np⟩
theorem rd_max {ns : List Int} (h : SqL K H a (ns.map V.int)) (l : 0 < ns.length) (q : ∀ m, m ∈ ns → (∀ y, y ∈ ns → y ≤ m) → Q (.int m) H) : rMax K [.ref a] H Q := ⟨a, ns, rfl, h, l, q⟩
theorem rd_min {ns : List Int} (h : SqL K H a (ns.map V.int)) (l : 0 < ns.length) (q : ∀ m, m ∈ ns → (∀ y, y ∈ ns → m ≤ y) → Q (.int m) H) : rMin K [.ref a] H Q := ⟨a, ns, rfl, h, l, q⟩
/-- sorted of two -/
theorem rd_sort2 {x y : Int} (h : SqL K H a [.int x, .int y]) (q : ∀ c d, c ≤ d → ((c = x ∧ d = y) ∨ (c = y ∧ d = x)) → NewAt H (.lst [.int c, .int d]) fun p H' => Q (.ref p) H') : rSorted K [.ref a] H Q := by
  refine ⟨a, [x, y], rfl, h, by simp, fun ns p pm pw np => ?_⟩
  have hl := pm.length_eq
  match ns, hl with
  | [c, d], _ =>
    have h1 : c ≤ d := by simpa using pw
    have h2 : (c = x ∧ d = y) ∨ (c = y ∧ d = x) := by
      have m1 : c ∈ [x, y] := pm.subset (by simp)
      simp only [List.mem_cons, List.not_mem_nil, or_false] at m1
      rcases m1 with rfl | rfl
      · have := (List.perm_cons c).mp pm
        exact .inl ⟨rfl, by simpa using List.perm_singleton.mp this⟩
      · have e := (pm.trans (List.Perm.swap c x []))
        have := (List.perm_cons c).mp e
        exact .inr ⟨rfl, by simpa using List.perm_singleton.mp this⟩
    exact new_at (q c d h1 h2) p np
end
/-! ### tests for nothing -/
theorem rd_nn {A : Prop} (q : A) : V.non = V.non ∧ A := ⟨rfl, q⟩
theorem ite_rn {c : Addr} {A B : Prop} (q : B) : if decide (V.ref c = V.non) = true then A else B := by
  rw [decide_eq_false (fun z => by cases z)]; exact iteF q
theorem ite_rnn {c : Addr} {A B : Prop} (q : A) : if (!decide (V.ref c = V.non)) = true then A else B := by
  rw [decide_eq_false (fun z => by cases z)]; exact iteT q
theorem ite_vv {v : V} {A B : Prop} (q : A) : if decide (v = v) = true then A else B := by rw [decide_eq_true rfl]; exact iteT q
theorem ite_vvn {v : V} {A B : Prop} (q : B) : if (!decide (v = v)) = true then A else B := by rw [decide_eq_true rfl]; exact iteF q
/-! ### promises about known numbers -/
def kT (k : Kn) : List V := [.int k.v, .int k.u, .int k.l, .int k.m, .int k.lo, .int k.hi]
/-- what a turn, or settling, tells: nothing, or a new tuple -/
def OptAt (H : Hp) (r : Option Kn) (Q : VK) : Prop :=
  (r = none → ∀ H', Same H H' → Q .non H') ∧ (∀ k, r = some k → ∀ p H', H p = none → Same H H' → H' p = some (.tup (kT k)) → Q (.ref p) H')
theorem OptAt.same {H H1 : Hp} {r : Option Kn} {Q : VK} (s : Same H H1) (h : OptAt H r Q) : OptAt H1 r Q :=
  ⟨fun e H' s' => h.1 e H' (s.trans s'), fun k e p H' np s' hp => h.2 k e p H' (s.free np) (s.trans s') hp⟩
def spSgn : Sp := fun vs H Q _ => ∃ (x : Int) (n : Nat), vs = [.int x, .int n] ∧ 1 ≤ n ∧ n ≤ 32 ∧ Q (.int (sg n x)) H
def spPow1 (f : Nat → Int) : Sp := fun vs H Q _ => ∃ n : Nat, vs = [.int n] ∧ 1 ≤ n ∧ n ≤ 32 ∧ Q (.int (f n)) H
def spGreat : Sp := fun vs H Q _ => ∃ n : Nat, vs = [.int n] ∧ n ≤ 64 ∧ Q (.int (2 ^ n - 1)) H
def spMet (K : PySem.W.Frag) : Sp := fun vs H Q _ => ∃ (a b : Addr) (v1 u1 v2 u2 : Nat), vs = [.ref a, .ref b] ∧ SqT K H a [.int v1, .int u1] ∧ SqT K H b [.int v2, .int u2] ∧
  (meetB v1 u1 v2 u2 → NewAt H (.tup [.int (v1 ||| v2 : Nat), .int (u1 &&& u2 : Nat)]) fun p H' => Q (.ref p) H') ∧ (¬ meetB v1 u1 v2 u2 → Q .non H)
theorem dec_int {a b : Nat} : decide (V.int (a : Int) = V.int (b : Int)) = decide (a = b) := by
  by_cases h : a = b
  · subst h; simp
  · rw [decide_eq_false h, decide_eq_false (fun z => h (by have := V.int.inj z; omega))]
def spAlike : Sp := fun vs H Q _ => ∃ l m : Nat, vs = [.int l, .int m] ∧ l < 2 ^ 32 ∧ m < 2 ^ 32 ∧ NewAt H (.tup [.int (l / 2 ^ bl (l ^^^ m) * 2 ^ bl (l ^^^ m) : Nat), .int (2 ^ bl (l ^^^ m) - 1 : Nat)]) fun p H' => Q (.ref p) H'
def spEnds : Sp := fun vs H Q _ => ∃ (l m lo hi : Int) (n : Nat), vs = [.int l, .int m, .int lo, .int hi, .int n] ∧ 1 ≤ n ∧ n ≤ 32 ∧
  NewAt H (.tup [.int (endl n l (endL n l m lo) (endH n l m hi)), .int (endm n m (endL n l m lo) (endH n l m hi)), .int (endL n l m lo), .int (endH n l m hi)]) fun p H' => Q (.ref p) H'
def spLawSigned : Sp := fun vs H Q _ => ∃ (x : Int) (n : Nat), vs = [.int x, .int n] ∧ 1 ≤ n ∧ n ≤ 32 ∧ 0 ≤ x ∧ x < 2 ^ n ∧ Q (.int (sg n x)) H
def spOnce (K : PySem.W.Frag) : Sp := fun vs H Q _ => ∃ (t : Addr) (k : Kn) (n : Nat), vs = [.ref t, .int n] ∧ SqT K H t (kT k) ∧ 1 ≤ n ∧ n ≤ 32 ∧ Sb n k.v k.u ∧ OptAt H (onceK n k) Q
def spSettled (K : PySem.W.Frag) : Sp := fun vs H Q _ => ∃ (t : Addr) (k : Kn) (n : Nat), vs = [.ref t, .int n] ∧ SqT K H t (kT k) ∧ 1 ≤ n ∧ n ≤ 32 ∧ Sb n k.v k.u ∧ OptAt H (settle n k) Q
def allK (n : Nat) : Kn := ⟨0, 2 ^ n - 1, 0, 2 ^ n - 1, -(2 ^ (n - 1)), 2 ^ (n - 1) - 1⟩
def justK (n : Nat) (x : Int) : Kn := ⟨x.toNat, 0, x, x, sg n x, sg n x⟩
def spanK (n : Nat) (l m : Int) : Kn := ⟨0, 2 ^ n - 1, l, m, -(2 ^ (n - 1)), 2 ^ (n - 1) - 1⟩
def spAllOf : Sp := fun vs H Q _ => ∃ n : Nat, vs = [.int n] ∧ 1 ≤ n ∧ n ≤ 32 ∧ NewAt H (.tup (kT (allK n))) fun p H' => Q (.ref p) H'
def spJust : Sp := fun vs H Q _ => ∃ (x : Int) (n : Nat), vs = [.int x, .int n] ∧ 1 ≤ n ∧ n ≤ 32 ∧ 0 ≤ x ∧ NewAt H (.tup (kT (justK n x))) fun p H' => Q (.ref p) H'
def spSpan : Sp := fun vs H Q _ => ∃ (l m : Int) (n : Nat), vs = [.int l, .int m, .int n] ∧ 1 ≤ n ∧ n ≤ 32 ∧ OptAt H (settle n (spanK n l m)) Q
theorem sb_top (n : Nat) : Sb n 0 (2 ^ n - 1) := ⟨Nat.two_pow_pos n, by have := Nat.two_pow_pos n; omega, Nat.zero_and _⟩
theorem bl_le32 {l m : Nat} (h1 : l < 2 ^ 32) (h2 : m < 2 ^ 32) : bl (l ^^^ m) ≤ 32 := bl_le.mpr (Nat.xor_lt_two_pow h1 h2)
/-- a turn, by its parts -/
theorem onceK_eq {n : Nat} {k : Kn} {H : Hp} {Q : VK} (sb : Sb n k.v k.u) (q : OptAt H (onceK n k) Q) :
    (m1 n k < l1 n k ∨ hi1 n k < lo1 n k → ∀ H', Same H H' → Q .non H') ∧
    (¬ (m1 n k < l1 n k ∨ hi1 n k < lo1 n k) → ∃ l m : Nat, l1 n k = (l : Int) ∧ m1 n k = (m : Int) ∧ l < 2 ^ n ∧ m < 2 ^ n ∧ l ≤ m ∧
      (bitsM k.v k.u l m = none → ∀ H', Same H H' → Q .non H') ∧
      ∀ a b, bitsM k.v k.u l m = some (a, b) → ∀ p H', H p = none → Same H H' → H' p = some (.tup [.int a, .int b, .int (l1 n k), .int (m1 n k), .int (lo1 n k), .int (hi1 n k)]) → Q (.ref p) H') := by
  constructor
  · intro c
    exact q.1 (by unfold onceK; rw [if_pos c])
  · intro c
    have h1 := @l1_ge_v n k
    have h2 := @m1_le_v n k
    have h3 : (k.v ||| k.u) < 2 ^ n := Nat.or_lt_two_pow sb.v1 sb.u1
    refine ⟨(l1 n k).toNat, (m1 n k).toNat, by omega, by omega, by omega, by omega, by omega, fun e => q.1 ?_, fun a b e => q.2 ⟨a, b, l1 n k, m1 n k, lo1 n k, hi1 n k⟩ ?_⟩
    · unfold onceK; rw [if_neg c, e]
    · unfold onceK; rw [if_neg c, e]
theorem pow32 {n : Nat} (h : n ≤ 32) : (2 : Int) ^ n ≤ 4294967296 := by
  have h1 : 2 ^ n ≤ 2 ^ 32 := Nat.pow_le_pow_right (by decide) h
  have := nat_pow_cast n
  omega
theorem powN32 {n : Nat} (h : n ≤ 32) : 2 ^ n ≤ 4294967296 := Nat.pow_le_pow_right (n := 2) (by decide) h
theorem to1 {n : Nat} (h : 1 ≤ n) : ((n : Int) - 1).toNat = n - 1 := by omega
theorem pow_half {n : Nat} (h : 1 ≤ n) : (2 : Int) ^ n = 2 * 2 ^ (n - 1) := by
  obtain ⟨m, rfl⟩ : ∃ m, n = m + 1 := ⟨n - 1, by omega⟩
  rw [Int.pow_succ, Nat.add_sub_cancel]; omega
theorem dp_kT {K : PySem.W.Frag} {H : Hp} {p : Addr} {k : Kn} (h : SqT K H p (kT k)) : Dp K H (.ref p) (.tuple [.int k.v, .int k.u, .int k.l, .int k.m, .int k.lo, .int k.hi]) :=
  .tup h (.cons (.int _) (.cons (.int _) (.cons (.int _) (.cons (.int _) (.cons (.int _) (.cons (.int _) .nil))))))
theorem eqv_kn {k k' : Kn} : PyData.eqv (.tuple [.int k.v, .int k.u, .int k.l, .int k.m, .int k.lo, .int k.hi]) (.tuple [.int k'.v, .int k'.u, .int k'.l, .int k'.m, .int k'.lo, .int k'.hi]) = decide (k = k') := by
  by_cases e : k = k'
  · subst e
    rw [decide_eq_true rfl]
    simp [PyData.eqv, PyData.eqvAll]
  · rw [decide_eq_false e]
    cases h : PyData.eqv (.tuple [.int k.v, .int k.u, .int k.l, .int k.m, .int k.lo, .int k.hi]) (.tuple [.int k'.v, .int k'.u, .int k'.l, .int k'.m, .int k'.lo, .int k'.hi]) with
    | false => rfl
    | true =>
      exfalso
      apply e
      simp [PyData.eqv, PyData.eqvAll] at h
      cases k; cases k'
      simp at h ⊢
      omega
end Bg

set_option Elab.async false
set_option linter.all false
set_option maxRecDepth 100000
set_option maxHeartbeats 4000000
namespace Bg
open PySem PySem.Spec PyProof.Rows L2
/-! ### the laws' own going down the bits that least and most have alike -/
def vAt (v l j : Nat) : Nat := l / 2 ^ j * 2 ^ j + v % 2 ^ j
theorem mod_succ (x i : Nat) : x % 2 ^ (i + 1) = x % 2 ^ i + x / 2 ^ i % 2 * 2 ^ i := by
  rw [Nat.mod_pow_succ, Nat.mul_comm]
theorem div_succ_nat (x i : Nat) : x / 2 ^ i = 2 * (x / 2 ^ (i + 1)) + x / 2 ^ i % 2 := by
  have : x / 2 ^ (i + 1) = x / 2 ^ i / 2 := by rw [Nat.pow_succ, Nat.div_div_eq_div_mul]
  omega
theorem cut_succ (l i : Nat) : l / 2 ^ i * 2 ^ i = l / 2 ^ (i + 1) * 2 ^ (i + 1) + l / 2 ^ i % 2 * 2 ^ i := by
  conv => lhs; rw [div_succ_nat l i]
  rw [Nat.add_mul, Nat.pow_succ, Nat.mul_comm 2 (l / _), Nat.mul_assoc, Nat.mul_comm 2 (2 ^ i)]
theorem bit_u (u i : Nat) : u % 2 ^ (i + 1) / 2 ^ i % 2 = u / 2 ^ i % 2 := by
  rw [mod_succ, Nat.add_mul_div_right _ _ (Nat.two_pow_pos i), Nat.div_eq_of_lt (Nat.mod_lt _ (Nat.two_pow_pos i))]
  omega
theorem bit_v (v l i : Nat) : vAt v l (i + 1) / 2 ^ i % 2 = v / 2 ^ i % 2 := by
  unfold vAt
  rw [mod_succ, Nat.pow_succ, show l / (2 ^ i * 2) * (2 ^ i * 2) + (v % 2 ^ i + v / 2 ^ i % 2 * 2 ^ i) = v % 2 ^ i + (l / (2 ^ i * 2) * 2 + v / 2 ^ i % 2) * 2 ^ i by
    rw [Nat.add_mul, Nat.mul_assoc (l / _), Nat.mul_comm 2 (2 ^ i)]; omega]
  rw [Nat.add_mul_div_right _ _ (Nat.two_pow_pos i), Nat.div_eq_of_lt (Nat.mod_lt _ (Nat.two_pow_pos i))]
  omega
theorem tb_mod {x i : Nat} : (x.testBit i = true ↔ x / 2 ^ i % 2 = 1) := by rw [Nat.testBit_eq_decide_div_mod_eq, decide_eq_true_eq]
theorem tb_mod0 {x i : Nat} : (x.testBit i = false ↔ x / 2 ^ i % 2 = 0) := by
  rw [Nat.testBit_eq_decide_div_mod_eq, decide_eq_false_iff_not]; omega
/-- an unsure bit becomes sure -/
theorem turn_unsure {n v u l i : Nat} (sb : Sb n v u) (h : u / 2 ^ i % 2 = 1) : u % 2 ^ (i + 1) = u % 2 ^ i + 2 ^ i ∧ vAt v l i = vAt v l (i + 1) + l / 2 ^ i % 2 * 2 ^ i := by
  constructor
  · rw [mod_succ, h]; omega
  · have hv : v / 2 ^ i % 2 = 0 := by
      rw [← tb_mod0]
      cases e : v.testBit i with
      | false => rfl
      | true => have := sb.not e; rw [tb_mod0] at this; omega
    unfold vAt
    rw [cut_succ l i, mod_succ v, hv]
    omega
theorem turn_sure {v u l i : Nat} (h : u / 2 ^ i % 2 = 0) (e : v / 2 ^ i % 2 = l / 2 ^ i % 2) : u % 2 ^ (i + 1) = u % 2 ^ i ∧ vAt v l i = vAt v l (i + 1) := by
  constructor
  · rw [mod_succ, h]; omega
  · unfold vAt
    rw [cut_succ l i, mod_succ v, e]
    omega
theorem agree_down {v u l i : Nat} (a : Agree (i + 1) v u l) (h : u / 2 ^ i % 2 = 1 ∨ v / 2 ^ i % 2 = l / 2 ^ i % 2) : Agree i v u l := by
  intro k hk hu
  by_cases e : k = i
  · subst e
    rw [tb_mod0] at hu
    rcases h with h | h
    · omega
    · rw [Nat.testBit_eq_decide_div_mod_eq, Nat.testBit_eq_decide_div_mod_eq, h]
  · exact a k (by omega) hu
theorem agree_not {v u l i : Nat} (h : u / 2 ^ i % 2 = 0) (e : v / 2 ^ i % 2 ≠ l / 2 ^ i % 2) {B : Nat} (hb : B ≤ i) : ¬ Agree B v u l := by
  intro a
  have := a i hb (tb_mod0.mpr h)
  rw [Nat.testBit_eq_decide_div_mod_eq, Nat.testBit_eq_decide_div_mod_eq] at this
  by_cases c : v / 2 ^ i % 2 = 1 <;> by_cases d : l / 2 ^ i % 2 = 1
  · omega
  · rw [decide_eq_true c, decide_eq_false d] at this; cases this
  · rw [decide_eq_false c, decide_eq_true d] at this; cases this
  · omega
theorem bitsM_at {n v u l m : Nat} (sb : Sb n v u) (a : Agree (bl (l ^^^ m)) v u l) : bitsM v u l m = some (vAt v l (bl (l ^^^ m)), u % 2 ^ bl (l ^^^ m)) := by
  unfold bitsM
  rw [if_pos (agree_iff.mpr a), bits_uns, bits_val sb a]
  rfl
theorem bitsM_no {v u l m : Nat} (a : ¬ Agree (bl (l ^^^ m)) v u l) : bitsM v u l m = none := by
  unfold bitsM
  rw [if_neg (fun z => a (agree_iff.mp z))]
theorem div_cast (x i : Nat) : (x : Int) / 2 ^ i = ((x / 2 ^ i : Nat) : Int) := by rw [Int.natCast_ediv, nat_pow_cast]
theorem and1_cast (x : Nat) : Builtin.bitAnd (x : Int) 1 = ((x % 2 : Nat) : Int) := by rw [PyProof.Rows.bitAnd_m1, Int.natCast_emod]; rfl
theorem dec_I {a b : Int} : decide (V.int a = V.int b) = decide (a = b) := by
  by_cases h : a = b
  · subst h; simp
  · rw [decide_eq_false h, decide_eq_false (fun z => h (V.int.inj z))]
theorem or_plus {n v u : Nat} (sb : Sb n v u) : v ||| u = v + u := by have := nat_or_add_and v u; rw [sb.vu] at this; omega
end Bg

set_option Elab.async false
set_option linter.all false
set_option maxRecDepth 100000
set_option maxHeartbeats 4000000
namespace Bg
open PySem PySem.Spec PyProof.Rows L2
/-! ### what settling tells, as a value -/
def kD (k : Kn) : PyData := .tuple [.int k.v, .int k.u, .int k.l, .int k.m, .int k.lo, .int k.hi]
def oD : Option Kn → PyData
  | none => .none
  | some k => kD k
inductive OptV (K : PySem.W.Frag) (H : Hp) : V → Option Kn → Prop
  | no : OptV K H .non none
  | yes {p : Addr} {k : Kn} (h : SqT K H p (kT k)) : OptV K H (.ref p) (some k)
section
variable {K : PySem.W.Frag} {H H' : Hp} {x : V} {r : Option Kn} {Q : VK}
theorem OptV.same (s : Same H H') (h : OptV K H x r) : OptV K H' x r := by
  cases h with
  | no => exact .no
  | yes h => exact .yes (sqT_same s h)
theorem optAt_of (h : ∀ x H', Same H H' → OptV K H' x r → Q x H') : OptAt H r Q :=
  ⟨fun e H' s => h _ H' s (by rw [e]; exact .no), fun k e p H' np s hp => h _ H' s (by rw [e]; exact .yes (SqT.of hp))⟩
theorem OptV.dp (h : OptV K H x r) : Dp K H x (oD r) := by
  cases h with
  | no => exact .non
  | yes h => exact dp_kT h
theorem oD_shaped : SeqAt.shaped (oD r) = true := by
  cases r with
  | none => rfl
  | some k => rfl
/-- ends within ten thousand bits -/
def Bd (r : Option Kn) : Prop := ∀ k, r = some k → k.v < 2 ^ 32 ∧ k.u < 2 ^ 32 ∧ k.l.natAbs < 2 ^ 40 ∧ k.m.natAbs < 2 ^ 40 ∧ k.lo.natAbs < 2 ^ 40 ∧ k.hi.natAbs < 2 ^ 40
theorem nat1000 {a : Nat} (h : a < 2 ^ 40) : a < 2 ^ 1000 := Nat.lt_trans h (by decide +kernel)
theorem sh_kD {k : Kn} (h : k.v < 2 ^ 32 ∧ k.u < 2 ^ 32 ∧ k.l.natAbs < 2 ^ 40 ∧ k.m.natAbs < 2 ^ 40 ∧ k.lo.natAbs < 2 ^ 40 ∧ k.hi.natAbs < 2 ^ 40) : Sh 50 1000000 (kD k) := by
  obtain ⟨a, b, c, d, e, f⟩ := h
  have a' : ((k.v : Int)).natAbs < 2 ^ 40 := by omega
  have b' : ((k.u : Int)).natAbs < 2 ^ 40 := by omega
  exact (ShAll.tup (k := 0) (n := 1001 + 2 + (1001 + 2 + (1001 + 2 + (1001 + 2 + (1001 + 2 + (1001 + 2 + 0)))))) (.cons (Sh.int (nat1000 a')) (.cons (Sh.int (nat1000 b')) (.cons (Sh.int (nat1000 c)) (.cons (Sh.int (nat1000 d)) (.cons (Sh.int (nat1000 e)) (.cons (Sh.int (nat1000 f)) .nil))))))).mono (by decide) (by decide)
theorem OptV.rp (h : OptV K H x r) (b : Bd r) : Rp K H x (oD r).shown := by
  cases h with
  | no => exact .dat .non (Sh.non.mono (by decide) (by decide))
  | yes h => exact .dat (dp_kT h) (sh_kD (b _ rfl))
theorem rp_kT {p : Addr} {k : Kn} (h : SqT K H p (kT k)) (b : Bd (some k)) : Rp K H (.ref p) (kD k).shown := .dat (dp_kT h) (sh_kD (b _ rfl))
end
/-- a known number of the width, perhaps with ends one step beyond -/
structure Kw (n : Nat) (k : Kn) : Prop where
  sb : Sb n k.v k.u
  l0 : -1 ≤ k.l
  l1 : k.l ≤ 2 ^ n
  m0 : -1 ≤ k.m
  m1 : k.m ≤ 2 ^ n
  a0 : -(2 ^ n) ≤ k.lo
  a1 : k.lo ≤ 2 ^ n
  b0 : -(2 ^ n) ≤ k.hi
  b1 : k.hi ≤ 2 ^ n
theorem Kw.bd {n : Nat} {k : Kn} (h : Kw n k) (hn : n ≤ 32) : Bd (some k) := by
  intro k' e
  cases e
  have p := pow32 hn
  have p1 := powN32 hn
  have := h.sb.v1; have := h.sb.u1; have := h.l0; have := h.l1; have := h.m0; have := h.m1; have := h.a0; have := h.a1; have := h.b0; have := h.b1
  refine ⟨by omega, by omega, by omega, by omega, by omega, by omega⟩
theorem Kw.settle {n : Nat} {k : Kn} (h : Kw n k) (hn : n ≤ 32) : Bd (settle n k) := by
  intro k' e
  obtain ⟨d, a, b, _⟩ := (settle_ok h.sb).inn h.sb k' e
  have p := pow32 hn
  have p1 := powN32 hn
  have := d.sb.v1; have := d.sb.u1; have := d.l0; have := d.lm; have := d.m1; have := d.lh; have := h.a0; have := h.a1; have := h.b0; have := h.b1
  refine ⟨by omega, by omega, by omega, by omega, by omega, by omega⟩
theorem pow_le_half {n : Nat} (h : 1 ≤ n) : (2 : Int) ^ (n - 1) ≤ 2 ^ n := by have := pow_half h; have := pow_pos2 (n - 1); omega
theorem kw_span {n : Nat} {l m : Int} (h : 1 ≤ n) (l0 : -1 ≤ l) (l1 : l ≤ 2 ^ n) (m0 : -1 ≤ m) (m1 : m ≤ 2 ^ n) : Kw n (spanK n l m) := by
  have := pow_le_half h
  have := pow_pos2 (n - 1)
  exact ⟨sb_top n, l0, l1, m0, m1, by show -(2 ^ n) ≤ -(2 ^ (n - 1)); omega, by show -(2 ^ (n - 1)) ≤ 2 ^ n; omega, by show -(2 ^ n) ≤ 2 ^ (n - 1) - 1; omega, by show 2 ^ (n - 1) - 1 ≤ 2 ^ n; omega⟩
theorem kw_all {n : Nat} (h : 1 ≤ n) : Kw n (allK n) := kw_span h (by omega) (by have := pow_pos2 n; omega) (by have := pow_pos2 n; omega) (by omega)
/-! ### worths with sign -/
theorem hf01 {n : Nat} {x : Int} (h1 : 1 ≤ n) (x0 : 0 ≤ x) (x1 : x < 2 ^ n) : (hf n x = 0 ∧ x < 2 ^ (n - 1)) ∨ (hf n x = 1 ∧ 2 ^ (n - 1) ≤ x) := by
  have e := pow_half h1
  have p := pow_pos2 (n - 1)
  unfold hf
  by_cases c : x < 2 ^ (n - 1)
  · exact .inl ⟨Int.ediv_eq_zero_of_lt x0 c, c⟩
  · refine .inr ⟨?_, by omega⟩
    have : x / 2 ^ (n - 1) = (x - 2 ^ (n - 1)) / 2 ^ (n - 1) + 1 := by
      have := Int.add_ediv_of_dvd_right (a := x - 2 ^ (n - 1)) (b := 2 ^ (n - 1)) (c := 2 ^ (n - 1)) (Int.dvd_refl _)
      rw [Int.sub_add_cancel, Int.ediv_self (by omega)] at this
      exact this
    rw [this, Int.ediv_eq_zero_of_lt (by omega) (by omega)]
    rfl
theorem sgn_cases {n : Nat} {x : Int} (h1 : 1 ≤ n) (x0 : 0 ≤ x) (x1 : x < 2 ^ n) : (sg n x = x ∧ x < 2 ^ (n - 1)) ∨ (sg n x = x - 2 ^ n ∧ 2 ^ (n - 1) ≤ x) := by
  unfold sg
  rcases hf01 h1 x0 x1 with ⟨a, b⟩ | ⟨a, b⟩
  · exact .inl ⟨if_pos a, b⟩
  · exact .inr ⟨if_neg (by omega), b⟩
theorem sgn_bd {n : Nat} {x : Int} (h1 : 1 ≤ n) (x0 : 0 ≤ x) (x1 : x < 2 ^ n) : -(2 ^ (n - 1)) ≤ sg n x ∧ sg n x ≤ 2 ^ (n - 1) - 1 := by
  have e := pow_half h1
  rcases sgn_cases h1 x0 x1 with ⟨a, b⟩ | ⟨a, b⟩ <;> omega
theorem sgn_mod {n : Nat} {x : Int} (h1 : 1 ≤ n) (x0 : 0 ≤ x) (x1 : x < 2 ^ n) : sg n x % 2 ^ n = x := by
  rcases sgn_cases h1 x0 x1 with ⟨a, b⟩ | ⟨a, b⟩
  · rw [a]; exact Int.emod_eq_of_lt x0 x1
  · rw [a, Int.sub_emod_right]; exact Int.emod_eq_of_lt x0 x1
theorem kw_just {n : Nat} {x : Int} (h1 : 1 ≤ n) (x0 : 0 ≤ x) (x1 : x < 2 ^ n) : Kw n (justK n x) := by
  have e := pow_le_half h1
  have s := sgn_bd h1 x0 x1
  have pc := nat_pow_cast n
  refine ⟨⟨by show x.toNat < 2 ^ n; omega, Nat.two_pow_pos n, Nat.and_zero _⟩, ?_, ?_, ?_, ?_, ?_, ?_, ?_, ?_⟩ <;> (first | (show (-1 : Int) ≤ x; omega) | (show x ≤ (2 : Int) ^ n; omega) | (show -((2 : Int) ^ n) ≤ sg n x; omega) | (show sg n x ≤ (2 : Int) ^ n; omega))
theorem mx_self (x : Int) : mx x x = x := by unfold mx; split <;> rfl
theorem mn_self (x : Int) : mn x x = x := by unfold mn; split <;> rfl
theorem mx_eq_r {i j : Int} (h : i ≤ j) : mx i j = j := by unfold mx; split <;> omega
theorem mx_eq_l {i j : Int} (h : j ≤ i) : mx i j = i := by unfold mx; split <;> omega
theorem mn_eq_r {i j : Int} (h : j ≤ i) : mn i j = j := by unfold mn; split <;> omega
theorem mn_eq_l {i j : Int} (h : i ≤ j) : mn i j = i := by unfold mn; split <;> omega
/-- a turn where both ends are one worth -/
theorem once_one {n : Nat} {k : Kn} {x : Nat} (h1 : 1 ≤ n) (x1 : x < 2 ^ n) (sb : Sb n k.v k.u) (hl : mx k.l k.v = x) (hm : mn k.m ((k.v ||| k.u : Nat) : Int) = x) (ha : k.lo ≤ sg n x) (hb : sg n x ≤ k.hi)
    (ag : Agree 0 k.v k.u x) : onceK n k = some (justK n x) := by
  have pc := nat_pow_cast n
  have e1 : lo1 n k = sg n x := by unfold lo1 endL; rw [hl, hm, if_pos rfl, mx_eq_r ha]
  have e2 : hi1 n k = sg n x := by unfold hi1 endH; rw [hl, hm, if_pos rfl, mn_eq_r hb]
  have sm : sg n (x : Int) % 2 ^ n = x := sgn_mod h1 (by omega) (by omega)
  have e3 : l1 n k = x := by unfold l1 endl; rw [e1, e2, if_pos rfl, hl, sm, mx_self]
  have e4 : m1 n k = x := by unfold m1 endm; rw [e1, e2, if_pos rfl, hm, sm, mn_self]
  unfold onceK
  rw [e1, e2, e3, e4, if_neg (by omega), Int.toNat_natCast]
  have b0 : bl (x ^^^ x) = 0 := by rw [Nat.xor_self]; rfl
  rw [bitsM_at sb (by rw [b0]; exact ag), b0]
  unfold justK vAt
  simp [Nat.mod_one]
theorem settle_just {n : Nat} {x : Nat} (h1 : 1 ≤ n) (x1 : x < 2 ^ n) : settle n (spanK n x x) = some (justK n x) := by
  have pc := nat_pow_cast n
  have s := sgn_bd (n := n) (x := x) h1 (by omega) (by omega)
  have p2 := two_le h1
  apply settle_eq
  have o1 : onceK n (spanK n x x) = some (justK n x) := by
    refine once_one h1 x1 (sb_top n) (mx_eq_l (by show ((0 : Nat) : Int) ≤ x; omega)) (mn_eq_l ?_) s.1 s.2 ?_
    · show (x : Int) ≤ ((0 ||| (2 ^ n - 1) : Nat) : Int)
      rw [Nat.zero_or]; omega
    · intro i _ hi
      show (0 : Nat).testBit i = x.testBit i
      have hu : (2 ^ n - 1).testBit i = false := hi
      rw [Nat.testBit_two_pow_sub_one, decide_eq_false_iff_not] at hu
      rw [Nat.zero_testBit, Nat.testBit_lt_two_pow (Nat.lt_of_lt_of_le x1 (Nat.pow_le_pow_right (by decide) (by omega)))]
  refine .go o1 (fun e => ?_) (.fix ?_)
  · have : (0 : Nat) = 2 ^ n - 1 := congrArg Kn.u e
    omega
  · refine once_one h1 x1 ⟨by show ((x : Int)).toNat < 2 ^ n; omega, Nat.two_pow_pos n, Nat.and_zero _⟩ ?_ ?_ (Int.le_refl _) (Int.le_refl _) (fun i _ _ => ?_)
    · show mx (x : Int) (((x : Int)).toNat : Int) = x
      rw [Int.toNat_natCast, mx_self]
    · show mn (x : Int) (((((x : Int)).toNat ||| 0) : Nat) : Int) = x
      rw [Int.toNat_natCast, Nat.or_zero, mn_self]
    · show (((x : Int)).toNat).testBit i = x.testBit i
      rw [Int.toNat_natCast]
end Bg

set_option Elab.async false
set_option linter.all false
set_option maxRecDepth 100000
set_option maxHeartbeats 4000000
namespace Bg
open PySem PySem.Spec PyProof.Rows L2
def topS (i : Nat) : Stmt := PySem.Challenge.pw_boundgate_k15_known_numbers_made.main.body.getD i (.Pass ⟨0, 0, 0, 0⟩)
abbrev s_greatest : Stmt := topS 2
theorem sc_greatest : FnScope ["wide"] ["wide"] (defScope s_greatest) := ⟨rfl, rfl, rfl, by decide +kernel, rfl, by decide +kernel, by decide +kernel⟩
abbrev s_signed : Stmt := topS 3
theorem sc_signed : FnScope ["worth", "wide"] ["worth", "wide"] (defScope s_signed) := ⟨rfl, rfl, rfl, by decide +kernel, rfl, by decide +kernel, by decide +kernel⟩
abbrev s_met_bits : Stmt := topS 5
theorem sc_met_bits : FnScope ["one", "other", "unsure"] ["one", "other"] (defScope s_met_bits) := ⟨rfl, rfl, rfl, by decide +kernel, rfl, by decide +kernel, by decide +kernel⟩
abbrev s_lowest_signed : Stmt := topS 7
theorem sc_lowest_signed : FnScope ["wide"] ["wide"] (defScope s_lowest_signed) := ⟨rfl, rfl, rfl, by decide +kernel, rfl, by decide +kernel, by decide +kernel⟩
abbrev s_highest_signed : Stmt := topS 8
theorem sc_highest_signed : FnScope ["wide"] ["wide"] (defScope s_highest_signed) := ⟨rfl, rfl, rfl, by decide +kernel, rfl, by decide +kernel, by decide +kernel⟩
abbrev s_alike_bits : Stmt := topS 9
theorem sc_alike_bits : FnScope ["least", "most", "unsure"] ["least", "most"] (defScope s_alike_bits) := ⟨rfl, rfl, rfl, by decide +kernel, rfl, by decide +kernel, by decide +kernel⟩
abbrev s_settled_ends : Stmt := topS 10
theorem sc_settled_ends : FnScope ["least", "most", "low", "high", "wide"] ["least", "most", "low", "high", "wide"] (defScope s_settled_ends) := ⟨rfl, rfl, rfl, by decide +kernel, rfl, by decide +kernel, by decide +kernel⟩
abbrev s_settled_once : Stmt := topS 11
theorem sc_settled_once : FnScope ["known", "wide", "value", "unsure", "least", "most", "low", "high", "ends", "bits"] ["known", "wide"] (defScope s_settled_once) := ⟨rfl, rfl, rfl, by decide +kernel, rfl, by decide +kernel, by decide +kernel⟩
abbrev s_settled : Stmt := topS 12
theorem sc_settled : FnScope ["known", "wide", "ahead", "turned"] ["known", "wide"] (defScope s_settled) := ⟨rfl, rfl, rfl, by decide +kernel, rfl, by decide +kernel, by decide +kernel⟩
abbrev s_all_of : Stmt := topS 13
theorem sc_all_of : FnScope ["wide"] ["wide"] (defScope s_all_of) := ⟨rfl, rfl, rfl, by decide +kernel, rfl, by decide +kernel, by decide +kernel⟩
abbrev s_just : Stmt := topS 14
theorem sc_just : FnScope ["worth", "wide", "with_sign"] ["worth", "wide"] (defScope s_just) := ⟨rfl, rfl, rfl, by decide +kernel, rfl, by decide +kernel, by decide +kernel⟩
abbrev s_span : Stmt := topS 15
theorem sc_span : FnScope ["least", "most", "wide"] ["least", "most", "wide"] (defScope s_span) := ⟨rfl, rfl, rfl, by decide +kernel, rfl, by decide +kernel, by decide +kernel⟩
abbrev s_pool : Stmt := topS 17
theorem sc_pool : FnScope ["_law_script", "_law_k", "_law_cell", "_law_size", "_law_mixed"] ["_law_script", "_law_k"] (defScope s_pool) := ⟨rfl, rfl, rfl, by decide +kernel, rfl, by decide +kernel, by decide +kernel⟩
abbrev s_take : Stmt := topS 18
theorem sc_take : FnScope ["_law_pool_here", "_law_many", "_law_found"] ["_law_pool_here", "_law_many"] (defScope s_take) := ⟨rfl, rfl, rfl, by decide +kernel, rfl, by decide +kernel, by decide +kernel⟩
abbrev s_top : Stmt := topS 19
theorem sc_top : FnScope ["_law_size"] ["_law_size"] (defScope s_top) := ⟨rfl, rfl, rfl, by decide +kernel, rfl, by decide +kernel, by decide +kernel⟩
abbrev s_l_signed : Stmt := topS 20
theorem sc_l_signed : FnScope ["_law_worth", "_law_size"] ["_law_worth", "_law_size"] (defScope s_l_signed) := ⟨rfl, rfl, rfl, by decide +kernel, rfl, by decide +kernel, by decide +kernel⟩
abbrev s_turn : Stmt := topS 22
theorem sc_turn : FnScope ["_law_known", "_law_size", "_law_value", "_law_unsure", "_law_least", "_law_most", "_law_low", "_law_high", "_law_at", "_law_sign"] ["_law_known", "_law_size"] (defScope s_turn) := ⟨rfl, rfl, rfl, by decide +kernel, rfl, by decide +kernel, by decide +kernel⟩
abbrev s_l_settled : Stmt := topS 23
theorem sc_l_settled : FnScope ["_law_known", "_law_size", "_law_later"] ["_law_known", "_law_size"] (defScope s_l_settled) := ⟨rfl, rfl, rfl, by decide +kernel, rfl, by decide +kernel, by decide +kernel⟩
abbrev s_law : Stmt := topS 24
theorem sc_law : FnScope ["_law_script", "_law_k", "_law_pool_here", "_law_size", "_law_top_here", "_law_half", "_law_some", "_law_ends", "_law_least", "_law_most", "_law_due", "_law_sign"] ["_law_script"] (defScope s_law) := ⟨rfl, rfl, rfl, by decide +kernel, rfl, by decide +kernel, by decide +kernel⟩
structure Txt (K : PySem.W.Frag) (mg : Str → Option Value) where
  a_greatest : Addr
  fd_greatest : FuncData
  F_greatest : Fun K "greatest" "greatest" s_greatest a_greatest fd_greatest
  g_greatest : mg "greatest" = some (.ref a_greatest)
  b_greatest : Binds K fd_greatest ["wide"] []
  a_signed : Addr
  fd_signed : FuncData
  F_signed : Fun K "signed" "signed" s_signed a_signed fd_signed
  g_signed : mg "signed" = some (.ref a_signed)
  d_signed : List Value
  v_signed : Vals [.int 16] d_signed
  b_signed : Binds K fd_signed ["worth", "wide"] d_signed
  k_signed : KBn K fd_signed ["worth", "wide"] 1 ["wide"] (fun us ws => us ++ ws) (fun vs zs => vs ++ zs)
  a_met_bits : Addr
  fd_met_bits : FuncData
  F_met_bits : Fun K "met_bits" "met_bits" s_met_bits a_met_bits fd_met_bits
  g_met_bits : mg "met_bits" = some (.ref a_met_bits)
  b_met_bits : Binds K fd_met_bits ["one", "other"] []
  a_lowest_signed : Addr
  fd_lowest_signed : FuncData
  F_lowest_signed : Fun K "lowest_signed" "lowest_signed" s_lowest_signed a_lowest_signed fd_lowest_signed
  g_lowest_signed : mg "lowest_signed" = some (.ref a_lowest_signed)
  b_lowest_signed : Binds K fd_lowest_signed ["wide"] []
  a_highest_signed : Addr
  fd_highest_signed : FuncData
  F_highest_signed : Fun K "highest_signed" "highest_signed" s_highest_signed a_highest_signed fd_highest_signed
  g_highest_signed : mg "highest_signed" = some (.ref a_highest_signed)
  b_highest_signed : Binds K fd_highest_signed ["wide"] []
  a_alike_bits : Addr
  fd_alike_bits : FuncData
  F_alike_bits : Fun K "alike_bits" "alike_bits" s_alike_bits a_alike_bits fd_alike_bits
  g_alike_bits : mg "alike_bits" = some (.ref a_alike_bits)
  b_alike_bits : Binds K fd_alike_bits ["least", "most"] []
  a_settled_ends : Addr
  fd_settled_ends : FuncData
  F_settled_ends : Fun K "settled_ends" "settled_ends" s_settled_ends a_settled_ends fd_settled_ends
  g_settled_ends : mg "settled_ends" = some (.ref a_settled_ends)
  b_settled_ends : Binds K fd_settled_ends ["least", "most", "low", "high", "wide"] []
  a_settled_once : Addr
  fd_settled_once : FuncData
  F_settled_once : Fun K "settled_once" "settled_once" s_settled_once a_settled_once fd_settled_once
  g_settled_once : mg "settled_once" = some (.ref a_settled_once)
  b_settled_once : Binds K fd_settled_once ["known", "wide"] []
  a_settled : Addr
  fd_settled : FuncData
  F_settled : Fun K "settled" "settled" s_settled a_settled fd_settled
  g_settled : mg "settled" = some (.ref a_settled)
  d_settled : List Value
  v_settled : Vals [.int 16] d_settled
  b_settled : Binds K fd_settled ["known", "wide"] d_settled
  k_settled : KBn K fd_settled ["known", "wide"] 1 ["wide"] (fun us ws => us ++ ws) (fun vs zs => vs ++ zs)
  a_all_of : Addr
  fd_all_of : FuncData
  F_all_of : Fun K "all_of" "all_of" s_all_of a_all_of fd_all_of
  g_all_of : mg "all_of" = some (.ref a_all_of)
  d_all_of : List Value
  v_all_of : Vals [.int 16] d_all_of
  b_all_of : Binds K fd_all_of ["wide"] d_all_of
  k_all_of : KBn K fd_all_of ["wide"] 0 ["wide"] (fun us ws => us ++ ws) (fun vs zs => vs ++ zs)
  a_just : Addr
  fd_just : FuncData
  F_just : Fun K "just" "just" s_just a_just fd_just
  g_just : mg "just" = some (.ref a_just)
  d_just : List Value
  v_just : Vals [.int 16] d_just
  b_just : Binds K fd_just ["worth", "wide"] d_just
  k_just : KBn K fd_just ["worth", "wide"] 1 ["wide"] (fun us ws => us ++ ws) (fun vs zs => vs ++ zs)
  a_span : Addr
  fd_span : FuncData
  F_span : Fun K "span" "span" s_span a_span fd_span
  g_span : mg "span" = some (.ref a_span)
  d_span : List Value
  v_span : Vals [.int 16] d_span
  b_span : Binds K fd_span ["least", "most", "wide"] d_span
  k_span : KBn K fd_span ["least", "most", "wide"] 2 ["wide"] (fun us ws => us ++ ws) (fun vs zs => vs ++ zs)
  a_pool : Addr
  fd_pool : FuncData
  F_pool : Fun K "_law_pool" "_law_pool" s_pool a_pool fd_pool
  g_pool : mg "_law_pool" = some (.ref a_pool)
  b_pool : Binds K fd_pool ["_law_script", "_law_k"] []
  a_take : Addr
  fd_take : FuncData
  F_take : Fun K "_law_take" "_law_take" s_take a_take fd_take
  g_take : mg "_law_take" = some (.ref a_take)
  b_take : Binds K fd_take ["_law_pool_here", "_law_many"] []
  a_top : Addr
  fd_top : FuncData
  F_top : Fun K "_law_top" "_law_top" s_top a_top fd_top
  g_top : mg "_law_top" = some (.ref a_top)
  b_top : Binds K fd_top ["_law_size"] []
  a_l_signed : Addr
  fd_l_signed : FuncData
  F_l_signed : Fun K "_law_signed" "_law_signed" s_l_signed a_l_signed fd_l_signed
  g_l_signed : mg "_law_signed" = some (.ref a_l_signed)
  b_l_signed : Binds K fd_l_signed ["_law_worth", "_law_size"] []
  a_turn : Addr
  fd_turn : FuncData
  F_turn : Fun K "_law_turn" "_law_turn" s_turn a_turn fd_turn
  g_turn : mg "_law_turn" = some (.ref a_turn)
  b_turn : Binds K fd_turn ["_law_known", "_law_size"] []
  a_l_settled : Addr
  fd_l_settled : FuncData
  F_l_settled : Fun K "_law_settled" "_law_settled" s_l_settled a_l_settled fd_l_settled
  g_l_settled : mg "_law_settled" = some (.ref a_l_settled)
  b_l_settled : Binds K fd_l_settled ["_law_known", "_law_size"] []
  b_abs : mg "abs" = none
  b_int : mg "int" = none
  b_len : mg "len" = none
  b_max : mg "max" = none
  b_min : mg "min" = none
  b_range : mg "range" = none
  b_repr : mg "repr" = none
  b_sorted : mg "sorted" = none
  b_sum : mg "sum" = none
local macro_rules | `(tactic| walk_at "side") => `(tactic| first
  | (show (0 : Int) < _; first | decide | omega)
  | (show (0 : Int) ≤ _; first | decide | omega)
  | exact cdiv64 (by first | decide | omega) (by first | decide | omega)
  | (show CMul _ _; first | exact Or.inl ⟨by omega, by omega⟩ | exact Or.inr ⟨by omega, by omega⟩ | exact Or.inr (by split; exact ⟨by omega, by omega⟩; exact ⟨by omega, by omega⟩))
  | (show CPow _ _; exact ⟨by first | decide | omega, by first | decide | omega, by first | decide | omega⟩))
local macro_rules | `(tactic| walk_at "rd") => `(tactic| repeat (first
  | ((with_reducible refine' rd_var ?h ?_); (case h => exact rfl))
  | (with_reducible refine' rd_c ?_)
  | (with_reducible refine' rd_op ?_)
  | (with_reducible refine' rd_un ?_)
  | (with_reducible refine' rd_I0 ?_)
  | ((with_reducible refine' rd_I ?h ?_); (case h => walk_at "side"))
  | (with_reducible refine' rd_U ?_)
  | ((with_reducible refine' rd_eq ?h ?_); (case h => exact rfl))
  | ((with_reducible refine' rd_ne ?h ?_); (case h => exact rfl))
  | (with_reducible refine' rd_test ?_)
  | (with_reducible refine' rd_B ?_)
  | (with_reducible refine' rd_bl ?_)
  | (with_reducible refine' rd_not ?_)
  | (with_reducible refine' rd_and ?_)
  | (with_reducible refine' rd_or ?_)
  | (with_reducible refine' rd_andV ?_)
  | (with_reducible refine' rd_orV ?_)
  | (with_reducible refine' rd_notV ?_)
  | (with_reducible refine' rd_if ?_)
  | (with_reducible refine' rd_chain ?_)
  | (with_reducible refine' rd_seq ?_)
  | (with_reducible refine' rd_next ?_)
  | (with_reducible refine' rd_asg ?_)
  | (with_reducible refine' rd_name ?_)
  | (with_reducible refine' rd_gsub ?_)
  | (with_reducible refine' rd_ret ?_)
  | (with_reducible refine' rd_ifS ?_)
  | (with_reducible refine' rd_nil ?_)
  | (with_reducible refine' rd_cons ?_)
  | (with_reducible refine' rd_CB ?_)
  | (with_reducible refine' rd_call ?_)
  | (with_reducible refine' rd_callN ?_)
  | ((with_reducible refine' rd_ixL ?h ?e ?_); (case h => first | exact SqL.of (by assumption) | exact SqL.of upd_same | assumption); (case e => exact rfl))
  | ((with_reducible refine' rd_ixT ?h ?e ?_); (case h => first | exact SqT.of (by assumption) | exact SqT.of upd_same | assumption); (case e => exact rfl))
  | ((with_reducible refine' rd_setL ?h ?e ?_); (case h => first | assumption | exact upd_same); (case e => exact rfl))
  | (with_reducible refine' rd_sl ?_)
  | (with_reducible refine' rd_nopart ?_)
  | (with_reducible refine' rd_part ?_)
  | (with_reducible refine' rd_lst ?_)
  | (with_reducible refine' rd_tup ?_)
  | ((with_reducible refine' rd_sz ?h ?_); (case h => first | (simp only [List.length_cons, List.length_nil]; decide)))
  | (with_reducible refine' rd_dnew ?_)
  | (with_reducible refine' rd_for ?_)
  | (with_reducible refine' rd_rng1 ?_)
  | (with_reducible refine' rd_ilist ?_)
  | (with_reducible refine' rd_itup ?_)
  | (with_reducible refine' rd_match ?_)
  | (with_reducible refine' rd_my ?_)
  | ((with_reducible refine' rd_mn ?h ?_); (case h => decide))
  | (with_reducible refine' rd_many ?_)
  | (with_reducible refine' rd_lc ?_)
  | (with_reducible refine' rd_yes ?_)
  | (with_reducible refine' rd_gcons ?_)
  | (with_reducible refine' rd_gnil ?_)
  | (with_reducible refine' iteT ?_)
  | (with_reducible refine' iteF ?_)
  | ((with_reducible refine' rd_len ?h ?_); (case h => first | assumption | exact SqL.of (by assumption)))
  | (with_reducible refine' rd_int1 ?_)
  | (with_reducible refine' rd_int2 ?_)
  | (with_reducible refine' rd_intp ?_)
  | (with_reducible refine' rd_ofb ?_)
  | (with_reducible refine' rd_two ?_)
  | (with_reducible refine' rd_drop ?_)
  | (with_reducible refine' rd_par3 ?_)
  | (with_reducible refine' rd_par2 ?_)
  | (with_reducible refine' ex2 ?_)
  | (with_reducible refine' ex3 ?_)
  | (with_reducible refine' rd_callD ?_)
  | (with_reducible refine' rd_disp ?_)
  | (with_reducible refine' rd_pcons ?_)
  | (with_reducible refine' rd_pnil ?_)
  | (with_reducible refine' rd_dget ?_)
  | (with_reducible refine' rd_try ?_)
  | (with_reducible refine' rd_keep ?_)
  | (with_reducible refine' rd_ends ?_)
  | (with_reducible refine' rd_callNX ?_)
  | (with_reducible refine' rd_dsetd ?_)
  | (with_reducible refine' rd_ienumT ?_)
  | (with_reducible refine' rd_bitlen ?_)
  | (with_reducible refine' rd_nn ?_)
  | (with_reducible refine' ite_rn ?_)
  | (with_reducible refine' ite_rnn ?_)
  | (with_reducible refine' ite_vv ?_)
  | (with_reducible refine' ite_vvn ?_)
  | (with_reducible refine' rd_bm ?_)))
section
variable {P : Program} {w : World} {K : PySem.W.Frag} {mg : Str → Option Value} {base : Heap}
theorem ok_take (T : Txt K mg) : FnOk P w K mg base CX0 1 T.a_take T.fd_take ["_law_pool_here", "_law_many"] spTake := by
  refine T.F_take.ok sc_take (fun vs H Q E h => by obtain ⟨p, m, rfl, _⟩ := h; rfl) (fun cdv A outer s H vs Q E hr h => ?_)
  obtain ⟨p, m, rfl, ⟨a, b, hp⟩, m0, m1, q⟩ := h
  refine ⟨_, (pss_cons (ps_if (pt_cmpR op_gt (pe_ix ix_list (pv 0) pe_int (fun _ _ => rfl)) pe_int (nomark _))
  (pss_cons (ps_set (i := 2) sc_take.nd rfl (.inl rfl) (pe_op op_mod (pe_ix ix_list (pv 0) pe_int (fun _ _ => rfl)) (pv 1)))
 (pss_cons (ps_asg (pe_op op_fdivW (pe_ix ix_list (pv 0) pe_int (fun _ _ => rfl)) (pv 1)) (pg_sub (pv 0) pe_int set_list))
 (pss_one (ps_ret (pv 2)))))
  pss_nil)
 (pss_cons (ps_asg (pe_op op_mod (pe_op op_add (pe_op op_mul (pe_ix ix_list (pv 0) pe_int (fun _ _ => rfl)) pe_int) pe_int) pe_int) (pg_sub (pv 0) pe_int set_list))
 (pss_one (ps_ret (pe_op op_mod (pe_op op_fdivW (pe_op op_mod (pe_op op_mul (pe_ix ix_list (pv 0) pe_int (fun _ _ => rfl)) (pe_ix ix_list (pv 0) pe_int (fun _ _ => rfl))) pe_int) pe_int) (pv 1)))))), ?_⟩
  walk_at "rd"
  refine ite2 (fun c => ?_) (fun c => ?_)
  · walk_at "rd"
    exact q _ _ (Int.emod_nonneg _ (by omega)) (Int.emod_lt_of_pos _ m0) ⟨⟨_, _, upd_same⟩, fun c o n e => by rw [upd_ne n]; exact e⟩
  · walk_at "rd"
    exact q _ _ (Int.emod_nonneg _ (by omega)) (Int.emod_lt_of_pos _ m0) ⟨⟨_, _, upd_same⟩, fun c o n e => by rw [upd_ne n]; exact e⟩
theorem ok_pool (T : Txt K mg) : FnOk P w K mg base CX0 1 T.a_pool T.fd_pool ["_law_script", "_law_k"] (spPool K) := by
  refine T.F_pool.ok sc_pool (fun vs H Q E h => by obtain ⟨a, ns, k, rfl, _⟩ := h; rfl) (fun cdv A outer s H vs Q E hr h => ?_)
  obtain ⟨a, ns, k, rfl, hS, k0, k1, q⟩ := h
  refine ⟨_, (pss_cons (ps_set (i := 2) sc_pool.nd rfl (.inl rfl) (pe_op op_add (pe_op op_mul pe_int (pe_callB (cr_sum rfl) (by rfl) T.b_sum (by decide +kernel) (pa_cons (pe_slice sl_list (pv 0) po_none (po_some pe_int)) pa_nil))) (pv 1)))
 (pss_cons (ps_if (pt_cmpR op_lt (pv 1) (pe_callB call_len_seq (by rfl) T.b_len (by decide +kernel) (pa_cons (pv 0) pa_nil)) (nomark _))
  (pss_one (ps_set (i := 2) sc_pool.nd rfl (.inl rfl) (pe_ix ix_list (pv 0) (pv 1) (fun _ _ => rfl))))
  pss_nil)
 (pss_cons (ps_set (i := 3) sc_pool.nd rfl (.inl rfl) (pe_callB call_abs (by rfl) T.b_abs (by decide +kernel) (pa_cons (pv 2) pa_nil)))
 (pss_cons (ps_set (i := 4) sc_pool.nd rfl (.inl rfl) (pe_op op_mod (pe_op op_mul (pe_op op_add (pe_op op_add (pe_op op_add (pe_op op_mod (pv 3) pe_int) (pe_op op_mul (pe_op op_mul pe_int (pv 1)) (pv 1))) (pe_op op_mul pe_int (pv 1))) pe_int) pe_int) pe_int))
 (pss_one (ps_ret (pe_lstN (pa_cons (pe_op op_mul (pv 3) (pe_callTy call_int1 (by rfl) T.b_int (by decide +kernel) (pa_cons (pe_cmpR op_ge (pv 3) (pe_op op_pow pe_int pe_int) (nomark _)) pa_nil))) (pa_cons (pe_op op_mod (pe_op op_mul (pv 4) (pv 4)) pe_int) pa_nil))))))))), ?_⟩
  walk_at "rd"
  refine rd_slL hS (fun c Hc nc sc hc => ?_)
  walk_at "rd"
  obtain ⟨ms, em⟩ := cut_map ns none (some 63)
  refine rd_sum (SqL.of hc) em ?_
  have hS1 : SqL K Hc a (ns.map V.int) := sc.seq hS
  walk_at "rd"
  refine ite2 (fun c => ?_) (fun c => ?_)
  · obtain ⟨z, ez⟩ := atI_int (xs := ns.map V.int) (i := k) (fun v hv => by obtain ⟨z, _, e⟩ := List.mem_map.mp hv; exact ⟨z, e.symm⟩) k0 (of_decide_eq_true c)
    walk_at "rd"
    refine rd_ixL hS1 ez ?_
    walk_at "rd"
    exact fun p H' np sp hp => q H' p (sc.free np) (sc.trans sp) ⟨_, _, hp⟩
  · walk_at "rd"
    exact fun p H' np sp hp => q H' p (sc.free np) (sc.trans sp) ⟨_, _, hp⟩
theorem ok_top (T : Txt K mg) : FnOk P w K mg base CX0 1 T.a_top T.fd_top ["_law_size"] spTop := by
  refine T.F_top.ok sc_top (fun vs H Q E h => by obtain ⟨n, rfl, _⟩ := h; rfl) (fun cdv A outer s H vs Q E hr h => ?_)
  obtain ⟨n, rfl, hn, q⟩ := h
  refine ⟨_, (pss_one (ps_ret (pe_op op_sub (pe_op op_shl pe_int (pv 0)) pe_int))), ?_⟩
  walk_at "rd"
  rw [Int.one_mul, Int.toNat_natCast]
  exact q
theorem ok_greatest (T : Txt K mg) : FnOk P w K mg base CX0 1 T.a_greatest T.fd_greatest ["wide"] spGreat := by
  refine T.F_greatest.ok sc_greatest (fun vs H Q E h => by obtain ⟨n, rfl, _⟩ := h; rfl) (fun cdv A outer s H vs Q E hr h => ?_)
  obtain ⟨n, rfl, hn, q⟩ := h
  refine ⟨_, (pss_one (ps_ret (pe_op op_sub (pe_op op_shl pe_int (pv 0)) pe_int))), ?_⟩
  walk_at "rd"
  rw [Int.one_mul, Int.toNat_natCast]
  exact q
theorem ok_signed (T : Txt K mg) : FnOk P w K mg base CX0 1 T.a_signed T.fd_signed ["worth", "wide"] spSgn := by
  refine T.F_signed.ok sc_signed (fun vs H Q E h => by obtain ⟨x, n, rfl, _⟩ := h; rfl) (fun cdv A outer s H vs Q E hr h => ?_)
  obtain ⟨x, n, rfl, h1, h2, q⟩ := h
  refine ⟨_, (pss_cons (ps_if (pt_cmpR op_eq (pe_op op_shr (pv 0) (pe_op op_sub (pv 1) pe_int)) pe_int (nomark _))
  (pss_one (ps_ret (pv 0)))
  pss_nil)
 (pss_one (ps_ret (pe_op op_sub (pv 0) (pe_op op_shl pe_int (pv 1)))))), ?_⟩
  walk_at "rd"
  rw [to1 h1]
  have e : decide (V.int (x / 2 ^ (n - 1)) = V.int 0) = decide (hf n x = 0) := by
    unfold hf
    by_cases c : x / 2 ^ (n - 1) = 0
    · rw [c]; simp
    · rw [decide_eq_false c, decide_eq_false (fun z => c (V.int.inj z))]
  rw [e]
  unfold sg at q
  by_cases c : hf n x = 0
  · refine ite_b (decide_eq_true c) ?_
    walk_at "rd"
    rw [if_pos c] at q
    exact q
  · refine ite_n (decide_eq_false c) ?_
    walk_at "rd"
    rw [if_neg c] at q
    rw [Int.one_mul, Int.toNat_natCast]
    exact q
theorem ok_met_bits (T : Txt K mg) : FnOk P w K mg base CX0 1 T.a_met_bits T.fd_met_bits ["one", "other"] (spMet K) := by
  refine T.F_met_bits.ok sc_met_bits (fun vs H Q E h => by obtain ⟨a, b, v1, u1, v2, u2, rfl, _⟩ := h; rfl) (fun cdv A outer s H vs Q E hr h => ?_)
  obtain ⟨a, b, v1, u1, v2, u2, rfl, ha, hb, q1, q2⟩ := h
  refine ⟨_, (pss_cons (ps_set (i := 2) sc_met_bits.nd rfl (.inl rfl) (pe_op op_or (pe_ix ix_tup (pv 0) pe_int (fun _ _ => rfl)) (pe_ix ix_tup (pv 1) pe_int (fun _ _ => rfl))))
 (pss_cons (ps_if (pt_cmpR op_ne (pe_op op_or (pe_ix ix_tup (pv 0) pe_int (fun _ _ => rfl)) (pv 2)) (pe_op op_or (pe_ix ix_tup (pv 1) pe_int (fun _ _ => rfl)) (pv 2)) (nomark _))
  (pss_one (ps_ret pe_non))
  pss_nil)
 (pss_one (ps_ret (pe_tupN (pa_cons (pe_op op_or (pe_ix ix_tup (pv 0) pe_int (fun _ _ => rfl)) (pe_ix ix_tup (pv 1) pe_int (fun _ _ => rfl))) (pa_cons (pe_op op_and (pe_ix ix_tup (pv 0) pe_int (fun _ _ => rfl)) (pe_ix ix_tup (pv 1) pe_int (fun _ _ => rfl))) pa_nil))))))), ?_⟩
  walk_at "rd"
  rw [bO, bO, bO, dec_int]
  by_cases m : meetB v1 u1 v2 u2
  · refine ite_n (by rw [decide_eq_true (show v1 ||| (u1 ||| u2) = v2 ||| (u1 ||| u2) from m)]; rfl) ?_
    walk_at "rd"
    rw [bO, bA]
    exact q1 m
  · refine ite_b (by rw [decide_eq_false (show ¬ v1 ||| (u1 ||| u2) = v2 ||| (u1 ||| u2) from m)]; rfl) ?_
    walk_at "rd"
    exact q2 m
theorem ok_lowest_signed (T : Txt K mg) : FnOk P w K mg base CX0 1 T.a_lowest_signed T.fd_lowest_signed ["wide"] (spPow1 fun n => -(2 ^ (n - 1))) := by
  refine T.F_lowest_signed.ok sc_lowest_signed (fun vs H Q E h => by obtain ⟨n, rfl, _⟩ := h; rfl) (fun cdv A outer s H vs Q E hr h => ?_)
  obtain ⟨n, rfl, h1, h2, q⟩ := h
  refine ⟨_, (pss_one (ps_ret (pe_un un_neg (pe_op op_shl pe_int (pe_op op_sub (pv 0) pe_int))))), ?_⟩
  walk_at "rd"
  rw [Int.one_mul, to1 h1]
  exact q
theorem ok_highest_signed (T : Txt K mg) : FnOk P w K mg base CX0 1 T.a_highest_signed T.fd_highest_signed ["wide"] (spPow1 fun n => 2 ^ (n - 1) - 1) := by
  refine T.F_highest_signed.ok sc_highest_signed (fun vs H Q E h => by obtain ⟨n, rfl, _⟩ := h; rfl) (fun cdv A outer s H vs Q E hr h => ?_)
  obtain ⟨n, rfl, h1, h2, q⟩ := h
  refine ⟨_, (pss_one (ps_ret (pe_op op_sub (pe_op op_shl pe_int (pe_op op_sub (pv 0) pe_int)) pe_int))), ?_⟩
  walk_at "rd"
  rw [Int.one_mul, to1 h1]
  exact q
theorem cut_and (l B : Nat) : Builtin.bitAnd (l : Int) (Builtin.bitNot (2 ^ B - 1)) = ((l / 2 ^ B * 2 ^ B : Nat) : Int) := by
  rw [top_cast, bdiff_eq]
  congr 1
  apply Nat.eq_of_testBit_eq
  intro i
  rw [bdiff_bit, tb_cut, Nat.testBit_two_pow_sub_one]
  by_cases h : B ≤ i
  · rw [decide_eq_true h, decide_eq_false (show ¬ i < B by omega)]; simp
  · rw [decide_eq_false h, decide_eq_true (show i < B by omega)]; simp
theorem ok_alike_bits (T : Txt K mg) : FnOk P w K mg base CX0 2 T.a_alike_bits T.fd_alike_bits ["least", "most"] spAlike := by
  refine T.F_alike_bits.ok sc_alike_bits (fun vs H Q E h => by obtain ⟨l, m, rfl, _⟩ := h; rfl) (fun cdv A outer s H vs Q E hr h => ?_)
  obtain ⟨l, m, rfl, h1, h2, q⟩ := h
  refine ⟨_, (pss_cons (ps_set (i := 2) sc_alike_bits.nd rfl (.inl rfl) (pe_call (ok_greatest T) (hr.mono (by decide)) (by rfl) T.g_greatest T.F_greatest.kp T.b_greatest .nil pass0 (pa_cons (pe_bits (pe_op op_xor (pv 0) (pv 1))) pa_nil)))
 (pss_one (ps_ret (pe_tupN (pa_cons (pe_op op_and (pv 0) (pe_un un_inv (pv 2))) (pa_cons (pv 2) pa_nil)))))), ?_⟩
  walk_at "rd"
  rw [bX]
  have h3 := bl_le32 h1 h2
  refine ⟨bl (l ^^^ m), rfl, by omega, ?_⟩
  walk_at "rd"
  rw [cut_and, top_cast]
  exact q
theorem ok_settled_ends (T : Txt K mg) : FnOk P w K mg base CX0 2 T.a_settled_ends T.fd_settled_ends ["least", "most", "low", "high", "wide"] spEnds := by
  refine T.F_settled_ends.ok sc_settled_ends (fun vs H Q E h => by obtain ⟨l, m, lo, hi, n, rfl, _⟩ := h; rfl) (fun cdv A outer s H vs Q E hr h => ?_)
  obtain ⟨l, m, lo, hi, n, rfl, h1, h2, q⟩ := h
  refine ⟨_, (pss_join (ps_if (pt_cmpR op_eq (pe_op op_shr (pv 0) (pe_op op_sub (pv 4) pe_int)) (pe_op op_shr (pv 1) (pe_op op_sub (pv 4) pe_int)) (nomark _))
  (pss_cons (ps_set (i := 2) sc_settled_ends.nd rfl (.inl rfl) (pe_callB (call_max2 rfl) (by rfl) T.b_max (by decide +kernel) (pa_cons (pv 2) (pa_cons (pe_callN (ok_signed T) (hr.mono (by decide)) (by rfl) T.g_signed T.F_signed.kp T.k_signed pass0 (pa_cons (pv 0) pa_nil) (pk_cons (pv 4) pk_nil)) pa_nil))))
 (pss_one (ps_set (i := 3) sc_settled_ends.nd rfl (.inl rfl) (pe_callB (call_min2 rfl) (by rfl) T.b_min (by decide +kernel) (pa_cons (pv 3) (pa_cons (pe_callN (ok_signed T) (hr.mono (by decide)) (by rfl) T.g_signed T.F_signed.kp T.k_signed pass0 (pa_cons (pv 1) pa_nil) (pk_cons (pv 4) pk_nil)) pa_nil))))))
  pss_nil)
 (pss_join (ps_if (pt_cmpR op_eq (pe_cmpR op_lt (pv 2) pe_int (nomark _)) (pe_cmpR op_lt (pv 3) pe_int (nomark _)) (nomark _))
  (pss_cons (ps_set (i := 0) sc_settled_ends.nd rfl (.inl rfl) (pe_callB (call_max2 rfl) (by rfl) T.b_max (by decide +kernel) (pa_cons (pv 0) (pa_cons (pe_op op_and (pv 2) (pe_call (ok_greatest T) (hr.mono (by decide)) (by rfl) T.g_greatest T.F_greatest.kp T.b_greatest .nil pass0 (pa_cons (pv 4) pa_nil))) pa_nil))))
 (pss_one (ps_set (i := 1) sc_settled_ends.nd rfl (.inl rfl) (pe_callB (call_min2 rfl) (by rfl) T.b_min (by decide +kernel) (pa_cons (pv 1) (pa_cons (pe_op op_and (pv 3) (pe_call (ok_greatest T) (hr.mono (by decide)) (by rfl) T.g_greatest T.F_greatest.kp T.b_greatest .nil pass0 (pa_cons (pv 4) pa_nil))) pa_nil))))))
  pss_nil)
 (pss_one (ps_ret (pe_tupN (pa_cons (pv 0) (pa_cons (pv 1) (pa_cons (pv 2) (pa_cons (pv 3) pa_nil))))))))), ?_⟩
  refine rd_join (fun σ H' => H' = H ∧ σ = [some (.int l), some (.int m), some (.int (endL n l m lo)), some (.int (endH n l m hi)), some (.int n)]) ?_ (fun σ H' hm => ?_)
  · walk_at "rd"
    rw [to1 h1]
    have e : decide (V.int (l / 2 ^ (n - 1)) = V.int (m / 2 ^ (n - 1))) = decide (hf n l = hf n m) := by
      unfold hf
      by_cases c : l / 2 ^ (n - 1) = m / 2 ^ (n - 1)
      · rw [c]; simp
      · rw [decide_eq_false c, decide_eq_false (fun z => c (V.int.inj z))]
    rw [e]
    by_cases c : hf n l = hf n m
    · refine ite_b (decide_eq_true c) ?_
      walk_at "rd"
      refine ⟨rfl, rfl, l, n, rfl, h1, h2, ?_⟩
      walk_at "rd"
      refine ⟨rfl, rfl, m, n, rfl, h1, h2, ?_⟩
      walk_at "rd"
      refine ⟨rfl, ?_⟩
      unfold endL endH
      rw [if_pos c, if_pos c]
      rfl
    · refine ite_n (decide_eq_false c) ?_
      refine ⟨rfl, ?_⟩
      unfold endL endH
      rw [if_neg c, if_neg c]
      rfl
  · obtain ⟨rfl, rfl⟩ := hm
    generalize hL : endL n l m lo = a at q
    generalize hH : endH n l m hi = b at q
    refine rd_join (fun σ H2 => H2 = H' ∧ σ = [some (.int (endl n l a b)), some (.int (endm n m a b)), some (.int a), some (.int b), some (.int n)]) ?_ (fun σ H2 hm => ?_)
    · walk_at "rd"
      have e : decide (V.bl (decide (a < 0)) = V.bl (decide (b < 0))) = decide (decide (a < 0) = decide (b < 0)) := by
        by_cases c : decide (a < 0) = decide (b < 0)
        · rw [c]; simp
        · rw [decide_eq_false c, decide_eq_false (fun z => c (V.bl.inj z))]
      rw [e]
      by_cases c : decide (a < 0) = decide (b < 0)
      · refine ite_b (decide_eq_true c) ?_
        walk_at "rd"
        refine ⟨n, rfl, by omega, ?_⟩
        walk_at "rd"
        refine ⟨n, rfl, by omega, ?_⟩
        walk_at "rd"
        rw [PySem.W.kbt_mask, PySem.W.kbt_mask]
        refine ⟨rfl, ?_⟩
        unfold endl endm
        rw [if_pos c, if_pos c]
        rfl
      · refine ite_n (decide_eq_false c) ?_
        refine ⟨rfl, ?_⟩
        unfold endl endm
        rw [if_neg c, if_neg c]
    · obtain ⟨rfl, rfl⟩ := hm
      walk_at "rd"
      exact q
theorem bits_met {v u l m : Nat} : bitsM v u l m = if meetB v u (l / 2 ^ bl (l ^^^ m) * 2 ^ bl (l ^^^ m)) (2 ^ bl (l ^^^ m) - 1) then some (v ||| (l / 2 ^ bl (l ^^^ m) * 2 ^ bl (l ^^^ m)), u &&& (2 ^ bl (l ^^^ m) - 1)) else none := rfl
theorem ok_settled_once (T : Txt K mg) : FnOk P w K mg base CX0 3 T.a_settled_once T.fd_settled_once ["known", "wide"] (spOnce K) := by
  refine T.F_settled_once.ok sc_settled_once (fun vs H Q E h => by obtain ⟨t, k, n, rfl, _⟩ := h; rfl) (fun cdv A outer s H vs Q E hr h => ?_)
  obtain ⟨t, k, n, rfl, ht, h1, h2, sb, q⟩ := h
  obtain ⟨q1, q2⟩ := onceK_eq sb q
  refine ⟨_, (pss_cons (ps_asg (pv 0) (pg_tup rfl (pgs_cons (pg_name (i := 2) sc_settled_once.nd rfl (.inl rfl)) (pgs_cons (pg_name (i := 3) sc_settled_once.nd rfl (.inl rfl)) (pgs_cons (pg_name (i := 4) sc_settled_once.nd rfl (.inl rfl)) (pgs_cons (pg_name (i := 5) sc_settled_once.nd rfl (.inl rfl)) (pgs_cons (pg_name (i := 6) sc_settled_once.nd rfl (.inl rfl)) (pgs_cons (pg_name (i := 7) sc_settled_once.nd rfl (.inl rfl)) pgs_nil))))))))
 (pss_cons (ps_set (i := 8) sc_settled_once.nd rfl (.inl rfl) (pe_call (ok_settled_ends T) (hr.mono (by decide)) (by rfl) T.g_settled_ends T.F_settled_ends.kp T.b_settled_ends .nil pass0 (pa_cons (pe_callB (call_max2 rfl) (by rfl) T.b_max (by decide +kernel) (pa_cons (pv 4) (pa_cons (pv 2) pa_nil))) (pa_cons (pe_callB (call_min2 rfl) (by rfl) T.b_min (by decide +kernel) (pa_cons (pv 5) (pa_cons (pe_op op_or (pv 2) (pv 3)) pa_nil))) (pa_cons (pv 6) (pa_cons (pv 7) (pa_cons (pv 1) pa_nil)))))))
 (pss_cons (ps_if (PW.pt (pw_or (pt_cmpR op_gt (pe_ix ix_tup (pv 8) pe_int (fun _ _ => rfl)) (pe_ix ix_tup (pv 8) pe_int (fun _ _ => rfl)) (nomark _)) (pw_or1 (pt_cmpR op_gt (pe_ix ix_tup (pv 8) pe_int (fun _ _ => rfl)) (pe_ix ix_tup (pv 8) pe_int (fun _ _ => rfl)) (nomark _)))))
  (pss_one (ps_ret pe_non))
  pss_nil)
 (pss_cons (ps_set (i := 9) sc_settled_once.nd rfl (.inl rfl) (pe_call (ok_met_bits T) (hr.mono (by decide)) (by rfl) T.g_met_bits T.F_met_bits.kp T.b_met_bits .nil pass0 (pa_cons (pe_tupN (pa_cons (pv 2) (pa_cons (pv 3) pa_nil))) (pa_cons (pe_call (ok_alike_bits T) (hr.mono (by decide)) (by rfl) T.g_alike_bits T.F_alike_bits.kp T.b_alike_bits .nil pass0 (pa_cons (pe_ix ix_tup (pv 8) pe_int (fun _ _ => rfl)) (pa_cons (pe_ix ix_tup (pv 8) pe_int (fun _ _ => rfl)) pa_nil))) pa_nil))))
 (pss_cons (ps_if (pt_cmpR op_isN (pv 9) pe_non (nomark _))
  (pss_one (ps_ret pe_non))
  pss_nil)
 (pss_one (ps_ret (pe_op op_catT (pv 9) (pv 8))))))))), ?_⟩
  walk_at "rd"
  refine rd_gtup ht rfl ?_
  unfold kT
  walk_at "rd"
  rw [bO]
  refine ⟨_, _, _, _, n, rfl, h1, h2, fun p H1 np s1 hp => ?_⟩
  walk_at "rd"
  refine ite2 (fun c1 => ?_) (fun c1 => ?_)
  · walk_at "rd"
    exact q1 (.inl (of_decide_eq_true c1)) H1 s1
  walk_at "rd"
  refine ite2 (fun c2 => ?_) (fun c2 => ?_)
  · walk_at "rd"
    exact q1 (.inr (of_decide_eq_true c2)) H1 s1
  obtain ⟨l, m, el, em, hl, hm, lm, qn, qs⟩ := q2 (fun z => z.elim (fun y => c1 (decide_eq_true y)) (fun y => c2 (decide_eq_true y)))
  walk_at "rd"
  refine fun a H2 na s2 ha => ?_
  have hp2 := s2 _ _ hp
  walk_at "rd"
  have p32 : 2 ^ n ≤ 2 ^ 32 := Nat.pow_le_pow_right (by decide) h2
  refine ⟨l, m, by rw [← el, ← em]; rfl, by omega, by omega, fun b H3 nb s3 hb => ?_⟩
  walk_at "rd"
  refine ⟨a, b, k.v, k.u, _, _, rfl, SqT.of (s3 _ _ ha), SqT.of hb, fun mt => ?_, fun nmt => ?_⟩
  · refine fun c H4 nc s4 hc => ?_
    walk_at "rd"
    refine rd_catK (SqT.of hc) (SqT.of (s4 _ _ (s3 _ _ hp2))) (by simp) (by simp) (by simp only [List.length_cons, List.length_nil]; decide) (fun d H5 nd s5 hd => ?_)
    have sm := (((s1.trans s2).trans s3).trans s4).trans s5
    exact qs _ _ (by rw [bits_met, if_pos mt]) d H5 ((((s1.trans s2).trans s3).trans s4).free nd) sm hd
  · walk_at "rd"
    exact qn (by rw [bits_met, if_neg nmt]) H3 ((s1.trans s2).trans s3)
theorem ok_settled (T : Txt K mg) : FnOk P w K mg base CX0 4 T.a_settled T.fd_settled ["known", "wide"] (spSettled K) := by
  refine T.F_settled.ok sc_settled (fun vs H Q E h => by obtain ⟨t, k, n, rfl, _⟩ := h; rfl) (fun cdv A outer s H vs Q E hr h => ?_)
  obtain ⟨t, k, n, rfl, ht, h1, h2, sb, q⟩ := h
  have so := settle_ok sb
  refine ⟨_, (pss_cons (ps_set (i := 2) sc_settled.nd rfl (.inl rfl) (pv 0))
 (pss_cons (ps_set (i := 3) sc_settled.nd rfl (.inl rfl) (pe_call (ok_settled_once T) (hr.mono (by decide)) (by rfl) T.g_settled_once T.F_settled_once.kp T.b_settled_once .nil pass0 (pa_cons (pv 2) (pa_cons (pv 1) pa_nil))))
 (pss_cons (ps_while PassesOwn.never (PW.pt (pw_and (pt_cmpR op_notN (pv 3) pe_non (nomark _)) (pw_and1 (pt_cmpR (op_neD hr.units) (pv 3) (pv 2) (nomark _)))))
  (pss_cons (ps_set (i := 2) sc_settled.nd rfl (.inl rfl) (pv 3))
 (pss_one (ps_set (i := 3) sc_settled.nd rfl (.inl rfl) (pe_call (ok_settled_once T) (hr.mono (by decide)) (by rfl) T.g_settled_once T.F_settled_once.kp T.b_settled_once .nil pass0 (pa_cons (pv 2) (pa_cons (pv 1) pa_nil)))))))
 (pss_one (ps_ret (pv 3)))))), ?_⟩
  walk_at "rd"
  -- what stands between two turns: a was turned, into tv
  let W : Nat → L2.St → Hp → Prop := fun m σ H1 => ∃ (a : Addr) (ka : Kn) (tv : V), σ = [some (.ref t), some (.int n), some (.ref a), some tv] ∧ Same H H1 ∧ SqT K H1 a (kT ka) ∧ Sb n ka.v ka.u ∧ Stl n ka (settle n k) ∧
    ((onceK n ka = none ∧ tv = .non ∧ m = 0) ∨ ∃ (p : Addr) (kp : Kn), onceK n ka = some kp ∧ tv = .ref p ∧ H p = none ∧ H1 p = some (.tup (kT kp)) ∧ m = if kp = ka then 0 else mu kp + 1)
  have first : ∀ (a : Addr) (ka : Kn) (H1 : Hp), Same H H1 → SqT K H1 a (kT ka) → Sb n ka.v ka.u → Stl n ka (settle n k) → ∀ R : VK, (∀ tv H2 m, W m [some (.ref t), some (.int n), some (.ref a), some tv] H2 → (m = 0 ∨ ∃ kp, onceK n ka = some kp ∧ kp ≠ ka ∧ m = mu kp + 1) → R tv H2) → OptAt H1 (onceK n ka) R := by
    intro a ka H1 s1 ha sa st R hR
    refine ⟨fun e H2 s2 => hR _ H2 0 ⟨a, ka, _, rfl, s1.trans s2, sqT_same s2 ha, sa, st, .inl ⟨e, rfl, rfl⟩⟩ (.inl rfl), fun kp e p H2 np s2 hp => hR _ H2 (if kp = ka then 0 else mu kp + 1) ⟨a, ka, _, rfl, s1.trans s2, sqT_same s2 ha, sa, st, .inr ⟨p, kp, e, rfl, s1.free np, hp, rfl⟩⟩ ?_⟩
    by_cases c : kp = ka
    · exact .inl (if_pos c)
    · exact .inr ⟨kp, e, c, if_neg c⟩
  refine ⟨t, k, n, rfl, ht, h1, h2, sb, first t k H (Same.refl H) ht sb so _ fun tv H1 m0 w0 _ => ?_⟩
  walk_at "rd"
  refine rd_while W m0 w0 (fun m σ H1 hW => ?_)
  obtain ⟨a, ka, tv, rfl, s1, ha, sa, st, hh⟩ := hW
  rcases hh with ⟨e, rfl, rfl⟩ | ⟨p, kp, e, rfl, np, hp, rfl⟩
  · walk_at "rd"
    exact q.1 (st.det (.no e)) H1 s1
  · walk_at "rd"
    refine rd_neD (dp_kT (SqT.of hp)) (dp_kT ha) (by rfl) (by rfl) ?_
    rw [eqv_kn]
    walk_at "rd"
    by_cases c : kp = ka
    · subst c
      refine ite_n (by rw [decide_eq_true rfl]; rfl) ?_
      walk_at "rd"
      exact q.2 kp (st.det (.fix e)) p H1 np s1 hp
    · refine ite_b (by rw [decide_eq_false c]; rfl) ?_
      rw [if_neg c]
      refine ⟨fun σ' H' => ∃ m', m' < mu kp + 1 ∧ W m' σ' H', fun _ _ h => h, ?_⟩
      have st' : Stl n kp (settle n k) := by
        obtain ⟨r, t'⟩ := Stl.all (n := n) (k := kp) (once_some sa e).1.sb
        rw [st.det (.go e c t')]
        exact t'
      have d' := (once_some sa e).1
      walk_at "rd"
      refine ⟨p, kp, n, rfl, SqT.of hp, h1, h2, d'.sb, first p kp H1 s1 (SqT.of hp) d'.sb st' _ fun tv H2 m2 w2 hm => ?_⟩
      walk_at "rd"
      refine ⟨m2, ?_, w2⟩
      rcases hm with rfl | ⟨k2, e2, c2, rfl⟩
      · omega
      · have := once_dec d' e2 c2
        omega
theorem ok_all_of (T : Txt K mg) : FnOk P w K mg base CX0 2 T.a_all_of T.fd_all_of ["wide"] spAllOf := by
  refine T.F_all_of.ok sc_all_of (fun vs H Q E h => by obtain ⟨n, rfl, _⟩ := h; rfl) (fun cdv A outer s H vs Q E hr h => ?_)
  obtain ⟨n, rfl, h1, h2, q⟩ := h
  refine ⟨_, (pss_one (ps_ret (pe_tupN (pa_cons pe_int (pa_cons (pe_call (ok_greatest T) (hr.mono (by decide)) (by rfl) T.g_greatest T.F_greatest.kp T.b_greatest .nil pass0 (pa_cons (pv 0) pa_nil)) (pa_cons pe_int (pa_cons (pe_call (ok_greatest T) (hr.mono (by decide)) (by rfl) T.g_greatest T.F_greatest.kp T.b_greatest .nil pass0 (pa_cons (pv 0) pa_nil)) (pa_cons (pe_call (ok_lowest_signed T) (hr.mono (by decide)) (by rfl) T.g_lowest_signed T.F_lowest_signed.kp T.b_lowest_signed .nil pass0 (pa_cons (pv 0) pa_nil)) (pa_cons (pe_call (ok_highest_signed T) (hr.mono (by decide)) (by rfl) T.g_highest_signed T.F_highest_signed.kp T.b_highest_signed .nil pass0 (pa_cons (pv 0) pa_nil)) pa_nil))))))))), ?_⟩
  walk_at "rd"
  refine ⟨n, rfl, by omega, ?_⟩
  walk_at "rd"
  refine ⟨n, rfl, by omega, ?_⟩
  walk_at "rd"
  refine ⟨n, rfl, h1, h2, ?_⟩
  walk_at "rd"
  refine ⟨n, rfl, h1, h2, ?_⟩
  walk_at "rd"
  unfold allK kT at q
  simp only at q
  rw [← top_cast] at q
  exact q
theorem ok_just (T : Txt K mg) : FnOk P w K mg base CX0 2 T.a_just T.fd_just ["worth", "wide"] spJust := by
  refine T.F_just.ok sc_just (fun vs H Q E h => by obtain ⟨x, n, rfl, _⟩ := h; rfl) (fun cdv A outer s H vs Q E hr h => ?_)
  obtain ⟨x, n, rfl, h1, h2, x0, q⟩ := h
  refine ⟨_, (pss_cons (ps_set (i := 2) sc_just.nd rfl (.inl rfl) (pe_callN (ok_signed T) (hr.mono (by decide)) (by rfl) T.g_signed T.F_signed.kp T.k_signed pass0 (pa_cons (pv 0) pa_nil) (pk_cons (pv 1) pk_nil)))
 (pss_one (ps_ret (pe_tupN (pa_cons (pv 0) (pa_cons pe_int (pa_cons (pv 0) (pa_cons (pv 0) (pa_cons (pv 2) (pa_cons (pv 2) pa_nil)))))))))), ?_⟩
  walk_at "rd"
  refine ⟨rfl, rfl, x, n, rfl, h1, h2, ?_⟩
  walk_at "rd"
  unfold justK kT at q
  simp only [Int.toNat_of_nonneg x0] at q
  exact q
theorem ok_span (T : Txt K mg) : FnOk P w K mg base CX0 5 T.a_span T.fd_span ["least", "most", "wide"] spSpan := by
  refine T.F_span.ok sc_span (fun vs H Q E h => by obtain ⟨l, m, n, rfl, _⟩ := h; rfl) (fun cdv A outer s H vs Q E hr h => ?_)
  obtain ⟨l, m, n, rfl, h1, h2, q⟩ := h
  refine ⟨_, (pss_one (ps_ret (pe_callN (ok_settled T) (hr.mono (by decide)) (by rfl) T.g_settled T.F_settled.kp T.k_settled pass0 (pa_cons (pe_tupN (pa_cons pe_int (pa_cons (pe_call (ok_greatest T) (hr.mono (by decide)) (by rfl) T.g_greatest T.F_greatest.kp T.b_greatest .nil pass0 (pa_cons (pv 2) pa_nil)) (pa_cons (pv 0) (pa_cons (pv 1) (pa_cons (pe_call (ok_lowest_signed T) (hr.mono (by decide)) (by rfl) T.g_lowest_signed T.F_lowest_signed.kp T.b_lowest_signed .nil pass0 (pa_cons (pv 2) pa_nil)) (pa_cons (pe_call (ok_highest_signed T) (hr.mono (by decide)) (by rfl) T.g_highest_signed T.F_highest_signed.kp T.b_highest_signed .nil pass0 (pa_cons (pv 2) pa_nil)) pa_nil))))))) pa_nil) (pk_cons (pv 2) pk_nil)))), ?_⟩
  walk_at "rd"
  refine ⟨n, rfl, by omega, ?_⟩
  walk_at "rd"
  refine ⟨n, rfl, h1, h2, ?_⟩
  walk_at "rd"
  refine ⟨n, rfl, h1, h2, ?_⟩
  walk_at "rd"
  refine fun t H1 nt s1 ht => ?_
  walk_at "rd"
  refine ⟨rfl, rfl, t, spanK n l m, n, rfl, SqT.of ?_, h1, h2, sb_top n, q.same s1⟩
  rw [ht]
  unfold spanK kT
  simp only
  rw [← top_cast]
  rfl
theorem hf_01 {n : Nat} {x : Int} (h1 : 1 ≤ n) (x0 : 0 ≤ x) (x1 : x < 2 ^ n) : (hf n x = 0 ∧ x < 2 ^ (n - 1)) ∨ (hf n x = 1 ∧ 2 ^ (n - 1) ≤ x) := by
  have e := pow_half h1
  have p := pow_pos2 (n - 1)
  unfold hf
  by_cases c : x < 2 ^ (n - 1)
  · exact .inl ⟨Int.ediv_eq_zero_of_lt x0 c, c⟩
  · refine .inr ⟨?_, by omega⟩
    have : x / 2 ^ (n - 1) = (x - 2 ^ (n - 1)) / 2 ^ (n - 1) + 1 := by
      have := Int.add_ediv_of_dvd_right (a := x - 2 ^ (n - 1)) (b := 2 ^ (n - 1)) (c := 2 ^ (n - 1)) (Int.dvd_refl _)
      rw [Int.sub_add_cancel, Int.ediv_self (by omega)] at this
      exact this
    rw [this, Int.ediv_eq_zero_of_lt (by omega) (by omega)]
    rfl
theorem ok_l_signed (T : Txt K mg) : FnOk P w K mg base CX0 1 T.a_l_signed T.fd_l_signed ["_law_worth", "_law_size"] spLawSigned := by
  refine T.F_l_signed.ok sc_l_signed (fun vs H Q E h => by obtain ⟨x, n, rfl, _⟩ := h; rfl) (fun cdv A outer s H vs Q E hr h => ?_)
  obtain ⟨x, n, rfl, h1, h2, x0, x1, q⟩ := h
  have hh := hf_01 h1 x0 x1
  refine ⟨_, (pss_one (ps_ret (pe_op op_sub (pv 0) (pe_op op_shl (pe_op op_shr (pv 0) (pe_op op_sub (pv 1) pe_int)) (pv 1))))), ?_⟩
  walk_at "rd"
  rw [to1 h1]
  show rI _ _ _ _ _ _
  refine rd_I ⟨by omega, by omega, ?_⟩ ?_
  · have : x / 2 ^ (n - 1) = hf n x := rfl
    rw [this]
    omega
  walk_at "rd"
  have : x / 2 ^ (n - 1) = hf n x := rfl
  rw [this, Int.toNat_natCast]
  unfold sg at q
  rcases hh with ⟨c, _⟩ | ⟨c, _⟩
  · rw [c] at q ⊢
    simpa using q
  · rw [c] at q ⊢
    simpa using q
theorem ok_turn (T : Txt K mg) : FnOk P w K mg base CX0 2 T.a_turn T.fd_turn ["_law_known", "_law_size"] (spOnce K) := by
  refine T.F_turn.ok sc_turn (fun vs H Q E h => by obtain ⟨t, k, n, rfl, _⟩ := h; rfl) (fun cdv A outer s H vs Q E hr h => ?_)
  obtain ⟨t, k, n, rfl, ht, h1, h2, sb, q⟩ := h
  obtain ⟨q1, q2⟩ := onceK_eq sb q
  have vn := sb.v1
  have un := sb.u1
  have vu := or_plus sb
  have vul : (k.v ||| k.u) < 2 ^ n := Nat.or_lt_two_pow vn un
  have pc := nat_pow_cast n
  have pp := pow_pos2 n
  refine ⟨_, (pss_cons (ps_asg (pv 0) (pg_tup rfl (pgs_cons (pg_name (i := 2) sc_turn.nd rfl (.inl rfl)) (pgs_cons (pg_name (i := 3) sc_turn.nd rfl (.inl rfl)) (pgs_cons (pg_name (i := 4) sc_turn.nd rfl (.inl rfl)) (pgs_cons (pg_name (i := 5) sc_turn.nd rfl (.inl rfl)) (pgs_cons (pg_name (i := 6) sc_turn.nd rfl (.inl rfl)) (pgs_cons (pg_name (i := 7) sc_turn.nd rfl (.inl rfl)) pgs_nil))))))))
 (pss_cons (ps_set (i := 4) sc_turn.nd rfl (.inl rfl) (pe_callB (call_max2 rfl) (by rfl) T.b_max (by decide +kernel) (pa_cons (pv 4) (pa_cons (pv 2) pa_nil))))
 (pss_cons (ps_set (i := 5) sc_turn.nd rfl (.inl rfl) (pe_callB (call_min2 rfl) (by rfl) T.b_min (by decide +kernel) (pa_cons (pv 5) (pa_cons (pe_op op_add (pv 2) (pv 3)) pa_nil))))
 (pss_join (ps_if (pt_cmpR op_eq (pe_op op_shr (pv 4) (pe_op op_sub (pv 1) pe_int)) (pe_op op_shr (pv 5) (pe_op op_sub (pv 1) pe_int)) (nomark _))
  (pss_cons (ps_set (i := 6) sc_turn.nd rfl (.inl rfl) (pe_callB (call_max2 rfl) (by rfl) T.b_max (by decide +kernel) (pa_cons (pv 6) (pa_cons (pe_call (ok_l_signed T) (hr.mono (by decide)) (by rfl) T.g_l_signed T.F_l_signed.kp T.b_l_signed .nil pass0 (pa_cons (pv 4) (pa_cons (pv 1) pa_nil))) pa_nil))))
 (pss_one (ps_set (i := 7) sc_turn.nd rfl (.inl rfl) (pe_callB (call_min2 rfl) (by rfl) T.b_min (by decide +kernel) (pa_cons (pv 7) (pa_cons (pe_call (ok_l_signed T) (hr.mono (by decide)) (by rfl) T.g_l_signed T.F_l_signed.kp T.b_l_signed .nil pass0 (pa_cons (pv 5) (pa_cons (pv 1) pa_nil))) pa_nil))))))
  pss_nil)
 (pss_join (ps_if (PW.pt (pw_or (pt_cmpR op_ge (pv 6) pe_int (nomark _)) (pw_or1 (pt_cmpR op_lt (pv 7) pe_int (nomark _)))))
  (pss_cons (ps_set (i := 4) sc_turn.nd rfl (.inl rfl) (pe_callB (call_max2 rfl) (by rfl) T.b_max (by decide +kernel) (pa_cons (pv 4) (pa_cons (pe_op op_mod (pv 6) (pe_op op_shl pe_int (pv 1))) pa_nil))))
 (pss_one (ps_set (i := 5) sc_turn.nd rfl (.inl rfl) (pe_callB (call_min2 rfl) (by rfl) T.b_min (by decide +kernel) (pa_cons (pv 5) (pa_cons (pe_op op_mod (pv 7) (pe_op op_shl pe_int (pv 1))) pa_nil))))))
  pss_nil)
 (pss_cons (ps_if (PW.pt (pw_or (pt_cmpR op_gt (pv 4) (pv 5) (nomark _)) (pw_or1 (pt_cmpR op_gt (pv 6) (pv 7) (nomark _)))))
  (pss_one (ps_ret pe_non))
  pss_nil)
 (pss_cons (ps_set (i := 8) sc_turn.nd rfl (.inl rfl) (pe_op op_sub (pv 1) pe_int))
 (pss_cons (ps_while PassesOwn.never (PW.pt (pw_and (pt_cmpR op_ge (pv 8) pe_int (nomark _)) (pw_and1 (pt_cmpR op_eq (pe_op op_shr (pv 4) (pv 8)) (pe_op op_shr (pv 5) (pv 8)) (nomark _)))))
  (pss_cons (ps_set (i := 9) sc_turn.nd rfl (.inl rfl) (pe_op op_and (pe_op op_shr (pv 4) (pv 8)) pe_int))
 (pss_cons (ps_if (pt_cmpR op_eq (pe_op op_and (pe_op op_shr (pv 3) (pv 8)) pe_int) pe_int (nomark _))
  (pss_cons (ps_set (i := 3) sc_turn.nd rfl (.inl rfl) (pe_op op_sub (pv 3) (pe_op op_shl pe_int (pv 8))))
 (pss_one (ps_set (i := 2) sc_turn.nd rfl (.inl rfl) (pe_op op_add (pv 2) (pe_op op_shl (pv 9) (pv 8))))))
  (pss_one (ps_if (pt_cmpR op_ne (pe_op op_and (pe_op op_shr (pv 2) (pv 8)) pe_int) (pv 9) (nomark _))
  (pss_one (ps_ret pe_non))
  pss_nil)))
 (pss_one (ps_set (i := 8) sc_turn.nd rfl (.inl rfl) (pe_op op_sub (pv 8) pe_int))))))
 (pss_one (ps_ret (pe_tupN (pa_cons (pv 2) (pa_cons (pv 3) (pa_cons (pv 4) (pa_cons (pv 5) (pa_cons (pv 6) (pa_cons (pv 7) pa_nil))))))))))))))))), ?_⟩
  walk_at "rd"
  refine rd_gtup ht rfl ?_
  unfold kT
  walk_at "rd"
  have ea : (k.v : Int) + (k.u : Int) = ((k.v ||| k.u : Nat) : Int) := by omega
  rw [ea]
  refine rd_join (fun σ H' => H' = H ∧ σ = [some (.ref t), some (.int n), some (.int k.v), some (.int k.u), some (.int (mx k.l k.v)), some (.int (mn k.m ((k.v ||| k.u : Nat) : Int))), some (.int (lo1 n k)), some (.int (hi1 n k)), none, none]) ?_ (fun σ H' hm => ?_)
  · walk_at "rd"
    rw [to1 h1, dec_I]
    show if decide (hf n (mx k.l k.v) = hf n (mn k.m ((k.v ||| k.u : Nat) : Int))) = true then _ else _
    by_cases c : hf n (mx k.l k.v) = hf n (mn k.m ((k.v ||| k.u : Nat) : Int))
    · refine ite_b (decide_eq_true c) ?_
      have a1 := mx_r k.l k.v
      have a2 := mn_r k.m ((k.v ||| k.u : Nat) : Int)
      have c2 : (mx k.l k.v) / 2 ^ (n - 1) = (mn k.m ((k.v ||| k.u : Nat) : Int)) / 2 ^ (n - 1) := c
      have p1 := pow_pos2 (n - 1)
      have r1 : mx k.l k.v < 2 ^ n := by
        refine Int.not_le.mp fun z => ?_
        have e2 := pow_half h1
        have z1 : (2 : Int) ≤ mx k.l k.v / 2 ^ (n - 1) := (Int.le_ediv_iff_mul_le p1).mpr (by omega)
        have z2 : mn k.m ((k.v ||| k.u : Nat) : Int) / 2 ^ (n - 1) < 2 := (Int.ediv_lt_iff_lt_mul p1).mpr (by omega)
        omega
      have r2 : 0 ≤ mn k.m ((k.v ||| k.u : Nat) : Int) := by
        have z1 : 0 ≤ mx k.l k.v / 2 ^ (n - 1) := Int.ediv_nonneg (by omega) (by omega)
        rw [c2] at z1
        exact Int.not_lt.mp fun z => by have := Int.ediv_neg_of_neg_of_pos z p1; omega
      walk_at "rd"
      refine ⟨_, n, rfl, h1, h2, by omega, r1, ?_⟩
      walk_at "rd"
      refine ⟨_, n, rfl, h1, h2, r2, by omega, ?_⟩
      walk_at "rd"
      refine ⟨rfl, ?_⟩
      unfold lo1 hi1 endL endH
      rw [if_pos c, if_pos c]
      rfl
    · refine ite_n (decide_eq_false c) ?_
      refine ⟨rfl, ?_⟩
      unfold lo1 hi1 endL endH
      rw [if_neg c, if_neg c]
      rfl
  obtain ⟨rfl, rfl⟩ := hm
  refine rd_join (fun σ H2 => H2 = H' ∧ ∃ L M : Int, σ = [some (.ref t), some (.int n), some (.int k.v), some (.int k.u), some (.int L), some (.int M), some (.int (lo1 n k)), some (.int (hi1 n k)), none, none] ∧ (¬ hi1 n k < lo1 n k → L = l1 n k ∧ M = m1 n k)) ?_ (fun σ H2 hm => ?_)
  · have yes : (0 ≤ lo1 n k ∨ hi1 n k < 0) → ¬ hi1 n k < lo1 n k → decide (lo1 n k < 0) = decide (hi1 n k < 0) := by
      intro a b
      by_cases c : lo1 n k < 0
      · rw [decide_eq_true c, decide_eq_true (show hi1 n k < 0 by omega)]
      · rw [decide_eq_false c, decide_eq_false (show ¬ hi1 n k < 0 by omega)]
    have fin : (0 ≤ lo1 n k ∨ hi1 n k < 0) → ¬ hi1 n k < lo1 n k → mx (mx k.l k.v) (lo1 n k % 2 ^ n) = l1 n k ∧ mn (mn k.m ((k.v ||| k.u : Nat) : Int)) (hi1 n k % 2 ^ n) = m1 n k := by
      intro a b
      have := yes a b
      unfold l1 m1 endl endm
      rw [if_pos this, if_pos this]
      exact ⟨rfl, rfl⟩
    have e1 : (1 : Int) * 2 ^ (n : Int).toNat = 2 ^ n := by rw [Int.one_mul, Int.toNat_natCast]
    walk_at "rd"
    refine ite2 (fun c1 => ?_) (fun c1 => ?_)
    · walk_at "rd"
      rw [e1]
      exact ⟨rfl, _, _, rfl, fin (.inl (of_decide_eq_true c1))⟩
    · walk_at "rd"
      refine ite2 (fun c2 => ?_) (fun c2 => ?_)
      · walk_at "rd"
        rw [e1]
        exact ⟨rfl, _, _, rfl, fin (.inr (of_decide_eq_true c2))⟩
      · refine ⟨rfl, _, _, rfl, fun _ => ?_⟩
        have d1 : lo1 n k < 0 := Int.not_le.mp fun z => c1 (decide_eq_true z)
        have d2 : ¬ hi1 n k < 0 := fun z => c2 (decide_eq_true z)
        have : ¬ decide (lo1 n k < 0) = decide (hi1 n k < 0) := by rw [decide_eq_true d1, decide_eq_false d2]; exact fun z => by cases z
        unfold l1 m1 endl endm
        rw [if_neg this, if_neg this]
        exact ⟨rfl, rfl⟩
  obtain ⟨rfl, L, M, rfl, hLM⟩ := hm
  walk_at "rd"
  have none1 : M < L → ∀ H', Same H2 H' → Q .non H' := by
    intro c
    by_cases d : hi1 n k < lo1 n k
    · exact q1 (.inr d)
    · obtain ⟨rfl, rfl⟩ := hLM d
      exact q1 (.inl c)
  refine ite2 (fun c1 => ?_) (fun c1 => ?_)
  · walk_at "rd"
    exact none1 (of_decide_eq_true c1) _ (Same.refl _)
  walk_at "rd"
  refine ite2 (fun c2 => ?_) (fun c2 => ?_)
  · walk_at "rd"
    exact q1 (.inr (of_decide_eq_true c2)) _ (Same.refl _)
  obtain ⟨rfl, rfl⟩ := hLM fun z => c2 (decide_eq_true z)
  obtain ⟨l, m, el, em, hl, hm, lm, qn, qs⟩ := q2 (fun z => z.elim (fun y => c1 (decide_eq_true y)) (fun y => c2 (decide_eq_true y)))
  rw [el, em] at *
  walk_at "rd"
  have stop : ∀ j, l / 2 ^ j = m / 2 ^ j → Agree j k.v k.u l → (j = 0 ∨ ∃ i, j = i + 1 ∧ ¬ l / 2 ^ i = m / 2 ^ i) → bitsM k.v k.u l m = some (vAt k.v l j, k.u % 2 ^ j) := by
    intro j e a h
    have b1 := (div_xor l m j).mp e
    have b2 : bl (l ^^^ m) = j := by
      rcases h with rfl | ⟨i, rfl, ne⟩
      · omega
      · have : ¬ bl (l ^^^ m) ≤ i := fun z => ne ((div_xor l m i).mpr z)
        omega
    rw [← b2] at a ⊢
    exact bitsM_at sb a
  have pm : ∀ x : Nat, x < 2 ^ n → x % 2 ^ n = x := fun x h => Nat.mod_eq_of_lt h
  have big : ∀ (x i : Nat), x < 2 ^ n → n ≤ i → x.testBit i = false := fun x i h hi => Nat.testBit_lt_two_pow (Nat.lt_of_lt_of_le h (Nat.pow_le_pow_right (by decide) hi))
  refine rd_while (fun j σ H1 => H1 = H2 ∧ ∃ y, σ = [some (.ref t), some (.int n), some (.int (vAt k.v l j : Nat)), some (.int (k.u % 2 ^ j : Nat)), some (.int l), some (.int m), some (.int (lo1 n k)), some (.int (hi1 n k)), some (.int ((j : Int) - 1)), y] ∧ j ≤ n ∧ l / 2 ^ j = m / 2 ^ j ∧ Agree j k.v k.u l) n ⟨rfl, none, ?_, Nat.le_refl _, ?_, ?_⟩ (fun j σ H1 hW => ?_)
  · unfold vAt
    rw [Nat.div_eq_of_lt hl, pm _ vn, pm _ un, Nat.zero_mul, Nat.zero_add]
    rfl
  · rw [Nat.div_eq_of_lt hl, Nat.div_eq_of_lt hm]
  · intro i hi _
    rw [big _ _ vn hi, big _ _ hl hi]
  obtain ⟨rfl, y, rfl, jn, ej, aj⟩ := hW
  cases j with
  | zero =>
    walk_at "rd"
    refine ite_n (by decide) ?_
    walk_at "rd"
    exact fun p H' np s' hp => qs _ _ (stop 0 ej aj (.inl rfl)) p H' np s' hp
  | succ i =>
    rw [show ((i + 1 : Nat) : Int) - 1 = (i : Int) by omega]
    walk_at "rd"
    refine ite_b (decide_eq_true (by omega)) ?_
    walk_at "rd"
    rw [Int.toNat_natCast, div_cast, div_cast, dec_int]
    by_cases c : l / 2 ^ i = m / 2 ^ i
    · refine ite_b (decide_eq_true c) ?_
      refine ⟨_, fun _ _ h => h, ?_⟩
      walk_at "rd"
      rw [Int.toNat_natCast, div_cast, div_cast, and1_cast, and1_cast, dec_I, bit_u]
      have ai : (k.u / 2 ^ i % 2 = 0 ∨ k.u / 2 ^ i % 2 = 1) := by omega
      have l2 : l / 2 ^ i % 2 ≤ 1 := by omega
      by_cases d : k.u / 2 ^ i % 2 = 1
      · refine ite_b (decide_eq_true (by omega)) ?_
        walk_at "rd"
        obtain ⟨t1, t2⟩ := turn_unsure (l := l) sb d
        refine ⟨i, by omega, rfl, some (.int ((l / 2 ^ i % 2 : Nat) : Int)), ?_, by omega, c, agree_down aj (.inl d)⟩
        rw [Int.one_mul, Int.toNat_natCast, t1, t2]
        have f1 : ((k.u % 2 ^ i + 2 ^ i : Nat) : Int) - 2 ^ i = ((k.u % 2 ^ i : Nat) : Int) := by have := nat_pow_cast i; omega
        have f2 : ((vAt k.v l (i + 1) : Nat) : Int) + ((l / 2 ^ i % 2 : Nat) : Int) * 2 ^ i = ((vAt k.v l (i + 1) + l / 2 ^ i % 2 * 2 ^ i : Nat) : Int) := by
          rw [Int.natCast_add, Int.natCast_mul, nat_pow_cast]
        rw [f1, f2]
        rfl
      · refine ite_n (decide_eq_false (by omega)) ?_
        walk_at "rd"
        rw [Int.toNat_natCast, div_cast, and1_cast, bit_v, dec_int]
        by_cases e : k.v / 2 ^ i % 2 = l / 2 ^ i % 2
        · refine ite_n (by rw [decide_eq_true e]; rfl) ?_
          walk_at "rd"
          obtain ⟨t1, t2⟩ := turn_sure (u := k.u) (l := l) (by omega) e
          refine ⟨i, by omega, rfl, some (.int ((l / 2 ^ i % 2 : Nat) : Int)), ?_, by omega, c, agree_down aj (.inr e)⟩
          rw [t1, t2]
          rfl
        · refine ite_b (by rw [decide_eq_false e]; rfl) ?_
          walk_at "rd"
          exact qn (bitsM_no (agree_not (by omega) e ((div_xor l m i).mp c))) _ (Same.refl _)
    · refine ite_n (decide_eq_false c) ?_
      walk_at "rd"
      exact fun p H' np s' hp => qs _ _ (stop (i + 1) ej aj (.inr ⟨i, rfl, c⟩)) p H' np s' hp
theorem ok_l_settled (T : Txt K mg) : FnOk P w K mg base CX0 3 T.a_l_settled T.fd_l_settled ["_law_known", "_law_size"] (spSettled K) := by
  refine T.F_l_settled.ok sc_l_settled (fun vs H Q E h => by obtain ⟨t, k, n, rfl, _⟩ := h; rfl) (fun cdv A outer s H vs Q E hr h => ?_)
  obtain ⟨t, k, n, rfl, ht, h1, h2, sb, q⟩ := h
  have so := settle_ok sb
  refine ⟨_, (pss_cons (ps_set (i := 2) sc_l_settled.nd rfl (.inl rfl) (pe_call (ok_turn T) (hr.mono (by decide)) (by rfl) T.g_turn T.F_turn.kp T.b_turn .nil pass0 (pa_cons (pv 0) (pa_cons (pv 1) pa_nil))))
 (pss_cons (ps_while PassesOwn.never (PW.pt (pw_and (pt_cmpR op_notN (pv 2) pe_non (nomark _)) (pw_and1 (pt_cmpR (op_neD hr.units) (pv 2) (pv 0) (nomark _)))))
  (pss_cons (ps_set (i := 0) sc_l_settled.nd rfl (.inl rfl) (pv 2))
 (pss_one (ps_set (i := 2) sc_l_settled.nd rfl (.inl rfl) (pe_call (ok_turn T) (hr.mono (by decide)) (by rfl) T.g_turn T.F_turn.kp T.b_turn .nil pass0 (pa_cons (pv 0) (pa_cons (pv 1) pa_nil)))))))
 (pss_one (ps_ret (pv 2))))), ?_⟩
  walk_at "rd"
  let W : Nat → L2.St → Hp → Prop := fun m σ H1 => ∃ (a : Addr) (ka : Kn) (tv : V), σ = [some (.ref a), some (.int n), some tv] ∧ Same H H1 ∧ SqT K H1 a (kT ka) ∧ Sb n ka.v ka.u ∧ Stl n ka (settle n k) ∧
    ((onceK n ka = none ∧ tv = .non ∧ m = 0) ∨ ∃ (p : Addr) (kp : Kn), onceK n ka = some kp ∧ tv = .ref p ∧ H p = none ∧ H1 p = some (.tup (kT kp)) ∧ m = if kp = ka then 0 else mu kp + 1)
  have first : ∀ (a : Addr) (ka : Kn) (H1 : Hp), Same H H1 → SqT K H1 a (kT ka) → Sb n ka.v ka.u → Stl n ka (settle n k) → ∀ R : VK, (∀ tv H2 m, W m [some (.ref a), some (.int n), some tv] H2 → (m = 0 ∨ ∃ kp, onceK n ka = some kp ∧ kp ≠ ka ∧ m = mu kp + 1) → R tv H2) → OptAt H1 (onceK n ka) R := by
    intro a ka H1 s1 ha sa st R hR
    refine ⟨fun e H2 s2 => hR _ H2 0 ⟨a, ka, _, rfl, s1.trans s2, sqT_same s2 ha, sa, st, .inl ⟨e, rfl, rfl⟩⟩ (.inl rfl), fun kp e p H2 np s2 hp => hR _ H2 (if kp = ka then 0 else mu kp + 1) ⟨a, ka, _, rfl, s1.trans s2, sqT_same s2 ha, sa, st, .inr ⟨p, kp, e, rfl, s1.free np, hp, rfl⟩⟩ ?_⟩
    by_cases c : kp = ka
    · exact .inl (if_pos c)
    · exact .inr ⟨kp, e, c, if_neg c⟩
  refine ⟨t, k, n, rfl, ht, h1, h2, sb, first t k H (Same.refl H) ht sb so _ fun tv H1 m0 w0 _ => ?_⟩
  walk_at "rd"
  refine rd_while W m0 w0 (fun m σ H1 hW => ?_)
  obtain ⟨a, ka, tv, rfl, s1, ha, sa, st, hh⟩ := hW
  rcases hh with ⟨e, rfl, rfl⟩ | ⟨p, kp, e, rfl, np, hp, rfl⟩
  · walk_at "rd"
    exact q.1 (st.det (.no e)) H1 s1
  · walk_at "rd"
    refine rd_neD (dp_kT (SqT.of hp)) (dp_kT ha) (by rfl) (by rfl) ?_
    rw [eqv_kn]
    walk_at "rd"
    by_cases c : kp = ka
    · subst c
      refine ite_n (by rw [decide_eq_true rfl]; rfl) ?_
      walk_at "rd"
      exact q.2 kp (st.det (.fix e)) p H1 np s1 hp
    · refine ite_b (by rw [decide_eq_false c]; rfl) ?_
      rw [if_neg c]
      refine ⟨fun σ' H' => ∃ m', m' < mu kp + 1 ∧ W m' σ' H', fun _ _ h => h, ?_⟩
      have st' : Stl n kp (settle n k) := by
        obtain ⟨r, t'⟩ := Stl.all (n := n) (k := kp) (once_some sa e).1.sb
        rw [st.det (.go e c t')]
        exact t'
      have d' := (once_some sa e).1
      walk_at "rd"
      refine ⟨p, kp, n, rfl, SqT.of hp, h1, h2, d'.sb, first p kp H1 s1 (SqT.of hp) d'.sb st' _ fun tv H2 m2 w2 hm => ?_⟩
      walk_at "rd"
      refine ⟨m2, ?_, w2⟩
      rcases hm with rfl | ⟨k2, e2, c2, rfl⟩
      · omega
      · have := once_dec d' e2 c2
        omega
theorem ite_eqo {r : Option Kn} {A B : Prop} (q : B) : if (!PyData.eqv (oD r) (oD r)) = true then A else B := by
  have : PyData.eqv (oD r) (oD r) = true := by
    cases r with
    | none => rfl
    | some k => unfold oD kD; rw [eqv_kn]; exact decide_eq_true rfl
  rw [this]
  exact iteF q
def spLaw (K : PySem.W.Frag) : Sp := fun vs H Q _ => ∃ (a : Addr) (ns : List Int), vs = [.ref a] ∧ SqL K H a (ns.map V.int) ∧ ns.length ≤ 63 ∧ ∀ H', Q (.bl true) H'
theorem ok_law (T : Txt K mg) {f : Addr} {fd : FuncData} (F : Fun K "law" "law" s_law f fd) : FnG P w K mg base CX0 6 f fd ["_law_script"] (spLaw K) := by
  refine fnG0 F sc_law (fun vs H Q E h => by obtain ⟨a, ns, rfl, _⟩ := h; rfl) (fun cdv A outer s H vs Q E hr gd h => ?_)
  obtain ⟨a, ns, rfl, hS, hlen, q⟩ := h
  replace gd := gd.deep (envOfC "law" (defScope s_law) s.heap.objs.size f cdv)
  refine ⟨_, (pss_cons (ps_for PassesOwn.never rfl (pi_range1 (by rfl) T.b_range (pa_cons (pe_callB (call_max2 rfl) (by rfl) T.b_max (by decide +kernel) (pa_cons pe_int (pa_cons (pe_callB (call_min2 rfl) (by rfl) T.b_min (by decide +kernel) (pa_cons (pe_callB call_len_seq (by rfl) T.b_len (by decide +kernel) (pa_cons (pv 0) pa_nil)) (pa_cons pe_int pa_nil))) pa_nil))) pa_nil)) (pg_name (i := 1) sc_law.nd rfl (.inl rfl))
  (pss_cons (ps_set (i := 2) sc_law.nd rfl (.inl rfl) (pe_call (ok_pool T) (hr.mono (by decide)) (by rfl) T.g_pool T.F_pool.kp T.b_pool .nil pass0 (pa_cons (pv 0) (pa_cons (pv 1) pa_nil))))
 (pss_cons (ps_set (i := 3) sc_law.nd rfl (.inl rfl) (pe_op op_add pe_int (pe_call (ok_take T) (hr.mono (by decide)) (by rfl) T.g_take T.F_take.kp T.b_take .nil pass0 (pa_cons (pv 2) (pa_cons pe_int pa_nil)))))
 (pss_cons (ps_set (i := 4) sc_law.nd rfl (.inl rfl) (pe_call (ok_top T) (hr.mono (by decide)) (by rfl) T.g_top T.F_top.kp T.b_top .nil pass0 (pa_cons (pv 3) pa_nil)))
 (pss_cons (ps_set (i := 5) sc_law.nd rfl (.inl rfl) (pe_op op_shl pe_int (pe_op op_sub (pv 3) pe_int)))
 (pss_cons (ps_set (i := 6) sc_law.nd rfl (.inl rfl) (pe_lstN (pa_cons (pe_call (ok_take T) (hr.mono (by decide)) (by rfl) T.g_take T.F_take.kp T.b_take .nil pass0 (pa_cons (pv 2) (pa_cons (pe_op op_add (pv 4) pe_int) pa_nil))) (pa_cons (pe_call (ok_take T) (hr.mono (by decide)) (by rfl) T.g_take T.F_take.kp T.b_take .nil pass0 (pa_cons (pv 2) (pa_cons (pe_op op_add (pv 4) pe_int) pa_nil))) pa_nil))))
 (pss_cons (ps_set (i := 7) sc_law.nd rfl (.inl rfl) (pe_lstN (pa_cons (pe_callB cr_sorted (by rfl) T.b_sorted (by decide +kernel) (pa_cons (pv 6) pa_nil)) (pa_cons (pe_lstN (pa_cons pe_int (pa_cons (pv 4) pa_nil))) (pa_cons (pe_lstN (pa_cons (pe_ix ix_list (pv 6) pe_int (fun _ _ => rfl)) (pa_cons (pe_ix ix_list (pv 6) pe_int (fun _ _ => rfl)) pa_nil))) (pa_cons (pe_lstN (pa_cons pe_int (pa_cons (pe_callB (cr_max rfl) (by rfl) T.b_max (by decide +kernel) (pa_cons (pv 6) pa_nil)) pa_nil))) (pa_cons (pe_lstN (pa_cons (pe_callB (cr_min rfl) (by rfl) T.b_min (by decide +kernel) (pa_cons (pv 6) pa_nil)) (pa_cons (pv 4) pa_nil))) pa_nil)))))))
 (pss_cons (ps_asg (pe_ix ix_list (pv 7) (pe_call (ok_take T) (hr.mono (by decide)) (by rfl) T.g_take T.F_take.kp T.b_take .nil pass0 (pa_cons (pv 2) (pa_cons pe_int pa_nil))) (fun _ _ => rfl)) (pg_unl rfl (pgs_cons (pg_name (i := 8) sc_law.nd rfl (.inl rfl)) (pgs_cons (pg_name (i := 9) sc_law.nd rfl (.inl rfl)) pgs_nil))))
 (pss_cons (ps_set (i := 10) sc_law.nd rfl (.inl rfl) (pe_call (ok_l_settled T) (hr.mono (by decide)) (by rfl) T.g_l_settled T.F_l_settled.kp T.b_l_settled .nil pass0 (pa_cons (pe_tupN (pa_cons pe_int (pa_cons (pv 4) (pa_cons (pv 8) (pa_cons (pv 9) (pa_cons (pe_op op_sub pe_int (pv 5)) (pa_cons (pe_op op_sub (pv 5) pe_int) pa_nil))))))) (pa_cons (pv 3) pa_nil))))
 (pss_cons (ps_if (pt_cmpR op_ne (pe_callB (call_repA gd hr.units) (by rfl) T.b_repr (by decide +kernel) (pa_cons (pe_callN (ok_span T) (hr.mono (by decide)) (by rfl) T.g_span T.F_span.kp T.k_span pass0 (pa_cons (pv 8) (pa_cons (pv 9) pa_nil)) (pk_cons (pv 3) pk_nil)) pa_nil)) (pe_callB (call_repA gd hr.units) (by rfl) T.b_repr (by decide +kernel) (pa_cons (pv 10) pa_nil)) (nomark _))
  (pss_one (ps_ret pe_bl))
  pss_nil)
 (pss_cons (ps_if (pt_cmpR op_ne (pe_callB (call_repA gd hr.units) (by rfl) T.b_repr (by decide +kernel) (pa_cons (pe_callN0 (ok_all_of T) (hr.mono (by decide)) (by rfl) T.g_all_of T.F_all_of.kp T.k_all_of pass0 (pk_cons (pv 3) pk_nil)) pa_nil)) (pe_callB (call_repA gd hr.units) (by rfl) T.b_repr (by decide +kernel) (pa_cons (pe_tupN (pa_cons pe_int (pa_cons (pv 4) (pa_cons pe_int (pa_cons (pv 4) (pa_cons (pe_op op_sub pe_int (pv 5)) (pa_cons (pe_op op_sub (pv 5) pe_int) pa_nil))))))) pa_nil)) (nomark _))
  (pss_one (ps_ret pe_bl))
  pss_nil)
 (pss_cons (ps_set (i := 11) sc_law.nd rfl (.inl rfl) (pe_call (ok_l_signed T) (hr.mono (by decide)) (by rfl) T.g_l_signed T.F_l_signed.kp T.b_l_signed .nil pass0 (pa_cons (pv 8) (pa_cons (pv 3) pa_nil))))
 (pss_cons (ps_if (pt_cmpR op_ne (pe_callB (call_repA gd hr.units) (by rfl) T.b_repr (by decide +kernel) (pa_cons (pe_callN (ok_just T) (hr.mono (by decide)) (by rfl) T.g_just T.F_just.kp T.k_just pass0 (pa_cons (pv 8) pa_nil) (pk_cons (pv 3) pk_nil)) pa_nil)) (pe_callB (call_repA gd hr.units) (by rfl) T.b_repr (by decide +kernel) (pa_cons (pe_tupN (pa_cons (pv 8) (pa_cons pe_int (pa_cons (pv 8) (pa_cons (pv 8) (pa_cons (pv 11) (pa_cons (pv 11) pa_nil))))))) pa_nil)) (nomark _))
  (pss_one (ps_ret pe_bl))
  pss_nil)
 (pss_cons (ps_asg (pe_callB cr_sorted (by rfl) T.b_sorted (by decide +kernel) (pa_cons (pe_lstN (pa_cons (pe_call (ok_take T) (hr.mono (by decide)) (by rfl) T.g_take T.F_take.kp T.b_take .nil pass0 (pa_cons (pv 2) (pa_cons pe_int pa_nil))) (pa_cons (pe_call (ok_take T) (hr.mono (by decide)) (by rfl) T.g_take T.F_take.kp T.b_take .nil pass0 (pa_cons (pv 2) (pa_cons pe_int pa_nil))) pa_nil))) pa_nil)) (pg_unl rfl (pgs_cons (pg_name (i := 8) sc_law.nd rfl (.inl rfl)) (pgs_cons (pg_name (i := 9) sc_law.nd rfl (.inl rfl)) pgs_nil))))
 (pss_cons (ps_if (pt_cmpR (op_neD hr.units) (pe_call (ok_span T) (hr.mono (by decide)) (by rfl) T.g_span T.F_span.kp T.b_span T.v_span pass0 (pa_cons (pv 8) (pa_cons (pv 9) pa_nil))) (pe_call (ok_l_settled T) (hr.mono (by decide)) (by rfl) T.g_l_settled T.F_l_settled.kp T.b_l_settled .nil pass0 (pa_cons (pe_tupN (pa_cons pe_int (pa_cons pe_int (pa_cons (pv 8) (pa_cons (pv 9) (pa_cons (pe_un un_neg pe_int) (pa_cons pe_int pa_nil))))))) (pa_cons pe_int pa_nil))) (nomark _))
  (pss_one (ps_ret pe_bl))
  pss_nil)
 (pss_one (ps_if (PW.pt (pw_or (pt_cmpR (op_neD hr.units) (pe_call (ok_just T) (hr.mono (by decide)) (by rfl) T.g_just T.F_just.kp T.b_just T.v_just pass0 (pa_cons (pv 8) pa_nil)) (pe_call (ok_span T) (hr.mono (by decide)) (by rfl) T.g_span T.F_span.kp T.b_span T.v_span pass0 (pa_cons (pv 8) (pa_cons (pv 8) pa_nil))) (nomark _)) (pw_or1 (pt_cmpR (op_neD hr.units) (pe_call0 (ok_all_of T) (hr.mono (by decide)) (by rfl) T.g_all_of T.F_all_of.kp T.b_all_of T.v_all_of pass0) (pe_tupN (pa_cons pe_int (pa_cons pe_int (pa_cons pe_int (pa_cons pe_int (pa_cons (pe_un un_neg pe_int) (pa_cons pe_int pa_nil))))))) (nomark _)))))
  (pss_one (ps_ret pe_bl))
  pss_nil)))))))))))))))))
 (pss_one (ps_ret pe_bl))), ?_⟩
  walk_at "rd"
  refine ⟨by (repeat' split) <;> omega, by (repeat' split) <;> omega, ?_⟩
  refine for_range (lo := 0) (fun i σ H1 => ∃ y1 y2 y3 y4 y5 y6 y7 y8 y9 y10 y11, σ = [some (.ref a), y1, y2, y3, y4, y5, y6, y7, y8, y9, y10, y11] ∧ SqL K H1 a (ns.map V.int)) ⟨none, none, none, none, none, none, none, none, none, none, none, rfl, hS⟩ (fun i σ H1 hi hW => ?_) (fun σ H1 hW => ?_)
  · obtain ⟨y1, y2, y3, y4, y5, y6, y7, y8, y9, y10, y11, rfl, hS1⟩ := hW
    have hi2 : i < 16 := Nat.lt_of_lt_of_le hi (by (repeat' split) <;> omega)
    clear hi
    walk_at "rd"
    refine ⟨a, ns, _, rfl, hS1, by omega, by omega, fun H2 p np s2 p2 => ?_⟩
    walk_at "rd"
    refine ⟨p, 32, rfl, p2, by decide, by decide, fun r H3 r0 r1 k3 => ?_⟩
    walk_at "rd"
    obtain ⟨n, hn⟩ : ∃ n : Nat, 1 + r = (n : Int) := ⟨(1 + r).toNat, by omega⟩
    have n1 : 1 ≤ n := by omega
    have n32 : n ≤ 32 := by omega
    rw [hn]
    clear hn r0 r1
    have pw := pow32 n32
    have pp := two_le n1
    have pc := nat_pow_cast n
    refine ⟨n, rfl, by omega, ?_⟩
    walk_at "rd"
    rw [to1 n1, Int.one_mul]
    refine ⟨p, _, rfl, k3.1, by omega, by omega, fun x H4 x0 x1 k4 => ?_⟩
    walk_at "rd"
    refine ⟨p, _, rfl, k4.1, by omega, by omega, fun y H5 y0 y1 k5 => ?_⟩
    walk_at "rd"
    refine fun c Hc nc sc hc => ?_
    walk_at "rd"
    have k6 := ((k3.trans k4).trans k5).same sc
    have ncp : c ≠ p := ((k3.trans k4).trans k5).1.ne nc
    refine rd_sort2 (SqL.of hc) (fun c1 d1 cd ce q1 Hq1 nq1 sq1 hq1 => ?_)
    have k7 := k6.same sq1
    replace hc := sq1 _ _ hc
    walk_at "rd"
    refine fun q2 Hq2 nq2 sq2 hq2 => ?_
    replace hc := sq2 _ _ hc
    walk_at "rd"
    refine fun q3 Hq3 nq3 sq3 hq3 => ?_
    replace hc := sq3 _ _ hc
    walk_at "rd"
    refine rd_max (ns := [x, y]) (SqL.of hc) (by simp) (fun mxv mm me => ?_)
    walk_at "rd"
    refine fun q4 Hq4 nq4 sq4 hq4 => ?_
    replace hc := sq4 _ _ hc
    walk_at "rd"
    refine rd_min (ns := [x, y]) (SqL.of hc) (by simp) (fun mnv nm ne => ?_)
    walk_at "rd"
    refine fun q5 Hq5 nq5 sq5 hq5 => ?_
    walk_at "rd"
    refine fun e He ne1 se he => ?_
    walk_at "rd"
    simp only [List.mem_cons, List.not_mem_nil, or_false] at mm nm
    have k8 := ((((k7.same sq2).same sq3).same sq4).same sq5).same se
    have nep : e ≠ p := ((((k7.same sq2).same sq3).same sq4).same sq5).1.ne ne1
    refine ⟨p, 5, rfl, k8.1, by decide, by decide, fun u H6 u0 u1 k9 => ?_⟩
    walk_at "rd"
    have p7 := k6.1
    have g1 := k9.at (p7.ne nq1) (se _ _ (sq5 _ _ (sq4 _ _ (sq3 _ _ (sq2 _ _ hq1)))))
    have g2 := k9.at ((k7).1.ne nq2) (se _ _ (sq5 _ _ (sq4 _ _ (sq3 _ _ hq2))))
    have g3 := k9.at ((k7.same sq2).1.ne nq3) (se _ _ (sq5 _ _ (sq4 _ _ hq3)))
    have g4 := k9.at (((k7.same sq2).same sq3).1.ne nq4) (se _ _ (sq5 _ _ hq4))
    have g5 := k9.at ((((k7.same sq2).same sq3).same sq4).1.ne nq5) (se _ _ hq5)
    obtain ⟨lv, ev, mv⟩ := atI_in (xs := [V.ref q1, V.ref q2, V.ref q3, V.ref q4, V.ref q5]) u0 u1
    obtain ⟨z, l, m, rfl, hz, l0, lm, mt⟩ : ∃ (z : Addr) (l m : Int), lv = .ref z ∧ H6 z = some (.lst [.int l, .int m]) ∧ 0 ≤ l ∧ l ≤ m ∧ m < 2 ^ n := by
      simp only [List.mem_cons, List.not_mem_nil, or_false] at mv
      rcases mv with rfl | rfl | rfl | rfl | rfl
      · exact ⟨_, _, _, rfl, g1, by omega, cd, by omega⟩
      · exact ⟨_, _, _, rfl, g2, by omega, by omega, by omega⟩
      · exact ⟨_, _, _, rfl, g3, by omega, by omega, by omega⟩
      · exact ⟨_, _, _, rfl, g4, by omega, by omega, by omega⟩
      · exact ⟨_, _, _, rfl, g5, by omega, by omega, by omega⟩
    refine rd_ixL (SqL.of (k9.at nep he)) ev ?_
    refine rd_unl (SqL.of hz) rfl ?_
    walk_at "rd"
    refine fun t Ht nt st ht => ?_
    walk_at "rd"
    have k10 := (k8.trans k9).same st
    have et : kT (spanK n l m) = [V.int 0, V.int (2 ^ n - 1), V.int l, V.int m, V.int (0 - 2 ^ (n - 1)), V.int (2 ^ (n - 1) - 1)] := by
      unfold spanK kT
      simp only
      rw [← top_cast, Int.zero_sub]
      rfl
    have bs : Bd (settle n (spanK n l m)) := (kw_span n1 (by omega) (by omega) (by omega) (by omega)).settle n32
    refine ⟨t, spanK n l m, n, rfl, SqT.of (by rw [et]; exact ht), n1, n32, sb_top n, optAt_of (K := K) fun v1 Hv1 sv1 ov1 => ?_⟩
    walk_at "rd"
    refine ⟨rfl, rfl, l, m, n, rfl, n1, n32, optAt_of (K := K) fun v2 Hv2 sv2 ov2 => ?_⟩
    walk_at "rd"
    refine rd_repA (ov2.rp bs) ?_
    walk_at "rd"
    refine rd_repA ((ov1.same sv2).rp bs) ?_
    walk_at "rd"
    refine ⟨rfl, rfl, n, rfl, n1, n32, fun j1 Hj1 nj1 sj1 hj1 => ?_⟩
    walk_at "rd"
    refine rd_repA (rp_kT (SqT.of hj1) ((kw_all n1).bd n32)) ?_
    walk_at "rd"
    refine fun j2 Hj2 nj2 sj2 hj2 => ?_
    have ea : kT (allK n) = [V.int 0, V.int (2 ^ n - 1), V.int 0, V.int (2 ^ n - 1), V.int (0 - 2 ^ (n - 1)), V.int (2 ^ (n - 1) - 1)] := by
      unfold allK kT
      simp only
      rw [← top_cast, Int.zero_sub]
      rfl
    walk_at "rd"
    refine rd_repA (rp_kT (k := allK n) (SqT.of (by rw [ea]; exact hj2)) ((kw_all n1).bd n32)) ?_
    walk_at "rd"
    refine ⟨l, n, rfl, n1, n32, l0, by omega, ?_⟩
    walk_at "rd"
    refine ⟨rfl, rfl, l, n, rfl, n1, n32, l0, fun j3 Hj3 nj3 sj3 hj3 => ?_⟩
    walk_at "rd"
    have bj := (kw_just n1 l0 (show l < 2 ^ n by omega)).bd n32
    refine rd_repA (rp_kT (SqT.of hj3) bj) ?_
    walk_at "rd"
    refine fun j4 Hj4 nj4 sj4 hj4 => ?_
    have ej : kT (justK n l) = [V.int l, V.int 0, V.int l, V.int l, V.int (sg n l), V.int (sg n l)] := by
      unfold justK kT
      simp only [Int.toNat_of_nonneg l0]
      rfl
    walk_at "rd"
    refine rd_repA (rp_kT (k := justK n l) (SqT.of (by rw [ej]; exact hj4)) bj) ?_
    walk_at "rd"
    have k11 := (((((k10.same sv1).same sv2).same sj1).same sj2).same sj3).same sj4
    refine ⟨p, 65536, rfl, k11.1, by decide, by decide, fun x2 H7 x20 x21 k12 => ?_⟩
    walk_at "rd"
    refine ⟨p, 65536, rfl, k12.1, by decide, by decide, fun y2 H8 y20 y21 k13 => ?_⟩
    walk_at "rd"
    refine fun c2 Hc2 nc2 sc2 hc2 => ?_
    walk_at "rd"
    refine rd_sort2 (SqL.of hc2) (fun l2 m2 lm2 le2 q6 Hq6 nq6 sq6 hq6 => ?_)
    refine rd_unl (SqL.of hq6) rfl ?_
    walk_at "rd"
    refine ⟨l2, m2, 16, rfl, by decide, by decide, optAt_of (K := K) fun v3 Hv3 sv3 ov3 => ?_⟩
    walk_at "rd"
    refine fun t2 Ht2 nt2 st2 ht2 => ?_
    walk_at "rd"
    have et2 : kT (spanK 16 l2 m2) = [V.int 0, V.int 65535, V.int l2, V.int m2, V.int (-32768), V.int 32767] := rfl
    refine ⟨t2, spanK 16 l2 m2, 16, rfl, SqT.of (by rw [et2]; exact ht2), by decide, by decide, sb_top 16, optAt_of (K := K) fun v4 Hv4 sv4 ov4 => ?_⟩
    walk_at "rd"
    refine rd_neD (((ov3.same st2).same sv4).dp) ov4.dp oD_shaped oD_shaped ?_
    walk_at "rd"
    refine ite_eqo ?_
    walk_at "rd"
    obtain ⟨lN, rfl⟩ := nat_of (i := l2) (by omega)
    refine ⟨_, 16, rfl, by decide, by decide, by omega, fun j5 Hj5 nj5 sj5 hj5 => ?_⟩
    walk_at "rd"
    refine ⟨_, _, 16, rfl, by decide, by decide, optAt_of (K := K) fun v5 Hv5 sv5 ov5 => ?_⟩
    walk_at "rd"
    rw [settle_just (by decide) (show lN < 2 ^ 16 by omega)] at ov5
    refine rd_neD (OptV.dp (r := some (justK 16 lN)) (.yes (sqT_same sv5 (SqT.of hj5)))) ov5.dp oD_shaped oD_shaped ?_
    walk_at "rd"
    refine ite_eqo ?_
    walk_at "rd"
    refine ⟨16, rfl, by decide, by decide, fun j6 Hj6 nj6 sj6 hj6 => ?_⟩
    walk_at "rd"
    refine fun j7 Hj7 nj7 sj7 hj7 => ?_
    walk_at "rd"
    have ea2 : kT (allK 16) = [V.int 0, V.int 65535, V.int 0, V.int 65535, V.int (-32768), V.int 32767] := rfl
    refine rd_neD (OptV.dp (r := some (allK 16)) (.yes (SqT.of (sj7 _ _ hj6)))) (OptV.dp (r := some (allK 16)) (.yes (SqT.of (by rw [ea2]; exact hj7)))) oD_shaped oD_shaped ?_
    walk_at "rd"
    refine ite_eqo ?_
    walk_at "rd"
    have s14 := ((k11.trans k12).trans k13).same ((((((((sc2.trans sq6).trans sv3).trans st2).trans sv4).trans sj5).trans sv5).trans sj6).trans sj7)
    exact ⟨_, _, _, _, _, _, _, _, _, _, _, rfl, (same_kp np s2 s14).seq hS1⟩
  · obtain ⟨y1, y2, y3, y4, y5, y6, y7, y8, y9, y10, y11, rfl, hS1⟩ := hW
    walk_at "rd"
    exact q _
end
theorem all_mk {l : PySem.W.OpenLaw} {w : World} {K : PySem.W.Frag} {h : Heap} {mg : Str → Option Value} {fa : Addr} (X : K.In h) (G : h.Ns mainGlobals mg) (hfa : mg "law" = some (.ref fa))
    {f0 : Addr} {od0 an0 : Option Addr} {sl0 : Array (Option Value)} {oc0 kV0 dc0 pm0 cd0 ct0 : Value}
    (x0 : PySem.W.nsIn K mainGlobals "greatest" = some (some (.ref f0))) (l0 : K.lookup f0 = some ⟨oc0, od0, .func (PySem.W.fnOf "greatest" "greatest" (defArgs s_greatest) (defBody s_greatest) (defScope s_greatest) .none kV0 dc0 pm0 an0 cd0 ct0), sl0⟩) (c0 : PySem.W.codeIn K cd0 "greatest" = true) (k0 : PySem.W.keepIn K (.ref f0) = true)
    {f1 : Addr} {od1 an1 : Option Addr} {sl1 : Array (Option Value)} {oc1  dc1 pm1 cd1 ct1 : Value} {D1 : Addr} {tk1 : Tok}
    (x1 : PySem.W.nsIn K mainGlobals "signed" = some (some (.ref f1))) (l1 : K.lookup f1 = some ⟨oc1, od1, .func (PySem.W.fnOf "signed" "signed" (defArgs s_signed) (defBody s_signed) (defScope s_signed) .none (.ref D1) dc1 pm1 an1 cd1 ct1), sl1⟩) (c1 : PySem.W.codeIn K cd1 "signed" = true) (k1 : PySem.W.keepIn K (.ref f1) = true)
    (w1 : PySem.W.nsIn K D1 "wide" = some (some (.int 16 tk1)))
    {f2 : Addr} {od2 an2 : Option Addr} {sl2 : Array (Option Value)} {oc2 kV2 dc2 pm2 cd2 ct2 : Value}
    (x2 : PySem.W.nsIn K mainGlobals "met_bits" = some (some (.ref f2))) (l2 : K.lookup f2 = some ⟨oc2, od2, .func (PySem.W.fnOf "met_bits" "met_bits" (defArgs s_met_bits) (defBody s_met_bits) (defScope s_met_bits) .none kV2 dc2 pm2 an2 cd2 ct2), sl2⟩) (c2 : PySem.W.codeIn K cd2 "met_bits" = true) (k2 : PySem.W.keepIn K (.ref f2) = true)
    {f3 : Addr} {od3 an3 : Option Addr} {sl3 : Array (Option Value)} {oc3 kV3 dc3 pm3 cd3 ct3 : Value}
    (x3 : PySem.W.nsIn K mainGlobals "lowest_signed" = some (some (.ref f3))) (l3 : K.lookup f3 = some ⟨oc3, od3, .func (PySem.W.fnOf "lowest_signed" "lowest_signed" (defArgs s_lowest_signed) (defBody s_lowest_signed) (defScope s_lowest_signed) .none kV3 dc3 pm3 an3 cd3 ct3), sl3⟩) (c3 : PySem.W.codeIn K cd3 "lowest_signed" = true) (k3 : PySem.W.keepIn K (.ref f3) = true)
    {f4 : Addr} {od4 an4 : Option Addr} {sl4 : Array (Option Value)} {oc4 kV4 dc4 pm4 cd4 ct4 : Value}
    (x4 : PySem.W.nsIn K mainGlobals "highest_signed" = some (some (.ref f4))) (l4 : K.lookup f4 = some ⟨oc4, od4, .func (PySem.W.fnOf "highest_signed" "highest_signed" (defArgs s_highest_signed) (defBody s_highest_signed) (defScope s_highest_signed) .none kV4 dc4 pm4 an4 cd4 ct4), sl4⟩) (c4 : PySem.W.codeIn K cd4 "highest_signed" = true) (k4 : PySem.W.keepIn K (.ref f4) = true)
    {f5 : Addr} {od5 an5 : Option Addr} {sl5 : Array (Option Value)} {oc5 kV5 dc5 pm5 cd5 ct5 : Value}
    (x5 : PySem.W.nsIn K mainGlobals "alike_bits" = some (some (.ref f5))) (l5 : K.lookup f5 = some ⟨oc5, od5, .func (PySem.W.fnOf "alike_bits" "alike_bits" (defArgs s_alike_bits) (defBody s_alike_bits) (defScope s_alike_bits) .none kV5 dc5 pm5 an5 cd5 ct5), sl5⟩) (c5 : PySem.W.codeIn K cd5 "alike_bits" = true) (k5 : PySem.W.keepIn K (.ref f5) = true)
    {f6 : Addr} {od6 an6 : Option Addr} {sl6 : Array (Option Value)} {oc6 kV6 dc6 pm6 cd6 ct6 : Value}
    (x6 : PySem.W.nsIn K mainGlobals "settled_ends" = some (some (.ref f6))) (l6 : K.lookup f6 = some ⟨oc6, od6, .func (PySem.W.fnOf "settled_ends" "settled_ends" (defArgs s_settled_ends) (defBody s_settled_ends) (defScope s_settled_ends) .none kV6 dc6 pm6 an6 cd6 ct6), sl6⟩) (c6 : PySem.W.codeIn K cd6 "settled_ends" = true) (k6 : PySem.W.keepIn K (.ref f6) = true)
    {f7 : Addr} {od7 an7 : Option Addr} {sl7 : Array (Option Value)} {oc7 kV7 dc7 pm7 cd7 ct7 : Value}
    (x7 : PySem.W.nsIn K mainGlobals "settled_once" = some (some (.ref f7))) (l7 : K.lookup f7 = some ⟨oc7, od7, .func (PySem.W.fnOf "settled_once" "settled_once" (defArgs s_settled_once) (defBody s_settled_once) (defScope s_settled_once) .none kV7 dc7 pm7 an7 cd7 ct7), sl7⟩) (c7 : PySem.W.codeIn K cd7 "settled_once" = true) (k7 : PySem.W.keepIn K (.ref f7) = true)
    {f8 : Addr} {od8 an8 : Option Addr} {sl8 : Array (Option Value)} {oc8  dc8 pm8 cd8 ct8 : Value} {D8 : Addr} {tk8 : Tok}
    (x8 : PySem.W.nsIn K mainGlobals "settled" = some (some (.ref f8))) (l8 : K.lookup f8 = some ⟨oc8, od8, .func (PySem.W.fnOf "settled" "settled" (defArgs s_settled) (defBody s_settled) (defScope s_settled) .none (.ref D8) dc8 pm8 an8 cd8 ct8), sl8⟩) (c8 : PySem.W.codeIn K cd8 "settled" = true) (k8 : PySem.W.keepIn K (.ref f8) = true)
    (w8 : PySem.W.nsIn K D8 "wide" = some (some (.int 16 tk8)))
    {f9 : Addr} {od9 an9 : Option Addr} {sl9 : Array (Option Value)} {oc9  dc9 pm9 cd9 ct9 : Value} {D9 : Addr} {tk9 : Tok}
    (x9 : PySem.W.nsIn K mainGlobals "all_of" = some (some (.ref f9))) (l9 : K.lookup f9 = some ⟨oc9, od9, .func (PySem.W.fnOf "all_of" "all_of" (defArgs s_all_of) (defBody s_all_of) (defScope s_all_of) .none (.ref D9) dc9 pm9 an9 cd9 ct9), sl9⟩) (c9 : PySem.W.codeIn K cd9 "all_of" = true) (k9 : PySem.W.keepIn K (.ref f9) = true)
    (w9 : PySem.W.nsIn K D9 "wide" = some (some (.int 16 tk9)))
    {f10 : Addr} {od10 an10 : Option Addr} {sl10 : Array (Option Value)} {oc10  dc10 pm10 cd10 ct10 : Value} {D10 : Addr} {tk10 : Tok}
    (x10 : PySem.W.nsIn K mainGlobals "just" = some (some (.ref f10))) (l10 : K.lookup f10 = some ⟨oc10, od10, .func (PySem.W.fnOf "just" "just" (defArgs s_just) (defBody s_just) (defScope s_just) .none (.ref D10) dc10 pm10 an10 cd10 ct10), sl10⟩) (c10 : PySem.W.codeIn K cd10 "just" = true) (k10 : PySem.W.keepIn K (.ref f10) = true)
    (w10 : PySem.W.nsIn K D10 "wide" = some (some (.int 16 tk10)))
    {f11 : Addr} {od11 an11 : Option Addr} {sl11 : Array (Option Value)} {oc11  dc11 pm11 cd11 ct11 : Value} {D11 : Addr} {tk11 : Tok}
    (x11 : PySem.W.nsIn K mainGlobals "span" = some (some (.ref f11))) (l11 : K.lookup f11 = some ⟨oc11, od11, .func (PySem.W.fnOf "span" "span" (defArgs s_span) (defBody s_span) (defScope s_span) .none (.ref D11) dc11 pm11 an11 cd11 ct11), sl11⟩) (c11 : PySem.W.codeIn K cd11 "span" = true) (k11 : PySem.W.keepIn K (.ref f11) = true)
    (w11 : PySem.W.nsIn K D11 "wide" = some (some (.int 16 tk11)))
    {f12 : Addr} {od12 an12 : Option Addr} {sl12 : Array (Option Value)} {oc12 kV12 dc12 pm12 cd12 ct12 : Value}
    (x12 : PySem.W.nsIn K mainGlobals "_law_pool" = some (some (.ref f12))) (l12 : K.lookup f12 = some ⟨oc12, od12, .func (PySem.W.fnOf "_law_pool" "_law_pool" (defArgs s_pool) (defBody s_pool) (defScope s_pool) .none kV12 dc12 pm12 an12 cd12 ct12), sl12⟩) (c12 : PySem.W.codeIn K cd12 "_law_pool" = true) (k12 : PySem.W.keepIn K (.ref f12) = true)
    {f13 : Addr} {od13 an13 : Option Addr} {sl13 : Array (Option Value)} {oc13 kV13 dc13 pm13 cd13 ct13 : Value}
    (x13 : PySem.W.nsIn K mainGlobals "_law_take" = some (some (.ref f13))) (l13 : K.lookup f13 = some ⟨oc13, od13, .func (PySem.W.fnOf "_law_take" "_law_take" (defArgs s_take) (defBody s_take) (defScope s_take) .none kV13 dc13 pm13 an13 cd13 ct13), sl13⟩) (c13 : PySem.W.codeIn K cd13 "_law_take" = true) (k13 : PySem.W.keepIn K (.ref f13) = true)
    {f14 : Addr} {od14 an14 : Option Addr} {sl14 : Array (Option Value)} {oc14 kV14 dc14 pm14 cd14 ct14 : Value}
    (x14 : PySem.W.nsIn K mainGlobals "_law_top" = some (some (.ref f14))) (l14 : K.lookup f14 = some ⟨oc14, od14, .func (PySem.W.fnOf "_law_top" "_law_top" (defArgs s_top) (defBody s_top) (defScope s_top) .none kV14 dc14 pm14 an14 cd14 ct14), sl14⟩) (c14 : PySem.W.codeIn K cd14 "_law_top" = true) (k14 : PySem.W.keepIn K (.ref f14) = true)
    {f15 : Addr} {od15 an15 : Option Addr} {sl15 : Array (Option Value)} {oc15 kV15 dc15 pm15 cd15 ct15 : Value}
    (x15 : PySem.W.nsIn K mainGlobals "_law_signed" = some (some (.ref f15))) (l15 : K.lookup f15 = some ⟨oc15, od15, .func (PySem.W.fnOf "_law_signed" "_law_signed" (defArgs s_l_signed) (defBody s_l_signed) (defScope s_l_signed) .none kV15 dc15 pm15 an15 cd15 ct15), sl15⟩) (c15 : PySem.W.codeIn K cd15 "_law_signed" = true) (k15 : PySem.W.keepIn K (.ref f15) = true)
    {f16 : Addr} {od16 an16 : Option Addr} {sl16 : Array (Option Value)} {oc16 kV16 dc16 pm16 cd16 ct16 : Value}
    (x16 : PySem.W.nsIn K mainGlobals "_law_turn" = some (some (.ref f16))) (l16 : K.lookup f16 = some ⟨oc16, od16, .func (PySem.W.fnOf "_law_turn" "_law_turn" (defArgs s_turn) (defBody s_turn) (defScope s_turn) .none kV16 dc16 pm16 an16 cd16 ct16), sl16⟩) (c16 : PySem.W.codeIn K cd16 "_law_turn" = true) (k16 : PySem.W.keepIn K (.ref f16) = true)
    {f17 : Addr} {od17 an17 : Option Addr} {sl17 : Array (Option Value)} {oc17 kV17 dc17 pm17 cd17 ct17 : Value}
    (x17 : PySem.W.nsIn K mainGlobals "_law_settled" = some (some (.ref f17))) (l17 : K.lookup f17 = some ⟨oc17, od17, .func (PySem.W.fnOf "_law_settled" "_law_settled" (defArgs s_l_settled) (defBody s_l_settled) (defScope s_l_settled) .none kV17 dc17 pm17 an17 cd17 ct17), sl17⟩) (c17 : PySem.W.codeIn K cd17 "_law_settled" = true) (k17 : PySem.W.keepIn K (.ref f17) = true)
    {f18 : Addr} {od18 an18 : Option Addr} {sl18 : Array (Option Value)} {oc18 kV18 dc18 pm18 cd18 ct18 : Value}
    (x18 : PySem.W.nsIn K mainGlobals "law" = some (some (.ref f18))) (l18 : K.lookup f18 = some ⟨oc18, od18, .func (PySem.W.fnOf "law" "law" (defArgs s_law) (defBody s_law) (defScope s_law) .none kV18 dc18 pm18 an18 cd18 ct18), sl18⟩) (c18 : PySem.W.codeIn K cd18 "law" = true) (k18 : PySem.W.keepIn K (.ref f18) = true)
    (z_abs : PySem.W.nsIn K mainGlobals "abs" = some none)
    (z_int : PySem.W.nsIn K mainGlobals "int" = some none)
    (z_len : PySem.W.nsIn K mainGlobals "len" = some none)
    (z_max : PySem.W.nsIn K mainGlobals "max" = some none)
    (z_min : PySem.W.nsIn K mainGlobals "min" = some none)
    (z_range : PySem.W.nsIn K mainGlobals "range" = some none)
    (z_repr : PySem.W.nsIn K mainGlobals "repr" = some none)
    (z_sorted : PySem.W.nsIn K mainGlobals "sorted" = some none)
    (z_sum : PySem.W.nsIn K mainGlobals "sum" = some none)
    : ∃ fd : FuncData, (∀ (s : Shared) (v : Value), BindsTo s fd ⟨[v], []⟩ [("_law_script", v)]) ∧ ∀ base : Heap, K.In base → base.Ns mainGlobals mg → FnG l.prog w K mg base CX0 6 fa fd ["_law_script"] (spLaw K) := by
  have e := hfa.symm.trans (PySem.W.mg_of X G x18)
  cases e
  have F0 := fun_mk (st := s_greatest) l0 c0 k0
  have b0 := F0.binds (ps := ["wide"]) fun _ _ _ _ _ _ us hl => match us, hl with | [_], _ => rfl
  have F1 := fun_mk (st := s_signed) l1 c1 k1
  have FD1 : FunD K "signed" "signed" (defArgs s_signed) (defBody s_signed) (defScope s_signed) [] [("wide", .int 16)] f1 _ := ⟨⟨_, _, _, _, _, _, _, _, _, _, rfl, l1, c1, .inl ⟨rfl, rfl⟩, .inr ⟨D1, rfl, fun q hq => by cases hq with | head => exact ⟨_, w1, _, rfl⟩ | tail _ z => cases z⟩⟩, k1⟩
  obtain ⟨d1, v1, b1⟩ := FD1.binds0 (ps := ["worth", "wide"]) 1 (fun z => by cases z) rfl (fun D doc pm an cdv ct us ks hu hk => match us, ks, hu, hk with | [_], [_], _, _ => ⟨_, _, _, _, _, _, rfl, rfl, rfl⟩)
  have kb1 := kbn_all (ps := ["worth", "wide"]) (ks := ["wide"]) (n := 1) F1 fun _ _ _ _ _ _ us ws hu hw => match us, ws, hu, hw with | [_], [_], _, _ => rfl
  have F2 := fun_mk (st := s_met_bits) l2 c2 k2
  have b2 := F2.binds (ps := ["one", "other"]) fun _ _ _ _ _ _ us hl => match us, hl with | [_, _], _ => rfl
  have F3 := fun_mk (st := s_lowest_signed) l3 c3 k3
  have b3 := F3.binds (ps := ["wide"]) fun _ _ _ _ _ _ us hl => match us, hl with | [_], _ => rfl
  have F4 := fun_mk (st := s_highest_signed) l4 c4 k4
  have b4 := F4.binds (ps := ["wide"]) fun _ _ _ _ _ _ us hl => match us, hl with | [_], _ => rfl
  have F5 := fun_mk (st := s_alike_bits) l5 c5 k5
  have b5 := F5.binds (ps := ["least", "most"]) fun _ _ _ _ _ _ us hl => match us, hl with | [_, _], _ => rfl
  have F6 := fun_mk (st := s_settled_ends) l6 c6 k6
  have b6 := F6.binds (ps := ["least", "most", "low", "high", "wide"]) fun _ _ _ _ _ _ us hl => match us, hl with | [_, _, _, _, _], _ => rfl
  have F7 := fun_mk (st := s_settled_once) l7 c7 k7
  have b7 := F7.binds (ps := ["known", "wide"]) fun _ _ _ _ _ _ us hl => match us, hl with | [_, _], _ => rfl
  have F8 := fun_mk (st := s_settled) l8 c8 k8
  have FD8 : FunD K "settled" "settled" (defArgs s_settled) (defBody s_settled) (defScope s_settled) [] [("wide", .int 16)] f8 _ := ⟨⟨_, _, _, _, _, _, _, _, _, _, rfl, l8, c8, .inl ⟨rfl, rfl⟩, .inr ⟨D8, rfl, fun q hq => by cases hq with | head => exact ⟨_, w8, _, rfl⟩ | tail _ z => cases z⟩⟩, k8⟩
  obtain ⟨d8, v8, b8⟩ := FD8.binds0 (ps := ["known", "wide"]) 1 (fun z => by cases z) rfl (fun D doc pm an cdv ct us ks hu hk => match us, ks, hu, hk with | [_], [_], _, _ => ⟨_, _, _, _, _, _, rfl, rfl, rfl⟩)
  have kb8 := kbn_all (ps := ["known", "wide"]) (ks := ["wide"]) (n := 1) F8 fun _ _ _ _ _ _ us ws hu hw => match us, ws, hu, hw with | [_], [_], _, _ => rfl
  have F9 := fun_mk (st := s_all_of) l9 c9 k9
  have FD9 : FunD K "all_of" "all_of" (defArgs s_all_of) (defBody s_all_of) (defScope s_all_of) [] [("wide", .int 16)] f9 _ := ⟨⟨_, _, _, _, _, _, _, _, _, _, rfl, l9, c9, .inl ⟨rfl, rfl⟩, .inr ⟨D9, rfl, fun q hq => by cases hq with | head => exact ⟨_, w9, _, rfl⟩ | tail _ z => cases z⟩⟩, k9⟩
  obtain ⟨d9, v9, b9⟩ := FD9.binds0 (ps := ["wide"]) 0 (fun z => by cases z) rfl (fun D doc pm an cdv ct us ks hu hk => match us, ks, hu, hk with | [], [_], _, _ => ⟨_, _, _, _, _, _, rfl, rfl, rfl⟩)
  have kb9 := kbn_all (ps := ["wide"]) (ks := ["wide"]) (n := 0) F9 fun _ _ _ _ _ _ us ws hu hw => match us, ws, hu, hw with | [], [_], _, _ => rfl
  have F10 := fun_mk (st := s_just) l10 c10 k10
  have FD10 : FunD K "just" "just" (defArgs s_just) (defBody s_just) (defScope s_just) [] [("wide", .int 16)] f10 _ := ⟨⟨_, _, _, _, _, _, _, _, _, _, rfl, l10, c10, .inl ⟨rfl, rfl⟩, .inr ⟨D10, rfl, fun q hq => by cases hq with | head => exact ⟨_, w10, _, rfl⟩ | tail _ z => cases z⟩⟩, k10⟩
  obtain ⟨d10, v10, b10⟩ := FD10.binds0 (ps := ["worth", "wide"]) 1 (fun z => by cases z) rfl (fun D doc pm an cdv ct us ks hu hk => match us, ks, hu, hk with | [_], [_], _, _ => ⟨_, _, _, _, _, _, rfl, rfl, rfl⟩)
  have kb10 := kbn_all (ps := ["worth", "wide"]) (ks := ["wide"]) (n := 1) F10 fun _ _ _ _ _ _ us ws hu hw => match us, ws, hu, hw with | [_], [_], _, _ => rfl
  have F11 := fun_mk (st := s_span) l11 c11 k11
  have FD11 : FunD K "span" "span" (defArgs s_span) (defBody s_span) (defScope s_span) [] [("wide", .int 16)] f11 _ := ⟨⟨_, _, _, _, _, _, _, _, _, _, rfl, l11, c11, .inl ⟨rfl, rfl⟩, .inr ⟨D11, rfl, fun q hq => by cases hq with | head => exact ⟨_, w11, _, rfl⟩ | tail _ z => cases z⟩⟩, k11⟩
  obtain ⟨d11, v11, b11⟩ := FD11.binds0 (ps := ["least", "most", "wide"]) 2 (fun z => by cases z) rfl (fun D doc pm an cdv ct us ks hu hk => match us, ks, hu, hk with | [_, _], [_], _, _ => ⟨_, _, _, _, _, _, rfl, rfl, rfl⟩)
  have kb11 := kbn_all (ps := ["least", "most", "wide"]) (ks := ["wide"]) (n := 2) F11 fun _ _ _ _ _ _ us ws hu hw => match us, ws, hu, hw with | [_, _], [_], _, _ => rfl
  have F12 := fun_mk (st := s_pool) l12 c12 k12
  have b12 := F12.binds (ps := ["_law_script", "_law_k"]) fun _ _ _ _ _ _ us hl => match us, hl with | [_, _], _ => rfl
  have F13 := fun_mk (st := s_take) l13 c13 k13
  have b13 := F13.binds (ps := ["_law_pool_here", "_law_many"]) fun _ _ _ _ _ _ us hl => match us, hl with | [_, _], _ => rfl
  have F14 := fun_mk (st := s_top) l14 c14 k14
  have b14 := F14.binds (ps := ["_law_size"]) fun _ _ _ _ _ _ us hl => match us, hl with | [_], _ => rfl
  have F15 := fun_mk (st := s_l_signed) l15 c15 k15
  have b15 := F15.binds (ps := ["_law_worth", "_law_size"]) fun _ _ _ _ _ _ us hl => match us, hl with | [_, _], _ => rfl
  have F16 := fun_mk (st := s_turn) l16 c16 k16
  have b16 := F16.binds (ps := ["_law_known", "_law_size"]) fun _ _ _ _ _ _ us hl => match us, hl with | [_, _], _ => rfl
  have F17 := fun_mk (st := s_l_settled) l17 c17 k17
  have b17 := F17.binds (ps := ["_law_known", "_law_size"]) fun _ _ _ _ _ _ us hl => match us, hl with | [_, _], _ => rfl
  have F18 := fun_mk (st := s_law) l18 c18 k18
  have T : Txt K mg := { a_greatest := f0, fd_greatest := _, F_greatest := F0, g_greatest := PySem.W.mg_of X G x0, b_greatest := b0, a_signed := f1, fd_signed := _, F_signed := F1, g_signed := PySem.W.mg_of X G x1, d_signed := d1, v_signed := v1, b_signed := b1, k_signed := kb1, a_met_bits := f2, fd_met_bits := _, F_met_bits := F2, g_met_bits := PySem.W.mg_of X G x2, b_met_bits := b2, a_lowest_signed := f3, fd_lowest_signed := _, F_lowest_signed := F3, g_lowest_signed := PySem.W.mg_of X G x3, b_lowest_signed := b3, a_highest_signed := f4, fd_highest_signed := _, F_highest_signed := F4, g_highest_signed := PySem.W.mg_of X G x4, b_highest_signed := b4, a_alike_bits := f5, fd_alike_bits := _, F_alike_bits := F5, g_alike_bits := PySem.W.mg_of X G x5, b_alike_bits := b5, a_settled_ends := f6, fd_settled_ends := _, F_settled_ends := F6, g_settled_ends := PySem.W.mg_of X G x6, b_settled_ends := b6, a_settled_once := f7, fd_settled_once := _, F_settled_once := F7, g_settled_once := PySem.W.mg_of X G x7, b_settled_once := b7, a_settled := f8, fd_settled := _, F_settled := F8, g_settled := PySem.W.mg_of X G x8, d_settled := d8, v_settled := v8, b_settled := b8, k_settled := kb8, a_all_of := f9, fd_all_of := _, F_all_of := F9, g_all_of := PySem.W.mg_of X G x9, d_all_of := d9, v_all_of := v9, b_all_of := b9, k_all_of := kb9, a_just := f10, fd_just := _, F_just := F10, g_just := PySem.W.mg_of X G x10, d_just := d10, v_just := v10, b_just := b10, k_just := kb10, a_span := f11, fd_span := _, F_span := F11, g_span := PySem.W.mg_of X G x11, d_span := d11, v_span := v11, b_span := b11, k_span := kb11, a_pool := f12, fd_pool := _, F_pool := F12, g_pool := PySem.W.mg_of X G x12, b_pool := b12, a_take := f13, fd_take := _, F_take := F13, g_take := PySem.W.mg_of X G x13, b_take := b13, a_top := f14, fd_top := _, F_top := F14, g_top := PySem.W.mg_of X G x14, b_top := b14, a_l_signed := f15, fd_l_signed := _, F_l_signed := F15, g_l_signed := PySem.W.mg_of X G x15, b_l_signed := b15, a_turn := f16, fd_turn := _, F_turn := F16, g_turn := PySem.W.mg_of X G x16, b_turn := b16, a_l_settled := f17, fd_l_settled := _, F_l_settled := F17, g_l_settled := PySem.W.mg_of X G x17, b_l_settled := b17, b_abs := PySem.W.mg_none_of X G z_abs, b_int := PySem.W.mg_none_of X G z_int, b_len := PySem.W.mg_none_of X G z_len, b_max := PySem.W.mg_none_of X G z_max, b_min := PySem.W.mg_none_of X G z_min, b_range := PySem.W.mg_none_of X G z_range, b_repr := PySem.W.mg_none_of X G z_repr, b_sorted := PySem.W.mg_none_of X G z_sorted, b_sum := PySem.W.mg_none_of X G z_sum }
  exact ⟨_, fun s v => .of_eq rfl, fun base _ _ => ok_law T F18⟩
end Bg
open PySem PySem.W PyProof.Rows
set_option maxHeartbeats 0 in
theorem PySem.Challenge.cw_boundgate_k15_known_numbers_made_holds : PySem.Challenge.rw_boundgate_k15_known_numbers_made.Holds := by
  w_on; o_law; k_head; (case hw => w_witness2)
  k_fill
  refine Bg.walkG (l := PySem.Challenge.rw_boundgate_k15_known_numbers_made) (n := 63) (k := 6) (x := "_law_script") (CX := fun _ => L2.CX0) (sp := fun w => Bg.spLaw _) rfl (by decide) rfl ⟨rfl, by decide, by decide⟩ (fun w h Y => PySem.W.kIn_of Y) ?F (fun _ _ a ns hl hS => ⟨a, ns, rfl, hS, hl, fun _ => rfl⟩) (fun _ _ _ _ _ h => h)
  case F =>
    intro w mg fa h KX G hmg
    refine' Bg.all_mk KX G hmg ?x0 ?l0 ?c0 ?k0 ?x1 ?l1 ?c1 ?k1 ?w1 ?x2 ?l2 ?c2 ?k2 ?x3 ?l3 ?c3 ?k3 ?x4 ?l4 ?c4 ?k4 ?x5 ?l5 ?c5 ?k5 ?x6 ?l6 ?c6 ?k6 ?x7 ?l7 ?c7 ?k7 ?x8 ?l8 ?c8 ?k8 ?w8 ?x9 ?l9 ?c9 ?k9 ?w9 ?x10 ?l10 ?c10 ?k10 ?w10 ?x11 ?l11 ?c11 ?k11 ?w11 ?x12 ?l12 ?c12 ?k12 ?x13 ?l13 ?c13 ?k13 ?x14 ?l14 ?c14 ?k14 ?x15 ?l15 ?c15 ?k15 ?x16 ?l16 ?c16 ?k16 ?x17 ?l17 ?c17 ?k17 ?x18 ?l18 ?c18 ?k18 ?z_abs ?z_int ?z_len ?z_max ?z_min ?z_range ?z_repr ?z_sorted ?z_sum
    (case x0 => k_is); (case l0 => k_is); (case c0 => k_is); (case k0 => k_is); (case x1 => k_is); (case l1 => k_is); (case c1 => k_is); (case k1 => k_is); (case w1 => k_is); (case x2 => k_is); (case l2 => k_is); (case c2 => k_is); (case k2 => k_is); (case x3 => k_is); (case l3 => k_is); (case c3 => k_is); (case k3 => k_is); (case x4 => k_is); (case l4 => k_is); (case c4 => k_is); (case k4 => k_is); (case x5 => k_is); (case l5 => k_is); (case c5 => k_is); (case k5 => k_is); (case x6 => k_is); (case l6 => k_is); (case c6 => k_is); (case k6 => k_is); (case x7 => k_is); (case l7 => k_is); (case c7 => k_is); (case k7 => k_is); (case x8 => k_is); (case l8 => k_is); (case c8 => k_is); (case k8 => k_is); (case w8 => k_is); (case x9 => k_is); (case l9 => k_is); (case c9 => k_is); (case k9 => k_is); (case w9 => k_is); (case x10 => k_is); (case l10 => k_is); (case c10 => k_is); (case k10 => k_is); (case w10 => k_is); (case x11 => k_is); (case l11 => k_is); (case c11 => k_is); (case k11 => k_is); (case w11 => k_is); (case x12 => k_is); (case l12 => k_is); (case c12 => k_is); (case k12 => k_is); (case x13 => k_is); (case l13 => k_is); (case c13 => k_is); (case k13 => k_is); (case x14 => k_is); (case l14 => k_is); (case c14 => k_is); (case k14 => k_is); (case x15 => k_is); (case l15 => k_is); (case c15 => k_is); (case k15 => k_is); (case x16 => k_is); (case l16 => k_is); (case c16 => k_is); (case k16 => k_is); (case x17 => k_is); (case l17 => k_is); (case c17 => k_is); (case k17 => k_is); (case x18 => k_is); (case l18 => k_is); (case c18 => k_is); (case k18 => k_is); (case z_abs => k_is); (case z_int => k_is); (case z_len => k_is); (case z_max => k_is); (case z_min => k_is); (case z_range => k_is); (case z_repr => k_is); (case z_sorted => k_is); (case z_sum => k_is)
