import PyProof.Rows.All
import HandS.ForMost
import HandS.Wide
import HandS.Defaults
import HandS.IsInst
import HandS.RaiseMore
import PyProof.ReprRoads
import PyProof.RulesMatch
import PySem.Challenge.RW_boundgate_k01_worths_looked_at
set_option Elab.async false
set_option linter.all false
set_option maxRecDepth 100000
set_option maxHeartbeats 4000000
namespace Bg
open PySem PySem.Spec PyProof.Rows L2

/-! ### defs that may show things: nothing is being shown around them -/
def Gd (A : Around) : Prop := A.guards = some []
theorem Gd.deep {A : Around} (g : Gd A) (e : Env) : Gd (A.deeper e) := g
structure FnG (P : Program) (w : World) (K : PySem.W.Frag) (mg : Str → Option Value) (base : Heap)
    (CX : CXT) (k : Nat) (f : Addr) (fd : FuncData) (ps : List Str) (sp : Sp) : Prop where
  len : ∀ vs H Q E, sp vs H Q E → vs.length = ps.length
  run : ∀ (A : Around) (outer : List Env) (s : Shared) (H : Hp) (args : Args) (us : List Value)
    (vs : List V) (Q : VK) (E : XK), Room k A → Gd A → Env0 P w K mg base A outer s H →
    BindsTo s fd args (ps.zip us) → Vals vs us → sp vs H Q E →
    codeAny (model P w) A (.call (.ref f) args) (CR CX outer P w H s Q E) s

section
variable {P : Program} {w : World} {K : PySem.W.Frag} {mg : Str → Option Value} {base : Heap}
theorem FnG.of {CX : CXT} {k : Nat} {f : Addr} {fd : FuncData} {ps : List Str} {sp : Sp}
    (F : FnOk P w K mg base CX k f fd ps sp) : FnG P w K mg base CX k f fd ps sp :=
  ⟨F.len, fun A o s H a us vs Q E hr _ => F.run A o s H a us vs Q E hr⟩
theorem fnG {CX : CXT} {k : Nat} {x qual : Str} {st : Stmt} {f : Addr} {fd : FuncData} {N ps : List Str} {sp : Sp}
    (F : Fun K x qual st f fd) (S : FnScope N ps (defScope st)) (len : ∀ vs H Q E, sp vs H Q E → vs.length = ps.length)
    (hbody : ∀ (cdv : Value) (A : Around) (outer : List Env) (s : Shared) (H : Hp) (vs : List V) (Q : VK) (E : XK),
      Room k (A.deeper (envOfC qual (defScope st) s.heap.objs.size f cdv)) → Gd A → sp vs H Q E →
      ∃ t, PSs (cxOf CX P w K mg base N qual (defScope st) f cdv A outer s H E) (defBody st) t ∧
        t { nx := fun _ H' => Q .non H', rt := Q } (start N vs) H) :
    FnG P w K mg base CX (k + 1) f fd ps sp := by
  obtain ⟨oc, od, kV, doc, pm, an, cdv, ct, osl, rfl, lk, hcd⟩ := F.ex
  constructor
  · exact len
  intro A outer s H args us vs Q E room gd env bnd rel hsp
  have kin : K.In s.heap := env.mod.kin.keeps (fun b o e => (env.bs b o e).1)
  have kinds : ∀ y ∈ ps.zip us, (defScope st).names.lookup y.1 = some .local ∨
      ((defScope st).names.lookup y.1 = some .cell ∧
        ((cellsFrom (s.heap.objs.size + 1) (defScope st).names []).lookup y.1).isSome = true) := by
    rintro ⟨n, v⟩ hy
    cases S.par n (List.of_mem_zip hy).1 with
    | inl q => exact Or.inl q
    | inr q => exact Or.inr ⟨q, PySem.W.cellsFrom_some _ _ _ (Or.inl q)⟩
  apply codeAny_call_function room.depth (kin _ _ lk) rfl S.co S.gen rfl (PySem.W.codeRec_of kin hcd)
  apply bnd
  apply wpAny_newFunctionEnv_cells S.kind kinds
  intro env' he s1 x1
  subst he
  obtain ⟨t, ht, hq⟩ := hbody cdv A outer s H vs Q E (room.deeper _) gd hsp
  have I := inv_start (CX := CX) (E := E) (outer := outer) S room.hd env (len _ _ _ _ hsp) rel x1
  refine ⟨(env.mod.nolimit.keeps (fun b o e => (env.bs b o e).1)).keeps x1.toInCall.keep, codeAny_func ?_⟩
  apply wpAny_mono (ht.run [] s1 (start N vs) H _ I hq)
  · intro fl s' hs
    cases fl with
    | ret u => obtain ⟨v, σ', H', J, rv, q⟩ := hs; exact ⟨v, H', J.os, J.bare, J.base, J.hok, rv, q⟩
    | next => obtain ⟨σ', H', J, q⟩ := hs; exact ⟨V.non, H', J.os, J.bare, J.base, J.hok, rfl, q⟩
    | brk => obtain ⟨_, _, _, q⟩ := hs; exact q.elim
    | cont => obtain ⟨_, _, _, q⟩ := hs; exact q.elim
  · exact fun _ _ hs => hs
end

theorem fnG0 {P : Program} {w : World} {K : PySem.W.Frag} {mg : Str → Option Value} {base : Heap} {k : Nat} {x qual : Str} {st : Stmt} {f : Addr} {fd : FuncData} {N ps : List Str} {sp : Sp}
    (F : Fun K x qual st f fd) (S : FnScope N ps (defScope st)) (len : ∀ vs H Q E, sp vs H Q E → vs.length = ps.length)
    (hbody : ∀ (cdv : Value) (A : Around) (outer : List Env) (s : Shared) (H : Hp) (vs : List V) (Q : VK) (E : XK),
      Room k (A.deeper (envOfC qual (defScope st) s.heap.objs.size f cdv)) → Gd A → sp vs H Q E →
      ∃ t, PSs (cxOf CX0 P w K mg base N qual (defScope st) f cdv A outer s H E).nox (defBody st) t ∧
        t { nx := fun _ H' => Q .non H', rt := Q } (start N vs) H) :
    FnG P w K mg base CX0 (k + 1) f fd ps sp :=
  fnG F S len fun cdv A outer s H vs Q E hr g h => by
    obtain ⟨t, ht, q⟩ := hbody cdv A outer s H vs Q E hr g h
    exact ⟨t, ht.nox, q⟩

/-! ### the call of such a def -/
section
variable {X : Cx} {CX : CXT} {k : Nat} {f : Addr} {fd : FuncData} {ps : List Str} {sp : Sp} {E : XK} {x : Str}
  {p pos : Pos} {e : Expr} {es : List Expr} {t : TA}
theorem pe_callG (F : FnG X.prog X.w X.K X.mg X.base CX k f fd ps sp) (hr : Room k X.A) (gd : Gd X.A) (hg : Gl X x)
    (hm : X.mg x = some (.ref f)) (hk : PySem.W.keepIn X.K (.ref f) = true) (hb : Binds X.K fd ps [])
    (hx : Passes CX X E) (ha : PA X (e :: es) t) (hdb : (x == ("__debug__" : Str)) = false := by decide)
    (he : starEach (e :: es) X.env = (false, eval e X.env) :: starEach es X.env := by rfl)
    (hpl : (backTo pos (starEach es X.env)).any (·.1) = false := by rfl) :
    PE X (.Call (.Name x p) (e :: es) [] pos) (tCall sp [] E t) := by
  constructor
  intro pins s σ H Q I h
  apply wpAny_Call_Name_kw
  apply ld_glob I hg hm _ hdb
  refine PySem.W.callWith_K (h₀ := X.base) I.ok.mod.kin hk ?_ he hpl
  refine thn (ha.run pos pins s σ H _ I h) ?_
  rintro us s1 ⟨vs, H1, I1, r, q⟩
  refine ⟨I1.kIn, ?_⟩
  have hl : (us ++ []).length = ps.length := by
    rw [List.append_nil, ← r.length, ← F.len _ _ _ _ q, List.append_nil]
  have bd := hb s1 us I1.kIn hl
  rw [List.append_nil] at q bd
  refine wpAny_call (codeAny_mono (F.run X.A X.stack s1 H1 ⟨us, []⟩ us vs Q E hr gd I1.env0 bd r q) ?_)
  intro r s' hq
  cases r with
  | error e => exact hx pins σ H1 s1 e s' I1 hq
  | ok fl =>
    cases fl with
    | ret u => exact I1.after hq
    | next => exact hq.elim
    | brk => exact hq.elim
    | cont => exact hq.elim
end

/-! ### repr of data -/
theorem shsm {d : PyData} {as : List Addr} (h : d.hasDict = false) : d.hasDict = true → sysModules ∉ as := by
  rw [h]; intro z; cases z
section
variable {X : Cx}
/-- repr(x), x a list or a tuple of data -/
def rRep (K : PySem.W.Frag) : List V → Hp → VK → Prop := fun xs H Q => ∃ a d, xs = [.ref a] ∧ Dp K H (.ref a) d ∧
  d.showable = true ∧ d.hasDict = false ∧ d.depth ≤ 60 ∧ d.shown.length ≤ sizeLine ∧ Q (.str d.shown) H
theorem call_rep (gd : Gd X.A) (hu : X.A.units + 64 < cLine) : CallR X (.builtin "repr") (rRep X.K) := by
  intro pins s σ H xs us Q I r h
  obtain ⟨a, d, rfl, hd, sh, nd, dp, sz, q⟩ := h
  obtain ⟨u, rfl, ru⟩ := vals1 r
  obtain ⟨as, rd⟩ := Dp.reads I d _ u hd ru
  cases (show u = Value.ref a from ru)
  refine repr_of_reads' rd sh (shsm nd) gd (by omega) (fun _ _ e => e) (fun h' u tk hk => ?_) sz
  exact ⟨.str d.shown, H, I.kept hk, ⟨_, rfl⟩, q⟩
end

/-! ### match over texts -/
structure PM (X : Cx) (cs : List MatchCase) (tm : V → TS) : Prop where
  run : ∀ (pins : List (Addr × Obj)) (s : Shared) (σ : L2.St) (H : Hp) (D : Ends) (v : V) (u : Value) (b : Bool),
    Inv X pins σ H s → RelV v u → tm v D σ H → wpAny (model X.prog X.w) X.A (matchCases cs X.env u b) (SP X pins D) X.xe s
def mNil : V → TS := fun _ => tNext
def mAny (tb : TS) : V → TS := fun _ => tb
def mStr (z : Str) (tb : TS) (tr : V → TS) : V → TS := fun v D σ H => ∃ x, v = .str x ∧ if x = z then tb D σ H else tr v D σ H
def tMatch (ta : TE) (tm : V → TS) : TS := fun D σ H => ta σ H fun v H1 => tm v D σ H1
section
variable {X : Cx} {rest : List MatchCase} {body : List Stmt} {tb : TS} {tr : V → TS} {pos p1 : Pos} {z : Str} {j : Nat}
theorem pm_nil : PM X [] mNil := ⟨fun pins s σ H D v u b I r h => wpAny_matchCases_nil ⟨σ, H, I, h⟩⟩
theorem pm_any (h : PSs X body tb) : PM X (⟨.MatchAs none none pos, none, body⟩ :: rest) (mAny tb) := by
  constructor
  intro pins s σ H D v u b I r q
  apply wpAny_matchCases_cons
  apply wpAny_matchPattern_Capture
  exact wpAny_assignInOrder_none (h.run pins s σ H D I q)
theorem pm_str (h : PSs X body tb) (hr : PM X rest tr) :
    PM X (⟨.MatchValue (.Constant (.str z) j p1) pos, none, body⟩ :: rest) (mStr z tb tr) := by
  constructor
  intro pins s σ H D v u b I r q
  obtain ⟨x, rfl, q⟩ := q
  apply wpAny_matchCases_cons
  apply wpAny_matchPattern_Value
  refine thn ((pe_str (X := X) (x := z) (j := j) (pos := p1)).run pins s σ H (fun v H1 => v = .str z ∧ H1 = H) I ⟨rfl, rfl⟩) ?_
  rintro y s1 ⟨v1, H1, I1, r1, rfl, rfl⟩
  refine thn (op_eq pins s1 σ H1 (.str x) (.str z) u y (fun c H2 => c = .bl (decide (x = z)) ∧ H2 = H1) I1 r r1 ⟨rfl, by
    rw [show decide ((V.str x) = V.str z) = decide (x = z) from by simp]; exact ⟨rfl, rfl⟩⟩) ?_
  rintro c s2 ⟨v2, H2, I2, r2, rfl, rfl⟩
  cases (show c = Value.bool (decide (x = z)) from r2)
  apply wpAny_truthy_bool
  by_cases e : x = z
  · rw [if_pos (decide_eq_true e)]
    rw [if_pos e] at q
    exact wpAny_assignInOrder_none (h.run pins s2 σ H2 D I2 q)
  · rw [decide_eq_false e, if_neg Bool.false_ne_true]
    rw [if_neg e] at q
    exact hr.run pins s2 σ H2 D (.str x) u false I2 r q
theorem ps_match {e : Expr} {cs : List MatchCase} {ta : TE} {tm : V → TS} (ha : PE X e ta) (hm : PM X cs tm) : PS X (.Match e cs pos) (tMatch ta tm) := by
  constructor
  intro pins s σ H D I q
  apply wpAny_Match
  refine thn (ha.run pins s σ H _ I q) ?_
  rintro u s1 ⟨v, H1, I1, r1, q1⟩
  exact hm.run pins s1 σ H1 D v u true I1 r1 q1
end

/-! ### keywords: every keyword-only parameter is written -/
theorem kbn_all {K : PySem.W.Frag} {x qual : Str} {st : Stmt} {f : Addr} {fd : FuncData} {ps ks : List Str} {n : Nat} (F : Fun K x qual st f fd)
    (h : ∀ (kV doc pm : Value) (an : Option Addr) (cdv ct : Value) (us ws : List Value), us.length = n → ws.length = ks.length →
      bindArgs (PySem.W.fnOf x qual (defArgs st) (defBody st) (defScope st) .none kV doc pm an cdv ct) ⟨us, ks.zip ws⟩ = pure (ps.zip (us ++ ws))) :
    KBn K fd ps n ks (fun us ws => us ++ ws) (fun vs zs => vs ++ zs) := by
  obtain ⟨oc, od, kV, doc, pm, an, cdv, ct, osl, rfl, lk, hcd⟩ := F.ex
  constructor
  · intro s us ws kin l1 l2
    exact .of_eq (h kV doc pm an cdv ct us ws l1 l2)
  · intro vs us zs ws r1 r2
    exact r1.append r2

/-! ### the end of a law's row, its def told by FnG -/
section
variable {P : Program} {w : World} {K : PySem.W.Frag} {mg mb : Str → Option Value} {CX : CXT} {k : Nat} {fa a : Addr} {fd : FuncData} {x : Str} {sp : Sp}
  {s1 : Shared} {vs : List Value} {ns : List Int}
/-- H tracks the script alone, locked -/
structure Scr (P : Program) (w : World) (K : PySem.W.Frag) (H : Hp) (s1 : Shared) (a : Addr) (xs : List V) : Prop where
  only : ∀ b, H b = none ∨ (b = a ∧ ∃ o, H b = some (.frz o (.lst xs)))
  seq : SqL K H a xs
  hok : HOk P w H s1.heap
  out : H a ≠ none → K.lookup a = none
theorem scr_run (kin : K.In s1.heap) (hns : s1.heap.Ns mainGlobals mg) (hb : s1.heap.Ns builtinsNs mb) (hbb : ∀ x : Str, x ≠ "__name__" → mb x = bootBuiltins x)
    (hlim : s1.heap.NoLimit) (hg : s1.gens = #[]) (ha : s1.heap.get? a = some { cls := .type "list", data := .seq vs.toArray }) (hr : Room k callerA)
    (F : ∀ base : Heap, K.In base → base.Ns mainGlobals mg → FnG P w K mg base CX k fa fd [x] sp)
    (hbind : ∀ (s : Shared) (u : Value), BindsTo s fd ⟨[u], []⟩ [(x, u)]) (H : Hp) {xs : List V} (C : Scr P w K H s1 a xs)
    (hsp : sp [.ref a] H (fun v _ => v = .bl true) fun _ _ _ => False) (hCX : ∀ e s', CX [] H s1 (fun _ _ _ => False) e s' → False) :
    codeAny (model P w) callerA (.call (.ref fa) ⟨[.ref a], []⟩)
      (fun r s' => r = .ok (.ret (.bool true)) ∧ OldK s1.heap s'.heap ∧ s'.os = s1.os ∧ AllBare s'.gens) s1 := by
  have free : ∀ {b : Addr} {o : Obj}, s1.heap.get? b = some o → (∀ es, o.data ≠ .seq es 0) → H b = none := by
    intro b o e hne
    rcases C.only b with q | ⟨rfl, _⟩
    · exact q
    · rw [ha] at e; cases e; exact absurd rfl (hne _)
  have nsk : ∀ {b : Addr} {m : Str → Option Value}, s1.heap.Ns b m → (hidT s1.heap H).Ns b m := by
    rintro b m ⟨o, es, ep, e, d, r⟩
    exact ⟨o, es, ep, hidT_get e (free e (fun q z => by rw [d] at z; cases z)), d, r⟩
  have kb : K.In (hidT s1.heap H) := by
    intro b o e
    apply hidT_get (kin b o e)
    rcases C.only b with q | ⟨rfl, ob, q⟩
    · exact q
    · rw [C.out (by rw [q]; exact fun z => by cases z)] at e; cases e
  have md : Mod K mg (hidT s1.heap H) := by
    obtain ⟨mc, h1, h2⟩ := hlim
    exact ⟨kb, nsk hns, ⟨mb, nsk hb, hbb⟩, mc, nsk h1, h2⟩
  have env : Env0 P w K mg (hidT s1.heap H) callerA [] s1 H :=
    ⟨rfl, md, fun _ _ e => of_hidT e, Nat.le_of_eq (hidT_size _ _), trivial, fun b z => (nomatch (show b ∈ ([] : List Addr) from z)), C.hok, .of_eq hg⟩
  have run := (F _ kb (nsk hns)).run callerA [] s1 H ⟨[.ref a], []⟩ [.ref a] [.ref a] _ _ hr rfl env (hbind s1 (.ref a)) (.cons rfl .nil) hsp
  refine codeAny_mono run ?_
  intro r s' h
  cases r with
  | error e => exact (hCX e s' h).elim
  | ok fl =>
    cases fl with
    | next => exact h.elim
    | brk => exact h.elim
    | cont => exact h.elim
    | ret u =>
      obtain ⟨v, H', os, bare, un, hok, rv, q⟩ := h
      cases (show v = .bl true from q)
      cases (show u = Value.bool true from rv)
      refine ⟨rfl, OldK.of_keep ?_, os, bare⟩
      intro b o e
      rcases C.only b with z | ⟨_, ob, z⟩
      · exact un.keep b o e z (fun y => (nomatch (show b ∈ ([] : List Addr) from y))) (fun y => (nomatch y))
      · have e1 := (C.hok b _ z).1
        have e2 := (hok b _ (un.frzs b ob _ z)).1
        rw [e] at e1; cases e1
        exact e2
theorem scr_of (P : Program) (w : World) (ha : s1.heap.get? a = some { cls := .type "list", data := .seq vs.toArray }) (hi : IntsAre vs ns) (hl : ns.length ≤ sizeLine) (kin : K.In s1.heap) :
    ∃ H, Scr P w K H s1 a (ns.map V.int) := by
  have rv := vals_ints hi
  cases hk : K.lookup a with
  | some o =>
    have e := kin a o hk
    rw [ha] at e; cases e
    refine ⟨fun _ => none, fun _ => .inl rfl, .inr ⟨_, vs.toArray, _, hk, rfl, rfl, rfl, ?_, by simpa using rv⟩, fun b u z => (nomatch z), fun z => absurd rfl z⟩
    rw [List.size_toArray, hi.length]; exact hl
  | none =>
    refine ⟨fun b => if b = a then some (.frz { cls := .type "list", data := .seq vs.toArray } (.lst (ns.map V.int))) else none, ?_, .inl (.inr ⟨_, if_pos rfl⟩), ?_, fun _ => hk⟩
    · intro b
      by_cases e : b = a
      · exact .inr ⟨e, _, if_pos e⟩
      · exact .inl (if_neg e)
    · intro b u z
      by_cases e : b = a
      · subst e
        have z2 : (HO.frz { cls := .type "list", data := .seq vs.toArray } (.lst (ns.map V.int))) = u := Option.some.inj ((if_pos rfl).symm.trans z)
        subst z2
        exact ⟨ha, by rw [List.length_map]; exact hl, vs, _, rv, ha⟩
      · exact nomatch ((if_neg e).symm.trans z)
end
theorem walkG {l : PySem.W.OpenLaw} {n k : Nat} {q : Program} {loose : List Str} {XP : (Str → Option Value) → Heap → Prop} {YP : World → Heap → Prop} {d : DefRec}
    {K : Params → PySem.W.Frag} {CX : World → CXT} {sp : World → Sp} {x : Str} (hn : l.most = some n) (hn2 : n ≤ sizeLine) (hdf : d.params.defaults = []) (hr : Room k callerA)
    (hY : ∀ (w : World) (h : Heap), YP w h → (K w.params).In h)
    (F : ∀ (w : World) (mg : Str → Option Value) (fa : Addr) (h : Heap), (K w.params).In h → h.Ns mainGlobals mg → mg d.name = some (.ref fa) →
      ∃ fd : FuncData, (∀ (s : Shared) (u : Value), BindsTo s fd ⟨[u], []⟩ [(x, u)]) ∧
        ∀ base : Heap, (K w.params).In base → base.Ns mainGlobals mg → FnG l.prog w (K w.params) mg base (CX w) k fa fd [x] (sp w))
    (hsp : ∀ (w : World) (H : Hp) (a : Addr) (ns : List Int), ns.length ≤ n → SqL (K w.params) H a (ns.map V.int) → sp w [.ref a] H (fun v _ => v = .bl true) fun _ _ _ => False)
    (hCX : ∀ (w : World) (H : Hp) (s : Shared) (e : Value) (s' : Shared), CX w [] H s (fun _ _ _ => False) e s' → False) :
    PySem.W.WalkO q loose XP YP l.row.toRowW d [] (fun f vs => PySem.call f vs) := by
  apply Att.attach_call hn hdf
  intro w s0 s1 mg mb fa o pm cd doc a vs ns G Y ho hd hcd hmg hobj hints hlen hg
  have kin := hY w _ Y
  obtain ⟨fd, hb, hF⟩ := F w mg fa _ kin G.T.g hmg
  obtain ⟨H, C⟩ := scr_of (K := K w.params) l.prog w hobj hints (Nat.le_trans hlen hn2) kin
  exact scr_run kin G.T.g G.T.b G.T.builtins G.T.nolimit hg hobj hr hF hb H C (hsp w H a ns hlen C.seq) (fun e s' => hCX w H s1 e s')
end Bg

set_option Elab.async false
set_option linter.all false
set_option maxRecDepth 100000
set_option maxHeartbeats 4000000
namespace Bg
open PySem PySem.Spec PyProof.Rows L2
/-! ### readings, step by step -/
section
variable {σ : L2.St} {H : Hp} {Q : VK} {QT : Bool → Hp → Prop} {QA : List V → Hp → Prop} {D : Ends} {v x y : V} {i j : Int} {n : Nat} {ta tb te : TE} {tt tu : TT} {tA : TA} {t1 t2 : TS} {r : R2} {K : PySem.W.Frag} {p : Addr} {xs : List V} {b : Bool}
theorem rd_var (h : σ[n]? = some (some v)) (q : Q v H) : tVar n σ H Q := ⟨v, h, q⟩
theorem rd_c (q : Q v H) : tC v σ H Q := q
theorem rd_op (q : ta σ H fun x H1 => tb σ H1 fun y H2 => r x y H2 Q) : tOp r ta tb σ H Q := q
theorem rd_un {u : V → Hp → VK → Prop} (q : ta σ H fun x H1 => u x H1 Q) : tUn u ta σ H Q := q
theorem rd_I0 {g : Int → Int → V} (q : Q (g i j) H) : rI0 g (.int i) (.int j) H Q := ⟨i, j, rfl, rfl, q⟩
theorem rd_I {C : Int → Int → Prop} {g : Int → Int → V} (c : C i j) (q : Q (g i j) H) : rI C g (.int i) (.int j) H Q := ⟨i, j, rfl, rfl, c, q⟩
theorem rd_U {g : Int → V} (q : Q (g i) H) : rU g (.int i) H Q := ⟨i, rfl, q⟩
theorem rd_eq (s : scal x y = true) (q : Q (.bl (decide (x = y))) H) : rEq x y H Q := ⟨s, q⟩
theorem rd_ne (s : scal x y = true) (q : Q (.bl (!decide (x = y))) H) : rNe x y H Q := ⟨s, q⟩
theorem rd_test (q : te σ H fun x H' => ∃ k, x = .bl k ∧ QT k H') : tTest te σ H QT := q
theorem rd_B (q : te σ H fun x H' => ∃ k, x = .bl k ∧ QT k H') : tB te σ H QT := q
theorem rd_bl {R : Bool → Prop} (q : R b) : ∃ k, V.bl b = .bl k ∧ R k := ⟨b, rfl, q⟩
theorem rd_not (q : tt σ H fun c H1 => QT (!c) H1) : tNot tt σ H QT := q
theorem rd_and (q : tt σ H fun c H1 => if c = true then tu σ H1 QT else QT false H1) : tAnd tt tu σ H QT := q
theorem rd_or (q : tt σ H fun c H1 => if c = true then QT true H1 else tu σ H1 QT) : tOr tt tu σ H QT := q
theorem rd_andV (q : ta σ H fun x H1 => ∃ c, x = .bl c ∧ if c = true then tb σ H1 Q else Q (.bl false) H1) : tAndV ta tb σ H Q := q
theorem rd_orV (q : ta σ H fun x H1 => ∃ c, x = .bl c ∧ if c = true then Q (.bl true) H1 else tb σ H1 Q) : tOrV ta tb σ H Q := q
theorem rd_notV (q : ta σ H fun x H1 => ∃ c, x = .bl c ∧ Q (.bl (!c)) H1) : tNotV ta σ H Q := q
theorem rd_if (q : tt σ H fun c H1 => if c = true then ta σ H1 Q else tb σ H1 Q) : tIf tt ta tb σ H Q := q
theorem rd_chain {r' : R2} {tc : TE} (q : ta σ H fun x H1 => tb σ H1 fun y H2 => r x y H2 fun z H3 => ∃ k, z = .bl k ∧ (if k = true then tc σ H3 fun w' H4 => r' y w' H4 Q else Q (.bl false) H3)) : tChain r r' ta tb tc σ H Q := q
theorem rd_seq (q : t1 { D with nx := t2 D } σ H) : tSeq t1 t2 D σ H := q
theorem rd_next (q : D.nx σ H) : tNext D σ H := q
theorem rd_asg {g : TG} (q : te σ H fun x H1 => g x σ H1 D.nx) : tAsg te g D σ H := q
theorem rd_name {R : L2.St → Hp → Prop} (q : R (σ.set n (some v)) H) : gName n v σ H R := q
theorem rd_gsub {to ti : TE} {tset : V → V → V → Hp → (Hp → Prop) → Prop} {R : L2.St → Hp → Prop} (q : to σ H fun o H1 => ti σ H1 fun i H2 => tset o i v H2 fun H3 => R σ H3) : gSub to ti tset v σ H R := q
theorem rd_setL {R : Hp → Prop} {k : Int} {j : Nat} (h : H p = some (.lst xs)) (e : ixN xs.length k = some j) (q : R (upd H p (.lst (xs.set j v)))) : rSetL (.ref p) (.int k) v H R := ⟨p, xs, k, j, rfl, rfl, h, e, q⟩
theorem rd_ret (q : te σ H D.rt) : tRet te D σ H := q
theorem rd_drop (q : te σ H fun _ H1 => D.nx σ H1) : tDrop te D σ H := q
theorem rd_ifS (q : tt σ H fun b H1 => if b = true then t1 D σ H1 else t2 D σ H1) : tIfS tt t1 t2 D σ H := q
theorem rd_nil (q : QA [] H) : tNil σ H QA := q
theorem rd_cons (q : ta σ H fun x H1 => tA σ H1 fun xs H2 => QA (x :: xs) H2) : tCons ta tA σ H QA := q
theorem rd_CB {u : List V → Hp → VK → Prop} (q : tA σ H fun vs H1 => u vs H1 Q) : tCB u tA σ H Q := q
theorem rd_call {sp : Sp} {dvs : List V} {E : XK} (q : tA σ H fun vs H1 => sp (vs ++ dvs) H1 Q E) : tCall sp dvs E tA σ H Q := q
theorem rd_callN {sp : Sp} {m k : Nat} {gV : List V → List V → List V} {E : XK} {tk : TA} (q : tA σ H fun vs H1 => tk σ H1 fun zs H2 => vs.length = m ∧ zs.length = k ∧ sp (gV vs zs) H2 Q E) : tCallN m k sp gV E tA tk σ H Q := q
/-- a new object at p, all else as it was -/
def NewAt (H : Hp) (o : HO) (R : Addr → Hp → Prop) : Prop := ∀ p H', H p = none → Same H H' → H' p = some o → R p H'
theorem new_at {o : HO} {R : Addr → Hp → Prop} (q : NewAt H o R) (p : Addr) (np : H p = none) : R p (upd H p o) := q p _ np (fun b x e => by rw [upd_ne (ne_of_none e np)]; exact e) upd_same
theorem rd_dnew (q : NewAt H (.dK []) fun p H' => Q (.ref p) H') : tDNewK σ H Q := fun p np => new_at q p np
theorem rd_ixL (h : SqL K H p xs) (e : atI xs i = some v) (q : Q v H) : rIxL K (.ref p) (.int i) H Q := ⟨p, xs, i, v, rfl, rfl, h, e, q⟩
theorem rd_ixT (h : SqT K H p xs) (e : atI xs i = some v) (q : Q v H) : rIxT K (.ref p) (.int i) H Q := ⟨p, xs, i, v, rfl, rfl, h, e, q⟩
theorem rd_match {tm : V → TS} (q : ta σ H fun v H1 => tm v D σ H1) : tMatch ta tm D σ H := q
theorem rd_mstr {z w : Str} {tr : V → TS} (q : if w = z then t1 D σ H else tr (.str w) D σ H) : mStr z t1 tr (.str w) D σ H := ⟨w, rfl, q⟩
theorem rd_par {a b : Nat} {v w : V} (q : tA σ H fun vs H1 => ∃ v w, vs = [v, w] ∧ D.nx ((σ.set a (some v)).set b (some w)) H1) : tPar a b tA D σ H := q
end
section
variable {σ : L2.St} {H : Hp} {Q : VK} {D : Ends} {te : TE} {tA : TA} {K : PySem.W.Frag} {p : Addr} {xs : List V} {R : It → Hp → Prop} {QO : Option Int → Hp → Prop} {x : V} {i : Int}
theorem rd_sl {r : V → Option Int → Option Int → Hp → VK → Prop} {tl th : TO} (q : te σ H fun x H1 => tl σ H1 fun l H2 => th σ H2 fun u H3 => r x l u H3 Q) : tSl r te tl th σ H Q := q
theorem rd_nopart (q : QO none H) : tNoPart σ H QO := q
theorem rd_part (q : te σ H fun x H1 => ∃ i, x = .int i ∧ QO (some i) H1) : tPart te σ H QO := q
theorem rd_slL {lo hi : Option Int} (h : SqL K H p xs) (q : NewAt H (.lst (cutV xs lo hi)) fun p H' => Q (.ref p) H') : rSlL K (.ref p) lo hi H Q := ⟨p, xs, rfl, h, fun p np => new_at q p np⟩
theorem rd_sum {ns : List Int} (h : SqL K H p xs) (e : xs = ns.map V.int) (q : Q (.int ns.sum) H) : rSum K [.ref p] H Q := ⟨p, ns, rfl, e ▸ h, q⟩
def FOR (J : It) (g : TG) (tb : TS) (D : Ends) (σ : L2.St) (H : Hp) : Prop := ∃ W : Nat → Nat → L2.St → Hp → Prop, (∃ m, W 0 m σ H) ∧ ∀ i m σ H, W i m σ H →
  (J.stop i H ∧ D.nx σ H) ∨
    (J.go i H ∧ ∃ N : L2.St → Hp → Prop, (∀ σ' H', N σ' H' → ∃ m', m' < m ∧ W (i + 1) m' σ' H') ∧
      ∀ x H', J.yld i H x H' → g x σ H' fun σ2 H2 => tb { D with nx := N, ct := N, bk := D.nx } σ2 H2)
theorem rd_for {wi : TI} {g : TG} {tb : TS} (q : wi σ H fun J H1 => FOR J g tb D σ H1) : tFor wi g tb D σ H := q
theorem rd_rng1 (q : tA σ H fun vs H1 => ∃ j : Int, vs = [.int j] ∧ -(2 ^ 62) ≤ j ∧ j < 2 ^ 62 ∧ R (Itr 0 j.toNat) H1) : iRng1 tA σ H R := q
theorem rd_ilist (q : te σ H fun x H1 => ∃ a, x = .ref a ∧ (∃ xs, SqL K H1 a xs) ∧ R (Itl K a) H1) : iList K te σ H R := q
theorem rd_itup (q : te σ H fun x H1 => ∃ a, x = .ref a ∧ (∃ xs, SqT K H1 a xs) ∧ R (Itt K a) H1) : iTup K te σ H R := q
theorem rd_cat {l b : Addr} {zs : List V} (h : H l = some (.lst xs)) (h2 : H b = some (.lst zs)) (z : xs.length + zs.length ≤ sizeLine) (q : NewAt H (.lst (xs ++ zs)) fun p H' => Q (.ref p) H') : rCat (.ref l) (.ref b) H Q := ⟨l, b, xs, zs, rfl, rfl, h, h2, z, fun p np => new_at q p np⟩
theorem rd_len {A : List V → Prop} (h : SqL K H p xs) (q : A xs) : ∃ a ys, [V.ref p] = [V.ref a] ∧ (SqL K H a ys ∨ SqT K H a ys) ∧ A ys := ⟨p, xs, rfl, .inl h, q⟩
theorem rd_lenT {A : List V → Prop} (h : SqT K H p xs) (q : A xs) : ∃ a ys, [V.ref p] = [V.ref a] ∧ (SqL K H a ys ∨ SqT K H a ys) ∧ A ys := ⟨p, xs, rfl, .inr h, q⟩
theorem rd_int1 {A : Int → Prop} (q : A i) : ∃ j, [V.int i] = [V.int j] ∧ A j := ⟨i, rfl, q⟩
theorem rd_int2 {A : Int → Int → Prop} {j : Int} (q : A i j) : ∃ a b, [V.int i, V.int j] = [V.int a, V.int b] ∧ A a b := ⟨i, j, rfl, q⟩
theorem rd_intp {A : Int → Prop} (q : A i) : ∃ j, V.int i = V.int j ∧ A j := ⟨i, rfl, q⟩
theorem rd_ofb {b : Bool} {A : Int → Prop} {B : Bool → Prop} (q : B b) : (∃ i, [V.bl b] = [V.int i] ∧ A i) ∨ ∃ k, [V.bl b] = [V.bl k] ∧ B k := .inr ⟨b, rfl, q⟩
theorem rd_two {A : V → V → Prop} {v w : V} (q : A v w) : ∃ a b, [v, w] = [a, b] ∧ A a b := ⟨v, w, rfl, q⟩
theorem rd_isi {c : V} {t u : Value} {b : Bool} (k : ClsV c u) (ty : TyX K H x t) (e : PySem.W.kitOne K t u = some b) (q : Q (.bl b) H) : rIsi K [x, c] H Q := ⟨x, c, t, u, b, rfl, k, ty, e, q⟩
end
/-! ### new lists and tuples, the heap behind them told by what stands in it -/
def tLstN (t : TA) : TE := fun σ H Q => t σ H fun xs H1 => xs.length ≤ sizeLine ∧ NewAt H1 (.lst xs) fun p H' => Q (.ref p) H'
def tTupN (t : TA) : TE := fun σ H Q => t σ H fun xs H1 => xs.length ≤ sizeLine ∧ NewAt H1 (.tup xs) fun p H' => Q (.ref p) H'
def tWk (t : TA) : TA := fun σ H QA => ∃ QB, t σ H QB ∧ ∀ xs H1, QB xs H1 → QA xs H1
section
variable {X : Cx} {es : List Expr} {t : TA} {pos : Pos}
theorem pa_wk (h : PA X es t) : PA X es (tWk t) := by
  constructor
  intro pos pins s σ H Q I q
  obtain ⟨QB, q1, q2⟩ := q
  refine thn (h.run pos pins s σ H QB I q1) ?_
  rintro us s1 ⟨vs, H1, I1, r, z⟩
  exact ⟨vs, H1, I1, r, q2 _ _ z⟩
theorem pe_lstN (h : PA X es t) : PE X (.List es pos) (tLstN t) :=
  ⟨fun pins s σ H Q I q => (pe_lst (pa_wk h)).run pins s σ H Q I ⟨_, q, fun xs H1 z => ⟨z.1, fun p np => new_at z.2 p np⟩⟩⟩
theorem pe_tupN {k} (h : PA X es t) : PE X (.Tuple es k pos) (tTupN t) :=
  ⟨fun pins s σ H Q I q => (pe_tup (pa_wk h)).run pins s σ H Q I ⟨_, q, fun xs H1 z => ⟨z.1, fun p np => new_at z.2 p np⟩⟩⟩
end
section
variable {σ : L2.St} {H : Hp} {Q : VK} {tA : TA} {xs : List V} {A : Prop}
theorem rd_lst (q : tA σ H fun xs H1 => xs.length ≤ sizeLine ∧ NewAt H1 (.lst xs) fun p H' => Q (.ref p) H') : tLstN tA σ H Q := q
theorem rd_tup (q : tA σ H fun xs H1 => xs.length ≤ sizeLine ∧ NewAt H1 (.tup xs) fun p H' => Q (.ref p) H') : tTupN tA σ H Q := q
theorem rd_sz (z : xs.length ≤ 1000) (q : A) : xs.length ≤ sizeLine ∧ A := ⟨Nat.le_trans z (by decide), q⟩
end
/-- the joining of ways behind a statement -/
def tJoin (t u : TS) : TS := fun D σ H => ∃ Mid : L2.St → Hp → Prop, t { D with nx := Mid } σ H ∧ ∀ σ' H', Mid σ' H' → u D σ' H'
theorem SP_mono {X : Cx} {pins : List (Addr × Obj)} {D D' : Ends} (a : ∀ σ H, D.nx σ H → D'.nx σ H) (b : ∀ σ H, D.bk σ H → D'.bk σ H) (c : ∀ σ H, D.ct σ H → D'.ct σ H) (d : ∀ v H, D.rt v H → D'.rt v H)
    {f : Flow} {s : Shared} (h : SP X pins D f s) : SP X pins D' f s := by
  cases f with
  | next => obtain ⟨σ, H, I, q⟩ := h; exact ⟨σ, H, I, a _ _ q⟩
  | brk => obtain ⟨σ, H, I, q⟩ := h; exact ⟨σ, H, I, b _ _ q⟩
  | cont => obtain ⟨σ, H, I, q⟩ := h; exact ⟨σ, H, I, c _ _ q⟩
  | ret u => obtain ⟨v, σ, H, I, r, q⟩ := h; exact ⟨v, σ, H, I, r, d _ _ q⟩
def tsWk (t : TS) : TS := fun D σ H => ∃ D' : Ends, t D' σ H ∧ (∀ σ H, D'.nx σ H → D.nx σ H) ∧ (∀ σ H, D'.bk σ H → D.bk σ H) ∧ (∀ σ H, D'.ct σ H → D.ct σ H) ∧ ∀ v H, D'.rt v H → D.rt v H
theorem ps_wk {X : Cx} {st : Stmt} {t : TS} (h : PS X st t) : PS X st (tsWk t) := by
  constructor
  intro pins s σ H D I q
  obtain ⟨D', q1, a, b, c, d⟩ := q
  exact thn (h.run pins s σ H D' I q1) fun f s1 z => SP_mono a b c d z
theorem pss_join {X : Cx} {st : Stmt} {rest : List Stmt} {t u : TS} (h : PS X st t) (hr : PSs X rest u) : PSs X (st :: rest) (tJoin t u) :=
  ⟨fun pins s σ H D I q => by
    obtain ⟨Mid, q1, q2⟩ := q
    exact (pss_cons (ps_wk h) hr).run pins s σ H D I ⟨_, q1, q2, fun _ _ z => z, fun _ _ z => z, fun _ _ z => z⟩⟩
theorem rd_join {t u : TS} {D : Ends} {σ : L2.St} {H : Hp} (Mid : L2.St → Hp → Prop) (h : t { D with nx := Mid } σ H) (q : ∀ σ' H', Mid σ' H' → u D σ' H') : tJoin t u D σ H := ⟨Mid, h, q⟩
def rRepI : List V → Hp → VK → Prop := fun xs H Q => ∃ i, xs = [.int i] ∧ i.natAbs.log2 < 1920 ∧ Q (.str (toString i)) H
theorem call_repI {X : Cx} : CallR X (.builtin "repr") rRepI := by
  intro pins s σ H xs us Q I r h
  obtain ⟨i, rfl, hz, q⟩ := h
  obtain ⟨u, rfl, t, rfl⟩ := vals1 r
  exact PySem.P.repr_of_int hz ⟨.str _, H, I.tok _, ⟨_, rfl⟩, q⟩
theorem rd_repI {i : Int} {H : Hp} {Q : VK} (h : i.natAbs < 2 ^ 1000) (q : Q (.str (toString i)) H) : rRepI [.int i] H Q := ⟨i, rfl, Nat.lt_trans (PySem.Flt.log2_lt_of (by decide) h) (by decide), q⟩
/-! ### data of lists -/
theorem cut_map (ns : List Int) (lo hi : Option Int) : ∃ ms : List Int, cutV (ns.map V.int) lo hi = ms.map V.int := by
  refine ⟨(ns.drop (HT.sIx (ns.map V.int).length 0 lo)).take (HT.sIx (ns.map V.int).length (ns.map V.int).length hi - HT.sIx (ns.map V.int).length 0 lo), ?_⟩
  unfold cutV
  rw [List.map_take, List.map_drop]
theorem atI_in {xs : List V} {i : Int} (h0 : 0 ≤ i) (h1 : i < xs.length) : ∃ v, atI xs i = some v ∧ v ∈ xs := by
  obtain ⟨n, rfl⟩ : ∃ n : Nat, i = (n : Int) := ⟨i.toNat, by omega⟩
  have hn : n < xs.length := by omega
  exact ⟨xs[n], atI_nat (List.getElem?_eq_getElem hn), List.getElem_mem hn⟩
theorem atI_int {xs : List V} {i : Int} (h : ∀ v ∈ xs, ∃ z, v = V.int z) (h0 : 0 ≤ i) (h1 : i < xs.length) : ∃ z, atI xs i = some (.int z) := by
  obtain ⟨v, e, m⟩ := atI_in h0 h1
  obtain ⟨z, rfl⟩ := h v m
  exact ⟨z, e⟩
theorem sz_le {xs : List V} (h : xs.length ≤ 1000) : xs.length ≤ sizeLine := Nat.le_trans h (by decide)
theorem cdiv64 {i m : Int} (h0 : 0 < m) (h1 : m < 18446744073709551616) : CDivW i m := wide_div (b := 64) h0 (by omega) (by decide) (by decide)
theorem same_new {H : Hp} {p : Addr} {o : HO} (h : H p = none) : Same H (upd H p o) := fun b x e => by rw [upd_ne (ne_of_none e h)]; exact e
theorem same_add {H H1 : Hp} {p : Addr} {o : HO} (s : Same H H1) (h : H1 p = none) : Same H (upd H1 p o) := s.trans (same_new h)
/-! ### the pool that a law draws from -/
def PoolAt (H : Hp) (p : Addr) : Prop := ∃ a b : Int, H p = some (.lst [.int a, .int b])
/-- all but the pool stays -/
def Kp (p : Addr) (H H' : Hp) : Prop := PoolAt H' p ∧ ∀ c o, c ≠ p → H c = some o → H' c = some o
theorem Kp.refl {p : Addr} {H : Hp} (h : PoolAt H p) : Kp p H H := ⟨h, fun _ _ _ e => e⟩
theorem Kp.trans {p : Addr} {H H1 H2 : Hp} (a : Kp p H H1) (b : Kp p H1 H2) : Kp p H H2 := ⟨b.1, fun c o n e => b.2 c o n (a.2 c o n e)⟩
theorem Kp.new {p c : Addr} {H H1 : Hp} {o : HO} (a : Kp p H H1) (hc : H1 c = none) : Kp p H (upd H1 c o) := by
  obtain ⟨⟨x, y, e⟩, k⟩ := a
  refine ⟨⟨x, y, ?_⟩, fun d u n h => ?_⟩
  · rw [upd_ne (ne_of_none e hc)]; exact e
  · rw [upd_ne (ne_of_none (k d u n h) hc)]; exact k d u n h
theorem Kp.same {p : Addr} {H H1 H2 : Hp} (a : Kp p H H1) (s : Same H1 H2) : Kp p H H2 := by
  obtain ⟨⟨x, y, e⟩, k⟩ := a
  exact ⟨⟨x, y, s _ _ e⟩, fun d u n h => s _ _ (k d u n h)⟩
theorem Kp.at {p c : Addr} {H H1 : Hp} {o : HO} (a : Kp p H H1) (n : c ≠ p) (e : H c = some o) : H1 c = some o := a.2 c o n e
theorem Kp.sqL {K : PySem.W.Frag} {p c : Addr} {H H1 : Hp} {xs : List V} (a : Kp p H H1) (n : c ≠ p) (e : SqL K H c xs) : SqL K H1 c xs := by
  rcases e with (h | ⟨o, h⟩) | h
  · exact .inl (.inl (a.2 _ _ n h))
  · exact .inl (.inr ⟨o, a.2 _ _ n h⟩)
  · exact .inr h
theorem same_kp {H H1 H2 : Hp} {p : Addr} (n : H p = none) (s : Same H H1) (k : Kp p H1 H2) : Same H H2 := fun b o e => k.2 b o (ne_of_none e n) (s b o e)
theorem Kp.ne {p c : Addr} {H H1 : Hp} (k : Kp p H H1) (n : H1 c = none) : c ≠ p := by
  obtain ⟨⟨x, y, e⟩, _⟩ := k
  exact (ne_of_none e n).symm
theorem PoolAt.same {p : Addr} {H H1 : Hp} (a : PoolAt H p) (s : Same H H1) : PoolAt H1 p := by
  obtain ⟨x, y, e⟩ := a
  exact ⟨x, y, s _ _ e⟩
theorem PoolAt.ne {p c : Addr} {H : Hp} (a : PoolAt H p) (n : H c = none) : c ≠ p := by
  obtain ⟨x, y, e⟩ := a
  exact (ne_of_none e n).symm
def spTake : Sp := fun vs H Q _ => ∃ (p : Addr) (m : Int), vs = [.ref p, .int m] ∧ PoolAt H p ∧ 0 < m ∧ m < 18446744073709551616 ∧
  ∀ (r : Int) H', 0 ≤ r → r < m → Kp p H H' → Q (.int r) H'
def spPool (K : PySem.W.Frag) : Sp := fun vs H Q _ => ∃ (a : Addr) (ns : List Int) (k : Int), vs = [.ref a, .int k] ∧ SqL K H a (ns.map V.int) ∧ 0 ≤ k ∧ k < 64 ∧
  ∀ H' p, H p = none → Same H H' → PoolAt H' p → Q (.ref p) H'
def spWide : Sp := fun vs H Q _ => ∃ p : Addr, vs = [.ref p] ∧ PoolAt H p ∧ ∀ (n : Nat) H', 1 ≤ n → n ≤ 32 → Kp p H H' → Q (.int n) H'
def spSize : Sp := fun vs H Q _ => ∃ n : Nat, vs = [.int n] ∧ n ≤ 64 ∧ Q (.int (2 ^ n)) H
def spWorth : Sp := fun vs H Q _ => ∃ (p : Addr) (m : Int), vs = [.ref p, .int m] ∧ PoolAt H p ∧ 2 ≤ m ∧ m < 18446744073709551616 ∧
  ∀ (r : Int) H', 0 ≤ r → r < m → Kp p H H' → Q (.int r) H'
end Bg

set_option Elab.async false
set_option linter.all false
set_option maxRecDepth 100000
set_option maxHeartbeats 4000000
namespace Bg
open PySem PySem.Spec PyProof.Rows L2
def topS (i : Nat) : Stmt := PySem.Challenge.pw_boundgate_k01_worths_looked_at.main.body.getD i (.Pass ⟨0, 0, 0, 0⟩)
abbrev s_greatest : Stmt := topS 2
theorem sc_greatest : FnScope ["wide"] ["wide"] (defScope s_greatest) := ⟨rfl, rfl, rfl, by decide +kernel, rfl, by decide +kernel, by decide +kernel⟩
abbrev s_is_whole : Stmt := topS 3
theorem sc_is_whole : FnScope ["thing"] ["thing"] (defScope s_is_whole) := ⟨rfl, rfl, rfl, by decide +kernel, rfl, by decide +kernel, by decide +kernel⟩
abbrev s_is_worth : Stmt := topS 4
theorem sc_is_worth : FnScope ["thing", "wide"] ["thing", "wide"] (defScope s_is_worth) := ⟨rfl, rfl, rfl, by decide +kernel, rfl, by decide +kernel, by decide +kernel⟩
abbrev s_signed : Stmt := topS 5
theorem sc_signed : FnScope ["worth", "wide"] ["worth", "wide"] (defScope s_signed) := ⟨rfl, rfl, rfl, by decide +kernel, rfl, by decide +kernel, by decide +kernel⟩
abbrev s_pool : Stmt := topS 7
theorem sc_pool : FnScope ["_law_script", "_law_k", "_law_cell", "_law_great", "_law_mixed"] ["_law_script", "_law_k"] (defScope s_pool) := ⟨rfl, rfl, rfl, by decide +kernel, rfl, by decide +kernel, by decide +kernel⟩
abbrev s_take : Stmt := topS 8
theorem sc_take : FnScope ["_law_pool_here", "_law_many", "_law_found"] ["_law_pool_here", "_law_many"] (defScope s_take) := ⟨rfl, rfl, rfl, by decide +kernel, rfl, by decide +kernel, by decide +kernel⟩
abbrev s_wide : Stmt := topS 9
theorem sc_wide : FnScope ["_law_pool_here"] ["_law_pool_here"] (defScope s_wide) := ⟨rfl, rfl, rfl, by decide +kernel, rfl, by decide +kernel, by decide +kernel⟩
abbrev s_size : Stmt := topS 10
theorem sc_size : FnScope ["_law_broad", "_law_found", "_law_turn"] ["_law_broad"] (defScope s_size) := ⟨rfl, rfl, rfl, by decide +kernel, rfl, by decide +kernel, by decide +kernel⟩
abbrev s_worth : Stmt := topS 11
theorem sc_worth : FnScope ["_law_pool_here", "_law_size_here", "_law_some"] ["_law_pool_here", "_law_size_here"] (defScope s_worth) := ⟨rfl, rfl, rfl, by decide +kernel, rfl, by decide +kernel, by decide +kernel⟩
abbrev s_law : Stmt := topS 12
theorem sc_law : FnScope ["_law_script", "_law_k", "_law_pool_here", "_law_broad", "_law_size_here", "_law_worth_here", "_law_some", "_law_thing", "_law_whole", "_law_bits", "_law_good", "_law_due"] ["_law_script"] (defScope s_law) := ⟨rfl, rfl, rfl, by decide +kernel, rfl, by decide +kernel, by decide +kernel⟩
structure Txt (K : PySem.W.Frag) (mg : Str → Option Value) where
  a_greatest : Addr
  fd_greatest : FuncData
  F_greatest : Fun K "greatest" "greatest" s_greatest a_greatest fd_greatest
  g_greatest : mg "greatest" = some (.ref a_greatest)
  b_greatest : Binds K fd_greatest ["wide"] []
  a_is_whole : Addr
  fd_is_whole : FuncData
  F_is_whole : Fun K "is_whole" "is_whole" s_is_whole a_is_whole fd_is_whole
  g_is_whole : mg "is_whole" = some (.ref a_is_whole)
  b_is_whole : Binds K fd_is_whole ["thing"] []
  a_is_worth : Addr
  fd_is_worth : FuncData
  F_is_worth : Fun K "is_worth" "is_worth" s_is_worth a_is_worth fd_is_worth
  g_is_worth : mg "is_worth" = some (.ref a_is_worth)
  d_is_worth : List Value
  v_is_worth : Vals [.int 16] d_is_worth
  b_is_worth : Binds K fd_is_worth ["thing", "wide"] d_is_worth
  k_is_worth : KBn K fd_is_worth ["thing", "wide"] 1 ["wide"] (fun us ws => us ++ ws) (fun vs zs => vs ++ zs)
  a_signed : Addr
  fd_signed : FuncData
  F_signed : Fun K "signed" "signed" s_signed a_signed fd_signed
  g_signed : mg "signed" = some (.ref a_signed)
  d_signed : List Value
  v_signed : Vals [.int 16] d_signed
  b_signed : Binds K fd_signed ["worth", "wide"] d_signed
  k_signed : KBn K fd_signed ["worth", "wide"] 1 ["wide"] (fun us ws => us ++ ws) (fun vs zs => vs ++ zs)
  a_pool : Addr
  fd_pool : FuncData
  F_pool : Fun K "_law_pool" "_law_pool" s_pool a_pool fd_pool
  g_pool : mg "_law_pool" = some (.ref a_pool)
  b_pool : Binds K fd_pool ["_law_script", "_law_k"] []
  a_take : Addr
  fd_take : FuncData
  F_take : Fun K "_law_take" "_law_take" s_take a_take fd_take
  g_take : mg "_law_take" = some (.ref a_take)
  b_take : Binds K fd_take ["_law_pool_here", "_law_many"] []
  a_wide : Addr
  fd_wide : FuncData
  F_wide : Fun K "_law_wide" "_law_wide" s_wide a_wide fd_wide
  g_wide : mg "_law_wide" = some (.ref a_wide)
  b_wide : Binds K fd_wide ["_law_pool_here"] []
  a_size : Addr
  fd_size : FuncData
  F_size : Fun K "_law_size" "_law_size" s_size a_size fd_size
  g_size : mg "_law_size" = some (.ref a_size)
  b_size : Binds K fd_size ["_law_broad"] []
  a_worth : Addr
  fd_worth : FuncData
  F_worth : Fun K "_law_worth" "_law_worth" s_worth a_worth fd_worth
  g_worth : mg "_law_worth" = some (.ref a_worth)
  b_worth : Binds K fd_worth ["_law_pool_here", "_law_size_here"] []
  t_WIDE : Tok
  g_WIDE : mg "WIDE" = some (.int 16 t_WIDE)
  b_abs : mg "abs" = none
  b_bool : mg "bool" = none
  b_int : mg "int" = none
  b_isinstance : mg "isinstance" = none
  b_len : mg "len" = none
  b_max : mg "max" = none
  b_min : mg "min" = none
  b_range : mg "range" = none
  b_repr : mg "repr" = none
  b_sum : mg "sum" = none
local macro_rules | `(tactic| walk_at "side") => `(tactic| first
  | (show (0 : Int) < _; first | decide | omega)
  | (show (0 : Int) ≤ _; first | decide | omega)
  | exact cdiv64 (by first | decide | omega) (by first | decide | omega)
  | (show CMul _ _; first | exact Or.inl ⟨by omega, by omega⟩ | exact Or.inr ⟨by omega, by omega⟩ | exact Or.inr (by split; exact ⟨by omega, by omega⟩; exact ⟨by omega, by omega⟩))
  | (show CPow _ _; exact ⟨by first | decide | omega, by first | decide | omega, by first | decide | omega⟩))
local macro_rules | `(tactic| walk_at "rd") => `(tactic| repeat (first
  | ((with_reducible refine' rd_var ?h ?_); (case h => exact rfl))
  | (with_reducible refine' rd_c ?_)
  | (with_reducible refine' rd_op ?_)
  | (with_reducible refine' rd_un ?_)
  | (with_reducible refine' rd_I0 ?_)
  | ((with_reducible refine' rd_I ?h ?_); (case h => walk_at "side"))
  | (with_reducible refine' rd_U ?_)
  | ((with_reducible refine' rd_eq ?h ?_); (case h => exact rfl))
  | ((with_reducible refine' rd_ne ?h ?_); (case h => exact rfl))
  | (with_reducible refine' rd_test ?_)
  | (with_reducible refine' rd_B ?_)
  | (with_reducible refine' rd_bl ?_)
  | (with_reducible refine' rd_not ?_)
  | (with_reducible refine' rd_and ?_)
  | (with_reducible refine' rd_or ?_)
  | (with_reducible refine' rd_andV ?_)
  | (with_reducible refine' rd_orV ?_)
  | (with_reducible refine' rd_notV ?_)
  | (with_reducible refine' rd_if ?_)
  | (with_reducible refine' rd_chain ?_)
  | (with_reducible refine' rd_seq ?_)
  | (with_reducible refine' rd_next ?_)
  | (with_reducible refine' rd_asg ?_)
  | (with_reducible refine' rd_name ?_)
  | (with_reducible refine' rd_gsub ?_)
  | (with_reducible refine' rd_ret ?_)
  | (with_reducible refine' rd_ifS ?_)
  | (with_reducible refine' rd_nil ?_)
  | (with_reducible refine' rd_cons ?_)
  | (with_reducible refine' rd_CB ?_)
  | (with_reducible refine' rd_call ?_)
  | (with_reducible refine' rd_callN ?_)
  | ((with_reducible refine' rd_ixL ?h ?e ?_); (case h => first | exact SqL.of (by assumption) | exact SqL.of upd_same | assumption); (case e => exact rfl))
  | ((with_reducible refine' rd_ixT ?h ?e ?_); (case h => first | exact SqT.of (by assumption) | exact SqT.of upd_same | assumption); (case e => exact rfl))
  | ((with_reducible refine' rd_setL ?h ?e ?_); (case h => first | assumption | exact upd_same); (case e => exact rfl))
  | (with_reducible refine' rd_sl ?_)
  | (with_reducible refine' rd_nopart ?_)
  | (with_reducible refine' rd_part ?_)
  | (with_reducible refine' rd_lst ?_)
  | (with_reducible refine' rd_tup ?_)
  | ((with_reducible refine' rd_sz ?h ?_); (case h => first | (simp only [List.length_cons, List.length_nil]; decide)))
  | (with_reducible refine' rd_dnew ?_)
  | (with_reducible refine' rd_for ?_)
  | (with_reducible refine' rd_rng1 ?_)
  | (with_reducible refine' rd_ilist ?_)
  | (with_reducible refine' rd_itup ?_)
  | (with_reducible refine' rd_match ?_)
  | (with_reducible refine' iteT ?_)
  | (with_reducible refine' iteF ?_)
  | ((with_reducible refine' rd_len ?h ?_); (case h => first | assumption | exact SqL.of (by assumption)))
  | (with_reducible refine' rd_int1 ?_)
  | (with_reducible refine' rd_int2 ?_)
  | (with_reducible refine' rd_intp ?_)
  | (with_reducible refine' rd_ofb ?_)
  | (with_reducible refine' rd_two ?_)))
/-! ### things of the kinds that the law hands in -/
inductive Kd (H : Hp) : V → Prop
  | int (i : Int) : Kd H (.int i)
  | bl (b : Bool) : Kd H (.bl b)
  | non : Kd H .non
  | str (z : Str) : Kd H (.str z)
  | lst {a : Addr} {xs : List V} (e : H a = some (.lst xs)) : Kd H (.ref a)
  | tup {a : Addr} {xs : List V} (e : H a = some (.tup xs)) : Kd H (.ref a)
  | dct {a : Addr} {kvs : List (Key × V)} (e : H a = some (.dK kvs)) : Kd H (.ref a)
theorem Kd.same {H H1 : Hp} {x : V} (k : Kd H x) (s : Same H H1) : Kd H1 x := by
  cases k with
  | int i => exact .int i
  | bl b => exact .bl b
  | non => exact .non
  | str z => exact .str z
  | lst e => exact .lst (s _ _ e)
  | tup e => exact .tup (s _ _ e)
  | dct e => exact .dct (s _ _ e)
def wholeB : V → Bool
  | .int _ => true
  | _ => false
def worthB : V → Nat → Bool
  | .int i, n => decide (0 ≤ i ∧ i < 2 ^ n)
  | _, _ => false
/-- what isinstance tells of a thing -/
theorem Kd.isi {K : PySem.W.Frag} {H : Hp} {x : V} (k : Kd H x) : ∃ (t : String) (b : Bool), TyX K H x (.type t) ∧
    PySem.W.kitOne K (.type t) (.type "int") = some (wholeB x || b) ∧ PySem.W.kitOne K (.type t) (.type "bool") = some b ∧ (b = true → wholeB x = false) := by
  cases k with
  | int i => exact ⟨"int", false, .base (.int i), kit_ty (show kitB "int" "int" = some true by decide +kernel), kit_ty (show kitB "int" "bool" = some false by decide +kernel), fun z => nomatch z⟩
  | bl b => exact ⟨"bool", true, .base (.bl b), kit_ty (show kitB "bool" "int" = some true by decide +kernel), kit_ty (show kitB "bool" "bool" = some true by decide +kernel), fun _ => rfl⟩
  | non => exact ⟨"NoneType", false, .base .non, kit_ty (show kitB "NoneType" "int" = some false by decide +kernel), kit_ty (show kitB "NoneType" "bool" = some false by decide +kernel), fun z => nomatch z⟩
  | str z => exact ⟨"str", false, .base (.str z), kit_ty (show kitB "str" "int" = some false by decide +kernel), kit_ty (show kitB "str" "bool" = some false by decide +kernel), fun z => nomatch z⟩
  | lst e => exact ⟨"list", false, .base (.lst e), kit_ty (show kitB "list" "int" = some false by decide +kernel), kit_ty (show kitB "list" "bool" = some false by decide +kernel), fun z => nomatch z⟩
  | tup e => exact ⟨"tuple", false, .base (.tup e), kit_ty (show kitB "tuple" "int" = some false by decide +kernel), kit_ty (show kitB "tuple" "bool" = some false by decide +kernel), fun z => nomatch z⟩
  | dct e => exact ⟨"dict", false, .base (.dK e), kit_ty (show kitB "dict" "int" = some false by decide +kernel), kit_ty (show kitB "dict" "bool" = some false by decide +kernel), fun z => nomatch z⟩
def spGreatest : Sp := fun vs H Q _ => ∃ n : Nat, vs = [.int n] ∧ n ≤ 64 ∧ Q (.int (2 ^ n - 1)) H
def spWhole : Sp := fun vs H Q _ => ∃ x : V, vs = [x] ∧ Kd H x ∧ Q (.bl (wholeB x)) H
def spIsWorth : Sp := fun vs H Q _ => ∃ (x : V) (n : Nat), vs = [x, .int n] ∧ Kd H x ∧ n ≤ 64 ∧ Q (.bl (worthB x n)) H
def sgn (i : Int) (n : Nat) : Int := if i / 2 ^ (n - 1) = 0 then i else i - 2 ^ n
def spSigned : Sp := fun vs H Q _ => ∃ (i : Int) (n : Nat), vs = [.int i, .int n] ∧ 1 ≤ n ∧ n ≤ 64 ∧ Q (.int (sgn i n)) H
theorem pow_lt64 {n : Nat} (h : n ≤ 63) : (2 : Int) ^ n < 18446744073709551616 := by
  have h1 : 2 ^ n ≤ 2 ^ 63 := Nat.pow_le_pow_right (by decide) h
  have h2 : ((2 ^ n : Nat) : Int) ≤ ((2 ^ 63 : Nat) : Int) := Int.ofNat_le.mpr h1
  rw [Int.natCast_pow, Int.natCast_pow] at h2
  have h3 : ((2 : Nat) : Int) ^ 63 = 9223372036854775808 := by decide
  rw [h3] at h2
  exact Int.lt_of_le_of_lt h2 (by decide)
theorem pow_pos2 (n : Nat) : (0 : Int) < 2 ^ n := Int.pow_pos (by decide)
theorem two_le {n : Nat} (h : 1 ≤ n) : (2 : Int) ≤ 2 ^ n := by
  obtain ⟨m, rfl⟩ : ∃ m, n = m + 1 := ⟨n - 1, by omega⟩
  have := pow_pos2 m
  rw [Int.pow_succ]
  omega
section
variable {P : Program} {w : World} {K : PySem.W.Frag} {mg : Str → Option Value} {base : Heap}
theorem ok_take (T : Txt K mg) : FnOk P w K mg base CX0 1 T.a_take T.fd_take ["_law_pool_here", "_law_many"] spTake := by
  refine T.F_take.ok sc_take (fun vs H Q E h => by obtain ⟨p, m, rfl, _⟩ := h; rfl) (fun cdv A outer s H vs Q E hr h => ?_)
  obtain ⟨p, m, rfl, ⟨a, b, hp⟩, m0, m1, q⟩ := h
  refine ⟨_, (pss_cons (ps_if (pt_cmpR op_gt (pe_ix ix_list (pv 0) pe_int (fun _ _ => rfl)) pe_int (nomark _))
  (pss_cons (ps_set (i := 2) sc_take.nd rfl (.inl rfl) (pe_op op_mod (pe_ix ix_list (pv 0) pe_int (fun _ _ => rfl)) (pv 1)))
 (pss_cons (ps_asg (pe_op op_fdivW (pe_ix ix_list (pv 0) pe_int (fun _ _ => rfl)) (pv 1)) (pg_sub (pv 0) pe_int set_list))
 (pss_one (ps_ret (pv 2)))))
  pss_nil)
 (pss_cons (ps_asg (pe_op op_mod (pe_op op_add (pe_op op_mul (pe_ix ix_list (pv 0) pe_int (fun _ _ => rfl)) pe_int) pe_int) pe_int) (pg_sub (pv 0) pe_int set_list))
 (pss_one (ps_ret (pe_op op_mod (pe_op op_fdivW (pe_op op_mod (pe_op op_mul (pe_ix ix_list (pv 0) pe_int (fun _ _ => rfl)) (pe_ix ix_list (pv 0) pe_int (fun _ _ => rfl))) pe_int) pe_int) (pv 1)))))), ?_⟩
  walk_at "rd"
  refine ite2 (fun c => ?_) (fun c => ?_)
  · walk_at "rd"
    exact q _ _ (Int.emod_nonneg _ (by omega)) (Int.emod_lt_of_pos _ m0) ⟨⟨_, _, upd_same⟩, fun c o n e => by rw [upd_ne n]; exact e⟩
  · walk_at "rd"
    exact q _ _ (Int.emod_nonneg _ (by omega)) (Int.emod_lt_of_pos _ m0) ⟨⟨_, _, upd_same⟩, fun c o n e => by rw [upd_ne n]; exact e⟩
theorem ok_pool (T : Txt K mg) : FnOk P w K mg base CX0 1 T.a_pool T.fd_pool ["_law_script", "_law_k"] (spPool K) := by
  refine T.F_pool.ok sc_pool (fun vs H Q E h => by obtain ⟨a, ns, k, rfl, _⟩ := h; rfl) (fun cdv A outer s H vs Q E hr h => ?_)
  obtain ⟨a, ns, k, rfl, hS, k0, k1, q⟩ := h
  refine ⟨_, (pss_cons (ps_set (i := 2) sc_pool.nd rfl (.inl rfl) (pe_op op_add (pe_op op_mul pe_int (pe_callB (cr_sum rfl) (by rfl) T.b_sum (by decide +kernel) (pa_cons (pe_slice sl_list (pv 0) po_none (po_some pe_int)) pa_nil))) (pv 1)))
 (pss_cons (ps_if (pt_cmpR op_lt (pv 1) (pe_callB call_len_seq (by rfl) T.b_len (by decide +kernel) (pa_cons (pv 0) pa_nil)) (nomark _))
  (pss_one (ps_set (i := 2) sc_pool.nd rfl (.inl rfl) (pe_ix ix_list (pv 0) (pv 1) (fun _ _ => rfl))))
  pss_nil)
 (pss_cons (ps_set (i := 3) sc_pool.nd rfl (.inl rfl) (pe_callB call_abs (by rfl) T.b_abs (by decide +kernel) (pa_cons (pv 2) pa_nil)))
 (pss_cons (ps_set (i := 4) sc_pool.nd rfl (.inl rfl) (pe_op op_mod (pe_op op_mul (pe_op op_add (pe_op op_add (pe_op op_add (pe_op op_mod (pv 3) pe_int) (pe_op op_mul (pe_op op_mul pe_int (pv 1)) (pv 1))) (pe_op op_mul pe_int (pv 1))) pe_int) pe_int) pe_int))
 (pss_one (ps_ret (pe_lstN (pa_cons (pe_op op_mul (pv 3) (pe_callTy call_int1 (by rfl) T.b_int (by decide +kernel) (pa_cons (pe_cmpR op_ge (pv 3) (pe_op op_pow pe_int pe_int) (nomark _)) pa_nil))) (pa_cons (pe_op op_mod (pe_op op_mul (pv 4) (pv 4)) pe_int) pa_nil))))))))), ?_⟩
  walk_at "rd"
  refine rd_slL hS (fun c Hc nc sc hc => ?_)
  walk_at "rd"
  obtain ⟨ms, em⟩ := cut_map ns none (some 63)
  refine rd_sum (SqL.of hc) em ?_
  have hS1 : SqL K Hc a (ns.map V.int) := sc.seq hS
  walk_at "rd"
  refine ite2 (fun c => ?_) (fun c => ?_)
  · obtain ⟨z, ez⟩ := atI_int (xs := ns.map V.int) (i := k) (fun v hv => by obtain ⟨z, _, e⟩ := List.mem_map.mp hv; exact ⟨z, e.symm⟩) k0 (of_decide_eq_true c)
    walk_at "rd"
    refine rd_ixL hS1 ez ?_
    walk_at "rd"
    exact fun p H' np sp hp => q H' p (sc.free np) (sc.trans sp) ⟨_, _, hp⟩
  · walk_at "rd"
    exact fun p H' np sp hp => q H' p (sc.free np) (sc.trans sp) ⟨_, _, hp⟩
theorem ok_wide (T : Txt K mg) : FnOk P w K mg base CX0 2 T.a_wide T.fd_wide ["_law_pool_here"] spWide := by
  refine T.F_wide.ok sc_wide (fun vs H Q E h => by obtain ⟨p, rfl, _⟩ := h; rfl) (fun cdv A outer s H vs Q E hr h => ?_)
  obtain ⟨p, rfl, hp, q⟩ := h
  refine ⟨_, (pss_one (ps_ret (pe_ix ix_list (pe_lstN (pa_cons pe_int (pa_cons pe_int (pa_cons pe_int (pa_cons pe_int (pa_cons pe_int (pa_cons pe_int (pa_cons (pe_op op_add pe_int (pe_call (ok_take T) (hr.mono (by decide)) (by rfl) T.g_take T.F_take.kp T.b_take .nil pass0 (pa_cons (pv 0) (pa_cons pe_int pa_nil)))) pa_nil)))))))) (pe_call (ok_take T) (hr.mono (by decide)) (by rfl) T.g_take T.F_take.kp T.b_take .nil pass0 (pa_cons (pv 0) (pa_cons pe_int pa_nil))) (fun _ _ => rfl)))), ?_⟩
  walk_at "rd"
  refine ⟨p, 32, rfl, hp, by decide, by decide, fun r H1 r0 r1 k1 => ?_⟩
  walk_at "rd"
  refine fun c Hc nc sc hc => ?_
  walk_at "rd"
  refine ⟨p, 7, rfl, k1.1.same sc, by decide, by decide, fun u H2 u0 u1 k2 => ?_⟩
  walk_at "rd"
  replace hc := k2.at (k1.1.ne nc) hc
  obtain ⟨v, ev, mv⟩ := atI_in (xs := [V.int 16, V.int 16, V.int 1, V.int 2, V.int 8, V.int 32, V.int (1 + r)]) u0 u1
  refine rd_ixL (SqL.of hc) ev ?_
  have kk := (k1.same sc).trans k2
  have fin : ∀ z : Int, 1 ≤ z → z ≤ 32 → Q (.int z) H2 := fun z h1 h2 => by
    obtain ⟨n, rfl⟩ : ∃ n : Nat, z = (n : Int) := ⟨z.toNat, by omega⟩
    exact q n H2 (by omega) (by omega) kk
  simp only [List.mem_cons, List.not_mem_nil, or_false] at mv
  rcases mv with rfl | rfl | rfl | rfl | rfl | rfl | rfl
  · exact fin _ (by decide) (by decide)
  · exact fin _ (by decide) (by decide)
  · exact fin _ (by decide) (by decide)
  · exact fin _ (by decide) (by decide)
  · exact fin _ (by decide) (by decide)
  · exact fin _ (by decide) (by decide)
  · exact fin _ (by omega) (by omega)
theorem ok_size (T : Txt K mg) : FnOk P w K mg base CX0 1 T.a_size T.fd_size ["_law_broad"] spSize := by
  refine T.F_size.ok sc_size (fun vs H Q E h => by obtain ⟨n, rfl, _⟩ := h; rfl) (fun cdv A outer s H vs Q E hr h => ?_)
  obtain ⟨n, rfl, hn, q⟩ := h
  refine ⟨_, (pss_cons (ps_set (i := 1) sc_size.nd rfl (.inl rfl) pe_int)
 (pss_cons (ps_for PassesOwn.never rfl (pi_range1 (by rfl) T.b_range (pa_cons (pv 0) pa_nil)) (pg_name (i := 2) sc_size.nd rfl (.inl rfl))
  (pss_one (ps_set (i := 1) sc_size.nd rfl (.inl rfl) (pe_op op_mul (pv 1) pe_int))))
 (pss_one (ps_ret (pv 1))))), ?_⟩
  walk_at "rd"
  refine ⟨by omega, by omega, ?_⟩
  refine for_range (lo := 0) (n := n) (fun i σ H1 => ∃ y, σ = [some (.int (n : Int)), some (.int (2 ^ i)), y] ∧ H1 = H) ⟨none, rfl, rfl⟩ (fun i σ H1 hi hW => ?_) (fun σ H1 hW => ?_)
  · obtain ⟨y, rfl, rfl⟩ := hW
    walk_at "rd"
    exact ⟨_, by rw [Int.pow_succ]; rfl, rfl⟩
  · obtain ⟨y, rfl, rfl⟩ := hW
    walk_at "rd"
    exact q
theorem ok_worth (T : Txt K mg) : FnOk P w K mg base CX0 2 T.a_worth T.fd_worth ["_law_pool_here", "_law_size_here"] spWorth := by
  refine T.F_worth.ok sc_worth (fun vs H Q E h => by obtain ⟨p, m, rfl, _⟩ := h; rfl) (fun cdv A outer s H vs Q E hr h => ?_)
  obtain ⟨p, m, rfl, hp, m0, m1, q⟩ := h
  refine ⟨_, (pss_cons (ps_set (i := 2) sc_worth.nd rfl (.inl rfl) (pe_lstN (pa_cons pe_int (pa_cons pe_int (pa_cons (pe_op op_sub (pv 1) pe_int) (pa_cons (pe_op op_fdivW (pv 1) pe_int) (pa_cons (pe_op op_sub (pe_op op_fdivW (pv 1) pe_int) pe_int) (pa_cons (pe_op op_fdivW (pv 1) pe_int) (pa_cons (pe_call (ok_take T) (hr.mono (by decide)) (by rfl) T.g_take T.F_take.kp T.b_take .nil pass0 (pa_cons (pv 0) (pa_cons (pv 1) pa_nil))) (pa_cons (pe_call (ok_take T) (hr.mono (by decide)) (by rfl) T.g_take T.F_take.kp T.b_take .nil pass0 (pa_cons (pv 0) (pa_cons (pv 1) pa_nil))) pa_nil))))))))))
 (pss_one (ps_ret (pe_op op_mod (pe_callB (call_max2 rfl) (by rfl) T.b_max (by decide +kernel) (pa_cons pe_int (pa_cons (pe_ix ix_list (pv 2) (pe_call (ok_take T) (hr.mono (by decide)) (by rfl) T.g_take T.F_take.kp T.b_take .nil pass0 (pa_cons (pv 0) (pa_cons pe_int pa_nil))) (fun _ _ => rfl)) pa_nil))) (pv 1))))), ?_⟩
  walk_at "rd"
  refine ⟨p, m, rfl, hp, by omega, m1, fun r H1 r0 r1 k1 => ?_⟩
  walk_at "rd"
  refine ⟨p, m, rfl, k1.1, by omega, m1, fun u H2 u0 u1 k2 => ?_⟩
  walk_at "rd"
  refine fun c Hc nc sc hc => ?_
  walk_at "rd"
  have k3 := (k1.trans k2).same sc
  refine ⟨p, 8, rfl, k3.1, by decide, by decide, fun x H3 x0 x1 k4 => ?_⟩
  walk_at "rd"
  replace hc := k4.at ((k1.trans k2).1.ne nc) hc
  obtain ⟨z, ez⟩ := atI_int (xs := [V.int 0, V.int 1, V.int (m - 1), V.int (m / 2), V.int (m / 2 - 1), V.int (m / 3), V.int r, V.int u]) (i := x) (fun v hv => by
    simp only [List.mem_cons, List.not_mem_nil, or_false] at hv
    rcases hv with rfl | rfl | rfl | rfl | rfl | rfl | rfl | rfl <;> exact ⟨_, rfl⟩) x0 x1
  refine rd_ixL (SqL.of hc) ez ?_
  walk_at "rd"
  exact q _ _ (Int.emod_nonneg _ (by omega)) (Int.emod_lt_of_pos _ (by omega)) (k3.trans k4)
theorem ok_greatest (T : Txt K mg) : FnOk P w K mg base CX0 1 T.a_greatest T.fd_greatest ["wide"] spGreatest := by
  refine T.F_greatest.ok sc_greatest (fun vs H Q E h => by obtain ⟨n, rfl, _⟩ := h; rfl) (fun cdv A outer s H vs Q E hr h => ?_)
  obtain ⟨n, rfl, hn, q⟩ := h
  refine ⟨_, (pss_one (ps_ret (pe_op op_sub (pe_op op_shl pe_int (pv 0)) pe_int))), ?_⟩
  walk_at "rd"
  have e : (1 : Int) * 2 ^ (n : Int).toNat - 1 = 2 ^ n - 1 := by rw [Int.one_mul, Int.toNat_natCast]
  rw [e]
  exact q
theorem rd_whole {σ : L2.St} {H : Hp} {Q : VK} {n : Nat} {x : V} (hx : σ[n]? = some (some x)) (k : Kd H x) (q : Q (.bl (wholeB x)) H) :
    tAndV (tCB (rIsi K) (tCons (tVar n) (tCons (tC (.ty "int")) tNil))) (tNotV (tCB (rIsi K) (tCons (tVar n) (tCons (tC (.ty "bool")) tNil)))) σ H Q := by
  obtain ⟨t, b, ty, e1, e2, e3⟩ := k.isi (K := K)
  refine rd_andV (rd_CB (rd_cons (rd_var hx (rd_cons (rd_c (rd_nil (rd_isi (.ty "int") ty e1 (rd_bl (ite2 (fun c => ?_) (fun c => ?_))))))))))
  · refine rd_notV (rd_CB (rd_cons (rd_var hx (rd_cons (rd_c (rd_nil (rd_isi (.ty "bool") ty e2 (rd_bl ?_))))))))
    have z : (!b) = wholeB x := by
      cases b with
      | true => rw [e3 rfl]; rfl
      | false => rw [Bool.or_false] at c; rw [c]; rfl
    rw [z]
    exact q
  · have z : wholeB x = false := by
      cases h : wholeB x with
      | true => rw [h] at c; exact absurd rfl c
      | false => rfl
    rw [z] at q
    exact q
theorem ok_is_whole (T : Txt K mg) : FnOk P w K mg base CX0 1 T.a_is_whole T.fd_is_whole ["thing"] spWhole := by
  refine T.F_is_whole.ok sc_is_whole (fun vs H Q E h => by obtain ⟨n, rfl, _⟩ := h; rfl) (fun cdv A outer s H vs Q E hr h => ?_)
  obtain ⟨x, rfl, k, q⟩ := h
  refine ⟨_, (pss_one (ps_ret (pe_and (pe_callB call_isi (by rfl) T.b_isinstance (by decide +kernel) (pa_cons (pv 0) (pa_cons (pe_bltn (v := .ty "int") (by rfl) T.b_int (by decide +kernel) rfl) pa_nil))) (pe_one (pe_not (pe_callB call_isi (by rfl) T.b_isinstance (by decide +kernel) (pa_cons (pv 0) (pa_cons (pe_bltn (v := .ty "bool") (by rfl) T.b_bool (by decide +kernel) rfl) pa_nil)))))))), ?_⟩
  exact rd_whole (σ := [some x]) rfl k q
theorem ok_is_worth (T : Txt K mg) : FnOk P w K mg base CX0 2 T.a_is_worth T.fd_is_worth ["thing", "wide"] spIsWorth := by
  refine T.F_is_worth.ok sc_is_worth (fun vs H Q E h => by obtain ⟨x, n, rfl, _⟩ := h; rfl) (fun cdv A outer s H vs Q E hr h => ?_)
  obtain ⟨x, n, rfl, k, hn, q⟩ := h
  refine ⟨_, (pss_one (ps_ret (pe_and (pe_call (ok_is_whole T) (hr.mono (by decide)) (by rfl) T.g_is_whole T.F_is_whole.kp T.b_is_whole .nil pass0 (pa_cons (pv 0) pa_nil)) (pe_one (pe_chain op_le op_le pe_int (pv 0) (pe_call (ok_greatest T) (hr.mono (by decide)) (by rfl) T.g_greatest T.F_greatest.kp T.b_greatest .nil pass0 (pa_cons (pv 1) pa_nil))))))), ?_⟩
  walk_at "rd"
  refine ⟨x, rfl, k, ?_⟩
  walk_at "rd"
  refine ite2 (fun c => ?_) (fun c => ?_)
  · cases x with
    | int i =>
      walk_at "rd"
      refine ite2 (fun c0 => ?_) (fun c0 => ?_)
      · walk_at "rd"
        refine ⟨n, rfl, hn, ?_⟩
        walk_at "rd"
        have z : decide (i ≤ 2 ^ n - 1) = worthB (.int i) n := by
          have c1 := of_decide_eq_true c0
          show decide (i ≤ 2 ^ n - 1) = decide (0 ≤ i ∧ i < 2 ^ n)
          by_cases h : i < 2 ^ n
          · rw [decide_eq_true (by omega), decide_eq_true ⟨c1, h⟩]
          · rw [decide_eq_false (by omega), decide_eq_false (fun y => h y.2)]
        rw [z]
        exact q
      · have z : worthB (.int i) n = false := decide_eq_false (fun y => c0 (decide_eq_true y.1))
        rw [z] at q
        exact q
    | _ => exact absurd c Bool.false_ne_true
  · have z : worthB x n = false := by
      cases x with
      | int i => exact absurd rfl c
      | _ => rfl
    rw [z] at q
    exact q
theorem ok_signed (T : Txt K mg) : FnOk P w K mg base CX0 1 T.a_signed T.fd_signed ["worth", "wide"] spSigned := by
  refine T.F_signed.ok sc_signed (fun vs H Q E h => by obtain ⟨x, n, rfl, _⟩ := h; rfl) (fun cdv A outer s H vs Q E hr h => ?_)
  obtain ⟨i, n, rfl, h1, hn, q⟩ := h
  have e : ((n : Int) - 1).toNat = n - 1 := by omega
  refine ⟨_, (pss_cons (ps_if (pt_cmpR op_eq (pe_op op_shr (pv 0) (pe_op op_sub (pv 1) pe_int)) pe_int (nomark _))
  (pss_one (ps_ret (pv 0)))
  pss_nil)
 (pss_one (ps_ret (pe_op op_sub (pv 0) (pe_op op_shl pe_int (pv 1)))))), ?_⟩
  walk_at "rd"
  rw [e]
  refine ite2 (fun c => ?_) (fun c => ?_)
  · walk_at "rd"
    have c1 : i / 2 ^ (n - 1) = 0 := V.int.inj (of_decide_eq_true c)
    unfold sgn at q
    rw [if_pos c1] at q
    exact q
  · walk_at "rd"
    have c1 : ¬ i / 2 ^ (n - 1) = 0 := fun z => c (decide_eq_true (congrArg V.int z))
    unfold sgn at q
    rw [if_neg c1] at q
    rw [Int.one_mul, Int.toNat_natCast]
    exact q
theorem rd_good {σ : L2.St} {H : Hp} {Q : VK} {i j k b : Nat} {x : V} (h8 : σ[i]? = some (some (.bl (wholeB x)))) (h7 : σ[j]? = some (some x)) (h9 : σ[k]? = some (some (.int b))) (hb : b ≤ 64) (q : Q (.bl (worthB x b)) H) :
    tAndV (tVar i) (tChain (rI0 fun i j => .bl (decide (i ≤ j))) (rI0 fun i j => .bl (decide (i < j))) (tC (.int 0)) (tVar j) (tCall spSize [] E0 (tCons (tVar k) tNil))) σ H Q := by
  refine ⟨_, h8, rd_bl (ite2 (fun c => ?_) (fun c => ?_))⟩
  · cases x with
    | int z =>
      refine ⟨_, h7, rd_I0 (rd_bl (ite2 (fun c0 => ?_) (fun c0 => ?_)))⟩
      · refine ⟨_, h9, b, rfl, hb, rd_I0 ?_⟩
        have e : decide (z < 2 ^ b) = worthB (.int z) b := by
          have c1 := of_decide_eq_true c0
          show decide (z < 2 ^ b) = decide (0 ≤ z ∧ z < 2 ^ b)
          by_cases h : z < 2 ^ b
          · rw [decide_eq_true h, decide_eq_true ⟨c1, h⟩]
          · rw [decide_eq_false h, decide_eq_false (fun y => h y.2)]
        rw [e]
        exact q
      · have e : worthB (.int z) b = false := decide_eq_false (fun y => c0 (decide_eq_true y.1))
        rw [e] at q
        exact q
    | _ => exact absurd c Bool.false_ne_true
  · have z : worthB x b = false := by
      cases x with
      | int i => exact absurd rfl c
      | _ => rfl
    rw [z] at q
    exact q
theorem ite_eq {v : V} {A B : Prop} (q : A) : if decide (v = v) = true then A else B := by
  rw [decide_eq_true rfl]
  exact iteT q
theorem ite_ne {v : V} {A B : Prop} (q : B) : if (!decide (v = v)) = true then A else B := by
  rw [decide_eq_true rfl]
  exact iteF q
theorem rd_rep2 {H : Hp} {Q : VK} {r : Addr} {x y : Bool} (h : H r = some (.lst [.bl x, .bl y])) (q : Q (.str (PyData.list [.bool x, .bool y]).shown) H) : rRep K [.ref r] H Q :=
  ⟨r, _, rfl, .lst (SqL.of h) (.cons (.bl _) (.cons (.bl _) .nil)), by cases x <;> cases y <;> decide +kernel, by cases x <;> cases y <;> decide +kernel, by cases x <;> cases y <;> decide +kernel, by cases x <;> cases y <;> decide +kernel, q⟩
theorem sgn_due {x : Int} {n : Nat} (n1 : 1 ≤ n) (x0 : 0 ≤ x) (x1 : x < 2 ^ n) : sgn x n = if 2 ^ n ≤ 2 * x then x - 2 ^ n else x := by
  obtain ⟨m, rfl⟩ : ∃ m, n = m + 1 := ⟨n - 1, by omega⟩
  have hp := pow_pos2 m
  have e : (2 : Int) ^ (m + 1) = 2 ^ m * 2 := Int.pow_succ ..
  unfold sgn
  rw [Nat.add_sub_cancel, e]
  by_cases h : x < 2 ^ m
  · rw [Int.ediv_eq_zero_of_lt x0 h, if_pos rfl, if_neg (by omega)]
  · have h2 : ¬ x / 2 ^ m = 0 := by
      intro z
      have := Int.emod_add_mul_ediv x (2 ^ m)
      have h3 := Int.emod_lt_of_pos x hp
      rw [z, Int.mul_zero] at this
      omega
    rw [if_neg h2, if_pos (by omega)]
theorem sgn_lt {x : Int} {n : Nat} (n1 : 1 ≤ n) (n2 : n ≤ 62) (x0 : 0 ≤ x) (x1 : x < 2 ^ n) : (sgn x n).natAbs < 2 ^ 1000 := by
  have h := pow_lt64 (n := n) (by omega)
  have h2 := pow_pos2 n
  rw [sgn_due n1 x0 x1]
  split <;> exact Nat.lt_trans (m := 18446744073709551616) (by omega) (by decide)
def things (n : Nat) (x : Int) (c e g : Addr) : List V := [V.int x, V.int 0, V.int (2 ^ n - 1), V.int (2 ^ n), V.int (2 ^ n + x), V.int (-1), V.int (-2 ^ n), V.bl true, V.bl false, V.non, V.str "1", V.ref c] ++ [V.ref e, V.ref g, V.int (10 ^ Int.toNat 40)]
theorem things_kd {n : Nat} {x : Int} {c e g : Addr} {H : Hp} (hc : H c = some (.lst [.int x])) (he : H e = some (.tup [.int x])) (hg : H g = some (.dK [])) : ∀ v ∈ things n x c e g, Kd H v := by
  intro v hv
  simp only [things, List.cons_append, List.nil_append, List.mem_cons, List.not_mem_nil, or_false] at hv
  rcases hv with rfl | rfl | rfl | rfl | rfl | rfl | rfl | rfl | rfl | rfl | rfl | rfl | rfl | rfl | rfl
  · exact .int _
  · exact .int _
  · exact .int _
  · exact .int _
  · exact .int _
  · exact .int _
  · exact .int _
  · exact .bl _
  · exact .bl _
  · exact .non
  · exact .str _
  · exact .lst hc
  · exact .tup he
  · exact .dct hg
  · exact .int _
def spLaw (K : PySem.W.Frag) : Sp := fun vs H Q _ => ∃ (a : Addr) (ns : List Int), vs = [.ref a] ∧ SqL K H a (ns.map V.int) ∧ ns.length ≤ 63 ∧ ∀ H', Q (.bl true) H'
theorem ok_law (T : Txt K mg) {f : Addr} {fd : FuncData} (F : Fun K "law" "law" s_law f fd) : FnG P w K mg base CX0 3 f fd ["_law_script"] (spLaw K) := by
  refine fnG0 F sc_law (fun vs H Q E h => by obtain ⟨a, ns, rfl, _⟩ := h; rfl) (fun cdv A outer s H vs Q E hr gd h => ?_)
  obtain ⟨a, ns, rfl, hS, hlen, q⟩ := h
  replace gd := gd.deep (envOfC "law" (defScope s_law) s.heap.objs.size f cdv)
  refine ⟨_, (pss_cons (ps_for PassesOwn.never rfl (pi_range1 (by rfl) T.b_range (pa_cons (pe_callB (call_max2 rfl) (by rfl) T.b_max (by decide +kernel) (pa_cons pe_int (pa_cons (pe_callB (call_min2 rfl) (by rfl) T.b_min (by decide +kernel) (pa_cons (pe_callB call_len_seq (by rfl) T.b_len (by decide +kernel) (pa_cons (pv 0) pa_nil)) (pa_cons pe_int pa_nil))) pa_nil))) pa_nil)) (pg_name (i := 1) sc_law.nd rfl (.inl rfl))
  (pss_cons (ps_set (i := 2) sc_law.nd rfl (.inl rfl) (pe_call (ok_pool T) (hr.mono (by decide)) (by rfl) T.g_pool T.F_pool.kp T.b_pool .nil pass0 (pa_cons (pv 0) (pa_cons (pv 1) pa_nil))))
 (pss_cons (ps_set (i := 3) sc_law.nd rfl (.inl rfl) (pe_call (ok_wide T) (hr.mono (by decide)) (by rfl) T.g_wide T.F_wide.kp T.b_wide .nil pass0 (pa_cons (pv 2) pa_nil)))
 (pss_cons (ps_set (i := 4) sc_law.nd rfl (.inl rfl) (pe_call (ok_size T) (hr.mono (by decide)) (by rfl) T.g_size T.F_size.kp T.b_size .nil pass0 (pa_cons (pv 3) pa_nil)))
 (pss_cons (ps_set (i := 5) sc_law.nd rfl (.inl rfl) (pe_call (ok_worth T) (hr.mono (by decide)) (by rfl) T.g_worth T.F_worth.kp T.b_worth .nil pass0 (pa_cons (pv 2) (pa_cons (pv 4) pa_nil))))
 (pss_cons (ps_set (i := 6) sc_law.nd rfl (.inl rfl) (pe_lstN (pa_cons (pv 5) (pa_cons pe_int (pa_cons (pe_op op_sub (pv 4) pe_int) (pa_cons (pv 4) (pa_cons (pe_op op_add (pv 4) (pv 5)) (pa_cons (pe_un un_neg pe_int) (pa_cons (pe_un un_neg (pv 4)) (pa_cons pe_bl (pa_cons pe_bl (pa_cons pe_non (pa_cons pe_str (pa_cons (pe_lstN (pa_cons (pv 5) pa_nil)) pa_nil))))))))))))))
 (pss_cons (ps_for PassesOwn.never rfl (pi_list (pe_op op_cat (pv 6) (pe_lstN (pa_cons (pe_tupN (pa_cons (pv 5) pa_nil)) (pa_cons pe_dnewK (pa_cons (pe_op op_pow pe_int pe_int) pa_nil)))))) (pg_name (i := 7) sc_law.nd rfl (.inl rfl))
  (pss_cons (ps_set (i := 8) sc_law.nd rfl (.inl rfl) (pe_and (pe_callB call_isi (by rfl) T.b_isinstance (by decide +kernel) (pa_cons (pv 7) (pa_cons (pe_bltn (v := .ty "int") (by rfl) T.b_int (by decide +kernel) rfl) pa_nil))) (pe_one (pe_not (pe_callB call_isi (by rfl) T.b_isinstance (by decide +kernel) (pa_cons (pv 7) (pa_cons (pe_bltn (v := .ty "bool") (by rfl) T.b_bool (by decide +kernel) rfl) pa_nil)))))))
 (pss_cons (ps_for PassesOwn.never rfl (pi_list (pe_lstN (pa_cons (pv 3) (pa_cons pe_int pa_nil)))) (pg_name (i := 9) sc_law.nd rfl (.inl rfl))
  (pss_cons (ps_set (i := 10) sc_law.nd rfl (.inl rfl) (pe_and (pv 8) (pe_one (pe_chain op_le op_lt pe_int (pv 7) (pe_call (ok_size T) (hr.mono (by decide)) (by rfl) T.g_size T.F_size.kp T.b_size .nil pass0 (pa_cons (pv 9) pa_nil))))))
 (pss_one (ps_if (pt_cmpR op_ne (pe_callB (call_rep gd hr.units) (by rfl) T.b_repr (by decide +kernel) (pa_cons (pe_lstN (pa_cons (pe_call (ok_is_whole T) (hr.mono (by decide)) (by rfl) T.g_is_whole T.F_is_whole.kp T.b_is_whole .nil pass0 (pa_cons (pv 7) pa_nil)) (pa_cons (pe_callN (ok_is_worth T) (hr.mono (by decide)) (by rfl) T.g_is_worth T.F_is_worth.kp T.k_is_worth pass0 (pa_cons (pv 7) pa_nil) (pk_cons (pv 9) pk_nil)) pa_nil))) pa_nil)) (pe_callB (call_rep gd hr.units) (by rfl) T.b_repr (by decide +kernel) (pa_cons (pe_lstN (pa_cons (pv 8) (pa_cons (pv 10) pa_nil))) pa_nil)) (nomark _))
  (pss_one (ps_ret pe_bl))
  pss_nil))))
 (pss_one (ps_if (pt_cmpR op_ne (pe_call (ok_is_worth T) (hr.mono (by decide)) (by rfl) T.g_is_worth T.F_is_worth.kp T.b_is_worth T.v_is_worth pass0 (pa_cons (pv 7) pa_nil)) (pe_callN (ok_is_worth T) (hr.mono (by decide)) (by rfl) T.g_is_worth T.F_is_worth.kp T.k_is_worth pass0 (pa_cons (pv 7) pa_nil) (pk_cons pe_int pk_nil)) (nomark _))
  (pss_one (ps_ret pe_bl))
  pss_nil)))))
 (pss_cons (ps_set (i := 11) sc_law.nd rfl (.inl rfl) (pv 5))
 (pss_cons (ps_if (pt_cmpR op_ge (pe_op op_mul pe_int (pv 5)) (pv 4) (nomark _))
  (pss_one (ps_set (i := 11) sc_law.nd rfl (.inl rfl) (pe_op op_sub (pv 5) (pv 4))))
  pss_nil)
 (pss_one (ps_if (PW.pt (pw_or (pt_cmpR op_ne (pe_callB call_repI (by rfl) T.b_repr (by decide +kernel) (pa_cons (pe_callN (ok_signed T) (hr.mono (by decide)) (by rfl) T.g_signed T.F_signed.kp T.k_signed pass0 (pa_cons (pv 5) pa_nil) (pk_cons (pv 3) pk_nil)) pa_nil)) (pe_callB call_repI (by rfl) T.b_repr (by decide +kernel) (pa_cons (pv 11) pa_nil)) (nomark _)) (pw_or1 (pt_cmpR op_ne (pe_call (ok_signed T) (hr.mono (by decide)) (by rfl) T.g_signed T.F_signed.kp T.b_signed T.v_signed pass0 (pa_cons (pe_op op_mod (pv 5) pe_int) pa_nil)) (pe_callN (ok_signed T) (hr.mono (by decide)) (by rfl) T.g_signed T.F_signed.kp T.k_signed pass0 (pa_cons (pe_op op_mod (pv 5) pe_int) pa_nil) (pk_cons (pe_glob (v := .int 16) (by rfl) T.g_WIDE ⟨_, rfl⟩) pk_nil)) (nomark _)))))
  (pss_one (ps_ret pe_bl))
  pss_nil)))))))))))
 (pss_one (ps_ret (pe_and (pe_cmpR op_eq (pe_glob (v := .int 16) (by rfl) T.g_WIDE ⟨_, rfl⟩) pe_int (nomark _)) (pe_and (pe_cmpR op_eq (pe_call (ok_signed T) (hr.mono (by decide)) (by rfl) T.g_signed T.F_signed.kp T.b_signed T.v_signed pass0 (pa_cons pe_int pa_nil)) (pe_un un_neg pe_int) (nomark _)) (pe_and (pe_cmpR op_eq (pe_call (ok_signed T) (hr.mono (by decide)) (by rfl) T.g_signed T.F_signed.kp T.b_signed T.v_signed pass0 (pa_cons pe_int pa_nil)) pe_int (nomark _)) (pe_one (pe_cmpR op_eq (pe_callN (ok_signed T) (hr.mono (by decide)) (by rfl) T.g_signed T.F_signed.kp T.k_signed pass0 (pa_cons pe_int pa_nil) (pk_cons pe_int pk_nil)) (pe_un un_neg pe_int) (nomark _))))))))), ?_⟩
  walk_at "rd"
  refine ⟨by (repeat' split) <;> omega, by (repeat' split) <;> omega, ?_⟩
  refine for_range (lo := 0) (fun i σ H1 => ∃ y1 y2 y3 y4 y5 y6 y7 y8 y9 y10 y11, σ = [some (.ref a), y1, y2, y3, y4, y5, y6, y7, y8, y9, y10, y11] ∧ SqL K H1 a (ns.map V.int)) ⟨none, none, none, none, none, none, none, none, none, none, none, rfl, hS⟩ (fun i σ H1 hi hW => ?_) (fun σ H1 hW => ?_)
  · obtain ⟨y1, y2, y3, y4, y5, y6, y7, y8, y9, y10, y11, rfl, hS1⟩ := hW
    have hi2 : i < 16 := Nat.lt_of_lt_of_le hi (by (repeat' split) <;> omega)
    clear hi
    walk_at "rd"
    refine ⟨a, ns, _, rfl, hS1, by omega, by omega, fun H2 p np s2 p2 => ?_⟩
    walk_at "rd"
    refine ⟨p, rfl, p2, fun n H3 n1 n32 k3 => ?_⟩
    walk_at "rd"
    refine ⟨n, rfl, by omega, ?_⟩
    walk_at "rd"
    have pw1 := pow_lt64 (n := n) (by omega)
    have pw2 : (2 : Int) ≤ 2 ^ n := two_le n1
    refine ⟨p, 2 ^ n, rfl, k3.1, pw2, pw1, fun x H4 x0 x1 k4 => ?_⟩
    walk_at "rd"
    refine fun c H5 nc s5 hc => ?_
    walk_at "rd"
    refine fun d H6 nd s6 hd => ?_
    walk_at "rd"
    refine fun e H7 ne s7 he => ?_
    walk_at "rd"
    refine fun g H8 ng s8 hg => ?_
    walk_at "rd"
    refine fun l H9 nl s9 hl => ?_
    walk_at "rd"
    refine rd_cat (s9 _ _ (s8 _ _ (s7 _ _ hd))) hl (by simp only [List.length_cons, List.length_nil]; decide) (fun m H10 nm s10 hm => ?_)
    replace hm : H10 m = some (.lst (things n x c e g)) := hm
    have S10 : Same H4 H10 := (((((s5.trans s6).trans s7).trans s8).trans s9).trans s10)
    have kd := things_kd (n := n) (H := H10) (s10 _ _ (s9 _ _ (s8 _ _ (s7 _ _ (s6 _ _ hc))))) (s10 _ _ (s9 _ _ (s8 _ _ he))) (s10 _ _ (s9 _ _ hg))
    refine ⟨m, rfl, ⟨_, SqL.of hm⟩, ?_⟩
    refine for_list (K := K) (xs := things n x c e g) (fun j σ H' => ∃ y7 y8 y9 y10 y11, σ = [some (.ref a), some (.int (0 + i)), some (.ref p), some (.int n), some (.int (2 ^ n)), some (.int x), some (.ref d), y7, y8, y9, y10, y11] ∧ Same H10 H')
      ⟨_, _, _, _, _, rfl, fun _ _ e => e⟩ (fun j σ H' _ hW => ?_) (fun j v σ H' hv hW => ?_) (fun σ H' hW => ?_)
    · obtain ⟨_, _, _, _, _, _, sm⟩ := hW
      exact SqL.of (sm _ _ hm)
    · obtain ⟨y7, y8, y9, y10, y11, rfl, sm⟩ := hW
      have kv := (kd v (List.mem_of_getElem? hv)).same sm
      refine rd_name ?_
      refine rd_seq (rd_asg (rd_whole rfl kv ?_))
      walk_at "rd"
      refine fun u H11 nu s11 hu => ?_
      refine ⟨u, rfl, ⟨_, SqL.of hu⟩, ?_⟩
      refine for_list (K := K) (xs := [V.int n, V.int 16]) (fun j σ H' => ∃ y9 y10, σ = [some (.ref a), some (.int (0 + i)), some (.ref p), some (.int n), some (.int (2 ^ n)), some (.int x), some (.ref d), some v, some (.bl (wholeB v)), y9, y10, y11] ∧ Same H11 H')
        ⟨_, _, rfl, fun _ _ e => e⟩ (fun j σ H' _ hW => ?_) (fun j b σ H12 hb hW => ?_) (fun σ H12 hW => ?_)
      · obtain ⟨_, _, _, sm⟩ := hW
        exact SqL.of (sm _ _ hu)
      · obtain ⟨y9, y10, rfl, s12⟩ := hW
        obtain ⟨bn, eb, hb1⟩ : ∃ bn : Nat, b = .int bn ∧ bn ≤ 64 := by
          have hm := List.mem_of_getElem? hb
          simp only [List.mem_cons, List.not_mem_nil, or_false] at hm
          rcases hm with rfl | rfl
          · exact ⟨n, rfl, by omega⟩
          · exact ⟨16, rfl, by decide⟩
        subst eb
        have kv2 := kv.same (s11.trans s12)
        refine rd_name ?_
        refine rd_seq (rd_asg (rd_good (b := bn) (x := v) rfl rfl rfl hb1 ?_))
        walk_at "rd"
        refine ⟨v, rfl, kv2, ?_⟩
        walk_at "rd"
        refine ⟨rfl, rfl, v, bn, rfl, kv2, hb1, ?_⟩
        walk_at "rd"
        refine fun r1 H13 nr1 s13 hr1 => ?_
        walk_at "rd"
        refine rd_rep2 hr1 ?_
        walk_at "rd"
        refine fun r2 H14 nr2 s14 hr2 => ?_
        walk_at "rd"
        refine rd_rep2 hr2 ?_
        walk_at "rd"
        refine ite_ne ?_
        walk_at "rd"
        exact ⟨_, _, rfl, (s12.trans s13).trans s14⟩
      · obtain ⟨y9, y10, rfl, s12⟩ := hW
        have kv2 := kv.same (s11.trans s12)
        walk_at "rd"
        refine ⟨v, 16, rfl, kv2, by decide, ?_⟩
        walk_at "rd"
        refine ⟨rfl, rfl, v, 16, rfl, kv2, by decide, ?_⟩
        walk_at "rd"
        refine ite_ne ?_
        walk_at "rd"
        exact ⟨_, _, _, _, _, rfl, (sm.trans s11).trans s12⟩
    · obtain ⟨y7, y8, y9, y10, y11, rfl, sm⟩ := hW
      have SS : SqL K H' a (ns.map V.int) := ((same_kp np s2 (k3.trans k4)).trans (S10.trans sm)).seq hS1
      have sd := sgn_due n1 x0 x1
      have sl := sgn_lt n1 (by omega) x0 x1
      walk_at "rd"
      refine ite2 (fun c => ?_) (fun c => ?_)
      · walk_at "rd"
        refine ⟨rfl, rfl, x, n, rfl, n1, by omega, ?_⟩
        rw [if_pos (of_decide_eq_true c)] at sd
        rw [← sd]
        walk_at "rd"
        refine rd_repI sl ?_
        walk_at "rd"
        refine rd_repI sl ?_
        walk_at "rd"
        refine ite_ne ?_
        walk_at "rd"
        refine ⟨x % 65536, 16, rfl, by decide, by decide, ?_⟩
        walk_at "rd"
        refine ⟨rfl, rfl, x % 65536, 16, rfl, by decide, by decide, ?_⟩
        walk_at "rd"
        refine ite_ne ?_
        walk_at "rd"
        exact ⟨_, _, _, _, _, _, _, _, _, _, _, rfl, SS⟩
      · walk_at "rd"
        refine ⟨rfl, rfl, x, n, rfl, n1, by omega, ?_⟩
        rw [if_neg (fun z => c (decide_eq_true z))] at sd
        rw [sd] at sl ⊢
        walk_at "rd"
        refine rd_repI sl ?_
        walk_at "rd"
        refine rd_repI sl ?_
        walk_at "rd"
        refine ite_ne ?_
        walk_at "rd"
        refine ⟨x % 65536, 16, rfl, by decide, by decide, ?_⟩
        walk_at "rd"
        refine ⟨rfl, rfl, x % 65536, 16, rfl, by decide, by decide, ?_⟩
        walk_at "rd"
        refine ite_ne ?_
        walk_at "rd"
        exact ⟨_, _, _, _, _, _, _, _, _, _, _, rfl, SS⟩
  · obtain ⟨y1, y2, y3, y4, y5, y6, y7, y8, y9, y10, y11, rfl, hS1⟩ := hW
    walk_at "rd"
    refine ite_eq ?_
    walk_at "rd"
    refine ⟨32768, 16, rfl, by decide, by decide, ?_⟩
    rw [show sgn 32768 16 = -32768 by decide]
    walk_at "rd"
    refine ite_eq ?_
    walk_at "rd"
    refine ⟨32767, 16, rfl, by decide, by decide, ?_⟩
    rw [show sgn 32767 16 = 32767 by decide]
    walk_at "rd"
    refine ite_eq ?_
    walk_at "rd"
    refine ⟨rfl, rfl, 1, 1, rfl, by decide, by decide, ?_⟩
    rw [show sgn 1 1 = -1 by decide]
    walk_at "rd"
    exact q _
end
theorem all_mk {l : PySem.W.OpenLaw} {w : World} {K : PySem.W.Frag} {h : Heap} {mg : Str → Option Value} {fa : Addr} (X : K.In h) (G : h.Ns mainGlobals mg) (hfa : mg "law" = some (.ref fa))
    {f0 : Addr} {od0 an0 : Option Addr} {sl0 : Array (Option Value)} {oc0 kV0 dc0 pm0 cd0 ct0 : Value}
    (x0 : PySem.W.nsIn K mainGlobals "greatest" = some (some (.ref f0))) (l0 : K.lookup f0 = some ⟨oc0, od0, .func (PySem.W.fnOf "greatest" "greatest" (defArgs s_greatest) (defBody s_greatest) (defScope s_greatest) .none kV0 dc0 pm0 an0 cd0 ct0), sl0⟩) (c0 : PySem.W.codeIn K cd0 "greatest" = true) (k0 : PySem.W.keepIn K (.ref f0) = true)
    {f1 : Addr} {od1 an1 : Option Addr} {sl1 : Array (Option Value)} {oc1 kV1 dc1 pm1 cd1 ct1 : Value}
    (x1 : PySem.W.nsIn K mainGlobals "is_whole" = some (some (.ref f1))) (l1 : K.lookup f1 = some ⟨oc1, od1, .func (PySem.W.fnOf "is_whole" "is_whole" (defArgs s_is_whole) (defBody s_is_whole) (defScope s_is_whole) .none kV1 dc1 pm1 an1 cd1 ct1), sl1⟩) (c1 : PySem.W.codeIn K cd1 "is_whole" = true) (k1 : PySem.W.keepIn K (.ref f1) = true)
    {f2 : Addr} {od2 an2 : Option Addr} {sl2 : Array (Option Value)} {oc2  dc2 pm2 cd2 ct2 : Value} {D2 : Addr} {tk2 : Tok}
    (x2 : PySem.W.nsIn K mainGlobals "is_worth" = some (some (.ref f2))) (l2 : K.lookup f2 = some ⟨oc2, od2, .func (PySem.W.fnOf "is_worth" "is_worth" (defArgs s_is_worth) (defBody s_is_worth) (defScope s_is_worth) .none (.ref D2) dc2 pm2 an2 cd2 ct2), sl2⟩) (c2 : PySem.W.codeIn K cd2 "is_worth" = true) (k2 : PySem.W.keepIn K (.ref f2) = true)
    (w2 : PySem.W.nsIn K D2 "wide" = some (some (.int 16 tk2)))
    {f3 : Addr} {od3 an3 : Option Addr} {sl3 : Array (Option Value)} {oc3  dc3 pm3 cd3 ct3 : Value} {D3 : Addr} {tk3 : Tok}
    (x3 : PySem.W.nsIn K mainGlobals "signed" = some (some (.ref f3))) (l3 : K.lookup f3 = some ⟨oc3, od3, .func (PySem.W.fnOf "signed" "signed" (defArgs s_signed) (defBody s_signed) (defScope s_signed) .none (.ref D3) dc3 pm3 an3 cd3 ct3), sl3⟩) (c3 : PySem.W.codeIn K cd3 "signed" = true) (k3 : PySem.W.keepIn K (.ref f3) = true)
    (w3 : PySem.W.nsIn K D3 "wide" = some (some (.int 16 tk3)))
    {f4 : Addr} {od4 an4 : Option Addr} {sl4 : Array (Option Value)} {oc4 kV4 dc4 pm4 cd4 ct4 : Value}
    (x4 : PySem.W.nsIn K mainGlobals "_law_pool" = some (some (.ref f4))) (l4 : K.lookup f4 = some ⟨oc4, od4, .func (PySem.W.fnOf "_law_pool" "_law_pool" (defArgs s_pool) (defBody s_pool) (defScope s_pool) .none kV4 dc4 pm4 an4 cd4 ct4), sl4⟩) (c4 : PySem.W.codeIn K cd4 "_law_pool" = true) (k4 : PySem.W.keepIn K (.ref f4) = true)
    {f5 : Addr} {od5 an5 : Option Addr} {sl5 : Array (Option Value)} {oc5 kV5 dc5 pm5 cd5 ct5 : Value}
    (x5 : PySem.W.nsIn K mainGlobals "_law_take" = some (some (.ref f5))) (l5 : K.lookup f5 = some ⟨oc5, od5, .func (PySem.W.fnOf "_law_take" "_law_take" (defArgs s_take) (defBody s_take) (defScope s_take) .none kV5 dc5 pm5 an5 cd5 ct5), sl5⟩) (c5 : PySem.W.codeIn K cd5 "_law_take" = true) (k5 : PySem.W.keepIn K (.ref f5) = true)
    {f6 : Addr} {od6 an6 : Option Addr} {sl6 : Array (Option Value)} {oc6 kV6 dc6 pm6 cd6 ct6 : Value}
    (x6 : PySem.W.nsIn K mainGlobals "_law_wide" = some (some (.ref f6))) (l6 : K.lookup f6 = some ⟨oc6, od6, .func (PySem.W.fnOf "_law_wide" "_law_wide" (defArgs s_wide) (defBody s_wide) (defScope s_wide) .none kV6 dc6 pm6 an6 cd6 ct6), sl6⟩) (c6 : PySem.W.codeIn K cd6 "_law_wide" = true) (k6 : PySem.W.keepIn K (.ref f6) = true)
    {f7 : Addr} {od7 an7 : Option Addr} {sl7 : Array (Option Value)} {oc7 kV7 dc7 pm7 cd7 ct7 : Value}
    (x7 : PySem.W.nsIn K mainGlobals "_law_size" = some (some (.ref f7))) (l7 : K.lookup f7 = some ⟨oc7, od7, .func (PySem.W.fnOf "_law_size" "_law_size" (defArgs s_size) (defBody s_size) (defScope s_size) .none kV7 dc7 pm7 an7 cd7 ct7), sl7⟩) (c7 : PySem.W.codeIn K cd7 "_law_size" = true) (k7 : PySem.W.keepIn K (.ref f7) = true)
    {f8 : Addr} {od8 an8 : Option Addr} {sl8 : Array (Option Value)} {oc8 kV8 dc8 pm8 cd8 ct8 : Value}
    (x8 : PySem.W.nsIn K mainGlobals "_law_worth" = some (some (.ref f8))) (l8 : K.lookup f8 = some ⟨oc8, od8, .func (PySem.W.fnOf "_law_worth" "_law_worth" (defArgs s_worth) (defBody s_worth) (defScope s_worth) .none kV8 dc8 pm8 an8 cd8 ct8), sl8⟩) (c8 : PySem.W.codeIn K cd8 "_law_worth" = true) (k8 : PySem.W.keepIn K (.ref f8) = true)
    {f9 : Addr} {od9 an9 : Option Addr} {sl9 : Array (Option Value)} {oc9 kV9 dc9 pm9 cd9 ct9 : Value}
    (x9 : PySem.W.nsIn K mainGlobals "law" = some (some (.ref f9))) (l9 : K.lookup f9 = some ⟨oc9, od9, .func (PySem.W.fnOf "law" "law" (defArgs s_law) (defBody s_law) (defScope s_law) .none kV9 dc9 pm9 an9 cd9 ct9), sl9⟩) (c9 : PySem.W.codeIn K cd9 "law" = true) (k9 : PySem.W.keepIn K (.ref f9) = true)
    {tc_WIDE : Tok} (y_WIDE : PySem.W.nsIn K mainGlobals "WIDE" = some (some (.int 16 tc_WIDE)))
    (z_abs : PySem.W.nsIn K mainGlobals "abs" = some none)
    (z_bool : PySem.W.nsIn K mainGlobals "bool" = some none)
    (z_int : PySem.W.nsIn K mainGlobals "int" = some none)
    (z_isinstance : PySem.W.nsIn K mainGlobals "isinstance" = some none)
    (z_len : PySem.W.nsIn K mainGlobals "len" = some none)
    (z_max : PySem.W.nsIn K mainGlobals "max" = some none)
    (z_min : PySem.W.nsIn K mainGlobals "min" = some none)
    (z_range : PySem.W.nsIn K mainGlobals "range" = some none)
    (z_repr : PySem.W.nsIn K mainGlobals "repr" = some none)
    (z_sum : PySem.W.nsIn K mainGlobals "sum" = some none)
    : ∃ fd : FuncData, (∀ (s : Shared) (v : Value), BindsTo s fd ⟨[v], []⟩ [("_law_script", v)]) ∧ ∀ base : Heap, K.In base → base.Ns mainGlobals mg → FnG l.prog w K mg base CX0 3 fa fd ["_law_script"] (spLaw K) := by
  have e := hfa.symm.trans (PySem.W.mg_of X G x9)
  cases e
  have F0 := fun_mk (st := s_greatest) l0 c0 k0
  have b0 := F0.binds (ps := ["wide"]) fun _ _ _ _ _ _ us hl => match us, hl with | [_], _ => rfl
  have F1 := fun_mk (st := s_is_whole) l1 c1 k1
  have b1 := F1.binds (ps := ["thing"]) fun _ _ _ _ _ _ us hl => match us, hl with | [_], _ => rfl
  have F2 := fun_mk (st := s_is_worth) l2 c2 k2
  have FD2 : FunD K "is_worth" "is_worth" (defArgs s_is_worth) (defBody s_is_worth) (defScope s_is_worth) [] [("wide", .int 16)] f2 _ := ⟨⟨_, _, _, _, _, _, _, _, _, _, rfl, l2, c2, .inl ⟨rfl, rfl⟩, .inr ⟨D2, rfl, fun q hq => by cases hq with | head => exact ⟨_, w2, _, rfl⟩ | tail _ z => cases z⟩⟩, k2⟩
  obtain ⟨d2, v2, b2⟩ := FD2.binds0 (ps := ["thing", "wide"]) 1 (fun z => by cases z) rfl (fun D doc pm an cdv ct us ks hu hk => match us, ks, hu, hk with | [_], [_], _, _ => ⟨_, _, _, _, _, _, rfl, rfl, rfl⟩)
  have kb2 := kbn_all (ps := ["thing", "wide"]) (ks := ["wide"]) (n := 1) F2 fun _ _ _ _ _ _ us ws hu hw => match us, ws, hu, hw with | [_], [_], _, _ => rfl
  have F3 := fun_mk (st := s_signed) l3 c3 k3
  have FD3 : FunD K "signed" "signed" (defArgs s_signed) (defBody s_signed) (defScope s_signed) [] [("wide", .int 16)] f3 _ := ⟨⟨_, _, _, _, _, _, _, _, _, _, rfl, l3, c3, .inl ⟨rfl, rfl⟩, .inr ⟨D3, rfl, fun q hq => by cases hq with | head => exact ⟨_, w3, _, rfl⟩ | tail _ z => cases z⟩⟩, k3⟩
  obtain ⟨d3, v3, b3⟩ := FD3.binds0 (ps := ["worth", "wide"]) 1 (fun z => by cases z) rfl (fun D doc pm an cdv ct us ks hu hk => match us, ks, hu, hk with | [_], [_], _, _ => ⟨_, _, _, _, _, _, rfl, rfl, rfl⟩)
  have kb3 := kbn_all (ps := ["worth", "wide"]) (ks := ["wide"]) (n := 1) F3 fun _ _ _ _ _ _ us ws hu hw => match us, ws, hu, hw with | [_], [_], _, _ => rfl
  have F4 := fun_mk (st := s_pool) l4 c4 k4
  have b4 := F4.binds (ps := ["_law_script", "_law_k"]) fun _ _ _ _ _ _ us hl => match us, hl with | [_, _], _ => rfl
  have F5 := fun_mk (st := s_take) l5 c5 k5
  have b5 := F5.binds (ps := ["_law_pool_here", "_law_many"]) fun _ _ _ _ _ _ us hl => match us, hl with | [_, _], _ => rfl
  have F6 := fun_mk (st := s_wide) l6 c6 k6
  have b6 := F6.binds (ps := ["_law_pool_here"]) fun _ _ _ _ _ _ us hl => match us, hl with | [_], _ => rfl
  have F7 := fun_mk (st := s_size) l7 c7 k7
  have b7 := F7.binds (ps := ["_law_broad"]) fun _ _ _ _ _ _ us hl => match us, hl with | [_], _ => rfl
  have F8 := fun_mk (st := s_worth) l8 c8 k8
  have b8 := F8.binds (ps := ["_law_pool_here", "_law_size_here"]) fun _ _ _ _ _ _ us hl => match us, hl with | [_, _], _ => rfl
  have F9 := fun_mk (st := s_law) l9 c9 k9
  have T : Txt K mg := { a_greatest := f0, fd_greatest := _, F_greatest := F0, g_greatest := PySem.W.mg_of X G x0, b_greatest := b0, a_is_whole := f1, fd_is_whole := _, F_is_whole := F1, g_is_whole := PySem.W.mg_of X G x1, b_is_whole := b1, a_is_worth := f2, fd_is_worth := _, F_is_worth := F2, g_is_worth := PySem.W.mg_of X G x2, d_is_worth := d2, v_is_worth := v2, b_is_worth := b2, k_is_worth := kb2, a_signed := f3, fd_signed := _, F_signed := F3, g_signed := PySem.W.mg_of X G x3, d_signed := d3, v_signed := v3, b_signed := b3, k_signed := kb3, a_pool := f4, fd_pool := _, F_pool := F4, g_pool := PySem.W.mg_of X G x4, b_pool := b4, a_take := f5, fd_take := _, F_take := F5, g_take := PySem.W.mg_of X G x5, b_take := b5, a_wide := f6, fd_wide := _, F_wide := F6, g_wide := PySem.W.mg_of X G x6, b_wide := b6, a_size := f7, fd_size := _, F_size := F7, g_size := PySem.W.mg_of X G x7, b_size := b7, a_worth := f8, fd_worth := _, F_worth := F8, g_worth := PySem.W.mg_of X G x8, b_worth := b8, t_WIDE := _, g_WIDE := PySem.W.mg_of X G y_WIDE, b_abs := PySem.W.mg_none_of X G z_abs, b_bool := PySem.W.mg_none_of X G z_bool, b_int := PySem.W.mg_none_of X G z_int, b_isinstance := PySem.W.mg_none_of X G z_isinstance, b_len := PySem.W.mg_none_of X G z_len, b_max := PySem.W.mg_none_of X G z_max, b_min := PySem.W.mg_none_of X G z_min, b_range := PySem.W.mg_none_of X G z_range, b_repr := PySem.W.mg_none_of X G z_repr, b_sum := PySem.W.mg_none_of X G z_sum }
  exact ⟨_, fun s v => .of_eq rfl, fun base _ _ => ok_law T F9⟩
end Bg
open PySem PySem.W PyProof.Rows
set_option maxHeartbeats 0 in
theorem PySem.Challenge.cw_boundgate_k01_worths_looked_at_holds : PySem.Challenge.rw_boundgate_k01_worths_looked_at.Holds := by
  w_on; o_law; k_head; (case hw => w_witness2)
  k_fill
  refine Bg.walkG (l := PySem.Challenge.rw_boundgate_k01_worths_looked_at) (n := 63) (k := 3) (x := "_law_script") (CX := fun _ => L2.CX0) (sp := fun w => Bg.spLaw _) rfl (by decide) rfl ⟨rfl, by decide, by decide⟩ (fun w h Y => PySem.W.kIn_of Y) ?F (fun _ _ a ns hl hS => ⟨a, ns, rfl, hS, hl, fun _ => rfl⟩) (fun _ _ _ _ _ h => h)
  case F =>
    intro w mg fa h KX G hmg
    refine' Bg.all_mk KX G hmg ?x0 ?l0 ?c0 ?k0 ?x1 ?l1 ?c1 ?k1 ?x2 ?l2 ?c2 ?k2 ?w2 ?x3 ?l3 ?c3 ?k3 ?w3 ?x4 ?l4 ?c4 ?k4 ?x5 ?l5 ?c5 ?k5 ?x6 ?l6 ?c6 ?k6 ?x7 ?l7 ?c7 ?k7 ?x8 ?l8 ?c8 ?k8 ?x9 ?l9 ?c9 ?k9 ?y_WIDE ?z_abs ?z_bool ?z_int ?z_isinstance ?z_len ?z_max ?z_min ?z_range ?z_repr ?z_sum
    (case x0 => k_is); (case l0 => k_is); (case c0 => k_is); (case k0 => k_is); (case x1 => k_is); (case l1 => k_is); (case c1 => k_is); (case k1 => k_is); (case x2 => k_is); (case l2 => k_is); (case c2 => k_is); (case k2 => k_is); (case w2 => k_is); (case x3 => k_is); (case l3 => k_is); (case c3 => k_is); (case k3 => k_is); (case w3 => k_is); (case x4 => k_is); (case l4 => k_is); (case c4 => k_is); (case k4 => k_is); (case x5 => k_is); (case l5 => k_is); (case c5 => k_is); (case k5 => k_is); (case x6 => k_is); (case l6 => k_is); (case c6 => k_is); (case k6 => k_is); (case x7 => k_is); (case l7 => k_is); (case c7 => k_is); (case k7 => k_is); (case x8 => k_is); (case l8 => k_is); (case c8 => k_is); (case k8 => k_is); (case x9 => k_is); (case l9 => k_is); (case c9 => k_is); (case k9 => k_is); (case y_WIDE => k_is); (case z_abs => k_is); (case z_bool => k_is); (case z_int => k_is); (case z_isinstance => k_is); (case z_len => k_is); (case z_max => k_is); (case z_min => k_is); (case z_range => k_is); (case z_repr => k_is); (case z_sum => k_is)
