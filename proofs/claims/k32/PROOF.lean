import PyProof.Rows.All
import HandS.ForMost
import HandS.Wide
import HandS.Defaults
import HandS.IsInst
import HandS.RaiseMore
import PyProof.ReprRoads
import PyProof.RulesMatch
import PyProof.ReprLen
import PyProof.FitsInt
import PyProof.StrLawsRepr
import PyProof.Rows.ReprOcc
import KE.BitLaws
import KE.KBits
import HandS.Walk
import HandS.Exc
import HandS.Deep
import HandS.TupAny
import HandS.WideBits
import HandS.Style
import HandS.TupLe
import HandS.NoneIn
import PyProof.Rows.CountFlat
import HandS.Dict
import HandS.ExcOwn
import HandS.ExcIs
import HandS.WordsExc
import HandS.Iter
import HandS.ExcValue
import HandS.SetFor
import HandS.Strs
import KE.GoesMore
import HandS.SetKeys
import HandS.Flow
import HandS.More
import HandS.Zip
import HandS.Conv
import KE.KDictZip
import HandS.GenList
import HandS.AnyAll
import PyProof.GenCompD
import HandS.EndTab
import KE.KNestM
import KE.DatumOrd
import HandS.DictComp
import PyProof.Rows.MatchSeqLen
import HandS.ExcInit
import HandS.ExcField
import KE.KExcInit
import KE.KExcIs
import HandS.Text
import HandS.TupMul
import PyProof.EqKinds
import KE.KEqDict
import HandS.SetTxt0
import HandS.SetBool
import PyProof.Rows.SortStr
import HandS.Star
import HandS.FStr
import HandS.StrMore
import KE.KUnpack
import KE.KIntText
import KE.IntTextLaws
import HandS.TryOnly
import HandS.MakeKwOnly
import HandS.DeepEq
import PyProof.EqAt
import HandS.WordsDict
import PyProof.DictUpdate
import KE.KExcLine
import PySem.Challenge.RW_boundgate_k32_faults_one_by_one
set_option Elab.async false
set_option linter.all false
set_option maxRecDepth 100000
set_option maxHeartbeats 4000000
namespace Bg
open PySem PySem.Spec PyProof.Rows L2

/-! ### defs that may show things: nothing is being shown around them -/
def Gd (A : Around) : Prop := A.guards = some []
theorem Gd.deep {A : Around} (g : Gd A) (e : Env) : Gd (A.deeper e) := g
structure FnG (P : Program) (w : World) (K : PySem.W.Frag) (mg : Str → Option Value) (base : Heap)
    (CX : CXT) (k : Nat) (f : Addr) (fd : FuncData) (ps : List Str) (sp : Sp) : Prop where
  len : ∀ vs H Q E, sp vs H Q E → vs.length = ps.length
  run : ∀ (A : Around) (outer : List Env) (s : Shared) (H : Hp) (args : Args) (us : List Value)
    (vs : List V) (Q : VK) (E : XK), Room k A → Gd A → Env0 P w K mg base A outer s H →
    BindsTo s fd args (ps.zip us) → Vals vs us → sp vs H Q E →
    codeAny (model P w) A (.call (.ref f) args) (CR CX outer P w H s Q E) s

section
variable {P : Program} {w : World} {K : PySem.W.Frag} {mg : Str → Option Value} {base : Heap}
theorem FnG.of {CX : CXT} {k : Nat} {f : Addr} {fd : FuncData} {ps : List Str} {sp : Sp}
    (F : FnOk P w K mg base CX k f fd ps sp) : FnG P w K mg base CX k f fd ps sp :=
  ⟨F.len, fun A o s H a us vs Q E hr _ => F.run A o s H a us vs Q E hr⟩
theorem fnG {CX : CXT} {k : Nat} {x qual : Str} {st : Stmt} {f : Addr} {fd : FuncData} {N ps : List Str} {sp : Sp}
    (F : Fun K x qual st f fd) (S : FnScope N ps (defScope st)) (len : ∀ vs H Q E, sp vs H Q E → vs.length = ps.length)
    (hbody : ∀ (cdv : Value) (A : Around) (outer : List Env) (s : Shared) (H : Hp) (vs : List V) (Q : VK) (E : XK),
      Room k (A.deeper (envOfC qual (defScope st) s.heap.objs.size f cdv)) → Gd A → sp vs H Q E →
      ∃ t, PSs (cxOf CX P w K mg base N qual (defScope st) f cdv A outer s H E) (defBody st) t ∧
        t { nx := fun _ H' => Q .non H', rt := Q } (start N vs) H) :
    FnG P w K mg base CX (k + 1) f fd ps sp := by
  obtain ⟨oc, od, kV, doc, pm, an, cdv, ct, osl, rfl, lk, hcd⟩ := F.ex
  constructor
  · exact len
  intro A outer s H args us vs Q E room gd env bnd rel hsp
  have kin : K.In s.heap := env.mod.kin.keeps (fun b o e => (env.bs b o e).1)
  have kinds : ∀ y ∈ ps.zip us, (defScope st).names.lookup y.1 = some .local ∨
      ((defScope st).names.lookup y.1 = some .cell ∧
        ((cellsFrom (s.heap.objs.size + 1) (defScope st).names []).lookup y.1).isSome = true) := by
    rintro ⟨n, v⟩ hy
    cases S.par n (List.of_mem_zip hy).1 with
    | inl q => exact Or.inl q
    | inr q => exact Or.inr ⟨q, PySem.W.cellsFrom_some _ _ _ (Or.inl q)⟩
  apply codeAny_call_function room.depth (kin _ _ lk) rfl S.co S.gen rfl (PySem.W.codeRec_of kin hcd)
  apply bnd
  apply wpAny_newFunctionEnv_cells S.kind kinds
  intro env' he s1 x1
  subst he
  obtain ⟨t, ht, hq⟩ := hbody cdv A outer s H vs Q E (room.deeper _) gd hsp
  have I := inv_start (CX := CX) (E := E) (outer := outer) S room.hd env (len _ _ _ _ hsp) rel x1
  refine ⟨(env.mod.nolimit.keeps (fun b o e => (env.bs b o e).1)).keeps x1.toInCall.keep, codeAny_func ?_⟩
  apply wpAny_mono (ht.run [] s1 (start N vs) H _ I hq)
  · intro fl s' hs
    cases fl with
    | ret u => obtain ⟨v, σ', H', J, rv, q⟩ := hs; exact ⟨v, H', J.os, J.bare, J.base, J.hok, rv, q⟩
    | next => obtain ⟨σ', H', J, q⟩ := hs; exact ⟨V.non, H', J.os, J.bare, J.base, J.hok, rfl, q⟩
    | brk => obtain ⟨_, _, _, q⟩ := hs; exact q.elim
    | cont => obtain ⟨_, _, _, q⟩ := hs; exact q.elim
  · exact fun _ _ hs => hs
end

theorem fnG0 {P : Program} {w : World} {K : PySem.W.Frag} {mg : Str → Option Value} {base : Heap} {k : Nat} {x qual : Str} {st : Stmt} {f : Addr} {fd : FuncData} {N ps : List Str} {sp : Sp}
    (F : Fun K x qual st f fd) (S : FnScope N ps (defScope st)) (len : ∀ vs H Q E, sp vs H Q E → vs.length = ps.length)
    (hbody : ∀ (cdv : Value) (A : Around) (outer : List Env) (s : Shared) (H : Hp) (vs : List V) (Q : VK) (E : XK),
      Room k (A.deeper (envOfC qual (defScope st) s.heap.objs.size f cdv)) → Gd A → sp vs H Q E →
      ∃ t, PSs (cxOf CX0 P w K mg base N qual (defScope st) f cdv A outer s H E).nox (defBody st) t ∧
        t { nx := fun _ H' => Q .non H', rt := Q } (start N vs) H) :
    FnG P w K mg base CX0 (k + 1) f fd ps sp :=
  fnG F S len fun cdv A outer s H vs Q E hr g h => by
    obtain ⟨t, ht, q⟩ := hbody cdv A outer s H vs Q E hr g h
    exact ⟨t, ht.nox, q⟩

/-! ### the call of such a def -/
section
variable {X : Cx} {CX : CXT} {k : Nat} {f : Addr} {fd : FuncData} {ps : List Str} {sp : Sp} {E : XK} {x : Str}
  {p pos : Pos} {e : Expr} {es : List Expr} {t : TA}
end

/-! ### repr of data -/
section
variable {X : Cx}
end

/-! ### match over texts -/
structure PM (X : Cx) (cs : List MatchCase) (tm : V → TS) : Prop where
  run : ∀ (pins : List (Addr × Obj)) (s : Shared) (σ : L2.St) (H : Hp) (D : Ends) (v : V) (u : Value) (b : Bool),
    Inv X pins σ H s → RelV v u → tm v D σ H → wpAny (model X.prog X.w) X.A (matchCases cs X.env u b) (SP X pins D) X.xe s
def mAny (tb : TS) : V → TS := fun _ => tb
def mStr (z : Str) (tb : TS) (tr : V → TS) : V → TS := fun v D σ H => ∃ x, v = .str x ∧ if x = z then tb D σ H else tr v D σ H
def tMatch (ta : TE) (tm : V → TS) : TS := fun D σ H => ta σ H fun v H1 => tm v D σ H1
section
variable {X : Cx} {rest : List MatchCase} {body : List Stmt} {tb : TS} {tr : V → TS} {pos p1 : Pos} {z : Str} {j : Nat}
theorem pm_any (h : PSs X body tb) : PM X (⟨.MatchAs none none pos, none, body⟩ :: rest) (mAny tb) := by
  constructor
  intro pins s σ H D v u b I r q
  apply wpAny_matchCases_cons
  apply wpAny_matchPattern_Capture
  exact wpAny_assignInOrder_none (h.run pins s σ H D I q)
theorem pm_str (h : PSs X body tb) (hr : PM X rest tr) :
    PM X (⟨.MatchValue (.Constant (.str z) j p1) pos, none, body⟩ :: rest) (mStr z tb tr) := by
  constructor
  intro pins s σ H D v u b I r q
  obtain ⟨x, rfl, q⟩ := q
  apply wpAny_matchCases_cons
  apply wpAny_matchPattern_Value
  refine thn ((pe_str (X := X) (x := z) (j := j) (pos := p1)).run pins s σ H (fun v H1 => v = .str z ∧ H1 = H) I ⟨rfl, rfl⟩) ?_
  rintro y s1 ⟨v1, H1, I1, r1, rfl, rfl⟩
  refine thn (op_eq pins s1 σ H1 (.str x) (.str z) u y (fun c H2 => c = .bl (decide (x = z)) ∧ H2 = H1) I1 r r1 ⟨rfl, by
    rw [show decide ((V.str x) = V.str z) = decide (x = z) from by simp]; exact ⟨rfl, rfl⟩⟩) ?_
  rintro c s2 ⟨v2, H2, I2, r2, rfl, rfl⟩
  cases (show c = Value.bool (decide (x = z)) from r2)
  apply wpAny_truthy_bool
  by_cases e : x = z
  · rw [if_pos (decide_eq_true e)]
    rw [if_pos e] at q
    exact wpAny_assignInOrder_none (h.run pins s2 σ H2 D I2 q)
  · rw [decide_eq_false e, if_neg Bool.false_ne_true]
    rw [if_neg e] at q
    exact hr.run pins s2 σ H2 D (.str x) u false I2 r q
theorem ps_match {e : Expr} {cs : List MatchCase} {ta : TE} {tm : V → TS} (ha : PE X e ta) (hm : PM X cs tm) : PS X (.Match e cs pos) (tMatch ta tm) := by
  constructor
  intro pins s σ H D I q
  apply wpAny_Match
  refine thn (ha.run pins s σ H _ I q) ?_
  rintro u s1 ⟨v, H1, I1, r1, q1⟩
  exact hm.run pins s1 σ H1 D v u true I1 r1 q1
end

/-! ### keywords: every keyword-only parameter is written -/
theorem kbn_all {K : PySem.W.Frag} {x qual : Str} {st : Stmt} {f : Addr} {fd : FuncData} {ps ks : List Str} {n : Nat} (F : Fun K x qual st f fd)
    (h : ∀ (kV doc pm : Value) (an : Option Addr) (cdv ct : Value) (us ws : List Value), us.length = n → ws.length = ks.length →
      bindArgs (PySem.W.fnOf x qual (defArgs st) (defBody st) (defScope st) .none kV doc pm an cdv ct) ⟨us, ks.zip ws⟩ = pure (ps.zip (us ++ ws))) :
    KBn K fd ps n ks (fun us ws => us ++ ws) (fun vs zs => vs ++ zs) := by
  obtain ⟨oc, od, kV, doc, pm, an, cdv, ct, osl, rfl, lk, hcd⟩ := F.ex
  constructor
  · intro s us ws kin l1 l2
    exact .of_eq (h kV doc pm an cdv ct us ws l1 l2)
  · intro vs us zs ws r1 r2
    exact r1.append r2

/-! ### the end of a law's row, its def told by FnG -/
section
variable {P : Program} {w : World} {K : PySem.W.Frag} {mg mb : Str → Option Value} {CX : CXT} {k : Nat} {fa a : Addr} {fd : FuncData} {x : Str} {sp : Sp}
  {s1 : Shared} {vs : List Value} {ns : List Int}
/-- H tracks the script alone, locked -/
structure Scr (P : Program) (w : World) (K : PySem.W.Frag) (H : Hp) (s1 : Shared) (a : Addr) (xs : List V) : Prop where
  only : ∀ b, H b = none ∨ (b = a ∧ ∃ o, H b = some (.frz o (.lst xs)))
  seq : SqL K H a xs
  hok : HOk P w H s1.heap
  out : H a ≠ none → K.lookup a = none
end
end Bg

set_option Elab.async false
set_option linter.all false
set_option maxRecDepth 100000
set_option maxHeartbeats 4000000
namespace Bg
open PySem PySem.Spec PyProof.Rows L2
/-! ### readings, step by step -/
section
variable {σ : L2.St} {H : Hp} {Q : VK} {QT : Bool → Hp → Prop} {QA : List V → Hp → Prop} {D : Ends} {v x y : V} {i j : Int} {n : Nat} {ta tb te : TE} {tt tu : TT} {tA : TA} {t1 t2 : TS} {r : R2} {K : PySem.W.Frag} {p : Addr} {xs : List V} {b : Bool}
end
section
variable {σ : L2.St} {H : Hp} {Q : VK} {D : Ends} {te : TE} {tA : TA} {K : PySem.W.Frag} {p : Addr} {xs : List V} {R : It → Hp → Prop} {QO : Option Int → Hp → Prop} {x : V} {i : Int}
theorem rd_isi {c : V} {t u : Value} {b : Bool} (k : ClsV c u) (ty : TyX K H x t) (e : PySem.W.kitOne K t u = some b) (q : Q (.bl b) H) : rIsi K [x, c] H Q := ⟨x, c, t, u, b, rfl, k, ty, e, q⟩
end
/-! ### new lists and tuples, the heap behind them told by what stands in it -/
section
variable {X : Cx} {es : List Expr} {t : TA} {pos : Pos}
end
section
variable {σ : L2.St} {H : Hp} {Q : VK} {tA : TA} {xs : List V} {A : Prop}
end
/-! ### data of lists -/
theorem cdiv64 {i m : Int} (h0 : 0 < m) (h1 : m < 18446744073709551616) : CDivW i m := wide_div (b := 64) h0 (by omega) (by decide) (by decide)
theorem same_new {H : Hp} {p : Addr} {o : HO} (h : H p = none) : Same H (upd H p o) := fun b x e => by rw [upd_ne (ne_of_none e h)]; exact e
/-! ### the pool that a law draws from -/
def PoolAt (H : Hp) (p : Addr) : Prop := ∃ a b : Int, H p = some (.lst [.int a, .int b])
/-- all but the pool stays -/
def Kp (p : Addr) (H H' : Hp) : Prop := PoolAt H' p ∧ ∀ c o, c ≠ p → H c = some o → H' c = some o
theorem Kp.refl {p : Addr} {H : Hp} (h : PoolAt H p) : Kp p H H := ⟨h, fun _ _ _ e => e⟩
theorem Kp.trans {p : Addr} {H H1 H2 : Hp} (a : Kp p H H1) (b : Kp p H1 H2) : Kp p H H2 := ⟨b.1, fun c o n e => b.2 c o n (a.2 c o n e)⟩
theorem Kp.new {p c : Addr} {H H1 : Hp} {o : HO} (a : Kp p H H1) (hc : H1 c = none) : Kp p H (upd H1 c o) := by
  obtain ⟨⟨x, y, e⟩, k⟩ := a
  refine ⟨⟨x, y, ?_⟩, fun d u n h => ?_⟩
  · rw [upd_ne (ne_of_none e hc)]; exact e
  · rw [upd_ne (ne_of_none (k d u n h) hc)]; exact k d u n h
theorem Kp.same {p : Addr} {H H1 H2 : Hp} (a : Kp p H H1) (s : Same H1 H2) : Kp p H H2 := by
  obtain ⟨⟨x, y, e⟩, k⟩ := a
  exact ⟨⟨x, y, s _ _ e⟩, fun d u n h => s _ _ (k d u n h)⟩
theorem Kp.at {p c : Addr} {H H1 : Hp} {o : HO} (a : Kp p H H1) (n : c ≠ p) (e : H c = some o) : H1 c = some o := a.2 c o n e
theorem Kp.ne {p c : Addr} {H H1 : Hp} (k : Kp p H H1) (n : H1 c = none) : c ≠ p := by
  obtain ⟨⟨x, y, e⟩, _⟩ := k
  exact (ne_of_none e n).symm
theorem PoolAt.same {p : Addr} {H H1 : Hp} (a : PoolAt H p) (s : Same H H1) : PoolAt H1 p := by
  obtain ⟨x, y, e⟩ := a
  exact ⟨x, y, s _ _ e⟩
theorem PoolAt.ne {p c : Addr} {H : Hp} (a : PoolAt H p) (n : H c = none) : c ≠ p := by
  obtain ⟨x, y, e⟩ := a
  exact (ne_of_none e n).symm
end Bg

set_option Elab.async false
set_option linter.all false
set_option maxRecDepth 100000
set_option maxHeartbeats 4000000
namespace Bg
open PySem PySem.Spec PyProof.Rows L2
/-! ### data of things -/
def tyN : PyData → String
  | .none => "NoneType" | .bool _ => "bool" | .int _ => "int" | .str _ => "str" | .list _ => "list" | .tuple _ => "tuple" | .dict _ => "dict"
/-- data, or an empty dict -/
inductive Dz (K : PySem.W.Frag) (H : Hp) : V → PyData → Prop
  | dat {x : V} {d : PyData} (h : Dp K H x d) : Dz K H x d
  | dct {a : Addr} (h : H a = some (.dK [])) : Dz K H (.ref a) (.dict [])
section
variable {K : PySem.W.Frag} {H H' : Hp} {x : V} {d : PyData}
theorem sqT_same {a : Addr} {xs : List V} (e : Same H H') (h : SqT K H a xs) : SqT K H' a xs := by
  rcases h with (h | ⟨o, h⟩) | h
  · exact .inl (.inl (e _ _ h))
  · exact .inl (.inr ⟨o, e _ _ h⟩)
  · exact .inr h
mutual
theorem dp_same (e : Same H H') : ∀ (d : PyData) (x : V), Dp K H x d → Dp K H' x d
  | .none, x, h => by cases h; exact .non
  | .bool _, x, h => by cases h; exact .bl _
  | .int _, x, h => by cases h; exact .int _
  | .str _, x, h => by cases h; exact .str _
  | .list ds, x, h => by cases h with | lst s a => exact .lst (e.seq s) (dpAll_same e ds _ a)
  | .tuple ds, x, h => by cases h with | tup s a => exact .tup (sqT_same e s) (dpAll_same e ds _ a)
  | .dict _, x, h => by cases h
theorem dpAll_same (e : Same H H') : ∀ (ds : List PyData) (xs : List V), DpAll K H xs ds → DpAll K H' xs ds
  | [], xs, h => by cases h; exact .nil
  | d :: ds, xs, h => by cases h with | cons a b => exact .cons (dp_same e d _ a) (dpAll_same e ds _ b)
end
theorem Dz.same (e : Same H H') (h : Dz K H x d) : Dz K H' x d := by
  cases h with
  | dat h => exact .dat (dp_same e _ _ h)
  | dct h => exact .dct (e _ _ h)
theorem sqL_ty {a : Addr} {xs : List V} (h : SqL K H a xs) : TyX K H (.ref a) (.type "list") := by
  rcases h with (h | ⟨o, h⟩) | ⟨o, its, n, l, c, _⟩
  · exact .base (.lst h)
  · exact .base (.frz h)
  · exact .kList l c
theorem sqT_ty {a : Addr} {xs : List V} (h : SqT K H a xs) : TyX K H (.ref a) (.type "tuple") := by
  rcases h with (h | ⟨o, h⟩) | ⟨o, its, n, l, c, _⟩
  · exact .base (.tup h)
  · exact .fTuple h
  · exact .kTuple l c
theorem Dz.ty (h : Dz K H x d) : TyX K H x (.type (tyN d)) := by
  cases h with
  | dct h => exact .base (.dK h)
  | dat h =>
    cases h with
    | non => exact .base .non
    | bl b => exact .base (.bl b)
    | int i => exact .base (.int i)
    | str z => exact .base (.str z)
    | lst s _ => exact sqL_ty s
    | tup s _ => exact sqT_ty s
variable {Q : VK}
end
/-! ### what repr shows of it -/
structure Sh (k n : Nat) (d : PyData) : Prop where
  sh : d.showable = true
  nd : d.hasDict = false
  dp : d.depth ≤ k
  ln : d.shown.length ≤ n
  cl : d.canLay0 = true
structure ShAll (k n : Nat) (ds : List PyData) : Prop where
  sh : PyData.showableAll ds = true
  nd : PyData.hasDictAll ds = false
  dp : PyData.depthAll ds ≤ k
  ln : ((PyData.shownAll ds).map (·.length)).sum + 2 * (PyData.shownAll ds).length ≤ n
  cl : PyData.canLayAll0 ds = true
theorem Sh.non : Sh 0 10 .none := ⟨rfl, rfl, Nat.le_refl _, by decide +kernel, rfl⟩
theorem Sh.bl (b : Bool) : Sh 0 10 (.bool b) := ⟨rfl, rfl, Nat.le_refl _, by cases b <;> decide +kernel, rfl⟩
theorem Sh.int {i : Int} (h : i.natAbs < 2 ^ 1000) : Sh 0 1001 (.int i) := by
  have h1 : i.natAbs.log2 < 1000 := PySem.Flt.log2_lt_of (by decide) h
  refine ⟨decide_eq_true (Nat.lt_trans h1 (by decide)), rfl, Nat.le_refl _, ?_, rfl⟩
  have e := int_text_length_le (k := 1000) (by decide) h1
  have e2 : (PyData.shown (.int i)).length = (toString i).length := by
    exact PySem.ofString_length _
  omega
theorem Sh.mono {k n k' n' : Nat} {d : PyData} (h : Sh k n d) (a : k ≤ k') (b : n ≤ n') : Sh k' n' d := ⟨h.sh, h.nd, Nat.le_trans h.dp a, Nat.le_trans h.ln b, h.cl⟩
theorem ShAll.nil {k n : Nat} : ShAll k n [] := ⟨rfl, rfl, Nat.zero_le _, Nat.zero_le _, rfl⟩
theorem ShAll.cons {k n m : Nat} {d : PyData} {ds : List PyData} (h : Sh k n d) (t : ShAll k m ds) : ShAll k (n + 2 + m) (d :: ds) := by
  refine ⟨?_, ?_, ?_, ?_, ?_⟩
  · show (d.showable && PyData.showableAll ds) = true
    rw [h.sh, t.sh]; rfl
  · show (d.hasDict || PyData.hasDictAll ds) = false
    rw [h.nd, t.nd]; rfl
  · exact Nat.max_le.mpr ⟨h.dp, t.dp⟩
  · have a := h.ln
    have b := t.ln
    simp only [PyData.shownAll, List.map_cons, List.sum_cons, List.length_cons]
    omega
  · show (d.canLay0 && PyData.canLayAll0 ds) = true
    rw [h.cl, t.cl]; rfl
theorem ShAll.tup {k n : Nat} {ds : List PyData} (h : ShAll k n ds) : Sh (k + 1) (n + 3) (.tuple ds) := by
  refine ⟨h.sh, h.nd, Nat.succ_le_succ h.dp, ?_, h.cl⟩
  have a := h.ln
  have b := tupleText_len_le (PyData.shownAll ds)
  show (tupleText (PyData.shownAll ds)).length ≤ _
  omega
theorem ShAll.lst {k n : Nat} {ds : List PyData} (h : ShAll k n ds) : Sh (k + 1) (n + 3) (.list ds) := by
  refine ⟨h.sh, h.nd, Nat.succ_le_succ h.dp, ?_, h.cl⟩
  have a := h.ln
  have b := listText_len_le (PyData.shownAll ds)
  show (listText (PyData.shownAll ds)).length ≤ _
  omega
/-- of a text of a string -/
theorem code_lt (z : String) : ∀ c ∈ (Str.ofString z).cps.toList, c < 1114112 := by
  intro c hc
  rw [signs_ofString] at hc
  obtain ⟨ch, _, rfl⟩ := List.mem_map.mp hc
  rcases ch.valid with h | ⟨_, h⟩
  · exact Nat.lt_trans h (by decide)
  · exact h
theorem Sh.str {z : String} {m : Nat} (h : z.length ≤ m) : Sh 0 (10 * m + 10) (.str z) := by
  refine ⟨rfl, rfl, Nat.le_refl _, ?_, ?_⟩
  · have e := StrLaws.reprText_len (Str.ofString z) (fun c hc => Nat.lt_trans (code_lt z c hc) (by decide))
    rw [PySem.ofString_length] at e
    show (reprText (Str.ofString z)).length ≤ _
    omega
  · show (Str.ofString z).cps.all (· < 0x110000) = true
    rw [← Array.all_toList, List.all_eq_true]
    exact fun c hc => decide_eq_true (code_lt z c hc)
theorem Sh.shaped {k n : Nat} {d : PyData} (h : Sh k n d) (hk : k ≤ 64) : SeqAt.shaped d = true := by
  show (d.canLay0 && decide (d.depth ≤ 64)) = true
  rw [h.cl, decide_eq_true (Nat.le_trans h.dp hk)]
  rfl
/-- repr(x) of any of these -/
inductive Rp (K : PySem.W.Frag) (H : Hp) : V → Str → Prop
  | dat {x : V} {d : PyData} (h : Dp K H x d) (s : Sh 50 1000000 d) : Rp K H x d.shown
  | dct {a : Addr} (h : H a = some (.dK [])) : Rp K H (.ref a) (PyData.dict []).shown
theorem Rp.same {K : PySem.W.Frag} {H H' : Hp} {x : V} {z : Str} (e : Same H H') (h : Rp K H x z) : Rp K H' x z := by
  cases h with
  | dat h s => exact .dat (dp_same e _ _ h) s
  | dct h => exact .dct (e _ _ h)
end Bg

set_option Elab.async false
set_option linter.all false
set_option maxRecDepth 100000
set_option maxHeartbeats 4000000
/-! Data layer: what a def does, told as a function on data. Own work of the verifier. -/
namespace Dl
open PySem PySem.Spec PyProof.Rows L2
/-- data: lists and dicts in it are never changed again; obj n: the n-th thing of the store; con: a def, a class -/
inductive D where
  | non | bl (b : Bool) | int (i : Int) | str (z : Str) | lst (ds : List D) | tup (ds : List D) | obj (n : Nat) | con (v : V)
  | dct (ks : List Key) (ds : List D)
/-- a name: nothing, data, or a list of its own that may still be changed -/
inductive Slot where
  | un | val (d : D) | own (ds : List D)
/-- a thing of the store -/
inductive DO where
  | lst (ds : List D) | dct (kvs : List (Key × D)) | ins (c : Str) (fs : List (Str × D)) | exc (c : Str) (fs : List (Str × D)) | tbl (nm : Str) | dctL (kvs : List (Key × D))
structure Sx where
  env : List Slot
  st : List DO
inductive Fl where
  | nx | brk | cont | ret (d : D)
abbrev DE := Sx → Option (D × Sx)
abbrev DT := Sx → Option (Bool × Sx)
abbrev DA := Sx → Option (List D × Sx)
abbrev DS := Sx → Option (Fl × Sx)
abbrev DG := D → Sx → Option Sx
abbrev DF := List D → List DO → Option (D × List DO)
/-! ### the heap without what may be changed -/
open Classical in
noncomputable def lim (H : Hp) (M : Addr → Prop) : Hp := fun a => if M a then none else H a
section
variable {H H' : Hp} {M M' : Addr → Prop} {a : Addr} {o : HO}
theorem lim_some : lim H M a = some o ↔ ¬ M a ∧ H a = some o := by
  unfold lim
  split
  · rename_i h; exact ⟨fun z => (nomatch z), fun (z : ¬ M a ∧ H a = some o) => absurd h z.1⟩
  · rename_i h; exact ⟨fun z => ⟨h, z⟩, fun (z : ¬ M a ∧ H a = some o) => z.2⟩
theorem lim_sub : Same (lim H M) H := fun _ _ h => (lim_some.mp h).2
theorem lim_keep (k : ∀ a o, ¬ M a → H a = some o → H' a = some o) (m : ∀ a, M' a → H a ≠ none → M a) : Same (lim H M) (lim H' M') := by
  intro b u e
  obtain ⟨nm, h⟩ := lim_some.mp e
  exact lim_some.mpr ⟨fun z => nm (m b z (by rw [h]; exact fun y => nomatch y)), k b u nm h⟩
theorem lim_mono (s : Same H H') : Same (lim H M) (lim H' M) := lim_keep (fun _ _ _ e => s _ _ e) fun _ z _ => z
end
/-! ### data and values -/
mutual
inductive DR (K : PySem.W.Frag) (α : List Addr) (H : Hp) : V → D → Prop
  | non : DR K α H .non .non
  | bl (b : Bool) : DR K α H (.bl b) (.bl b)
  | int (i : Int) : DR K α H (.int i) (.int i)
  | str (z : Str) : DR K α H (.str z) (.str z)
  | lst {a : Addr} {xs : List V} {ds : List D} : SqL K H a xs → DRs K α H xs ds → DR K α H (.ref a) (.lst ds)
  | tup {a : Addr} {xs : List V} {ds : List D} : SqT K H a xs → DRs K α H xs ds → DR K α H (.ref a) (.tup ds)
  | obj {n : Nat} {a : Addr} : α[n]? = some a → DR K α H (.ref a) (.obj n)
  | con (v : V) : DR K α H v (.con v)
  | dct {a : Addr} {kvs : List (Key × V)} {ks : List Key} {ds : List D} : H a = some (.dK kvs) → kvs.map Prod.fst = ks → DRs K α H (kvs.map Prod.snd) ds → DR K α H (.ref a) (.dct ks ds)
inductive DRs (K : PySem.W.Frag) (α : List Addr) (H : Hp) : List V → List D → Prop
  | nil : DRs K α H [] []
  | cons {v : V} {vs : List V} {d : D} {ds : List D} : DR K α H v d → DRs K α H vs ds → DRs K α H (v :: vs) (d :: ds)
end
section
variable {K : PySem.W.Frag} {α α' : List Addr} {H H' : Hp} {v : V} {d : D} {vs : List V} {ds : List D}
mutual
theorem DR.mono' (s : Same H H') (p : α <+: α') : ∀ (d : D) (v : V), DR K α H v d → DR K α' H' v d
  | .non, _, h => by cases h; exact .non
  | .bl _, _, h => by cases h; exact .bl _
  | .int _, _, h => by cases h; exact .int _
  | .str _, _, h => by cases h; exact .str _
  | .lst ds, _, h => by cases h with | lst a b => exact .lst (s.seq a) (DRs.mono' s p ds _ b)
  | .tup ds, _, h => by cases h with | tup a b => exact .tup (Bg.sqT_same s a) (DRs.mono' s p ds _ b)
  | .obj n, _, h => by
    cases h with
    | obj e =>
      obtain ⟨l, rfl⟩ := p
      refine .obj ?_
      rw [List.getElem?_append_left (List.getElem?_eq_some_iff.mp e).1]
      exact e
  | .con _, _, h => by cases h; exact .con _
  | .dct ks ds, _, h => by cases h with | dct a e b => exact .dct (s _ _ a) e (DRs.mono' s p ds _ b)
theorem DRs.mono' (s : Same H H') (p : α <+: α') : ∀ (ds : List D) (vs : List V), DRs K α H vs ds → DRs K α' H' vs ds
  | [], _, h => by cases h; exact .nil
  | d :: ds, _, h => by cases h with | cons a b => exact .cons (DR.mono' s p d _ a) (DRs.mono' s p ds _ b)
end
theorem DR.mono (h : DR K α H v d) (s : Same H H') (p : α <+: α') : DR K α' H' v d := DR.mono' s p d v h
theorem DRs.mono (h : DRs K α H vs ds) (s : Same H H') (p : α <+: α') : DRs K α' H' vs ds := DRs.mono' s p ds vs h
theorem DRs.len (h : DRs K α H vs ds) : vs.length = ds.length := by
  induction ds generalizing vs with
  | nil => cases h; rfl
  | cons d ds ih => cases h with | cons a b => rw [List.length_cons, List.length_cons, ih b]
theorem DRs.get {i : Nat} {d : D} (h : DRs K α H vs ds) (e : ds[i]? = some d) : ∃ v, vs[i]? = some v ∧ DR K α H v d := by
  induction ds generalizing vs i with
  | nil => simp at e
  | cons x ds ih =>
    cases h with
    | cons a b =>
      cases i with
      | zero => simp at e; subst e; exact ⟨_, rfl, a⟩
      | succ i => obtain ⟨v, q1, q2⟩ := ih b (by simpa using e); exact ⟨v, by simpa using q1, q2⟩
theorem DRs.getV {i : Nat} {v : V} (h : DRs K α H vs ds) (e : vs[i]? = some v) : ∃ d, ds[i]? = some d ∧ DR K α H v d := by
  induction ds generalizing vs i with
  | nil => cases h; simp at e
  | cons x ds ih =>
    cases h with
    | cons a b =>
      cases i with
      | zero => simp at e; subst e; exact ⟨_, rfl, a⟩
      | succ i => obtain ⟨d, q1, q2⟩ := ih b (by simpa using e); exact ⟨d, by simpa using q1, q2⟩
theorem DRs.append {vs' : List V} {ds' : List D} (h : DRs K α H vs ds) (h' : DRs K α H vs' ds') : DRs K α H (vs ++ vs') (ds ++ ds') := by
  induction ds generalizing vs with
  | nil => cases h; exact h'
  | cons d ds ih => cases h with | cons a b => exact .cons a (ih b)
theorem DRs.take (n : Nat) (h : DRs K α H vs ds) : DRs K α H (vs.take n) (ds.take n) := by
  induction ds generalizing vs n with
  | nil => cases h; simp; exact .nil
  | cons d ds ih =>
    cases h with
    | cons a b =>
      cases n with
      | zero => exact .nil
      | succ n => exact .cons a (ih n b)
theorem DRs.drop (n : Nat) (h : DRs K α H vs ds) : DRs K α H (vs.drop n) (ds.drop n) := by
  induction ds generalizing vs n with
  | nil => cases h; simp; exact .nil
  | cons d ds ih =>
    cases h with
    | cons a b =>
      cases n with
      | zero => exact .cons a b
      | succ n => exact ih n b
theorem DRs.set {v : V} {d : D} (i : Nat) (r : DR K α H v d) (h : DRs K α H vs ds) : DRs K α H (vs.set i v) (ds.set i d) := by
  induction ds generalizing vs i with
  | nil => cases h; exact .nil
  | cons x ds ih =>
    cases h with
    | cons a b =>
      cases i with
      | zero => exact .cons r b
      | succ i => exact .cons a (ih i b)
theorem DRs.reverse (h : DRs K α H vs ds) : DRs K α H vs.reverse ds.reverse := by
  induction ds generalizing vs with
  | nil => cases h; exact .nil
  | cons d ds ih =>
    cases h with
    | cons a b =>
      rw [List.reverse_cons, List.reverse_cons]
      exact (ih b).append (.cons a .nil)
theorem DRs.ints {ns : List Int} : DRs K α H (ns.map V.int) (ns.map D.int) := by
  induction ns with
  | nil => exact .nil
  | cons n ns ih => exact .cons (.int n) ih
end
/-! ### a state: the names and the store -/
def Owned (S : Sx) (σ : L2.St) (a : Addr) : Prop := ∃ (i : Nat) (ds : List D), S.env[i]? = some (.own ds) ∧ σ[i]? = some (some (.ref a))
def Mx (N : Addr → Prop) (α : List Addr) (S : Sx) (σ : L2.St) : Addr → Prop := fun a => N a ∨ a ∈ α ∨ Owned S σ a
def SlotR (K : PySem.W.Frag) (α : List Addr) (H Hm : Hp) (x : Option (Option V)) : Slot → Prop
  | .un => True
  | .val d => ∃ v, x = some (some v) ∧ DR K α Hm v d
  | .own ds => ∃ a vs, x = some (some (.ref a)) ∧ H a = some (.lst vs) ∧ DRs K α Hm vs ds
inductive KR (K : PySem.W.Frag) (α : List Addr) (H : Hp) {κ : Type} : List (κ × V) → List (κ × D) → Prop
  | nil : KR K α H [] []
  | cons {k : κ} {v : V} {vs : List (κ × V)} {d : D} {ds : List (κ × D)} : DR K α H v d → KR K α H vs ds → KR K α H ((k, v) :: vs) ((k, d) :: ds)
/-- where a class of the text stands -/
noncomputable def rho (K : PySem.W.Frag) (c : Str) : Addr := match PySem.W.nsIn K mainGlobals c with
  | some (some (.ref f)) => f
  | _ => 0
theorem rho_of {K : PySem.W.Frag} {c : Str} {f : Addr} (h : PySem.W.nsIn K mainGlobals c = some (some (.ref f))) : rho K c = f := by unfold rho; rw [h]
/-- the code object of the def named nm, and its table of code objects -/
noncomputable def cdA (K : PySem.W.Frag) (nm : Str) : Value := match K.lookup (rho K nm) with
  | some ⟨_, _, .func fd, _⟩ => fd.code
  | _ => .none
noncomputable def tbA (K : PySem.W.Frag) (nm : Str) : Addr := match cdA K nm with
  | .ref c => (match K.lookup c with
    | some ⟨_, _, .fields vs, _⟩ => (match (vs[11]? : Option Value) with | some (.ref P) => P | _ => 0)
    | _ => 0)
  | _ => 0
/-- a caught exception at a, its dict at d -/
def ExD (cls : Value) (d : Option Addr) (a : Addr) : HO := .ext fun h => ∃ (oe : Obj) (vs : Array Value), h.get? a = some oe ∧ Zc cls d oe ∧ oe.data = .fields vs
/-- the fields of an exception whose dict is at d -/
def ExR (K : PySem.W.Frag) (α : List Addr) (Hm : Hp) (fs : List (Str × D)) (d : Option Addr) : Prop := (fs = [] ∧ d = none) ∨ ∃ dx vs, fs ≠ [] ∧ d = some dx ∧ Hm dx = some (.xd vs) ∧ KR K α Hm vs fs
def ObjR (K : PySem.W.Frag) (α : List Addr) (H Hm : Hp) (a : Addr) : DO → Prop
  | .lst ds => ∃ vs, H a = some (.lst vs) ∧ DRs K α Hm vs ds
  | .dct kvs => ∃ vs, H a = some (.dK vs) ∧ KR K α Hm vs kvs
  | .ins c fs => ∃ dx vs, H a = some (.ins (rho K c) dx vs) ∧ KR K α Hm vs fs
  | .exc c fs => ∃ d, H a = some (ExD (.ref (rho K c)) d a) ∧ ExR K α Hm fs d
  | .dctL kvs => ∃ ob vs, H a = some (.frz ob (.dK vs)) ∧ KR K α Hm vs kvs
  | .tbl nm => a = tbA K nm ∧ ∃ ps : Array Value, H a = some (.tbl ps) ∧ TriplesOk ps.toList
structure StR (K : PySem.W.Frag) (α : List Addr) (H Hm : Hp) (st : List DO) : Prop where
  len : st.length = α.length
  at_ : ∀ (n : Nat) (o : DO), st[n]? = some o → ∃ a, α[n]? = some a ∧ ObjR K α H Hm a o
structure SR (K : PySem.W.Frag) (N : Addr → Prop) (H0 : Hp) (α0 α : List Addr) (σ : L2.St) (H : Hp) (S : Sx) : Prop where
  pre : α0 <+: α
  len : S.env.length = σ.length
  nd : α.Nodup
  live : ∀ a, N a → H a ≠ none
  na : ∀ a, a ∈ α → ¬ N a
  on : ∀ a, Owned S σ a → ¬ N a ∧ a ∉ α
  uniq : ∀ (i j : Nat) (ds es : List D) (a : Addr), S.env[i]? = some (.own ds) → S.env[j]? = some (.own es) → σ[i]? = some (some (.ref a)) → σ[j]? = some (some (.ref a)) → i = j
  slot : ∀ (i : Nat) (x : Slot), S.env[i]? = some x → SlotR K α H (lim H (Mx N α S σ)) (σ[i]?) x
  sto : StR K α H (lim H (Mx N α S σ)) S.st
  keep : ∀ a o, a ∉ α0 → H0 a = some o → H a = some o
  fresh : ∀ a, Owned S σ a → H0 a = none
  fral : ∀ a, a ∈ α → a ∉ α0 → H0 a = none
  frz : ∀ a o u, H0 a = some (.frz o u) → H a = some (.frz o u)
/-- behind an expression -/
structure Gr (α : List Addr) (H : Hp) (S : Sx) (α' : List Addr) (H' : Hp) (S' : Sx) : Prop where
  pre : α <+: α'
  fr : ∀ a, a ∈ α' → a ∉ α → H a = none
  keep : ∀ a o, a ∉ α → H a = some o → H' a = some o
  own : ∀ (i : Nat) (ds : List D), S'.env[i]? = some (.own ds) → S.env[i]? = some (.own ds)
  frz : ∀ a o u, H a = some (.frz o u) → H' a = some (.frz o u)
section
variable {K : PySem.W.Frag} {N : Addr → Prop} {H0 H H' H'' : Hp} {α0 α α' α'' : List Addr} {σ : L2.St} {S S' S'' : Sx} {v : V} {d : D}
theorem Gr.refl : Gr α H S α H S := ⟨List.prefix_refl _, fun a h n => absurd h n, fun _ _ _ e => e, fun _ _ e => e, fun _ _ _ e => e⟩
theorem Gr.trans (a : Gr α H S α' H' S') (b : Gr α' H' S' α'' H'' S'') : Gr α H S α'' H'' S'' := by
  refine ⟨a.pre.trans b.pre, fun x h n => ?_, fun x o n e => ?_, fun i ds e => a.own i ds (b.own i ds e), fun x o u e => b.frz x o u (a.frz x o u e)⟩
  · by_cases q : x ∈ α'
    · exact a.fr x q n
    · have z := b.fr x h q
      cases e : H x with
      | none => rfl
      | some o => rw [a.keep x o n e] at z; cases z
  · by_cases q : x ∈ α'
    · rw [a.fr x q n] at e; cases e
    · exact b.keep x o q (a.keep x o n e)
theorem Gr.same (g : Gr α H S α' H' S') : Same (lim H (Mx N α S σ)) (lim H' (Mx N α' S' σ)) := by
  refine lim_keep (fun a o nm e => g.keep a o (fun z => nm (.inr (.inl z))) e) (fun a m l => ?_)
  rcases m with m | m | ⟨i, ds, m, q⟩
  · exact .inl m
  · by_cases z : a ∈ α
    · exact .inr (.inl z)
    · exact absurd (g.fr a m z) l
  · exact .inr (.inr ⟨i, ds, g.own i ds m, q⟩)
theorem Gr.dr (g : Gr α H S α' H' S') (h : DR K α (lim H (Mx N α S σ)) v d) : DR K α' (lim H' (Mx N α' S' σ)) v d := h.mono g.same g.pre
theorem Gr.drs {vs : List V} {ds : List D} (g : Gr α H S α' H' S') (h : DRs K α (lim H (Mx N α S σ)) vs ds) : DRs K α' (lim H' (Mx N α' S' σ)) vs ds := h.mono g.same g.pre
theorem Gr.of_same (s : Same H H') : Gr α H S α H' S := ⟨List.prefix_refl _, fun a h n => absurd h n, fun _ _ _ e => s _ _ e, fun _ _ e => e, fun _ _ _ e => s _ _ e⟩
theorem KR.mono {κ : Type} {vs : List (κ × V)} {ds : List (κ × D)} (h : KR K α H vs ds) (s : Same H H') (p : α <+: α') : KR K α' H' vs ds := by
  induction h with
  | nil => exact .nil
  | cons a b ih => exact .cons (a.mono s p) ih
theorem ExR.mono {fs : List (Str × D)} {d : Option Addr} (h : ExR K α H fs d) (s : Same H H') (p : α <+: α') : ExR K α' H' fs d := by
  rcases h with h | ⟨dx, vs, n, e, q, r⟩
  · exact .inl h
  · exact .inr ⟨dx, vs, n, e, s _ _ q, r.mono s p⟩
theorem ObjR.mono {Hm Hm' : Hp} {a : Addr} {o : DO} (e : ∀ u, H a = some u → H' a = some u) (s : Same Hm Hm') (p : α <+: α') (h : ObjR K α H Hm a o) : ObjR K α' H' Hm' a o := by
  cases o with
  | lst ds => obtain ⟨vs, q1, q2⟩ := h; exact ⟨vs, e _ q1, q2.mono s p⟩
  | dct kvs => obtain ⟨vs, q1, q2⟩ := h; exact ⟨vs, e _ q1, q2.mono s p⟩
  | ins C fs => obtain ⟨dx, vs, q1, q2⟩ := h; exact ⟨dx, vs, e _ q1, q2.mono s p⟩
  | exc c fs => obtain ⟨d, q1, q2⟩ := h; exact ⟨d, e _ q1, q2.mono s p⟩
  | tbl nm => obtain ⟨q0, ps, q1, q2⟩ := h; exact ⟨q0, ps, e _ q1, q2⟩
  | dctL kvs => obtain ⟨ob, vs, q1, q2⟩ := h; exact ⟨ob, vs, e _ q1, q2.mono s p⟩
theorem SlotR.mono {Hm Hm' : Hp} {x : Option (Option V)} {s : Slot} (e : ∀ a u, x = some (some (.ref a)) → (∃ ds, s = .own ds) → H a = some u → H' a = some u) (sm : Same Hm Hm') (p : α <+: α') (h : SlotR K α H Hm x s) : SlotR K α' H' Hm' x s := by
  cases s with
  | un => trivial
  | val d => obtain ⟨v, q1, q2⟩ := h; exact ⟨v, q1, q2.mono sm p⟩
  | own ds => obtain ⟨a, vs, q1, q2, q3⟩ := h; exact ⟨a, vs, q1, e a _ q1 ⟨ds, rfl⟩ q2, q3.mono sm p⟩
/-- the heap grows -/
theorem SR.same (R : SR K N H0 α0 α σ H S) (s : Same H H') : SR K N H0 α0 α σ H' S := by
  have sm : Same (lim H (Mx N α S σ)) (lim H' (Mx N α S σ)) := lim_mono s
  refine ⟨R.pre, R.len, R.nd, fun a n => ?_, R.na, R.on, R.uniq, fun i x e => (R.slot i x e).mono (fun a u _ _ q => s _ _ q) sm (List.prefix_refl _), ⟨R.sto.len, fun n o e => ?_⟩, fun a o n e => s _ _ (R.keep a o n e), R.fresh, R.fral, fun a o u e => s _ _ (R.frz a o u e)⟩
  · cases e : H a with
    | none => exact absurd e (R.live a n)
    | some o => rw [s a o e]; exact fun z => nomatch z
  · obtain ⟨a, q1, q2⟩ := R.sto.at_ n o e
    exact ⟨a, q1, q2.mono (fun u q => s _ _ q) sm (List.prefix_refl _)⟩
end
/-! ### judgements -/
def RefE (K : PySem.W.Frag) (te : TE) (f : DE) : Prop := ∀ (N : Addr → Prop) (H0 : Hp) (α0 α : List Addr) (σ : L2.St) (H : Hp) (S : Sx) (d : D) (S' : Sx) (Q : VK),
  SR K N H0 α0 α σ H S → f S = some (d, S') →
  (∀ v α' H', SR K N H0 α0 α' σ H' S' → Gr α H S α' H' S' → DR K α' (lim H' (Mx N α' S' σ)) v d → Q v H') → te σ H Q
def RefT (K : PySem.W.Frag) (te : TT) (f : DT) : Prop := ∀ (N : Addr → Prop) (H0 : Hp) (α0 α : List Addr) (σ : L2.St) (H : Hp) (S : Sx) (d : Bool) (S' : Sx) (Q : Bool → Hp → Prop),
  SR K N H0 α0 α σ H S → f S = some (d, S') →
  (∀ α' H', SR K N H0 α0 α' σ H' S' → Gr α H S α' H' S' → Q d H') → te σ H Q
def RefA (K : PySem.W.Frag) (te : TA) (f : DA) : Prop := ∀ (N : Addr → Prop) (H0 : Hp) (α0 α : List Addr) (σ : L2.St) (H : Hp) (S : Sx) (ds : List D) (S' : Sx) (Q : List V → Hp → Prop),
  SR K N H0 α0 α σ H S → f S = some (ds, S') →
  (∀ vs α' H', SR K N H0 α0 α' σ H' S' → Gr α H S α' H' S' → DRs K α' (lim H' (Mx N α' S' σ)) vs ds → Q vs H') → te σ H Q
def FlR (K : PySem.W.Frag) (α : List Addr) (Hm : Hp) (E : Ends) (σ : L2.St) (H : Hp) : Fl → Prop
  | .nx => E.nx σ H
  | .brk => E.bk σ H
  | .cont => E.ct σ H
  | .ret d => ∀ v, DR K α Hm v d → E.rt v H
def RefS (K : PySem.W.Frag) (ts : TS) (f : DS) : Prop := ∀ (N : Addr → Prop) (H0 : Hp) (α0 α : List Addr) (σ : L2.St) (H : Hp) (S : Sx) (fl : Fl) (S' : Sx) (E : Ends),
  SR K N H0 α0 α σ H S → f S = some (fl, S') →
  (∀ σ' α' H', SR K N H0 α0 α' σ' H' S' → α <+: α' → Same (lim H (Mx N α S σ)) (lim H' (Mx N α' S' σ')) → FlR K α' (lim H' (Mx N α' S' σ')) E σ' H' fl) → ts E σ H
/-- just these slots may be written -/
def Wr (ws : List Nat) (σ σ' : L2.St) : Prop := σ'.length = σ.length ∧ ∀ j : Nat, j ∉ ws → σ'[j]? = σ[j]?
def RefG (K : PySem.W.Frag) (ws : List Nat) (tg : TG) (g : DG) : Prop := ∀ (N : Addr → Prop) (H0 : Hp) (α0 α : List Addr) (σ : L2.St) (H : Hp) (S : Sx) (d : D) (v : V) (S' : Sx) (R : L2.St → Hp → Prop),
  SR K N H0 α0 α σ H S → DR K α (lim H (Mx N α S σ)) v d → g d S = some S' →
  (∀ σ' α' H', SR K N H0 α0 α' σ' H' S' → Gr α H S α' H' S' → Same (lim H (Mx N α S σ)) (lim H' (Mx N α' S' σ')) → Wr ws σ σ' → R σ' H') → tg v σ H R
/-! the reading that a function on data stands for -/
def teOf (K : PySem.W.Frag) (f : DE) : TE := fun σ H Q => ∃ (N : Addr → Prop) (H0 : Hp) (α0 α : List Addr) (S : Sx) (d : D) (S' : Sx), SR K N H0 α0 α σ H S ∧ f S = some (d, S') ∧
  ∀ v α' H', SR K N H0 α0 α' σ H' S' → Gr α H S α' H' S' → DR K α' (lim H' (Mx N α' S' σ)) v d → Q v H'
def ttOf (K : PySem.W.Frag) (f : DT) : TT := fun σ H Q => ∃ (N : Addr → Prop) (H0 : Hp) (α0 α : List Addr) (S : Sx) (d : Bool) (S' : Sx), SR K N H0 α0 α σ H S ∧ f S = some (d, S') ∧
  ∀ α' H', SR K N H0 α0 α' σ H' S' → Gr α H S α' H' S' → Q d H'
def taOf (K : PySem.W.Frag) (f : DA) : TA := fun σ H Q => ∃ (N : Addr → Prop) (H0 : Hp) (α0 α : List Addr) (S : Sx) (ds : List D) (S' : Sx), SR K N H0 α0 α σ H S ∧ f S = some (ds, S') ∧
  ∀ vs α' H', SR K N H0 α0 α' σ H' S' → Gr α H S α' H' S' → DRs K α' (lim H' (Mx N α' S' σ)) vs ds → Q vs H'
def tsOf (K : PySem.W.Frag) (f : DS) : TS := fun E σ H => ∃ (N : Addr → Prop) (H0 : Hp) (α0 α : List Addr) (S : Sx) (fl : Fl) (S' : Sx), SR K N H0 α0 α σ H S ∧ f S = some (fl, S') ∧
  ∀ σ' α' H', SR K N H0 α0 α' σ' H' S' → α <+: α' → Same (lim H (Mx N α S σ)) (lim H' (Mx N α' S' σ')) → FlR K α' (lim H' (Mx N α' S' σ')) E σ' H' fl
def tgOf (K : PySem.W.Frag) (ws : List Nat) (g : DG) : TG := fun v σ H R => ∃ (N : Addr → Prop) (H0 : Hp) (α0 α : List Addr) (S : Sx) (d : D) (S' : Sx), SR K N H0 α0 α σ H S ∧ DR K α (lim H (Mx N α S σ)) v d ∧ g d S = some S' ∧
  ∀ σ' α' H', SR K N H0 α0 α' σ' H' S' → Gr α H S α' H' S' → Same (lim H (Mx N α S σ)) (lim H' (Mx N α' S' σ')) → Wr ws σ σ' → R σ' H'
section
variable {K : PySem.W.Frag}
theorem rf_teOf {f : DE} : RefE K (teOf K f) f := fun N H0 α0 α σ H S d S' Q R e q => ⟨N, H0, α0, α, S, d, S', R, e, q⟩
theorem rf_ttOf {f : DT} : RefT K (ttOf K f) f := fun N H0 α0 α σ H S d S' Q R e q => ⟨N, H0, α0, α, S, d, S', R, e, q⟩
theorem rf_taOf {f : DA} : RefA K (taOf K f) f := fun N H0 α0 α σ H S d S' Q R e q => ⟨N, H0, α0, α, S, d, S', R, e, q⟩
theorem rf_tsOf {f : DS} : RefS K (tsOf K f) f := fun N H0 α0 α σ H S d S' Q R e q => ⟨N, H0, α0, α, S, d, S', R, e, q⟩
theorem rf_tgOf {ws : List Nat} {f : DG} : RefG K ws (tgOf K ws f) f := fun N H0 α0 α σ H S d v S' Q R dr e q => ⟨N, H0, α0, α, S, d, S', R, dr, e, q⟩
end
def JE (X : Cx) (e : Expr) (f : DE) : Prop := PE X e (teOf X.K f)
def JT (X : Cx) (e : Expr) (f : DT) : Prop := PT X e (ttOf X.K f)
def JW (X : Cx) (e : Expr) (f : DT) : Prop := PW X e (ttOf X.K f)
def JA (X : Cx) (es : List Expr) (f : DA) : Prop := PA X es (taOf X.K f)
def JS (X : Cx) (st : Stmt) (f : DS) : Prop := PS X st (tsOf X.K f)
def JSs (X : Cx) (st : List Stmt) (f : DS) : Prop := PSs X st (tsOf X.K f)
def JG (X : Cx) (e : Expr) (ws : List Nat) (f : DG) : Prop := PG X e (tgOf X.K ws f)
section
variable {X : Cx} {e : Expr} {es : List Expr} {st : Stmt} {sts : List Stmt}
theorem JE.of {te : TE} {f : DE} (h : PE X e te) (r : RefE X.K te f) : JE X e f := ⟨fun pins s σ H Q I ⟨N, H0, α0, α, S, d, S', R, e, q⟩ => h.run pins s σ H Q I (r N H0 α0 α σ H S d S' Q R e q)⟩
theorem JT.of {te : TT} {f : DT} (h : PT X e te) (r : RefT X.K te f) : JT X e f := ⟨fun pins s σ H Q I ⟨N, H0, α0, α, S, d, S', R, e, q⟩ => h.run pins s σ H Q I (r N H0 α0 α σ H S d S' Q R e q)⟩
theorem JW.of {te : TT} {f : DT} (h : PW X e te) (r : RefT X.K te f) : JW X e f := ⟨fun wh pins s σ H Q I ⟨N, H0, α0, α, S, d, S', R, e, q⟩ => h.run wh pins s σ H Q I (r N H0 α0 α σ H S d S' Q R e q)⟩
theorem JA.of {te : TA} {f : DA} (h : PA X es te) (r : RefA X.K te f) : JA X es f := ⟨fun pos pins s σ H Q I ⟨N, H0, α0, α, S, d, S', R, e, q⟩ => h.run pos pins s σ H Q I (r N H0 α0 α σ H S d S' Q R e q)⟩
theorem JS.of {te : TS} {f : DS} (h : PS X st te) (r : RefS X.K te f) : JS X st f := ⟨fun pins s σ H Q I ⟨N, H0, α0, α, S, d, S', R, e, q⟩ => h.run pins s σ H Q I (r N H0 α0 α σ H S d S' Q R e q)⟩
theorem JSs.of {te : TS} {f : DS} (h : PSs X sts te) (r : RefS X.K te f) : JSs X sts f := ⟨fun pins s σ H Q I ⟨N, H0, α0, α, S, d, S', R, e, q⟩ => h.run pins s σ H Q I (r N H0 α0 α σ H S d S' Q R e q)⟩
theorem JG.of {tg : TG} {ws : List Nat} {f : DG} (h : PG X e tg) (r : RefG X.K ws tg f) : JG X e ws f := ⟨fun pins s σ H v u Q I rr ⟨N, H0, α0, α, S, d, S', R, dr, e, q⟩ => h.run pins s σ H v u Q I rr (r N H0 α0 α σ H S d v S' Q R dr e q)⟩
theorem JE.pe {f : DE} (h : JE X e f) : PE X e (teOf X.K f) := h
theorem JT.pe {f : DT} (h : JT X e f) : PT X e (ttOf X.K f) := h
theorem JW.pe {f : DT} (h : JW X e f) : PW X e (ttOf X.K f) := h
theorem JA.pe {f : DA} (h : JA X es f) : PA X es (taOf X.K f) := h
theorem JS.pe {f : DS} (h : JS X st f) : PS X st (tsOf X.K f) := h
theorem JSs.pe {f : DS} (h : JSs X sts f) : PSs X sts (tsOf X.K f) := h
theorem JG.pe {ws : List Nat} {f : DG} (h : JG X e ws f) : PG X e (tgOf X.K ws f) := h
theorem JE.rf {f : DE} (h : JE X e f) : RefE X.K (teOf X.K f) f := rf_teOf
theorem JT.rf {f : DT} (h : JT X e f) : RefT X.K (ttOf X.K f) f := rf_ttOf
theorem JW.rf {f : DT} (h : JW X e f) : RefT X.K (ttOf X.K f) f := rf_ttOf
theorem JA.rf {f : DA} (h : JA X es f) : RefA X.K (taOf X.K f) f := rf_taOf
theorem JS.rf {f : DS} (h : JS X st f) : RefS X.K (tsOf X.K f) f := rf_tsOf
theorem JSs.rf {f : DS} (h : JSs X sts f) : RefS X.K (tsOf X.K f) f := rf_tsOf
theorem JG.rf {ws : List Nat} {f : DG} (h : JG X e ws f) : RefG X.K ws (tgOf X.K ws f) f := rf_tgOf
end
end Dl

set_option Elab.async false
set_option linter.all false
set_option maxRecDepth 100000
set_option maxHeartbeats 4000000
namespace Dl
open PySem PySem.Spec PyProof.Rows L2
/-! ### expressions on data -/
def eC (d : D) : DE := fun S => some (d, S)
def eV (i : Nat) : DE := fun S => match S.env[i]? with
  | some (.val d) => some (d, S)
  | some (.own ds) => some (.lst ds, { S with env := S.env.set i (.val (.lst ds)) })
  | _ => none
def eOp (g : D → D → Option D) (a b : DE) : DE := fun S => (a S).bind fun p => (b p.2).bind fun q => (g p.1 q.1).map fun z => (z, q.2)
def eUn (g : D → Option D) (a : DE) : DE := fun S => (a S).bind fun p => (g p.1).map fun z => (z, p.2)
def aNil : DA := fun S => some ([], S)
def aCons (a : DE) (r : DA) : DA := fun S => (a S).bind fun p => (r p.2).map fun q => (p.1 :: q.1, q.2)
def eCB (g : List D → Option D) (a : DA) : DE := fun S => (a S).bind fun p => (g p.1).map fun z => (z, p.2)
def eTup (a : DA) : DE := fun S => (a S).bind fun p => if p.1.length ≤ 1000 then some (.tup p.1, p.2) else none
def tE (a : DE) : DT := fun S => (a S).bind fun p => match p.1 with
  | .bl b => some (b, p.2)
  | _ => none
def tNt (a : DT) : DT := fun S => (a S).map fun p => (!p.1, p.2)
def tAn (a b : DT) : DT := fun S => (a S).bind fun p => if p.1 = true then b p.2 else some (false, p.2)
def tOo (a b : DT) : DT := fun S => (a S).bind fun p => if p.1 = true then some (true, p.2) else b p.2
def eAn (a b : DE) : DE := fun S => (tE a S).bind fun p => if p.1 = true then b p.2 else some (.bl false, p.2)
def eOo (a b : DE) : DE := fun S => (tE a S).bind fun p => if p.1 = true then some (.bl true, p.2) else b p.2
def eNt (a : DE) : DE := fun S => (tE a S).map fun p => (.bl (!p.1), p.2)
def eIf (c : DT) (a b : DE) : DE := fun S => (c S).bind fun p => if p.1 = true then a p.2 else b p.2
section
variable {K : PySem.W.Frag}
theorem opt_bind {α β : Type} {x : Option α} {f : α → Option β} {b : β} (h : x.bind f = some b) : ∃ a, x = some a ∧ f a = some b := by
  cases x with
  | none => cases h
  | some a => exact ⟨a, rfl, h⟩
theorem opt_map {α β : Type} {x : Option α} {f : α → β} {b : β} (h : x.map f = some b) : ∃ a, x = some a ∧ f a = b := by
  cases x with
  | none => cases h
  | some a => exact ⟨a, rfl, Option.some.inj h⟩
theorem rf_c {v : V} {d : D} (h : ∀ α H, DR K α H v d) : RefE K (tC v) (eC d) := by
  intro N H0 α0 α σ H S d' S' Q R e q
  cases e
  exact q v α H R .refl (h _ _)
theorem Owned.set {S : Sx} {σ : L2.St} {i : Nat} {d : D} {a : Addr} (h : Owned { S with env := S.env.set i (.val d) } σ a) : Owned S σ a := by
  obtain ⟨j, ds, e, q⟩ := h
  refine ⟨j, ds, ?_, q⟩
  by_cases c : i = j
  · subst c
    rw [List.getElem?_set] at e
    split at e
    · split at e
      · cases e
      · cases e
    · exact e
  · have e' : (S.env.set i (.val d))[j]? = some (.own ds) := e
    rw [List.getElem?_set_ne c] at e'
    exact e'
theorem env_set_ne {S : Sx} {i j : Nat} {d : D} {ds : List D} (e : (S.env.set i (.val d))[j]? = some (.own ds)) : S.env[j]? = some (.own ds) ∧ i ≠ j := by
  rw [List.getElem?_set] at e
  split at e
  · split at e
    · cases e
    · cases e
  · rename_i c; exact ⟨e, c⟩
/-- a name's own list is read as a value: from then on it stays -/
theorem SR.freeze {N : Addr → Prop} {H0 H : Hp} {α0 α : List Addr} {σ : L2.St} {S : Sx} {i : Nat} {ds : List D} (R : SR K N H0 α0 α σ H S) (e : S.env[i]? = some (.own ds)) :
    ∃ v, σ[i]? = some (some v) ∧ SR K N H0 α0 α σ H { S with env := S.env.set i (.val (.lst ds)) } ∧ Gr α H S α H { S with env := S.env.set i (.val (.lst ds)) } ∧ DR K α (lim H (Mx N α { S with env := S.env.set i (.val (.lst ds)) } σ)) v (.lst ds) := by
  obtain ⟨a, vs, q1, q2, q3⟩ := R.slot i _ e
  have g : Gr α H S α H { S with env := S.env.set i (.val (.lst ds)) } := ⟨List.prefix_refl _, fun a h n => absurd h n, fun _ _ _ e => e, fun j es z => (env_set_ne z).1, fun _ _ _ e => e⟩
  have nm : ¬ Mx N α { S with env := S.env.set i (.val (.lst ds)) } σ a := by
    rintro (z | z | ⟨j, es, z, y⟩)
    · exact (R.on a ⟨i, ds, e, q1⟩).1 z
    · exact (R.on a ⟨i, ds, e, q1⟩).2 z
    · obtain ⟨z1, z2⟩ := env_set_ne z
      exact z2 (R.uniq i j ds es a e z1 q1 y)
  have dr : DR K α (lim H (Mx N α { S with env := S.env.set i (.val (.lst ds)) } σ)) (.ref a) (.lst ds) := .lst (.inl (.inl (lim_some.mpr ⟨nm, q2⟩))) (g.drs q3)
  refine ⟨.ref a, q1, ⟨R.pre, by rw [← R.len]; exact List.length_set, R.nd, R.live, R.na, fun b h => R.on b h.set, fun j k es fs b z1 z2 => R.uniq j k es fs b (env_set_ne z1).1 (env_set_ne z2).1, fun j x z => ?_, ⟨R.sto.len, fun n o z => ?_⟩, R.keep, fun b h => R.fresh b h.set, R.fral, R.frz⟩, g, dr⟩
  · by_cases c : i = j
    · subst c
      have z' : (S.env.set i (.val (.lst ds)))[i]? = some x := z
      rw [List.getElem?_set_self (List.getElem?_eq_some_iff.mp e).1] at z'
      cases z'
      exact ⟨_, q1, dr⟩
    · have z' : (S.env.set i (.val (.lst ds)))[j]? = some x := z
      rw [List.getElem?_set_ne c] at z'
      exact (R.slot j x z').mono (fun a u _ _ h => h) g.same g.pre
  · obtain ⟨b, y1, y2⟩ := R.sto.at_ n o z
    exact ⟨b, y1, y2.mono (fun _ h => h) g.same g.pre⟩
theorem rf_v {i : Nat} : RefE K (tVar i) (eV i) := by
  intro N H0 α0 α σ H S d S' Q R e q
  unfold eV at e
  split at e
  · rename_i d' z
    cases e
    obtain ⟨v, q1, q2⟩ := R.slot i _ z
    exact ⟨v, q1, q v α H R .refl q2⟩
  · rename_i ds z
    cases e
    obtain ⟨v, q1, q2, q3, q4⟩ := R.freeze z
    exact ⟨v, q1, q v α H q2 q3 q4⟩
  · cases e
/-! ### operators by values -/
def OpS (K : PySem.W.Frag) (r : R2) (g : D → D → Option D) : Prop := ∀ (α : List Addr) (M : Addr → Prop) (x y : V) (H : Hp) (Q : VK) (d1 d2 d3 : D), (∀ a, M a → H a ≠ none) →
  DR K α (lim H M) x d1 → DR K α (lim H M) y d2 → g d1 d2 = some d3 → (∀ v H', Same H H' → DR K α (lim H' M) v d3 → Q v H') → r x y H Q
def UnS (K : PySem.W.Frag) (r : V → Hp → VK → Prop) (g : D → Option D) : Prop := ∀ (α : List Addr) (M : Addr → Prop) (x : V) (H : Hp) (Q : VK) (d1 d3 : D), (∀ a, M a → H a ≠ none) →
  DR K α (lim H M) x d1 → g d1 = some d3 → (∀ v H', Same H H' → DR K α (lim H' M) v d3 → Q v H') → r x H Q
def CallS (K : PySem.W.Frag) (r : List V → Hp → VK → Prop) (g : List D → Option D) : Prop := ∀ (α : List Addr) (M : Addr → Prop) (xs : List V) (H : Hp) (Q : VK) (ds : List D) (d3 : D), (∀ a, M a → H a ≠ none) →
  DRs K α (lim H M) xs ds → g ds = some d3 → (∀ v H', Same H H' → DR K α (lim H' M) v d3 → Q v H') → r xs H Q
theorem SR.mlive {N : Addr → Prop} {H0 H : Hp} {α0 α : List Addr} {σ : L2.St} {S : Sx} (R : SR K N H0 α0 α σ H S) : ∀ a, Mx N α S σ a → H a ≠ none := by
  rintro a (h | h | ⟨i, ds, h1, h2⟩)
  · exact R.live a h
  · obtain ⟨n, hn, e⟩ := List.mem_iff_getElem.mp h
    have e2 : α[n]? = some a := by rw [List.getElem?_eq_getElem hn, e]
    have hs : n < S.st.length := by rw [R.sto.len]; exact hn
    obtain ⟨b, q1, q2⟩ := R.sto.at_ n _ (List.getElem?_eq_getElem hs)
    rw [e2] at q1; cases q1
    cases z : S.st[n] with
    | lst ds => rw [z] at q2; obtain ⟨vs, y, _⟩ := q2; rw [y]; exact fun z => (nomatch z)
    | dct ds => rw [z] at q2; obtain ⟨vs, y, _⟩ := q2; rw [y]; exact fun z => (nomatch z)
    | ins C ds => rw [z] at q2; obtain ⟨dx, vs, y, _⟩ := q2; rw [y]; exact fun z => (nomatch z)
    | exc c ds => rw [z] at q2; obtain ⟨d, y, _⟩ := q2; rw [y]; exact fun z => (nomatch z)
    | tbl nm => rw [z] at q2; obtain ⟨_, ps, y, _⟩ := q2; rw [y]; exact fun z => (nomatch z)
    | dctL ds => rw [z] at q2; obtain ⟨ob, vs, y, _⟩ := q2; rw [y]; exact fun z => (nomatch z)
  · obtain ⟨b, vs, q1, q2, _⟩ := R.slot i _ h1
    rw [h2] at q1; cases q1
    rw [q2]; exact fun z => (nomatch z)
variable {ta tb tc : TE} {fa fb fc : DE}
theorem rf_op {r : R2} {g : D → D → Option D} (ho : OpS K r g) (ha : RefE K ta fa) (hb : RefE K tb fb) : RefE K (tOp r ta tb) (eOp g fa fb) := by
  intro N H0 α0 α σ H S d S' Q R e q
  obtain ⟨⟨x, S1⟩, e1, e⟩ := opt_bind e
  obtain ⟨⟨y, S2⟩, e2, e⟩ := opt_bind e
  obtain ⟨z, e3, e⟩ := opt_map e
  cases e
  refine ha N H0 α0 α σ H S x S1 _ R e1 fun v1 α1 H1 R1 g1 d1 => ?_
  refine hb N H0 α0 α1 σ H1 S1 y S2 _ R1 e2 fun v2 α2 H2 R2 g2 d2 => ?_
  refine ho α2 _ v1 v2 H2 Q x y _ R2.mlive (g2.dr d1) d2 e3 fun v H' s dr => ?_
  exact q v α2 H' (R2.same s) ((g1.trans g2).trans (.of_same s)) dr
theorem rf_un {r : V → Hp → VK → Prop} {g : D → Option D} (ho : UnS K r g) (ha : RefE K ta fa) : RefE K (tUn r ta) (eUn g fa) := by
  intro N H0 α0 α σ H S d S' Q R e q
  obtain ⟨⟨x, S1⟩, e1, e⟩ := opt_bind e
  obtain ⟨z, e3, e⟩ := opt_map e
  cases e
  refine ha N H0 α0 α σ H S x S1 _ R e1 fun v1 α1 H1 R1 g1 d1 => ?_
  refine ho α1 _ v1 H1 Q x _ R1.mlive d1 e3 fun v H' s dr => ?_
  exact q v α1 H' (R1.same s) (g1.trans (.of_same s)) dr
theorem rf_nil : RefA K tNil aNil := by
  intro N H0 α0 α σ H S ds S' Q R e q
  cases e
  exact q [] α H R .refl .nil
theorem rf_cons {tA : TA} {fA : DA} (ha : RefE K ta fa) (hA : RefA K tA fA) : RefA K (tCons ta tA) (aCons fa fA) := by
  intro N H0 α0 α σ H S ds S' Q R e q
  obtain ⟨⟨x, S1⟩, e1, e⟩ := opt_bind e
  obtain ⟨⟨ys, S2⟩, e2, e⟩ := opt_map e
  cases e
  refine ha N H0 α0 α σ H S x S1 _ R e1 fun v1 α1 H1 R1 g1 d1 => ?_
  refine hA N H0 α0 α1 σ H1 S1 ys S2 _ R1 e2 fun vs α2 H2 R2 g2 d2 => ?_
  exact q _ α2 H2 R2 (g1.trans g2) (.cons (g2.dr d1) d2)
theorem rf_CB {r : List V → Hp → VK → Prop} {g : List D → Option D} {tA : TA} {fA : DA} (ho : CallS K r g) (ha : RefA K tA fA) : RefE K (tCB r tA) (eCB g fA) := by
  intro N H0 α0 α σ H S d S' Q R e q
  obtain ⟨⟨x, S1⟩, e1, e⟩ := opt_bind e
  obtain ⟨z, e3, e⟩ := opt_map e
  cases e
  refine ha N H0 α0 α σ H S x S1 _ R e1 fun v1 α1 H1 R1 g1 d1 => ?_
  refine ho α1 _ v1 H1 Q x _ R1.mlive d1 e3 fun v H' s dr => ?_
  exact q v α1 H' (R1.same s) (g1.trans (.of_same s)) dr
theorem lim_new {H : Hp} {M : Addr → Prop} {p : Addr} {o : HO} (l : ∀ a, M a → H a ≠ none) (np : H p = none) : lim (upd H p o) M p = some o := lim_some.mpr ⟨fun z => l p z np, upd_same⟩
theorem sz1000 {n : Nat} (h : n ≤ 1000) : n ≤ sizeLine := Nat.le_trans h (by decide)
theorem rf_tup {tA : TA} {fA : DA} (ha : RefA K tA fA) : RefE K (tTup tA) (eTup fA) := by
  intro N H0 α0 α σ H S d S' Q R e q
  obtain ⟨⟨xs, S1⟩, e1, e⟩ := opt_bind e
  simp only at e
  split at e
  · rename_i hl
    cases e
    refine ha N H0 α0 α σ H S xs _ _ R e1 fun vs α1 H1 R1 g1 d1 => ?_
    refine ⟨by rw [d1.len]; exact sz1000 hl, fun p np => ?_⟩
    have s : Same H1 (upd H1 p (.tup vs)) := Bg.same_new np
    exact q _ α1 _ (R1.same s) (g1.trans (.of_same s)) (.tup (.inl (.inl (lim_new R1.mlive np))) (d1.mono (lim_mono s) (List.prefix_refl _)))
  · cases e
/-! ### tests -/
theorem tE_some {S S' : Sx} {b : Bool} (h : tE fa S = some (b, S')) : fa S = some (.bl b, S') := by
  obtain ⟨⟨x, S1⟩, e1, e⟩ := opt_bind h
  cases x <;> first | (cases e; exact e1) | cases e
theorem rf_tE (ha : RefE K ta fa) : RefT K (tB ta) (tE fa) := by
  intro N H0 α0 α σ H S b S' Q R e q
  refine ha N H0 α0 α σ H S _ S' _ R (tE_some e) fun v α1 H1 R1 g1 d1 => ?_
  cases d1
  exact ⟨b, rfl, q α1 H1 R1 g1⟩
theorem rf_tT (ha : RefE K ta fa) : RefT K (tTest ta) (tE fa) := rf_tE ha
variable {tt tu : TT} {ft fu : DT}
theorem rf_not (ha : RefT K tt ft) : RefT K (tNot tt) (tNt ft) := by
  intro N H0 α0 α σ H S b S' Q R e q
  obtain ⟨⟨x, S1⟩, e1, e⟩ := opt_map e
  cases e
  exact ha N H0 α0 α σ H S x S1 _ R e1 q
theorem rf_and (ha : RefT K tt ft) (hb : RefT K tu fu) : RefT K (tAnd tt tu) (tAn ft fu) := by
  intro N H0 α0 α σ H S b S' Q R e q
  obtain ⟨⟨x, S1⟩, e1, e⟩ := opt_bind e
  refine ha N H0 α0 α σ H S x S1 _ R e1 fun α1 H1 R1 g1 => ?_
  cases x with
  | true =>
    rw [if_pos rfl] at e ⊢
    exact hb N H0 α0 α1 σ H1 S1 b S' Q R1 e fun α2 H2 R2 g2 => q α2 H2 R2 (g1.trans g2)
  | false =>
    rw [if_neg Bool.false_ne_true] at e ⊢
    cases e
    exact q α1 H1 R1 g1
theorem rf_or (ha : RefT K tt ft) (hb : RefT K tu fu) : RefT K (tOr tt tu) (tOo ft fu) := by
  intro N H0 α0 α σ H S b S' Q R e q
  obtain ⟨⟨x, S1⟩, e1, e⟩ := opt_bind e
  refine ha N H0 α0 α σ H S x S1 _ R e1 fun α1 H1 R1 g1 => ?_
  cases x with
  | true =>
    rw [if_pos rfl] at e ⊢
    cases e
    exact q α1 H1 R1 g1
  | false =>
    rw [if_neg Bool.false_ne_true] at e ⊢
    exact hb N H0 α0 α1 σ H1 S1 b S' Q R1 e fun α2 H2 R2 g2 => q α2 H2 R2 (g1.trans g2)
theorem rf_andV (ha : RefE K ta fa) (hb : RefE K tb fb) : RefE K (tAndV ta tb) (eAn fa fb) := by
  intro N H0 α0 α σ H S d S' Q R e q
  obtain ⟨⟨x, S1⟩, e1, e⟩ := opt_bind e
  refine ha N H0 α0 α σ H S _ S1 _ R (tE_some e1) fun v α1 H1 R1 g1 d1 => ?_
  cases d1
  refine ⟨x, rfl, ?_⟩
  cases x with
  | true =>
    rw [if_pos rfl] at e ⊢
    exact hb N H0 α0 α1 σ H1 S1 d S' Q R1 e fun w α2 H2 R2 g2 d2 => q w α2 H2 R2 (g1.trans g2) d2
  | false =>
    rw [if_neg Bool.false_ne_true] at e ⊢
    cases e
    exact q _ α1 H1 R1 g1 (.bl _)
theorem rf_orV (ha : RefE K ta fa) (hb : RefE K tb fb) : RefE K (tOrV ta tb) (eOo fa fb) := by
  intro N H0 α0 α σ H S d S' Q R e q
  obtain ⟨⟨x, S1⟩, e1, e⟩ := opt_bind e
  refine ha N H0 α0 α σ H S _ S1 _ R (tE_some e1) fun v α1 H1 R1 g1 d1 => ?_
  cases d1
  refine ⟨x, rfl, ?_⟩
  cases x with
  | true =>
    rw [if_pos rfl] at e ⊢
    cases e
    exact q _ α1 H1 R1 g1 (.bl _)
  | false =>
    rw [if_neg Bool.false_ne_true] at e ⊢
    exact hb N H0 α0 α1 σ H1 S1 d S' Q R1 e fun w α2 H2 R2 g2 d2 => q w α2 H2 R2 (g1.trans g2) d2
theorem rf_notV (ha : RefE K ta fa) : RefE K (tNotV ta) (eNt fa) := by
  intro N H0 α0 α σ H S d S' Q R e q
  obtain ⟨⟨x, S1⟩, e1, e⟩ := opt_map e
  cases e
  refine ha N H0 α0 α σ H S _ S1 _ R (tE_some e1) fun v α1 H1 R1 g1 d1 => ?_
  cases d1
  exact ⟨x, rfl, q _ α1 H1 R1 g1 (.bl _)⟩
theorem rf_ifE (hc : RefT K tt ft) (ha : RefE K ta fa) (hb : RefE K tb fb) : RefE K (tIf tt ta tb) (eIf ft fa fb) := by
  intro N H0 α0 α σ H S d S' Q R e q
  obtain ⟨⟨x, S1⟩, e1, e⟩ := opt_bind e
  refine hc N H0 α0 α σ H S x S1 _ R e1 fun α1 H1 R1 g1 => ?_
  cases x with
  | true =>
    rw [if_pos rfl] at e ⊢
    exact ha N H0 α0 α1 σ H1 S1 d S' Q R1 e fun w α2 H2 R2 g2 d2 => q w α2 H2 R2 (g1.trans g2) d2
  | false =>
    rw [if_neg Bool.false_ne_true] at e ⊢
    exact hb N H0 α0 α1 σ H1 S1 d S' Q R1 e fun w α2 H2 R2 g2 d2 => q w α2 H2 R2 (g1.trans g2) d2
end
end Dl

set_option Elab.async false
set_option linter.all false
set_option maxRecDepth 100000
set_option maxHeartbeats 4000000
namespace Dl
open PySem PySem.Spec PyProof.Rows L2
/-! ### data as the library has it -/
mutual
def D.py : D → Option PyData
  | .non => some .none
  | .bl b => some (.bool b)
  | .int i => some (.int i)
  | .str z => some (.str z)
  | .lst ds => (D.pys ds).map .list
  | .tup ds => (D.pys ds).map .tuple
  | .obj _ => none
  | .con _ => none
  | .dct _ _ => none
def D.pys : List D → Option (List PyData)
  | [] => some []
  | d :: ds => (D.py d).bind fun p => (D.pys ds).map (p :: ·)
end
section
variable {K : PySem.W.Frag} {α : List Addr} {H H' : Hp} {M : Addr → Prop}
mutual
theorem DR.dp' : ∀ (d : D) (v : V) (p : PyData), DR K α H v d → D.py d = some p → Dp K H v p
  | .non, _, _, h, e => by cases h; cases e; exact .non
  | .bl _, _, _, h, e => by cases h; cases e; exact .bl _
  | .int _, _, _, h, e => by cases h; cases e; exact .int _
  | .str _, _, _, h, e => by cases h; cases e; exact .str _
  | .lst ds, _, _, h, e => by
    cases h with
    | lst a b =>
      obtain ⟨ps, e1, rfl⟩ := opt_map e
      exact .lst a (DRs.dp' ds _ ps b e1)
  | .tup ds, _, _, h, e => by
    cases h with
    | tup a b =>
      obtain ⟨ps, e1, rfl⟩ := opt_map e
      exact .tup a (DRs.dp' ds _ ps b e1)
  | .obj _, _, _, _, e => by cases e
  | .con _, _, _, _, e => by cases e
  | .dct _ _, _, _, _, e => by cases e
theorem DRs.dp' : ∀ (ds : List D) (vs : List V) (ps : List PyData), DRs K α H vs ds → D.pys ds = some ps → DpAll K H vs ps
  | [], _, _, h, e => by cases h; cases e; exact .nil
  | d :: ds, _, _, h, e => by
    cases h with
    | cons a b =>
      obtain ⟨p, e1, e⟩ := opt_bind e
      obtain ⟨ps, e2, rfl⟩ := opt_map e
      exact .cons (DR.dp' d _ p a e1) (DRs.dp' ds _ ps b e2)
end
theorem DR.dp {d : D} {v : V} {p : PyData} (h : DR K α (lim H M) v d) (e : D.py d = some p) : Dp K H v p := Bg.dp_same lim_sub _ _ (DR.dp' d v p h e)
theorem rd_lim {a : Addr} {o : HO} (h : Rd (lim H M) a o) : Rd H a o := h.imp (fun q => (lim_some.mp q).2) fun ⟨o, q⟩ => ⟨o, (lim_some.mp q).2⟩
theorem sqL_lim {a : Addr} {xs : List V} (h : SqL K (lim H M) a xs) : SqL K H a xs := h.imp rd_lim id
theorem sqT_lim {a : Addr} {xs : List V} (h : SqT K (lim H M) a xs) : SqT K H a xs := h.imp rd_lim id
end
/-! ### rules side by side -/
def rOr (r r' : R2) : R2 := fun x y H Q => r x y H Q ∨ r' x y H Q
theorem op_or2 {X : Cx} {f : Value → Value → Sem Value} {r r' : R2} (h : OpR X f r) (h' : OpR X f r') : OpR X f (rOr r r') :=
  fun pins s σ H x y v u Q I rx ry q => q.elim (h pins s σ H x y v u Q I rx ry) (h' pins s σ H x y v u Q I rx ry)
theorem ix_or2 {X : Cx} {r r' : R2} (h : IxR X r) (h' : IxR X r') : IxR X (rOr r r') :=
  fun a b pins s σ H x y v u Q I rx ry q hs => q.elim (fun z => h a b pins s σ H x y v u Q I rx ry z hs) (fun z => h' a b pins s σ H x y v u Q I rx ry z hs)
def rCatL (K : PySem.W.Frag) : R2 := fun x y H Q => ∃ l b xs zs, x = .ref l ∧ y = .ref b ∧ SqL K H l xs ∧ SqL K H b zs ∧ xs.length + zs.length ≤ sizeLine ∧ ∀ p, H p = none → Q (.ref p) (upd H p (.lst (xs ++ zs)))
theorem op_catL {X : Cx} : OpR X (binaryOp .Add) (rCatL X.K) := by
  intro pins s σ H x y v u Q I rx ry h
  obtain ⟨l, b, xs, zs, rfl, rfl, hH, hB, hz, q⟩ := h
  cases rx
  cases ry
  obtain ⟨its, r, ⟨⟨cls, dd, data, sl⟩, n, e, hc, hd, hs⟩, _⟩ := I.list hH
  obtain ⟨its2, r2, ⟨⟨cls2, dd2, data2, sl2⟩, n2, e2, hc2, hd2, hs2⟩, _⟩ := I.list hB
  simp only at hc hs hc2 hs2
  subst hc hs hc2 hs2
  have hl := r.length
  have hl2 := r2.length
  have ea : its.toArray ++ its2.toArray = (its ++ its2).toArray := by simp
  refine concat_meets ⟨_, e, rfl⟩ ⟨_, e2, rfl⟩ noFill_list_add seq_list_add PySem.F.slot_list_add PySem.F.entry_list_add (PySem.F.args_list_add_2 _ _) (list_addW l b its.toArray its2.toArray n n2 dd dd2 sl sl2 (by rw [List.size_toArray, List.size_toArray]; omega)) ⟨e, e2, ?_⟩
  rw [ea]
  exact ⟨.ref _, _, I.lnew (t' := s.toks) (r.append r2) (by rw [List.length_append]; omega), rfl, q _ I.fresh⟩
abbrev rStrAdd : R2 := fun x y H Q => ∃ i j, x = .str i ∧ y = .str j ∧ i.length + j.length ≤ sizeLine ∧ Q (.str (i ++ j)) H
abbrev rAddI : R2 := rI0 fun i j => .int (i + j)
def rAddA (K : PySem.W.Frag) : R2 := rOr rAddI (rOr rStrAdd (rOr (rCatA K) (rCatL K)))
theorem op_addA {X : Cx} : OpR X (binaryOp .Add) (rAddA X.K) := op_or2 op_add (op_or2 op_add_str (op_or2 op_catA op_catL))
/-! ### operators on data -/
def gI (g : Int → Int → D) : D → D → Option D
  | .int i, .int j => some (g i j)
  | _, _ => none
def gIc (C : Int → Int → Bool) (g : Int → Int → D) : D → D → Option D
  | .int i, .int j => if C i j = true then some (g i j) else none
  | _, _ => none
def gAdd : D → D → Option D
  | .int i, .int j => some (.int (i + j))
  | .str i, .str j => if i.length + j.length ≤ 16777216 then some (.str (i ++ j)) else none
  | .tup xs, .tup ys => if xs.length + ys.length ≤ 16777216 then some (.tup (xs ++ ys)) else none
  | .lst xs, .lst ys => if xs.length + ys.length ≤ 16777216 then some (.lst (xs ++ ys)) else none
  | _, _ => none
def gSub := gI fun i j => .int (i - j)
def bMul (i j : Int) : Bool := (decide (-(2 ^ 64) < i) && decide (i < 2 ^ 64)) || (decide (-(2 ^ 64) < j) && decide (j < 2 ^ 64))
def gMul := gIc bMul fun i j => .int (i * j)
def gDiv := gIc (fun _ j => decide (0 < j) && decide (j < 18446744073709551616)) fun i j => .int (i / j)
def gMod := gIc (fun _ j => decide (0 < j)) fun i j => .int (i % j)
def bPow (i j : Int) : Bool := decide (0 ≤ j) && decide (j ≤ 1000000) && decide (i.natAbs < 2 ^ 64)
def gPow := gIc bPow fun i j => .int (i ^ j.toNat)
def gShl := gIc bPow fun i j => .int (i * 2 ^ j.toNat)
def gShr := gIc (fun _ j => decide (0 ≤ j)) fun i j => .int (i / 2 ^ j.toNat)
def gAnd := gI fun i j => .int (Builtin.bitAnd i j)
def gOr := gI fun i j => .int (Builtin.bitOr i j)
def gXor := gI fun i j => .int (Builtin.bitXor i j)
def gLt := gI fun i j => .bl (decide (i < j))
def gLe := gI fun i j => .bl (decide (i ≤ j))
def gGt := gI fun i j => .bl (decide (j < i))
def gGe := gI fun i j => .bl (decide (j ≤ i))
def deepEq (a b : D) : Option Bool := (D.py a).bind fun p => (D.py b).bind fun q => if (SeqAt.shaped p && SeqAt.shaped q) = true then some (PyData.eqv p q) else none
def eqB : D → D → Option Bool
  | .int i, .int j => some (decide (i = j))
  | .str i, .str j => some (decide (i = j))
  | .bl i, .bl j => some (decide (i = j))
  | a, b => deepEq a b
def gEq (a b : D) : Option D := (eqB a b).map .bl
def gNe (a b : D) : Option D := (eqB a b).map fun c => .bl (!c)
def D.isN : D → Option Bool
  | .non => some true
  | .con _ => none
  | _ => some false
def gIsN : D → D → Option D
  | a, .non => a.isN.map .bl
  | _, _ => none
def gNotN : D → D → Option D
  | a, .non => a.isN.map fun b => .bl (!b)
  | _, _ => none
section
variable {K : PySem.W.Frag}
theorem os_I0 {gv : Int → Int → V} {g : Int → Int → D} (h : ∀ α H i j, DR K α H (gv i j) (g i j)) : OpS K (rI0 gv) (gI g) := by
  intro α M x y H Q d1 d2 d3 l r1 r2 e q
  unfold gI at e
  split at e
  · cases r1; cases r2; cases e
    exact ⟨_, _, rfl, rfl, q _ H (Same.refl H) (h _ _ _ _)⟩
  · cases e
theorem os_Ic {C : Int → Int → Prop} {B : Int → Int → Bool} {gv : Int → Int → V} {g : Int → Int → D} (hb : ∀ i j, B i j = true → C i j) (h : ∀ α H i j, DR K α H (gv i j) (g i j)) : OpS K (rI C gv) (gIc B g) := by
  intro α M x y H Q d1 d2 d3 l r1 r2 e q
  unfold gIc at e
  split at e
  · cases r1; cases r2
    split at e
    · rename_i c
      cases e
      exact ⟨_, _, rfl, rfl, hb _ _ c, q _ H (Same.refl H) (h _ _ _ _)⟩
    · cases e
  · cases e
theorem os_sub : OpS K (rI0 fun i j => .int (i - j)) gSub := os_I0 fun _ _ _ _ => .int _
theorem os_and : OpS K (rI0 fun i j => .int (Builtin.bitAnd i j)) gAnd := os_I0 fun _ _ _ _ => .int _
theorem os_or : OpS K (rI0 fun i j => .int (Builtin.bitOr i j)) gOr := os_I0 fun _ _ _ _ => .int _
theorem os_xor : OpS K (rI0 fun i j => .int (Builtin.bitXor i j)) gXor := os_I0 fun _ _ _ _ => .int _
theorem os_lt : OpS K (rI0 fun i j => .bl (decide (i < j))) gLt := os_I0 fun _ _ _ _ => .bl _
theorem os_le : OpS K (rI0 fun i j => .bl (decide (i ≤ j))) gLe := os_I0 fun _ _ _ _ => .bl _
theorem os_gt : OpS K (rI0 fun i j => .bl (decide (j < i))) gGt := os_I0 fun _ _ _ _ => .bl _
theorem os_ge : OpS K (rI0 fun i j => .bl (decide (j ≤ i))) gGe := os_I0 fun _ _ _ _ => .bl _
theorem os_mul : OpS K (rI CMul fun i j => .int (i * j)) gMul := os_Ic (fun i j h => by
  unfold bMul at h
  rw [Bool.or_eq_true, Bool.and_eq_true, Bool.and_eq_true, decide_eq_true_eq, decide_eq_true_eq, decide_eq_true_eq, decide_eq_true_eq] at h
  exact h) fun _ _ _ _ => .int _
theorem os_div : OpS K (rI CDivW fun i j => .int (i / j)) gDiv := os_Ic (fun i j h => by
  rw [Bool.and_eq_true, decide_eq_true_eq, decide_eq_true_eq] at h
  exact Bg.cdiv64 h.1 h.2) fun _ _ _ _ => .int _
theorem os_mod : OpS K (rI (fun _ j => 0 < j) fun i j => .int (i % j)) gMod := os_Ic (fun i j h => of_decide_eq_true h) fun _ _ _ _ => .int _
theorem bPow_ok {i j : Int} (h : bPow i j = true) : CPow i j := by
  unfold bPow at h
  rw [Bool.and_eq_true, Bool.and_eq_true, decide_eq_true_eq, decide_eq_true_eq, decide_eq_true_eq] at h
  exact ⟨h.1.1, h.1.2, h.2⟩
theorem os_pow : OpS K (rI CPow fun i j => .int (i ^ j.toNat)) gPow := os_Ic (fun i j h => bPow_ok h) fun _ _ _ _ => .int _
theorem os_shl : OpS K (rI CPow fun i j => .int (i * 2 ^ j.toNat)) gShl := os_Ic (fun i j h => bPow_ok h) fun _ _ _ _ => .int _
theorem os_shr : OpS K (rI (fun _ j => 0 ≤ j) fun i j => .int (i / 2 ^ j.toNat)) gShr := os_Ic (fun i j h => of_decide_eq_true h) fun _ _ _ _ => .int _
theorem new_lst {α : List Addr} {H : Hp} {M : Addr → Prop} {p : Addr} {vs : List V} {ds : List D} (l : ∀ a, M a → H a ≠ none) (np : H p = none) (h : DRs K α (lim H M) vs ds) : DR K α (lim (upd H p (.lst vs)) M) (.ref p) (.lst ds) :=
  .lst (.inl (.inl (lim_new l np))) (h.mono (lim_mono (Bg.same_new np)) (List.prefix_refl _))
theorem new_tup {α : List Addr} {H : Hp} {M : Addr → Prop} {p : Addr} {vs : List V} {ds : List D} (l : ∀ a, M a → H a ≠ none) (np : H p = none) (h : DRs K α (lim H M) vs ds) : DR K α (lim (upd H p (.tup vs)) M) (.ref p) (.tup ds) :=
  .tup (.inl (.inl (lim_new l np))) (h.mono (lim_mono (Bg.same_new np)) (List.prefix_refl _))
theorem szl {n : Nat} (h : n ≤ 16777216) : n ≤ sizeLine := h
theorem os_add : OpS K (rAddA K) gAdd := by
  intro α M x y H Q d1 d2 d3 l r1 r2 e q
  unfold gAdd at e
  split at e
  · cases r1; cases r2; cases e
    exact .inl ⟨_, _, rfl, rfl, q _ H (Same.refl H) (.int _)⟩
  · cases r1; cases r2
    split at e
    · rename_i c
      cases e
      exact .inr (.inl ⟨_, _, rfl, rfl, szl c, q _ H (Same.refl H) (.str _)⟩)
    · cases e
  · cases r1 with
    | tup a1 b1 =>
      cases r2 with
      | tup a2 b2 =>
        split at e
        · rename_i c
          cases e
          refine .inr (.inr (.inl ⟨_, _, _, _, rfl, rfl, sqT_lim a1, sqT_lim a2, by rw [b1.len, b2.len]; exact szl c, fun z => ?_, fun _ z => ?_, fun _ _ p np => q _ _ (Bg.same_new np) (new_tup l np (b1.append b2))⟩))
          · subst z; cases b1; exact q _ H (Same.refl H) (.tup a2 b2)
          · subst z; cases b2; rw [List.append_nil] at q; exact q _ H (Same.refl H) (.tup a1 b1)
        · cases e
  · cases r1 with
    | lst a1 b1 =>
      cases r2 with
      | lst a2 b2 =>
        split at e
        · rename_i c
          cases e
          refine .inr (.inr (.inr ⟨_, _, _, _, rfl, rfl, sqL_lim a1, sqL_lim a2, by rw [b1.len, b2.len]; exact szl c, fun p np => q _ _ (Bg.same_new np) (new_lst l np (b1.append b2))⟩))
        · cases e
  · cases e
theorem deep_ok {α : List Addr} {M : Addr → Prop} {H : Hp} {x y : V} {d1 d2 : D} {c : Bool} (r1 : DR K α (lim H M) x d1) (r2 : DR K α (lim H M) y d2) (e : deepEq d1 d2 = some c) : ∃ p q, Dp K H x p ∧ Dp K H y q ∧ SeqAt.shaped p = true ∧ SeqAt.shaped q = true ∧ PyData.eqv p q = c := by
  obtain ⟨p1, e1, e⟩ := opt_bind e
  obtain ⟨p2, e2, e⟩ := opt_bind e
  split at e
  · rename_i c
    cases e
    rw [Bool.and_eq_true] at c
    exact ⟨p1, p2, r1.dp e1, r2.dp e2, c.1, c.2, rfl⟩
  · cases e
theorem eqB_ok {α : List Addr} {M : Addr → Prop} {H : Hp} {x y : V} {d1 d2 : D} {c : Bool} (r1 : DR K α (lim H M) x d1) (r2 : DR K α (lim H M) y d2) (e : eqB d1 d2 = some c) : (scal x y = true ∧ decide (x = y) = c) ∨ ∃ p q, Dp K H x p ∧ Dp K H y q ∧ SeqAt.shaped p = true ∧ SeqAt.shaped q = true ∧ PyData.eqv p q = c := by
  unfold eqB at e
  split at e
  · cases r1; cases r2; cases e
    exact .inl ⟨rfl, by simp⟩
  · cases r1; cases r2; cases e
    exact .inl ⟨rfl, by simp⟩
  · cases r1; cases r2; cases e
    exact .inl ⟨rfl, by simp⟩
  · exact .inr (deep_ok r1 r2 e)
theorem os_eq : OpS K (rOr rEq (rEqD K)) gEq := by
  intro α M x y H Q d1 d2 d3 l r1 r2 e q
  obtain ⟨c, e1, rfl⟩ := opt_map e
  rcases eqB_ok r1 r2 e1 with ⟨s, h⟩ | ⟨p1, p2, h1, h2, h3, h4, h5⟩
  · exact .inl ⟨s, by rw [h]; exact q _ H (Same.refl H) (.bl _)⟩
  · exact .inr ⟨p1, p2, h1, h2, h3, h4, by rw [h5]; exact q _ H (Same.refl H) (.bl _)⟩
theorem os_ne : OpS K (rOr rNe (rNeD K)) gNe := by
  intro α M x y H Q d1 d2 d3 l r1 r2 e q
  obtain ⟨c, e1, rfl⟩ := opt_map e
  rcases eqB_ok r1 r2 e1 with ⟨s, h⟩ | ⟨p1, p2, h1, h2, h3, h4, h5⟩
  · exact .inl ⟨s, by rw [h]; exact q _ H (Same.refl H) (.bl _)⟩
  · exact .inr ⟨p1, p2, h1, h2, h3, h4, by rw [h5]; exact q _ H (Same.refl H) (.bl _)⟩
theorem isN_ok {α : List Addr} {H : Hp} {x : V} {d : D} {b : Bool} (r : DR K α H x d) (e : d.isN = some b) : decide (x = .non) = b := by
  cases r <;> cases e <;> rfl
theorem os_isN : OpS K (fun x y H Q => y = .non ∧ Q (.bl (decide (x = .non))) H) gIsN := by
  intro α M x y H Q d1 d2 d3 l r1 r2 e q
  unfold gIsN at e
  split at e
  · obtain ⟨b, e1, rfl⟩ := opt_map e
    cases r2
    rw [isN_ok r1 e1]
    exact ⟨rfl, q _ H (Same.refl H) (.bl _)⟩
  · cases e
theorem os_notN : OpS K (fun x y H Q => y = .non ∧ Q (.bl (!decide (x = .non))) H) gNotN := by
  intro α M x y H Q d1 d2 d3 l r1 r2 e q
  unfold gNotN at e
  split at e
  · obtain ⟨b, e1, rfl⟩ := opt_map e
    cases r2
    rw [isN_ok r1 e1]
    exact ⟨rfl, q _ H (Same.refl H) (.bl _)⟩
  · cases e
end
end Dl

set_option Elab.async false
set_option linter.all false
set_option maxRecDepth 100000
set_option maxHeartbeats 4000000
namespace Dl
open PySem PySem.Spec PyProof.Rows L2
/-! ### subscripts, slices -/
def gIx : D → D → Option D
  | .lst ds, .int i => atI ds i
  | .tup ds, .int i => atI ds i
  | .str z, .int i => if z.length ≤ 16777216 then (atI z.cps.toList i).map fun c => .str ⟨#[c]⟩ else none
  | _, _ => none
def rIxA (K : PySem.W.Frag) : R2 := rOr (rIxL K) (rOr (rIxT K) rIxS)
theorem ix_any {X : Cx} : IxR X (rIxA X.K) := ix_or2 ix_list (ix_or2 ix_tup ix_str)
section
variable {K : PySem.W.Frag}
theorem atI_dr {α : List Addr} {H : Hp} {vs : List V} {ds : List D} {i : Int} {d : D} (h : DRs K α H vs ds) (e : atI ds i = some d) : ∃ v, atI vs i = some v ∧ DR K α H v d := by
  unfold atI at e ⊢
  rw [h.len]
  obtain ⟨j, e1, e2⟩ := opt_bind e
  obtain ⟨v, q1, q2⟩ := h.get e2
  exact ⟨v, by rw [e1]; exact q1, q2⟩
theorem os_ix : OpS K (rIxA K) gIx := by
  intro α M x y H Q d1 d2 d3 l r1 r2 e q
  unfold gIx at e
  split at e
  · cases r1 with
    | lst a b =>
      cases r2
      obtain ⟨v, q1, q2⟩ := atI_dr b e
      exact .inl ⟨_, _, _, v, rfl, rfl, sqL_lim a, q1, q v H (Same.refl H) q2⟩
  · cases r1 with
    | tup a b =>
      cases r2
      obtain ⟨v, q1, q2⟩ := atI_dr b e
      exact .inr (.inl ⟨_, _, _, v, rfl, rfl, sqT_lim a, q1, q v H (Same.refl H) q2⟩)
  · cases r1
    cases r2
    split at e
    · rename_i c
      obtain ⟨w, e1, rfl⟩ := opt_map e
      exact .inr (.inr ⟨_, _, w, rfl, rfl, szl c, e1, q _ H (Same.refl H) (.str _)⟩)
    · cases e
  · cases e
end
abbrev DOp := Sx → Option (Option Int × Sx)
def oNo : DOp := fun S => some (none, S)
def oSo (a : DE) : DOp := fun S => (a S).bind fun p => match p.1 with
  | .int i => some (some i, p.2)
  | _ => none
def cutL {α : Type} (xs : List α) (lo hi : Option Int) : List α := (xs.drop (HT.sIx xs.length 0 lo)).take (HT.sIx xs.length xs.length hi - HT.sIx xs.length 0 lo)
def gSl : D → Option Int → Option Int → Option D
  | .lst ds, lo, hi => some (.lst (cutL ds lo hi))
  | .tup ds, lo, hi => some (.tup (cutL ds lo hi))
  | .str z, lo, hi => if z.length ≤ 16777216 then some (.str (cutS z lo hi)) else none
  | _, _, _ => none
def eSl (a : DE) (lo hi : DOp) : DE := fun S => (a S).bind fun p => (lo p.2).bind fun q => (hi q.2).bind fun r => (gSl p.1 q.1 r.1).map fun z => (z, r.2)
def RefO (K : PySem.W.Frag) (to : TO) (f : DOp) : Prop := ∀ (N : Addr → Prop) (H0 : Hp) (α0 α : List Addr) (σ : L2.St) (H : Hp) (S : Sx) (d : Option Int) (S' : Sx) (Q : Option Int → Hp → Prop),
  SR K N H0 α0 α σ H S → f S = some (d, S') →
  (∀ α' H', SR K N H0 α0 α' σ H' S' → Gr α H S α' H' S' → Q d H') → to σ H Q
def toOf (K : PySem.W.Frag) (f : DOp) : TO := fun σ H Q => ∃ (N : Addr → Prop) (H0 : Hp) (α0 α : List Addr) (S : Sx) (d : Option Int) (S' : Sx), SR K N H0 α0 α σ H S ∧ f S = some (d, S') ∧
  ∀ α' H', SR K N H0 α0 α' σ H' S' → Gr α H S α' H' S' → Q d H'
def JO (X : Cx) (e : Option Expr) (f : DOp) : Prop := PO X e (toOf X.K f)
theorem JO.of {X : Cx} {e : Option Expr} {to : TO} {f : DOp} (h : PO X e to) (r : RefO X.K to f) : JO X e f := ⟨fun pins s σ H Q I ⟨N, H0, α0, α, S, d, S', R, e, q⟩ => h.run pins s σ H Q I (r N H0 α0 α σ H S d S' Q R e q)⟩
theorem JO.pe {X : Cx} {e : Option Expr} {f : DOp} (h : JO X e f) : PO X e (toOf X.K f) := h
theorem JO.rf {X : Cx} {e : Option Expr} {f : DOp} (h : JO X e f) : RefO X.K (toOf X.K f) f := fun N H0 α0 α σ H S d S' Q R e q => ⟨N, H0, α0, α, S, d, S', R, e, q⟩
abbrev SlRd := V → Option Int → Option Int → Hp → VK → Prop
def rSlAny (K : PySem.W.Frag) : SlRd := fun x l h H Q => rSlL K x l h H Q ∨ rSlA K x l h H Q ∨ rSlS x l h H Q
theorem sl_any {X : Cx} : SlR X (rSlAny X.K) := fun pins s σ H x v vl vu lo hi sl Q I rx hs pl pu h => by
  rcases h with h | h | h
  · exact sl_list pins s σ H x v vl vu lo hi sl Q I rx hs pl pu h
  · exact sl_tupA pins s σ H x v vl vu lo hi sl Q I rx hs pl pu h
  · exact sl_str pins s σ H x v vl vu lo hi sl Q I rx hs pl pu h
section
variable {K : PySem.W.Frag} {ta : TE} {fa : DE} {tl th : TO} {fl fh : DOp}
theorem rf_oNo : RefO K tNoPart oNo := by
  intro N H0 α0 α σ H S d S' Q R e q
  cases e
  exact q α H R .refl
theorem rf_oSo (ha : RefE K ta fa) : RefO K (tPart ta) (oSo fa) := by
  intro N H0 α0 α σ H S d S' Q R e q
  obtain ⟨⟨x, S1⟩, e1, e⟩ := opt_bind e
  refine ha N H0 α0 α σ H S x S1 _ R e1 fun v α1 H1 R1 g1 d1 => ?_
  cases x <;> first
    | (cases e; cases d1; exact ⟨_, rfl, q α1 H1 R1 g1⟩)
    | cases e
theorem cut_dr {α : List Addr} {H : Hp} {vs : List V} {ds : List D} {lo hi : Option Int} (h : DRs K α H vs ds) : DRs K α H (cutV vs lo hi) (cutL ds lo hi) := by
  unfold cutV cutL
  rw [h.len]
  exact (h.drop _).take _
theorem cut_all {α : Type} {xs : List α} {lo hi : Option Int} (h : HT.sIx xs.length 0 lo = 0 ∧ HT.sIx xs.length xs.length hi = xs.length) : cutL xs lo hi = xs := by
  unfold cutL
  rw [h.1, h.2]
  simp
theorem rf_sl (ha : RefE K ta fa) (hl : RefO K tl fl) (hh : RefO K th fh) : RefE K (tSl (rSlAny K) ta tl th) (eSl fa fl fh) := by
  intro N H0 α0 α σ H S d S' Q R e q
  obtain ⟨⟨x, S1⟩, e1, e⟩ := opt_bind e
  obtain ⟨⟨lo, S2⟩, e2, e⟩ := opt_bind e
  obtain ⟨⟨hi, S3⟩, e3, e⟩ := opt_bind e
  obtain ⟨z, e4, e⟩ := opt_map e
  cases e
  refine ha N H0 α0 α σ H S x S1 _ R e1 fun v α1 H1 R1 g1 d1 => ?_
  refine hl N H0 α0 α1 σ H1 S1 lo S2 _ R1 e2 fun α2 H2 R2 g2 => ?_
  refine hh N H0 α0 α2 σ H2 S2 hi _ _ R2 e3 fun α3 H3 R3 g3 => ?_
  have d3 := (g2.trans g3).dr d1
  have go : ∀ v H', Same H3 H' → DR K α3 (lim H' (Mx N α3 _ σ)) v d → Q v H' := fun v H' s dr => q v α3 H' (R3.same s) (((g1.trans g2).trans g3).trans (.of_same s)) dr
  cases x with
  | lst ds =>
    cases e4
    cases d3 with
    | lst a b => exact .inl ⟨_, _, rfl, sqL_lim a, fun p np => go _ _ (Bg.same_new np) (new_lst R3.mlive np (cut_dr b))⟩
  | tup ds =>
    cases e4
    cases d3 with
    | tup a b =>
      refine .inr (.inl ⟨_, _, rfl, sqT_lim a, fun z => ?_, fun _ p np => go _ _ (Bg.same_new np) (new_tup R3.mlive np (cut_dr b))⟩)
      rw [b.len] at z
      have := cut_all z
      rw [this] at go
      exact go _ H3 (Same.refl _) (.tup a b)
  | str z =>
    unfold gSl at e4
    simp only at e4
    split at e4
    · rename_i c
      cases e4
      cases d3
      exact .inr (.inr ⟨_, rfl, szl c, go _ H3 (Same.refl _) (.str _)⟩)
    · cases e4
  | non => cases e4
  | bl b => cases e4
  | int i => cases e4
  | obj n => cases e4
  | con v => cases e4
  | dct ks ds => cases e4
end
/-! ### calls of built-ins -/
abbrev CRd := List V → Hp → VK → Prop
def cOr (r r' : CRd) : CRd := fun xs H Q => r xs H Q ∨ r' xs H Q
theorem call_or2 {X : Cx} {f : Value} {r r' : CRd} (h : CallR X f r) (h' : CallR X f r') : CallR X f (cOr r r') :=
  fun pins s σ H xs us Q I rx q => q.elim (h pins s σ H xs us Q I rx) (h' pins s σ H xs us Q I rx)
abbrev rLenQ (K : PySem.W.Frag) : CRd := fun xs H Q => ∃ p ys, xs = [.ref p] ∧ (SqL K H p ys ∨ SqT K H p ys) ∧ Q (.int ys.length) H
abbrev rLenS : CRd := fun xs H Q => ∃ z, xs = [.str z] ∧ z.length ≤ sizeLine ∧ Q (.int z.length) H
def rLenA (K : PySem.W.Frag) : CRd := cOr (rLenQ K) rLenS
theorem call_lenA {X : Cx} : CallR X (.builtin "len") (rLenA X.K) := call_or2 call_len_seq call_len_str
def gLen : List D → Option D
  | [.lst ds] => some (.int ds.length)
  | [.tup ds] => some (.int ds.length)
  | [.str z] => if z.length ≤ 16777216 then some (.int z.length) else none
  | _ => none
abbrev rAbs : CRd := fun xs H Q => ∃ i, xs = [.int i] ∧ Q (.int (if i < 0 then -i else i)) H
def gAbs : List D → Option D
  | [.int i] => some (.int (if i < 0 then -i else i))
  | _ => none
abbrev rMax2 : CRd := fun xs H Q => ∃ i j, xs = [.int i, .int j] ∧ Q (.int (if j > i then j else i)) H
abbrev rMin2 : CRd := fun xs H Q => ∃ i j, xs = [.int i, .int j] ∧ Q (.int (if j < i then j else i)) H
def intL : List D → Option (List Int)
  | [] => some []
  | .int i :: ds => (intL ds).map (i :: ·)
  | _ => none
def maxI : List Int → Int
  | [] => 0
  | [i] => i
  | i :: is => if maxI is > i then maxI is else i
def minI : List Int → Int
  | [] => 0
  | [i] => i
  | i :: is => if minI is < i then minI is else i
def gMax : List D → Option D
  | [.int i, .int j] => some (.int (if j > i then j else i))
  | [.lst ds] => (intL ds).bind fun ns => if ns.isEmpty then none else some (.int (maxI ns))
  | _ => none
def gMin : List D → Option D
  | [.int i, .int j] => some (.int (if j < i then j else i))
  | [.lst ds] => (intL ds).bind fun ns => if ns.isEmpty then none else some (.int (minI ns))
  | _ => none
abbrev rInt1 : CRd := fun xs H Q => (∃ i, xs = [.int i] ∧ Q (.int i) H) ∨ ∃ k, xs = [.bl k] ∧ Q (.int (if k then 1 else 0)) H
def gInt : List D → Option D
  | [.int i] => some (.int i)
  | [.bl b] => some (.int (if b then 1 else 0))
  | _ => none
def gSum : List D → Option D
  | [.lst ds] => (intL ds).map fun ns => .int ns.sum
  | _ => none
abbrev rListOf (K : PySem.W.Frag) : CRd := fun xs H Q => ∃ p ys, xs = [.ref p] ∧ (SqL K H p ys ∨ SqT K H p ys) ∧ ∀ l, H l = none → Q (.ref l) (upd H l (.lst ys))
abbrev rTupOf (K : PySem.W.Frag) : CRd := fun xs H Q => ∃ p ys, xs = [.ref p] ∧ ((SqL K H p ys ∧ ∀ l, H l = none → Q (.ref l) (upd H l (.tup ys))) ∨ (SqT K H p ys ∧ Q (.ref p) H))
def gList : List D → Option D
  | [.lst ds] => some (.lst ds)
  | [.tup ds] => some (.lst ds)
  | _ => none
def gTuple : List D → Option D
  | [.lst ds] => some (.tup ds)
  | [.tup ds] => some (.tup ds)
  | _ => none
section
variable {K : PySem.W.Frag} {α : List Addr} {H : Hp} {M : Addr → Prop}
theorem cs_len : CallS K (rLenA K) gLen := by
  intro α M xs H Q ds d3 l r e q
  unfold gLen at e
  split at e
  · cases e
    cases r with
    | cons r1 r2 =>
      cases r2
      cases r1 with
      | lst a b => exact .inl ⟨_, _, rfl, .inl (sqL_lim a), q _ H (Same.refl H) (by rw [b.len]; exact .int _)⟩
  · cases e
    cases r with
    | cons r1 r2 =>
      cases r2
      cases r1 with
      | tup a b => exact .inl ⟨_, _, rfl, .inr (sqT_lim a), q _ H (Same.refl H) (by rw [b.len]; exact .int _)⟩
  · split at e
    · rename_i c
      cases e
      cases r with
      | cons r1 r2 =>
        cases r2
        cases r1
        exact .inr ⟨_, rfl, szl c, q _ H (Same.refl H) (.int _)⟩
    · cases e
  · cases e
theorem cs_abs : CallS K rAbs gAbs := by
  intro α M xs H Q ds d3 l r e q
  unfold gAbs at e
  split at e
  · cases e
    cases r with
    | cons r1 r2 => cases r2; cases r1; exact ⟨_, rfl, q _ H (Same.refl H) (.int _)⟩
  · cases e
theorem ints_ok {vs : List V} {ds : List D} {ns : List Int} (h : DRs K α H vs ds) (e : intL ds = some ns) : vs = ns.map V.int := by
  induction ds generalizing vs ns with
  | nil => cases h; cases e; rfl
  | cons d ds ih =>
    cases h with
    | cons a b =>
      cases d <;> first
        | (obtain ⟨ms, e1, rfl⟩ := opt_map e; cases a; rw [ih b e1]; rfl)
        | cases e
theorem maxI_eq : ∀ {ns : List Int} {m : Int}, m ∈ ns → (∀ y, y ∈ ns → y ≤ m) → m = maxI ns
  | [], _, h, _ => by cases h
  | [i], m, h, g => by have e : m = i := by simpa using h
                       subst e; rfl
  | i :: j :: ns, m, h, g => by
    have hj : maxI (j :: ns) ∈ (j :: ns) := mem (j :: ns) (by simp)
    have h1 := g (maxI (j :: ns)) (List.mem_cons_of_mem _ hj)
    have h2 := g i List.mem_cons_self
    show m = if maxI (j :: ns) > i then maxI (j :: ns) else i
    have h3 : m = i ∨ m ≤ maxI (j :: ns) := by
      rcases List.mem_cons.mp h with h | h
      · exact .inl h
      · exact .inr (le (j :: ns) m h)
    split <;> omega
where
  mem : ∀ (ns : List Int), ns ≠ [] → maxI ns ∈ ns
    | [], h => absurd rfl h
    | [i], _ => by simp [maxI]
    | i :: j :: ns, _ => by
      have := mem (j :: ns) (by simp)
      show (if maxI (j :: ns) > i then maxI (j :: ns) else i) ∈ i :: j :: ns
      split
      · exact List.mem_cons_of_mem _ this
      · exact List.mem_cons_self
  le : ∀ (ns : List Int) (m : Int), m ∈ ns → m ≤ maxI ns
    | [], _, h => by cases h
    | [i], m, h => by have : m = i := by simpa using h
                      subst this; exact Int.le_refl _
    | i :: j :: ns, m, h => by
      show m ≤ if maxI (j :: ns) > i then maxI (j :: ns) else i
      rcases List.mem_cons.mp h with h | h
      · split <;> omega
      · have := le (j :: ns) m h
        split <;> omega
theorem minI_eq : ∀ {ns : List Int} {m : Int}, m ∈ ns → (∀ y, y ∈ ns → m ≤ y) → m = minI ns
  | [], _, h, _ => by cases h
  | [i], m, h, g => by have e : m = i := by simpa using h
                       subst e; rfl
  | i :: j :: ns, m, h, g => by
    have hj : minI (j :: ns) ∈ (j :: ns) := mem (j :: ns) (by simp)
    have h1 := g (minI (j :: ns)) (List.mem_cons_of_mem _ hj)
    have h2 := g i List.mem_cons_self
    show m = if minI (j :: ns) < i then minI (j :: ns) else i
    have h3 : m = i ∨ minI (j :: ns) ≤ m := by
      rcases List.mem_cons.mp h with h | h
      · exact .inl h
      · exact .inr (le (j :: ns) m h)
    split <;> omega
where
  mem : ∀ (ns : List Int), ns ≠ [] → minI ns ∈ ns
    | [], h => absurd rfl h
    | [i], _ => by simp [minI]
    | i :: j :: ns, _ => by
      have := mem (j :: ns) (by simp)
      show (if minI (j :: ns) < i then minI (j :: ns) else i) ∈ i :: j :: ns
      split
      · exact List.mem_cons_of_mem _ this
      · exact List.mem_cons_self
  le : ∀ (ns : List Int) (m : Int), m ∈ ns → minI ns ≤ m
    | [], _, h => by cases h
    | [i], m, h => by have : m = i := by simpa using h
                      subst this; exact Int.le_refl _
    | i :: j :: ns, m, h => by
      show (if minI (j :: ns) < i then minI (j :: ns) else i) ≤ m
      rcases List.mem_cons.mp h with h | h
      · split <;> omega
      · have := le (j :: ns) m h
        split <;> omega
theorem cs_max : CallS K (cOr rMax2 (rMax K)) gMax := by
  intro α M xs H Q ds d3 l r e q
  unfold gMax at e
  split at e
  · cases e
    cases r with
    | cons r1 r2 =>
      cases r2 with
      | cons r3 r4 => cases r4; cases r1; cases r3; exact .inl ⟨_, _, rfl, q _ H (Same.refl H) (.int _)⟩
  · obtain ⟨ns, e1, e⟩ := opt_bind e
    split at e
    · cases e
    · rename_i c
      cases e
      cases r with
      | cons r1 r2 =>
        cases r2
        cases r1 with
        | lst a b =>
          rw [ints_ok b e1] at a
          refine .inr ⟨_, ns, rfl, sqL_lim a, ?_, fun m m1 m2 => ?_⟩
          · cases ns with
            | nil => exact absurd rfl c
            | cons _ _ => simp
          · rw [maxI_eq m1 m2]; exact q _ H (Same.refl H) (.int _)
  · cases e
theorem cs_min : CallS K (cOr rMin2 (rMin K)) gMin := by
  intro α M xs H Q ds d3 l r e q
  unfold gMin at e
  split at e
  · cases e
    cases r with
    | cons r1 r2 =>
      cases r2 with
      | cons r3 r4 => cases r4; cases r1; cases r3; exact .inl ⟨_, _, rfl, q _ H (Same.refl H) (.int _)⟩
  · obtain ⟨ns, e1, e⟩ := opt_bind e
    split at e
    · cases e
    · rename_i c
      cases e
      cases r with
      | cons r1 r2 =>
        cases r2
        cases r1 with
        | lst a b =>
          rw [ints_ok b e1] at a
          refine .inr ⟨_, ns, rfl, sqL_lim a, ?_, fun m m1 m2 => ?_⟩
          · cases ns with
            | nil => exact absurd rfl c
            | cons _ _ => simp
          · rw [minI_eq m1 m2]; exact q _ H (Same.refl H) (.int _)
  · cases e
theorem cs_int : CallS K rInt1 gInt := by
  intro α M xs H Q ds d3 l r e q
  unfold gInt at e
  split at e
  · cases e
    cases r with
    | cons r1 r2 => cases r2; cases r1; exact .inl ⟨_, rfl, q _ H (Same.refl H) (.int _)⟩
  · cases e
    cases r with
    | cons r1 r2 => cases r2; cases r1; exact .inr ⟨_, rfl, q _ H (Same.refl H) (.int _)⟩
  · cases e
theorem cs_sum : CallS K (rSum K) gSum := by
  intro α M xs H Q ds d3 l r e q
  unfold gSum at e
  split at e
  · obtain ⟨ns, e1, rfl⟩ := opt_map e
    cases r with
    | cons r1 r2 =>
      cases r2
      cases r1 with
      | lst a b =>
        rw [ints_ok b e1] at a
        exact ⟨_, ns, rfl, sqL_lim a, q _ H (Same.refl H) (.int _)⟩
  · cases e
theorem cs_list : CallS K (rListOf K) gList := by
  intro α M xs H Q ds d3 l r e q
  unfold gList at e
  split at e
  · cases e
    cases r with
    | cons r1 r2 =>
      cases r2
      cases r1 with
      | lst a b => exact ⟨_, _, rfl, .inl (sqL_lim a), fun p np => q _ _ (Bg.same_new np) (new_lst l np b)⟩
  · cases e
    cases r with
    | cons r1 r2 =>
      cases r2
      cases r1 with
      | tup a b => exact ⟨_, _, rfl, .inr (sqT_lim a), fun p np => q _ _ (Bg.same_new np) (new_lst l np b)⟩
  · cases e
theorem cs_tuple : CallS K (rTupOf K) gTuple := by
  intro α M xs H Q ds d3 l r e q
  unfold gTuple at e
  split at e
  · cases e
    cases r with
    | cons r1 r2 =>
      cases r2
      cases r1 with
      | lst a b => exact ⟨_, _, rfl, .inl ⟨sqL_lim a, fun p np => q _ _ (Bg.same_new np) (new_tup l np b)⟩⟩
  · cases e
    cases r with
    | cons r1 r2 =>
      cases r2
      cases r1 with
      | tup a b => exact ⟨_, _, rfl, .inr ⟨sqT_lim a, q _ H (Same.refl H) (.tup a b)⟩⟩
  · cases e
end
end Dl

set_option Elab.async false
set_option linter.all false
set_option maxRecDepth 100000
set_option maxHeartbeats 4000000
namespace Dl
open PySem PySem.Spec PyProof.Rows L2
/-! ### statements on data -/
def Sx.put (S : Sx) (i : Nat) (x : Slot) : Sx := { S with env := S.env.set i x }
def gN (i : Nat) : DG := fun d S => if i < S.env.length then some (S.put i (.val d)) else none
def gs0 : List D → Sx → Option Sx
  | [], S => some S
  | _ :: _, _ => none
def gsC (g : DG) (r : List D → Sx → Option Sx) : List D → Sx → Option Sx
  | d :: ds, S => (g d S).bind fun S1 => r ds S1
  | [], _ => none
def gT (r : List D → Sx → Option Sx) : DG := fun d S => match d with
  | .tup ds => r ds S
  | .lst ds => r ds S
  | _ => none
def sAsg (e : DE) (g : DG) : DS := fun S => (e S).bind fun p => (g p.1 p.2).map fun S' => (.nx, S')
def sSet (i : Nat) (e : DE) : DS := sAsg e (gN i)
def sNil : DS := fun S => some (.nx, S)
def sSeq (a b : DS) : DS := fun S => (a S).bind fun p => match p.1 with
  | .nx => b p.2
  | _ => some p
def sRet (e : DE) : DS := fun S => (e S).map fun p => (.ret p.1, p.2)
def sRetN : DS := fun S => some (.ret .non, S)
def sEx (e : DE) : DS := fun S => (e S).map fun p => (.nx, p.2)
def sIf (c : DT) (a b : DS) : DS := fun S => (c S).bind fun p => if p.1 = true then a p.2 else b p.2
def whileF (c : DT) (b : DS) : Nat → DS
  | 0 => fun _ => none
  | n + 1 => fun S => (c S).bind fun p => if p.1 = true then (b p.2).bind fun q => match q.1 with
      | .nx => whileF c b n q.2
      | .cont => whileF c b n q.2
      | .brk => some (.nx, q.2)
      | .ret d => some (.ret d, q.2)
    else some (.nx, p.2)
def fuel : Nat := 18446744073709551616
def sWhile (c : DT) (b : DS) : DS := whileF c b fuel
abbrev DI := Sx → Option (List D × Sx)
def forF (g : DG) (b : DS) : List D → DS
  | [] => fun S => some (.nx, S)
  | x :: xs => fun S => (g x S).bind fun S1 => (b S1).bind fun q => match q.1 with
      | .nx => forF g b xs q.2
      | .cont => forF g b xs q.2
      | .brk => some (.nx, q.2)
      | .ret d => some (.ret d, q.2)
def sFor (it : DI) (g : DG) (b : DS) : DS := fun S => (it S).bind fun p => forF g b p.1 p.2
section
variable {K : PySem.W.Frag} {N : Addr → Prop} {H0 H H' : Hp} {α0 α α' : List Addr} {σ : L2.St} {S S' : Sx} {v : V} {d : D}
theorem put_own {S : Sx} {i j : Nat} {d : D} {ds : List D} (e : (S.put i (.val d)).env[j]? = some (.own ds)) : S.env[j]? = some (.own ds) ∧ i ≠ j := env_set_ne e
theorem Owned.put {i : Nat} {v : V} {a : Addr} (h : Owned (S.put i (.val d)) (σ.set i (some v)) a) : Owned S σ a := by
  obtain ⟨j, ds, e, q⟩ := h
  obtain ⟨e1, e2⟩ := put_own e
  rw [List.getElem?_set_ne e2] at q
  exact ⟨j, ds, e1, q⟩
theorem put_same {i : Nat} (h : True) : Same (lim H (Mx N α S σ)) (lim H (Mx N α (S.put i (.val d)) (σ.set i (some v)))) :=
  lim_keep (fun _ _ _ e => e) fun a m _ => m.imp id fun z => z.imp id Owned.put
theorem SR.put {i : Nat} (R : SR K N H0 α0 α σ H S) (dr : DR K α (lim H (Mx N α S σ)) v d) (hi : i < S.env.length) : SR K N H0 α0 α (σ.set i (some v)) H (S.put i (.val d)) := by
  have sm : Same (lim H (Mx N α S σ)) (lim H (Mx N α (S.put i (.val d)) (σ.set i (some v)))) := put_same trivial
  refine ⟨R.pre, ?_, R.nd, R.live, R.na, fun b h => R.on b h.put, fun j k es fs b z1 z2 z3 z4 => ?_, fun j x z => ?_, ⟨R.sto.len, fun n o z => ?_⟩, R.keep, fun b h => R.fresh b h.put, R.fral, R.frz⟩
  · show (S.env.set i _).length = _
    rw [List.length_set, List.length_set]; exact R.len
  · obtain ⟨y1, y2⟩ := put_own z1
    obtain ⟨y3, y4⟩ := put_own z2
    rw [List.getElem?_set_ne y2] at z3
    rw [List.getElem?_set_ne y4] at z4
    exact R.uniq j k es fs b y1 y3 z3 z4
  · have z' : (S.env.set i (.val d))[j]? = some x := z
    by_cases c : i = j
    · subst c
      rw [List.getElem?_set_self hi] at z'
      cases z'
      refine ⟨v, ?_, dr.mono sm (List.prefix_refl _)⟩
      rw [List.getElem?_set_self (by rw [← R.len]; exact hi)]
    · rw [List.getElem?_set_ne c] at z'
      rw [List.getElem?_set_ne c]
      exact (R.slot j x z').mono (fun a u _ _ h => h) sm (List.prefix_refl _)
  · obtain ⟨b, y1, y2⟩ := R.sto.at_ n o z
    exact ⟨b, y1, y2.mono (fun _ h => h) sm (List.prefix_refl _)⟩
variable {ta : TE} {fa : DE} {tt : TT} {ft : DT} {t1 t2 : TS} {f1 f2 : DS} {tg : TG} {fg : DG}
theorem Wr.set {i : Nat} {v : V} : Wr [i] σ (σ.set i (some v)) := ⟨List.length_set, fun j h => List.getElem?_set_ne fun z => h (by rw [z]; exact List.mem_singleton.mpr rfl)⟩
theorem Wr.refl : Wr [] σ σ := ⟨rfl, fun _ _ => rfl⟩
theorem Wr.trans {ws ws' : List Nat} {σ' σ'' : L2.St} (a : Wr ws σ σ') (b : Wr ws' σ' σ'') : Wr (ws ++ ws') σ σ'' :=
  ⟨b.1.trans a.1, fun j h => (b.2 j fun z => h (List.mem_append_right _ z)).trans (a.2 j fun z => h (List.mem_append_left _ z))⟩
theorem rf_gN {i : Nat} : RefG K [i] (gName i) (gN i) := by
  intro N H0 α0 α σ H S d v S' Rr R dr e q
  unfold gN at e
  split at e
  · rename_i hi
    cases e
    exact q _ α H (R.put dr hi) ⟨List.prefix_refl _, fun a h n => absurd h n, fun _ _ _ e => e, fun j ds e => (put_own e).1, fun _ _ _ e => e⟩ (put_same trivial) .set
  · cases e
def RefGs (K : PySem.W.Frag) (ws : List Nat) (tg : TGs) (g : List D → Sx → Option Sx) : Prop := ∀ (N : Addr → Prop) (H0 : Hp) (α0 α : List Addr) (σ : L2.St) (H : Hp) (S : Sx) (ds : List D) (vs : List V) (S' : Sx) (R : L2.St → Hp → Prop),
  SR K N H0 α0 α σ H S → DRs K α (lim H (Mx N α S σ)) vs ds → g ds S = some S' →
  (∀ σ' α' H', SR K N H0 α0 α' σ' H' S' → Gr α H S α' H' S' → Same (lim H (Mx N α S σ)) (lim H' (Mx N α' S' σ')) → Wr ws σ σ' → R σ' H') → tg vs σ H R
theorem rf_gs0 : RefGs K [] gNil gs0 := by
  intro N H0 α0 α σ H S ds vs S' Rr R dr e q
  cases dr with
  | nil => cases e; exact ⟨rfl, q σ α H R .refl (Same.refl _) .refl⟩
  | cons a b => cases e
theorem rf_gsC {ws ws' : List Nat} {tgs : TGs} {fgs : List D → Sx → Option Sx} (h1 : RefG K ws tg fg) (h2 : RefGs K ws' tgs fgs) : RefGs K (ws ++ ws') (gCons tg tgs) (gsC fg fgs) := by
  intro N H0 α0 α σ H S ds vs S' Rr R dr e q
  cases dr with
  | nil => cases e
  | cons a b =>
    obtain ⟨S1, e1, e2⟩ := opt_bind e
    refine ⟨_, _, rfl, h1 N H0 α0 α σ H S _ _ S1 _ R a e1 fun σ1 α1 H1 R1 p1 s1 w1 => ?_⟩
    exact h2 N H0 α0 α1 σ1 H1 S1 _ _ S' _ R1 (b.mono s1 p1.pre) e2 fun σ2 α2 H2 R2 p2 s2 w2 => q σ2 α2 H2 R2 (p1.trans p2) (s1.trans s2) (w1.trans w2)
/-- a tuple or a list is taken apart -/
def gAny (K : PySem.W.Frag) (n : Nat) (t : TGs) : TG := fun v σ H R => gTup K n t v σ H R ∨ gUnl K n t v σ H R
theorem gs_len {ws : List Nat} {tgs : TGs} {fgs : List D → Sx → Option Sx} {n : Nat} (h : ∀ ds S S', fgs ds S = some S' → ds.length = n) (h2 : RefGs K ws tgs fgs) : RefG K ws (gAny K n tgs) (gT fgs) := by
  intro N H0 α0 α σ H S d v S' Rr R dr e q
  unfold gT at e
  split at e
  · cases dr with
    | tup a b => exact .inl ⟨_, _, rfl, sqT_lim a, by rw [b.len]; exact h _ _ _ e, h2 N H0 α0 α σ H S _ _ S' _ R b e q⟩
  · cases dr with
    | lst a b => exact .inr ⟨_, _, rfl, sqL_lim a, by rw [b.len]; exact h _ _ _ e, h2 N H0 α0 α σ H S _ _ S' _ R b e q⟩
  · cases e
theorem gsl0 : ∀ ds S S', gs0 ds S = some S' → ds.length = 0 := fun ds S S' e => by cases ds with | nil => rfl | cons _ _ => cases e
theorem gslC {g : DG} {r : List D → Sx → Option Sx} {n : Nat} (h : ∀ ds S S', r ds S = some S' → ds.length = n) : ∀ ds S S', gsC g r ds S = some S' → ds.length = n + 1 := fun ds S S' e => by
  cases ds with
  | nil => cases e
  | cons d ds =>
    obtain ⟨S1, _, e2⟩ := opt_bind e
    rw [List.length_cons, h _ _ _ e2]
theorem rf_asg {ws : List Nat} (ha : RefE K ta fa) (hg : RefG K ws tg fg) : RefS K (tAsg ta tg) (sAsg fa fg) := by
  intro N H0 α0 α σ H S fl S' E R e q
  obtain ⟨⟨x, S1⟩, e1, e⟩ := opt_bind e
  obtain ⟨S2, e2, e⟩ := opt_map e
  cases e
  refine ha N H0 α0 α σ H S x S1 _ R e1 fun v α1 H1 R1 g1 d1 => ?_
  exact hg N H0 α0 α1 σ H1 S1 x v _ _ R1 d1 e2 fun σ2 α2 H2 R2 p2 s2 _ => q σ2 α2 H2 R2 (g1.pre.trans p2.pre) (g1.same.trans s2)
theorem rf_snil : RefS K tNext sNil := by
  intro N H0 α0 α σ H S fl S' E R e q
  cases e
  exact q σ α H R (List.prefix_refl _) (Same.refl _)
theorem rf_seq (h1 : RefS K t1 f1) (h2 : RefS K t2 f2) : RefS K (tSeq t1 t2) (sSeq f1 f2) := by
  intro N H0 α0 α σ H S fl S' E R e q
  obtain ⟨⟨l, S1⟩, e1, e⟩ := opt_bind e
  refine h1 N H0 α0 α σ H S l S1 _ R e1 fun σ1 α1 H1 R1 p1 s1 => ?_
  cases l with
  | nx => exact h2 N H0 α0 α1 σ1 H1 S1 fl S' E R1 e fun σ2 α2 H2 R2 p2 s2 => q σ2 α2 H2 R2 (p1.trans p2) (s1.trans s2)
  | brk => cases e; exact q σ1 α1 H1 R1 p1 s1
  | cont => cases e; exact q σ1 α1 H1 R1 p1 s1
  | ret d => cases e; exact q σ1 α1 H1 R1 p1 s1
theorem rf_ret (ha : RefE K ta fa) : RefS K (tRet ta) (sRet fa) := by
  intro N H0 α0 α σ H S fl S' E R e q
  obtain ⟨⟨x, S1⟩, e1, e⟩ := opt_map e
  cases e
  exact ha N H0 α0 α σ H S x _ _ R e1 fun v α1 H1 R1 g1 d1 => q σ α1 H1 R1 g1.pre g1.same v d1
theorem rf_retN : RefS K tRetN sRetN := by
  intro N H0 α0 α σ H S fl S' E R e q
  cases e
  exact q σ α H R (List.prefix_refl _) (Same.refl _) .non .non
theorem rf_ex (ha : RefE K ta fa) : RefS K (tDrop ta) (sEx fa) := by
  intro N H0 α0 α σ H S fl S' E R e q
  obtain ⟨⟨x, S1⟩, e1, e⟩ := opt_map e
  cases e
  exact ha N H0 α0 α σ H S x _ _ R e1 fun v α1 H1 R1 g1 d1 => q σ α1 H1 R1 g1.pre g1.same
theorem rf_if (hc : RefT K tt ft) (h1 : RefS K t1 f1) (h2 : RefS K t2 f2) : RefS K (tIfS tt t1 t2) (sIf ft f1 f2) := by
  intro N H0 α0 α σ H S fl S' E R e q
  obtain ⟨⟨x, S1⟩, e1, e⟩ := opt_bind e
  refine hc N H0 α0 α σ H S x S1 _ R e1 fun α1 H1 R1 g1 => ?_
  cases x with
  | true =>
    rw [if_pos rfl] at e ⊢
    exact h1 N H0 α0 α1 σ H1 S1 fl S' E R1 e fun σ2 α2 H2 R2 p2 s2 => q σ2 α2 H2 R2 (g1.pre.trans p2) (g1.same.trans s2)
  | false =>
    rw [if_neg Bool.false_ne_true] at e ⊢
    exact h2 N H0 α0 α1 σ H1 S1 fl S' E R1 e fun σ2 α2 H2 R2 p2 s2 => q σ2 α2 H2 R2 (g1.pre.trans p2) (g1.same.trans s2)
theorem rf_whileF (hc : RefT K tt ft) (hb : RefS K t1 f1) (n : Nat) : RefS K (tWhile tt t1) (whileF ft f1 n) := by
  intro N H0 α0 α σ H S fl S' E R e q
  refine ⟨fun m σ1 H1 => ∃ α1 S1, SR K N H0 α0 α1 σ1 H1 S1 ∧ α <+: α1 ∧ Same (lim H (Mx N α S σ)) (lim H1 (Mx N α1 S1 σ1)) ∧ whileF ft f1 m S1 = some (fl, S'), ⟨n, α, S, R, List.prefix_refl _, Same.refl _, e⟩, ?_⟩
  rintro m σ1 H1 ⟨α1, S1, R1, p1, s1, e1⟩
  cases m with
  | zero => cases e1
  | succ m =>
    obtain ⟨⟨b, S2⟩, e2, e1⟩ := opt_bind e1
    refine hc N H0 α0 α1 σ1 H1 S1 b S2 _ R1 e2 fun α2 H2 R2 g2 => ?_
    cases b with
    | false =>
      rw [if_neg Bool.false_ne_true] at e1 ⊢
      cases e1
      exact q σ1 α2 H2 R2 (p1.trans g2.pre) (s1.trans g2.same)
    | true =>
      rw [if_pos rfl] at e1 ⊢
      obtain ⟨⟨l, S3⟩, e3, e1⟩ := opt_bind e1
      refine ⟨_, fun σ' H' h => ⟨m, Nat.lt_succ_self m, h⟩, ?_⟩
      refine hb N H0 α0 α2 σ1 H2 S2 l S3 _ R2 e3 fun σ3 α3 H3 R3 p3 s3 => ?_
      have p := (p1.trans g2.pre).trans p3
      have s := (s1.trans g2.same).trans s3
      cases l with
      | nx => exact ⟨α3, S3, R3, p, s, e1⟩
      | cont => exact ⟨α3, S3, R3, p, s, e1⟩
      | brk => cases e1; exact q σ3 α3 H3 R3 p s
      | ret d => cases e1; exact q σ3 α3 H3 R3 p s
/-! ### what is walked -/
def WalkD (K : PySem.W.Frag) (α : List Addr) (Hm : Hp) (J : It) (ds : List D) : Prop := ∃ G Y, Walk J ds.length G Y ∧ (∀ H2 M2, Same Hm (lim H2 M2) → G H2) ∧
  ∀ i H2 x H3 M2, i < ds.length → Same Hm (lim H2 M2) → (∀ a, M2 a → H2 a ≠ none) → Y i H2 x H3 → Same H2 H3 ∧ ∃ d, ds[i]? = some d ∧ ∀ α2, α <+: α2 → DR K α2 (lim H3 M2) x d
def RefI (K : PySem.W.Frag) (wi : TI) (f : DI) : Prop := ∀ (N : Addr → Prop) (H0 : Hp) (α0 α : List Addr) (σ : L2.St) (H : Hp) (S : Sx) (ds : List D) (S' : Sx) (Rr : It → Hp → Prop),
  SR K N H0 α0 α σ H S → f S = some (ds, S') →
  (∀ J α' H', SR K N H0 α0 α' σ H' S' → Gr α H S α' H' S' → WalkD K α' (lim H' (Mx N α' S' σ)) J ds → Rr J H') → wi σ H Rr
/-- what is frozen stays so -/
def Fz (H H' : Hp) : Prop := ∀ a o u, H a = some (.frz o u) → H' a = some (.frz o u)
/-- a walk over what is locked, too -/
def WalkDZ (K : PySem.W.Frag) (α : List Addr) (Hm H1 : Hp) (J : It) (ds : List D) : Prop := ∃ G Y, Walk J ds.length G Y ∧ (∀ H2 M2, Same Hm (lim H2 M2) → Fz H1 H2 → G H2) ∧
  ∀ i H2 x H3 M2, i < ds.length → Same Hm (lim H2 M2) → Fz H1 H2 → (∀ a, M2 a → H2 a ≠ none) → Y i H2 x H3 → Same H2 H3 ∧ ∃ d, ds[i]? = some d ∧ ∀ α2, α <+: α2 → DR K α2 (lim H3 M2) x d
theorem WalkD.z {K : PySem.W.Frag} {α : List Addr} {Hm H1 : Hp} {J : It} {ds : List D} : WalkD K α Hm J ds → WalkDZ K α Hm H1 J ds
  | ⟨G, Y, W, a, b⟩ => ⟨G, Y, W, fun H2 M2 s _ => a H2 M2 s, fun i H2 x H3 M2 h s _ l y => b i H2 x H3 M2 h s l y⟩
def RefIZ (K : PySem.W.Frag) (wi : TI) (f : DI) : Prop := ∀ (N : Addr → Prop) (H0 : Hp) (α0 α : List Addr) (σ : L2.St) (H : Hp) (S : Sx) (ds : List D) (S' : Sx) (Rr : It → Hp → Prop),
  SR K N H0 α0 α σ H S → f S = some (ds, S') →
  (∀ J α' H', SR K N H0 α0 α' σ H' S' → Gr α H S α' H' S' → WalkDZ K α' (lim H' (Mx N α' S' σ)) H' J ds → Rr J H') → wi σ H Rr
theorem RefI.z {K : PySem.W.Frag} {wi : TI} {f : DI} (h : RefI K wi f) : RefIZ K wi f := fun N H0 α0 α σ H S ds S' Rr R e q => h N H0 α0 α σ H S ds S' Rr R e fun J α' H' r g w => q J α' H' r g w.z
theorem rf_for {ws : List Nat} {wi : TI} {fi : DI} (hi : RefI K wi fi) (hg : RefG K ws tg fg) (hb : RefS K t1 f1) : RefS K (tFor wi tg t1) (sFor fi fg f1) := by
  intro N H0 α0 α σ H S fl S' E R e q
  obtain ⟨⟨ds, S1⟩, e1, e⟩ := opt_bind e
  refine hi N H0 α0 α σ H S ds S1 _ R e1 fun J α1 H1 R1 g1 W => ?_
  obtain ⟨G, Y, W, WG, WY⟩ := W
  have p1 := g1.pre
  have s1 : Same (lim H (Mx N α S σ)) (lim H1 (Mx N α1 S1 σ)) := g1.same
  refine for_it W (fun i σ2 H2 => ∃ α2 S2, SR K N H0 α0 α2 σ2 H2 S2 ∧ α1 <+: α2 ∧ Same (lim H1 (Mx N α1 S1 σ)) (lim H2 (Mx N α2 S2 σ2)) ∧ forF fg f1 (ds.drop i) S2 = some (fl, S')) ⟨α1, S1, R1, List.prefix_refl _, Same.refl _, e⟩ ?_ ?_ ?_
  · rintro i σ2 H2 _ ⟨α2, S2, R2, p2, s2, _⟩
    exact WG H2 _ s2
  · rintro i x σ2 H2 H3 hi ⟨α2, S2, R2, p2, s2, e2⟩ y
    obtain ⟨s3, d, ed, dd⟩ := WY i H2 x H3 _ hi s2 R2.mlive y
    have R3 := R2.same s3
    have hd : ds.drop i = d :: ds.drop (i + 1) := by
      rw [List.drop_eq_getElem_cons hi]
      congr 1
      rw [List.getElem?_eq_getElem hi] at ed
      exact Option.some.inj ed
    rw [hd] at e2
    obtain ⟨S4, e4, e2⟩ := opt_bind e2
    obtain ⟨⟨l, S5⟩, e5, e2⟩ := opt_bind e2
    have s23 : Same (lim H2 (Mx N α2 S2 σ2)) (lim H3 (Mx N α2 S2 σ2)) := lim_mono s3
    refine hg N H0 α0 α2 σ2 H3 S2 d x S4 _ R3 (dd α2 p2) e4 fun σ4 α4 H4 R4 p4 s4 _ => ?_
    refine hb N H0 α0 α4 σ4 H4 S4 l S5 _ R4 e5 fun σ5 α5 H5 R5 p5 s5 => ?_
    have p : α1 <+: α5 := (p2.trans p4.pre).trans p5
    have s : Same (lim H1 (Mx N α1 S1 σ)) (lim H5 (Mx N α5 S5 σ5)) := ((s2.trans s23).trans s4).trans s5
    cases l with
    | nx => exact ⟨α5, S5, R5, p, s, e2⟩
    | cont => exact ⟨α5, S5, R5, p, s, e2⟩
    | brk => cases e2; exact q σ5 α5 H5 R5 (p1.trans p) (s1.trans s)
    | ret d => cases e2; exact q σ5 α5 H5 R5 (p1.trans p) (s1.trans s)
  · rintro σ2 H2 ⟨α2, S2, R2, p2, s2, e2⟩
    rw [List.drop_length] at e2
    cases e2
    exact q σ2 α2 H2 R2 (p1.trans p2) (s1.trans s2)
end
end Dl

set_option Elab.async false
set_option linter.all false
set_option maxRecDepth 100000
set_option maxHeartbeats 4000000
namespace Bg
open PySem PySem.Spec PyProof.Rows L2
/-! ### bits of whole numbers that are not negative -/
theorem bA (a b : Nat) : Builtin.bitAnd (a : Int) (b : Int) = ((a &&& b : Nat) : Int) := by
  rw [bitAnd_pp (Int.natCast_nonneg a) (Int.natCast_nonneg b), Int.toNat_natCast, Int.toNat_natCast]
theorem nat_of {i : Int} (h : 0 ≤ i) : ∃ a : Nat, i = (a : Int) := ⟨i.toNat, by omega⟩
theorem pow_cast (n : Nat) : (2 : Int) ^ n = ((2 ^ n : Nat) : Int) := by rw [Int.natCast_pow]; rfl
theorem nat_lt {a n : Nat} (h : (a : Int) < 2 ^ n) : a < 2 ^ n := by rw [pow_cast] at h; omega
theorem pow_pos2 (n : Nat) : (0 : Int) < 2 ^ n := Int.pow_pos (by decide)
/-! ### tests whose answer is known -/
/-! ### unpacking, tests of a comprehension -/
section
variable {σ : L2.St} {H : Hp} {R : L2.St → Hp → Prop} {K : PySem.W.Frag} {a : Addr} {xs : List V} {n : Nat} {t : TGs} {QT : Bool → Hp → Prop}
end
/-! ### comprehensions -/
section
variable {σ : L2.St} {H : Hp} {Q : VK} {QT : Bool → Hp → Prop}
end
section
variable {H : Hp} {Q : VK} {K : PySem.W.Frag} {x y : V} {d e : PyData}
end
/-! ### the laws' own sure bits -/
/-- a tuple of sure bits of the width n -/
structure Bt (n : Nat) (v u : Int) : Prop where
  v0 : 0 ≤ v
  v1 : v < 2 ^ n
  u0 : 0 ≤ u
  u1 : u < 2 ^ n
  vu : Builtin.bitAnd v u = 0
theorem Kp.free {p c : Addr} {H H1 : Hp} (k : Kp p H H1) (h : H1 c = none) : H c = none := by
  cases e : H c with
  | none => rfl
  | some o => rw [k.2 c o (k.1.ne h) e] at h; cases h
end Bg

set_option Elab.async false
set_option linter.all false
set_option maxRecDepth 100000
set_option maxHeartbeats 4000000
namespace Bg
open PySem PySem.Spec PyProof.Rows L2
section
variable {σ : L2.St} {H : Hp} {D : Ends} {t1 : TS} {tr : V → TS} {z w : Str} {v : V}
end
/-! ### bits moved -/
def mvN (l : Bool) (n a j : Nat) : Nat := if n ≤ j then 0 else if l then a * 2 ^ j % 2 ^ n else a / 2 ^ j
theorem mv_lt {l : Bool} {n a j : Nat} (ha : a < 2 ^ n) : mvN l n a j < 2 ^ n := by
  unfold mvN
  split
  · exact Nat.two_pow_pos n
  · split
    · exact Nat.mod_lt _ (Nat.two_pow_pos n)
    · exact Nat.lt_of_le_of_lt (Nat.div_le_self _ _) ha
/-! ### what sure bits hold, by going through all -/
/-- v and u without a bit in common, of the width n -/
structure Sb (n v u : Nat) : Prop where
  v1 : v < 2 ^ n
  u1 : u < 2 ^ n
  vu : v &&& u = 0
theorem Sb.not {n v u i : Nat} (h : Sb n v u) (a : v.testBit i = true) : u.testBit i = false := by
  have z : (v &&& u).testBit i = false := by rw [h.vu, Nat.zero_testBit]
  rw [Nat.testBit_and, a, Bool.true_and] at z
  exact z
theorem Bt.sb {n : Nat} {v u : Int} (b : Bt n v u) : ∃ a c : Nat, v = (a : Int) ∧ u = (c : Int) ∧ Sb n a c := by
  obtain ⟨a, rfl⟩ := nat_of b.v0
  obtain ⟨c, rfl⟩ := nat_of b.u0
  have z := b.vu
  rw [bA] at z
  exact ⟨a, c, rfl, rfl, nat_lt b.v1, nat_lt b.u1, by omega⟩
/-! ### the promises of the laws' own going through all -/
end Bg

set_option Elab.async false
set_option linter.all false
set_option maxRecDepth 100000
set_option maxHeartbeats 4000000
namespace Bg
open PySem PySem.Spec PyProof.Rows L2
/-! ### what sure bits hold -/
/-- both hold something in common -/
def meetB (v1 u1 v2 u2 : Nat) : Prop := v1 ||| (u1 ||| u2) = v2 ||| (u1 ||| u2)
instance (v1 u1 v2 u2 : Nat) : Decidable (meetB v1 u1 v2 u2) := inferInstanceAs (Decidable (_ = _))
/-! ### lists of worths -/
end Bg
namespace Bg
open PySem PySem.Spec PyProof.Rows L2
end Bg

set_option Elab.async false
set_option linter.all false
set_option maxRecDepth 100000
set_option maxHeartbeats 4000000
namespace Bg
open PySem PySem.Spec PyProof.Rows L2
/-! ### the eight deeds -/
inductive Op | plus | minus | times | and | or | either | left | right
  deriving DecidableEq
def opV : Op → Nat → Nat → Nat → Nat
  | .plus, n, a, b => (a + b) % 2 ^ n
  | .minus, n, a, b => (a + (2 ^ n - b)) % 2 ^ n
  | .times, n, a, b => (a * b) % 2 ^ n
  | .and, _, a, b => a &&& b
  | .or, _, a, b => a ||| b
  | .either, _, a, b => a ^^^ b
  | .left, n, a, b => mvN true n a b
  | .right, n, a, b => mvN false n a b
def isMv : Op → Bool
  | .left => true | .right => true | _ => false
theorem opV_lt {o : Op} {n a b : Nat} (ha : a < 2 ^ n) (hb : b < 2 ^ n ∨ isMv o = true) : opV o n a b < 2 ^ n := by
  have p := Nat.two_pow_pos n
  cases o with
  | plus => exact Nat.mod_lt _ p
  | minus => exact Nat.mod_lt _ p
  | times => exact Nat.mod_lt _ p
  | and => exact Nat.lt_of_le_of_lt Nat.and_le_left ha
  | or => exact Nat.or_lt_two_pow ha (hb.resolve_right (fun z => by cases z))
  | either => exact Nat.xor_lt_two_pow ha (hb.resolve_right (fun z => by cases z))
  | left => exact mv_lt ha
  | right => exact mv_lt ha
/-! ### a word among words -/
/-! ### the twelve asks -/
inductive Ak | same | under | upto | below | least | bits
  deriving DecidableEq
def akW : Ak → Str
  | .same => "same" | .under => "under" | .upto => "upto" | .below => "below" | .least => "least" | .bits => "bits"
def akC : Ak → Str
  | .same => "unlike" | .under => "from" | .upto => "over" | .below => "notbelow" | .least => "above" | .bits => "nobits"
def sgnI (a n : Nat) : Int := if a < 2 ^ (n - 1) then (a : Int) else (a : Int) - 2 ^ n
def akB : Ak → Nat → Nat → Nat → Bool
  | .same, _, a, b => decide (a = b)
  | .under, _, a, b => decide (a < b)
  | .upto, _, a, b => decide (a ≤ b)
  | .below, n, a, b => decide (sgnI a n < sgnI b n)
  | .least, n, a, b => decide (sgnI a n ≤ sgnI b n)
  | .bits, _, a, b => !decide (a &&& b = 0)
def akV (k : Ak) (c : Bool) (n a b : Nat) : Bool := if c then !akB k n a b else akB k n a b
/-! ### xs.count(k) of truths -/
/-! ### the ring of worths -/
theorem three (n a b : Nat) : [akV .under false n a b, akV .same false n a b, akV .upto true n a b].count true = 1 := by
  show [decide (a < b), decide (a = b), !decide (a ≤ b)].count true = 1
  rcases Nat.lt_trichotomy a b with h | h | h
  · rw [decide_eq_true h, decide_eq_false (by omega), decide_eq_true (by omega)]; rfl
  · rw [decide_eq_false (by omega), decide_eq_true h, decide_eq_true (by omega)]; rfl
  · rw [decide_eq_false (by omega), decide_eq_false (by omega), decide_eq_false (by omega)]; rfl
end Bg

set_option Elab.async false
set_option linter.all false
set_option maxRecDepth 100000
set_option maxHeartbeats 4000000
namespace Bg
open PySem PySem.Spec PyProof.Rows L2
/-! ### refusals -/
section
variable {X : Cx} {CX : CXT} {k : Nat} {f : Addr} {fd : FuncData} {ps : List Str} {sp : Sp} {dvs : List V} {ds : List Value} {E : L2.St → XK} {x : Str} {p pos : Pos} {e : Expr} {es : List Expr} {t : TA}
end
/-- what the class at C of a refusal must say -/
structure Refl (K : PySem.W.Frag) (C : Addr) : Prop where
  x : PySem.W.excIn K C [.type "ValueError", .type "Exception", .type "BaseException", .type "object"] "ValueError.__new__" = true
  k : PySem.W.keepIn K (.ref C) = true
  s : PySem.W.subIn K (.ref C) (.type "BaseException") = some true
  t : PySem.W.typeIn K (.ref C) = some (.type "type")
  c : ExcC K C
  m : PySem.W.exmOne K (.ref C) (.ref C) = some true
/-- what is asked of a class that is named -/
structure ClsI (K : PySem.W.Frag) (D : Addr) : Prop where
  b : PySem.W.subIn K (.ref D) (.type "BaseException") = some true
  d : PySem.W.hasDictIn K D = true
  i : PySem.W.isClsIn K D = true
  t : PySem.W.typeIn K (.ref D) = some (.type "type")
section
variable {σ : L2.St} {H : Hp} {Q : VK}
end
/-! ### rows of bits -/
end Bg

set_option Elab.async false
set_option linter.all false
set_option maxRecDepth 100000
set_option maxHeartbeats 400000
namespace Bg
open PySem PySem.Spec PyProof.Rows L2
/-- a method's reading by the fragment itself, whatever the suite -/
theorem pe_atK {X : Cx} {K : PySem.W.Frag} {e : Expr} {T : String} {r : V → List V → Hp → VK → Prop} {to : TE} {t : TA} (hK : X.K = K) (h : PE X e (tBM X.K T r to t)) : PE X e (tBM K T r to t) := hK ▸ h
/-! ### d.update(e) -/
/-! ### for k in d -/
/-! ### t + u -/
section
variable {K : PySem.W.Frag} {H : Hp} {Q : VK}
end
/-! ### the law's own table of answers -/
/-! ### the law's own pairs -/
def pairsL : List (Key × V) := [(.inr "same", .str "unlike"), (.inr "under", .str "from"), (.inr "upto", .str "over"), (.inr "below", .str "notbelow"), (.inr "least", .str "above"), (.inr "bits", .str "nobits")]
theorem pairs_at {i : Nat} {k : Key} {v : V} (h : pairsL[i]? = some (k, v)) : ∃ q : Ak, k = .inr (akW q) ∧ v = .str (akC q) ∧ valV pairsL k = some v := by
  match i, h with
  | 0, h => obtain ⟨rfl, rfl⟩ := Prod.mk.inj (Option.some.inj h); exact ⟨.same, rfl, rfl, valV_pos (of_decide_eq_true (by decide))⟩
  | 1, h => obtain ⟨rfl, rfl⟩ := Prod.mk.inj (Option.some.inj h); exact ⟨.under, rfl, rfl, (valV_neg (of_decide_eq_false (by decide))).trans (valV_pos (of_decide_eq_true (by decide)))⟩
  | 2, h => obtain ⟨rfl, rfl⟩ := Prod.mk.inj (Option.some.inj h); exact ⟨.upto, rfl, rfl, (valV_neg (of_decide_eq_false (by decide))).trans ((valV_neg (of_decide_eq_false (by decide))).trans (valV_pos (of_decide_eq_true (by decide))))⟩
  | 3, h => obtain ⟨rfl, rfl⟩ := Prod.mk.inj (Option.some.inj h); exact ⟨.below, rfl, rfl, (valV_neg (of_decide_eq_false (by decide))).trans ((valV_neg (of_decide_eq_false (by decide))).trans ((valV_neg (of_decide_eq_false (by decide))).trans (valV_pos (of_decide_eq_true (by decide)))))⟩
  | 4, h => obtain ⟨rfl, rfl⟩ := Prod.mk.inj (Option.some.inj h); exact ⟨.least, rfl, rfl, (valV_neg (of_decide_eq_false (by decide))).trans ((valV_neg (of_decide_eq_false (by decide))).trans ((valV_neg (of_decide_eq_false (by decide))).trans ((valV_neg (of_decide_eq_false (by decide))).trans (valV_pos (of_decide_eq_true (by decide))))))⟩
  | 5, h => obtain ⟨rfl, rfl⟩ := Prod.mk.inj (Option.some.inj h); exact ⟨.bits, rfl, rfl, (valV_neg (of_decide_eq_false (by decide))).trans ((valV_neg (of_decide_eq_false (by decide))).trans ((valV_neg (of_decide_eq_false (by decide))).trans ((valV_neg (of_decide_eq_false (by decide))).trans ((valV_neg (of_decide_eq_false (by decide))).trans (valV_pos (of_decide_eq_true (by decide)))))))⟩
  | n + 6, h => cases h
end Bg

set_option Elab.async false
set_option linter.all false
set_option maxRecDepth 100000
set_option maxHeartbeats 400000
namespace Bg
open PySem PySem.Spec PyProof.Rows L2
/-! ### a refusal that was caught and is kept -/
section
variable {X : Cx} {pins : List (Addr × Obj)} {σ : L2.St} {H : Hp} {s : Shared}
end
section
variable {X : Cx} {x n : Str} {c : Value} {i : Nat} {body suite : List Stmt} {b0 : Stmt} {np pos pos' : Pos} {tb : WX → TS} {ts : Addr → TS}
end
end Bg

set_option Elab.async false
set_option linter.all false
set_option maxRecDepth 100000
set_option maxHeartbeats 400000
namespace Bg
open PySem PySem.Spec PyProof.Rows
/-! ### bits of whole numbers of any sign -/
/-- a bit of a whole number, in two's complement -/
def ib (x : Int) (i : Nat) : Bool := decide (x / 2 ^ i % 2 = 1)
/-! ### carries and borrows -/
def maj (a b c : Bool) : Bool := (a && b) || (a && c) || (b && c)
def car (x y : Int) : Nat → Bool
  | 0 => false
  | i + 1 => maj (ib x i) (ib y i) (car x y i)
def bor (x y : Int) : Nat → Bool
  | 0 => false
  | i + 1 => maj (!ib x i) (ib y i) (bor x y i)
def b2 (b : Bool) : Int := if b = true then 1 else 0
end Bg

set_option Elab.async false
set_option linter.all false
set_option maxRecDepth 100000
set_option maxHeartbeats 400000
namespace Bg
open PySem PySem.Spec PyProof.Rows L2
/-! ### deeds of sure bits, bit by bit -/
def is5 : Op → Bool
  | .plus => true | .minus => true | .and => true | .or => true | .either => true | _ => false
/-- the least carry, or borrow, of held worths into a bit -/
def cl (o : Op) (v1 u1 v2 u2 i : Nat) : Bool := match o with
  | .plus => car v1 v2 i
  | .minus => bor (v1 ||| u1 : Nat) v2 i
  | _ => false
/-- the greatest one -/
def ch (o : Op) (v1 u1 v2 u2 i : Nat) : Bool := match o with
  | .plus => car (v1 ||| u1 : Nat) (v2 ||| u2 : Nat) i
  | .minus => bor v1 (v2 ||| u2 : Nat) i
  | _ => false
/-- is the bit unsure -/
def duB : Op → Bool → Bool → Bool → Bool → Bool → Bool → Bool
  | .and, a, c, b, d, _, _ => (a || c) && (b || d) && !(a && b)
  | .or, a, c, b, d, _, _ => (c || d) && !(a || b)
  | .either, _, c, _, d, _, _ => c || d
  | _, _, c, _, d, l, h => c || d || (l ^^ h)
def dvB : Op → Bool → Bool → Bool → Bool → Bool → Bool → Bool
  | .and, a, _, b, _, _, _ => a && b
  | .or, a, _, b, _, _, _ => a || b
  | .either, a, c, b, d, _, _ => !(c || d) && (a ^^ b)
  | _, a, c, b, d, l, h => !(c || d || (l ^^ h)) && (a ^^ b ^^ l)
def duA (o : Op) (v1 u1 v2 u2 i : Nat) : Bool := duB o (v1.testBit i) (u1.testBit i) (v2.testBit i) (u2.testBit i) (cl o v1 u1 v2 u2 i) (ch o v1 u1 v2 u2 i)
def dvA (o : Op) (v1 u1 v2 u2 i : Nat) : Bool := dvB o (v1.testBit i) (u1.testBit i) (v2.testBit i) (u2.testBit i) (cl o v1 u1 v2 u2 i) (ch o v1 u1 v2 u2 i)
/-- the sharpest sure bits of what comes -/
structure Due (o : Op) (n v1 u1 v2 u2 dv du : Nat) : Prop where
  v : ∀ i, dv.testBit i = (decide (i < n) && dvA o v1 u1 v2 u2 i)
  u : ∀ i, du.testBit i = (decide (i < n) && duA o v1 u1 v2 u2 i)
theorem lt_of_bits {x n : Nat} (h : ∀ i, n ≤ i → x.testBit i = false) : x < 2 ^ n := Nat.lt_pow_two_of_testBit x h
theorem Due.sb {o : Op} {n v1 u1 v2 u2 dv du : Nat} (h : Due o n v1 u1 v2 u2 dv du) : Sb n dv du := by
  refine ⟨lt_of_bits fun i hi => ?_, lt_of_bits fun i hi => ?_, ?_⟩
  · rw [h.v, decide_eq_false (by omega), Bool.false_and]
  · rw [h.u, decide_eq_false (by omega), Bool.false_and]
  · apply Nat.eq_of_testBit_eq
    intro i
    rw [Nat.testBit_and, h.v, h.u, Nat.zero_testBit]
    unfold dvA duA
    clear h
    cases decide (i < n)
    · rfl
    · generalize v1.testBit i = a
      generalize u1.testBit i = c
      generalize v2.testBit i = b
      generalize u2.testBit i = d
      generalize cl o v1 u1 v2 u2 i = l
      generalize ch o v1 u1 v2 u2 i = h
      cases o <;> revert a b c d l h <;> decide
/-- x modulo a power, as it is told by bits -/
def mk (x : Int) (n : Nat) : Nat := (x % 2 ^ n).toNat
/-! ### a bit of what comes of two worths -/
/-- the pairs of which two differ at an unsure bit -/
def six (v1 u1 v2 u2 i : Nat) : List (Nat × Nat) := [(v1, v2), (v1 ||| u1, v2 ||| u2), (v1 ||| u1, v2), (v1, v2 ||| u2), (v1 ||| (u1 &&& 2 ^ i), v2), (v1, v2 ||| (u2 &&& 2 ^ i))]
/-! ### the law's own going bit by bit -/
def sgn (v u : Bool) : List Bool := if u then [false, true] else [v]
def oneS : Op → Bool → Bool → Bool → Bool × Bool
  | .plus, f, s, c => (f ^^ s ^^ c, maj f s c)
  | .minus, f, s, c => (f ^^ s ^^ c, maj (!f) s c)
  | .and, f, s, _ => (f && s, false)
  | .or, f, s, _ => (f || s, false)
  | _, f, s, _ => (f ^^ s, false)
def tbl (o : Op) (a c b d : Bool) (cs : List Bool) : List (Bool × Bool) := (sgn a c).flatMap fun f => (sgn b d).flatMap fun s => cs.map fun x => oneS o f s x
/-- a list's things, each once, by rising size -/
def once (l : List Bool) : List Bool := (if l.any (!·) then [false] else []) ++ (if l.any id then [true] else [])
def nl (o : Op) (a c b d l : Bool) : Bool := match o with
  | .plus => maj a b l
  | .minus => maj (!(a || c)) b l
  | _ => false
end Bg

set_option Elab.async false
set_option linter.all false
set_option maxRecDepth 100000
set_option maxHeartbeats 3200000
namespace Bg
open PySem PySem.Spec PyProof.Rows L2 PySem.Calls
/-! ### set(l), l a list of whole numbers -/
section
variable {P : Program} {w : World} {A : Around} {E : Value → Shared → Prop} {s : Shared}
end
/-- set(l) -/
def rSetL (K : PySem.W.Frag) (w : World) : List V → Hp → VK → Prop := fun xs H Q => ∃ (l : Addr) (ks : List Int), xs = [.ref l] ∧ SqL K H l (ks.map V.int) ∧ ks.length ≤ 1000 ∧ ∀ a c, H a = none → c ≤ ks.length → Q (.ref a) (upd H a (SetO w a (fun j => decide (j ∈ ks)) c))
end Bg
namespace Bg
open PySem PySem.Spec PyProof.Rows L2
/-! ### truths as numbers -/
theorem b2_inj {a b : Bool} (h : b2 a = b2 b) : a = b := by revert h; cases a <;> cases b <;> decide
/-! ### a list of tuples of two truths -/
inductive Tw (H : Hp) : List Addr → List (Bool × Bool) → Prop
  | nil : Tw H [] []
  | cons {a : Addr} {q : Bool × Bool} {as : List Addr} {qs : List (Bool × Bool)} (h : H a = some (.tup [.int (b2 q.1), .int (b2 q.2)])) (t : Tw H as qs) : Tw H (a :: as) (q :: qs)
theorem Tw.len {H : Hp} : ∀ {as : List Addr} {qs : List (Bool × Bool)}, Tw H as qs → as.length = qs.length
  | _, _, .nil => rfl
  | _, _, .cons _ t => congrArg Nat.succ t.len
theorem Tw.same {H H' : Hp} (s : Same H H') : ∀ {as : List Addr} {qs : List (Bool × Bool)}, Tw H as qs → Tw H' as qs
  | _, _, .nil => .nil
  | _, _, .cons h t => .cons (s _ _ h) (t.same s)
theorem Tw.app {H : Hp} : ∀ {as bs : List Addr} {qs rs : List (Bool × Bool)}, Tw H as qs → Tw H bs rs → Tw H (as ++ bs) (qs ++ rs)
  | _, _, _, _, .nil, u => u
  | _, _, _, _, .cons h t, u => .cons h (t.app u)
theorem Tw.at {H : Hp} : ∀ {as : List Addr} {qs : List (Bool × Bool)} {i : Nat} {a : Addr}, Tw H as qs → as[i]? = some a → ∃ q, qs[i]? = some q ∧ H a = some (.tup [.int (b2 q.1), .int (b2 q.2)])
  | _, _, _, _, .nil, e => by cases e
  | _, _, 0, _, .cons h t, e => by cases e; exact ⟨_, rfl, h⟩
  | _, _, i + 1, _, .cons h t, e => t.at (i := i) e
theorem Tw.mono {H H' : Hp} {D : Addr} {o : HO} (h : ∀ a u, a ≠ D → H a = some u → H' a = some u) : ∀ {as : List Addr} {qs : List (Bool × Bool)}, (H D = none ∨ ∃ xs, H D = some (.lst xs)) → Tw H as qs → Tw H' as qs
  | _, _, _, .nil => .nil
  | _, _, hD, .cons e t => .cons (h _ _ (fun z => by
      subst z
      rcases hD with q | ⟨xs, q⟩
      · rw [q] at e; cases e
      · rw [q] at e; cases e) e) (t.mono (o := o) h hD)
end Bg
namespace Bg
open PySem PySem.Spec PyProof.Rows L2
end Bg
namespace Bg
open PySem PySem.Spec PyProof.Rows L2
end Bg
namespace Bg
open PySem PySem.Spec PyProof.Rows L2
end Bg
namespace Bg
open PySem PySem.Spec PyProof.Rows L2
end Bg
namespace Bg
open PySem PySem.Spec PyProof.Rows L2
theorem Due.uniq {o : Op} {n v1 u1 v2 u2 dv du dv' du' : Nat} (h : Due o n v1 u1 v2 u2 dv du) (h' : Due o n v1 u1 v2 u2 dv' du') : dv = dv' ∧ du = du' :=
  ⟨Nat.eq_of_testBit_eq fun i => by rw [h.v, h'.v], Nat.eq_of_testBit_eq fun i => by rw [h.u, h'.u]⟩
end Bg

set_option Elab.async false
set_option linter.all false
set_option maxRecDepth 100000
set_option maxHeartbeats 1000000
namespace Bg
open PySem PySem.Spec PyProof.Rows L2 PySem.Calls
open AutoSeq1 (wpAny_loadPart')
/-! ### enumerate(t), t a tuple -/
/-- the objects of an enumerate of a tuple: the tuple's own walk, and itself -/
abbrev walkO (a : Addr) : Obj := { cls := .type "tuple_iterator", data := .fields #[.ref a, .int 0 0] }
abbrev enumO (it : Addr) : Obj := { cls := .type "enumerate", data := .fields #[.none, .bool false, .ref it, rawInt 0, .none, .none] }
theorem enum_new (a : Addr) (vs : Array Value) (m : Nat) (od : Option Addr) (os : Array (Option Value)) :
    Meets (Builtin.«enumerate.__new__» ⟨[.type "enumerate", .ref a], []⟩) (fun _ R s => s.heap.get? a = some { cls := .type "tuple", dict := od, data := .seq vs m, slots := os } ∧
      R (.ok (.ret (.ref (s.heap.push (walkO a)).objs.size))) { s with heap := (s.heap.push (walkO a)).push (enumO s.heap.objs.size) }) :=
  .of_wp fun prog w A R s h => by
    obtain ⟨hp, g, d, tk, os⟩ := s
    obtain ⟨got, fin⟩ := h
    have sub0 := sub_enumerate
    have isT : Heap.IsTuple (Shared.heap ⟨hp, g, d, tk, os⟩) a vs := ⟨_, got, rfl, m, rfl⟩
    wp_walk using wpAny_loadPart' got
    refine wpAny_stack_any fun st => wpAny_pure ?_
    split
    · rename_i c _ _ _ _ _
      cases (c == Value.type "enumerate")
      · wp_walk using wpAny_loadPart' got, wpAny_pyIter_tuple isT
        exact ⟨_, rfl, fin⟩
      · wp_walk using wpAny_loadPart' got, wpAny_pyIter_tuple isT
        exact ⟨_, rfl, fin⟩
    · wp_walk using wpAny_loadPart' got, wpAny_pyIter_tuple isT
      exact ⟨_, rfl, fin⟩
section
variable {prog : Program} {w : World} {A : Around} {E : Value → Shared → Prop} {s : Shared}
theorem enum_tuple {a : Addr} {vs : Array Value} {Q : Value → Shared → Prop} (isT : s.heap.IsTuple a vs)
    (fin : ∀ g, IsEnum g (s.heap.objs.size + 1) s.heap.objs.size 0 .none → g.IsTupleIter s.heap.objs.size a 0 → (∀ b o, s.heap.get? b = some o → g.get? b = some o) → Q (.ref (s.heap.objs.size + 1)) { s with heap := g }) :
    wpAny (model prog w) A (call (.type "enumerate") [.ref a]) Q E s := by
  obtain ⟨⟨c, od, ou, os⟩, got, hc, m, hd⟩ := isT
  replace hc : c = .type "tuple" := hc
  replace hd : ou = .seq vs m := hd
  subst hc
  subst hd
  refine callType_new F.called_enumerate (by decide) (F.typeCall_enumerate_1 _) (F.newCall_enumerate_1 _) (fun u => F.args_object_init_2 u _) F.entry_enumerate_new (enum_new a vs m od os) ⟨got, ?_⟩
  have size1 : (s.heap.push (walkO a)).objs.size = s.heap.objs.size + 1 := Heap.size_push ..
  show _ ∧ _
  rw [size1]
  have isE : IsEnum ((s.heap.push (walkO a)).push (enumO s.heap.objs.size)) (s.heap.objs.size + 1) s.heap.objs.size 0 .none := by
    have z := Heap.get?_push_size (s.heap.push (walkO a)) (o := enumO s.heap.objs.size) rfl
    rw [size1] at z
    exact z
  exact ⟨⟨_, isE, rfl⟩, fin _ isE ⟨_, Heap.get?_push_of_some _ (Heap.get?_push_size _ rfl), rfl, rfl⟩ fun b o e => Heap.get?_push_of_some _ (Heap.get?_push_of_some _ e)⟩
end
/-- the tuple at a, each item in a new pair -/
def IteT (K : PySem.W.Frag) (a : Addr) : It where
  go i H := ∃ (xs : List V) (x : V), SqT K H a xs ∧ xs[i]? = some x
  yld i H v H' := ∃ T x, v = .ref T ∧ H T = none ∧ H' = upd H T (.tup [.int (i : Nat), x]) ∧ ∀ xs, SqT K H a xs → xs[i]? = some x
  stop i H := ∃ xs : List V, SqT K H a xs ∧ xs.length ≤ i
theorem turn_enumT {P : Program} {w : World} {K : PySem.W.Frag} {elts : List Expr} {kk : Nat} {tpos : Pos} (a e it : Addr) :
    Turn P w K (.Tuple elts kk tpos) (IteT K a) [e, it] e (fun i h => (∃ old, IsEnum h e it ((i : Nat) : Int) old) ∧ h.IsTupleIter it a i ∧ e ≠ it ∧ a ≠ it ∧ e ≠ a) where
  mem := List.mem_cons_self
  obj := fun i h st b hb => by
    obtain ⟨⟨old, isE⟩, ⟨o, got, hc, hd⟩, _⟩ := st
    rcases List.mem_cons.mp hb with rfl | hb
    · exact ⟨_, isE, fun v q => nomatch q⟩
    · cases List.mem_singleton.mp hb
      exact ⟨o, got, fun v q => by rw [hd] at q; cases q⟩
  keep := fun i h h' st k => by
    obtain ⟨⟨old, isE⟩, isI, rest⟩ := st
    exact ⟨⟨old, k e List.mem_cons_self _ isE⟩, isI.at fun o q => k it (List.mem_cons_of_mem _ List.mem_cons_self) o q, rest⟩
  item := by
    intro X hP hw hK calm i pins s σ H E I hf st hg
    subst hP
    subst hw
    subst hK
    obtain ⟨⟨old, isE⟩, isI, ne1, ne2, ne3⟩ := st
    obtain ⟨xs, x, sq, hx⟩ := hg
    obtain ⟨its, rv, isT, hz⟩ := I.tuple sq
    obtain ⟨u, hu, ru⟩ := rv.get hx
    have lt : i < its.toArray.size := by
      have := (List.getElem?_eq_some_iff.mp hu).1
      simpa using this
    have lte : e < s.heap.objs.size := Heap.lt_size isE
    have lti : it < s.heap.objs.size := by obtain ⟨_, z, _⟩ := isI; exact Heap.lt_size z
    have D := Draws.tuple (prog := X.prog) (w := X.w) (A := X.A.in1) (by simpa using I.ok.hd calm) it a ne2 its.toArray
    refine wpAny_pyNext_enum_itemD D isE ⟨isI, isT⟩ lt ne1 (by simp [ne1, ne3]) fun y g tk hy isO st2 gotT size2 keep2 => ?_
    have ey : y = u := by
      have e2 : its.toArray[i]? = some u := by simpa using hu
      exact Option.some.inj (hy.symm.trans e2)
    subst ey
    refine ⟨_, rfl, wpAny_letOwnedTupleGo_enum (s := { s with heap := g, toks := tk + 1 }) isO fun g2 isE2 sb => ?_⟩
    have gotT2 : g2.get? s.heap.objs.size = some { cls := .type "tuple", data := .seq #[.int i tk, y] } := (sb.2 _ (Nat.ne_of_gt lte)).trans gotT
    have new : ObjOk X.prog X.w (upd H s.heap.objs.size (.tup [.int (i : Nat), x])) g2 s.heap.objs.size (.tup [.int (i : Nat), x]) :=
      ⟨(show 2 ≤ sizeLine by decide), [.int i tk, y], .cons ⟨_, rfl⟩ (.cons ru .nil), ⟨_, gotT2, rfl, _, rfl⟩⟩
    have I2 : Inv X pins σ (upd H s.heap.objs.size (.tup [.int (i : Nat), x])) { s with heap := g2, toks := tk + 1 } :=
      I.turnedNew (ch := [e, it]) (fun b ob hb q => (sb.2 b (fun z => hb (by simp [z]))).trans (keep2 b ob (fun z => hb (by simp [z])) (fun z => hb (by simp [z])) q)) hf (Nat.le_refl _) new
    refine ⟨.ref s.heap.objs.size, _, I2, rfl, ⟨_, x, rfl, I.hok.fresh (Nat.le_refl _), rfl, fun ys hy => by rw [I.tuple_inj hy sq]; exact hx⟩, ⟨⟨y, ?_⟩, st2.1.at fun o q => (sb.2 it ne1.symm).trans q, ne1, ne2, ne3⟩, fun b hb => ?_⟩
    · rw [show ((i + 1 : Nat) : Int) = (i : Int) + 1 by omega]
      exact isE2
    · have ltb : b < s.heap.objs.size := by
        rcases List.mem_cons.mp hb with rfl | hb
        · exact lte
        · cases List.mem_singleton.mp hb
          exact lti
      rw [upd_ne (Nat.ne_of_lt ltb)]
      exact (hf b hb).1
  done := by
    intro X hP hw hK calm i pins s σ H E I hf st hg
    subst hP
    subst hw
    subst hK
    obtain ⟨⟨old, isE⟩, isI, ne1, ne2, ne3⟩ := st
    obtain ⟨xs, sq, le⟩ := hg
    obtain ⟨its, rv, isT, hz⟩ := I.tuple sq
    obtain ⟨f0, f1, f2, f3, f4, f5⟩ := hf it (by simp)
    have len := rv.length
    have calm2 : X.A.in1.handled = none := by simpa using I.ok.hd calm
    have D : Draws X.prog X.w X.A.in1 it [it, a] i (fun _ _ => False) (fun j h => j = i ∧ h.IsTupleIter it a i ∧ h.IsTuple a its.toArray) :=
      { live := fun _ _ st => let ⟨o, ho, _⟩ := st.2.1; ⟨o, ho⟩
        frame := fun _ _ _ st hk => ⟨st.1, st.2.1.at fun o q => hk it (by simp) o q, st.2.2.at fun o q => hk a (by simp) o q⟩
        item := fun j _ _ _ lt st _ => absurd st.1 (Nat.ne_of_lt lt)
        done := fun _ _ _ st hE => wpAny_nextOf_tuple_end calm2 st.2.1 st.2.2 (by simp; omega) hE }
    exact wpAny_pyNext_enum_endD D isE ⟨rfl, isI, isT⟩ fun g eb => ⟨rfl, I.turned (t' := s.toks) (fun b o hb q => eb b o hb q) f0 f1 f3 f4 f5⟩
  self := fun A i s Q E st h => let ⟨⟨_, isE⟩, _⟩ := st; wpAny_pyIter_enum isE h
def iEnumT (K : PySem.W.Frag) (ta : TA) : TI := fun σ H R => ta σ H fun vs H1 => ∃ a xs, vs = [.ref a] ∧ SqT K H1 a xs ∧ R (IteT K a) H1
theorem pi_enumT {X : Cx} {e : Expr} {ta : TA} {p pos tpos : Pos} {elts : List Expr} {kk : Nat} (gl : Gl X "enumerate") (no : X.mg "enumerate" = none) (ha : PA X [e] ta) (st : starEach [e] X.env = [(false, eval e X.env)] := by rfl) :
    PI X (.Tuple elts kk tpos) (.Call (.Name "enumerate" p) [e] [] pos) (iEnumT X.K ta) := by
  constructor
  intro pins s σ H R I h
  refine Call_ (ld_blt I gl no boot_enumerate ?_)
  refine PyProof.Rows.callWith_type1 (thn (ha.run pos pins s σ H _ I h) ?_) st rfl
  rintro us s1 ⟨vs, H1, I1, r1, q1⟩
  obtain ⟨a, xs, rfl, sq, q⟩ := q1
  obtain ⟨u, rfl, ru⟩ := vals1 r1
  cases (show u = Value.ref a from ru)
  obtain ⟨its, rv, isT, hz⟩ := I1.tuple sq
  have lta : a < s1.heap.objs.size := by obtain ⟨_, z, _⟩ := isT; exact Heap.lt_size z
  refine enum_tuple isT fun g isE isI keep => wpAny_pyIter_enum isE ?_
  have I2 : Inv X pins σ H1 { s1 with heap := g } := I1.kept (t' := s1.toks) keep
  refine ⟨s1.heap.objs.size + 1, [s1.heap.objs.size + 1, s1.heap.objs.size], _, _, H1, rfl, I2, turn_enumT a (s1.heap.objs.size + 1) s1.heap.objs.size, ⟨⟨.none, isE⟩, isI, Nat.succ_ne_self _, Nat.ne_of_lt lta, (Nat.ne_of_lt (Nat.lt_succ_of_lt lta)).symm⟩, fun b hb => ?_, q⟩
  have le : s1.heap.objs.size ≤ b := by
    rcases List.mem_cons.mp hb with rfl | hb
    · exact Nat.le_add_right _ _
    · cases List.mem_singleton.mp hb
      exact Nat.le_refl _
  exact I1.fpOk le (I1.hok.fresh le)
theorem walk_enumT {K : PySem.W.Frag} {a : Addr} {xs : List V} : Walk (IteT K a) xs.length (fun H => SqT K H a xs) (YPair (fun i => some (.int (i : Nat))) (fun i => xs[i]?)) := by
  refine ⟨fun i _ hi q => ⟨xs, xs[i], q, by simp [hi]⟩, fun _ q => ⟨xs, q, Nat.le_refl _⟩, fun i H v H' _ q y => ?_⟩
  obtain ⟨T, x, h1, h2, h3, h4⟩ := y
  exact ⟨T, .int (i : Nat), x, h1, h2, h3, rfl, h4 xs q⟩
end Bg

set_option Elab.async false
set_option linter.all false
set_option maxRecDepth 100000
set_option maxHeartbeats 4000000
namespace Dl
open PySem PySem.Spec PyProof.Rows L2
/-! ### what is walked: lists, tuples, ranges -/
def iE (a : DE) : DI := fun S => (a S).bind fun p => match p.1 with
  | .lst ds => some (ds, p.2)
  | .tup ds => some (ds, p.2)
  | _ => none
def rangeD (lo : Int) (n : Nat) : List D := (List.range n).map fun i => .int (lo + (i : Nat))
def iR1 (a : DA) : DI := fun S => (a S).bind fun p => match p.1 with
  | [.int j] => if (decide (-(2 ^ 62) ≤ j) && decide (j < 2 ^ 62)) = true then some (rangeD 0 j.toNat, p.2) else none
  | _ => none
def enumD (n : Nat) : List D → List D
  | [] => []
  | d :: ds => .tup [.int n, d] :: enumD (n + 1) ds
def iEn (a : DA) : DI := fun S => (a S).bind fun p => match p.1 with
  | [.lst ds] => some (enumD 0 ds, p.2)
  | [.tup ds] => some (enumD 0 ds, p.2)
  | _ => none
section
variable {K : PySem.W.Frag} {ta : TE} {fa : DE} {tA : TA} {fA : DA}
def tiOr (w w' : TI) : TI := fun σ H R => w σ H R ∨ w' σ H R
theorem walk_dlst {α : List Addr} {Hm : Hp} {a : Addr} {xs : List V} {ds : List D} (h : SqL K Hm a xs) (r : DRs K α Hm xs ds) : WalkD K α Hm (Itl K a) ds := by
  refine ⟨fun H => SqL K H a xs, YAt xs, by rw [← r.len]; exact walk_list, fun H2 M2 s => ?_, fun i H2 x H3 M2 hi s l y => ?_⟩
  · exact sqL_lim (s.seq h)
  · obtain ⟨rfl, y⟩ := y
    obtain ⟨d, e, dr⟩ := r.getV y
    exact ⟨Same.refl _, d, e, fun α2 p => dr.mono s p⟩
theorem walk_dtup {α : List Addr} {Hm : Hp} {a : Addr} {xs : List V} {ds : List D} (h : SqT K Hm a xs) (r : DRs K α Hm xs ds) : WalkD K α Hm (Itt K a) ds := by
  refine ⟨fun H => SqT K H a xs, YAt xs, by rw [← r.len]; exact walk_tup, fun H2 M2 s => ?_, fun i H2 x H3 M2 hi s l y => ?_⟩
  · exact sqT_lim (Bg.sqT_same s h)
  · obtain ⟨rfl, y⟩ := y
    obtain ⟨d, e, dr⟩ := r.getV y
    exact ⟨Same.refl _, d, e, fun α2 p => dr.mono s p⟩
theorem rf_iE (ha : RefE K ta fa) : RefI K (tiOr (iList K ta) (iTup K ta)) (iE fa) := by
  intro N H0 α0 α σ H S ds S' Rr R e q
  obtain ⟨⟨x, S1⟩, e1, e⟩ := opt_bind e
  cases x <;> first | (cases e; done) | skip
  · cases e
    refine .inl (ha N H0 α0 α σ H S _ _ _ R e1 fun v α1 H1 R1 g1 d1 => ?_)
    cases d1 with
    | lst a b => exact ⟨_, rfl, ⟨_, sqL_lim a⟩, q _ α1 H1 R1 g1 (walk_dlst a b)⟩
  · cases e
    refine .inr (ha N H0 α0 α σ H S _ _ _ R e1 fun v α1 H1 R1 g1 d1 => ?_)
    cases d1 with
    | tup a b => exact ⟨_, rfl, ⟨_, sqT_lim a⟩, q _ α1 H1 R1 g1 (walk_dtup a b)⟩
theorem walk_drng {α : List Addr} {Hm : Hp} {lo : Int} {n : Nat} : WalkD K α Hm (Itr lo n) (rangeD lo n) := by
  have hl : (rangeD lo n).length = n := by unfold rangeD; rw [List.length_map, List.length_range]
  refine ⟨fun _ => True, YFn fun i => .int (lo + (i : Nat)), by rw [hl]; exact walk_range, fun _ _ _ => trivial, fun i H2 x H3 M2 hi s l y => ?_⟩
  obtain ⟨rfl, rfl⟩ := y
  rw [hl] at hi
  refine ⟨Same.refl _, .int (lo + (i : Nat)), ?_, fun α2 p => .int _⟩
  unfold rangeD
  rw [List.getElem?_map, List.getElem?_range hi]
  rfl
theorem rf_iR1 (ha : RefA K tA fA) : RefI K (iRng1 tA) (iR1 fA) := by
  intro N H0 α0 α σ H S ds S' Rr R e q
  obtain ⟨⟨xs, S1⟩, e1, e⟩ := opt_bind e
  refine ha N H0 α0 α σ H S xs S1 _ R e1 fun v α1 H1 R1 g1 d1 => ?_
  simp only at e
  split at e
  · split at e
    · rename_i c
      cases e
      rw [Bool.and_eq_true, decide_eq_true_eq, decide_eq_true_eq] at c
      cases d1 with
      | cons r1 r2 => cases r2; cases r1; exact ⟨_, rfl, c.1, c.2, q _ α1 H1 R1 g1 walk_drng⟩
    · cases e
  · cases e
end
/-! ### lists of one's own -/
abbrev DL := Sx → Option (List D × Sx)
def NewP (N : Addr → Prop) (p : Addr) : Addr → Prop := fun a => N a ∨ a = p
def RefL (K : PySem.W.Frag) (te : TE) (f : DL) : Prop := ∀ (N : Addr → Prop) (H0 : Hp) (α0 α : List Addr) (σ : L2.St) (H : Hp) (S : Sx) (ds : List D) (S' : Sx) (Q : VK),
  SR K N H0 α0 α σ H S → f S = some (ds, S') →
  (∀ p α' H' vs, SR K (NewP N p) H0 α0 α' σ H' S' → Gr α H S α' H' S' → H p = none → H0 p = none → H' p = some (.lst vs) → DRs K α' (lim H' (Mx (NewP N p) α' S' σ)) vs ds → Q (.ref p) H') → te σ H Q
def tlOf (K : PySem.W.Frag) (f : DL) : TE := fun σ H Q => ∃ (N : Addr → Prop) (H0 : Hp) (α0 α : List Addr) (S : Sx) (ds : List D) (S' : Sx), SR K N H0 α0 α σ H S ∧ f S = some (ds, S') ∧
  ∀ p α' H' vs, SR K (NewP N p) H0 α0 α' σ H' S' → Gr α H S α' H' S' → H p = none → H0 p = none → H' p = some (.lst vs) → DRs K α' (lim H' (Mx (NewP N p) α' S' σ)) vs ds → Q (.ref p) H'
def JL (X : Cx) (e : Expr) (f : DL) : Prop := PE X e (tlOf X.K f)
theorem JL.of {X : Cx} {e : Expr} {te : TE} {f : DL} (h : PE X e te) (r : RefL X.K te f) : JL X e f := ⟨fun pins s σ H Q I ⟨N, H0, α0, α, S, d, S', R, e, q⟩ => h.run pins s σ H Q I (r N H0 α0 α σ H S d S' Q R e q)⟩
theorem JL.pe {X : Cx} {e : Expr} {f : DL} (h : JL X e f) : PE X e (tlOf X.K f) := h
theorem JL.rf {X : Cx} {e : Expr} {f : DL} (h : JL X e f) : RefL X.K (tlOf X.K f) f := fun N H0 α0 α σ H S d S' Q R e q => ⟨N, H0, α0, α, S, d, S', R, e, q⟩
def eL (f : DL) : DE := fun S => (f S).map fun p => (.lst p.1, p.2)
def lDisp (a : DA) : DL := fun S => (a S).bind fun p => if p.1.length ≤ 1000 then some p else none
def sOwn (i : Nat) (f : DL) : DS := fun S => (f S).bind fun p => if i < p.2.env.length then some (.nx, p.2.put i (.own p.1)) else none
def isOwn (S : Sx) (i : Nat) : Option (List D) := match S.env[i]? with
  | some (.own ds) => some ds
  | _ => none
def sApp (i : Nat) (e : DE) : DS := fun S => (isOwn S i).bind fun _ => (e S).bind fun p => (isOwn p.2 i).bind fun ds => if ds.length < 16777216 then some (.nx, p.2.put i (.own (ds ++ [p.1]))) else none
def sPutI (i : Nat) (ix e : DE) : DS := fun S => (e S).bind fun p => (isOwn p.2 i).bind fun _ => (ix p.2).bind fun q => (isOwn q.2 i).bind fun ds => match q.1 with
  | .int k => (ixN ds.length k).bind fun j => some (.nx, q.2.put i (.own (ds.set j p.1)))
  | _ => none
theorem isOwn_ok {S : Sx} {i : Nat} {ds : List D} (h : isOwn S i = some ds) : S.env[i]? = some (.own ds) := by
  unfold isOwn at h
  split at h
  · rename_i e; cases h; exact e
  · cases h
section
variable {K : PySem.W.Frag} {N : Addr → Prop} {H0 H H' : Hp} {α0 α α' : List Addr} {σ : L2.St} {S S' : Sx} {p : Addr}
/-- a new thing that is not to be changed within -/
theorem SR.add {o : HO} (R : SR K N H0 α0 α σ H S) (np : H p = none) : SR K (NewP N p) H0 α0 α σ (upd H p o) S := by
  have s : Same H (upd H p o) := Bg.same_new np
  have nm : ¬ Mx N α S σ p := fun z => R.mlive p z np
  have sm : Same (lim H (Mx N α S σ)) (lim (upd H p o) (Mx (NewP N p) α S σ)) := by
    refine lim_keep (fun a o _ e => s _ _ e) fun a m l => ?_
    rcases m with (m | m) | m
    · exact .inl m
    · subst m; exact absurd np l
    · exact .inr m
  have R2 := R.same s
  refine ⟨R2.pre, R2.len, R2.nd, fun a n => ?_, fun a h n => ?_, fun a h => ⟨fun n => ?_, (R.on a h).2⟩, R2.uniq, fun i x e => (R.slot i x e).mono (fun a u _ _ q => s _ _ q) sm (List.prefix_refl _), ⟨R.sto.len, fun n o e => ?_⟩, R2.keep, R2.fresh, R2.fral, R2.frz⟩
  · rcases n with n | rfl
    · exact R2.live a n
    · rw [upd_same]; exact fun z => (nomatch z)
  · rcases n with n | rfl
    · exact R.na a h n
    · exact nm (.inr (.inl h))
  · rcases n with n | rfl
    · exact (R.on a h).1 n
    · exact nm (.inr (.inr h))
  · obtain ⟨b, y1, y2⟩ := R.sto.at_ n o e
    exact ⟨b, y1, y2.mono (fun u q => s _ _ q) sm (List.prefix_refl _)⟩
theorem SR.less (R : SR K (NewP N p) H0 α0 α σ H S) : SR K N H0 α0 α σ H S ∧ Same (lim H (Mx (NewP N p) α S σ)) (lim H (Mx N α S σ)) := by
  have sm : Same (lim H (Mx (NewP N p) α S σ)) (lim H (Mx N α S σ)) := lim_keep (fun _ _ _ e => e) fun a m _ => m.imp .inl id
  refine ⟨⟨R.pre, R.len, R.nd, fun a n => R.live a (.inl n), fun a h n => R.na a h (.inl n), fun a h => ⟨fun n => (R.on a h).1 (.inl n), (R.on a h).2⟩, R.uniq, fun i x e => (R.slot i x e).mono (fun a u _ _ q => q) sm (List.prefix_refl _), ⟨R.sto.len, fun n o e => ?_⟩, R.keep, R.fresh, R.fral, R.frz⟩, sm⟩
  obtain ⟨b, y1, y2⟩ := R.sto.at_ n o e
  exact ⟨b, y1, y2.mono (fun u q => q) sm (List.prefix_refl _)⟩
theorem SR.base_none (R : SR K N H0 α0 α σ H S) (np : H p = none) : H0 p = none := by
  cases e : H0 p with
  | none => rfl
  | some o =>
    by_cases c : p ∈ α0
    · exact absurd np (R.mlive p (.inr (.inl (R.pre.subset c))))
    · rw [R.keep p o c e] at np; cases np
variable {ta : TE} {fa : DE} {tA : TA} {fA : DA} {f : DL}
theorem Gr.none {S' : Sx} (g : Gr α H S α' H' S') (R : SR K N H0 α0 α' σ H' S') (np : H' p = none) : H p = none := by
  cases e : H p with
  | none => rfl
  | some o =>
    by_cases c : p ∈ α
    · exact absurd np (R.mlive p (.inr (.inl (g.pre.subset c))))
    · rw [g.keep p o c e] at np; cases np
theorem rf_disp (ha : RefA K tA fA) : RefL K (tLst tA) (lDisp fA) := by
  intro N H0 α0 α σ H S ds S' Q R e q
  obtain ⟨⟨xs, S1⟩, e1, e⟩ := opt_bind e
  simp only at e
  split at e
  · rename_i hl
    cases e
    refine ha N H0 α0 α σ H S _ _ _ R e1 fun vs α1 H1 R1 g1 d1 => ?_
    refine ⟨by rw [d1.len]; exact sz1000 hl, fun p np => ?_⟩
    have s : Same H1 (upd H1 p (.lst vs)) := Bg.same_new np
    refine q p α1 _ vs (R1.add np) (g1.trans (.of_same s)) (g1.none R1 np) (R1.base_none np) upd_same ?_
    refine d1.mono (lim_keep (fun a o _ e => s _ _ e) fun a m l => ?_) (List.prefix_refl _)
    rcases m with (m | m) | m
    · exact .inl m
    · subst m; exact absurd np l
    · exact .inr m
  · cases e
/-- the new list as data -/
theorem SR.asData {vs : List V} {ds : List D} (R : SR K (NewP N p) H0 α0 α σ H S) (hp : H p = some (.lst vs)) (d : DRs K α (lim H (Mx (NewP N p) α S σ)) vs ds) (nn : ¬ N p) :
    DR K α (lim H (Mx N α S σ)) (.ref p) (.lst ds) := by
  refine .lst (.inl (.inl (lim_some.mpr ⟨?_, hp⟩))) (d.mono R.less.2 (List.prefix_refl _))
  rintro (z | z | z)
  · exact nn z
  · exact R.na p z (.inr rfl)
  · exact (R.on p z).1 (.inr rfl)
theorem rf_eL (h : RefL K ta f) : RefE K ta (eL f) := by
  intro N H0 α0 α σ H S d S' Q R e q
  obtain ⟨⟨ds, S1⟩, e1, e⟩ := opt_map e
  cases e
  refine h N H0 α0 α σ H S ds _ Q R e1 fun p α1 H1 vs R1 g1 np n0 hp d1 => ?_
  exact q _ α1 H1 R1.less.1 g1 (R1.asData hp d1 fun z => R.live p z np)
theorem own_put {i j : Nat} {ds es : List D} (hi : i < S.env.length) (e : (S.put i (.own ds)).env[j]? = some (.own es)) : (i = j ∧ ds = es) ∨ (i ≠ j ∧ S.env[j]? = some (.own es)) := by
  have e' : (S.env.set i (.own ds))[j]? = some (.own es) := e
  by_cases c : i = j
  · subst c
    rw [List.getElem?_set_self hi] at e'
    cases e'
    exact .inl ⟨rfl, rfl⟩
  · rw [List.getElem?_set_ne c] at e'
    exact .inr ⟨c, e'⟩
/-- a name gets a list of its own -/
theorem SR.putOwn {i : Nat} {vs : List V} {ds : List D} (R : SR K (NewP N p) H0 α0 α σ H S) (hp : H p = some (.lst vs)) (n0 : H0 p = none) (nn : ¬ N p) (d : DRs K α (lim H (Mx (NewP N p) α S σ)) vs ds) (hi : i < S.env.length) :
    SR K N H0 α0 α (σ.set i (some (.ref p))) H (S.put i (.own ds)) ∧ Same (lim H (Mx (NewP N p) α S σ)) (lim H (Mx N α (S.put i (.own ds)) (σ.set i (some (.ref p))))) := by
  have ow : ∀ a, Owned (S.put i (.own ds)) (σ.set i (some (.ref p))) a → a = p ∨ Owned S σ a := by
    rintro a ⟨j, es, e1, e2⟩
    rcases own_put hi e1 with ⟨rfl, _⟩ | ⟨c, e⟩
    · rw [List.getElem?_set_self (by rw [← R.len]; exact hi)] at e2
      cases e2
      exact .inl rfl
    · rw [List.getElem?_set_ne c] at e2
      exact .inr ⟨j, es, e, e2⟩
  have sm : Same (lim H (Mx (NewP N p) α S σ)) (lim H (Mx N α (S.put i (.own ds)) (σ.set i (some (.ref p))))) := by
    refine lim_keep (fun _ _ _ e => e) fun a m _ => ?_
    rcases m with m | m | m
    · exact .inl (.inl m)
    · exact .inr (.inl m)
    · rcases ow a m with rfl | m
      · exact .inl (.inr rfl)
      · exact .inr (.inr m)
  have L := R.less.1
  refine ⟨⟨L.pre, ?_, L.nd, L.live, L.na, fun a h => ?_, fun j k es fs b z1 z2 z3 z4 => ?_, fun j x z => ?_, ⟨L.sto.len, fun n o z => ?_⟩, L.keep, fun a h => ?_, L.fral, L.frz⟩, sm⟩
  · show (S.env.set i _).length = _
    rw [List.length_set, List.length_set]; exact R.len
  · rcases ow a h with rfl | h
    · exact ⟨nn, fun z => R.na a z (.inr rfl)⟩
    · exact L.on a h
  · have hpo : ∀ (k : Nat) (fs : List D), S.env[k]? = some (.own fs) → σ[k]? = some (some (.ref p)) → False := fun k fs e1 e2 => (R.on p ⟨k, fs, e1, e2⟩).1 (.inr rfl)
    rcases own_put hi z1 with ⟨rfl, _⟩ | ⟨c, e⟩
    · rcases own_put hi z2 with ⟨rfl, _⟩ | ⟨c2, e2⟩
      · rfl
      · rw [List.getElem?_set_self (by rw [← R.len]; exact hi)] at z3
        cases z3
        rw [List.getElem?_set_ne c2] at z4
        exact absurd z4 fun z4 => hpo k fs e2 z4
    · rcases own_put hi z2 with ⟨rfl, _⟩ | ⟨c2, e2⟩
      · rw [List.getElem?_set_self (by rw [← R.len]; exact hi)] at z4
        cases z4
        rw [List.getElem?_set_ne c] at z3
        exact absurd z3 fun z3 => hpo j es e z3
      · rw [List.getElem?_set_ne c] at z3
        rw [List.getElem?_set_ne c2] at z4
        exact R.uniq j k es fs b e e2 z3 z4
  · have z' : (S.env.set i (.own ds))[j]? = some x := z
    by_cases c : i = j
    · subst c
      rw [List.getElem?_set_self hi] at z'
      cases z'
      rw [List.getElem?_set_self (by rw [← R.len]; exact hi)]
      exact ⟨p, vs, rfl, hp, d.mono sm (List.prefix_refl _)⟩
    · rw [List.getElem?_set_ne c] at z' ⊢
      exact (R.slot j x z').mono (fun a u _ _ h => h) sm (List.prefix_refl _)
  · obtain ⟨b, y1, y2⟩ := R.sto.at_ n o z
    exact ⟨b, y1, y2.mono (fun _ h => h) sm (List.prefix_refl _)⟩
  · rcases ow a h with rfl | h
    · exact n0
    · exact L.fresh a h
theorem rf_own {i : Nat} (h : RefL K ta f) : RefS K (tAsg ta (gName i)) (sOwn i f) := by
  intro N H0 α0 α σ H S fl S' E R e q
  obtain ⟨⟨ds, S1⟩, e1, e⟩ := opt_bind e
  simp only at e
  split at e
  · rename_i hi
    cases e
    refine h N H0 α0 α σ H S ds S1 _ R e1 fun p α1 H1 vs R1 g1 np n0 hp d1 => ?_
    obtain ⟨R2, s2⟩ := R1.putOwn (i := i) hp n0 (fun z => R.live p z np) d1 hi
    refine q _ α1 H1 R2 g1.pre (Same.trans ?_ s2)
    refine lim_keep (fun a o nm e => g1.keep a o (fun z => nm (.inr (.inl z))) e) fun a m l => ?_
    rcases m with (m | m) | m | ⟨j, es, m, y⟩
    · exact .inl m
    · subst m; exact absurd np l
    · by_cases z : a ∈ α
      · exact .inr (.inl z)
      · exact absurd (g1.fr a m z) l
    · exact .inr (.inr ⟨j, es, g1.own j es m, y⟩)
  · cases e
/-- a list of one's own is changed -/
theorem SR.chg {i : Nat} {vs : List V} {ds : List D} {ds0 : List D} {a : Addr} (R : SR K N H0 α0 α σ H S) (e : S.env[i]? = some (.own ds0)) (ea : σ[i]? = some (some (.ref a))) (d : DRs K α (lim H (Mx N α S σ)) vs ds) :
    SR K N H0 α0 α σ (upd H a (.lst vs)) (S.put i (.own ds)) ∧ Same (lim H (Mx N α S σ)) (lim (upd H a (.lst vs)) (Mx N α (S.put i (.own ds)) σ)) := by
  have hi : i < S.env.length := (List.getElem?_eq_some_iff.mp e).1
  have oa : Owned S σ a := ⟨i, ds0, e, ea⟩
  have ow : ∀ b, Owned (S.put i (.own ds)) σ b ↔ Owned S σ b := by
    intro b
    constructor
    · rintro ⟨j, es, e1, e2⟩
      rcases own_put hi e1 with ⟨rfl, _⟩ | ⟨c, e'⟩
      · exact ⟨i, ds0, e, e2⟩
      · exact ⟨j, es, e', e2⟩
    · rintro ⟨j, es, e1, e2⟩
      by_cases c : i = j
      · subst c
        exact ⟨i, ds, List.getElem?_set_self hi, e2⟩
      · refine ⟨j, es, ?_, e2⟩
        show (S.env.set i _)[j]? = _
        rw [List.getElem?_set_ne c]; exact e1
  have sm : Same (lim H (Mx N α S σ)) (lim (upd H a (.lst vs)) (Mx N α (S.put i (.own ds)) σ)) := by
    refine lim_keep (fun b o nm h => ?_) fun b m _ => m.imp id fun z => z.imp id (ow b).mp
    rw [upd_ne (a := a) (b := b) fun z => nm (.inr (.inr (by rw [z]; exact oa)))]; exact h
  have ua : ∀ b, b ≠ a → upd H a (.lst vs) b = H b := fun b h => upd_ne h
  refine ⟨⟨R.pre, ?_, R.nd, fun b n => ?_, R.na, fun b h => R.on b ((ow b).mp h), fun j k es fs b z1 z2 z3 z4 => ?_, fun j x z => ?_, ⟨R.sto.len, fun n o z => ?_⟩, fun b o n h => ?_, fun b h => R.fresh b ((ow b).mp h), R.fral, fun b o u h => by rw [ua b fun z => by (subst z; rw [R.fresh _ oa] at h; cases h)]; exact R.frz b o u h⟩, sm⟩
  · show (S.env.set i _).length = _
    rw [List.length_set]; exact R.len
  · rw [ua b fun z => (R.on a oa).1 (z ▸ n)]; exact R.live b n
  · rcases own_put hi z1 with ⟨rfl, _⟩ | ⟨c, e1⟩
    · rcases own_put hi z2 with ⟨rfl, _⟩ | ⟨c2, e2⟩
      · rfl
      · exact R.uniq i k ds0 fs b e e2 z3 z4
    · rcases own_put hi z2 with ⟨rfl, _⟩ | ⟨c2, e2⟩
      · exact R.uniq j i es ds0 b e1 e z3 z4
      · exact R.uniq j k es fs b e1 e2 z3 z4
  · have z' : (S.env.set i (.own ds))[j]? = some x := z
    by_cases c : i = j
    · subst c
      rw [List.getElem?_set_self hi] at z'
      cases z'
      exact ⟨a, vs, ea, upd_same, d.mono sm (List.prefix_refl _)⟩
    · rw [List.getElem?_set_ne c] at z'
      refine (R.slot j x z').mono (fun b u hb hx h => ?_) sm (List.prefix_refl _)
      obtain ⟨es, rfl⟩ := hx
      rw [ua b fun w => c (R.uniq i j ds0 es a e z' ea (w ▸ hb))]; exact h
  · obtain ⟨b, y1, y2⟩ := R.sto.at_ n o z
    refine ⟨b, y1, y2.mono (fun u h => ?_) sm (List.prefix_refl _)⟩
    rw [ua b fun w => (R.on a oa).2 (w ▸ List.mem_of_getElem? y1)]; exact h
  · rw [ua b fun w => by have := R.fresh a oa; subst w; rw [this] at h; cases h]; exact R.keep b o n h
theorem rf_app {i : Nat} (h : RefE K ta fa) : RefS K (tDrop (tBM K "list" rAppend (tVar i) (tCons ta tNil))) (sApp i fa) := by
  intro N H0 α0 α σ H S fl S' E R e q
  obtain ⟨ds0, eo0, e⟩ := opt_bind e
  obtain ⟨⟨x, S1⟩, e1, e⟩ := opt_bind e
  obtain ⟨ds, eo, e⟩ := opt_bind e
  split at e
  · rename_i c
    cases e
    obtain ⟨a, vs, ea, ha, hd⟩ := R.slot i _ (isOwn_ok eo0)
    refine ⟨_, ea, .inl ⟨rfl, vs, .inl (.inl ha)⟩, ?_⟩
    refine h N H0 α0 α σ H S x S1 _ R e1 fun v α1 H1 R1 g1 d1 => ?_
    obtain ⟨a', vs', ea', ha', hd'⟩ := R1.slot i _ (isOwn_ok eo)
    rw [ea] at ea'; cases ea'
    refine ⟨a, vs', v, rfl, rfl, ha', by rw [hd'.len]; exact c, ?_⟩
    obtain ⟨R2, s2⟩ := R1.chg (isOwn_ok eo) ea (hd'.append (.cons d1 .nil))
    exact q σ α1 _ R2 g1.pre (g1.same.trans s2)
  · cases e
end
end Dl

set_option Elab.async false
set_option linter.all false
set_option maxRecDepth 100000
set_option maxHeartbeats 4000000
namespace Dl
open PySem PySem.Spec PyProof.Rows L2
/-! ### list comprehensions -/
def wipeS (S : Sx) : List Nat → Sx
  | [] => S
  | i :: r => (wipeS S r).put i .un
def compF (vs : List Nat) (g : DG) (t : DT) (e : DE) : List D → Sx → Option (List D × Sx)
  | [], S => some ([], S)
  | x :: xs, S => (g x S).bind fun S1 => (t S1).bind fun p => if p.1 = true then (e p.2).bind fun q => (compF vs g t e xs (wipeS q.2 vs)).map fun r => (q.1 :: r.1, r.2)
    else compF vs g t e xs (wipeS p.2 vs)
def lComp (vs : List Nat) (it : DI) (g : DG) (t : DT) (e : DE) : DL := fun S => (it S).bind fun p => if p.1.length ≤ 16777216 then compF vs g t e p.1 (wipeS p.2 vs) else none
def tY : DT := fun S => some (true, S)
section
variable {K : PySem.W.Frag} {N : Addr → Prop} {H0 H H' : Hp} {α0 α α' : List Addr} {σ σ' : L2.St} {S S' : Sx}
theorem un_own {i j : Nat} {ds : List D} (e : (S.put i .un).env[j]? = some (.own ds)) : S.env[j]? = some (.own ds) := by
  have e' : (S.env.set i .un)[j]? = some (.own ds) := e
  rw [List.getElem?_set] at e'
  split at e'
  · split at e'
    · cases e'
    · cases e'
  · exact e'
theorem SR.forget {i : Nat} (R : SR K N H0 α0 α σ H S) : SR K N H0 α0 α σ H (S.put i .un) ∧ Same (lim H (Mx N α S σ)) (lim H (Mx N α (S.put i .un) σ)) := by
  have ow : ∀ a, Owned (S.put i .un) σ a → Owned S σ a := fun a ⟨j, ds, e, q⟩ => ⟨j, ds, un_own e, q⟩
  have sm : Same (lim H (Mx N α S σ)) (lim H (Mx N α (S.put i .un) σ)) := lim_keep (fun _ _ _ e => e) fun a m _ => m.imp id fun z => z.imp id (ow a)
  refine ⟨⟨R.pre, by rw [← R.len]; exact List.length_set, R.nd, R.live, R.na, fun b h => R.on b (ow b h), fun j k es fs b z1 z2 => R.uniq j k es fs b (un_own z1) (un_own z2), fun j x z => ?_, ⟨R.sto.len, fun n o z => ?_⟩, R.keep, fun b h => R.fresh b (ow b h), R.fral, R.frz⟩, sm⟩
  · have z' : (S.env.set i .un)[j]? = some x := z
    rw [List.getElem?_set] at z'
    split at z'
    · split at z'
      · cases z'; trivial
      · cases z'
    · exact (R.slot j x z').mono (fun a u _ _ h => h) sm (List.prefix_refl _)
  · obtain ⟨b, y1, y2⟩ := R.sto.at_ n o z
    exact ⟨b, y1, y2.mono (fun _ h => h) sm (List.prefix_refl _)⟩
theorem wipeS_own {vs : List Nat} {j : Nat} {ds : List D} (e : (wipeS S vs).env[j]? = some (.own ds)) : S.env[j]? = some (.own ds) := by
  induction vs with
  | nil => exact e
  | cons i r ih => exact ih (un_own e)
theorem SR.wipe (vs : List Nat) (R : SR K N H0 α0 α σ H S) : SR K N H0 α0 α σ H (wipeS S vs) ∧ Same (lim H (Mx N α S σ)) (lim H (Mx N α (wipeS S vs) σ)) := by
  induction vs with
  | nil => exact ⟨R, Same.refl _⟩
  | cons i r ih => exact ⟨ih.1.forget.1, ih.2.trans ih.1.forget.2⟩
theorem wipeS_un {vs : List Nat} {j : Nat} {x : Slot} (h : j ∈ vs) (e : (wipeS S vs).env[j]? = some x) : x = .un := by
  induction vs with
  | nil => cases h
  | cons i r ih =>
    have e' : ((wipeS S r).env.set i .un)[j]? = some x := e
    rw [List.getElem?_set] at e'
    split at e'
    · split at e'
      · cases e'; rfl
      · cases e'
    · rename_i c
      rcases List.mem_cons.mp h with rfl | h
      · exact absurd rfl c
      · exact ih h e'
/-- slots that tell nothing may be anything -/
theorem SR.slots (R : SR K N H0 α0 α σ H S) (hl : σ'.length = σ.length) (h : ∀ (j : Nat) (x : Slot), S.env[j]? = some x → x ≠ .un → σ'[j]? = σ[j]?) : SR K N H0 α0 α σ' H S ∧ (∀ a, Mx N α S σ' a ↔ Mx N α S σ a) := by
  have ow : ∀ a, Owned S σ' a ↔ Owned S σ a := fun a => ⟨fun ⟨j, ds, e, q⟩ => ⟨j, ds, e, by rw [← h j _ e (fun z => nomatch z)]; exact q⟩, fun ⟨j, ds, e, q⟩ => ⟨j, ds, e, by rw [h j _ e (fun z => nomatch z)]; exact q⟩⟩
  have mx : ∀ a, Mx N α S σ' a ↔ Mx N α S σ a := fun a => or_congr Iff.rfl (or_congr Iff.rfl (ow a))
  have em : Mx N α S σ' = Mx N α S σ := funext fun a => propext (mx a)
  refine ⟨⟨R.pre, R.len.trans hl.symm, R.nd, R.live, R.na, fun b z => R.on b ((ow b).mp z), fun j k es fs b z1 z2 z3 z4 => ?_, fun j x z => ?_, by rw [em]; exact R.sto, R.keep, fun b z => R.fresh b ((ow b).mp z), R.fral, R.frz⟩, mx⟩
  · rw [h j _ z1 (fun z => nomatch z)] at z3
    rw [h k _ z2 (fun z => nomatch z)] at z4
    exact R.uniq j k es fs b z1 z2 z3 z4
  · rw [em]
    by_cases c : x = .un
    · subst c; trivial
    · rw [h j x z c]; exact R.slot j x z
theorem wipe_wr {ws vs : List Nat} (h : Wr ws σ σ') (s : ∀ j, j ∈ ws → j ∈ vs) : L2.wipe σ' vs = L2.wipe σ vs := by
  apply List.ext_getElem?
  intro j
  by_cases c : j ∈ vs
  · have a : ∀ τ : L2.St, τ.length = σ.length → (L2.wipe τ vs)[j]? = if j < σ.length then some none else none := by
      intro τ ht
      by_cases hj : j < σ.length
      · rw [if_pos hj]
        have hj2 : j < (L2.wipe τ vs).length := by rw [wipe_length, ht]; exact hj
        rw [List.getElem?_eq_getElem hj2]
        cases e : (L2.wipe τ vs)[j] with
        | none => rfl
        | some v =>
          have : (L2.wipe τ vs)[j]? = some (some v) := by rw [List.getElem?_eq_getElem hj2, e]
          exact absurd c (wipe_some this).2
      · rw [if_neg hj, List.getElem?_eq_none_iff, wipe_length, ht]; omega
    rw [a σ' h.1, a σ rfl]
  · rw [wipe_out c, wipe_out c]
    exact h.2 j fun z => c (s j z)
theorem Gr.wipe (vs : List Nat) : Gr α H S α H (wipeS S vs) := ⟨List.prefix_refl _, fun a h n => absurd h n, fun _ _ _ e => e, fun _ _ e => wipeS_own e, fun _ _ _ e => e⟩
variable {tt : TT} {ft : DT} {te : TE} {fe : DE} {tg : TG} {fg : DG} {wi : TI} {fi : DI}
theorem rf_tY : RefT K tYes tY := by
  intro N H0 α0 α σ H S b S' Q R e q
  cases e
  exact q α H R .refl
theorem rf_comp {ws vs : List Nat} (hw : ∀ j, j ∈ ws → j ∈ vs) (hi : RefI K wi fi) (hg : RefG K ws tg fg) (ht : RefT K tt ft) (he : RefE K te fe) : RefL K (tLc wi tg tt te vs) (lComp vs fi fg ft fe) := by
  intro N H0 α0 α σ H S res S' Q R e q
  obtain ⟨⟨ds, S1⟩, e1, e⟩ := opt_bind e
  by_cases hlen : ds.length ≤ 16777216
  case neg =>
    have e : (if ds.length ≤ 16777216 then compF vs fg ft fe ds (wipeS S1 vs) else none) = some (res, S') := e
    rw [if_neg hlen] at e
    cases e
  have e : (if ds.length ≤ 16777216 then compF vs fg ft fe ds (wipeS S1 vs) else none) = some (res, S') := e
  rw [if_pos hlen] at e
  refine hi N H0 α0 α σ H S ds S1 _ R e1 fun J α1 H1 R1 g1 W => fun Dd nD => ?_
  obtain ⟨G, Y, W, WG, WY⟩ := W
  obtain ⟨Rw, sw⟩ := R1.wipe vs
  have hsl : ∀ (T : Sx), (∀ (j : Nat) (x : Slot), j ∈ vs → T.env[j]? = some x → x = .un) → ∀ (j : Nat) (x : Slot), T.env[j]? = some x → x ≠ .un → (L2.wipe σ vs)[j]? = σ[j]? := by
    intro T hT j x hx nx
    by_cases c : j ∈ vs
    · exact absurd (hT j x c hx) nx
    · exact wipe_out c
  have hun : ∀ (T : Sx) (j : Nat) (x : Slot), j ∈ vs → (wipeS T vs).env[j]? = some x → x = .un := fun T j x c hx => wipeS_un c hx
  obtain ⟨Rs, mxs⟩ := Rw.slots (σ' := L2.wipe σ vs) (wipe_length σ vs) (hsl _ (hun S1))
  have ems : Mx N α1 (wipeS S1 vs) (L2.wipe σ vs) = Mx N α1 (wipeS S1 vs) σ := funext fun a => propext (mxs a)
  have s0 : Same (lim H1 (Mx N α1 S1 σ)) (lim (upd H1 Dd (.lst [])) (Mx (NewP N Dd) α1 (wipeS S1 vs) (L2.wipe σ vs))) := by
    refine sw.trans ?_
    rw [← ems]
    refine lim_keep (fun a o _ e => Bg.same_new nD _ _ e) fun a m l => ?_
    rcases m with (m | m) | m
    · exact .inl m
    · subst m; exact absurd nD l
    · exact .inr m
  have lc := lc_it W (g := tg) (tt := tt) (te := te) (vs := vs) (σ := σ) (H1 := H1) (D := Dd) (Qd := fun H => Q (.ref Dd) H) (fun i Hc => ∃ α2 S2 acc da rest, SR K (NewP N Dd) H0 α0 α2 (L2.wipe σ vs) Hc S2 ∧ Gr α1 H1 S1 α2 Hc S2 ∧ Same (lim H1 (Mx N α1 S1 σ)) (lim Hc (Mx (NewP N Dd) α2 S2 (L2.wipe σ vs))) ∧
    Hc Dd = some (.lst acc) ∧ DRs K α2 (lim Hc (Mx (NewP N Dd) α2 S2 (L2.wipe σ vs))) acc da ∧ acc.length ≤ i ∧ compF vs fg ft fe (ds.drop i) S2 = some (rest, S') ∧ da ++ rest = res ∧ ∀ (j : Nat) (x : Slot), j ∈ vs → S2.env[j]? = some x → x = .un) ?_ ?_ ?_ ?_
  · exact lc
  · exact ⟨α1, wipeS S1 vs, [], [], res, Rs.add nD, (Gr.wipe vs).trans (.of_same (Bg.same_new nD)), s0, upd_same, .nil, Nat.le_refl _, e, rfl, hun S1⟩
  · rintro i Hc _ ⟨α2, S2, acc, da, rest, R2, g2, s2, _⟩
    exact WG Hc _ s2
  · rintro i x H2 H3 hi ⟨α2, S2, acc, da, rest, R2, g2, s2, hD, dacc, al, ef, er, un⟩ y
    obtain ⟨s3, d, ed, dd⟩ := WY i H2 x H3 _ hi s2 R2.mlive y
    have R3 := R2.same s3
    have hd : ds.drop i = d :: ds.drop (i + 1) := by
      rw [List.drop_eq_getElem_cons hi]
      congr 1
      rw [List.getElem?_eq_getElem hi] at ed
      exact Option.some.inj ed
    rw [hd] at ef
    obtain ⟨S4, e4, ef⟩ := opt_bind ef
    obtain ⟨⟨b, S5⟩, e5, ef⟩ := opt_bind ef
    have s23 : Same (lim H2 (Mx (NewP N Dd) α2 S2 (L2.wipe σ vs))) (lim H3 (Mx (NewP N Dd) α2 S2 (L2.wipe σ vs))) := lim_mono s3
    refine hg (NewP N Dd) H0 α0 α2 (L2.wipe σ vs) H3 S2 d x S4 _ R3 (dd α2 g2.pre) e4 fun σ4 α4 H4 R4 g4 s4 w4 => ⟨?_, ?_⟩
    · rw [wipe_wr w4 hw]
      exact wipe_wr (ws := vs) ⟨wipe_length σ vs, fun j h => wipe_out h⟩ fun j h => h
    refine ht (NewP N Dd) H0 α0 α4 σ4 H4 S4 b S5 _ R4 e5 fun α5 H5 R5 g5 => ?_
    have g05 : Gr α1 H1 S1 α5 H5 S5 := ((g2.trans (.of_same s3)).trans g4).trans g5
    have s05 : Same (lim H1 (Mx N α1 S1 σ)) (lim H5 (Mx (NewP N Dd) α5 S5 σ4)) := ((s2.trans s23).trans s4).trans g5.same
    have s25 : Same (lim H2 (Mx (NewP N Dd) α2 S2 (L2.wipe σ vs))) (lim H5 (Mx (NewP N Dd) α5 S5 σ4)) := (s23.trans s4).trans g5.same
    have g25 : Gr α2 H2 S2 α5 H5 S5 := ((Gr.of_same s3).trans g4).trans g5
    have nDa : Dd ∉ α2 := fun z => R2.na Dd z (.inr rfl)
    -- what stands behind a turn, the names of the comprehension forgotten
    have back : ∀ {α6 : List Addr} {H6 : Hp} {S6 : Sx}, SR K (NewP N Dd) H0 α0 α6 σ4 H6 S6 → SR K (NewP N Dd) H0 α0 α6 (L2.wipe σ vs) H6 (wipeS S6 vs) ∧ Same (lim H6 (Mx (NewP N Dd) α6 S6 σ4)) (lim H6 (Mx (NewP N Dd) α6 (wipeS S6 vs) (L2.wipe σ vs))) := by
      intro α6 H6 S6 R6
      obtain ⟨Ra, sa⟩ := R6.wipe vs
      have hw4 : ∀ (j : Nat), j ∉ vs → (L2.wipe σ vs)[j]? = σ4[j]? := fun j h => (w4.2 j fun z => h (hw j z)).symm
      obtain ⟨Rb, mb⟩ := Ra.slots (σ' := L2.wipe σ vs) w4.1.symm (fun j x hx nx => by
        by_cases c : j ∈ vs
        · exact absurd (hun S6 j x c hx) nx
        · exact hw4 j c)
      have eb : Mx (NewP N Dd) α6 (wipeS S6 vs) (L2.wipe σ vs) = Mx (NewP N Dd) α6 (wipeS S6 vs) σ4 := funext fun a => propext (mb a)
      exact ⟨Rb, by rw [eb]; exact sa⟩
    cases b with
    | false =>
      rw [if_neg Bool.false_ne_true] at ef ⊢
      obtain ⟨Rb, sb⟩ := back R5
      exact ⟨α5, wipeS S5 vs, acc, da, rest, Rb, g05.trans (.wipe vs), s05.trans sb, g25.keep Dd _ nDa hD, dacc.mono (s25.trans sb) g25.pre, Nat.le_succ_of_le al, ef, er, hun S5⟩
    | true =>
      rw [if_pos rfl] at ef ⊢
      obtain ⟨⟨z, S6⟩, e6, ef⟩ := opt_bind ef
      obtain ⟨⟨rest2, S7⟩, e7, ef⟩ := opt_map ef
      cases ef
      refine he (NewP N Dd) H0 α0 α5 σ4 H5 S5 z S6 _ R5 e6 fun v α6 H6 R6 g6 d6 => ?_
      obtain ⟨Rb, sb⟩ := back R6
      have g26 := g25.trans g6
      have s26 := s25.trans g6.same
      have hD6 := g26.keep Dd _ nDa hD
      refine ⟨acc, hD6, ?_, ?_⟩
      · have : acc.length < ds.length := Nat.lt_of_le_of_lt al hi
        exact Nat.lt_of_lt_of_le this (szl hlen)
      · have keepD : ∀ a o, a ≠ Dd → H6 a = some o → upd H6 Dd (.lst (acc ++ [v])) a = some o := fun a o n h => by rw [upd_ne n]; exact h
        have sx : Same (lim H6 (Mx (NewP N Dd) α6 (wipeS S6 vs) (L2.wipe σ vs))) (lim (upd H6 Dd (.lst (acc ++ [v]))) (Mx (NewP N Dd) α6 (wipeS S6 vs) (L2.wipe σ vs))) :=
          lim_keep (fun a o nm h => keepD a o (fun z => nm (.inl (.inr z))) h) fun a m _ => m
        have sall := (g6.same.trans sb).trans sx
        have Rd : SR K (NewP N Dd) H0 α0 α6 (L2.wipe σ vs) (upd H6 Dd (.lst (acc ++ [v]))) (wipeS S6 vs) := by
          refine ⟨Rb.pre, Rb.len, Rb.nd, fun a n => ?_, Rb.na, Rb.on, Rb.uniq, fun j x hx => (Rb.slot j x hx).mono (fun a u hu hx2 h => keepD a u (fun w => ?_) h) sx (List.prefix_refl _), ⟨Rb.sto.len, fun n o ho => ?_⟩, fun a o n h => ?_, Rb.fresh, Rb.fral, fun a o u h => keepD a _ (fun w => by (subst w; rw [R1.base_none nD] at h; cases h)) (Rb.frz a o u h)⟩
          · by_cases c : a = Dd
            · subst c; rw [upd_same]; exact fun z => (nomatch z)
            · rw [upd_ne c]; exact Rb.live a n
          · obtain ⟨es, rfl⟩ := hx2
            exact (Rb.on a ⟨j, es, hx, hu⟩).1 (.inr w)
          · obtain ⟨b, y1, y2⟩ := Rb.sto.at_ n o ho
            exact ⟨b, y1, y2.mono (fun u h => keepD b u (fun w => Rb.na b (List.mem_of_getElem? y1) (.inr w)) h) sx (List.prefix_refl _)⟩
          · have h1 := Rb.keep a o n h
            refine keepD a o (fun w => ?_) h1
            subst w
            have := R1.base_none nD
            rw [this] at h; cases h
        refine ⟨α6, wipeS S6 vs, acc ++ [v], da ++ [z], rest2, Rd, ?_, (s05.trans sall), upd_same, ?_, by rw [List.length_append]; exact Nat.succ_le_succ al, e7, by rw [List.append_assoc]; exact er, hun S6⟩
        · have ga := (g05.trans g6).trans (.wipe vs)
          exact ⟨ga.pre, ga.fr, fun a o n h => keepD a o (fun w => by subst w; rw [nD] at h; cases h) (ga.keep a o n h), ga.own, fun a o u h => keepD a _ (fun w => by (subst w; rw [nD] at h; cases h)) (ga.frz a o u h)⟩
        · exact ((dacc.mono (s26.trans sb) g26.pre).append (.cons (d6.mono sb (List.prefix_refl _)) .nil)).mono sx (List.prefix_refl _)
  · rintro Hc ⟨α2, S2, acc, da, rest, R2, g2, s2, hD, dacc, al, ef, er, un⟩
    rw [List.drop_length] at ef
    cases ef
    rw [List.append_nil] at er
    subst er
    obtain ⟨Rf, mf⟩ := R2.slots (σ' := σ) (wipe_length σ vs).symm (fun j x hx nx => by
      by_cases c : j ∈ vs
      · exact absurd (un j x c hx) nx
      · exact (wipe_out c).symm)
    have ef : Mx (NewP N Dd) α2 S' σ = Mx (NewP N Dd) α2 S' (L2.wipe σ vs) := funext fun a => propext (mf a)
    refine q Dd α2 Hc acc Rf (g1.trans g2) (g1.none R1 nD) (R1.base_none nD) hD ?_
    rw [ef]; exact dacc
end
end Dl

set_option Elab.async false
set_option linter.all false
set_option maxRecDepth 100000
set_option maxHeartbeats 4000000
namespace Bg
open PySem PySem.Spec PyProof.Rows L2
/-! ### known numbers: what the rules make of six numbers -/
structure Kn where
  v : Nat
  u : Nat
  l : Int
  m : Int
  lo : Int
  hi : Int
deriving DecidableEq
def mx (i j : Int) : Int := if j > i then j else i
def mn (i j : Int) : Int := if j < i then j else i
theorem mx_l (i j : Int) : i ≤ mx i j := by unfold mx; split <;> omega
theorem mx_r (i j : Int) : j ≤ mx i j := by unfold mx; split <;> omega
theorem mn_l (i j : Int) : mn i j ≤ i := by unfold mn; split <;> omega
theorem mn_r (i j : Int) : mn i j ≤ j := by unfold mn; split <;> omega
theorem mx_or (i j : Int) : mx i j = i ∨ mx i j = j := by unfold mx; split <;> simp
theorem mn_or (i j : Int) : mn i j = i ∨ mn i j = j := by unfold mn; split <;> simp
def hf (n : Nat) (x : Int) : Int := x / 2 ^ (n - 1)
def sg (n : Nat) (x : Int) : Int := if hf n x = 0 then x else x - 2 ^ n
def bl (x : Nat) : Nat := Builtin.Int.intBits (x : Int)
theorem bl_le {x i : Nat} : bl x ≤ i ↔ x < 2 ^ i := by
  unfold bl Builtin.Int.intBits
  by_cases h : x = 0
  · subst h; simp [Nat.two_pow_pos]
  · have e : ((x : Int) == 0) = false := by simpa using h
    rw [e, if_neg Bool.false_ne_true, Int.natAbs_natCast]
    have := Nat.log2_lt (n := x) (k := i) h
    omega
theorem div_xor (l m i : Nat) : l / 2 ^ i = m / 2 ^ i ↔ bl (l ^^^ m) ≤ i := by
  rw [bl_le]
  have e : (l ^^^ m) / 2 ^ i = (l / 2 ^ i) ^^^ (m / 2 ^ i) := by
    apply Nat.eq_of_testBit_eq
    intro j
    simp only [Nat.testBit_div_two_pow, Nat.testBit_xor]
  rw [← Nat.div_eq_zero_iff_lt (Nat.two_pow_pos i), e]
  constructor
  · intro h; rw [h, Nat.xor_self]
  · intro h
    apply Nat.eq_of_testBit_eq
    intro j
    have := congrArg (·.testBit j) h
    simp only [Nat.testBit_xor, Nat.zero_testBit] at this
    revert this
    cases (l / 2 ^ i).testBit j <;> cases (m / 2 ^ i).testBit j <;> simp
/-- sure bits met with those that least and most have alike -/
def bitsM (v u l m : Nat) : Option (Nat × Nat) :=
  if (v ||| (u ||| (2 ^ bl (l ^^^ m) - 1))) = (l / 2 ^ bl (l ^^^ m) * 2 ^ bl (l ^^^ m)) ||| (u ||| (2 ^ bl (l ^^^ m) - 1))
  then some (v ||| (l / 2 ^ bl (l ^^^ m) * 2 ^ bl (l ^^^ m)), u &&& (2 ^ bl (l ^^^ m) - 1)) else none
/-- the bits from B on are as those of l where they are sure -/
def Agree (B v u l : Nat) : Prop := ∀ i, B ≤ i → u.testBit i = false → v.testBit i = l.testBit i
theorem tb_cut (l B i : Nat) : (l / 2 ^ B * 2 ^ B).testBit i = (decide (B ≤ i) && l.testBit i) := by
  rw [Nat.testBit_mul_two_pow, Nat.testBit_div_two_pow]
  by_cases h : B ≤ i
  · rw [decide_eq_true h, show i - B + B = i by omega]
  · rw [decide_eq_false h]; rfl
theorem agree_iff {v u l m : Nat} : (v ||| (u ||| (2 ^ bl (l ^^^ m) - 1))) = (l / 2 ^ bl (l ^^^ m) * 2 ^ bl (l ^^^ m)) ||| (u ||| (2 ^ bl (l ^^^ m) - 1)) ↔ Agree (bl (l ^^^ m)) v u l := by
  generalize bl (l ^^^ m) = B
  constructor
  · intro h i hi hu
    have e := congrArg (·.testBit i) h
    simp only [Nat.testBit_or, tb_cut, Nat.testBit_two_pow_sub_one, hu, decide_eq_true hi, decide_eq_false (show ¬ i < B by omega), Bool.or_false, Bool.true_and] at e
    exact e
  · intro h
    apply Nat.eq_of_testBit_eq
    intro i
    simp only [Nat.testBit_or, tb_cut, Nat.testBit_two_pow_sub_one]
    by_cases hi : B ≤ i
    · cases hu : u.testBit i with
      | true => simp
      | false => rw [h i hi hu, decide_eq_true hi, Bool.true_and]
    · rw [decide_eq_true (show i < B by omega)]; simp
/-- the same bits, told by remainders -/
theorem bits_val {v u l B n : Nat} (sb : Sb n v u) (h : Agree B v u l) : v ||| (l / 2 ^ B * 2 ^ B) = l / 2 ^ B * 2 ^ B + v % 2 ^ B := by
  have e : l / 2 ^ B * 2 ^ B + v % 2 ^ B = l / 2 ^ B * 2 ^ B ||| v % 2 ^ B := by
    rw [Nat.mul_comm]
    exact Nat.two_pow_add_eq_or_of_lt (Nat.mod_lt _ (Nat.two_pow_pos B)) _
  rw [e]
  apply Nat.eq_of_testBit_eq
  intro i
  simp only [Nat.testBit_or, tb_cut, Nat.testBit_mod_two_pow]
  by_cases hi : B ≤ i
  · rw [decide_eq_true hi, decide_eq_false (show ¬ i < B by omega)]
    cases hu : u.testBit i with
    | true =>
      have : v.testBit i = false := by
        cases hv : v.testBit i with
        | false => rfl
        | true => rw [sb.not hv] at hu; cases hu
      rw [this]; simp
    | false => rw [h i hi hu]; simp
  · rw [decide_eq_false hi, decide_eq_true (show i < B by omega)]; simp
theorem bits_uns (u B : Nat) : u &&& (2 ^ B - 1) = u % 2 ^ B := Nat.and_two_pow_sub_one_eq_mod u B
def endL (n : Nat) (l m lo : Int) : Int := if hf n l = hf n m then mx lo (sg n l) else lo
def endH (n : Nat) (l m hi : Int) : Int := if hf n l = hf n m then mn hi (sg n m) else hi
def endl (n : Nat) (l lo1 hi1 : Int) : Int := if (decide (lo1 < 0)) = (decide (hi1 < 0)) then mx l (lo1 % 2 ^ n) else l
def endm (n : Nat) (m lo1 hi1 : Int) : Int := if (decide (lo1 < 0)) = (decide (hi1 < 0)) then mn m (hi1 % 2 ^ n) else m
/-- the four ends, each cut by the others -/
def lo1 (n : Nat) (k : Kn) : Int := endL n (mx k.l k.v) (mn k.m ((k.v ||| k.u : Nat) : Int)) k.lo
def hi1 (n : Nat) (k : Kn) : Int := endH n (mx k.l k.v) (mn k.m ((k.v ||| k.u : Nat) : Int)) k.hi
def l1 (n : Nat) (k : Kn) : Int := endl n (mx k.l k.v) (lo1 n k) (hi1 n k)
def m1 (n : Nat) (k : Kn) : Int := endm n (mn k.m ((k.v ||| k.u : Nat) : Int)) (lo1 n k) (hi1 n k)
def onceK (n : Nat) (k : Kn) : Option Kn :=
  if m1 n k < l1 n k ∨ hi1 n k < lo1 n k then none
  else match bitsM k.v k.u (l1 n k).toNat (m1 n k).toNat with
    | none => none
    | some p => some ⟨p.1, p.2, l1 n k, m1 n k, lo1 n k, hi1 n k⟩
section
variable {n : Nat} {k k' : Kn}
theorem lo1_ge : k.lo ≤ lo1 n k := by unfold lo1 endL; split; exact mx_l _ _; exact Int.le_refl _
theorem hi1_le : hi1 n k ≤ k.hi := by unfold hi1 endH; split; exact mn_l _ _; exact Int.le_refl _
theorem l1_ge0 : mx k.l k.v ≤ l1 n k := by unfold l1 endl; split; exact mx_l _ _; exact Int.le_refl _
theorem m1_le0 : m1 n k ≤ mn k.m ((k.v ||| k.u : Nat) : Int) := by unfold m1 endm; split; exact mn_l _ _; exact Int.le_refl _
theorem l1_ge : k.l ≤ l1 n k := Int.le_trans (mx_l _ _) l1_ge0
theorem l1_ge_v : (k.v : Int) ≤ l1 n k := Int.le_trans (mx_r _ _) l1_ge0
theorem m1_le : m1 n k ≤ k.m := Int.le_trans m1_le0 (mn_l _ _)
theorem m1_le_v : m1 n k ≤ ((k.v ||| k.u : Nat) : Int) := Int.le_trans m1_le0 (mn_r _ _)
/-- what stands behind a turn -/
structure Done (n : Nat) (k : Kn) : Prop where
  sb : Sb n k.v k.u
  l0 : 0 ≤ k.l
  lm : k.l ≤ k.m
  m1 : k.m < 2 ^ n
  lh : k.lo ≤ k.hi
theorem bitsM_some {v u l m a b : Nat} (sb : Sb n v u) (hl : l < 2 ^ n) (h : bitsM v u l m = some (a, b)) :
    Agree (bl (l ^^^ m)) v u l ∧ a = l / 2 ^ bl (l ^^^ m) * 2 ^ bl (l ^^^ m) + v % 2 ^ bl (l ^^^ m) ∧ b = u % 2 ^ bl (l ^^^ m) ∧ Sb n a b := by
  unfold bitsM at h
  split at h
  · rename_i c
    have ag := agree_iff.mp c
    have e := Option.some.inj h
    have e1 : a = v ||| (l / 2 ^ bl (l ^^^ m) * 2 ^ bl (l ^^^ m)) := (congrArg Prod.fst e).symm
    have e2 : b = u &&& (2 ^ bl (l ^^^ m) - 1) := (congrArg Prod.snd e).symm
    refine ⟨ag, ?_, ?_, ?_⟩
    · rw [e1, bits_val sb ag]
    · rw [e2, bits_uns]
    · rw [e1, e2]
      refine ⟨Nat.or_lt_two_pow sb.v1 (Nat.lt_of_le_of_lt (Nat.div_mul_le_self _ _) hl), Nat.lt_of_le_of_lt Nat.and_le_left sb.u1, ?_⟩
      apply Nat.eq_of_testBit_eq
      intro i
      simp only [Nat.testBit_and, Nat.testBit_or, tb_cut, Nat.testBit_two_pow_sub_one, Nat.zero_testBit]
      cases hv : v.testBit i with
      | true => rw [sb.not hv]; simp
      | false =>
        by_cases hi : i < bl (l ^^^ m)
        · rw [decide_eq_false (show ¬ bl (l ^^^ m) ≤ i by omega)]; simp
        · rw [decide_eq_false hi]; simp
  · cases h
theorem nat_pow_cast (n : Nat) : ((2 ^ n : Nat) : Int) = (2 : Int) ^ n := by rw [Int.natCast_pow]; rfl
theorem once_some (sb : Sb n k.v k.u) (h : onceK n k = some k') :
    Done n k' ∧ k'.l = l1 n k ∧ k'.m = m1 n k ∧ k'.lo = lo1 n k ∧ k'.hi = hi1 n k ∧ bitsM k.v k.u (l1 n k).toNat (m1 n k).toNat = some (k'.v, k'.u) := by
  unfold onceK at h
  split at h
  · cases h
  · rename_i c
    cases hb : bitsM k.v k.u (l1 n k).toNat (m1 n k).toNat with
    | none => rw [hb] at h; cases h
    | some p =>
      rw [hb] at h
      have e := (Option.some.inj h).symm
      subst e
      have h1 := @l1_ge_v n k
      have h2 := @m1_le_v n k
      have h3 : (k.v ||| k.u) < 2 ^ n := Nat.or_lt_two_pow sb.v1 sb.u1
      have h4 := nat_pow_cast n
      obtain ⟨_, _, _, s⟩ := bitsM_some (a := p.1) (b := p.2) sb (by omega) hb
      exact ⟨⟨s, by show 0 ≤ l1 n k; omega, by show l1 n k ≤ m1 n k; omega, by show m1 n k < 2 ^ n; omega, by show lo1 n k ≤ hi1 n k; omega⟩, rfl, rfl, rfl, rfl, rfl⟩
def mu (k : Kn) : Nat := k.u + (k.m - k.l).toNat + (k.hi - k.lo).toNat
theorem once_dec (d : Done n k) (h : onceK n k = some k') (ne : k' ≠ k) : mu k' < mu k := by
  obtain ⟨d', e1, e2, e3, e4, hb⟩ := once_some d.sb h
  have h1 := @l1_ge n k
  have h2 := @m1_le n k
  have h3 := @lo1_ge n k
  have h4 := @hi1_le n k
  have hl : (l1 n k).toNat < 2 ^ n := by
    have a := d'.lm; have b := d'.m1; have c := d'.l0; have e := nat_pow_cast n
    rw [e1] at a c; omega
  obtain ⟨ag, ev, eu, _⟩ := bitsM_some d.sb hl hb
  generalize bl ((l1 n k).toNat ^^^ (m1 n k).toNat) = B at ag ev eu
  have hu : k'.u ≤ k.u := by rw [eu]; exact Nat.mod_le _ _
  have a1 := d.lm; have a2 := d.lh; have a3 := d'.lm; have a4 := d'.lh
  unfold mu
  by_cases q : k'.u = k.u
  · have hv : k'.v = k.v := by
      rw [ev, ← bits_val d.sb ag]
      apply Nat.eq_of_testBit_eq
      intro i
      simp only [Nat.testBit_or, tb_cut]
      by_cases hi : B ≤ i
      · have : k.u.testBit i = false := by rw [← q, eu, Nat.testBit_mod_two_pow, decide_eq_false (show ¬ i < B by omega)]; rfl
        rw [ag i hi this]; simp
      · rw [decide_eq_false hi]; simp
    have : k'.l ≠ k.l ∨ k'.m ≠ k.m ∨ k'.lo ≠ k.lo ∨ k'.hi ≠ k.hi := by
      refine Decidable.byContradiction fun z => ne ?_
      have : k'.l = k.l ∧ k'.m = k.m ∧ k'.lo = k.lo ∧ k'.hi = k.hi := by omega
      obtain ⟨b1, b2, b3, b4⟩ := this
      cases k'; cases k
      simp only at hv q b1 b2 b3 b4
      subst hv; subst q; subst b1; subst b2; subst b3; subst b4
      rfl
    omega
  · omega
/-- the rules done again and again till nothing turns -/
inductive Stl (n : Nat) : Kn → Option Kn → Prop
  | no {k : Kn} (h : onceK n k = none) : Stl n k none
  | fix {k : Kn} (h : onceK n k = some k) : Stl n k (some k)
  | go {k k' : Kn} {r : Option Kn} (h : onceK n k = some k') (ne : k' ≠ k) (t : Stl n k' r) : Stl n k r
theorem Stl.det {r r' : Option Kn} (h : Stl n k r) : Stl n k r' → r = r' := by
  induction h with
  | no h =>
    intro g
    cases g with
    | no _ => rfl
    | fix h' => rw [h] at h'; cases h'
    | go h' _ _ => rw [h] at h'; cases h'
  | fix h =>
    intro g
    cases g with
    | no h' => rw [h] at h'; cases h'
    | fix h' => rfl
    | go h' ne _ => rw [h] at h'; exact absurd (Option.some.inj h').symm ne
  | go h ne t ih =>
    intro g
    cases g with
    | no h' => rw [h] at h'; cases h'
    | fix h' => rw [h] at h'; exact absurd (Option.some.inj h') ne
    | go h' _ t' => rw [h] at h'; cases h'; exact ih t'
theorem Stl.ex (b : Nat) : ∀ k : Kn, Done n k → mu k < b → ∃ r, Stl n k r := by
  induction b with
  | zero => intro k _ h; omega
  | succ b ih =>
    intro k d hb
    cases h : onceK n k with
    | none => exact ⟨_, .no h⟩
    | some k' =>
      by_cases e : k' = k
      · subst e; exact ⟨_, .fix h⟩
      · have dec := once_dec d h e
        obtain ⟨r, t⟩ := ih k' (once_some d.sb h).1 (by omega)
        exact ⟨r, .go h e t⟩
theorem Stl.all (sb : Sb n k.v k.u) : ∃ r, Stl n k r := by
  cases h : onceK n k with
  | none => exact ⟨_, .no h⟩
  | some k' =>
    by_cases e : k' = k
    · subst e; exact ⟨_, .fix h⟩
    · obtain ⟨r, t⟩ := Stl.ex _ k' (once_some sb h).1 (Nat.lt_succ_self _)
      exact ⟨r, .go h e t⟩
end
end Bg

set_option Elab.async false
set_option linter.all false
set_option maxRecDepth 100000
set_option maxHeartbeats 4000000
namespace Bg
open PySem PySem.Spec PyProof.Rows L2
/-! ### a call by keywords alone -/
section
variable {X : Cx} {CX : CXT} {k n : Nat} {f : Addr} {fd : FuncData} {ps ks : List Str} {sp : Sp} {E : XK} {x : Str} {p pos : Pos} {kws : List Keyword} {tk : TA} {g : List Value → List Value → List Value} {gV : List V → List V → List V}
end
/-! ### readings -/
section
variable {σ : L2.St} {H : Hp} {Q : VK} {D : Ends} {te : TE} {K : PySem.W.Frag} {p a : Addr} {xs ys : List V} {n : Nat} {t : TGs} {R : L2.St → Hp → Prop}
end
/-! ### tests for nothing -/
/-! ### promises about known numbers -/
def kT (k : Kn) : List V := [.int k.v, .int k.u, .int k.l, .int k.m, .int k.lo, .int k.hi]
/-- what a turn, or settling, tells: nothing, or a new tuple -/
def OptAt (H : Hp) (r : Option Kn) (Q : VK) : Prop :=
  (r = none → ∀ H', Same H H' → Q .non H') ∧ (∀ k, r = some k → ∀ p H', H p = none → Same H H' → H' p = some (.tup (kT k)) → Q (.ref p) H')
theorem OptAt.same {H H1 : Hp} {r : Option Kn} {Q : VK} (s : Same H H1) (h : OptAt H r Q) : OptAt H1 r Q :=
  ⟨fun e H' s' => h.1 e H' (s.trans s'), fun k e p H' np s' hp => h.2 k e p H' (s.free np) (s.trans s') hp⟩
theorem pow32 {n : Nat} (h : n ≤ 32) : (2 : Int) ^ n ≤ 4294967296 := by
  have h1 : 2 ^ n ≤ 2 ^ 32 := Nat.pow_le_pow_right (by decide) h
  have := nat_pow_cast n
  omega
theorem powN32 {n : Nat} (h : n ≤ 32) : 2 ^ n ≤ 4294967296 := Nat.pow_le_pow_right (n := 2) (by decide) h
theorem pow_half {n : Nat} (h : 1 ≤ n) : (2 : Int) ^ n = 2 * 2 ^ (n - 1) := by
  obtain ⟨m, rfl⟩ : ∃ m, n = m + 1 := ⟨n - 1, by omega⟩
  rw [Int.pow_succ, Nat.add_sub_cancel]; omega
theorem dp_kT {K : PySem.W.Frag} {H : Hp} {p : Addr} {k : Kn} (h : SqT K H p (kT k)) : Dp K H (.ref p) (.tuple [.int k.v, .int k.u, .int k.l, .int k.m, .int k.lo, .int k.hi]) :=
  .tup h (.cons (.int _) (.cons (.int _) (.cons (.int _) (.cons (.int _) (.cons (.int _) (.cons (.int _) .nil))))))
end Bg

set_option Elab.async false
set_option linter.all false
set_option maxRecDepth 100000
set_option maxHeartbeats 4000000
namespace Dl
open PySem PySem.Spec PyProof.Rows L2
/-! ### defs on data -/
def start0 (ds : List D) (ns : Nat) (st : List DO) : Sx := ⟨ds.map .val ++ List.replicate (ns - ds.length) .un, st⟩
def fnD (np ns : Nat) (b : DS) : DF := fun ds st => if ds.length = np then (b (start0 ds ns st)).bind fun p => match p.1 with
    | .ret d => some (d, p.2.st)
    | .nx => some (.non, p.2.st)
    | _ => none
  else none
def NA (N : Addr → Prop) (α : List Addr) : Addr → Prop := fun a => N a ∨ a ∈ α
def spD (K : PySem.W.Frag) (F : DF) : Sp := fun vs H Q _ => ∃ (N : Addr → Prop) (α : List Addr) (ds : List D) (st : List DO) (d : D) (st' : List DO), α.Nodup ∧ (∀ a, N a → H a ≠ none) ∧ (∀ a, a ∈ α → ¬ N a) ∧
  DRs K α (lim H (NA N α)) vs ds ∧ StR K α H (lim H (NA N α)) st ∧ F ds st = some (d, st') ∧
  ∀ v α' H', α <+: α' → α'.Nodup → (∀ a, a ∈ α' → a ∉ α → H a = none) → (∀ a, a ∈ α' → ¬ N a) → StR K α' H' (lim H' (NA N α')) st' → (∀ a o, a ∉ α → H a = some o → H' a = some o) → (∀ a o u, H a = some (.frz o u) → H' a = some (.frz o u)) → DR K α' (lim H' (NA N α')) v d → Q v H'
def app2 : List D → List D → List D
  | [], ys => ys
  | x :: xs, ys => x :: app2 xs ys
theorem app2_eq : ∀ (xs ys : List D), app2 xs ys = xs ++ ys
  | [], ys => rfl
  | x :: xs, ys => by show x :: app2 xs ys = _; rw [app2_eq xs ys]; rfl
def eCall (F : DF) (dds : List D) (a : DA) : DE := fun S => (a S).bind fun p => (F (app2 p.1 dds) p.2.st).map fun r => (r.1, { p.2 with st := r.2 })
def eCallN (F : DF) (n m : Nat) (a k : DA) : DE := fun S => (a S).bind fun p => (k p.2).bind fun q => if p.1.length = n ∧ q.1.length = m then (F (app2 p.1 q.1) q.2.st).map fun r => (r.1, { q.2 with st := r.2 }) else none
section
variable {K : PySem.W.Frag} {N : Addr → Prop} {H0 H H' : Hp} {α0 α α' : List Addr} {σ : L2.St} {S S' : Sx}
theorem start_get {ds : List D} {ns i : Nat} {st : List DO} {x : Slot} (e : (start0 ds ns st).env[i]? = some x) : (∃ d, ds[i]? = some d ∧ x = .val d) ∨ x = .un := by
  have e' : (ds.map Slot.val ++ List.replicate (ns - ds.length) .un)[i]? = some x := e
  by_cases h : i < ds.length
  · rw [List.getElem?_append_left (by rw [List.length_map]; exact h), List.getElem?_map] at e'
    cases z : ds[i]? with
    | none => rw [z] at e'; cases e'
    | some d => rw [z] at e'; cases e'; exact .inl ⟨d, rfl, rfl⟩
  · rw [List.getElem?_append_right (by rw [List.length_map]; omega), List.getElem?_replicate] at e'
    split at e'
    · cases e'; exact .inr rfl
    · cases e'
theorem lim_weaker {M M' : Addr → Prop} (h : ∀ a, M' a → M a) : Same (lim H M) (lim H M') := lim_keep (fun _ _ _ e => e) fun a m _ => h a m
theorem StR.weaker {M M' : Addr → Prop} {st : List DO} (h : ∀ a, M' a → M a) (r : StR K α H (lim H M) st) : StR K α H (lim H M') st :=
  ⟨r.len, fun n o e => let ⟨a, y1, y2⟩ := r.at_ n o e; ⟨a, y1, y2.mono (fun _ h => h) (lim_weaker h) (List.prefix_refl _)⟩⟩
theorem sr_start {Nm : List Str} {vs : List V} {ds : List D} {st : List DO} (hl : vs.length ≤ Nm.length) (nd : α.Nodup) (lv : ∀ a, N a → H a ≠ none) (na : ∀ a, a ∈ α → ¬ N a) (dr : DRs K α (lim H (NA N α)) vs ds) (sr : StR K α H (lim H (NA N α)) st) :
    SR K N H α α (start Nm vs) H (start0 ds Nm.length st) := by
  have ow : ∀ a, ¬ Owned (start0 ds Nm.length st) (start Nm vs) a := by
    rintro a ⟨i, es, e, _⟩
    rcases start_get e with ⟨_, _, z⟩ | z <;> cases z
  have em : Mx N α (start0 ds Nm.length st) (start Nm vs) = NA N α := funext fun a => propext ⟨fun m => m.imp id fun z => z.elim id fun y => absurd y (ow a), fun m => m.imp id .inl⟩
  refine ⟨List.prefix_refl _, ?_, nd, lv, na, fun a h => absurd h (ow a), fun i j es fs a e => ?_, fun i x e => ?_, by rw [em]; exact sr, fun _ _ _ e => e, fun a h => absurd h (ow a), fun a h n => absurd h n, fun _ _ _ e => e⟩
  · show (ds.map Slot.val ++ List.replicate (Nm.length - ds.length) Slot.un).length = (start Nm vs).length
    unfold L2.start
    rw [List.length_append, List.length_append, List.length_map, List.length_map, List.length_replicate, List.length_replicate, dr.len]
  · rcases start_get e with ⟨_, _, z⟩ | z <;> cases z
  · rw [em]
    rcases start_get e with ⟨d, ed, rfl⟩ | rfl
    · obtain ⟨v, ev, dv⟩ := dr.get ed
      refine ⟨v, ?_, dv⟩
      unfold L2.start
      have : i < vs.length := (List.getElem?_eq_some_iff.mp ev).1
      rw [List.getElem?_append_left (by rw [List.length_map]; exact this), List.getElem?_map, ev]
      rfl
    · trivial
variable {tA tk : TA} {fA fk : DA}
theorem callee (F : DF) {vs : List V} {ds : List D} {d : D} {st' : List DO} {Q : VK} {E : XK} (R : SR K N H0 α0 α σ H S) (dr : DRs K α (lim H (Mx N α S σ)) vs ds) (e : F ds S.st = some (d, st'))
    (q : ∀ v α' H', SR K N H0 α0 α' σ H' { S with st := st' } → Gr α H S α' H' { S with st := st' } → DR K α' (lim H' (Mx N α' { S with st := st' } σ)) v d → Q v H') : spD K F vs H Q E := by
  have em : ∀ (β : List Addr) (T : List DO), NA (fun a => N a ∨ Owned S σ a) β = Mx N β { S with st := T } σ := fun β T => funext fun a => propext
    ⟨fun m => m.elim (fun z => z.imp id .inr) fun z => .inr (.inl z), fun m => m.elim (fun z => .inl (.inl z)) fun z => z.elim .inr fun y => .inl (.inr y)⟩
  have em0 : NA (fun a => N a ∨ Owned S σ a) α = Mx N α S σ := em α S.st
  refine ⟨fun a => N a ∨ Owned S σ a, α, ds, S.st, d, st', R.nd, fun a h => R.mlive a (h.imp id .inr), fun a h n => n.elim (R.na a h) fun z => (R.on a z).2 h, by rw [em0]; exact dr, by rw [em0]; exact R.sto, e, ?_⟩
  intro v α' H' pre nd fr na sr keep frz dv
  rw [em α' st'] at sr dv
  have g : Gr α H S α' H' { S with st := st' } := ⟨pre, fr, keep, fun _ _ e => e, frz⟩
  refine q v α' H' ⟨R.pre.trans pre, R.len, nd, fun a n => ?_, fun a h n => na a h (.inl n), fun a h => ⟨(R.on a h).1, fun z => na a z (.inr h)⟩, R.uniq, fun i x ex => ?_, sr, fun a o n h => ?_, R.fresh, fun a h n => ?_, fun a o u h => frz a o u (R.frz a o u h)⟩ g dv
  · cases z : H a with
    | none => exact absurd z (R.live a n)
    | some o => rw [keep a o (fun y => R.na a y n) z]; exact fun y => (nomatch y)
  · refine (R.slot i x ex).mono (fun a u hu hx h => ?_) g.same pre
    obtain ⟨es, rfl⟩ := hx
    exact keep a u (R.on a ⟨i, es, ex, hu⟩).2 h
  · have h1 := R.keep a o n h
    refine keep a o (fun z => ?_) h1
    rw [R.fral a z n] at h; cases h
  · by_cases c : a ∈ α
    · exact R.fral a c n
    · exact R.base_none (fr a h c)
theorem rf_call {F : DF} {dvs : List V} {dds : List D} {E : XK} (hd : ∀ α H, DRs K α H dvs dds) (ha : RefA K tA fA) : RefE K (tCall (spD K F) dvs E tA) (eCall F dds fA) := by
  intro N H0 α0 α σ H S d S' Q R e q
  obtain ⟨⟨xs, S1⟩, e1, e⟩ := opt_bind e
  obtain ⟨⟨r, st⟩, e2, e⟩ := opt_map e
  cases e
  refine ha N H0 α0 α σ H S xs S1 _ R e1 fun vs α1 H1 R1 g1 d1 => ?_
  exact callee F R1 (ds := app2 xs dds) (by rw [app2_eq]; exact d1.append (hd _ _)) e2 fun v α2 H2 R2 g2 d2 => q v α2 H2 R2 (g1.trans g2) d2
theorem rf_callN {F : DF} {n m : Nat} {E : XK} (ha : RefA K tA fA) (hk : RefA K tk fk) : RefE K (tCallN n m (spD K F) (fun vs zs => vs ++ zs) E tA tk) (eCallN F n m fA fk) := by
  intro N H0 α0 α σ H S d S' Q R e q
  obtain ⟨⟨xs, S1⟩, e1, e⟩ := opt_bind e
  obtain ⟨⟨ys, S2⟩, e2, e⟩ := opt_bind e
  by_cases c : xs.length = n ∧ ys.length = m
  · have e : (if xs.length = n ∧ ys.length = m then (F (app2 xs ys) S2.st).map fun r => (r.1, { S2 with st := r.2 }) else none) = some (d, S') := e
    rw [if_pos c] at e
    obtain ⟨⟨r, st⟩, e3, e⟩ := opt_map e
    cases e
    refine ha N H0 α0 α σ H S xs S1 _ R e1 fun vs α1 H1 R1 g1 d1 => ?_
    refine hk N H0 α0 α1 σ H1 S1 ys S2 _ R1 e2 fun zs α2 H2 R2 g2 d2 => ?_
    refine ⟨d1.len.trans c.1, d2.len.trans c.2, ?_⟩
    exact callee F R2 (ds := app2 xs ys) (by rw [app2_eq]; exact (g2.drs d1).append d2) e3 fun v α3 H3 R3 g3 d3 => q v α3 H3 R3 ((g1.trans g2).trans g3) d3
  · have e : (if xs.length = n ∧ ys.length = m then (F (app2 xs ys) S2.st).map fun r => (r.1, { S2 with st := r.2 }) else none) = some (d, S') := e
    rw [if_neg c] at e; cases e
end
/-! ### a def of the text -/
section
variable {P : Program} {w : World} {K : PySem.W.Frag} {mg : Str → Option Value} {base : Heap}
theorem fn_data {k : Nat} {x qual : Str} {st : Stmt} {f : Addr} {fd : FuncData} {Nm ps : List Str} {b : DS} (F : Fun K x qual st f fd) (Sc : FnScope Nm ps (defScope st))
    (hb : ∀ (cdv : Value) (A : Around) (outer : List Env) (s : Shared) (H : Hp) (E : XK), Room k (A.deeper (envOfC qual (defScope st) s.heap.objs.size f cdv)) → Bg.Gd (A.deeper (envOfC qual (defScope st) s.heap.objs.size f cdv)) →
      JSs (cxOf CX0 P w K mg base Nm qual (defScope st) f cdv A outer s H E).nox (defBody st) b) :
    Bg.FnG P w K mg base CX0 (k + 1) f fd ps (spD K (fnD ps.length Nm.length b)) := by
  have hpl : ps.length ≤ Nm.length := by have := congrArg List.length Sc.pre; rw [List.length_take] at this; omega
  have hlen : ∀ vs H Q E, spD K (fnD ps.length Nm.length b) vs H Q E → vs.length = ps.length := by
    rintro vs H Q E ⟨N, α, ds, st0, d, st', nd, lv, na, dr, sr, e, q⟩
    unfold fnD at e
    split at e
    · rename_i h; rw [dr.len, h]
    · cases e
  refine Bg.fnG0 F Sc hlen fun cdv A outer s H vs Q E hr gd h => ?_
  have hvl := hlen _ _ _ _ h
  obtain ⟨N, α, ds, st0, d, st', nd, lv, na, dr, sr, e, q⟩ := h
  have J := hb cdv A outer s H E hr (gd.deep _)
  refine ⟨_, J.pe, ?_⟩
  unfold fnD at e
  split at e
  case isFalse => cases e
  obtain ⟨⟨fl, S'⟩, e1, e⟩ := opt_bind e
  have R := sr_start (Nm := Nm) (vs := vs) (by rw [hvl]; exact hpl) nd lv na dr sr
  refine J.rf N H α α (start Nm vs) H _ fl S' _ R e1 fun σ' α' H' R' pre sm => ?_
  have wk : ∀ a, NA N α' a → Mx N α' S' σ' a := fun a m => m.imp id .inl
  have fin : ∀ v, DR K α' (lim H' (Mx N α' S' σ')) v d → st' = S'.st → Q v H' := fun v dv es =>
    q v α' H' pre R'.nd (fun a h n => R'.fral a h n) R'.na (by rw [es]; exact R'.sto.weaker wk) (fun a o n h => R'.keep a o n h) (fun a o u h => R'.frz a o u h) (dv.mono (lim_weaker wk) (List.prefix_refl _))
  cases fl with
  | nx => cases e; exact fin _ .non rfl
  | ret r => cases e; exact fun v dv => fin v dv rfl
  | brk => cases e
  | cont => cases e
end
end Dl

set_option Elab.async false
set_option linter.all false
set_option maxRecDepth 100000
set_option maxHeartbeats 4000000
namespace Dl
open PySem PySem.Spec PyProof.Rows L2
/-! ### calls of defs that may show things -/
section
variable {X : Cx} {CX : CXT} {k n : Nat} {f : Addr} {fd : FuncData} {ps ks : List Str} {sp : Sp} {dvs : List V} {ds : List Value} {E : XK} {x : Str} {p pos : Pos} {e : Expr} {es : List Expr} {kws : List Keyword} {t tk : TA} {g : List Value → List Value → List Value} {gV : List V → List V → List V}
theorem run_fnG {pins : List (Addr × Obj)} {σ : L2.St} {H : Hp} {s : Shared} {Q : VK} {us : List Value} {vs : List V} (F : Bg.FnG X.prog X.w X.K X.mg X.base CX k f fd ps sp) (hr : Room k X.A) (gd : Bg.Gd X.A) (hb : Binds X.K fd ps ds) (hd : Vals dvs ds) (hx : Passes CX X E)
    (I : Inv X pins σ H s) (r : Vals vs us) (h : sp (vs ++ dvs) H Q E) : wpAny (model X.prog X.w) X.A (call (.ref f) us) (EP X pins σ Q) X.xe s := by
  have r2 : Vals (vs ++ dvs) (us ++ ds) := r.append hd
  have hl : (us ++ ds).length = ps.length := by rw [← r2.length]; exact F.len _ _ _ _ h
  refine wpAny_call (codeAny_mono (F.run X.A X.stack s H ⟨us, []⟩ (us ++ ds) (vs ++ dvs) Q E hr gd I.env0 (hb s us I.kIn hl) r2 h) fun r s' hq => ?_)
  cases r with
  | error e => exact hx pins σ H s e s' I hq
  | ok fl =>
    cases fl with
    | ret u => exact I.after hq
    | next => exact False.elim hq
    | brk => exact False.elim hq
    | cont => exact False.elim hq
theorem pe_callGD (F : Bg.FnG X.prog X.w X.K X.mg X.base CX k f fd ps sp) (hr : Room k X.A) (gd : Bg.Gd X.A) (hg : Gl X x) (hm : X.mg x = some (.ref f)) (hk : PySem.W.keepIn X.K (.ref f) = true) (hb : Binds X.K fd ps ds) (hd : Vals dvs ds) (hx : Passes CX X E)
    (ha : PA X (e :: es) t) (hdb : (x == ("__debug__" : Str)) = false := by decide) (he : starEach (e :: es) X.env = (false, eval e X.env) :: starEach es X.env := by rfl) (hpl : (backTo pos (starEach es X.env)).any (·.1) = false := by rfl) :
    PE X (.Call (.Name x p) (e :: es) [] pos) (tCall sp dvs E t) := by
  refine ⟨fun pins s σ H Q I h => ?_⟩
  refine wpAny_Call_Name_kw (ld_glob I hg hm ?_ hdb)
  refine PySem.W.callWith_K (h₀ := X.base) I.ok.mod.kin hk (thn (ha.run pos pins s σ H _ I h) fun us s1 ⟨vs, H1, I1, r, q⟩ => ⟨I1.kIn, ?_⟩) he hpl
  exact run_fnG F hr gd hb hd hx I1 r q
theorem pe_callG0 (F : Bg.FnG X.prog X.w X.K X.mg X.base CX k f fd ps sp) (hr : Room k X.A) (gd : Bg.Gd X.A) (hg : Gl X x) (hm : X.mg x = some (.ref f)) (hk : PySem.W.keepIn X.K (.ref f) = true) (hb : Binds X.K fd ps ds) (hd : Vals dvs ds) (hx : Passes CX X E)
    (hdb : (x == ("__debug__" : Str)) = false := by decide) : PE X (.Call (.Name x p) [] [] pos) (tCall sp dvs E tNil) := by
  refine ⟨fun pins s σ H Q I h => ?_⟩
  refine wpAny_Call_Name_kw (ld_glob I hg hm ?_ hdb)
  exact PySem.W.callWith_K0 I.kIn hk (run_fnG (us := []) F hr gd hb hd hx I .nil h)
theorem run_fnGN {pins : List (Addr × Obj)} {σ : L2.St} {H : Hp} {s : Shared} {Q : VK} {us ws : List Value} {vs zs : List V} (F : Bg.FnG X.prog X.w X.K X.mg X.base CX k f fd ps sp) (hr : Room k X.A) (gd : Bg.Gd X.A) (hb : KBn X.K fd ps n ks g gV) (hx : Passes CX X E)
    (I : Inv X pins σ H s) (r : Vals vs us) (rz : Vals zs ws) (l1 : vs.length = n) (l2 : zs.length = ks.length) (h : sp (gV vs zs) H Q E) : wpAny (model X.prog X.w) X.A (call (.ref f) us (ks.zip ws)) (EP X pins σ Q) X.xe s := by
  have r2 := hb.rel r rz
  refine wpAny_call (codeAny_mono (F.run X.A X.stack s H ⟨us, ks.zip ws⟩ (g us ws) (gV vs zs) Q E hr gd I.env0 (hb.to s us ws I.kIn (r.length.symm.trans l1) (rz.length.symm.trans l2)) r2 h) fun r s' hq => ?_)
  cases r with
  | error e => exact hx pins σ H s e s' I hq
  | ok fl =>
    cases fl with
    | ret u => exact I.after hq
    | next => exact False.elim hq
    | brk => exact False.elim hq
    | cont => exact False.elim hq
theorem pe_callGN (F : Bg.FnG X.prog X.w X.K X.mg X.base CX k f fd ps sp) (hr : Room k X.A) (gd : Bg.Gd X.A) (hg : Gl X x) (hm : X.mg x = some (.ref f)) (hk : PySem.W.keepIn X.K (.ref f) = true) (hb : KBn X.K fd ps n ks g gV) (hx : Passes CX X E)
    (ha : PA X (e :: es) t) (hkw : PK X kws tk) (hall : (backToKw pos (keywordEach kws X.env)).all (·.1.isSome) = true := by rfl) (hks : (backToKw pos (keywordEach kws X.env)).filterMap (·.1) = ks := by rfl)
    (hdb : (x == ("__debug__" : Str)) = false := by decide) (he : starEach (e :: es) X.env = (false, eval e X.env) :: starEach es X.env := by rfl)
    (hpl : ((backTo pos (starEach (e :: es) X.env)).any (·.1) || (backToKw pos (keywordEach kws X.env)).any (·.1.isNone)) = false := by rfl) :
    PE X (.Call (.Name x p) (e :: es) kws pos) (tCallN n ks.length sp gV E t tk) := by
  refine ⟨fun pins s σ H Q I h => ?_⟩
  refine wpAny_Call_Name_kw (ld_glob I hg hm ?_ hdb)
  refine PySem.W.callWith_KW (h₀ := X.base) I.ok.mod.kin hk hall (thn (ha.run pos pins s σ H _ I h) fun us s1 ⟨vs, H1, I1, r, q⟩ => ?_) hpl he
  refine thn (hkw.run pos pins s1 σ H1 _ I1 q) fun ws s2 ⟨zs, H2, I2, rz, l1, l2, q2⟩ => ⟨I2.kIn, ?_⟩
  rw [hks]
  exact run_fnGN F hr gd hb hx I2 r rz l1 l2 q2
end
/-! ### the judgements' rules -/
structure OpJ (X : Cx) (f : Value → Value → Sem Value) (r : R2) (g : D → D → Option D) : Prop where
  op : OpR X f r
  os : OpS X.K r g
structure CJ (X : Cx) (f : Value) (r : CRd) (g : List D → Option D) : Prop where
  op : CallR X f r
  os : CallS X.K r g
section
variable {X : Cx} {a b c e : Expr} {es : List Expr} {ta tb tc te : TE} {fa fb fc fe : DE} {tt tu : TT} {ft fu : DT} {tA tk : TA} {fA fk : DA} {pos p : Pos} {r r' : R2} {g g' : D → D → Option D}
theorem oj_add : OpJ X (binaryOp .Add) (rAddA X.K) gAdd := ⟨op_addA, os_add⟩
theorem oj_sub : OpJ X (binaryOp .Sub) (rI0 fun i j => .int (i - j)) gSub := ⟨op_sub, os_sub⟩
theorem oj_mul : OpJ X (binaryOp .Mult) (rI CMul fun i j => .int (i * j)) gMul := ⟨op_mul, os_mul⟩
theorem oj_div : OpJ X (binaryOp .FloorDiv) (rI CDivW fun i j => .int (i / j)) gDiv := ⟨op_fdivW, os_div⟩
theorem oj_mod : OpJ X (binaryOp .Mod) (rI (fun _ j => 0 < j) fun i j => .int (i % j)) gMod := ⟨op_mod, os_mod⟩
theorem oj_pow : OpJ X (binaryOp .Pow) (rI CPow fun i j => .int (i ^ j.toNat)) gPow := ⟨op_pow, os_pow⟩
theorem oj_shl : OpJ X (binaryOp .LShift) (rI CPow fun i j => .int (i * 2 ^ j.toNat)) gShl := ⟨op_shl, os_shl⟩
theorem oj_shr : OpJ X (binaryOp .RShift) (rI (fun _ j => 0 ≤ j) fun i j => .int (i / 2 ^ j.toNat)) gShr := ⟨op_shr, os_shr⟩
theorem oj_and : OpJ X (binaryOp .BitAnd) (rI0 fun i j => .int (Builtin.bitAnd i j)) gAnd := ⟨op_and, os_and⟩
theorem oj_or : OpJ X (binaryOp .BitOr) (rI0 fun i j => .int (Builtin.bitOr i j)) gOr := ⟨op_or, os_or⟩
theorem oj_xor : OpJ X (binaryOp .BitXor) (rI0 fun i j => .int (Builtin.bitXor i j)) gXor := ⟨op_xor, os_xor⟩
theorem oj_lt : OpJ X (compareOp .Lt) (rI0 fun i j => .bl (decide (i < j))) gLt := ⟨op_lt, os_lt⟩
theorem oj_le : OpJ X (compareOp .LtE) (rI0 fun i j => .bl (decide (i ≤ j))) gLe := ⟨op_le, os_le⟩
theorem oj_gt : OpJ X (compareOp .Gt) (rI0 fun i j => .bl (decide (j < i))) gGt := ⟨op_gt, os_gt⟩
theorem oj_ge : OpJ X (compareOp .GtE) (rI0 fun i j => .bl (decide (j ≤ i))) gGe := ⟨op_ge, os_ge⟩
theorem oj_eq (hu : X.A.units + 64 < cLine) : OpJ X (compareOp .Eq) (rOr rEq (rEqD X.K)) gEq := ⟨op_or2 op_eq (op_eqD hu), os_eq⟩
theorem oj_ne (hu : X.A.units + 64 < cLine) : OpJ X (compareOp .NotEq) (rOr rNe (rNeD X.K)) gNe := ⟨op_or2 op_ne (op_neD hu), os_ne⟩
theorem oj_isN : OpJ X (compareOp .Is) (fun x y H Q => y = .non ∧ Q (.bl (decide (x = .non))) H) gIsN := ⟨op_isN, os_isN⟩
theorem oj_notN : OpJ X (compareOp .IsNot) (fun x y H Q => y = .non ∧ Q (.bl (!decide (x = .non))) H) gNotN := ⟨op_notN, os_notN⟩
theorem je_v (i : Nat) {x : Str} (hN : X.N[i]? = some x := by rfl) (hv : Vis X.env.scope x := by first | exact Or.inl rfl | exact Or.inr (Or.inl rfl) | exact Or.inr (Or.inr rfl)) (hd : (x == ("__debug__" : Str)) = false := by decide)
    (hcd : (x == ("__classdict__" : Str)) = false := by decide) : JE X (.Name x pos) (eV i) := JE.of (pe_var hN hv hd hcd) (rf_v)
theorem je_i {i : Int} {j} : JE X (.Constant (.int i) j pos) (eC (.int i)) := JE.of (pe_int) (rf_c fun _ _ => .int _)
theorem je_b {b : Bool} {j} : JE X (.Constant (.bool b) j pos) (eC (.bl b)) := JE.of (pe_bl) (rf_c fun _ _ => .bl _)
theorem je_s {z : Str} {j} : JE X (.Constant (.str z) j pos) (eC (.str z)) := JE.of (pe_str) (rf_c fun _ _ => .str _)
theorem je_n {j} : JE X (.Constant .none j pos) (eC .non) := JE.of (pe_non) (rf_c fun _ _ => .non)
theorem je_gl {x : Str} {v : V} {u : Value} {d : D} (hg : Gl X x) (hm : X.mg x = some u) (hv : RelV v u) (h : ∀ α H, DR X.K α H v d) (hd : (x == ("__debug__" : Str)) = false := by decide) : JE X (.Name x pos) (eC d) := JE.of (pe_glob hg hm hv hd) (rf_c h)
theorem je_bl {x : Str} {v : V} {u : Value} (hg : Gl X x) (hm : X.mg x = none) (hv : bootBuiltins x = some u) (h : RelV v u) (hn : x ≠ "__name__" := by decide) (hd : (x == ("__debug__" : Str)) = false := by decide) : JE X (.Name x pos) (eC (.con v)) := JE.of (pe_bltn hg hm hv h hn hd) (rf_c fun _ _ => .con _)
theorem je_op {op : Operator} (h : OpJ X (binaryOp op) r g) (ha : JE X a fa) (hb : JE X b fb) : JE X (.BinOp a op b pos) (eOp g fa fb) := JE.of (pe_op h.op ha.pe hb.pe) (rf_op h.os ha.rf hb.rf)
theorem je_cmp {op : CmpOp} (h : OpJ X (compareOp op) r g) (ha : JE X a fa) (hb : JE X b fb) (hm : behindInMarks op b = false) : JE X (.Compare a [op] [b] pos) (eOp g fa fb) := JE.of (pe_cmpR h.op ha.pe hb.pe hm) (rf_op h.os ha.rf hb.rf)
theorem jt_cmp {op : CmpOp} (h : OpJ X (compareOp op) r g) (ha : JE X a fa) (hb : JE X b fb) (hm : behindInMarks op b = false) : JT X (.Compare a [op] [b] pos) (tE (eOp g fa fb)) := JT.of (pt_cmpR h.op ha.pe hb.pe hm) (rf_tT (rf_op h.os ha.rf hb.rf))
theorem jt_val (h : JE X e fe) (he : ∀ whole, isTrue e X.env whole = (do let v ← whole; standAt e.pos; holding [v] (truthy v)) := by intro _; rfl) : JT X e (tE fe) := JT.of (pt_val h.pe he) (rf_tE h.rf)
theorem jt_not (h : JT X a ft) : JT X (.UnaryOp .Not a pos) (tNt ft) := JT.of (pt_not h.pe) (rf_not h.rf)
theorem JW.jt (h : JW X e ft) : JT X e ft := JT.of (h.pe.pt) (h.rf)
variable {rest : List Expr}
theorem jw_and1 (h : JT X a ft) : JW X (.BoolOp .And [a] pos) ft := JW.of (pw_and1 h.pe) (h.rf)
theorem jw_and (h : JT X a ft) (hb : JW X (.BoolOp .And (b :: rest) pos) fu) : JW X (.BoolOp .And (a :: b :: rest) pos) (tAn ft fu) := JW.of (pw_and h.pe hb.pe) (rf_and h.rf hb.rf)
theorem jw_or1 (h : JT X a ft) : JW X (.BoolOp .Or [a] pos) ft := JW.of (pw_or1 h.pe) (h.rf)
theorem jw_or (h : JT X a ft) (hb : JW X (.BoolOp .Or (b :: rest) pos) fu) : JW X (.BoolOp .Or (a :: b :: rest) pos) (tOo ft fu) := JW.of (pw_or h.pe hb.pe) (rf_or h.rf hb.rf)
theorem je_one {op} (h : JE X a fa) : JE X (.BoolOp op [a] pos) fa := JE.of (pe_one h.pe) (h.rf)
theorem je_and (h : JE X a fa) (hb : JE X (.BoolOp .And (b :: rest) pos) fb) : JE X (.BoolOp .And (a :: b :: rest) pos) (eAn fa fb) := JE.of (pe_and h.pe hb.pe) (rf_andV h.rf hb.rf)
theorem je_or (h : JE X a fa) (hb : JE X (.BoolOp .Or (b :: rest) pos) fb) : JE X (.BoolOp .Or (a :: b :: rest) pos) (eOo fa fb) := JE.of (pe_or h.pe hb.pe) (rf_orV h.rf hb.rf)
theorem je_not (h : JE X a fa) : JE X (.UnaryOp .Not a pos) (eNt fa) := JE.of (pe_not h.pe) (rf_notV h.rf)
theorem je_if (hc : JT X c ft) (h : JE X a fa) (hb : JE X b fb) : JE X (.IfExp c a b pos) (eIf ft fa fb) := JE.of (pe_ifExp hc.pe h.pe hb.pe) (rf_ifE hc.rf h.rf hb.rf)
def gNeg : D → Option D
  | .int i => some (.int (-i))
  | _ => none
theorem us_U {gv : Int → V} {g : D → Option D} (h : ∀ d d', g d = some d' → ∃ i, d = .int i ∧ ∀ α H, DR X.K α H (gv i) d') : UnS X.K (rU gv) g := by
  intro α M x H Q d1 d3 l r1 e q
  obtain ⟨i, rfl, hd⟩ := h _ _ e
  cases r1
  exact ⟨i, rfl, q _ H (Same.refl H) (hd _ _)⟩
theorem je_neg (h : JE X a fa) : JE X (.UnaryOp .USub a pos) (eUn gNeg fa) := JE.of (pe_un un_neg h.pe) (rf_un (us_U fun d d' e => by cases d <;> first | (cases e; exact ⟨_, rfl, fun _ _ => .int _⟩) | cases e) h.rf)
/-- a < b < c -/
def eCh (g g' : D → D → Option D) (a b c : DE) : DE := fun S => (a S).bind fun p => (b p.2).bind fun q => (g p.1 q.1).bind fun z => match z with
  | .bl true => (c q.2).bind fun r => (g' q.1 r.1).map fun y => (y, r.2)
  | .bl false => some (.bl false, q.2)
  | _ => none
theorem rf_chain {K : PySem.W.Frag} (h : OpS K r g) (h' : OpS K r' g') (ha : RefE K ta fa) (hb : RefE K tb fb) (hc : RefE K tc fc) : RefE K (tChain r r' ta tb tc) (eCh g g' fa fb fc) := by
  intro N H0 α0 α σ H S d S' Q R e q
  obtain ⟨⟨x, S1⟩, e1, e⟩ := opt_bind e
  obtain ⟨⟨y, S2⟩, e2, e⟩ := opt_bind e
  obtain ⟨z, e3, e⟩ := opt_bind e
  refine ha N H0 α0 α σ H S x S1 _ R e1 fun v1 α1 H1 R1 g1 d1 => ?_
  refine hb N H0 α0 α1 σ H1 S1 y S2 _ R1 e2 fun v2 α2 H2 R2 g2 d2 => ?_
  refine h α2 _ v1 v2 H2 _ x y z R2.mlive (g2.dr d1) d2 e3 fun v H3 s3 dr => ?_
  have R3 := R2.same s3
  have g3 : Gr α2 H2 S2 α2 H3 S2 := .of_same s3
  cases z <;> first | (cases e; done) | skip
  rename_i k
  cases dr
  refine ⟨k, rfl, ?_⟩
  cases k with
  | false =>
    cases e
    rw [if_neg Bool.false_ne_true]
    exact q _ α2 H3 R3 ((g1.trans g2).trans g3) (.bl _)
  | true =>
    obtain ⟨⟨w, S4⟩, e4, e⟩ := opt_bind e
    obtain ⟨u, e5, e⟩ := opt_map e
    cases e
    rw [if_pos rfl]
    refine hc N H0 α0 α2 σ H3 S2 w _ _ R3 e4 fun v4 α4 H4 R4 g4 d4 => ?_
    refine h' α4 _ v2 v4 H4 Q y w _ R4.mlive (g4.dr (g3.dr d2)) d4 e5 fun v5 H5 s5 d5 => ?_
    exact q v5 α4 H5 (R4.same s5) ((((g1.trans g2).trans g3).trans g4).trans (.of_same s5)) d5
theorem je_ch {op op' : CmpOp} (h : OpJ X (compareOp op) r g) (h' : OpJ X (compareOp op') r' g') (ha : JE X a fa) (hb : JE X b fb) (hc : JE X c fc) (hm : lastMarks [op, op'] [b, c] = false := by with_unfolding_all rfl) :
    JE X (.Compare a [op, op'] [b, c] pos) (eCh g g' fa fb fc) := JE.of (pe_chain h.op h'.op ha.pe hb.pe hc.pe hm) (rf_chain h.os h'.os ha.rf hb.rf hc.rf)
/-! ### arguments, displays, subscripts -/
theorem ja_nil : JA X [] aNil := JA.of (pa_nil) (rf_nil)
theorem ja_cons (h : JE X e fe) (hr : JA X es fA) (hs : starEach (e :: es) X.env = (false, eval e X.env) :: starEach es X.env := by rfl) : JA X (e :: es) (aCons fe fA) := JA.of (pa_cons h.pe hr.pe hs) (rf_cons h.rf hr.rf)
theorem je_tup {x1} (h : JA X es fA) : JE X (.Tuple es x1 pos) (eTup fA) := JE.of (pe_tup h.pe) (rf_tup h.rf)
theorem jl_lst (h : JA X es fA) : JL X (.List es pos) (lDisp fA) := JL.of (pe_lst h.pe) (rf_disp h.rf)
theorem je_L {f : DL} (h : JL X e f) : JE X e (eL f) := JE.of (h.pe) (rf_eL h.rf)
theorem je_ix (ha : JE X a fa) (hb : JE X b fb) (hs : PlainIx b := by exact fun _ _ => rfl) : JE X (.Subscript a b pos) (eOp gIx fa fb) := JE.of (pe_ix ix_any ha.pe hb.pe hs) (rf_op os_ix ha.rf hb.rf)
theorem jo_no : JO X none oNo := JO.of (po_none) (rf_oNo)
theorem jo_so (h : JE X e fe) : JO X (some e) (oSo fe) := JO.of (po_some h.pe) (rf_oSo h.rf)
theorem je_sl {lo hi : Option Expr} {fl fh : DOp} {p2 : Pos} (h : JE X e fe) (hl : JO X lo fl) (hh : JO X hi fh) : JE X (.Subscript e (.Slice lo hi none p2) pos) (eSl fe fl fh) := JE.of (pe_slice sl_any h.pe hl.pe hh.pe) (rf_sl h.rf hl.rf hh.rf)
/-! ### calls -/
theorem je_cb {x : Str} {id : String} {rr : CRd} {gg : List D → Option D} (hc : CJ X (.builtin id) rr gg) (hg : Gl X x) (hm : X.mg x = none) (hv : bootBuiltins x = some (.builtin id)) (ha : JA X (e :: es) fA) (hn : x ≠ "__name__" := by decide) (hdb : (x == ("__debug__" : Str)) = false := by decide)
    (he : starEach (e :: es) X.env = (false, eval e X.env) :: starEach es X.env := by rfl) (hpl : (backTo pos (starEach es X.env)).any (·.1) = false := by rfl) : JE X (.Call (.Name x p) (e :: es) [] pos) (eCB gg fA) := JE.of (pe_callB hc.op hg hm hv ha.pe hn hdb he hpl) (rf_CB hc.os ha.rf)
theorem je_ct {x : Str} {T : String} {rr : CRd} {gg : List D → Option D} (hc : CJ X (.type T) rr gg) (hg : Gl X x) (hm : X.mg x = none) (hv : bootBuiltins x = some (.type T)) (ha : JA X (e :: es) fA) (hn : x ≠ "__name__" := by decide) (hdb : (x == ("__debug__" : Str)) = false := by decide)
    (he : starEach (e :: es) X.env = (false, eval e X.env) :: starEach es X.env := by rfl) (hpl : (backTo pos (starEach es X.env)).any (·.1) = false := by rfl) : JE X (.Call (.Name x p) (e :: es) [] pos) (eCB gg fA) := JE.of (pe_callTy hc.op hg hm hv ha.pe hn hdb he hpl) (rf_CB hc.os ha.rf)
theorem cj_len : CJ X (.builtin "len") (rLenA X.K) gLen := ⟨call_lenA, cs_len⟩
theorem cj_abs : CJ X (.builtin "abs") rAbs gAbs := ⟨call_abs, cs_abs⟩
theorem cj_max (hc : X.calm = true) : CJ X (.builtin "max") (cOr rMax2 (rMax X.K)) gMax := ⟨call_or2 (call_max2 hc) (cr_max hc), cs_max⟩
theorem cj_min (hc : X.calm = true) : CJ X (.builtin "min") (cOr rMin2 (rMin X.K)) gMin := ⟨call_or2 (call_min2 hc) (cr_min hc), cs_min⟩
theorem cj_int : CJ X (.type "int") rInt1 gInt := ⟨call_int1, cs_int⟩
theorem cj_sum (hc : X.calm = true) : CJ X (.builtin "sum") (rSum X.K) gSum := ⟨cr_sum hc, cs_sum⟩
theorem cj_list : CJ X (.type "list") (rListOf X.K) gList := ⟨call_list_of, cs_list⟩
theorem cj_tuple : CJ X (.type "tuple") (rTupOf X.K) gTuple := ⟨call_tuple_of, cs_tuple⟩
variable {k n : Nat} {f : Addr} {fd : FuncData} {ps ks : List Str} {F : DF} {x : Str} {dvs : List V} {dds : List D} {dss : List Value} {kws : List Keyword}
theorem je_call (Fn : Bg.FnG X.prog X.w X.K X.mg X.base CX0 k f fd ps (spD X.K F)) (hr : Room k X.A) (gd : Bg.Gd X.A) (hg : Gl X x) (hm : X.mg x = some (.ref f)) (hk : PySem.W.keepIn X.K (.ref f) = true) (hb : Binds X.K fd ps dss) (hd : Vals dvs dss) (hdd : ∀ α H, DRs X.K α H dvs dds)
    (ha : JA X (e :: es) fA) (hdb : (x == ("__debug__" : Str)) = false := by decide) (he : starEach (e :: es) X.env = (false, eval e X.env) :: starEach es X.env := by rfl) (hpl : (backTo pos (starEach es X.env)).any (·.1) = false := by rfl) :
    JE X (.Call (.Name x p) (e :: es) [] pos) (eCall F dds fA) := JE.of (pe_callGD Fn hr gd hg hm hk hb hd pass0 ha.pe hdb he hpl) (rf_call hdd ha.rf)
theorem je_call0 (Fn : Bg.FnG X.prog X.w X.K X.mg X.base CX0 k f fd ps (spD X.K F)) (hr : Room k X.A) (gd : Bg.Gd X.A) (hg : Gl X x) (hm : X.mg x = some (.ref f)) (hk : PySem.W.keepIn X.K (.ref f) = true) (hb : Binds X.K fd ps dss) (hd : Vals dvs dss) (hdd : ∀ α H, DRs X.K α H dvs dds)
    (hdb : (x == ("__debug__" : Str)) = false := by decide) : JE X (.Call (.Name x p) [] [] pos) (eCall F dds aNil) := JE.of (pe_callG0 Fn hr gd hg hm hk hb hd pass0 hdb) (rf_call hdd rf_nil)
def JK (X : Cx) (kws : List Keyword) (f : DA) : Prop := PK X kws (taOf X.K f)
theorem JK.of {te : TA} {f : DA} (h : PK X kws te) (r : RefA X.K te f) : JK X kws f := ⟨fun pos pins s σ H Q I ⟨N, H0, α0, α, S, d, S', R, e, q⟩ => h.run pos pins s σ H Q I (r N H0 α0 α σ H S d S' Q R e q)⟩
theorem JK.pe {f : DA} (h : JK X kws f) : PK X kws (taOf X.K f) := h
theorem JK.rf {f : DA} (h : JK X kws f) : RefA X.K (taOf X.K f) f := rf_taOf
theorem jk_nil : JK X [] aNil := JK.of (pk_nil) (rf_nil)
theorem jk_cons {nm kpos} (h : JE X e fe) (hr : JK X kws fk) : JK X (⟨nm, e, kpos⟩ :: kws) (aCons fe fk) := JK.of (pk_cons h.pe hr.pe) (rf_cons h.rf hr.rf)
theorem je_callN (Fn : Bg.FnG X.prog X.w X.K X.mg X.base CX0 k f fd ps (spD X.K F)) (hr : Room k X.A) (gd : Bg.Gd X.A) (hg : Gl X x) (hm : X.mg x = some (.ref f)) (hk : PySem.W.keepIn X.K (.ref f) = true) {gw : List Value → List Value → List Value} (hb : KBn X.K fd ps n ks gw (fun vs zs => vs ++ zs))
    (ha : JA X (e :: es) fA) (hkw : JK X kws fk) {m : Nat} (hall : (backToKw pos (keywordEach kws X.env)).all (·.1.isSome) = true := by rfl) (hks : (backToKw pos (keywordEach kws X.env)).filterMap (·.1) = ks := by rfl) (hlm : ks.length = m := by rfl)
    (hdb : (x == ("__debug__" : Str)) = false := by decide) (he : starEach (e :: es) X.env = (false, eval e X.env) :: starEach es X.env := by rfl)
    (hpl : ((backTo pos (starEach (e :: es) X.env)).any (·.1) || (backToKw pos (keywordEach kws X.env)).any (·.1.isNone)) = false := by rfl) :
    JE X (.Call (.Name x p) (e :: es) kws pos) (eCallN F n m fA fk) := JE.of (pe_callGN Fn hr gd hg hm hk hb pass0 ha.pe hkw.pe hall hks hdb he hpl) ((by rw [← hlm]; exact rf_callN ha.rf hkw.rf))
end
end Dl

set_option Elab.async false
set_option linter.all false
set_option maxRecDepth 100000
set_option maxHeartbeats 4000000
namespace Dl
open PySem PySem.Spec PyProof.Rows L2
section
variable {X : Cx} {a b c e : Expr} {es : List Expr} {ta tb tc te : TE} {fa fb fc fe : DE} {tt tu : TT} {ft fu : DT} {tA tk : TA} {fA fk : DA} {pos p : Pos} {st : Stmt} {body rest : List Stmt} {t1 t2 ts : TS} {f1 f2 fs : DS} {tg : TG} {fg : DG} {ws ws' : List Nat}
/-! ### statements -/
theorem jss_nil : JSs X [] sNil := JSs.of (pss_nil) (rf_snil)
theorem jss_one (h : JS X st f1) : JSs X [st] f1 := JSs.of (pss_one h.pe) (h.rf)
theorem jss_cons (h : JS X st f1) (hr : JSs X rest f2) : JSs X (st :: rest) (sSeq f1 f2) := JSs.of (pss_cons h.pe hr.pe) (rf_seq h.rf hr.rf)
theorem js_set {i : Nat} {x : Str} {pos' : Pos} (hN : X.N.Nodup) (hi : X.N[i]? = some x) (hx : Loc X.env.scope x) (he : JE X e fe) (hs : swapsWith e (some (.Name x pos')) pos.line X.env = pure false := by rfl) (hf : X.fn x = true ∨ X.env.scope.names.lookup x = some .local := by first | exact .inl rfl | exact .inr rfl | assumption) :
    JS X (.Assign [.Name x pos'] e pos) (sSet i fe) := JS.of (ps_set hN hi hx he.pe hs hf) (rf_asg he.rf rf_gN)
theorem js_own {i : Nat} {x : Str} {pos' : Pos} {f : DL} (hN : X.N.Nodup) (hi : X.N[i]? = some x) (hx : Loc X.env.scope x) (he : JL X e f) (hs : swapsWith e (some (.Name x pos')) pos.line X.env = pure false := by rfl) (hf : X.fn x = true ∨ X.env.scope.names.lookup x = some .local := by first | exact .inl rfl | exact .inr rfl | assumption) :
    JS X (.Assign [.Name x pos'] e pos) (sOwn i f) := JS.of (ps_set hN hi hx he.pe hs hf) (rf_own he.rf)
theorem js_asg {tgt : Expr} (he : JE X e fe) (hg : JG X tgt ws fg) (hs : swapsWithSole [tgt] e pos.line X.env = pure false := by rfl) (hw : swappedStores [tgt] e X.env = pure none := by rfl)
    (h1 : (assignEach [tgt] X.env).map (·.2) = [assign tgt X.env] := by rfl) : JS X (.Assign [tgt] e pos) (sAsg fe fg) := JS.of (ps_asg he.pe hg.pe hs hw h1) (rf_asg he.rf hg.rf)
theorem js_if (hc : JT X c ft) (ha : JSs X body f1) (hb : JSs X rest f2) : JS X (.If c body rest pos) (sIf ft f1 f2) := JS.of (ps_if hc.pe ha.pe hb.pe) (rf_if hc.rf ha.rf hb.rf)
theorem js_ret (he : JE X e fe) : JS X (.Return (some e) pos) (sRet fe) := JS.of (ps_ret he.pe) (rf_ret he.rf)
theorem js_retN : JS X (.Return none pos) sRetN := JS.of (ps_retN) (rf_retN)
theorem js_ex (he : JE X e fe) (hs : swapsWith e none pos.line X.env = pure false := by rfl) : JS X (.Expr e pos) (sEx fe) := JS.of (ps_expr he.pe hs) (rf_ex he.rf)
theorem js_while (hp : PassesOwn (model X.prog X.w) X.A X.env X.xe) (hc : JT X c ft) (hb : JSs X body f1) : JS X (.While c body [] pos) (sWhile ft f1) := JS.of (ps_while hp hc.pe hb.pe) (rf_whileF hc.rf hb.rf fuel)
def sNever : DS := fun _ => none
theorem rf_never {K : PySem.W.Frag} : RefS K tNever sNever := fun _ _ _ _ _ _ _ _ _ _ _ e => nomatch e
theorem js_never : JS X st sNever := JS.of (ps_never) (rf_never)
/-- what is walked -/
def tiOf (K : PySem.W.Frag) (f : DI) : TI := fun σ H Rr => ∃ (N : Addr → Prop) (H0 : Hp) (α0 α : List Addr) (S : Sx) (ds : List D) (S' : Sx), SR K N H0 α0 α σ H S ∧ f S = some (ds, S') ∧
  ∀ J α' H', SR K N H0 α0 α' σ H' S' → Gr α H S α' H' S' → WalkD K α' (lim H' (Mx N α' S' σ)) J ds → Rr J H'
def JI (X : Cx) (tgt iter : Expr) (f : DI) : Prop := PI X tgt iter (tiOf X.K f)
theorem JI.of {tgt iter : Expr} {wi : TI} {f : DI} (h : PI X tgt iter wi) (r : RefI X.K wi f) : JI X tgt iter f := ⟨fun pins s σ H Q I ⟨N, H0, α0, α, S, d, S', R, e, q⟩ => h.run pins s σ H Q I (r N H0 α0 α σ H S d S' Q R e q)⟩
theorem JI.pe {tgt iter : Expr} {f : DI} (h : JI X tgt iter f) : PI X tgt iter (tiOf X.K f) := h
theorem JI.rf {tgt iter : Expr} {f : DI} (h : JI X tgt iter f) : RefI X.K (tiOf X.K f) f := fun N H0 α0 α σ H S d S' Q R e q => ⟨N, H0, α0, α, S, d, S', R, e, q⟩
theorem pi_or {tgt iter : Expr} {w w' : TI} (h : PI X tgt iter w) (h' : PI X tgt iter w') : PI X tgt iter (tiOr w w') := ⟨fun pins s σ H R I q => q.elim (h.run pins s σ H R I) (h'.run pins s σ H R I)⟩
theorem ji_r1 {tgt : Expr} (hg : Gl X "range") (hm : X.mg "range" = none) (ha : JA X [a] fA) (hs : starEach [a] X.env = [(false, eval a X.env)] := by rfl) : JI X tgt (.Call (.Name "range" p) [a] [] pos) (iR1 fA) := JI.of (pi_range1 hg hm ha.pe hs) (rf_iR1 ha.rf)
theorem js_for {tgt iter : Expr} {fi : DI} (hp : PassesOwn (model X.prog X.w) X.A X.env X.xe) (hc : X.calm = true) (hi : JI X tgt iter fi) (hg : JG X tgt ws fg) (hb : JSs X body f1) (hs : ∀ x, foldedSetIterable iter X.env x = pure x := by intro _; rfl) :
    JS X (.For tgt iter body [] pos) (sFor fi fg f1) := JS.of (ps_for hp hc hi.pe hg.pe hb.pe hs) (rf_for hi.rf hg.rf hb.rf)
/-! ### targets -/
theorem jg_n {i : Nat} {x : Str} (hN : X.N.Nodup) (hi : X.N[i]? = some x) (hx : Loc X.env.scope x) (hf : X.fn x = true ∨ X.env.scope.names.lookup x = some .local := by first | exact .inl rfl | exact .inr rfl | assumption) : JG X (.Name x pos) [i] (gN i) := JG.of (pg_name hN hi hx hf) (rf_gN)
def tgsOf (K : PySem.W.Frag) (ws : List Nat) (g : List D → Sx → Option Sx) : TGs := fun vs σ H R => ∃ (N : Addr → Prop) (H0 : Hp) (α0 α : List Addr) (S : Sx) (ds : List D) (S' : Sx), SR K N H0 α0 α σ H S ∧ DRs K α (lim H (Mx N α S σ)) vs ds ∧ g ds S = some S' ∧
  ∀ σ' α' H', SR K N H0 α0 α' σ' H' S' → Gr α H S α' H' S' → Same (lim H (Mx N α S σ)) (lim H' (Mx N α' S' σ')) → Wr ws σ σ' → R σ' H'
structure JGs (X : Cx) (es : List Expr) (n : Nat) (ws : List Nat) (f : List D → Sx → Option Sx) : Prop where
  pe : PGs X es (tgsOf X.K ws f)
  ln : ∀ ds S S', f ds S = some S' → ds.length = n
theorem JGs.rf {n : Nat} {f : List D → Sx → Option Sx} (h : JGs X es n ws f) : RefGs X.K ws (tgsOf X.K ws f) f := fun N H0 α0 α σ H S d v S' Q R dr e q => ⟨N, H0, α0, α, S, d, S', R, dr, e, q⟩
theorem JGs.of {n : Nat} {tg : TGs} {f : List D → Sx → Option Sx} (h : PGs X es tg) (r : RefGs X.K ws tg f) (l : ∀ ds S S', f ds S = some S' → ds.length = n) : JGs X es n ws f := ⟨⟨fun pins s σ H v u Q I rr ⟨N, H0, α0, α, S, d, S', R, dr, e, q⟩ => h.run pins s σ H v u Q I rr (r N H0 α0 α σ H S d v S' Q R dr e q)⟩, l⟩
theorem jgs_0 : JGs X [] 0 [] gs0 := JGs.of (pgs_nil) (rf_gs0) (gsl0)
theorem jgs_C {n : Nat} {fgs : List D → Sx → Option Sx} (h1 : JG X e ws fg) (h2 : JGs X es n ws' fgs) (hs : (assignEach (e :: es) X.env).map (·.2) = assign e X.env :: (assignEach es X.env).map (·.2) := by rfl) :
    JGs X (e :: es) (n + 1) (ws ++ ws') (gsC fg fgs) := JGs.of (pgs_cons h1.pe h2.pe hs) (rf_gsC h1.rf h2.rf) (gslC h2.ln)
theorem pg_or {t t' : TG} (h : PG X e t) (h' : PG X e t') : PG X e (fun v σ H R => t v σ H R ∨ t' v σ H R) := ⟨fun pins s σ H v u Q I r q => q.elim (h.run pins s σ H v u Q I r) (h'.run pins s σ H v u Q I r)⟩
theorem jg_t {k n : Nat} {fgs : List D → Sx → Option Sx} (hc : X.calm = true) (h : JGs X es n ws fgs) (hn : (assignEach es X.env).length = n := by rfl) (hst : (assignEach es X.env).findIdx? (·.1) = none := by rfl) :
    JG X (.Tuple es k pos) ws (gT fgs) := JG.of (pg_or (pg_tup hc h.pe hn hst) (pg_unl hc h.pe hn hst)) (gs_len h.ln h.rf)
/-! ### lists of one's own, comprehensions -/
theorem js_app {i : Nat} {x : Str} {p1 : Pos} {apos cpos : Pos} (he : JE X e fe) (h : PE X (.Call (.Attribute (.Name x p1) "append" apos) [e] [] cpos) (tBM X.K "list" rAppend (tVar i) (tCons (teOf X.K fe) tNil))) (hs : swapsWith (.Call (.Attribute (.Name x p1) "append" apos) [e] [] cpos) none pos.line X.env = pure false := by rfl) :
    JS X (.Expr (.Call (.Attribute (.Name x p1) "append" apos) [e] [] cpos) pos) (sApp i fe) := JS.of (ps_expr h hs) (rf_app he.rf)
def JTs (X : Cx) (ifs : List Expr) (f : DT) : Prop := PTs X ifs (ttOf X.K f)
theorem JTs.of {ifs : List Expr} {te : TT} {f : DT} (h : PTs X ifs te) (r : RefT X.K te f) : JTs X ifs f := ⟨fun pins s σ H Q I ⟨N, H0, α0, α, S, d, S', R, e, q⟩ => h.run pins s σ H Q I (r N H0 α0 α σ H S d S' Q R e q)⟩
theorem JTs.pe {ifs : List Expr} {f : DT} (h : JTs X ifs f) : PTs X ifs (ttOf X.K f) := h
theorem JTs.rf {ifs : List Expr} {f : DT} (h : JTs X ifs f) : RefT X.K (ttOf X.K f) f := rf_ttOf
theorem jts_nil : JTs X [] tY := JTs.of (pts_nil) (rf_tY)
theorem jts_one (h : JT X c ft) : JTs X [c] ft := JTs.of (pts_one h.pe) (h.rf)
theorem jl_comp {elt tgt iter : Expr} {ifs : List Expr} {scope : Scope} {own : List (Str × Nat)} {fi : DI} (hc : X.calm = true) (hN : X.N.Nodup) (hi : JI X tgt iter fi) (ok : BlkOk X.N X.env.scope scope own) (hw : ∀ j, j ∈ ws → j ∈ own.map (·.2))
    (hg : ∀ (s : Shared) (H : Hp) (C : Addr) (cl : List (Str × Addr)) (fp : List Addr), JG (X.blk s H scope (compEnvC scope cl C X.env) fp) tgt ws fg)
    (ht : ∀ (s : Shared) (H : Hp) (C : Addr) (cl : List (Str × Addr)) (fp : List Addr), JTs (X.blk s H scope (compEnvC scope cl C X.env) fp) ifs ft)
    (he : ∀ (s : Shared) (H : Hp) (C : Addr) (cl : List (Str × Addr)) (fp : List Addr), JE (X.blk s H scope (compEnvC scope cl C X.env) fp) elt fe) (hs : ∀ x, foldedSetIterable iter X.env x = pure x := by intro _; rfl) :
    JL X (.ListComp elt [⟨tgt, iter, ifs, 0⟩] scope pos) (lComp (own.map (·.2)) fi fg ft fe) :=
  JL.of (pe_lc (g := tgOf X.K ws fg) (tt := ttOf X.K ft) (te := teOf X.K fe) hc hN hi.pe ok (fun s H C cl fp => (hg s H C cl fp).pe) (fun s H C cl fp => (ht s H C cl fp).pe) (fun s H C cl fp => (he s H C cl fp).pe) hs)
    (rf_comp hw hi.rf rf_tgOf rf_ttOf rf_teOf)
end
end Dl

set_option Elab.async false
set_option linter.all false
set_option maxRecDepth 100000
set_option maxHeartbeats 4000000
namespace Dl
open PySem PySem.Spec PyProof.Rows L2
/-! ### x = [.. for ..] -/
section
variable {X : Cx} {te : TE} {fe : DE} {tt : TT} {ft : DT} {tg : TG} {fg : DG} {ws : List Nat}
theorem js_setLcJ {i : Nat} {y : Str} {py : Pos} {elt tgt iter : Expr} {ifs : List Expr} {scope : Scope} {own : List (Str × Nat)} {pos spos : Pos} {fi : DI} {fs : DS} (hf : ∀ te, RefL X.K te (lComp (own.map (·.2)) fi fg ft fe) → RefS X.K (tAsg te (gName i)) fs) (hc : X.calm = true) (hN : X.N.Nodup) (hy : X.N[i]? = some y) (hyl : X.env.scope.names.lookup y = some .local)
    (hsw : swapsWith (.ListComp elt [⟨tgt, iter, ifs, 0⟩] scope pos) (some (.Name y py)) spos.line X.env = pure true) (hi : JI X tgt iter fi) (ok : BlkOk X.N X.env.scope scope own) (hw : ∀ j, j ∈ ws → j ∈ own.map (·.2))
    (hg : ∀ (s : Shared) (H : Hp) (C : Addr) (cl : List (Str × Addr)) (fp : List Addr), JG (X.blk s H scope (compEnvC scope cl C X.env) fp) tgt ws fg)
    (ht : ∀ (s : Shared) (H : Hp) (C : Addr) (cl : List (Str × Addr)) (fp : List Addr), JTs (X.blk s H scope (compEnvC scope cl C X.env) fp) ifs ft)
    (he : ∀ (s : Shared) (H : Hp) (C : Addr) (cl : List (Str × Addr)) (fp : List Addr), JE (X.blk s H scope (compEnvC scope cl C X.env) fp) elt fe) (hs : ∀ x, foldedSetIterable iter X.env x = pure x := by intro _; rfl) :
    JS X (.Assign [.Name y py] (.ListComp elt [⟨tgt, iter, ifs, 0⟩] scope pos) spos) fs :=
  JS.of (ps_setLc (g := tgOf X.K ws fg) (tt := ttOf X.K ft) (te := teOf X.K fe) hc hN hy hyl hsw hi.pe ok (fun s H C cl fp => (hg s H C cl fp).pe) (fun s H C cl fp => (ht s H C cl fp).pe) (fun s H C cl fp => (he s H C cl fp).pe) hs)
    (hf _ (rf_comp hw hi.rf rf_tgOf rf_ttOf rf_teOf))
theorem lcSet {K : PySem.W.Frag} {i : Nat} {f : DL} : ∀ te, RefL K te f → RefS K (tAsg te (gName i)) (sSet i (eL f)) := fun te h => rf_asg (rf_eL h) rf_gN
end
/-! ### things of the store -/
theorem pe_or {X : Cx} {e : Expr} {t t' : TE} (h : PE X e t) (h' : PE X e t') : PE X e (fun σ H Q => t σ H Q ∨ t' σ H Q) := ⟨fun pins s σ H Q I q => q.elim (h.run pins s σ H Q I) (h'.run pins s σ H Q I)⟩
def Sx.obj (S : Sx) (n : Nat) : Option DO := S.st[n]?
def Sx.putO (S : Sx) (n : Nat) (o : DO) : Sx := { S with st := S.st.set n o }
def ixO (o : D) (i : D) (S : Sx) : Option D := match o with
  | .obj n => (S.obj n).bind fun x => match x, i with
    | .lst ds, .int k => atI ds k
    | _, _ => none
  | _ => gIx o i
def eIxS (a b : DE) : DE := fun S => (a S).bind fun p => (b p.2).bind fun q => (ixO p.1 q.1 q.2).map fun z => (z, q.2)
/-- a new list of the store -/
def eNewO (f : DL) : DE := fun S => (f S).map fun p => (.obj p.2.st.length, { p.2 with st := p.2.st ++ [.lst p.1] })
def sPutO (o ix e : DE) : DS := fun S => (e S).bind fun p => (o p.2).bind fun q => (ix q.2).bind fun r => match q.1, r.1 with
  | .obj n, .int k => (r.2.obj n).bind fun x => match x with
    | .lst ds => (ixN ds.length k).map fun j => (.nx, r.2.putO n (.lst (ds.set j p.1)))
    | _ => none
  | _, _ => none
section
variable {K : PySem.W.Frag} {N : Addr → Prop} {H0 H H' : Hp} {α0 α α' : List Addr} {σ : L2.St} {S S' : Sx} {p : Addr} {ta tb te : TE} {fa fb fe : DE} {f : DL}
theorem rf_ixS (ha : RefE K ta fa) (hb : RefE K tb fb) : RefE K (tOp (rIxA K) ta tb) (eIxS fa fb) := by
  intro N H0 α0 α σ H S d S' Q R e q
  obtain ⟨⟨x, S1⟩, e1, e⟩ := opt_bind e
  obtain ⟨⟨y, S2⟩, e2, e⟩ := opt_bind e
  obtain ⟨z, e3, e⟩ := opt_map e
  cases e
  refine ha N H0 α0 α σ H S x S1 _ R e1 fun v1 α1 H1 R1 g1 d1 => ?_
  refine hb N H0 α0 α1 σ H1 S1 y _ _ R1 e2 fun v2 α2 H2 R2 g2 d2 => ?_
  have pure_ : gIx x y = some d → rIxA K v1 v2 H2 Q := fun e3 => os_ix α2 _ v1 v2 H2 Q x y _ R2.mlive (g2.dr d1) d2 e3 fun v H' s dr => q v α2 H' (R2.same s) ((g1.trans g2).trans (.of_same s)) dr
  cases x with
  | obj n =>
    obtain ⟨o, e4, e5⟩ := opt_bind e3
    cases g2.dr d1 with
    | obj en =>
      obtain ⟨a, ea, ho⟩ := R2.sto.at_ n o e4
      rw [en] at ea; cases ea
      cases o <;> first | (cases e5; done) | skip
      cases y <;> first | (cases e5; done) | skip
      obtain ⟨vs, hv, hd⟩ := ho
      cases d2
      obtain ⟨v, q1, q2⟩ := atI_dr hd e5
      exact .inl ⟨_, _, _, v, rfl, rfl, .inl (.inl hv), q1, q v α2 H2 R2 (g1.trans g2) q2⟩
  | non => exact pure_ e3
  | bl b => exact pure_ e3
  | int i => exact pure_ e3
  | str z => exact pure_ e3
  | lst ds => exact pure_ e3
  | tup ds => exact pure_ e3
  | con v => exact pure_ e3
  | dct ks ds => exact pure_ e3
theorem rf_newO (h : RefL K ta f) : RefE K ta (eNewO f) := by
  intro N H0 α0 α σ H S d S' Q R e q
  obtain ⟨⟨ds, S1⟩, e1, e⟩ := opt_map e
  cases e
  refine h N H0 α0 α σ H S ds S1 Q R e1 fun p α1 H1 vs R1 g1 np n0 hp d1 => ?_
  have L := R1.less.1
  have npa : p ∉ α1 := fun z => R1.na p z (.inr rfl)
  have nn : ¬ N p := fun z => R.live p z np
  have em : Mx N (α1 ++ [p]) { S1 with st := S1.st ++ [.lst ds] } σ = Mx (NewP N p) α1 S1 σ := funext fun a => propext ⟨
    fun m => m.elim (fun z => .inl (.inl z)) fun z => z.elim (fun y => (List.mem_append.mp y).elim (fun w => .inr (.inl w)) fun w => .inl (.inr (List.mem_singleton.mp w))) fun y => .inr (.inr y),
    fun m => m.elim (fun z => z.elim .inl fun y => .inr (.inl (List.mem_append_right _ (by rw [y]; exact List.mem_singleton.mpr rfl)))) fun z => z.elim (fun y => .inr (.inl (List.mem_append_left _ y))) fun y => .inr (.inr y)⟩
  have pre1 : α1 <+: α1 ++ [p] := List.prefix_append _ _
  have hn : (α1 ++ [p])[S1.st.length]? = some p := by
    rw [R1.sto.len, List.getElem?_append_right (Nat.le_refl _), Nat.sub_self]; rfl
  have dobj : DR K (α1 ++ [p]) (lim H1 (Mx N (α1 ++ [p]) { S1 with st := S1.st ++ [.lst ds] } σ)) (.ref p) (.obj S1.st.length) := .obj hn
  have g2 : Gr α H S (α1 ++ [p]) H1 { S1 with st := S1.st ++ [.lst ds] } := ⟨g1.pre.trans pre1, fun a h n => (List.mem_append.mp h).elim (fun z => g1.fr a z n) fun z => by rw [List.mem_singleton.mp z]; exact np, g1.keep, g1.own, g1.frz⟩
  refine q _ (α1 ++ [p]) H1 ⟨R1.pre.trans pre1, R1.len, ?_, L.live, fun a h n => ?_, fun a h => ⟨(L.on a h).1, fun z => ?_⟩, R1.uniq, fun i x ex => ?_, ⟨?_, fun n o en => ?_⟩, R1.keep, R1.fresh, fun a h n => ?_, R1.frz⟩ g2 dobj
  · exact List.nodup_append.mpr ⟨R1.nd, by simp, fun a ha b hb e => by rw [List.mem_singleton.mp hb] at e; subst e; exact npa ha⟩
  · rcases List.mem_append.mp h with h | h
    · exact L.na a h n
    · rw [List.mem_singleton.mp h] at n; exact nn n
  · rcases List.mem_append.mp z with z | z
    · exact (L.on a h).2 z
    · rw [List.mem_singleton.mp z] at h; exact (R1.on p h).1 (.inr rfl)
  · rw [em]; exact (R1.slot i x ex).mono (fun _ _ _ _ h => h) (Same.refl _) pre1
  · show (S1.st ++ [DO.lst ds]).length = _
    rw [List.length_append, List.length_append, R1.sto.len]; rfl
  · rw [em]
    have en : (S1.st ++ [DO.lst ds])[n]? = some o := en
    by_cases c : n < S1.st.length
    · rw [List.getElem?_append_left c] at en
      obtain ⟨a, y1, y2⟩ := R1.sto.at_ n o en
      exact ⟨a, by rw [List.getElem?_append_left (by rw [← R1.sto.len]; exact c)]; exact y1, y2.mono (fun _ h => h) (Same.refl _) pre1⟩
    · rw [List.getElem?_append_right (by omega)] at en
      have c2 : n = S1.st.length := by
        by_cases c3 : n - S1.st.length = 0
        · omega
        · rw [List.getElem?_eq_none_iff.mpr (by simp; omega)] at en; cases en
      subst c2
      rw [Nat.sub_self] at en
      cases en
      exact ⟨p, hn, vs, hp, d1.mono (Same.refl _) pre1⟩
  · rcases List.mem_append.mp h with h | h
    · exact R1.fral a h n
    · rw [List.mem_singleton.mp h]; exact n0
/-- what is not locked is not frozen -/
theorem SR.notF {n : Nat} {a : Addr} {o : DO} (R : SR K N H0 α0 α σ H S) (en : S.st[n]? = some o) (ea : α[n]? = some a) (hL : ∀ kvs, o ≠ .dctL kvs) (ob : Obj) (u : HO) : H a ≠ some (.frz ob u) := by
  obtain ⟨b, y1, y2⟩ := R.sto.at_ n o en
  rw [ea] at y1
  cases y1
  intro z
  cases o with
  | dctL kvs => exact hL kvs rfl
  | lst ds => obtain ⟨vs, q, _⟩ := y2; rw [q] at z; cases z
  | dct kvs => obtain ⟨vs, q, _⟩ := y2; rw [q] at z; cases z
  | ins c fs => obtain ⟨dx, vs, q, _⟩ := y2; rw [q] at z; cases z
  | exc c fs => obtain ⟨d, q, _⟩ := y2; rw [q] at z; cases z
  | tbl nm => obtain ⟨_, ps, q, _⟩ := y2; rw [q] at z; cases z
/-- a list of the store is changed -/
theorem SR.chgO {n : Nat} {a : Addr} {vs : List V} {ds : List D} {o : DO} (R : SR K N H0 α0 α σ H S) (en : S.st[n]? = some o) (ea : α[n]? = some a) (d : DRs K α (lim H (Mx N α S σ)) vs ds) (hL : ∀ kvs, o ≠ .dctL kvs := by intro _ h; cases h) :
    SR K N H0 α0 α σ (upd H a (.lst vs)) (S.putO n (.lst ds)) ∧ Same (lim H (Mx N α S σ)) (lim (upd H a (.lst vs)) (Mx N α (S.putO n (.lst ds)) σ)) := by
  have am : a ∈ α := List.mem_of_getElem? ea
  have ua : ∀ b, b ≠ a → upd H a (.lst vs) b = H b := fun b h => upd_ne h
  have sm : Same (lim H (Mx N α S σ)) (lim (upd H a (.lst vs)) (Mx N α (S.putO n (.lst ds)) σ)) :=
    lim_keep (fun b o nm h => by rw [ua b fun z => nm (.inr (.inl (by rw [z]; exact am)))]; exact h) fun b m _ => m
  refine ⟨⟨R.pre, R.len, R.nd, fun b nb => ?_, R.na, R.on, R.uniq, fun i x ex => (R.slot i x ex).mono (fun b u hu hx h => ?_) sm (List.prefix_refl _), ⟨?_, fun m u em => ?_⟩, fun b u nb h => ?_, R.fresh, R.fral, fun b ob u h => by rw [ua b fun z => by (subst z; exact R.notF en ea hL ob u (R.frz _ _ _ h))]; exact R.frz b ob u h⟩, sm⟩
  · rw [ua b fun z => R.na a am (z ▸ nb)]; exact R.live b nb
  · obtain ⟨es, rfl⟩ := hx
    rw [ua b fun z => (R.on b ⟨i, es, ex, hu⟩).2 (by rw [z]; exact am)]; exact h
  · show (S.st.set n _).length = _
    rw [List.length_set]; exact R.sto.len
  · have em : (S.st.set n (.lst ds))[m]? = some u := em
    by_cases c : n = m
    · subst c
      rw [List.getElem?_set_self (List.getElem?_eq_some_iff.mp en).1] at em
      cases em
      exact ⟨a, ea, vs, upd_same, d.mono sm (List.prefix_refl _)⟩
    · rw [List.getElem?_set_ne c] at em
      obtain ⟨b, y1, y2⟩ := R.sto.at_ m u em
      refine ⟨b, y1, y2.mono (fun x h => ?_) sm (List.prefix_refl _)⟩
      rw [ua b fun z => ?_]; exact h
      subst z
      have h1 : n < α.length := (List.getElem?_eq_some_iff.mp ea).1
      have h2 : m < α.length := (List.getElem?_eq_some_iff.mp y1).1
      rw [List.getElem?_eq_getElem h1] at ea
      rw [List.getElem?_eq_getElem h2] at y1
      exact c ((List.getElem_inj R.nd).mp ((Option.some.inj ea).trans (Option.some.inj y1).symm))
  · by_cases c : b = a
    · exfalso
      subst c
      by_cases c0 : b ∈ α0
      · exact nb c0
      · rw [R.fral b am c0] at h; cases h
    · rw [ua b c]; exact R.keep b u nb h
theorem rf_putO {to ti : TE} {fo fi : DE} (he : RefE K te fe) (ho : RefE K to fo) (hi : RefE K ti fi) : RefS K (tAsg te (L2.gSub to ti rSetL)) (sPutO fo fi fe) := by
  intro N H0 α0 α σ H S fl S' E R e q
  obtain ⟨⟨x, S1⟩, e1, e⟩ := opt_bind e
  obtain ⟨⟨o, S2⟩, e2, e⟩ := opt_bind e
  obtain ⟨⟨i, S3⟩, e3, e⟩ := opt_bind e
  refine he N H0 α0 α σ H S x S1 _ R e1 fun v α1 H1 R1 g1 d1 => ?_
  refine ho N H0 α0 α1 σ H1 S1 o S2 _ R1 e2 fun v2 α2 H2 R2 g2 d2 => ?_
  refine hi N H0 α0 α2 σ H2 S2 i S3 _ R2 e3 fun v3 α3 H3 R3 g3 d3 => ?_
  cases o <;> first | (cases e; done) | skip
  cases i <;> first | (cases e; done) | skip
  obtain ⟨u, e4, e⟩ := opt_bind e
  cases u <;> first | (cases e; done) | skip
  obtain ⟨j, e5, e⟩ := opt_map e
  cases e
  cases d3
  cases g3.dr d2 with
  | obj en =>
    obtain ⟨a, ea, vs, hv, hd⟩ := R3.sto.at_ _ _ e4
    rw [en] at ea; cases ea
    refine ⟨_, vs, _, j, rfl, rfl, hv, by rw [hd.len]; exact e5, ?_⟩
    obtain ⟨R4, s4⟩ := R3.chgO e4 en (hd.set j ((g2.trans g3).dr d1))
    exact q σ α3 _ R4 ((g1.pre.trans g2.pre).trans g3.pre) (((g1.same.trans g2.same).trans g3.same).trans s4)
end
section
variable {X : Cx} {a b e o : Expr} {ta tb te to ti : TE} {fa fb fe fo fi : DE} {f : DL} {pos p : Pos} {ix : Expr}
theorem je_ixS (ha : JE X a fa) (hb : JE X b fb) (hs : PlainIx b := by exact fun _ _ => rfl) : JE X (.Subscript a b pos) (eIxS fa fb) := JE.of (pe_ix ix_any ha.pe hb.pe hs) (rf_ixS ha.rf hb.rf)
theorem je_new (h : JL X e f) : JE X e (eNewO f) := JE.of (h.pe) (rf_newO h.rf)
theorem js_putO (he : JE X e fe) (ho : JE X o fo) (hi : JE X ix fi) (hg : PG X (.Subscript o ix p) (L2.gSub (teOf X.K fo) (teOf X.K fi) rSetL))
    (hs : swapsWithSole [.Subscript o ix p] e pos.line X.env = pure false := by rfl) (hw : swappedStores [.Subscript o ix p] e X.env = pure none := by rfl)
    (h1 : (assignEach [.Subscript o ix p] X.env).map (·.2) = [assign (.Subscript o ix p) X.env] := by rfl) :
    JS X (.Assign [.Subscript o ix p] e pos) (sPutO fo fi fe) := JS.of (ps_asg he.pe hg hs hw h1) (rf_putO he.rf ho.rf hi.rf)
end
/-! ### isinstance -/
def D.ty : D → Option String
  | .non => some "NoneType" | .bl _ => some "bool" | .int _ => some "int" | .str _ => some "str" | .lst _ => some "list" | .tup _ => some "tuple" | .dct _ _ => some "dict" | _ => none
def isT (t n : String) : Bool := t == n || (t == "bool" && n == "int")
def kinds : List String := ["int", "bool", "str", "tuple", "list", "dict"]
def gIsi : List D → Option D
  | [d, .con (.ty n)] => d.ty.bind fun t => if kinds.contains n = true then some (.bl (isT t n)) else none
  | _ => none
section
variable {K : PySem.W.Frag} {α : List Addr} {H : Hp} {M : Addr → Prop}
theorem DR.tyx {x : V} {d : D} {t : String} (h : DR K α H x d) (e : d.ty = some t) : TyX K H x (.type t) := by
  cases h <;> cases e
  · exact .base .non
  · exact .base (.bl _)
  · exact .base (.int _)
  · exact .base (.str _)
  · rename_i a b; exact Bg.sqL_ty a
  · rename_i a b; exact Bg.sqT_ty a
  · rename_i a b c; exact .base (.dK a)
theorem kit_all {t n : String} {d : D} (e : d.ty = some t) (h : kinds.contains n = true) : PySem.W.kitOne K (.type t) (.type n) = some (isT t n) := by
  have hn : n = "int" ∨ n = "bool" ∨ n = "str" ∨ n = "tuple" ∨ n = "list" ∨ n = "dict" := by simpa [kinds] using h
  cases d <;> cases e <;> (rcases hn with rfl | rfl | rfl | rfl | rfl | rfl <;> exact kit_ty (by decide +kernel))
theorem cs_isi : CallS K (rIsi K) gIsi := by
  intro α M xs H Q ds d3 l r e q
  unfold gIsi at e
  split at e
  · obtain ⟨t, e1, e⟩ := opt_bind e
    split at e
    · rename_i c
      cases e
      cases r with
      | cons r1 r2 =>
        cases r2 with
        | cons r3 r4 =>
          cases r4
          cases r3
          exact Bg.rd_isi (.ty _) ((r1.mono lim_sub (List.prefix_refl _)).tyx e1) (kit_all e1 c) (q _ H (Same.refl H) (.bl _))
    · cases e
  · cases e
end
theorem cj_isi {X : Cx} : CJ X (.builtin "isinstance") (rIsi X.K) gIsi := ⟨call_isi, cs_isi⟩
/-! ### in -/
def D.flat : D → Option V
  | .non => some .non
  | .bl b => some (.bl b)
  | .int i => some (.int i)
  | .str z => some (.str z)
  | _ => none
def flats : List D → Option (List V)
  | [] => some []
  | d :: ds => d.flat.bind fun v => (flats ds).map (v :: ·)
def inFlat (neg : Bool) (x : D) (ds : List D) : Option D := x.flat.bind fun v => (flats ds).map fun vs => .bl (if neg then !inV v vs else inV v vs)
def inDeep (neg : Bool) (x : D) (ds : List D) : Option D := (D.py x).bind fun p => (D.pys ds).bind fun ps => if (SeqAt.shaped p && SeqAt.shaped (.list ps)) = true then some (.bl (if neg then !(ps.any fun z => PyData.eqv z p) else ps.any fun z => PyData.eqv z p)) else none
def gIn (neg : Bool) (x y : D) : Option D := match y with
  | .lst ds => (inFlat neg x ds).or (inDeep neg x ds)
  | .tup ds => inFlat neg x ds
  | _ => none
section
variable {K : PySem.W.Frag} {α : List Addr} {H : Hp}
theorem flat_ok {x : V} {d : D} {v : V} (h : DR K α H x d) (e : d.flat = some v) : x = v ∧ flatV v = true := by
  cases h <;> cases e <;> exact ⟨rfl, rfl⟩
theorem flats_ok {xs : List V} {ds : List D} {vs : List V} (h : DRs K α H xs ds) (e : flats ds = some vs) : xs = vs ∧ vs.all flatV = true := by
  induction ds generalizing xs vs with
  | nil => cases h; cases e; exact ⟨rfl, rfl⟩
  | cons d ds ih =>
    cases h with
    | cons a b =>
      obtain ⟨v, e1, e⟩ := opt_bind e
      obtain ⟨ws, e2, rfl⟩ := opt_map e
      obtain ⟨rfl, f1⟩ := flat_ok a e1
      obtain ⟨rfl, f2⟩ := ih b e2
      exact ⟨rfl, by rw [List.all_cons, f1, f2]; rfl⟩
def rInA (K : PySem.W.Frag) (neg : Bool) : R2 := rOr (rIn K neg) (if neg then rNotInD K else rInD K)
theorem os_in (neg : Bool) : OpS K (rInA K neg) (gIn neg) := by
  intro α M x y H Q d1 d2 d3 l r1 r2 e q
  have fl : ∀ ds, inFlat neg d1 ds = some d3 → ∀ a xs, (SqL K H a xs ∨ SqT K H a xs) → DRs K α (lim H M) xs ds → rIn K neg x (.ref a) H Q := by
    intro ds e a xs hs hd
    obtain ⟨v, e1, e⟩ := opt_bind e
    obtain ⟨vs, e2, rfl⟩ := opt_map e
    obtain ⟨rfl, f1⟩ := flat_ok r1 e1
    obtain ⟨rfl, f2⟩ := flats_ok hd e2
    exact ⟨a, xs, rfl, hs, f1, f2, q _ H (Same.refl H) (.bl _)⟩
  unfold gIn at e
  split at e
  · rename_i ds
    cases r2 with
    | lst a b =>
      cases e1 : inFlat neg d1 ds with
      | some z => rw [e1] at e; cases e; exact .inl (fl ds e1 _ _ (.inl (sqL_lim a)) b)
      | none =>
        rw [e1, Option.none_or] at e
        have r2 : DR K α (lim H M) _ (.lst ds) := .lst a b
        obtain ⟨p, e2, e⟩ := opt_bind e
        obtain ⟨ps, e3, e⟩ := opt_bind e
        split at e
        · rename_i c
          cases e
          rw [Bool.and_eq_true] at c
          have e4 : D.py (.lst ds) = some (.list ps) := by unfold D.py; rw [e3]; rfl
          cases neg with
          | false => exact .inr ⟨p, ps, r1.dp e2, r2.dp e4, c.1, c.2, q _ H (Same.refl H) (.bl _)⟩
          | true => exact .inr ⟨p, ps, r1.dp e2, r2.dp e4, c.1, c.2, q _ H (Same.refl H) (.bl _)⟩
        · cases e
  · cases r2 with
    | tup a b => exact .inl (fl _ e _ _ (.inr (sqT_lim a)) b)
  · cases e
end
theorem oj_in {X : Cx} (hu : X.A.units + 65 < cLine) : OpJ X (compareOp .In) (rInA X.K false) (gIn false) := ⟨op_or2 op_in_seq (op_inD hu), os_in false⟩
/-! ### n.bit_length() -/
def eBits (a : DE) : DE := eUn (fun d => match d with
  | .int i => some (.int (Builtin.Int.intBits i : Nat))
  | _ => none) a
theorem hu65 {k : Nat} {A : Around} (h : Room k A) : A.units + 65 < cLine := by have := h.un; omega
end Dl

set_option Elab.async false
set_option linter.all false
set_option maxRecDepth 100000
set_option maxHeartbeats 4000000
namespace Dl
open PySem PySem.Spec PyProof.Rows L2
/-! ### the law's end -/
/-! ### two names at once -/
def sPar (i j : Nat) (a : DA) : DS := fun S => (a S).bind fun p => match p.1 with
  | [x, y] => if i < p.2.env.length ∧ j < p.2.env.length then some (.nx, (p.2.put i (.val x)).put j (.val y)) else none
  | _ => none
theorem rf_par {K : PySem.W.Frag} {tA : TA} {fA : DA} {i j : Nat} (ha : RefA K tA fA) : RefS K (tPar i j tA) (sPar i j fA) := by
  intro N H0 α0 α σ H S fl S' E R e q
  obtain ⟨⟨xs, S1⟩, e1, e⟩ := opt_bind e
  refine ha N H0 α0 α σ H S xs S1 _ R e1 fun vs α1 H1 R1 g1 d1 => ?_
  simp only at e
  split at e
  · split at e
    · rename_i c
      cases e
      cases d1 with
      | cons r1 r2 =>
        cases r2 with
        | cons r3 r4 =>
          cases r4
          refine ⟨_, _, rfl, ?_⟩
          have R2 := R1.put (i := i) r1 c.1
          refine q _ α1 H1 (R2.put (i := j) (r3.mono (put_same trivial) (List.prefix_refl _)) ?_) g1.pre ((g1.same.trans (put_same trivial)).trans (put_same trivial))
          show j < (S1.env.set i _).length
          rw [List.length_set]; exact c.2
    · cases e
  · cases e
theorem js_par {X : Cx} {i j : Nat} {x y : Str} {a b : Expr} {fA : DA} {px py pt : Pos} {kt k2 pt2} {pos : Pos} (hc : X.calm = true) (hN : X.N.Nodup) (hi : X.N[i]? = some x) (hj : X.N[j]? = some y) (hij : i ≠ j)
    (hx : X.env.scope.names.lookup x = some .local) (hy : X.env.scope.names.lookup y = some .local) (ha : JA X [a, b] fA)
    (hw : swappedStores [.Tuple [.Name x px, .Name y py] kt pt] (.Tuple [a, b] k2 pt2) X.env = pure (some [x, y]))
    (hs : swapsWithSole [.Tuple [.Name x px, .Name y py] kt pt] (.Tuple [a, b] k2 pt2) pos.line X.env = pure false := by rfl) :
    JS X (.Assign [.Tuple [.Name x px, .Name y py] kt pt] (.Tuple [a, b] k2 pt2) pos) (sPar i j fA) := JS.of (ps_par hc hN hi hj hij hx hy ha.pe hw hs) (rf_par ha.rf)
end Dl

set_option Elab.async false
set_option linter.all false
set_option maxRecDepth 100000
set_option maxHeartbeats 4000000
namespace Dl
open PySem PySem.Spec PyProof.Rows L2
/-! ### reckoning with data: the first part first -/
theorem gSub_i {i j : Int} : gSub (.int i) (.int j) = some (.int (i - j)) := rfl
theorem gAdd_i {i j : Int} : gAdd (.int i) (.int j) = some (.int (i + j)) := rfl
theorem gMul_i {i j : Int} (h : (-18446744073709551616 < i ∧ i < 18446744073709551616) ∨ (-18446744073709551616 < j ∧ j < 18446744073709551616)) : gMul (.int i) (.int j) = some (.int (i * j)) := by
  show (if bMul i j = true then _ else _) = _
  rw [if_pos]
  unfold bMul
  rw [Bool.or_eq_true, Bool.and_eq_true, Bool.and_eq_true, decide_eq_true_eq, decide_eq_true_eq, decide_eq_true_eq, decide_eq_true_eq]
  exact h
theorem gDiv_i {i j : Int} (h : 0 < j ∧ j < 18446744073709551616) : gDiv (.int i) (.int j) = some (.int (i / j)) := by
  show (if (decide (0 < j) && decide (j < 18446744073709551616)) = true then _ else _) = _
  rw [if_pos (by rw [Bool.and_eq_true, decide_eq_true_eq, decide_eq_true_eq]; exact h)]
theorem gMod_i {i j : Int} (h : 0 < j) : gMod (.int i) (.int j) = some (.int (i % j)) := by
  show (if (decide (0 < j)) = true then _ else _) = _
  rw [if_pos (decide_eq_true h)]
theorem bPow_t {i j : Int} (h : 0 ≤ j ∧ j ≤ 1000000 ∧ -18446744073709551616 < i ∧ i < 18446744073709551616) : bPow i j = true := by
  unfold bPow
  rw [Bool.and_eq_true, Bool.and_eq_true, decide_eq_true_eq, decide_eq_true_eq, decide_eq_true_eq]
  exact ⟨⟨h.1, h.2.1⟩, by omega⟩
theorem gPow_i {i j : Int} (h : 0 ≤ j ∧ j ≤ 1000000 ∧ -18446744073709551616 < i ∧ i < 18446744073709551616) : gPow (.int i) (.int j) = some (.int (i ^ j.toNat)) := by
  show (if bPow i j = true then _ else _) = _
  rw [if_pos (bPow_t h)]
theorem gShl_i {i j : Int} (h : 0 ≤ j ∧ j ≤ 1000000 ∧ -18446744073709551616 < i ∧ i < 18446744073709551616) : gShl (.int i) (.int j) = some (.int (i * 2 ^ j.toNat)) := by
  show (if bPow i j = true then _ else _) = _
  rw [if_pos (bPow_t h)]
theorem gShr_i {i j : Int} (h : 0 ≤ j) : gShr (.int i) (.int j) = some (.int (i / 2 ^ j.toNat)) := by
  show (if (decide (0 ≤ j)) = true then _ else _) = _
  rw [if_pos (decide_eq_true h)]
theorem gAnd_i {i j : Int} : gAnd (.int i) (.int j) = some (.int (Builtin.bitAnd i j)) := rfl
theorem gOr_i {i j : Int} : gOr (.int i) (.int j) = some (.int (Builtin.bitOr i j)) := rfl
theorem gXor_i {i j : Int} : gXor (.int i) (.int j) = some (.int (Builtin.bitXor i j)) := rfl
theorem gLt_i {i j : Int} : gLt (.int i) (.int j) = some (.bl (decide (i < j))) := rfl
theorem gLe_i {i j : Int} : gLe (.int i) (.int j) = some (.bl (decide (i ≤ j))) := rfl
theorem gGt_i {i j : Int} : gGt (.int i) (.int j) = some (.bl (decide (j < i))) := rfl
theorem gGe_i {i j : Int} : gGe (.int i) (.int j) = some (.bl (decide (j ≤ i))) := rfl
theorem gEq_i {i j : Int} : gEq (.int i) (.int j) = some (.bl (decide (i = j))) := rfl
theorem gNe_i {i j : Int} : gNe (.int i) (.int j) = some (.bl (!decide (i = j))) := rfl
theorem gEq_b {i j : Bool} : gEq (.bl i) (.bl j) = some (.bl (decide (i = j))) := rfl
theorem gNe_b {i j : Bool} : gNe (.bl i) (.bl j) = some (.bl (!decide (i = j))) := rfl
theorem gEq_s {i j : Str} : gEq (.str i) (.str j) = some (.bl (decide (i = j))) := rfl
theorem gNe_s {i j : Str} : gNe (.str i) (.str j) = some (.bl (!decide (i = j))) := rfl
theorem atI_lit {α : Type} {xs : List α} {n : Nat} (h : n < xs.length) : atI xs ((n : Nat) : Int) = xs[n]? := by
  unfold atI ixN
  rw [if_pos (by omega), if_pos (by omega)]
  rfl
/-! ### expressions, part by part -/
section
variable {S S1 S2 S3 : Sx} {a b c e : DE} {x y z d : D} {g g' : D → D → Option D} {xs ys ds : List D} {A B : DA} {t u : DT} {p q : Bool} {i j : Nat}
theorem x_c : eC d S = some (d, S) := rfl
theorem x_v (h : S.env[i]? = some (.val d)) : eV i S = some (d, S) := by unfold eV; rw [h]
theorem x_vo (h : S.env[i]? = some (.own ds)) : eV i S = some (.lst ds, S.put i (.val (.lst ds))) := by unfold eV; rw [h]; rfl
theorem x_op (ha : a S = some (x, S1)) (hb : b S1 = some (y, S2)) (hg : g x y = some z) : eOp g a b S = some (z, S2) := by unfold eOp; rw [ha, Option.bind_some, hb, Option.bind_some, hg]; rfl
theorem x_un {g : D → Option D} (ha : a S = some (x, S1)) (hg : g x = some z) : eUn g a S = some (z, S1) := by unfold eUn; rw [ha, Option.bind_some, hg]; rfl
theorem x_nil : aNil S = some ([], S) := rfl
theorem x_cons (ha : a S = some (x, S1)) (hb : A S1 = some (xs, S2)) : aCons a A S = some (x :: xs, S2) := by unfold aCons; rw [ha, Option.bind_some, hb]; rfl
theorem x_cb {g : List D → Option D} (ha : A S = some (xs, S1)) (hg : g xs = some z) : eCB g A S = some (z, S1) := by unfold eCB; rw [ha, Option.bind_some, hg]; rfl
theorem x_tup (ha : A S = some (xs, S1)) (hl : xs.length ≤ 1000) : eTup A S = some (.tup xs, S1) := by unfold eTup; rw [ha, Option.bind_some, if_pos hl]
theorem x_disp (ha : A S = some (xs, S1)) (hl : xs.length ≤ 1000) : lDisp A S = some (xs, S1) := by unfold lDisp; rw [ha, Option.bind_some, if_pos hl]
theorem x_L {f : DL} (h : f S = some (xs, S1)) : eL f S = some (.lst xs, S1) := by unfold eL; rw [h]; rfl
theorem x_new {f : DL} (h : f S = some (xs, S1)) : eNewO f S = some (.obj S1.st.length, ⟨S1.env, S1.st ++ [.lst xs]⟩) := by unfold eNewO; rw [h]; rfl
theorem x_tE (h : a S = some (.bl p, S1)) : tE a S = some (p, S1) := by unfold tE; rw [h]; rfl
theorem x_not (h : t S = some (p, S1)) : tNt t S = some (!p, S1) := by unfold tNt; rw [h]; rfl
theorem x_and (h : t S = some (p, S1)) (h2 : u S1 = some (q, S1)) : tAn t u S = some (p && q, S1) := by
  unfold tAn; rw [h, Option.bind_some]
  cases p with
  | true => exact h2
  | false => rfl
theorem x_or (h : t S = some (p, S1)) (h2 : u S1 = some (q, S1)) : tOo t u S = some (p || q, S1) := by
  unfold tOo; rw [h, Option.bind_some]
  cases p with
  | true => rfl
  | false => exact h2
theorem x_andF (h : t S = some (false, S1)) : tAn t u S = some (false, S1) := by unfold tAn; rw [h]; rfl
theorem x_andT (h : t S = some (true, S1)) (h2 : u S1 = some (q, S2)) : tAn t u S = some (q, S2) := by unfold tAn; rw [h]; exact h2
theorem x_orT (h : t S = some (true, S1)) : tOo t u S = some (true, S1) := by unfold tOo; rw [h]; rfl
theorem x_orF (h : t S = some (false, S1)) (h2 : u S1 = some (q, S2)) : tOo t u S = some (q, S2) := by unfold tOo; rw [h]; exact h2
theorem x_andV (h : a S = some (.bl p, S1)) (h2 : b S1 = some (.bl q, S1)) : eAn a b S = some (.bl (p && q), S1) := by
  unfold eAn; rw [x_tE h, Option.bind_some]
  cases p with
  | true => exact h2
  | false => rfl
theorem x_orV (h : a S = some (.bl p, S1)) (h2 : b S1 = some (.bl q, S1)) : eOo a b S = some (.bl (p || q), S1) := by
  unfold eOo; rw [x_tE h, Option.bind_some]
  cases p with
  | true => rfl
  | false => exact h2
theorem x_andVF (h : a S = some (.bl false, S1)) : eAn a b S = some (.bl false, S1) := by unfold eAn; rw [x_tE h]; rfl
theorem x_andVT (h : a S = some (.bl true, S1)) (h2 : b S1 = some (d, S2)) : eAn a b S = some (d, S2) := by unfold eAn; rw [x_tE h]; exact h2
theorem x_orVT (h : a S = some (.bl true, S1)) : eOo a b S = some (.bl true, S1) := by unfold eOo; rw [x_tE h]; rfl
theorem x_orVF (h : a S = some (.bl false, S1)) (h2 : b S1 = some (d, S2)) : eOo a b S = some (d, S2) := by unfold eOo; rw [x_tE h]; exact h2
theorem x_notV (h : a S = some (.bl p, S1)) : eNt a S = some (.bl (!p), S1) := by unfold eNt; rw [x_tE h]; rfl
theorem x_if (h : t S = some (p, S1)) (h2 : a S1 = some (x, S1)) (h3 : b S1 = some (y, S1)) : eIf t a b S = some (if p = true then x else y, S1) := by
  unfold eIf; rw [h, Option.bind_some]
  cases p with
  | true => exact h2
  | false => exact h3
theorem x_call {F : DF} {st st1 : List DO} {zs : List D} (ha : A S = some (xs, S1)) (hx : app2 xs ds = zs) (hs : S1.st = st1) (h : F zs st1 = some (d, st)) : eCall F ds A S = some (d, ⟨S1.env, st⟩) := by subst hx; subst hs; unfold eCall; rw [ha, Option.bind_some, h]; rfl
theorem x_callN {F : DF} {st st1 : List DO} {zs : List D} {n m : Nat} (ha : A S = some (xs, S1)) (hb : B S1 = some (ys, S2)) (h1 : xs.length = n) (h2 : ys.length = m) (hx : app2 xs ys = zs) (hs : S2.st = st1) (h : F zs st1 = some (d, st)) : eCallN F n m A B S = some (d, ⟨S2.env, st⟩) := by
  subst hx; subst hs
  unfold eCallN; rw [ha, Option.bind_some, hb, Option.bind_some, if_pos ⟨h1, h2⟩, h]; rfl
theorem x_ch (ha : a S = some (x, S1)) (hb : b S1 = some (y, S1)) (hg : g x y = some (.bl p)) (hc : c S1 = some (z, S1)) (hg' : g' y z = some (.bl q)) : eCh g g' a b c S = some (.bl (p && q), S1) := by
  unfold eCh; rw [ha, Option.bind_some, hb, Option.bind_some, hg, Option.bind_some]
  cases p with
  | true => show (c S1).bind _ = _; rw [hc, Option.bind_some, hg']; rfl
  | false => rfl
theorem x_ixS (ha : a S = some (x, S1)) (hb : b S1 = some (y, S2)) (h : ixO x y S2 = some z) : eIxS a b S = some (z, S2) := by unfold eIxS; rw [ha, Option.bind_some, hb, Option.bind_some, h]; rfl
theorem x_oNo : oNo S = some (none, S) := rfl
theorem x_oSo {k : Int} (ha : a S = some (.int k, S1)) : oSo a S = some (some k, S1) := by unfold oSo; rw [ha]; rfl
theorem x_sl {lo hi : DOp} {l h : Option Int} (ha : a S = some (x, S1)) (hl : lo S1 = some (l, S2)) (hh : hi S2 = some (h, S3)) (hg : gSl x l h = some z) : eSl a lo hi S = some (z, S3) := by
  unfold eSl; rw [ha, Option.bind_some, hl, Option.bind_some, hh, Option.bind_some, hg]; rfl
theorem x_bits {k : Int} (ha : a S = some (.int k, S1)) : eBits a S = some (.int (Builtin.Int.intBits k : Nat), S1) := x_un ha rfl
theorem x_iE (ha : a S = some (x, S1)) (h : x = .lst ds ∨ x = .tup ds) : iE a S = some (ds, S1) := by
  unfold iE; rw [ha, Option.bind_some]
  rcases h with rfl | rfl <;> rfl
theorem x_iR1 {k : Int} (ha : A S = some ([.int k], S1)) (h : -(2 ^ 62) ≤ k ∧ k < 2 ^ 62) : iR1 A S = some (rangeD 0 k.toNat, S1) := by
  unfold iR1; rw [ha, Option.bind_some]
  show (if _ then _ else _) = _
  rw [if_pos]
  rw [Bool.and_eq_true, decide_eq_true_eq, decide_eq_true_eq]; exact h
end
/-! ### statements: what holds behind them -/
def wp (s : DS) (S : Sx) (Q : Fl → Sx → Prop) : Prop := ∃ fl S', s S = some (fl, S') ∧ Q fl S'
section
variable {S S1 S2 S3 : Sx} {a b e : DE} {x y z d : D} {xs ys ds : List D} {A B : DA} {t u : DT} {p q : Bool} {i j : Nat} {s s1 s2 k : DS} {Q : Fl → Sx → Prop}
theorem wp_nil (h : Q .nx S) : wp sNil S Q := ⟨_, _, rfl, h⟩
theorem wp_last (h : wp (sSeq s sNil) S Q) : wp s S Q := by
  obtain ⟨fl, S', e, q⟩ := h
  obtain ⟨⟨l, S1⟩, e1, e2⟩ := opt_bind e
  refine ⟨l, S1, e1, ?_⟩
  cases l <;> cases e2 <;> exact q
theorem seq_nx (h1 : s S = some (.nx, S1)) : sSeq s k S = k S1 := by unfold sSeq; rw [h1]; rfl
theorem wp_nx (h1 : s S = some (.nx, S1)) (h : wp k S1 Q) : wp (sSeq s k) S Q := by
  obtain ⟨fl, S', e, q⟩ := h
  exact ⟨fl, S', (seq_nx h1).trans e, q⟩
theorem wp_out {fl : Fl} (h1 : s S = some (fl, S1)) (hn : fl ≠ .nx) (h : Q fl S1) : wp (sSeq s k) S Q := by
  refine ⟨fl, S1, ?_, h⟩
  unfold sSeq
  rw [h1, Option.bind_some]
  cases fl <;> first | rfl | exact absurd rfl hn
theorem wp_ret (he : e S = some (d, S1)) (h : Q (.ret d) S1) : wp (sRet e) S Q := ⟨_, _, by unfold sRet; rw [he]; rfl, h⟩
theorem wp_seq_ret (he : e S = some (d, S1)) (h : Q (.ret d) S1) : wp (sSeq (sRet e) k) S Q := wp_out (s := sRet e) (fl := .ret d) (S1 := S1) (by unfold sRet; rw [he]; rfl) (fun z => nomatch z) h
theorem wp_seq_nil (h : wp k S Q) : wp (sSeq sNil k) S Q := wp_nx rfl h
theorem wp_seq_seq (h : wp (sSeq s1 (sSeq s2 k)) S Q) : wp (sSeq (sSeq s1 s2) k) S Q := by
  obtain ⟨fl, S', e, q⟩ := h
  refine ⟨fl, S', ?_, q⟩
  rw [← e]
  unfold sSeq
  cases h1 : s1 S with
  | none => rfl
  | some r =>
    obtain ⟨l, S1⟩ := r
    cases l <;> rfl
theorem wp_set {S9 : Sx} (he : e S = some (d, S1)) (hi : i < S1.env.length) (hS : S1.put i (.val d) = S9) (h : wp k S9 Q) : wp (sSeq (sSet i e) k) S Q :=
  wp_nx (S1 := S9) (by unfold sSet sAsg gN; rw [he, Option.bind_some, if_pos hi, ← hS]; rfl) h
theorem wp_asg {S9 : Sx} {g : DG} (he : e S = some (d, S1)) (hg : g d S1 = some S2) (hS : S2 = S9) (h : wp k S9 Q) : wp (sSeq (sAsg e g) k) S Q :=
  wp_nx (S1 := S9) (by unfold sAsg; rw [he, Option.bind_some, hg, hS]; rfl) h
theorem wp_ex {S9 : Sx} (he : e S = some (d, S1)) (hS : S1 = S9) (h : wp k S9 Q) : wp (sSeq (sEx e) k) S Q := wp_nx (S1 := S9) (by unfold sEx; rw [he, hS]; rfl) h
theorem wp_if {S9 : Sx} (hc : t S = some (p, S1)) (hS : S1 = S9) (h : if p = true then wp (sSeq s1 k) S9 Q else wp (sSeq s2 k) S9 Q) : wp (sSeq (sIf t s1 s2) k) S Q := by
  subst hS
  have e : ∀ s : DS, (if p = true then s1 else s2) = s → sIf t s1 s2 S = s S1 := by
    intro s hs
    unfold sIf
    rw [hc, Option.bind_some, ← hs]
    cases p <;> rfl
  cases p with
  | true => obtain ⟨fl, S', e1, q⟩ := h; exact ⟨fl, S', by unfold sSeq at e1 ⊢; rw [e s1 rfl]; exact e1, q⟩
  | false => obtain ⟨fl, S', e1, q⟩ := h; exact ⟨fl, S', by unfold sSeq at e1 ⊢; rw [e s2 rfl]; exact e1, q⟩
theorem wp_own {S9 : Sx} {f : DL} (he : f S = some (xs, S1)) (hi : i < S1.env.length) (hS : S1.put i (.own xs) = S9) (h : wp k S9 Q) : wp (sSeq (sOwn i f) k) S Q :=
  wp_nx (S1 := S9) (by unfold sOwn; rw [he, Option.bind_some, if_pos hi, hS]) h
theorem wp_app (h0 : S.env[i]? = some (.own ys)) (he : e S = some (d, S1)) (h1 : S1.env[i]? = some (.own ds)) (hl : ds.length < 16777216) {S9 : Sx} (hS : S1.put i (.own (ds ++ [d])) = S9) (h : wp k S9 Q) : wp (sSeq (sApp i e) k) S Q := by
  have o0 : isOwn S i = some ys := by unfold isOwn; rw [h0]
  have o1 : isOwn S1 i = some ds := by unfold isOwn; rw [h1]
  exact wp_nx (S1 := S9) (by unfold sApp; rw [o0, Option.bind_some, he, Option.bind_some, o1, Option.bind_some, if_pos hl, hS]) h
theorem wp_putO {o ix : DE} {n j : Nat} {m : Int} (he : e S = some (d, S1)) (ho : o S1 = some (.obj n, S2)) (hi : ix S2 = some (.int m, S3)) (hn : S3.st[n]? = some (.lst ds)) (hj : ixN ds.length m = some j) {S9 : Sx} (hS : (⟨S3.env, S3.st.set n (.lst (ds.set j d))⟩ : Sx) = S9) (h : wp k S9 Q) : wp (sSeq (sPutO o ix e) k) S Q := by
  subst hS
  refine wp_nx (S1 := ⟨S3.env, S3.st.set n (.lst (ds.set j d))⟩) ?_ h
  unfold sPutO
  rw [he, Option.bind_some, ho, Option.bind_some, hi, Option.bind_some]
  show (S3.obj n).bind _ = _
  unfold Sx.obj
  rw [hn]
  show (ixN ds.length m).map _ = _
  rw [hj]
  rfl
theorem wp_par {S9 : Sx} (ha : A S = some ([x, y], S1)) (hi : i < S1.env.length ∧ j < S1.env.length) (hS : (S1.put i (.val x)).put j (.val y) = S9) (h : wp k S9 Q) : wp (sSeq (sPar i j A) k) S Q :=
  wp_nx (S1 := S9) (by unfold sPar; rw [ha, Option.bind_some]; show (if _ then _ else _) = _; rw [if_pos hi, hS]) h
/-- a for: I by the things that are left -/
theorem forF_wp {g : DG} {b : DS} (I : List D → Sx → Prop) (hend : ∀ S, I [] S → wp k S Q) (hstep : ∀ x xs S, I (x :: xs) S → ∃ S1, g x S = some S1 ∧ wp b S1 fun fl S2 => match fl with
    | .nx => I xs S2
    | .cont => I xs S2
    | .brk => wp k S2 Q
    | .ret d => Q (.ret d) S2) : ∀ ds S, I ds S → wp (sSeq (forF g b ds) k) S Q
  | [], S, h => wp_nx (S1 := S) rfl (hend S h)
  | x :: xs, S, h => by
    obtain ⟨S1, e1, fl, S2, e2, q⟩ := hstep x xs S h
    have to : ∀ {r : Option (Fl × Sx)}, forF g b (x :: xs) S = r → (∃ fl S', (r.bind fun p => match p.1 with | .nx => k p.2 | _ => some p) = some (fl, S') ∧ Q fl S') → wp (sSeq (forF g b (x :: xs)) k) S Q := by
      rintro r er ⟨fl, S', e, q⟩
      exact ⟨fl, S', by unfold sSeq; rw [er]; exact e, q⟩
    have un : forF g b (x :: xs) S = (g x S).bind fun S1 => (b S1).bind fun q => match q.1 with
      | .nx => forF g b xs q.2
      | .cont => forF g b xs q.2
      | .brk => some (.nx, q.2)
      | .ret d => some (.ret d, q.2) := rfl
    rw [e1, Option.bind_some, e2, Option.bind_some] at un
    cases fl with
    | nx => exact to un (forF_wp I hend hstep xs S2 q)
    | cont => exact to un (forF_wp I hend hstep xs S2 q)
    | brk => obtain ⟨fl, S', e3, q3⟩ := q; exact to un ⟨fl, S', e3, q3⟩
    | ret d => exact to un ⟨_, _, rfl, q⟩
theorem wp_for {S9 : Sx} {it : DI} {g : DG} {b : DS} (hi : it S = some (ds, S1)) (hS : S1 = S9) (h : wp (sSeq (forF g b ds) k) S9 Q) : wp (sSeq (sFor it g b) k) S Q := by
  subst hS
  obtain ⟨fl, S', e, q⟩ := h
  refine ⟨fl, S', ?_, q⟩
  have z : sFor it g b S = forF g b ds S1 := by unfold sFor; rw [hi]; rfl
  unfold sSeq at e ⊢
  rw [z]; exact e
theorem wpl_set {e : DE} {i : Nat} (h : wp (sSeq (sSet i e) sNil) S Q) : wp (sSet i e) S Q := wp_last h
theorem wpl_asg {e : DE} {g : DG} (h : wp (sSeq (sAsg e g) sNil) S Q) : wp (sAsg e g) S Q := wp_last h
theorem wpl_ex {e : DE} (h : wp (sSeq (sEx e) sNil) S Q) : wp (sEx e) S Q := wp_last h
theorem wpl_if {t : DT} {s1 s2 : DS} (h : wp (sSeq (sIf t s1 s2) sNil) S Q) : wp (sIf t s1 s2) S Q := wp_last h
theorem wpl_own {i : Nat} {f : DL} (h : wp (sSeq (sOwn i f) sNil) S Q) : wp (sOwn i f) S Q := wp_last h
theorem wpl_app {i : Nat} {e : DE} (h : wp (sSeq (sApp i e) sNil) S Q) : wp (sApp i e) S Q := wp_last h
theorem wpl_putO {o ix e : DE} (h : wp (sSeq (sPutO o ix e) sNil) S Q) : wp (sPutO o ix e) S Q := wp_last h
theorem wpl_putI {i : Nat} {ix e : DE} (h : wp (sSeq (sPutI i ix e) sNil) S Q) : wp (sPutI i ix e) S Q := wp_last h
theorem wpl_par {i j : Nat} {A : DA} (h : wp (sSeq (sPar i j A) sNil) S Q) : wp (sPar i j A) S Q := wp_last h
theorem wpl_for {it : DI} {g : DG} {b : DS} (h : wp (sSeq (sFor it g b) sNil) S Q) : wp (sFor it g b) S Q := wp_last h
theorem wpl_while {c : DT} {b : DS} (h : wp (sSeq (sWhile c b) sNil) S Q) : wp (sWhile c b) S Q := wp_last h
def slots0 : List D → Nat → List Slot
  | d :: ds, n => .val d :: slots0 ds (n - 1)
  | [], n => List.replicate n .un
theorem start0_eq (ds : List D) (n : Nat) (st : List DO) : start0 ds n st = ⟨slots0 ds n, st⟩ := by
  unfold start0
  congr 1
  induction ds generalizing n with
  | nil => rfl
  | cons d ds ih =>
    show .val d :: (ds.map Slot.val ++ List.replicate (n - (ds.length + 1)) .un) = .val d :: slots0 ds (n - 1)
    rw [← ih (n - 1), Nat.sub_sub, Nat.add_comm 1]
/-- a def, by its body -/
theorem fn_wp {np ns : Nat} {st st' : List DO} {S9 : Sx} (hl : ds.length = np) (hS : (⟨slots0 ds ns, st⟩ : Sx) = S9) (h : wp s S9 fun fl S' => (fl = .ret d ∧ S'.st = st') ∨ (fl = .nx ∧ d = .non ∧ S'.st = st')) : fnD np ns s ds st = some (d, st') := by
  obtain ⟨fl, S', e, q⟩ := h
  unfold fnD
  rw [if_pos hl, start0_eq, hS, e, Option.bind_some]
  rcases q with ⟨rfl, rfl⟩ | ⟨rfl, rfl, rfl⟩ <;> rfl
end
end Dl

set_option Elab.async false
set_option linter.all false
set_option maxRecDepth 100000
set_option maxHeartbeats 4000000
namespace Bg
open PySem PySem.Spec PyProof.Rows L2
/-! ### the laws' own going down the bits that least and most have alike -/
def vAt (v l j : Nat) : Nat := l / 2 ^ j * 2 ^ j + v % 2 ^ j
theorem bitsM_at {n v u l m : Nat} (sb : Sb n v u) (a : Agree (bl (l ^^^ m)) v u l) : bitsM v u l m = some (vAt v l (bl (l ^^^ m)), u % 2 ^ bl (l ^^^ m)) := by
  unfold bitsM
  rw [if_pos (agree_iff.mpr a), bits_uns, bits_val sb a]
  rfl
end Bg

set_option Elab.async false
set_option linter.all false
set_option maxRecDepth 100000
set_option maxHeartbeats 4000000
namespace Bg
open PySem PySem.Spec PyProof.Rows L2
/-! ### what settling tells, as a value -/
def kD (k : Kn) : PyData := .tuple [.int k.v, .int k.u, .int k.l, .int k.m, .int k.lo, .int k.hi]
def oD : Option Kn → PyData
  | none => .none
  | some k => kD k
inductive OptV (K : PySem.W.Frag) (H : Hp) : V → Option Kn → Prop
  | no : OptV K H .non none
  | yes {p : Addr} {k : Kn} (h : SqT K H p (kT k)) : OptV K H (.ref p) (some k)
section
variable {K : PySem.W.Frag} {H H' : Hp} {x : V} {r : Option Kn} {Q : VK}
theorem OptV.same (s : Same H H') (h : OptV K H x r) : OptV K H' x r := by
  cases h with
  | no => exact .no
  | yes h => exact .yes (sqT_same s h)
theorem OptV.dp (h : OptV K H x r) : Dp K H x (oD r) := by
  cases h with
  | no => exact .non
  | yes h => exact dp_kT h
/-- ends within ten thousand bits -/
def Bd (r : Option Kn) : Prop := ∀ k, r = some k → k.v < 2 ^ 32 ∧ k.u < 2 ^ 32 ∧ k.l.natAbs < 2 ^ 40 ∧ k.m.natAbs < 2 ^ 40 ∧ k.lo.natAbs < 2 ^ 40 ∧ k.hi.natAbs < 2 ^ 40
theorem nat1000 {a : Nat} (h : a < 2 ^ 40) : a < 2 ^ 1000 := Nat.lt_trans h (by decide +kernel)
theorem sh_kD {k : Kn} (h : k.v < 2 ^ 32 ∧ k.u < 2 ^ 32 ∧ k.l.natAbs < 2 ^ 40 ∧ k.m.natAbs < 2 ^ 40 ∧ k.lo.natAbs < 2 ^ 40 ∧ k.hi.natAbs < 2 ^ 40) : Sh 50 1000000 (kD k) := by
  obtain ⟨a, b, c, d, e, f⟩ := h
  have a' : ((k.v : Int)).natAbs < 2 ^ 40 := by omega
  have b' : ((k.u : Int)).natAbs < 2 ^ 40 := by omega
  exact (ShAll.tup (k := 0) (n := 1001 + 2 + (1001 + 2 + (1001 + 2 + (1001 + 2 + (1001 + 2 + (1001 + 2 + 0)))))) (.cons (Sh.int (nat1000 a')) (.cons (Sh.int (nat1000 b')) (.cons (Sh.int (nat1000 c)) (.cons (Sh.int (nat1000 d)) (.cons (Sh.int (nat1000 e)) (.cons (Sh.int (nat1000 f)) .nil))))))).mono (by decide) (by decide)
theorem OptV.rp (h : OptV K H x r) (b : Bd r) : Rp K H x (oD r).shown := by
  cases h with
  | no => exact .dat .non (Sh.non.mono (by decide) (by decide))
  | yes h => exact .dat (dp_kT h) (sh_kD (b _ rfl))
end
/-- a known number of the width, perhaps with ends one step beyond -/
structure Kw (n : Nat) (k : Kn) : Prop where
  sb : Sb n k.v k.u
  l0 : -1 ≤ k.l
  l1 : k.l ≤ 2 ^ n
  m0 : -1 ≤ k.m
  m1 : k.m ≤ 2 ^ n
  a0 : -(2 ^ n) ≤ k.lo
  a1 : k.lo ≤ 2 ^ n
  b0 : -(2 ^ n) ≤ k.hi
  b1 : k.hi ≤ 2 ^ n
theorem Kw.bd {n : Nat} {k : Kn} (h : Kw n k) (hn : n ≤ 32) : Bd (some k) := by
  intro k' e
  cases e
  have p := pow32 hn
  have p1 := powN32 hn
  have := h.sb.v1; have := h.sb.u1; have := h.l0; have := h.l1; have := h.m0; have := h.m1; have := h.a0; have := h.a1; have := h.b0; have := h.b1
  refine ⟨by omega, by omega, by omega, by omega, by omega, by omega⟩
theorem pow_le_half {n : Nat} (h : 1 ≤ n) : (2 : Int) ^ (n - 1) ≤ 2 ^ n := by have := pow_half h; have := pow_pos2 (n - 1); omega
/-! ### worths with sign -/
theorem hf01 {n : Nat} {x : Int} (h1 : 1 ≤ n) (x0 : 0 ≤ x) (x1 : x < 2 ^ n) : (hf n x = 0 ∧ x < 2 ^ (n - 1)) ∨ (hf n x = 1 ∧ 2 ^ (n - 1) ≤ x) := by
  have e := pow_half h1
  have p := pow_pos2 (n - 1)
  unfold hf
  by_cases c : x < 2 ^ (n - 1)
  · exact .inl ⟨Int.ediv_eq_zero_of_lt x0 c, c⟩
  · refine .inr ⟨?_, by omega⟩
    have : x / 2 ^ (n - 1) = (x - 2 ^ (n - 1)) / 2 ^ (n - 1) + 1 := by
      have := Int.add_ediv_of_dvd_right (a := x - 2 ^ (n - 1)) (b := 2 ^ (n - 1)) (c := 2 ^ (n - 1)) (Int.dvd_refl _)
      rw [Int.sub_add_cancel, Int.ediv_self (by omega)] at this
      exact this
    rw [this, Int.ediv_eq_zero_of_lt (by omega) (by omega)]
    rfl
theorem sg_cases {n : Nat} {x : Int} (h1 : 1 ≤ n) (x0 : 0 ≤ x) (x1 : x < 2 ^ n) : (sg n x = x ∧ x < 2 ^ (n - 1)) ∨ (sg n x = x - 2 ^ n ∧ 2 ^ (n - 1) ≤ x) := by
  unfold sg
  rcases hf01 h1 x0 x1 with ⟨a, b⟩ | ⟨a, b⟩
  · exact .inl ⟨if_pos a, b⟩
  · exact .inr ⟨if_neg (by omega), b⟩
theorem mx_self (x : Int) : mx x x = x := by unfold mx; split <;> rfl
theorem mn_self (x : Int) : mn x x = x := by unfold mn; split <;> rfl
end Bg

set_option Elab.async false
set_option linter.all false
set_option maxRecDepth 100000
set_option maxHeartbeats 4000000
namespace Bg
open PySem PySem.Spec PyProof.Rows L2
/-! ### what known numbers hold, and that settling keeps it -/
/-- ends with sign of the width, perhaps one step beyond -/
structure Sg (n : Nat) (k : Kn) : Prop where
  a0 : -(2 ^ (n - 1)) ≤ k.lo
  b1 : k.hi ≤ 2 ^ (n - 1) - 1
structure Held (n : Nat) (k : Kn) (x : Nat) : Prop where
  x1 : x < 2 ^ n
  bits : ∀ i, i < n → k.u.testBit i = false → x.testBit i = k.v.testBit i
  l : k.l ≤ x
  m : (x : Int) ≤ k.m
  lo : k.lo ≤ sg n x
  hi : sg n x ≤ k.hi
theorem le_of_bits {a b : Nat} (h : ∀ i, a.testBit i = true → b.testBit i = true) : a ≤ b := by
  have : a &&& b = a := Nat.eq_of_testBit_eq fun i => by
    rw [Nat.testBit_and]
    cases e : a.testBit i with
    | false => rfl
    | true => rw [h i e]; rfl
  rw [← this]
  exact Nat.and_le_right
section
variable {n : Nat} {k k' : Kn} {x : Nat}
theorem big_bit {x i n : Nat} (h : x < 2 ^ n) (hi : n ≤ i) : x.testBit i = false := Nat.testBit_lt_two_pow (Nat.lt_of_lt_of_le h (Nat.pow_le_pow_right (by decide) hi))
theorem Held.ge (sb : Sb n k.v k.u) (h : Held n k x) : k.v ≤ x := by
  apply le_of_bits
  intro i hi
  by_cases c : i < n
  · rw [h.bits i c (sb.not hi)]; exact hi
  · rw [big_bit sb.v1 (by omega)] at hi; cases hi
theorem Held.le (sb : Sb n k.v k.u) (h : Held n k x) : x ≤ (k.v ||| k.u) := by
  apply le_of_bits
  intro i hi
  by_cases c : i < n
  · rw [Nat.testBit_or]
    cases e : k.u.testBit i with
    | true => simp
    | false => rw [← h.bits i c e, hi]; rfl
  · rw [big_bit h.x1 (by omega)] at hi; cases hi
theorem sg_mono {x y : Int} (h1 : 1 ≤ n) (x0 : 0 ≤ x) (xy : x ≤ y) (y1 : y < 2 ^ n) (e : hf n x = hf n y) : sg n x ≤ sg n y := by
  unfold sg
  rw [e]
  split <;> omega
theorem hf_mono {x y : Int} (h : x ≤ y) : hf n x ≤ hf n y := Int.ediv_le_ediv (pow_pos2 _) h
/-- the ends behind a turn, around a held worth -/
theorem Held.ends (h1 : 1 ≤ n) (sb : Sb n k.v k.u) (g : Sg n k) (h : Held n k x) : l1 n k ≤ x ∧ (x : Int) ≤ m1 n k ∧ lo1 n k ≤ sg n x ∧ sg n x ≤ hi1 n k := by
  have v := h.ge sb
  have vu := h.le sb
  have pc := nat_pow_cast n
  have x1 := h.x1
  have hl : mx k.l k.v ≤ x := by
    have := h.l
    rcases mx_or k.l k.v with e | e <;> rw [e] <;> omega
  have hm : (x : Int) ≤ mn k.m ((k.v ||| k.u : Nat) : Int) := by
    have := h.m
    rcases mn_or k.m ((k.v ||| k.u : Nat) : Int) with e | e <;> rw [e] <;> omega
  have l0 : 0 ≤ mx k.l k.v := Int.le_trans (by omega) (mx_r _ _)
  have vul : (k.v ||| k.u) < 2 ^ n := Nat.or_lt_two_pow sb.v1 sb.u1
  have m1' : mn k.m ((k.v ||| k.u : Nat) : Int) < 2 ^ n := Int.lt_of_le_of_lt (mn_r _ _) (by omega)
  have hlo : lo1 n k ≤ sg n x := by
    unfold lo1 endL
    split
    · rename_i c
      have e : hf n (mx k.l k.v) = hf n (x : Int) := by
        have a := hf_mono (n := n) hl
        have b := hf_mono (n := n) hm
        omega
      have := sg_mono h1 l0 hl (by omega) e
      rcases mx_or k.lo (sg n (mx k.l k.v)) with e2 | e2 <;> rw [e2]
      · exact h.lo
      · exact this
    · exact h.lo
  have hhi : sg n x ≤ hi1 n k := by
    unfold hi1 endH
    split
    · rename_i c
      have e : hf n (x : Int) = hf n (mn k.m ((k.v ||| k.u : Nat) : Int)) := by
        have a := hf_mono (n := n) hl
        have b := hf_mono (n := n) hm
        omega
      have := sg_mono h1 (by omega) hm m1' e
      rcases mn_or k.hi (sg n (mn k.m ((k.v ||| k.u : Nat) : Int))) with e2 | e2 <;> rw [e2]
      · exact h.hi
      · exact this
    · exact h.hi
  have ga := g.a0
  have gb := g.b1
  have la := @lo1_ge n k
  have hb := @hi1_le n k
  have ph := pow_half h1
  have pp := pow_pos2 (n - 1)
  have sc := sg_cases (n := n) (x := (x : Int)) h1 (by omega) (by omega)
  have md : ∀ y : Int, 0 ≤ y → y < 2 ^ n → y % 2 ^ n = y := fun y a b => Int.emod_eq_of_lt a b
  have mdn : ∀ y : Int, y < 0 → -(2 ^ n) ≤ y → y % 2 ^ n = y + 2 ^ n := fun y a b => by
    rw [← Int.add_emod_right]; exact Int.emod_eq_of_lt (by omega) (by omega)
  refine ⟨?_, ?_, hlo, hhi⟩
  · unfold l1 endl
    split
    · rename_i c
      rcases mx_or (mx k.l k.v) (lo1 n k % 2 ^ n) with e | e <;> rw [e]
      · exact hl
      · by_cases d : lo1 n k < 0
        · rw [mdn _ d (by omega)]
          rw [decide_eq_true d] at c
          have : hi1 n k < 0 := of_decide_eq_true c.symm
          omega
        · rw [md _ (by omega) (by omega)]
          omega
    · exact hl
  · unfold m1 endm
    split
    · rename_i c
      rcases mn_or (mn k.m ((k.v ||| k.u : Nat) : Int)) (hi1 n k % 2 ^ n) with e | e <;> rw [e]
      · exact hm
      · by_cases d : hi1 n k < 0
        · rw [mdn _ d (by omega)]
          omega
        · rw [md _ (by omega) (by omega)]
          rw [decide_eq_false d] at c
          have : ¬ lo1 n k < 0 := of_decide_eq_false c
          omega
    · exact hm
theorem onceK_ne {l m : Nat} (hl : l1 n k = (l : Int)) (hm : m1 n k = (m : Int)) (c : ¬ (m1 n k < l1 n k ∨ hi1 n k < lo1 n k)) (sb : Sb n k.v k.u) (a : Agree (bl (l ^^^ m)) k.v k.u l) :
    onceK n k = some ⟨vAt k.v l (bl (l ^^^ m)), k.u % 2 ^ bl (l ^^^ m), l1 n k, m1 n k, lo1 n k, hi1 n k⟩ := by
  unfold onceK
  rw [if_neg c, hl, hm, Int.toNat_natCast, Int.toNat_natCast, bitsM_at sb a]
theorem vAt_bit (v l B i : Nat) : (vAt v l B).testBit i = if B ≤ i then l.testBit i else v.testBit i := by
  unfold vAt
  have e : l / 2 ^ B * 2 ^ B + v % 2 ^ B = l / 2 ^ B * 2 ^ B ||| v % 2 ^ B := by
    rw [Nat.mul_comm]
    exact Nat.two_pow_add_eq_or_of_lt (Nat.mod_lt _ (Nat.two_pow_pos B)) _
  rw [e, Nat.testBit_or, tb_cut, Nat.testBit_mod_two_pow]
  by_cases c : B ≤ i
  · rw [if_pos c, decide_eq_true c, decide_eq_false (show ¬ i < B by omega)]; simp
  · rw [if_neg c, decide_eq_false c, decide_eq_true (show i < B by omega)]; simp
theorem alike_between {l m x B : Nat} (h : l / 2 ^ B = m / 2 ^ B) (a : l ≤ x) (b : x ≤ m) : x / 2 ^ B = l / 2 ^ B := by
  have h1 := Nat.div_le_div_right (c := 2 ^ B) a
  have h2 := Nat.div_le_div_right (c := 2 ^ B) b
  omega
theorem bit_of_div {x l B i : Nat} (h : x / 2 ^ B = l / 2 ^ B) (hi : B ≤ i) : x.testBit i = l.testBit i := by
  have e := congrArg (·.testBit (i - B)) h
  simp only [Nat.testBit_div_two_pow] at e
  rw [show i - B + B = i by omega] at e
  exact e
theorem held_once (h1 : 1 ≤ n) (sb : Sb n k.v k.u) (g : Sg n k) (h : Held n k x) : ∃ k', onceK n k = some k' ∧ Held n k' x := by
  obtain ⟨a, b, c, d⟩ := h.ends h1 sb g
  have v := @l1_ge_v n k
  obtain ⟨l, hl⟩ := nat_of (i := l1 n k) (by omega)
  obtain ⟨m, hm⟩ := nat_of (i := m1 n k) (by omega)
  have hd : l / 2 ^ bl (l ^^^ m) = m / 2 ^ bl (l ^^^ m) := (div_xor l m _).mpr (Nat.le_refl _)
  have hx := alike_between hd (show l ≤ x by omega) (show x ≤ m by omega)
  have ag : Agree (bl (l ^^^ m)) k.v k.u l := by
    intro i hi hu
    rw [← bit_of_div hx hi]
    by_cases q : i < n
    · exact (h.bits i q hu).symm
    · rw [big_bit sb.v1 (by omega), big_bit h.x1 (by omega)]
  refine ⟨_, onceK_ne hl hm (by omega) sb ag, ⟨h.x1, fun i hi hu => ?_, a, b, c, d⟩⟩
  show x.testBit i = (vAt k.v l (bl (l ^^^ m))).testBit i
  have hu' : (k.u % 2 ^ bl (l ^^^ m)).testBit i = false := hu
  rw [vAt_bit]
  rw [Nat.testBit_mod_two_pow] at hu'
  split
  · rename_i q
    exact bit_of_div hx q
  · rename_i q
    rw [decide_eq_true (show i < bl (l ^^^ m) by omega), Bool.true_and] at hu'
    exact h.bits i hi hu'
theorem once_held (sb : Sb n k.v k.u) (e : onceK n k = some k') (h : Held n k' x) : Held n k x := by
  obtain ⟨d, e1, e2, e3, e4, hb⟩ := once_some sb e
  have pc := nat_pow_cast n
  have hl : (l1 n k).toNat < 2 ^ n := by
    have a := d.lm; have b := d.m1; have c := d.l0
    rw [e1] at a c; omega
  obtain ⟨ag, ev, eu, _⟩ := bitsM_some sb hl hb
  refine ⟨h.x1, fun i hi hu => ?_, Int.le_trans l1_ge (e1 ▸ h.l), Int.le_trans (e2 ▸ h.m) m1_le, Int.le_trans lo1_ge (e3 ▸ h.lo), Int.le_trans (e4 ▸ h.hi) hi1_le⟩
  rw [h.bits i hi (by rw [eu, Nat.testBit_mod_two_pow, hu, Bool.and_false]), ev]
  show (vAt k.v (l1 n k).toNat _).testBit i = _
  rw [vAt_bit]
  split
  · rename_i q
    exact (ag i q hu).symm
  · rfl
theorem Sg.once (sb : Sb n k.v k.u) (g : Sg n k) (e : onceK n k = some k') : Sg n k' := by
  obtain ⟨d, e1, e2, e3, e4, hb⟩ := once_some sb e
  have := @lo1_ge n k
  have := @hi1_le n k
  exact ⟨by rw [e3]; exact Int.le_trans g.a0 lo1_ge, by rw [e4]; exact Int.le_trans hi1_le g.b1⟩
theorem Stl.held {r : Option Kn} (h1 : 1 ≤ n) (h : Stl n k r) : Sb n k.v k.u → Sg n k → (Held n k x ↔ ∃ k', r = some k' ∧ Held n k' x) := by
  induction h with
  | no h =>
    intro sb g
    constructor
    · intro q
      obtain ⟨k', e, _⟩ := held_once h1 sb g q
      rw [h] at e; cases e
    · rintro ⟨_, e, _⟩; cases e
  | fix h => intro sb g; exact ⟨fun q => ⟨_, rfl, q⟩, fun ⟨_, e, q⟩ => by cases e; exact q⟩
  | go h ne t ih =>
    intro sb g
    have d := (once_some sb h).1
    rw [← ih d.sb (g.once sb h)]
    constructor
    · intro q
      obtain ⟨k', e, q'⟩ := held_once h1 sb g q
      rw [h] at e; cases e
      exact q'
    · exact once_held sb h
end
/-! ### what is told of a worth -/
end Bg

set_option Elab.async false
set_option linter.all false
set_option maxRecDepth 100000
set_option maxHeartbeats 4000000
namespace Dl
open PySem PySem.Spec PyProof.Rows L2 Bg
/-! ### known numbers as data -/
def kd (k : Kn) : D := .tup [.int k.v, .int k.u, .int k.l, .int k.m, .int k.lo, .int k.hi]
def od : Option Kn → D
  | none => .non
  | some k => kd k
theorem gMax2 {i j : Int} : gMax [.int i, .int j] = some (.int (mx i j)) := rfl
theorem gMin2 {i j : Int} : gMin [.int i, .int j] = some (.int (mn i j)) := rfl
/-! ### a pool in the store -/
def Pool (st : List DO) (n : Nat) : Prop := ∃ a b : Int, st[n]? = some (.lst [.int a, .int b])
def poolA (st : List DO) (n : Nat) : Int := match st[n]? with
  | some (.lst [.int a, .int _]) => a
  | _ => 0
def poolB (st : List DO) (n : Nat) : Int := match st[n]? with
  | some (.lst [.int _, .int b]) => b
  | _ => 0
/-- what is drawn, and the store behind -/
def tk (st : List DO) (n : Nat) (m : Int) : Int := if 0 < poolA st n then poolA st n % m else ((poolB st n * 48271 + 11) % 2147483647) * ((poolB st n * 48271 + 11) % 2147483647) % 2147483629 / 16 % m
def ts (st : List DO) (n : Nat) (m : Int) : List DO := if 0 < poolA st n then st.set n (.lst [.int (poolA st n / m), .int (poolB st n)]) else st.set n (.lst [.int (poolA st n), .int ((poolB st n * 48271 + 11) % 2147483647)])
theorem tk_bd {st : List DO} {n : Nat} {m : Int} (h : 0 < m) : 0 ≤ tk st n m ∧ tk st n m < m := by
  unfold tk
  split
  · exact ⟨Int.emod_nonneg _ (by omega), Int.emod_lt_of_pos _ h⟩
  · exact ⟨Int.emod_nonneg _ (by omega), Int.emod_lt_of_pos _ h⟩
theorem Pool.ts {st : List DO} {n : Nat} {m : Int} (h : Pool st n) : Pool (ts st n m) n := by
  obtain ⟨a, b, e⟩ := h
  have hn := (List.getElem?_eq_some_iff.mp e).1
  unfold Dl.ts
  split
  · exact ⟨_, _, List.getElem?_set_self hn⟩
  · exact ⟨_, _, List.getElem?_set_self hn⟩
theorem Pool.eq {st : List DO} {n : Nat} (h : Pool st n) : st[n]? = some (.lst [.int (poolA st n), .int (poolB st n)]) := by
  obtain ⟨a, b, e⟩ := h
  unfold poolA poolB
  rw [e]
theorem Pool.new {st : List DO} {a b : Int} : Pool (st ++ [.lst [.int a, .int b]]) st.length := ⟨a, b, by rw [List.getElem?_append_right (Nat.le_refl _), Nat.sub_self]; rfl⟩
/-- ends with sign within bounds -/
structure Wb (k : Kn) : Prop where
  lo : -(2 ^ 40) ≤ k.lo
  hi : k.hi ≤ 2 ^ 40
theorem Wb.once {n : Nat} {k k' : Kn} (w : Wb k) (sb : Sb n k.v k.u) (h : onceK n k = some k') : Wb k' := by
  obtain ⟨_, _, _, e3, e4, _⟩ := once_some sb h
  exact ⟨by rw [e3]; exact Int.le_trans w.lo lo1_ge, by rw [e4]; exact Int.le_trans hi1_le w.hi⟩
/-- how often it may still turn -/
def left (n : Nat) (k : Kn) : Nat := match onceK n k with
  | none => 0
  | some k' => if k' = k then 0 else mu k' + 1
theorem Stl.next {n : Nat} {k k' : Kn} {r : Option Kn} (sb : Sb n k.v k.u) (s : Stl n k r) (h : onceK n k = some k') (ne : k' ≠ k) : Stl n k' r := by
  obtain ⟨r', t'⟩ := Stl.all (n := n) (k := k') (once_some sb h).1.sb
  rw [s.det (.go h ne t')]
  exact t'
theorem ixO_at {n : Nat} {st : List DO} {env : List Slot} {ds : List D} {i : Int} {d : D} (e : st[n]? = some (.lst ds)) (h : atI ds i = some d) : ixO (.obj n) (.int i) ⟨env, st⟩ = some d := by
  show ((⟨env, st⟩ : Sx).obj n).bind _ = _
  unfold Sx.obj
  rw [e]
  exact h
theorem cutL_map {ns : List Int} {lo hi : Option Int} : cutL (ns.map D.int) lo hi = (cutL ns lo hi).map D.int := by
  unfold cutL
  rw [List.map_take, List.map_drop, List.length_map]
theorem intL_map (ns : List Int) : intL (ns.map D.int) = some ns := by
  induction ns with
  | nil => rfl
  | cons n ns ih => show (intL (ns.map D.int)).map _ = _; rw [ih]; rfl
theorem gSum_ints {ns : List Int} : gSum [.lst (ns.map D.int)] = some (.int ns.sum) := by
  show (intL (ns.map D.int)).map _ = _
  rw [intL_map]; rfl
theorem gMul_b {i : Int} {b : Bool} : gMul (.int i) (.int (if b = true then 1 else 0)) = some (.int (i * if b = true then 1 else 0)) := gMul_i (.inr (by split <;> omega))
/-- a def, by what holds of what it tells -/
theorem fn_wpE {np ns : Nat} {st : List DO} {S9 : Sx} {ds : List D} {s : DS} {P : D → List DO → Prop} (hl : ds.length = np) (hS : (⟨slots0 ds ns, st⟩ : Sx) = S9) (h : wp s S9 fun fl S' => ∃ d, fl = .ret d ∧ P d S'.st) : ∃ d st', fnD np ns s ds st = some (d, st') ∧ P d st' := by
  obtain ⟨fl, S', e, d, rfl, p⟩ := h
  refine ⟨d, S'.st, ?_, p⟩
  unfold fnD
  rw [if_pos hl, start0_eq, hS, e]
  rfl
end Dl

set_option Elab.async false
set_option linter.all false
set_option maxRecDepth 100000
set_option maxHeartbeats 4000000
namespace Dl
open PySem PySem.Spec PyProof.Rows L2 Bg
/-! ### comprehensions that leave all as it is, lists of whole numbers, repr -/
theorem x_lComp {vs : List Nat} {it : DI} {g : DG} {t : DT} {e : DE} {S S1 S2 S9 : Sx} {ds xs : List D} (hi : it S = some (ds, S1)) (hl : ds.length ≤ 16777216) (hw : wipeS S1 vs = S9) (hc : compF vs g t e ds S9 = some (xs, S2)) : lComp vs it g t e S = some (xs, S2) := by
  unfold lComp
  rw [hi, Option.bind_some, if_pos hl, hw, hc]
end Dl

set_option Elab.async false
set_option linter.all false
set_option maxRecDepth 100000
set_option maxHeartbeats 4000000
namespace Dl
open PySem PySem.Spec PyProof.Rows L2 Bg
/-! ### draws -/
theorem _root_.Bg.Bt.kn {n : Nat} {v u : Int} (h : Bt n v u) : ∃ v' u' : Nat, v = v' ∧ u = u' ∧ Sb n v' u' := by
  obtain ⟨a, rfl⟩ := nat_of h.v0
  obtain ⟨b, rfl⟩ := nat_of h.u0
  have e := h.vu
  rw [bA] at e
  exact ⟨a, b, rfl, rfl, nat_lt h.v1, nat_lt h.u1, by omega⟩
/-- a drawn known number of the width -/
structure Kr (n : Nat) (k : Kn) : Prop where
  sb : Sb n k.v k.u
  l : 0 ≤ k.l ∧ k.l ≤ 2 ^ n - 1
  m : 0 ≤ k.m ∧ k.m ≤ 2 ^ n - 1
  lo : -(2 ^ (n - 1)) ≤ k.lo ∧ k.lo ≤ 2 ^ (n - 1) - 1
  hi : -(2 ^ (n - 1)) ≤ k.hi ∧ k.hi ≤ 2 ^ (n - 1) - 1
theorem Kr.kw {n : Nat} {k : Kn} (h1 : 1 ≤ n) (h : Kr n k) : Kw n k := by
  have := pow_le_half h1
  have := h.l; have := h.m; have := h.lo; have := h.hi
  exact ⟨h.sb, by omega, by omega, by omega, by omega, by omega, by omega, by omega, by omega⟩
theorem Kr.sg {n : Nat} {k : Kn} (h : Kr n k) : Sg n k := ⟨h.lo.1, h.hi.2⟩
theorem Kr.turned {n : Nat} {k : Kn} (h : Kr n k) : Kr n ⟨k.v, k.u, k.l, k.m, k.hi, k.lo⟩ := ⟨h.sb, h.l, h.m, h.hi, h.lo⟩
end Dl

set_option Elab.async false
set_option linter.all false
set_option maxRecDepth 100000
set_option maxHeartbeats 4000000
namespace Dl
open PySem PySem.Spec PyProof.Rows L2
/-! ### match over texts -/
def mAny (b : DS) : D → DS := fun _ => b
def mStr (z : Str) (b : DS) (r : D → DS) : D → DS := fun d S => match d with
  | .str x => if x = z then b S else r (.str x) S
  | _ => none
def sMatch (e : DE) (m : D → DS) : DS := fun S => (e S).bind fun p => m p.1 p.2
def RefM (K : PySem.W.Frag) (tm : V → TS) (m : D → DS) : Prop := ∀ (N : Addr → Prop) (H0 : Hp) (α0 α : List Addr) (σ : L2.St) (H : Hp) (S : Sx) (d : D) (v : V) (fl : Fl) (S' : Sx) (E : Ends),
  SR K N H0 α0 α σ H S → DR K α (lim H (Mx N α S σ)) v d → m d S = some (fl, S') →
  (∀ σ' α' H', SR K N H0 α0 α' σ' H' S' → α <+: α' → Same (lim H (Mx N α S σ)) (lim H' (Mx N α' S' σ')) → FlR K α' (lim H' (Mx N α' S' σ')) E σ' H' fl) → tm v E σ H
def JM (X : Cx) (cs : List MatchCase) (m : D → DS) : Prop := ∃ tm, Bg.PM X cs tm ∧ RefM X.K tm m
section
variable {X : Cx} {rest : List MatchCase} {body : List Stmt} {f : DS} {m : D → DS} {pos p1 : Pos} {z : Str} {j : Nat} {e : Expr} {fe : DE} {cs : List MatchCase}
theorem jm_any (h : JSs X body f) : JM X (⟨.MatchAs none none pos, none, body⟩ :: rest) (mAny f) := ⟨_, Bg.pm_any h.pe, fun N H0 α0 α σ H S d v fl S' E R dr e q => h.rf N H0 α0 α σ H S fl S' E R e q⟩
theorem jm_str (h : JSs X body f) (hr : JM X rest m) : JM X (⟨.MatchValue (.Constant (.str z) j p1) pos, none, body⟩ :: rest) (mStr z f m) := by
  obtain ⟨tm, pm, rm⟩ := hr
  refine ⟨_, Bg.pm_str h.pe pm, fun N H0 α0 α σ H S d v fl S' E R dr e q => ?_⟩
  cases d with
  | str x =>
    cases dr
    refine ⟨x, rfl, ?_⟩
    have e' : (if x = z then f S else m (.str x) S) = some (fl, S') := e
    by_cases c : x = z
    · rw [if_pos c] at e' ⊢
      exact h.rf N H0 α0 α σ H S fl S' E R e' q
    · rw [if_neg c] at e' ⊢
      exact rm N H0 α0 α σ H S (.str x) (.str x) fl S' E R (.str x) e' q
  | _ => cases e
theorem js_match (he : JE X e fe) (hm : JM X cs m) : JS X (.Match e cs pos) (sMatch fe m) := by
  obtain ⟨tm, pm, rm⟩ := hm
  refine JS.of (Bg.ps_match he.pe pm) fun N H0 α0 α σ H S fl S' E R e q => ?_
  obtain ⟨⟨d, S1⟩, e1, e⟩ := opt_bind e
  refine he.rf N H0 α0 α σ H S d S1 _ R e1 fun v α1 H1 R1 g1 d1 => ?_
  exact rm N H0 α0 α1 σ H1 S1 d v fl S' E R1 d1 e fun σ2 α2 H2 R2 p2 s2 => q σ2 α2 H2 R2 (g1.pre.trans p2) (g1.same.trans s2)
end
section
variable {S S1 S9 : Sx} {k b : DS} {e : DE} {d : D} {m : D → DS} {Q : Fl → Sx → Prop} {x z : Str}
theorem wp_match (he : e S = some (d, S1)) (hS : S1 = S9) (h : wp (sSeq (m d) k) S9 Q) : wp (sSeq (sMatch e m) k) S Q := by
  subst hS
  obtain ⟨fl, S', e1, q⟩ := h
  refine ⟨fl, S', ?_, q⟩
  have z : sMatch e m S = m d S1 := by unfold sMatch; rw [he]; rfl
  unfold sSeq at e1 ⊢
  rw [z]; exact e1
theorem wp_mStr (h : if x = z then wp (sSeq b k) S Q else wp (sSeq (m (.str x)) k) S Q) : wp (sSeq (mStr z b m (.str x)) k) S Q := by
  by_cases c : x = z
  · rw [if_pos c] at h
    obtain ⟨fl, S', e1, q⟩ := h
    refine ⟨fl, S', ?_, q⟩
    have zz : mStr z b m (.str x) S = b S := if_pos c
    unfold sSeq at e1 ⊢
    rw [zz]; exact e1
  · rw [if_neg c] at h
    obtain ⟨fl, S', e1, q⟩ := h
    refine ⟨fl, S', ?_, q⟩
    have zz : mStr z b m (.str x) S = m (.str x) S := if_neg c
    unfold sSeq at e1 ⊢
    rw [zz]; exact e1
theorem wp_mAny (h : wp (sSeq b k) S Q) : wp (sSeq (mAny b d) k) S Q := h
end
end Dl

set_option Elab.async false
set_option linter.all false
set_option maxRecDepth 100000
set_option maxHeartbeats 800000
/-! Known numbers of deeds: what the rules come to, and that it holds all that comes. Own work of the verifier. -/
namespace Bg
open PySem PySem.Spec PyProof.Rows L2 Dl
def ones (x : Nat) : Nat := 2 ^ bl x - 1
section
variable {n x y : Nat} {a b k : Kn} {o : Op}
theorem Held.one (sb : Sb n k.v k.u) (h : Held n k x) (z : k.u = 0) : x = k.v := by
  apply Nat.eq_of_testBit_eq
  intro i
  by_cases hi : i < n
  · exact h.bits i hi (by rw [z, Nat.zero_testBit])
  · rw [big_bit h.x1 (by omega), big_bit sb.v1 (by omega)]
end
end Bg

set_option Elab.async false
set_option linter.all false
set_option maxRecDepth 100000
set_option maxHeartbeats 4000000
/-! Data layer: truth of any data, x += y. Own work of the verifier. -/
namespace Dl
open PySem PySem.Spec PyProof.Rows L2
/-! ### truth -/
def tru (S : Sx) : D → Option Bool
  | .non => some false
  | .bl b => some b
  | .int i => some (i != 0)
  | .str z => if z.length ≤ 16777216 then some ((z.length : Int) != 0) else none
  | .lst ds => some (!ds.isEmpty)
  | .tup ds => some (!ds.isEmpty)
  | .obj n => match S.st[n]? with
    | some (.lst ds) => some (!ds.isEmpty)
    | some (.dct kvs) => some (!kvs.isEmpty)
    | _ => none
  | .con _ => none
  | .dct ks _ => some (!ks.isEmpty)
section
variable {K : PySem.W.Frag} {N : Addr → Prop} {H0 H : Hp} {α0 α : List Addr} {σ : L2.St} {S : Sx} {v : V} {d : D} {b : Bool}
theorem drs_empty {vs : List V} {ds : List D} {Hm : Hp} (h : DRs K α Hm vs ds) : (!ds.isEmpty) = !vs.isEmpty := by
  cases h <;> rfl
theorem kr_empty {κ : Type} {vs : List (κ × V)} {ds : List (κ × D)} {Hm : Hp} (h : KR K α Hm vs ds) : (!ds.isEmpty) = !vs.isEmpty := by
  cases h <;> rfl
theorem tru_of (R : SR K N H0 α0 α σ H S) (dr : DR K α (lim H (Mx N α S σ)) v d) (h : tru S d = some b) : TruV K v H b := by
  cases dr with
  | non => cases h; rfl
  | bl c => cases h; rfl
  | int i => cases h; rfl
  | str z =>
    have h : (if z.length ≤ 16777216 then some ((z.length : Int) != 0) else none) = some b := h
    split at h
    · rename_i l
      cases h
      exact ⟨by rw [sizeLine_eq]; exact l, rfl⟩
    · cases h
  | lst a c =>
    cases h
    refine .inl ⟨_, lim_sub.seq a, drs_empty c⟩
  | tup a c =>
    cases h
    exact .inr (.inl ⟨_, Bg.sqT_same lim_sub a, drs_empty c⟩)
  | @obj n a e =>
    have h : (match S.st[n]? with
      | some (.lst ds) => some (!ds.isEmpty)
      | some (.dct kvs) => some (!kvs.isEmpty)
      | _ => none) = some b := h
    split at h
    · rename_i ds e2
      cases h
      obtain ⟨a', q1, vs, q2, q3⟩ := R.sto.at_ n _ e2
      rw [e] at q1; cases q1
      exact .inl ⟨vs, .of q2, drs_empty q3⟩
    · rename_i kvs e2
      cases h
      obtain ⟨a', q1, vs, q2, q3⟩ := R.sto.at_ n _ e2
      rw [e] at q1; cases q1
      exact .inr (.inr ⟨vs, q2, kr_empty q3⟩)
    · cases h
  | con v => cases h
  | @dct a kvs ks ds e ek c =>
    cases h
    refine .inr (.inr ⟨kvs, (lim_some.mp e).2, ?_⟩)
    cases kvs <;> (cases ek; rfl)
end
def tTr (a : DE) : DT := fun S => (a S).bind fun p => (tru p.2 p.1).map fun b => (b, p.2)
section
variable {K : PySem.W.Frag} {ta tb : TE} {fa fb : DE}
theorem rf_tTr (ha : RefE K ta fa) : RefT K (fun σ H Q => ta σ H fun x H' => ∃ k, TruV K x H' k ∧ Q k H') (tTr fa) := by
  intro N H0 α0 α σ H S b S' Q R e q
  obtain ⟨⟨x, S1⟩, e1, e⟩ := opt_bind e
  obtain ⟨c, e2, e⟩ := opt_map e
  cases e
  exact ha N H0 α0 α σ H S x S1 _ R e1 fun v α1 H1 R1 g1 d1 => ⟨_, tru_of R1 d1 e2, q α1 H1 R1 g1⟩
end
section
variable {X : Cx} {a b e : Expr} {fa fb fe : DE} {rest : List Expr} {pos : Pos}
theorem jt_tru (h : JE X e fe) (he : ∀ whole, isTrue e X.env whole = (do let v ← whole; standAt e.pos; holding [v] (truthy v)) := by intro _; rfl) : JT X e (tTr fe) := JT.of (pt_truth h.pe he) (rf_tTr h.rf)
end
/-! ### x += y, x -= y of ints -/
def sAug (g : Int → Int → Int) (i : Nat) (e : DE) : DS := fun S => match S.env[i]? with
  | some (.val (.int x)) => (e S).bind fun p => match p.1 with
    | .int y => (gN i (.int (g x y)) p.2).map fun S' => (.nx, S')
    | _ => none
  | _ => none
section
variable {K : PySem.W.Frag} {ta : TE} {fa : DE} {i : Nat} {g : Int → Int → Int}
end
section
variable {X : Cx} {e : Expr} {fe : DE} {pos pos' : Pos} {i : Nat} {x : Str}
end
/-! ### evaluation -/
section
variable {S S1 S2 S9 : Sx} {a b e : DE} {d x : D} {k : DS} {i : Nat} {Q : Fl → Sx → Prop} {p : Bool}
theorem wp_aug {g : Int → Int → Int} {m n : Int} (h0 : S.env[i]? = some (.val (.int m))) (he : e S = some (.int n, S1)) (hi : i < S1.env.length) (hS : S1.put i (.val (.int (g m n))) = S9) (h : wp k S9 Q) : wp (sSeq (sAug g i e) k) S Q :=
  wp_nx (S1 := S9) (by unfold sAug; rw [h0]; dsimp only; rw [he, Option.bind_some]; unfold gN; dsimp only; rw [if_pos hi, ← hS]; rfl) h
theorem wpl_aug {g : Int → Int → Int} (h : wp (sSeq (sAug g i e) sNil) S Q) : wp (sAug g i e) S Q := wp_last h
end
end Dl
namespace Dl
open PySem PySem.Spec PyProof.Rows L2
theorem ite_t {p A B : Prop} [Decidable p] (h : p) (a : A) : if p then A else B := by rw [if_pos h]; exact a
theorem ite_f {p A B : Prop} [Decidable p] (h : ¬ p) (b : B) : if p then A else B := by rw [if_neg h]; exact b
theorem wpl_match {e : DE} {m : D → DS} {S : Sx} {Q : Fl → Sx → Prop} (h : wp (sSeq (sMatch e m) sNil) S Q) : wp (sMatch e m) S Q := wp_last h
end Dl
namespace Dl
open PySem PySem.Spec PyProof.Rows L2
theorem gSl_62 {a b c d e f : D} : gSl (.tup [a, b, c, d, e, f]) none (some 2) = some (.tup [a, b]) := rfl
end Dl
namespace Dl
open PySem PySem.Spec PyProof.Rows L2
theorem gEq_sT {i : Str} : gEq (.str i) (.str i) = some (.bl true) := by rw [gEq_s, decide_eq_true rfl]
theorem gEq_sF {i j : Str} (h : i ≠ j) : gEq (.str i) (.str j) = some (.bl false) := by rw [gEq_s, decide_eq_false h]
theorem gNe_sT {i : Str} : gNe (.str i) (.str i) = some (.bl false) := by rw [gNe_s, decide_eq_true rfl]; rfl
theorem gNe_sF {i j : Str} (h : i ≠ j) : gNe (.str i) (.str j) = some (.bl true) := by rw [gNe_s, decide_eq_false h]; rfl
end Dl
namespace Bg
open PySem PySem.Spec PyProof.Rows L2 Dl
end Bg

set_option Elab.async false
set_option linter.all false
set_option maxRecDepth 100000
set_option maxHeartbeats 4000000
/-! Data layer: a dict of the module with text keys; a def that calls itself. Own work of the verifier. -/
namespace Dl
open PySem PySem.Spec PyProof.Rows L2
section
variable {X : Cx} {d : Addr} {es : Array DictEntry} {n : Nat}
/-- what a dict of the module holds -/
def KTbl (K : PySem.W.Frag) (d : Addr) (tbl : List (Str × D)) : Prop := ∀ z dd, tbl.lookup z = some dd → ∃ (u0 : Value) (v0 : V), PySem.W.nsIn K d z = some (some u0) ∧ RelV v0 u0 ∧ ∀ α H, DR K α H v0 dd
theorem KTbl.nil {K : PySem.W.Frag} : KTbl K d [] := fun z dd h => nomatch h
theorem KTbl.cons {K : PySem.W.Frag} {z : Str} {dd : D} {tbl : List (Str × D)} {u0 : Value} {v0 : V} (e : PySem.W.nsIn K d z = some (some u0)) (r : RelV v0 u0) (dr : ∀ α H, DR K α H v0 dd) (t : KTbl K d tbl) : KTbl K d ((z, dd) :: tbl) := by
  intro z' dd' h
  unfold List.lookup at h
  split at h
  · rename_i c
    cases h
    rw [beq_iff_eq] at c
    subst c
    exact ⟨u0, v0, e, r, dr⟩
  · exact t _ _ h
end
/-! ### a def that calls itself: what it does not do -/
def F_none : DF := fun _ _ => none
theorem ok_none {P : Program} {w : World} {K : PySem.W.Frag} {mg : Str → Option Value} {base : Heap} {k : Nat} {f : Addr} {fd : FuncData} {ps : List Str} : Bg.FnG P w K mg base CX0 k f fd ps (spD K F_none) := by
  refine ⟨?_, ?_⟩
  · rintro vs H Q E ⟨N, α, ds, st0, d, st', nd, lv, na, dr, sr, e, q⟩
    cases e
  · rintro A outer s H args us vs Q E hr gd I hb hv ⟨N, α, ds, st0, d, st', nd, lv, na, dr, sr, e, q⟩
    cases e
end Dl

set_option Elab.async false
set_option linter.all false
set_option maxRecDepth 100000
set_option maxHeartbeats 800000
/-! Known numbers: what lies within what, settled; asks and what they tell. Own work of the verifier. -/
namespace Bg
open PySem PySem.Spec PyProof.Rows L2 Dl
structure Bw (v u v' u' : Nat) : Prop where
  u : ∀ i, u.testBit i = true → u'.testBit i = true
  v : ∀ i, u'.testBit i = false → v.testBit i = v'.testBit i
theorem Bw.refl {v u : Nat} : Bw v u v u := ⟨fun _ h => h, fun _ _ => rfl⟩
theorem Bw.un {v u v' u' i : Nat} (h : Bw v u v' u') (z : u'.testBit i = false) : u.testBit i = false := by
  cases e : u.testBit i with
  | false => rfl
  | true => rw [h.u i e] at z; cases z
theorem Bw.trans {v u v' u' v'' u'' : Nat} (a : Bw v u v' u') (b : Bw v' u' v'' u'') : Bw v u v'' u'' := ⟨fun i h => b.u i (a.u i h), fun i h => (a.v i (b.un h)).trans (b.v i h)⟩
structure Lw (k k' : Kn) : Prop where
  b : Bw k.v k.u k'.v k'.u
  l : k'.l ≤ k.l
  m : k.m ≤ k'.m
  lo : k'.lo ≤ k.lo
  hi : k.hi ≤ k'.hi
section
variable {n : Nat} {k k' k'' r : Kn} {x y : Nat}
theorem Lw.refl : Lw k k := ⟨.refl, Int.le_refl _, Int.le_refl _, Int.le_refl _, Int.le_refl _⟩
theorem Lw.trans (a : Lw k k') (b : Lw k' k'') : Lw k k'' := ⟨a.b.trans b.b, Int.le_trans b.l a.l, Int.le_trans a.m b.m, Int.le_trans b.lo a.lo, Int.le_trans a.hi b.hi⟩
theorem Lw.held (h : Lw k k') (a : Held n k x) : Held n k' x := ⟨a.x1, fun i hi hu => (a.bits i hi (h.b.un hu)).trans (h.b.v i hu), Int.le_trans h.l a.l, Int.le_trans a.m h.m, Int.le_trans h.lo a.lo, Int.le_trans a.hi h.hi⟩
/-- a known number that is settled -/
structure Ks (n : Nat) (k : Kn) : Prop where
  kr : Kr n k
  lm : k.l ≤ k.m
  lh : k.lo ≤ k.hi
  fx : onceK n k = some k
end
end Bg

set_option Elab.async false
set_option linter.all false
set_option maxRecDepth 100000
set_option maxHeartbeats 800000
/-! Known numbers: deeds of what lies within; asks. Own work of the verifier. -/
namespace Bg
open PySem PySem.Spec PyProof.Rows L2 Dl
section
variable {n : Nat} {a b a' b' k k' r : Kn} {o : Op} {x y : Nat}
theorem Bw.one {v u v' : Nat} (h : Bw v u v' 0) : u = 0 ∧ v = v' := by
  refine ⟨Nat.eq_of_testBit_eq fun i => ?_, Nat.eq_of_testBit_eq fun i => h.v i (Nat.zero_testBit i)⟩
  rw [Nat.zero_testBit]
  exact h.un (Nat.zero_testBit i)
end
end Bg

set_option Elab.async false
set_option linter.all false
set_option maxRecDepth 100000
set_option maxHeartbeats 800000
/-! Known numbers: asks and what they tell. Own work of the verifier. -/
namespace Bg
open PySem PySem.Spec PyProof.Rows L2 Dl
def cutS (a b : Kn) (s : Int) : Kn × Kn := (⟨a.v, a.u, a.l, a.m, a.lo, mn a.hi (b.hi - s)⟩, ⟨b.v, b.u, b.l, b.m, mx b.lo (a.lo + s), b.hi⟩)
def os (p : Kn × Kn) : Option Kn × Option Kn := (some p.1, some p.2)
def sw (p : Kn × Kn) : Option Kn × Option Kn := (some p.2, some p.1)
section
variable {n x y : Nat} {a b a' b' k k' r : Kn} {q : Ak} {c : Bool}
/-- what settling asks for -/
structure Kc (n : Nat) (k : Kn) : Prop where
  sb : Sb n k.v k.u
  sg : Sg n k
/-! ### what is held is held behind an ask -/
end
end Bg

set_option Elab.async false
set_option linter.all false
set_option maxRecDepth 100000
set_option maxHeartbeats 800000
/-! Known numbers: asks of what lies within. Own work of the verifier. -/
namespace Bg
open PySem PySem.Spec PyProof.Rows L2 Dl
section
variable {n x y : Nat} {a b a' b' k k' r : Kn} {q : Ak} {c : Bool}
/-- a settled one without an unsure bit is just a worth -/
theorem Ks.just (h1 : 1 ≤ n) (h : Ks n k) (z : k.u = 0) : k.l = k.v ∧ k.m = k.v ∧ k.lo = sg n k.v ∧ k.hi = sg n k.v := by
  have pc := nat_pow_cast n
  obtain ⟨d, e1, e2, e3, e4, _⟩ := once_some h.kr.sb h.fx
  have a1 := @l1_ge_v n k
  have a2 := @m1_le_v n k
  rw [z, Nat.or_zero] at a2
  have lm := h.lm
  have lv : k.l = k.v := by omega
  have mv : k.m = k.v := by omega
  have v1 := h.kr.sb.v1
  have eL : lo1 n k = mx k.lo (sg n k.v) := by
    unfold Bg.lo1 endL
    rw [z, Nat.or_zero, lv, mv, mx_self, mn_self, if_pos rfl]
  have eH : hi1 n k = mn k.hi (sg n k.v) := by
    unfold hi1 endH
    rw [z, Nat.or_zero, lv, mv, mx_self, mn_self, if_pos rfl]
  have b1 := mx_r k.lo (sg n k.v)
  have b2 := mn_r k.hi (sg n k.v)
  have lh := h.lh
  refine ⟨lv, mv, ?_, ?_⟩ <;> omega
theorem Ks.within (h1 : 1 ≤ n) (h : Ks n k) (z : k.u = 0) (sb : Sb n r.v r.u) (hr : Held n r k.v) : Lw k r := by
  obtain ⟨e1, e2, e3, e4⟩ := h.just h1 z
  have := hr.l; have := hr.m; have := hr.lo; have := hr.hi
  refine ⟨⟨fun i hi => ?_, fun i hi => ?_⟩, by omega, by omega, by omega, by omega⟩
  · rw [z, Nat.zero_testBit] at hi; cases hi
  · by_cases c : i < n
    · exact hr.bits i c hi
    · rw [big_bit h.kr.sb.v1 (by omega), big_bit sb.v1 (by omega)]
end
end Bg

set_option Elab.async false
set_option linter.all false
set_option maxRecDepth 100000
set_option maxHeartbeats 800000
/-! Data layer: loops over what is written. Own work of the verifier. -/
namespace Dl
open PySem PySem.Spec PyProof.Rows L2
section
variable {S S1 S9 : Sx} {g : DG} {b k : DS} {x : D} {xs : List D} {Q : Fl → Sx → Prop}
end
end Dl

set_option Elab.async false
set_option linter.all false
set_option maxRecDepth 100000
set_option maxHeartbeats 4000000
/-! Data layer: dicts of the store. Own work of the verifier. -/
namespace Dl
open PySem PySem.Spec PyProof.Rows L2
def valD (kvs : List (Key × D)) (k : Key) : Option D := (kvs.find? fun kv => decide (kv.1 = k)).map (·.2)
def putD (kvs : List (Key × D)) (k : Key) (d : D) : List (Key × D) := if (kvs.any fun kv => decide (kv.1 = k)) = true then kvs.map (fun kv => if kv.1 = k then (kv.1, d) else kv) else kvs ++ [(k, d)]
def mergeD (kvs more : List (Key × D)) : List (Key × D) := more.foldl (fun acc kv => putD acc kv.1 kv.2) kvs
def keyD : D → Option Key
  | .int i => some (.inl i)
  | .str z => some (.inr z)
  | _ => none
section
variable {K : PySem.W.Frag} {α α' : List Addr} {H H' : Hp} {v : V} {d : D} {vs : List (Key × V)} {ds : List (Key × D)} {k : Key}
theorem key_ok (h : DR K α H v d) (e : keyD d = some k) : v = kV k := by
  cases h <;> first | (cases e; done) | skip
  · cases e; rfl
  · cases e; rfl
theorem KR.len {κ : Type} {vs : List (κ × V)} {ds : List (κ × D)} (h : KR K α H vs ds) : vs.length = ds.length := by
  induction h with
  | nil => rfl
  | cons a b ih => rw [List.length_cons, List.length_cons, ih]
theorem KR.any (h : KR K α H vs ds) : (ds.any fun kv => decide (kv.1 = k)) = (vs.any fun kv => decide (kv.1 = k)) := by
  induction h with
  | nil => rfl
  | cons a b ih => rw [List.any_cons, List.any_cons, ih]
theorem KR.val (h : KR K α H vs ds) : (∀ d, valD ds k = some d → ∃ v, valV vs k = some v ∧ DR K α H v d) ∧ (valD ds k = none → valV vs k = none) := by
  induction h with
  | nil => exact ⟨fun d e => (nomatch e), fun _ => rfl⟩
  | @cons k' v vs d ds a b ih =>
    unfold valD valV at ih ⊢
    rw [List.find?_cons, List.find?_cons]
    by_cases c : k' = k
    · rw [decide_eq_true c]
      exact ⟨fun d e => by cases e; exact ⟨v, rfl, a⟩, fun e => (nomatch e)⟩
    · rw [decide_eq_false c]; exact ih
theorem KR.app (h : KR K α H vs ds) (r : DR K α H v d) : KR K α H (vs ++ [(k, v)]) (ds ++ [(k, d)]) := by
  induction h with
  | nil => exact .cons r .nil
  | cons a b ih => exact .cons a ih
theorem KR.put (h : KR K α H vs ds) (r : DR K α H v d) : KR K α H (putK vs k v) (putD ds k d) := by
  unfold putK putD
  rw [h.any]
  split
  · induction h with
    | nil => exact .nil
    | @cons k' v' vs d' ds a b ih =>
      rename_i c
      rw [List.map_cons, List.map_cons]
      have ih2 : KR K α H (vs.map fun kv => if kv.1 = k then (kv.1, v) else kv) (ds.map fun kv => if kv.1 = k then (kv.1, d) else kv) := by
        clear ih c a
        induction b with
        | nil => exact .nil
        | @cons k2 v2 vs2 d2 ds2 a2 b2 ih3 =>
          rw [List.map_cons, List.map_cons]
          by_cases e : k2 = k
          · rw [if_pos e, if_pos e]; exact .cons r ih3
          · rw [if_neg e, if_neg e]; exact .cons a2 ih3
      by_cases e : k' = k
      · rw [if_pos e, if_pos e]; exact .cons r ih2
      · rw [if_neg e, if_neg e]; exact .cons a ih2
  · exact h.app r
theorem KR.merge {ms : List (Key × V)} {es : List (Key × D)} (h2 : KR K α H ms es) : ∀ {vs : List (Key × V)} {ds : List (Key × D)}, KR K α H vs ds → KR K α H (mergeK vs ms) (mergeD ds es) := by
  induction h2 with
  | nil => exact fun h => h
  | cons a b ih => exact fun h => ih (h.put a)
end
/-! ### a thing is added to the store, a thing of it is changed -/
section
variable {K : PySem.W.Frag} {N : Addr → Prop} {H0 H H1 : Hp} {α0 α α1 : List Addr} {σ : L2.St} {S S1 : Sx} {p : Addr} {o : DO}
theorem SR.push (R : SR K N H0 α0 α σ H S) (R1 : SR K (NewP N p) H0 α0 α1 σ H1 S1) (g1 : Gr α H S α1 H1 S1) (np : H p = none) (n0 : H0 p = none)
    (ho : ∀ α2, α1 <+: α2 → ObjR K α2 H1 (lim H1 (Mx (NewP N p) α1 S1 σ)) p o) :
    SR K N H0 α0 (α1 ++ [p]) σ H1 { S1 with st := S1.st ++ [o] } ∧ Gr α H S (α1 ++ [p]) H1 { S1 with st := S1.st ++ [o] } ∧ DR K (α1 ++ [p]) (lim H1 (Mx N (α1 ++ [p]) { S1 with st := S1.st ++ [o] } σ)) (.ref p) (.obj S1.st.length) := by
  have L := R1.less.1
  have npa : p ∉ α1 := fun z => R1.na p z (.inr rfl)
  have nn : ¬ N p := fun z => R.live p z np
  have em : Mx N (α1 ++ [p]) { S1 with st := S1.st ++ [o] } σ = Mx (NewP N p) α1 S1 σ := funext fun a => propext ⟨
    fun m => m.elim (fun z => .inl (.inl z)) fun z => z.elim (fun y => (List.mem_append.mp y).elim (fun w => .inr (.inl w)) fun w => .inl (.inr (List.mem_singleton.mp w))) fun y => .inr (.inr y),
    fun m => m.elim (fun z => z.elim .inl fun y => .inr (.inl (List.mem_append_right _ (by rw [y]; exact List.mem_singleton.mpr rfl)))) fun z => z.elim (fun y => .inr (.inl (List.mem_append_left _ y))) fun y => .inr (.inr y)⟩
  have pre1 : α1 <+: α1 ++ [p] := List.prefix_append _ _
  have hn : (α1 ++ [p])[S1.st.length]? = some p := by
    rw [R1.sto.len, List.getElem?_append_right (Nat.le_refl _), Nat.sub_self]; rfl
  have dobj : DR K (α1 ++ [p]) (lim H1 (Mx N (α1 ++ [p]) { S1 with st := S1.st ++ [o] } σ)) (.ref p) (.obj S1.st.length) := .obj hn
  have g2 : Gr α H S (α1 ++ [p]) H1 { S1 with st := S1.st ++ [o] } := ⟨g1.pre.trans pre1, fun a h n => (List.mem_append.mp h).elim (fun z => g1.fr a z n) fun z => by rw [List.mem_singleton.mp z]; exact np, g1.keep, g1.own, g1.frz⟩
  refine ⟨⟨R1.pre.trans pre1, R1.len, ?_, L.live, fun a h n => ?_, fun a h => ⟨(L.on a h).1, fun z => ?_⟩, R1.uniq, fun i x ex => ?_, ⟨?_, fun n u en => ?_⟩, R1.keep, R1.fresh, fun a h n => ?_, R1.frz⟩, g2, dobj⟩
  · exact List.nodup_append.mpr ⟨R1.nd, by simp, fun a ha b hb e => by rw [List.mem_singleton.mp hb] at e; subst e; exact npa ha⟩
  · rcases List.mem_append.mp h with h | h
    · exact L.na a h n
    · rw [List.mem_singleton.mp h] at n; exact nn n
  · rcases List.mem_append.mp z with z | z
    · exact (L.on a h).2 z
    · rw [List.mem_singleton.mp z] at h; exact (R1.on p h).1 (.inr rfl)
  · rw [em]; exact (R1.slot i x ex).mono (fun _ _ _ _ h => h) (Same.refl _) pre1
  · show (S1.st ++ [o]).length = _
    rw [List.length_append, List.length_append, R1.sto.len]; rfl
  · rw [em]
    have en : (S1.st ++ [o])[n]? = some u := en
    by_cases c : n < S1.st.length
    · rw [List.getElem?_append_left c] at en
      obtain ⟨a, y1, y2⟩ := R1.sto.at_ n u en
      exact ⟨a, by rw [List.getElem?_append_left (by rw [← R1.sto.len]; exact c)]; exact y1, y2.mono (fun _ h => h) (Same.refl _) pre1⟩
    · rw [List.getElem?_append_right (by omega)] at en
      have c2 : n = S1.st.length := by
        by_cases c3 : n - S1.st.length = 0
        · omega
        · rw [List.getElem?_eq_none_iff.mpr (by simp; omega)] at en; cases en
      subst c2
      rw [Nat.sub_self] at en
      cases en
      exact ⟨p, hn, ho _ pre1⟩
  · rcases List.mem_append.mp h with h | h
    · exact R1.fral a h n
    · rw [List.mem_singleton.mp h]; exact n0
theorem SR.chgZ {n : Nat} {a : Addr} {o o' : DO} {u : HO} (R : SR K N H0 α0 α σ H S) (en : S.st[n]? = some o) (ea : α[n]? = some a) (ho : ∀ Hm, Same (lim H (Mx N α S σ)) Hm → ObjR K α (upd H a u) Hm a o') (hz : ∀ ob w, H0 a ≠ some (.frz ob w)) :
    SR K N H0 α0 α σ (upd H a u) (S.putO n o') ∧ Same (lim H (Mx N α S σ)) (lim (upd H a u) (Mx N α (S.putO n o') σ)) := by
  have am : a ∈ α := List.mem_of_getElem? ea
  have ua : ∀ b, b ≠ a → upd H a u b = H b := fun b h => upd_ne h
  have sm : Same (lim H (Mx N α S σ)) (lim (upd H a u) (Mx N α (S.putO n o') σ)) :=
    lim_keep (fun b o nm h => by rw [ua b fun z => nm (.inr (.inl (by rw [z]; exact am)))]; exact h) fun b m _ => m
  refine ⟨⟨R.pre, R.len, R.nd, fun b nb => ?_, R.na, R.on, R.uniq, fun i x ex => (R.slot i x ex).mono (fun b w hu hx h => ?_) sm (List.prefix_refl _), ⟨?_, fun m w em => ?_⟩, fun b w nb h => ?_, R.fresh, R.fral, fun b ob w h => by rw [ua b fun z => by (subst z; exact hz ob w h)]; exact R.frz b ob w h⟩, sm⟩
  · rw [ua b fun z => R.na a am (z ▸ nb)]; exact R.live b nb
  · obtain ⟨es, rfl⟩ := hx
    rw [ua b fun z => (R.on b ⟨i, es, ex, hu⟩).2 (by rw [z]; exact am)]; exact h
  · show (S.st.set n _).length = _
    rw [List.length_set]; exact R.sto.len
  · have em : (S.st.set n o')[m]? = some w := em
    by_cases c : n = m
    · subst c
      rw [List.getElem?_set_self (List.getElem?_eq_some_iff.mp en).1] at em
      cases em
      exact ⟨a, ea, ho _ sm⟩
    · rw [List.getElem?_set_ne c] at em
      obtain ⟨b, y1, y2⟩ := R.sto.at_ m w em
      refine ⟨b, y1, y2.mono (fun x h => ?_) sm (List.prefix_refl _)⟩
      rw [ua b fun z => ?_]; exact h
      subst z
      have h1 : n < α.length := (List.getElem?_eq_some_iff.mp ea).1
      have h2 : m < α.length := (List.getElem?_eq_some_iff.mp y1).1
      rw [List.getElem?_eq_getElem h1] at ea
      rw [List.getElem?_eq_getElem h2] at y1
      exact c ((List.getElem_inj R.nd).mp ((Option.some.inj ea).trans (Option.some.inj y1).symm))
  · by_cases c : b = a
    · exfalso
      subst c
      by_cases c0 : b ∈ α0
      · exact nb c0
      · rw [R.fral b am c0] at h; cases h
    · rw [ua b c]; exact R.keep b w nb h
end
/-! ### displays -/
abbrev DP := Sx → Option (List (Key × D) × Sx)
def pNil : DP := fun S => some ([], S)
def pCons (k v : DE) (r : DP) : DP := fun S => (k S).bind fun p => (keyD p.1).bind fun key => (v p.2).bind fun q => (r q.2).map fun z => ((key, q.1) :: z.1, z.2)
def eDict (ps : DP) : DE := fun S => (ps S).bind fun z => if z.1.length ≤ 15 then some (.obj z.2.st.length, { z.2 with st := z.2.st ++ [.dct (mergeD [] z.1)] }) else none
section
variable {K : PySem.W.Frag}
def RefP (K : PySem.W.Frag) (trs : List (TE × TE)) (f : DP) : Prop := ∀ (N : Addr → Prop) (H0 : Hp) (α0 α : List Addr) (σ : L2.St) (H : Hp) (S : Sx) (kvs : List (Key × D)) (S' : Sx) (Q : List (V × V) → Hp → Prop),
  SR K N H0 α0 α σ H S → f S = some (kvs, S') →
  (∀ (ms : List (Key × V)) α' H', SR K N H0 α0 α' σ H' S' → Gr α H S α' H' S' → KR K α' (lim H' (Mx N α' S' σ)) ms kvs → Q (ms.map fun kv => (kV kv.1, kv.2)) H') → tPairs trs σ H Q
theorem SR.chgG {n : Nat} {a : Addr} {o o' : DO} {u : HO} (R : SR K N H0 α0 α σ H S) (en : S.st[n]? = some o) (ea : α[n]? = some a) (ho : ∀ Hm, Same (lim H (Mx N α S σ)) Hm → ObjR K α (upd H a u) Hm a o') (hL : ∀ kvs, o ≠ .dctL kvs := by intro _ h; cases h) :
    SR K N H0 α0 α σ (upd H a u) (S.putO n o') ∧ Same (lim H (Mx N α S σ)) (lim (upd H a u) (Mx N α (S.putO n o') σ)) :=
  R.chgZ en ea ho fun ob w h => R.notF en ea hL ob w (R.frz _ _ _ h)
theorem rf_pnil : RefP K [] pNil := by
  intro N H0 α0 α σ H S kvs S' Q R e q
  cases e
  exact q [] α H R .refl .nil
theorem rf_pcons {tk tv : TE} {trs : List (TE × TE)} {fk fv : DE} {r : DP} (hk : RefE K tk fk) (hv : RefE K tv fv) (hr : RefP K trs r) : RefP K ((tk, tv) :: trs) (pCons fk fv r) := by
  intro N H0 α0 α σ H S kvs S' Q R e q
  obtain ⟨⟨x, S1⟩, e1, e⟩ := opt_bind e
  obtain ⟨key, ek, e⟩ := opt_bind e
  obtain ⟨⟨y, S2⟩, e2, e⟩ := opt_bind e
  obtain ⟨⟨zs, S3⟩, e3, e⟩ := opt_map e
  cases e
  refine hk N H0 α0 α σ H S x S1 _ R e1 fun v1 α1 H1 R1 g1 d1 => ?_
  refine hv N H0 α0 α1 σ H1 S1 y S2 _ R1 e2 fun v2 α2 H2 R2 g2 d2 => ?_
  refine hr N H0 α0 α2 σ H2 S2 zs S3 _ R2 e3 fun ms α3 H3 R3 g3 km => ?_
  have ev := key_ok d1 ek
  subst ev
  exact q ((key, v2) :: ms) α3 H3 R3 ((g1.trans g2).trans g3) (.cons (g3.dr d2) km)
theorem rf_dict {trs : List (TE × TE)} {f : DP} (h : RefP K trs f) : RefE K (tDisp trs) (eDict f) := by
  intro N H0 α0 α σ H S d S' Q R e q p np
  obtain ⟨⟨kvs, S1⟩, e1, e⟩ := opt_bind e
  dsimp only at e
  split at e
  · rename_i hl
    cases e
    have n0 := R.base_none np
    refine h (NewP N p) H0 α0 α σ (upd H p (.dK [])) S kvs S1 _ (R.add np) e1 fun ms α1 H1 R1 g1 km => ?_
    have hp1 : H1 p = some (.dK []) := g1.keep p _ (fun z => (R.add np (o := .dK [])).na p z (.inr rfl)) upd_same
    have same0 : ∀ a o, a ∉ α → H a = some o → H1 a = some o := fun a o na ea => g1.keep a o na (by rw [upd_ne (fun z => by rw [z, np] at ea; cases ea)]; exact ea)
    refine ⟨hp1, ms, rfl, by rw [km.len]; exact hl, ?_⟩
    have s2 : ∀ b, b ≠ p → upd H1 p (.dK (mergeK [] ms)) b = H1 b := fun b hb => upd_ne hb
    have npa : p ∉ α1 := fun z => R1.na p z (.inr rfl)
    have sm : Same (lim H1 (Mx (NewP N p) α1 S1 σ)) (lim (upd H1 p (.dK (mergeK [] ms))) (Mx (NewP N p) α1 S1 σ)) :=
      lim_keep (fun b o nm h => by rw [s2 b fun z => nm (.inl (.inr z))]; exact h) fun b m _ => m
    have R2 : SR K (NewP N p) H0 α0 α1 σ (upd H1 p (.dK (mergeK [] ms))) S1 := by
      refine ⟨R1.pre, R1.len, R1.nd, fun b nb => ?_, R1.na, R1.on, R1.uniq, fun i x ex => (R1.slot i x ex).mono (fun b w hu hx h => ?_) sm (List.prefix_refl _), ⟨R1.sto.len, fun m w em => ?_⟩, fun b w nb h => ?_, R1.fresh, R1.fral, fun b ob w h => by rw [s2 b fun z => by (subst z; rw [n0] at h; cases h)]; exact R1.frz b ob w h⟩
      · by_cases c : b = p
        · subst c; rw [upd_same]; exact fun z => nomatch z
        · rw [s2 b c]; exact R1.live b nb
      · obtain ⟨es, rfl⟩ := hx
        rw [s2 b fun z => (R1.on b ⟨i, es, ex, hu⟩).1 (.inr z)]; exact h
      · obtain ⟨b, y1, y2⟩ := R1.sto.at_ m w em
        refine ⟨b, y1, y2.mono (fun x h => ?_) sm (List.prefix_refl _)⟩
        rw [s2 b fun z => npa (by rw [← z]; exact List.mem_of_getElem? y1)]; exact h
      · by_cases c : b = p
        · subst c; rw [n0] at h; cases h
        · rw [s2 b c]; exact R1.keep b w nb h
    have g2 : Gr α H S α1 (upd H1 p (.dK (mergeK [] ms))) S1 := by
      refine ⟨g1.pre, fun a ha na => ?_, fun a o na ea => ?_, g1.own, fun a ob w ea => by (have n : a ≠ p := fun z => by (rw [z, np] at ea; cases ea)); rw [s2 a n]; exact g1.frz a ob w (by rw [upd_ne n]; exact ea)⟩
      · have := g1.fr a ha na
        by_cases c : a = p
        · subst c; exact np
        · rw [upd_ne c] at this; exact this
      · rw [s2 a fun z => by rw [z, np] at ea; cases ea]; exact same0 a o na ea
    obtain ⟨R3, g3, d3⟩ := R.push (o := .dct (mergeD [] kvs)) R2 g2 np n0 fun α2 pr => ⟨_, upd_same, (km.mono sm pr).merge .nil⟩
    exact q _ _ _ R3 g3 d3
  · cases e
/-! ### d[y], y in d, d[y] = v -/
variable {ta tb te : TE} {fa fb fe : DE}
end
end Dl

set_option Elab.async false
set_option linter.all false
set_option maxRecDepth 100000
set_option maxHeartbeats 4000000
/-! Data layer: a tuple or a list turned about; dicts by text; lists of the store appended to. Own work of the verifier. -/
namespace Dl
open PySem PySem.Spec PyProof.Rows L2
section
variable {prog : Program} {w : World} {A : Around} {E : Value → Shared → Prop} {s : Shared}
end
/-! ### x[::-1] -/
section
variable {X : Cx} {e : Expr} {te : TE} {k : Nat} {p1 p2 p3 pos : Pos} {fe : DE}
end
/-! ### dicts, by text -/
theorem hu1 {k : Nat} {A : Around} (h : Room k A) : A.units + 1 < cLine := by have := h.un; omega
def JP (X : Cx) (pos : Pos) (keys : List (Option Expr)) (values : List Expr) (f : DP) : Prop := ∃ trs, PPs X pos keys values trs ∧ RefP X.K trs f
section
variable {X : Cx} {a b e o : Expr} {fa fb fe fo : DE} {pos p p' : Pos} {keys : List (Option Expr)} {values : List Expr} {f : DP}
theorem jp_nil : JP X pos [] [] pNil := ⟨_, pps_nil, rf_pnil⟩
theorem jp_cons (hk : JE X a fa) (hv : JE X b fb) (hr : JP X pos keys values f) : JP X pos (some a :: keys) (b :: values) (pCons fa fb f) := by
  obtain ⟨trs, h1, h2⟩ := hr
  exact ⟨_, pps_cons hk.pe hv.pe h1, rf_pcons hk.rf hv.rf h2⟩
theorem je_dict (h : JP X pos keys values f) (h1 : keys.all (·.isSome) = true := by rfl) (h2 : keys.length = values.length := by rfl) (h3 : keys ≠ [] := by exact fun z => nomatch z) (h4 : keys.length ≤ 15 := by decide) : JE X (.Dict keys values pos) (eDict f) := by
  obtain ⟨trs, q1, q2⟩ := h
  exact JE.of (pe_disp q1 h1 h2 h3 h4) (rf_dict q2)
end
end Dl

set_option Elab.async false
set_option linter.all false
set_option maxRecDepth 100000
set_option maxHeartbeats 4000000
/-! Data layer: calls that leave some keywords out. Own work of the verifier. -/
namespace Dl
open PySem PySem.Spec PyProof.Rows L2
/-- true: the next of those left out; false: the next that is written -/
def mergeP {α : Type} : List Bool → List α → List α → List α
  | true :: p, m :: ms, ws => m :: mergeP p ms ws
  | false :: p, ms, w :: ws => w :: mergeP p ms ws
  | _, _, _ => []
theorem vals_merge {vs zs : List V} {us ws : List Value} : ∀ (p : List Bool), Vals vs us → Vals zs ws → Vals (mergeP p vs zs) (mergeP p us ws) := by
  intro p
  induction p generalizing vs zs us ws with
  | nil => intro _ _; cases vs <;> cases us <;> exact .nil
  | cons b p ih =>
    intro h1 h2
    cases b with
    | true =>
      cases h1 with
      | nil => exact .nil
      | cons a r => exact .cons a (ih r h2)
    | false =>
      cases h2 with
      | nil => cases h1 <;> exact .nil
      | cons a r => cases h1 with
        | nil => exact .cons a (ih .nil r)
        | cons a2 r2 => exact .cons a (ih (.cons a2 r2) r)
theorem drs_merge {K : PySem.W.Frag} {α : List Addr} {H : Hp} {vs zs : List V} {ds es : List D} : ∀ (p : List Bool), DRs K α H vs ds → DRs K α H zs es → DRs K α H (mergeP p vs zs) (mergeP p ds es) := by
  intro p
  induction p generalizing vs zs ds es with
  | nil => intro _ _; cases vs <;> cases ds <;> exact .nil
  | cons b p ih =>
    intro h1 h2
    cases b with
    | true =>
      cases h1 with
      | nil => exact .nil
      | cons a r => exact .cons a (ih r h2)
    | false =>
      cases h2 with
      | nil => cases h1 <;> exact .nil
      | cons a r => cases h1 with
        | nil => exact .cons a (ih .nil r)
        | cons a2 r2 => exact .cons a (ih (.cons a2 r2) r)
theorem kbn_some {K : PySem.W.Frag} {x qual : Str} {params : Arguments} {body : List Stmt} {scope : Scope} {kws : List (Str × V)} {f : Addr} {fd : FuncData} {ps : List Str} (F : FunD K x qual params body scope [] kws f fd)
    (n : Nat) (ks : List Str) (ms : List (Str × V)) (pat : List Bool) (hk : kws ≠ []) (hm : ∀ q ∈ ms, q ∈ kws)
    (h : ∀ (Dd : Addr) (doc pm : Value) (an : Option Addr) (cdv ct : Value) (us mv ws : List Value), us.length = n → mv.length = ms.length → ws.length = ks.length →
      KwChain Dd ((ms.map (·.1)).zip mv) (bindArgs (PySem.W.fnOf x qual params body scope .none (.ref Dd) doc pm an cdv ct) ⟨us, ks.zip ws⟩) (ps.zip (us ++ mergeP pat mv ws))) :
    ∃ mv : List Value, KBn K fd ps n ks (fun us ws => us ++ mergeP pat mv ws) (fun vs zs => vs ++ mergeP pat (ms.map (·.2)) zs) := by
  obtain ⟨oc, od, dV, kV, doc, pm, an, cdv, ct, osl, rfl, lk, hcd, hD, hK⟩ := F.ex
  rcases hD with ⟨_, rfl⟩ | ⟨e, _⟩
  · rcases hK with e | ⟨Dd, rfl, hq⟩
    · exact absurd e hk
    · obtain ⟨mv, hl, rk, hks⟩ := kwd_vals (ms := ms) fun q z => hq q (hm q z)
      refine ⟨mv, ⟨fun s us ws kin l1 l2 => ?_, fun r1 r2 => r1.append (vals_merge pat rk r2)⟩⟩
      exact BindsTo.of_looks fun _ => KwChain.looks kin hks (h Dd doc pm an cdv ct us mv ws l1 hl l2)
  · exact absurd rfl e
def eCallM (F : DF) (n m : Nat) (pat : List Bool) (ds : List D) (a k : DA) : DE := fun S => (a S).bind fun p => (k p.2).bind fun q => if p.1.length = n ∧ q.1.length = m then (F (app2 p.1 (mergeP pat ds q.1)) q.2.st).map fun r => (r.1, { q.2 with st := r.2 }) else none
section
variable {K : PySem.W.Frag} {tA tk : TA} {fA fk : DA}
theorem rf_callM {F : DF} {n m : Nat} {E : XK} {pat : List Bool} {dvs : List V} {ds : List D} (hd : ∀ α H, DRs K α H dvs ds) (ha : RefA K tA fA) (hk : RefA K tk fk) :
    RefE K (tCallN n m (spD K F) (fun vs zs => vs ++ mergeP pat dvs zs) E tA tk) (eCallM F n m pat ds fA fk) := by
  intro N H0 α0 α σ H S d S' Q R e q
  obtain ⟨⟨xs, S1⟩, e1, e⟩ := opt_bind e
  obtain ⟨⟨ys, S2⟩, e2, e⟩ := opt_bind e
  by_cases c : xs.length = n ∧ ys.length = m
  · have e : (if xs.length = n ∧ ys.length = m then (F (app2 xs (mergeP pat ds ys)) S2.st).map fun r => (r.1, { S2 with st := r.2 }) else none) = some (d, S') := e
    rw [if_pos c] at e
    obtain ⟨⟨r, st⟩, e3, e⟩ := opt_map e
    cases e
    refine ha N H0 α0 α σ H S xs S1 _ R e1 fun vs α1 H1 R1 g1 d1 => ?_
    refine hk N H0 α0 α1 σ H1 S1 ys S2 _ R1 e2 fun zs α2 H2 R2 g2 d2 => ?_
    refine ⟨d1.len.trans c.1, d2.len.trans c.2, ?_⟩
    exact callee F R2 (ds := app2 xs (mergeP pat ds ys)) (by rw [app2_eq]; exact (g2.drs d1).append (drs_merge pat (hd _ _) d2)) e3 fun v α3 H3 R3 g3 d3 => q v α3 H3 R3 ((g1.trans g2).trans g3) d3
  · have e : (if xs.length = n ∧ ys.length = m then (F (app2 xs (mergeP pat ds ys)) S2.st).map fun r => (r.1, { S2 with st := r.2 }) else none) = some (d, S') := e
    rw [if_neg c] at e
    cases e
end
section
variable {X : Cx} {k n : Nat} {f : Addr} {fd : FuncData} {ps ks : List Str} {F : DF} {x : Str} {e : Expr} {es : List Expr} {kws : List Keyword} {fA fk : DA} {pos p : Pos}
theorem je_callM (Fn : Bg.FnG X.prog X.w X.K X.mg X.base CX0 k f fd ps (spD X.K F)) (hr : Room k X.A) (gd : Bg.Gd X.A) (hg : Gl X x) (hm : X.mg x = some (.ref f)) (hk : PySem.W.keepIn X.K (.ref f) = true) {gw : List Value → List Value → List Value} {pat : List Bool} {dvs : List V} {ds : List D}
    (hb : KBn X.K fd ps n ks gw (fun vs zs => vs ++ mergeP pat dvs zs)) (hd : ∀ α H, DRs X.K α H dvs ds)
    (ha : JA X (e :: es) fA) (hkw : JK X kws fk) {m : Nat} (hall : (backToKw pos (keywordEach kws X.env)).all (·.1.isSome) = true := by rfl) (hks : (backToKw pos (keywordEach kws X.env)).filterMap (·.1) = ks := by rfl) (hlm : ks.length = m := by rfl)
    (hdb : (x == ("__debug__" : Str)) = false := by decide) (he : starEach (e :: es) X.env = (false, eval e X.env) :: starEach es X.env := by rfl)
    (hpl : ((backTo pos (starEach (e :: es) X.env)).any (·.1) || (backToKw pos (keywordEach kws X.env)).any (·.1.isNone)) = false := by rfl) :
    JE X (.Call (.Name x p) (e :: es) kws pos) (eCallM F n m pat ds fA fk) := JE.of (pe_callGN Fn hr gd hg hm hk hb pass0 ha.pe hkw.pe hall hks hdb he hpl) ((by rw [← hlm]; exact rf_callM hd ha.rf hkw.rf))
end
theorem x_callM {F : DF} {st st1 : List DO} {zs xs ys ds : List D} {n m : Nat} {pat : List Bool} {A B : DA} {S S1 S2 : Sx} {d : D} (ha : A S = some (xs, S1)) (hb : B S1 = some (ys, S2)) (h1 : xs.length = n) (h2 : ys.length = m) (hx : app2 xs (mergeP pat ds ys) = zs) (hs : S2.st = st1) (h : F zs st1 = some (d, st)) : eCallM F n m pat ds A B S = some (d, ⟨S2.env, st⟩) := by
  subst hx; subst hs
  unfold eCallM; rw [ha, Option.bind_some, hb, Option.bind_some, if_pos ⟨h1, h2⟩, h]; rfl
end Dl

set_option Elab.async false
set_option linter.all false
set_option maxRecDepth 100000
set_option maxHeartbeats 800000
/-! Data layer: evaluation of dicts; what asks leave lies within. Own work of the verifier. -/
namespace Dl
open PySem PySem.Spec PyProof.Rows L2
section
variable {S S1 S2 S3 S9 : Sx} {a b e kE vE : DE} {ps r : DP} {kvs zs : List (Key × D)} {d y : D} {n : Nat} {k : Key} {K : DS} {Q : Fl → Sx → Prop}
end
theorem Pool.more {st : List DO} {n : Nat} {o : DO} (h : Pool st n) : Pool (st ++ [o]) n := by
  obtain ⟨a, b, e⟩ := h
  exact ⟨a, b, by rw [List.getElem?_append_left (List.getElem?_eq_some_iff.mp e).1]; exact e⟩
end Dl
namespace Bg
open PySem PySem.Spec PyProof.Rows L2 Dl
section
variable {n x y : Nat} {a b k k' r : Kn} {q : Ak} {c : Bool}
end
end Bg

set_option Elab.async false
set_option linter.all false
set_option maxRecDepth 100000
set_option maxHeartbeats 800000
/-! Data layer: comprehensions by which the store grows; pairs of known numbers shown and asked. Own work of the verifier. -/
namespace Dl
open PySem PySem.Spec PyProof.Rows L2 Bg
end Dl

set_option Elab.async false
set_option linter.all false
set_option maxRecDepth 100000
set_option maxHeartbeats 4000000
namespace Dl
open PySem PySem.Spec PyProof.Rows L2
/-! ### two walked side by side -/
section
variable {K : PySem.W.Frag} {tA : TA} {fA : DA}
end
section
variable {X : Cx} {a b : Expr} {fA : DA} {p pos tpos : Pos} {elts : List Expr} {kk : Nat}
end
end Dl

set_option Elab.async false
set_option linter.all false
set_option maxRecDepth 100000
set_option maxHeartbeats 4000000
namespace Dl
open PySem PySem.Spec PyProof.Rows L2
/-! ### lists of the store: append -/
def lstO (S : Sx) (n : Nat) : Option (List D) := match S.obj n with
  | some (.lst ds) => some ds
  | _ => none
theorem lstO_ok {S : Sx} {n : Nat} {ds : List D} (h : lstO S n = some ds) : S.st[n]? = some (.lst ds) := by
  unfold lstO at h
  split at h
  · rename_i e; cases h; exact e
  · cases h
def asO : D → Option Nat
  | .obj n => some n
  | _ => none
theorem asO_ok {d : D} {n : Nat} (h : asO d = some n) : d = .obj n := by
  cases d <;> first | (cases h; done) | skip
  cases h; rfl
def sAppO (o e : DE) : DS := fun S => (o S).bind fun p => (asO p.1).bind fun n => (lstO p.2 n).bind fun _ => (e p.2).bind fun q => (lstO q.2 n).bind fun ds =>
  if ds.length < 16777216 then some (.nx, q.2.putO n (.lst (ds ++ [q.1]))) else none
/-! ### walked as they stand -/
abbrev DW := Nat → Sx → Option (Option D)
abbrev DIW := Sx → Option (DW × Sx)
def WalkO (K : PySem.W.Frag) (N : Addr → Prop) (H0 : Hp) (α0 α : List Addr) (J : It) (nx : DW) : Prop := ∀ (i : Nat) (α2 : List Addr) (σ2 : L2.St) (H2 : Hp) (S2 : Sx) (r : Option D), SR K N H0 α0 α2 σ2 H2 S2 → α <+: α2 → nx i S2 = some r →
  (r = none ∧ J.stop i H2) ∨ ∃ d, r = some d ∧ J.go i H2 ∧ ∀ x H3, J.yld i H2 x H3 → Same H2 H3 ∧ DR K α2 (lim H3 (Mx N α2 S2 σ2)) x d
def RefW (K : PySem.W.Frag) (wi : TI) (f : DIW) : Prop := ∀ (N : Addr → Prop) (H0 : Hp) (α0 α : List Addr) (σ : L2.St) (H : Hp) (S : Sx) (nx : DW) (S' : Sx) (Rr : It → Hp → Prop),
  SR K N H0 α0 α σ H S → f S = some (nx, S') →
  (∀ J α' H', SR K N H0 α0 α' σ H' S' → Gr α H S α' H' S' → WalkO K N H0 α0 α' J nx → Rr J H') → wi σ H Rr
section
variable {K : PySem.W.Frag} {N : Addr → Prop} {H0 H H' : Hp} {α0 α α' : List Addr} {σ : L2.St} {S S' : Sx} {ta te to : TE} {fa fe fo : DE} {tA : TA} {fA : DA} {tg : TG} {fg : DG} {t1 : TS} {f1 : DS}
theorem SR.lstAt {n : Nat} {a : Addr} {ds : List D} (R : SR K N H0 α0 α σ H S) (en : α[n]? = some a) (e : lstO S n = some ds) : ∃ vs, H a = some (.lst vs) ∧ DRs K α (lim H (Mx N α S σ)) vs ds := by
  obtain ⟨b, eb, vs, hv, hd⟩ := R.sto.at_ n _ (lstO_ok e)
  rw [en] at eb; cases eb
  exact ⟨vs, hv, hd⟩
theorem pre_at {n : Nat} {a : Addr} (p : α <+: α') (e : α[n]? = some a) : α'[n]? = some a := by
  obtain ⟨l, rfl⟩ := p
  rw [List.getElem?_append_left (List.getElem?_eq_some_iff.mp e).1]
  exact e
theorem rf_appO (ho : RefE K to fo) (he : RefE K te fe) : RefS K (tDrop (tBM K "list" rAppend to (tCons te tNil))) (sAppO fo fe) := by
  intro N H0 α0 α σ H S fl S' E R e q
  obtain ⟨⟨o, S1⟩, e1, ea⟩ := opt_bind e
  obtain ⟨n, e2, eb⟩ := opt_bind ea
  obtain ⟨ds0, e3, ec⟩ := opt_bind eb
  obtain ⟨⟨x, S2⟩, e4, ed⟩ := opt_bind ec
  obtain ⟨ds, e5, e6⟩ := opt_bind ed
  clear ea eb ec ed e
  have e2 := asO_ok e2
  simp only at e2
  subst e2
  have e := e6
  split at e
  · rename_i c
    cases e
    refine ho N H0 α0 α σ H S _ S1 _ R e1 fun v α1 H1 R1 g1 d1 => ?_
    cases d1 with
    | obj en =>
      obtain ⟨vs, hv, hd⟩ := R1.lstAt en e3
      refine ⟨.inl ⟨rfl, vs, .inl (.inl hv)⟩, ?_⟩
      refine he N H0 α0 α1 σ H1 S1 x S2 _ R1 e4 fun v α2 H2 R2 g2 d2 => ?_
      obtain ⟨vs', hv', hd'⟩ := R2.lstAt (pre_at g2.pre en) e5
      refine ⟨_, vs', v, rfl, rfl, hv', by rw [hd'.len]; exact c, ?_⟩
      obtain ⟨R3, s3⟩ := R2.chgO (lstO_ok e5) (pre_at g2.pre en) (hd'.append (.cons d2 .nil))
      exact q σ α2 _ R3 (g1.pre.trans g2.pre) ((g1.same.trans g2.same).trans s3)
  · cases e
end
def twOf (K : PySem.W.Frag) (f : DIW) : TI := fun σ H Rr => ∃ (N : Addr → Prop) (H0 : Hp) (α0 α : List Addr) (S : Sx) (nx : DW) (S' : Sx), SR K N H0 α0 α σ H S ∧ f S = some (nx, S') ∧
  ∀ J α' H', SR K N H0 α0 α' σ H' S' → Gr α H S α' H' S' → WalkO K N H0 α0 α' J nx → Rr J H'
def JIW (X : Cx) (tgt iter : Expr) (f : DIW) : Prop := PI X tgt iter (twOf X.K f)
section
variable {X : Cx} {a b e o tgt iter : Expr} {fa fe fo : DE} {fA : DA} {fg : DG} {f1 : DS} {ws : List Nat} {body : List Stmt} {p pos tpos apos cpos p1 : Pos} {elts : List Expr} {kk : Nat}
theorem JIW.of {wi : TI} {f : DIW} (h : PI X tgt iter wi) (r : RefW X.K wi f) : JIW X tgt iter f := ⟨fun pins s σ H Q I ⟨N, H0, α0, α, S, d, S', R, e, q⟩ => h.run pins s σ H Q I (r N H0 α0 α σ H S d S' Q R e q)⟩
theorem JIW.pe {f : DIW} (h : JIW X tgt iter f) : PI X tgt iter (twOf X.K f) := h
theorem JIW.rf {f : DIW} (h : JIW X tgt iter f) : RefW X.K (twOf X.K f) f := fun N H0 α0 α σ H S d S' Q R e q => ⟨N, H0, α0, α, S, d, S', R, e, q⟩
theorem js_appO (ho : JE X o fo) (he : JE X e fe) (h : PE X (.Call (.Attribute o "append" apos) [e] [] cpos) (tBM X.K "list" rAppend (teOf X.K fo) (tCons (teOf X.K fe) tNil))) (hs : swapsWith (.Call (.Attribute o "append" apos) [e] [] cpos) none pos.line X.env = pure false := by rfl) :
    JS X (.Expr (.Call (.Attribute o "append" apos) [e] [] cpos) pos) (sAppO fo fe) := JS.of (ps_expr h hs) (rf_appO ho.rf he.rf)
end
end Dl

set_option Elab.async false
set_option linter.all false
set_option maxRecDepth 100000
set_option maxHeartbeats 4000000
namespace Dl
open PySem PySem.Spec PyProof.Rows L2
/-! ### evaluation: lists of the store -/
section
variable {S S1 S2 S3 S9 : Sx} {Q : Fl → Sx → Prop} {k : DS} {o e : DE} {d : D} {n : Nat} {ds ys : List D}
theorem Pool.set {st : List DO} {p w : Nat} {x : DO} (h : Pool st p) (hn : w ≠ p) : Pool (st.set w x) p := by
  obtain ⟨a, b, e⟩ := h
  exact ⟨a, b, by rw [List.getElem?_set_ne hn]; exact e⟩
end
end Dl

set_option Elab.async false
set_option linter.all false
set_option maxRecDepth 100000
set_option maxHeartbeats 4000000
namespace Dl
open PySem PySem.Spec PyProof.Rows L2
/-! ### {} as data -/
section
variable {K : PySem.W.Frag}
end
/-! ### list(range(..)) -/
section
variable {K : PySem.W.Frag} {ta tb : TE} {fa fb : DE}
end
section
variable {X : Cx} {a b : Expr} {fa fb : DE} {p p2 pos pos2 : Pos}
end
end Dl

set_option Elab.async false
set_option linter.all false
set_option maxRecDepth 100000
set_option maxHeartbeats 4000000
namespace Dl
open PySem PySem.Spec PyProof.Rows L2
/-! ### chains of comparisons, of any length -/
abbrev ChL := List ((D → D → Option D) × DE)
inductive JCh (X : Cx) : List CmpOp → List Expr → ChL → Prop
  | one {op : CmpOp} {r : R2} {g : D → D → Option D} {e : Expr} {f : DE} : OpJ X (compareOp op) r g → JE X e f → JCh X [op] [e] [(g, f)]
  | cons {op op' : CmpOp} {r : R2} {g : D → D → Option D} {e e' : Expr} {f : DE} {ops : List CmpOp} {es : List Expr} {x : (D → D → Option D) × DE} {l : ChL} : OpJ X (compareOp op) r g → JE X e f → JCh X (op' :: ops) (e' :: es) (x :: l) → JCh X (op :: op' :: ops) (e :: e' :: es) ((g, f) :: x :: l)
section
variable {X : Cx} {pos : Pos}
end
/-! evaluation, part by part -/
end Dl

set_option Elab.async false
set_option linter.all false
set_option maxRecDepth 100000
set_option maxHeartbeats 4000000
namespace Dl
open PySem PySem.Spec PyProof.Rows L2
end Dl

set_option Elab.async false
set_option linter.all false
set_option maxRecDepth 100000
set_option maxHeartbeats 400000
namespace Bg
open PySem PySem.Spec PyProof.Rows L2
/-! ### the seven words of sure bits -/
/-- by what a word is done: sure bits, or places -/
inductive By (K : PySem.W.Frag) (H : Hp) (n v2 u2 j : Nat) (o : Op) : V → Prop
  | five {t : Addr} (ho : is5 o = true) (h : SqT K H t [.int v2, .int u2]) (s : Sb n v2 u2) : By K H n v2 u2 j o (.ref t)
  | mv (ho : isMv o = true) : By K H n v2 u2 j o (.int j)
theorem By.same {K : PySem.W.Frag} {H H' : Hp} {n v2 u2 j : Nat} {o : Op} {x : V} (s : Same H H') (b : By K H n v2 u2 j o x) : By K H' n v2 u2 j o x := by
  cases b with
  | five ho h sb => exact .five ho (sqT_same s h) sb
  | mv ho => exact .mv ho
theorem mv_not {o : Op} (h : isMv o = true) : is5 o = false := by cases o <;> first | rfl | cases h
def Res (o : Op) (n v1 u1 v2 u2 j dv du : Nat) : Prop := (is5 o = true ∧ Due o n v1 u1 v2 u2 dv du) ∨ (isMv o = true ∧ dv = opV o n v1 j ∧ du = opV o n u1 j)
theorem Res.uniq {o : Op} {n v1 u1 v2 u2 j dv du dv' du' : Nat} (h : Res o n v1 u1 v2 u2 j dv du) (h' : Res o n v1 u1 v2 u2 j dv' du') : dv = dv' ∧ du = du' := by
  rcases h with ⟨a, b⟩ | ⟨a, b⟩ <;> rcases h' with ⟨a', b'⟩ | ⟨a', b'⟩
  · exact b.uniq b'
  · rw [mv_not a'] at a; cases a
  · rw [mv_not a] at a'; cases a'
  · exact ⟨b.1.trans b'.1.symm, b.2.trans b'.2.symm⟩
theorem Res.lt {o : Op} {n v1 u1 v2 u2 j dv du : Nat} (h : Res o n v1 u1 v2 u2 j dv du) (h1 : Sb n v1 u1) : du < 2 ^ n := by
  rcases h with ⟨_, b⟩ | ⟨a, _, rfl⟩
  · exact b.sb.u1
  · exact opV_lt h1.u1 (.inr a)
/-! ### tuples of two worths in the heap -/
inductive Pn (H : Hp) : List Addr → List (Nat × Nat) → Prop
  | nil : Pn H [] []
  | cons {a : Addr} {q : Nat × Nat} {as : List Addr} {qs : List (Nat × Nat)} (h : H a = some (.tup [.int q.1, .int q.2])) (t : Pn H as qs) : Pn H (a :: as) (q :: qs)
theorem Pn.len {H : Hp} : ∀ {as : List Addr} {qs : List (Nat × Nat)}, Pn H as qs → as.length = qs.length
  | _, _, .nil => rfl
  | _, _, .cons _ t => congrArg Nat.succ t.len
theorem Pn.same {H H' : Hp} (s : Same H H') : ∀ {as : List Addr} {qs : List (Nat × Nat)}, Pn H as qs → Pn H' as qs
  | _, _, .nil => .nil
  | _, _, .cons h t => .cons (s _ _ h) (t.same s)
theorem Pn.at {H : Hp} : ∀ {as : List Addr} {qs : List (Nat × Nat)} {i : Nat} {a : Addr}, Pn H as qs → as[i]? = some a → ∃ q, qs[i]? = some q ∧ H a = some (.tup [.int q.1, .int q.2])
  | _, _, _, _, .nil, e => by cases e
  | _, _, 0, _, .cons h t, e => by cases e; exact ⟨_, rfl, h⟩
  | _, _, i + 1, _, .cons h t, e => t.at (i := i) e
/-- what the dict of found ones says behind some pairs -/
def Fd (H : Hp) (kvs : List (Key × V)) (f : Nat × Nat → Bool) (L : List (Nat × Nat)) : Prop := ∀ b : Bool, match L.find? (fun p => f p == b) with
  | none => valV kvs (.inl (b2 b)) = none
  | some p => ∃ q, valV kvs (.inl (b2 b)) = some (.ref q) ∧ H q = some (.tup [.int p.1, .int p.2])
theorem key_ne {a b : Bool} (h : a ≠ b) : (Sum.inl (b2 a) : Key) ≠ Sum.inl (b2 b) := fun z => h (b2_inj (Sum.inl.inj z))
theorem Fd.same {H H' : Hp} {kvs : List (Key × V)} {f : Nat × Nat → Bool} {L : List (Nat × Nat)} (s : ∀ a u, H a = some (.tup u) → H' a = some (.tup u)) (h : Fd H kvs f L) : Fd H' kvs f L := by
  intro b
  have z := h b
  cases e : L.find? (fun p => f p == b) with
  | none => rw [e] at z; exact z
  | some p =>
    rw [e] at z
    obtain ⟨q, h1, h2⟩ := z
    exact ⟨q, h1, s _ _ h2⟩
theorem find_snoc {f : Nat × Nat → Bool} {L : List (Nat × Nat)} {p : Nat × Nat} (b : Bool) : (L ++ [p]).find? (fun p => f p == b) = ((L.find? fun p => f p == b).or (if f p = b then some p else none)) := by
  rw [List.find?_append]
  congr 1
  by_cases e : f p = b
  · rw [if_pos e, List.find?_cons_of_pos (by rw [e]; exact beq_self_eq_true b)]
  · rw [if_neg e, List.find?_cons_of_neg (by simpa using e)]
    rfl
/-- a pair that is met anew is not put -/
theorem Fd.met {H : Hp} {kvs : List (Key × V)} {f : Nat × Nat → Bool} {L : List (Nat × Nat)} {p : Nat × Nat} {v : V} (h : Fd H kvs f L) (hv : valV kvs (.inl (b2 (f p))) = some v) : Fd H kvs f (L ++ [p]) := by
  intro b
  rw [find_snoc]
  have z := h b
  by_cases e : f p = b
  · subst e
    cases e2 : L.find? (fun q => f q == f p) with
    | none => rw [e2] at z; rw [show valV kvs (.inl (b2 (f p))) = none from z] at hv; cases hv
    | some q => rw [e2] at z; exact z
  · rw [if_neg e, Option.or_none]
    exact z
/-- the first one of its bit is put -/
theorem Fd.put {H H' : Hp} {kvs : List (Key × V)} {f : Nat × Nat → Bool} {L : List (Nat × Nat)} {p : Nat × Nat} {a : Addr} (h : Fd H kvs f L) (hv : valV kvs (.inl (b2 (f p))) = none) (ha : H' a = some (.tup [.int p.1, .int p.2])) (s : ∀ a u, H a = some (.tup u) → H' a = some (.tup u)) :
    Fd H' (putK kvs (.inl (b2 (f p))) (.ref a)) f (L ++ [p]) := by
  intro b
  rw [find_snoc]
  have z := h b
  by_cases e : f p = b
  · subst e
    cases e2 : L.find? (fun q => f q == f p) with
    | some q =>
      rw [e2] at z
      obtain ⟨w, h1, _⟩ := z
      rw [h1] at hv
      cases hv
    | none =>
      rw [if_pos rfl, Option.none_or]
      exact ⟨a, by rw [valV_put, if_pos rfl], ha⟩
  · rw [if_neg e, Option.or_none]
    have ne : (Sum.inl (b2 b) : Key) ≠ Sum.inl (b2 (f p)) := key_ne (fun z => e z.symm)
    cases e2 : L.find? (fun q => f q == b) with
    | none =>
      rw [e2] at z
      show valV (putK kvs _ _) _ = none
      rw [valV_put, if_neg ne]
      exact z
    | some q =>
      rw [e2] at z
      obtain ⟨w, h1, h2⟩ := z
      exact ⟨w, by rw [valV_put, if_neg ne]; exact h1, s _ _ h2⟩
end Bg
namespace Bg
open PySem PySem.Spec PyProof.Rows L2
/-! ### a call with keywords of a def that may let out -/
section
variable {X : Cx} {CX : CXT} {k n : Nat} {f : Addr} {fd : FuncData} {ps ks : List Str} {sp : Sp} {g : List Value → List Value → List Value} {gV : List V → List V → List V} {E : L2.St → XK} {x : Str} {p pos : Pos} {e : Expr} {es : List Expr} {kws : List Keyword} {t tk : TA}
end
end Bg
namespace Bg
open PySem PySem.Spec PyProof.Rows L2
end Bg
namespace Bg
open PySem PySem.Spec PyProof.Rows L2
end Bg

set_option Elab.async false
set_option linter.all false
set_option maxRecDepth 100000
set_option maxHeartbeats 4000000
namespace Dl
open PySem PySem.Spec PyProof.Rows L2
/-! ### ways on which an exception goes out -/
structure Exn where
  c : Str
  fs : List (Str × D)
abbrev DX := Sx → Option (Exn × Sx)
abbrev DFX := List D → List DO → Option (Exn × List DO)
def xeOf (K : PySem.W.Frag) (W : WX) (g : DX) : TE := fun σ H _ => ∃ (N : Addr → Prop) (H0 : Hp) (α0 α : List Addr) (S : Sx) (ex : Exn) (S' : Sx), SR K N H0 α0 α σ H S ∧ g S = some (ex, S') ∧
  ∀ α' H' d, SR K N H0 α0 α' σ H' S' → Gr α H S α' H' S' → ExR K α' (lim H' (Mx N α' S' σ)) ex.fs d → W (.ref (rho K ex.c)) d σ H'
def xsOf (K : PySem.W.Frag) (W : WX) (g : DX) : TS := fun _ σ H => ∃ (N : Addr → Prop) (H0 : Hp) (α0 α : List Addr) (S : Sx) (ex : Exn) (S' : Sx), SR K N H0 α0 α σ H S ∧ g S = some (ex, S') ∧
  ∀ σ' α' H' d, SR K N H0 α0 α' σ' H' S' → α <+: α' → Same (lim H (Mx N α S σ)) (lim H' (Mx N α' S' σ')) → ExR K α' (lim H' (Mx N α' S' σ')) ex.fs d → W (.ref (rho K ex.c)) d σ' H'
def JXe (X : Cx) (W : WX) (e : Expr) (g : DX) : Prop := PE X e (xeOf X.K W g)
def JXs (X : Cx) (W : WX) (st : Stmt) (g : DX) : Prop := PS X st (xsOf X.K W g)
def JXss (X : Cx) (W : WX) (sts : List Stmt) (g : DX) : Prop := PSs X sts (xsOf X.K W g)
def xThen (f : DS) (g : DX) : DX := fun S => (f S).bind fun p => match p.1 with
  | .nx => g p.2
  | _ => none
def xCall (R : DFX) (dds : List D) (a : DA) : DX := fun S => (a S).bind fun p => (R (app2 p.1 dds) p.2.st).map fun r => (r.1, { p.2 with st := r.2 })
def fnX (np ns : Nat) (b : DX) : DFX := fun ds st => if ds.length = np then (b (start0 ds ns st)).map fun p => (p.1, p.2.st) else none
def spX (K : PySem.W.Frag) (F : DFX) : Sp := fun vs H _ E => ∃ (N : Addr → Prop) (α : List Addr) (ds : List D) (st : List DO) (ex : Exn) (st' : List DO), α.Nodup ∧ (∀ a, N a → H a ≠ none) ∧ (∀ a, a ∈ α → ¬ N a) ∧
  DRs K α (lim H (NA N α)) vs ds ∧ StR K α H (lim H (NA N α)) st ∧ F ds st = some (ex, st') ∧
  ∀ α' H' d, α <+: α' → α'.Nodup → (∀ a, a ∈ α' → a ∉ α → H a = none) → (∀ a, a ∈ α' → ¬ N a) → StR K α' H' (lim H' (NA N α')) st' → (∀ a o, a ∉ α → H a = some o → H' a = some o) → (∀ a o u, H a = some (.frz o u) → H' a = some (.frz o u)) → ExR K α' (lim H' (NA N α')) ex.fs d → E (.ref (rho K ex.c)) d H'
section
variable {X : Cx} {W : WX} {e : Expr} {es : List Expr} {st : Stmt} {rest body orelse : List Stmt} {g g1 g2 : DX} {f : DS} {ft : DT} {c : Expr} {pos p : Pos} {fA fk : DA}
theorem xs_xe {σ : L2.St} {H : Hp} {D0 : Ends} {Q : VK} {K : PySem.W.Frag} (h : xsOf K W g D0 σ H) : xeOf K W g σ H Q := by
  obtain ⟨N, H0, α0, α, S, ex, S', R, e, q⟩ := h
  exact ⟨N, H0, α0, α, S, ex, S', R, e, fun α' H' d R' gr x => q σ α' H' d R' gr.pre gr.same x⟩
theorem jxss_head (h : JXs X W st g) : JXss X W (st :: rest) g :=
  ⟨fun pins s σ H D0 I q => (pss_cons (u := fun _ _ _ => False) h ⟨fun _ _ _ _ _ _ z => False.elim z⟩).run pins s σ H D0 I q⟩
theorem jxss_tail (h : JS X st f) (hr : JXss X W rest g) : JXss X W (st :: rest) (xThen f g) := by
  refine ⟨fun pins s σ H D0 I q => (pss_cons h.pe hr).run pins s σ H D0 I ?_⟩
  obtain ⟨N, H0, α0, α, S, ex, S', R, e, q⟩ := q
  obtain ⟨⟨fl, S1⟩, e1, e⟩ := opt_bind e
  refine h.rf N H0 α0 α σ H S fl S1 _ R e1 fun σ1 α1 H1 R1 pre1 sm1 => ?_
  cases fl <;> first | (cases e; done) | skip
  exact ⟨N, H0, α0, α1, S1, ex, S', R1, e, fun σ' α' H' d R' pre sm x => q σ' α' H' d R' (pre1.trans pre) (sm1.trans sm) x⟩
/-! ### calls that let one out -/
variable {K : PySem.W.Frag} {N : Addr → Prop} {H0 H H' : Hp} {α0 α α' : List Addr} {σ : L2.St} {S S' : Sx}
theorem calleeX (F : DFX) {vs : List V} {ds : List D} {ex : Exn} {st' : List DO} {Q : VK} {E : XK} (R : SR K N H0 α0 α σ H S) (dr : DRs K α (lim H (Mx N α S σ)) vs ds) (e : F ds S.st = some (ex, st'))
    (q : ∀ α' H' d, SR K N H0 α0 α' σ H' { S with st := st' } → Gr α H S α' H' { S with st := st' } → ExR K α' (lim H' (Mx N α' { S with st := st' } σ)) ex.fs d → E (.ref (rho K ex.c)) d H') : spX K F vs H Q E := by
  have em : ∀ (β : List Addr) (T : List DO), NA (fun a => N a ∨ Owned S σ a) β = Mx N β { S with st := T } σ := fun β T => funext fun a => propext
    ⟨fun m => m.elim (fun z => z.imp id .inr) fun z => .inr (.inl z), fun m => m.elim (fun z => .inl (.inl z)) fun z => z.elim .inr fun y => .inl (.inr y)⟩
  have em0 : NA (fun a => N a ∨ Owned S σ a) α = Mx N α S σ := em α S.st
  refine ⟨fun a => N a ∨ Owned S σ a, α, ds, S.st, ex, st', R.nd, fun a h => R.mlive a (h.imp id .inr), fun a h n => n.elim (R.na a h) fun z => (R.on a z).2 h, by rw [em0]; exact dr, by rw [em0]; exact R.sto, e, ?_⟩
  intro α' H' d pre nd fr na sr keep frz dv
  rw [em α' st'] at sr dv
  have g : Gr α H S α' H' { S with st := st' } := ⟨pre, fr, keep, fun _ _ e => e, frz⟩
  refine q α' H' d ⟨R.pre.trans pre, R.len, nd, fun a n => ?_, fun a h n => na a h (.inl n), fun a h => ⟨(R.on a h).1, fun z => na a z (.inr h)⟩, R.uniq, fun i x ex => ?_, sr, fun a o n h => ?_, R.fresh, fun a h n => ?_, fun a o u h => frz a o u (R.frz a o u h)⟩ g dv
  · cases z : H a with
    | none => exact absurd z (R.live a n)
    | some o => rw [keep a o (fun y => R.na a y n) z]; exact fun y => (nomatch y)
  · refine (R.slot i x ex).mono (fun a u hu hx h => ?_) g.same pre
    obtain ⟨es, rfl⟩ := hx
    exact keep a u (R.on a ⟨i, es, ex, hu⟩).2 h
  · have h1 := R.keep a o n h
    refine keep a o (fun z => ?_) h1
    rw [R.fral a z n] at h; cases h
  · by_cases c : a ∈ α
    · exact R.fral a c n
    · exact R.base_none (fr a h c)
variable {k n : Nat} {fa : Addr} {fd : FuncData} {ps ks : List Str} {sp : Sp} {dvs : List V} {dds : List D} {dss : List Value} {E : XK} {x : Str} {kws : List Keyword} {t tk : TA} {gw : List Value → List Value → List Value} {gV : List V → List V → List V} {R : DFX}
theorem run_fnGX {pins : List (Addr × Obj)} {s : Shared} {Q : VK} {us : List Value} {vs : List V} {CX : CXT} (F : Bg.FnG X.prog X.w X.K X.mg X.base CX k fa fd ps sp) (hr : Room k X.A) (gd : Bg.Gd X.A) (hb : Binds X.K fd ps dss) (hd : Vals dvs dss) (hx : PassesAt CX X σ E)
    (I : Inv X pins σ H s) (r : Vals vs us) (h : sp (vs ++ dvs) H Q E) : wpAny (model X.prog X.w) X.A (call (.ref fa) us) (EP X pins σ Q) X.xe s := by
  have r2 : Vals (vs ++ dvs) (us ++ dss) := r.append hd
  have hl : (us ++ dss).length = ps.length := by rw [← r2.length]; exact F.len _ _ _ _ h
  refine wpAny_call (codeAny_mono (F.run X.A X.stack s H ⟨us, []⟩ (us ++ dss) (vs ++ dvs) Q E hr gd I.env0 (hb s us I.kIn hl) r2 h) fun r s' hq => ?_)
  cases r with
  | error e => exact hx pins H s e s' I hq
  | ok fl =>
    cases fl with
    | ret u => exact I.after hq
    | next => exact False.elim hq
    | brk => exact False.elim hq
    | cont => exact False.elim hq
theorem jxe_call (Fn : Bg.FnG X.prog X.w X.K X.mg X.base (L2.CX X.prog X.w) k fa fd ps (spX X.K R)) (tw : Takes X W) (hr : Room k X.A) (gd : Bg.Gd X.A) (hg : Gl X x) (hm : X.mg x = some (.ref fa)) (hk : PySem.W.keepIn X.K (.ref fa) = true) (hb : Binds X.K fd ps dss) (hd : Vals dvs dss) (hdd : ∀ α H, DRs X.K α H dvs dds)
    (ha : JA X (e :: es) fA) (hdb : (x == ("__debug__" : Str)) = false := by decide) (he : starEach (e :: es) X.env = (false, eval e X.env) :: starEach es X.env := by rfl) (hpl : (backTo pos (starEach es X.env)).any (·.1) = false := by rfl) :
    JXe X W (.Call (.Name x p) (e :: es) [] pos) (xCall R dds fA) := by
  refine ⟨fun pins s σ H Q I h => ?_⟩
  obtain ⟨N, H0, α0, α, S, ex, S', RR, e0, q⟩ := h
  obtain ⟨⟨xs, S1⟩, e1, e0⟩ := opt_bind e0
  obtain ⟨⟨r, st'⟩, e2, e0⟩ := opt_map e0
  cases e0
  refine wpAny_Call_Name_kw (ld_glob I hg hm ?_ hdb)
  refine PySem.W.callWith_K (h₀ := X.base) I.ok.mod.kin hk (thn (ha.pe.run pos pins s σ H (fun vs H1 => ∃ α1, SR X.K N H0 α0 α1 σ H1 S1 ∧ Gr α H S α1 H1 S1 ∧ DRs X.K α1 (lim H1 (Mx N α1 S1 σ)) vs xs) I ⟨N, H0, α0, α, S, xs, S1, RR, e1, fun vs α1 H1 R1 g1 d1 => ⟨α1, R1, g1, d1⟩⟩) fun us s1 ⟨vs, H1, I1, r, α1, R1, g1, d1⟩ => ⟨I1.kIn, ?_⟩) he hpl
  refine run_fnGX (E := WE W σ) Fn hr gd hb hd (passAt tw σ) I1 r ?_
  exact calleeX R R1 (ds := app2 xs dds) (by rw [app2_eq]; exact d1.append (hdd _ _)) e2 fun α2 H2 d R2 g2 x => q α2 H2 d R2 (g1.trans g2) x
end
/-! ### a def that lets one out -/
section
variable {P : Program} {w : World} {K : PySem.W.Frag} {mg : Str → Option Value} {base : Heap}
theorem fn_raise {k : Nat} {x qual : Str} {st : Stmt} {f : Addr} {fd : FuncData} {Nm ps : List Str} {b : DX} (F : Fun K x qual st f fd) (Sc : FnScope Nm ps (defScope st))
    (hb : ∀ (cdv : Value) (A : Around) (outer : List Env) (s : Shared) (H : Hp) (E : XK), Room k (A.deeper (envOfC qual (defScope st) s.heap.objs.size f cdv)) → Bg.Gd (A.deeper (envOfC qual (defScope st) s.heap.objs.size f cdv)) →
      JXss (cxOf (L2.CX P w) P w K mg base Nm qual (defScope st) f cdv A outer s H E) (fun cls d _ H' => E cls d H') (defBody st) b) :
    Bg.FnG P w K mg base (L2.CX P w) (k + 1) f fd ps (spX K (fnX ps.length Nm.length b)) := by
  have hpl : ps.length ≤ Nm.length := by have := congrArg List.length Sc.pre; rw [List.length_take] at this; omega
  have hlen : ∀ vs H Q E, spX K (fnX ps.length Nm.length b) vs H Q E → vs.length = ps.length := by
    rintro vs H Q E ⟨N, α, ds, st0, ex, st', nd, lv, na, dr, sr, e, q⟩
    unfold fnX at e
    split at e
    · rename_i h; rw [dr.len, h]
    · cases e
  refine Bg.fnG F Sc hlen fun cdv A outer s H vs Q E hr gd h => ?_
  have hvl := hlen _ _ _ _ h
  obtain ⟨N, α, ds, st0, ex, st', nd, lv, na, dr, sr, e, q⟩ := h
  have J := hb cdv A outer s H E hr (gd.deep _)
  refine ⟨_, J, ?_⟩
  unfold fnX at e
  split at e
  case isFalse => cases e
  obtain ⟨⟨ex1, S'⟩, e1, e⟩ := opt_map e
  cases e
  have R := sr_start (Nm := Nm) (vs := vs) (by rw [hvl]; exact hpl) nd lv na dr sr
  refine ⟨N, H, α, α, start0 ds Nm.length st0, _, S', R, e1, fun σ' α' H' d R' pre sm x => ?_⟩
  have wk : ∀ a, NA N α' a → Mx N α' S' σ' a := fun a m => m.imp id .inl
  exact q α' H' d pre R'.nd (fun a h n => R'.fral a h n) R'.na (R'.sto.weaker wk) (fun a o n h => R'.keep a o n h) (fun a o u h => R'.frz a o u h) (x.mono (lim_weaker wk) (List.prefix_refl _))
end
end Dl

set_option Elab.async false
set_option linter.all false
set_option maxRecDepth 100000
set_option maxHeartbeats 4000000
namespace Dl
open PySem PySem.Spec PyProof.Rows L2
/-! ### try: body, except C as e: suite; the caught exception becomes a thing of the store -/
section
variable {X : Cx} {pins : List (Addr × Obj)} {σ : L2.St} {H : Hp} {s : Shared}
end
section
variable {X : Cx} {x n : Str} {c : Value} {i : Nat} {body suite : List Stmt} {b0 : Stmt} {np pos pos' : Pos} {tb : WX → TS} {ts : Addr → TS}
end

theorem SR.unset {K : PySem.W.Frag} {N : Addr → Prop} {H0 H : Hp} {α0 α : List Addr} {σ : L2.St} {S : Sx} {i : Nat} (R : SR K N H0 α0 α σ H S) :
    SR K N H0 α0 α (σ.set i none) H (S.put i .un) ∧ Same (lim H (Mx N α S σ)) (lim H (Mx N α (S.put i .un) (σ.set i none))) := by
  obtain ⟨R1, s1⟩ := R.forget (i := i)
  obtain ⟨R2, m2⟩ := R1.slots (σ' := σ.set i none) List.length_set fun j x e n => by
    by_cases c : i = j
    · subst c
      exfalso
      have e : (S.env.set i .un)[i]? = some x := e
      rw [List.getElem?_set_self' ] at e
      cases z : S.env[i]? with
      | none => rw [z] at e; cases e
      | some y => rw [z] at e; cases e; exact n rfl
    · rw [List.getElem?_set_ne c]
  exact ⟨R2, s1.trans (lim_keep (fun _ _ _ e => e) fun a m _ => (m2 a).mp m)⟩
theorem pss_or2 {X : Cx} {sts : List Stmt} {t u : TS} (h : PSs X sts t) (h2 : PSs X sts u) : PSs X sts (fun D σ H => t D σ H ∨ u D σ H) := ⟨fun pins s σ H D I q => q.elim (h.run pins s σ H D I) (h2.run pins s σ H D I)⟩
/-! ### isinstance(e, C) of a caught exception -/
end Dl

set_option Elab.async false
set_option linter.all false
set_option maxRecDepth 100000
set_option maxHeartbeats 4000000
namespace Dl
open PySem PySem.Spec PyProof.Rows L2
section
variable {X : Cx} {W : WX} {k n : Nat} {fa : Addr} {fd : FuncData} {ps ks : List Str} {x : Str} {e : Expr} {es : List Expr} {kws : List Keyword} {fA fk : DA} {pos p : Pos} {R : DFX}
end
theorem cats2 {k : Str} {l : List Str} {c : Str} (h : (k :: l).contains c = true) : c = k ∨ l.contains c = true := by
  rw [List.contains_cons, Bool.or_eq_true] at h
  exact h.imp (fun e => by simpa using e) id
/-! evaluation of raising ways -/
section
variable {S S1 S2 S3 : Sx} {f : DS} {g g2 : DX} {t : DT} {r : Exn × Sx} {A B : DA} {xs ys ds zs : List D} {p : Bool} {ex : Exn}
end
end Dl

set_option Elab.async false
set_option linter.all false
set_option maxRecDepth 100000
set_option maxHeartbeats 4000000
namespace Dl
open PySem PySem.Spec PyProof.Rows L2
/-! ### list(zip(a, b)) of two tuples -/
section
variable {P : Program} {w : World} {A : Around} {E : Value → Shared → Prop} {s : Shared}
end
end Dl

set_option Elab.async false
set_option linter.all false
set_option maxRecDepth 100000
set_option maxHeartbeats 4000000
namespace Dl
open PySem PySem.Spec PyProof.Rows L2
/-! ### list(zip(a, b)): the loop, with what is tracked -/
/-- a zip of the tuples at a and b before its turn i: nothing handed out, or a pair that is kept -/
def ZS (h : Heap) (H : Hp) (z TI TO i1 i2 a b : Addr) (i : Nat) : Prop :=
  (IsZip h z TI TO .none ∨ ∃ (T : Addr) (f : Bool) (x y : V), IsZipHeld h z TI TO T f ∧ H T = some (.tup [x, y])) ∧ IsPair h TI (.ref i1) (.ref i2) ∧ (∃ x y, IsPair h TO x y) ∧ h.IsTupleIter i1 a i ∧ h.IsTupleIter i2 b i
section
variable {X : Cx} {pins : List (Addr × Obj)} {σ : L2.St} {z TI TO i1 i2 a b S : Addr} {xs ys : List V} {A : Around} {res : Value} {R : Result → Shared → Prop}
end
end Dl

set_option Elab.async false
set_option linter.all false
set_option maxRecDepth 100000
set_option maxHeartbeats 4000000
namespace Dl
open PySem PySem.Spec PyProof.Rows L2
/-! ### list(zip(a, b)) as a call -/
theorem ZS.keep {h h' : Heap} {H H' : Hp} {z TI TO i1 i2 a b : Addr} {i : Nat} (st : ZS h H z TI TO i1 i2 a b i) (k : ∀ c ∈ [z, TI, TO, i1, i2], ∀ o, h.get? c = some o → h'.get? c = some o) (t : ∀ T xs, H T = some (.tup xs) → H' T = some (.tup xs)) : ZS h' H' z TI TO i1 i2 a b i := by
  obtain ⟨zz, qI, ⟨x0, y0, qO⟩, q1, q2⟩ := st
  refine ⟨?_, k _ (by simp) _ qI, ⟨x0, y0, k _ (by simp) _ qO⟩, q1.at fun o e => k _ (by simp) o e, q2.at fun o e => k _ (by simp) o e⟩
  rcases zz with h | ⟨T, f, x1, y1, h, hT⟩
  · exact .inl (k _ (by simp) _ h)
  · exact .inr ⟨T, f, x1, y1, k _ (by simp) _ h, t _ _ hT⟩
section
variable {X : Cx} {pins : List (Addr × Obj)} {σ : L2.St} {z TI TO i1 i2 a b S : Addr} {xs ys : List V} {A : Around} {R : Result → Shared → Prop} {s : Shared} {H : Hp}
end
end Dl

set_option Elab.async false
set_option linter.all false
set_option maxRecDepth 100000
set_option maxHeartbeats 4000000
namespace Dl
open PySem PySem.Spec PyProof.Rows L2
section
variable {X : Cx} {pins : List (Addr × Obj)} {σ : L2.St} {z TI TO i1 i2 a b : Addr} {xs ys : List V} {s : Shared} {H : Hp}
end
/-! ### the same on data -/
end Dl

set_option Elab.async false
set_option linter.all false
set_option maxRecDepth 100000
set_option maxHeartbeats 4000000
/-! Generator expressions whose tests call defs: all and any over a generator that runs in its own frame. Own work of the verifier. -/
namespace Gx
open PySem PySem.Spec PyProof.Rows L2 GenW
section
variable {P : Program} {w : World} {A : Around} {R : Result → Shared → Prop} {a : Addr} {g : Nat} {F T : Shared → Prop} {Er : Value → Shared → Prop}
/-- the heap as it stood -/
structure Rests (s s' : Shared) : Prop where
  os : s'.os = s.os
  heap : s'.heap = s.heap
  bare : AllBare s'.gens
/-- a truth is handed out: stop ends the walk, the other goes on -/
def YB (a : Addr) (g : Nat) (stop : Bool) (F : Shared → Prop) : Protocol := fun _ _ v s1 kap =>
  AllBare s1.gens ∧ s1.heap.NoLimit ∧ s1.heap.IsGen a g ∧ ((v = .bool stop ∧ F s1) ∨ (v = .bool (!stop) ∧ ∀ s', Rests s1 s' → kap (.send .none) s'))
/-- the generator's end, or its exception -/
def EB (a : Addr) (g : Nat) (T : Shared → Prop) (Er : Value → Shared → Prop) : GenEnd := fun _ _ r s1 =>
  ((r = .ok (.ret .none) ∨ r = .ok .next) ∧ AllBare s1.gens ∧ T s1) ∨ ∃ e, r = .error e ∧ s1.heap.IsGen a g ∧ Er e s1
/-- behind the end: new things only -/
structure Onward (s s' : Shared) : Prop where
  os : s'.os = s.os
  keep : ∀ b o, s.heap.get? b = some o → s'.heap.get? b = some o
  bare : AllBare s'.gens
theorem all_loop (hh : A.handled = none) (hd : A.depth < recursionLimit)
    (h0 : ∀ s s', F s → Rests s s' → R (.ok (.ret (.bool false))) s') (h1 : ∀ s s', T s → Onward s s' → R (.ok (.ret (.bool true))) s')
    (hE : ∀ e s, Er e s → NotStop (model P w) e s.heap ∧ R (.error e) (s.setGen g .finished)) :
    ∀ (m : Nat) (s : Shared), s.heap.IsGen a g → s.heap.NoLimit → (∃ gs, s.gens[g]? = some gs ∧ gs.Goes (model P w) A.in1.in1 (EB a g T Er) (YB a g false F) m (.send .none) (s.setGen g .running)) →
      codeAny (model P w) A (.builtin "all.loop" ⟨[.ref a], []⟩) R s := by
  intro m
  induction m with
  | zero =>
    rintro s hg hl ⟨gs, hgs, hgo⟩
    refine codeAny_builtin PySem.F.entry_all_loop ?_
    rw [Around.under_plainId PySem.F.plain_all_loop _]
    show wpAny _ A.in1 (pyNext (.ref a) >>= _) _ _ s
    refine wpAny_bind (next_genG (A := A.in1) (n := 0) (F := fun _ _ s1 => AllBare s1.gens ∧ T s1) (Er := fun e s1 => s1.heap.IsGen a g ∧ Er e s1) (Y := YB a g false F) hh hl hd hg hgs hgo (fun v s1 gs' hb hv => ?_) (fun s1 hp h' hk => ?_) fun e s1 he => ?_)
    · obtain ⟨hb1, hl1, hg1, ⟨rfl, hF⟩ | ⟨rfl, hk⟩⟩ := hv
      · refine wpAny_bind (wpAny_holding (wpAny_truthy_bool ?_))
        refine wpAny_bind (wpAny_letGo ?_)
        rw [if_neg Bool.false_ne_true]
        exact wpAny_bind (wpAny_rule (wpAny_pure (h0 _ _ hF ⟨rfl, rfl, allBare_setGen hb1 hb⟩)))
      · exact (hk _ ⟨rfl, rfl, hb1⟩).elim
    · exact wpAny_bind (wpAny_rule (wpAny_pure (h1 _ _ hp.2 ⟨rfl, hk, allBare_setGen hp.1 rfl⟩)))
    · obtain ⟨q1, q2⟩ := hE e s1 he.2
      exact ⟨he.1, q1, q2⟩
  | succ m ih =>
    rintro s hg hl ⟨gs, hgs, hgo⟩
    have gl : g < s.gens.size := (Array.getElem?_eq_some_iff.mp hgs).1
    refine codeAny_builtin PySem.F.entry_all_loop ?_
    rw [Around.under_plainId PySem.F.plain_all_loop _]
    show wpAny _ A.in1 (pyNext (.ref a) >>= _) _ _ s
    refine wpAny_bind (wpAny_gsz (n := g + 1) gl (next_genG (A := A.in1) (n := m + 1) (F := fun _ _ s1 => AllBare s1.gens ∧ T s1) (Er := fun e s1 => s1.heap.IsGen a g ∧ Er e s1) (Y := YB a g false F) hh hl hd hg hgs hgo (fun v s1 gs' hb hv => ?_) (fun s1 hp h' hk => ?_) fun e s1 he => ?_))
    · intro sz
      obtain ⟨hb1, hl1, hg1, ⟨rfl, hF⟩ | ⟨rfl, hk⟩⟩ := hv
      · refine wpAny_bind (wpAny_holding (wpAny_truthy_bool ?_))
        refine wpAny_bind (wpAny_letGo ?_)
        rw [if_neg Bool.false_ne_true]
        exact wpAny_bind (wpAny_rule (wpAny_pure (h0 _ _ hF ⟨rfl, rfl, allBare_setGen hb1 hb⟩)))
      · refine wpAny_bind (wpAny_holding (wpAny_truthy_bool ?_))
        refine wpAny_bind (wpAny_letGo ?_)
        rw [if_pos (show (!false) = true from rfl)]
        have g1 : g < s1.gens.size := by
          have q : (s1.setGen g gs').gens.size = s1.gens.size := setGen_size _ _ _
          have sz : g + 1 ≤ (s1.setGen g gs').gens.size := sz
          omega
        refine wpAny_pure ⟨plainId_quiet PySem.F.plain_all_loop _, ih _ hg1 hl1 ⟨gs', setGen_at g1, hk _ ⟨rfl, rfl, ?_⟩⟩⟩
        exact allBare_setGen (s := s1.setGen g gs') (allBare_setGen hb1 hb) rfl
    · intro _
      exact wpAny_bind (wpAny_rule (wpAny_pure (h1 _ _ hp.2 ⟨rfl, hk, allBare_setGen hp.1 rfl⟩)))
    · obtain ⟨q1, q2⟩ := hE e s1 he.2
      exact ⟨he.1, q1, fun _ => q2⟩
end
end Gx

set_option Elab.async false
set_option linter.all false
set_option maxRecDepth 100000
set_option maxHeartbeats 4000000
namespace Gx
open PySem PySem.Spec PyProof.Rows L2 GenW
section
variable {P : Program} {w : World} {A : Around} {a : Addr} {g : Nat} {F T : Shared → Prop} {stop : Bool} {elt tg iter : Expr} {pos : Pos} {scope : Scope} {I : Addr} {cenv : Env} {J : Nat → Shared → Prop} {n₀ : Nat}
/-- around the code of the generator's loop -/
abbrev inLoop (A : Around) (elt tg iter : Expr) (pos : Pos) (scope : Scope) (I : Addr) (cenv : Env) : Around := A.over (.compLoop (.GeneratorExp elt [⟨tg, iter, [], 0⟩] scope pos) 0 (.ref I) .none cenv) []
/-- one turn of the walk: the next thing, its name, the test -/
def Turn (P : Program) (w : World) (B : Around) (elt tg : Expr) (I : Addr) (cenv : Env) (a : Addr) (g : Nat) (stop : Bool) (F : Shared → Prop) (J : Nat → Shared → Prop) (i : Nat) (s : Shared) : Prop :=
  wpAny (model P w) B (pyNext (.ref I)) (fun o s1 => ∃ v, o = some v ∧ wpAny (model P w) B (letOwnedTupleGo tg (.ref I) v) (fun _ s1 => wpAny (model P w) B (assign tg cenv v) (fun _ s2 => wpAny (model P w) B (eval elt cenv)
    (fun y s3 => ∃ b, y = .bool b ∧ AllBare s3.gens ∧ s3.heap.NoLimit ∧ s3.heap.IsGen a g ∧ (b = stop → F s3) ∧ (b = !stop → ∀ s', Rests s3 s' → J (i + 1) s')) (fun _ _ => False) s2) (fun _ _ => False) s1) (fun _ _ => False) s1) (fun _ _ => False) s
theorem seg_loop (hco : cenv.scope.isCoroutine = false)
    (turn : ∀ i s, i < n₀ → J i s → Turn P w (inLoop A elt tg iter pos scope I cenv) elt tg I cenv a g stop F J i s)
    (fin : ∀ s, J n₀ s → wpAny (model P w) (inLoop A elt tg iter pos scope I cenv) (pyNext (.ref I)) (fun o s1 => o = none ∧ AllBare s1.gens ∧ T s1) (fun _ _ => False) s) :
    ∀ (k i : Nat) (s₀ s : Shared), n₀ - i = k → i ≤ n₀ → J i s → Seg (model P w) A (EB a g T fun _ _ => False) (YB a g stop F) k s₀ (.compLoop (.GeneratorExp elt [⟨tg, iter, [], 0⟩] scope pos) 0 (.ref I) .none cenv)
      ((model P w).den (.compLoop (.GeneratorExp elt [⟨tg, iter, [], 0⟩] scope pos) 0 (.ref I) .none cenv)) [] s := by
  intro k
  induction k with
  | zero =>
    intro i s₀ s hk hi hJ
    obtain rfl : i = n₀ := by omega
    show Seg _ A _ _ _ s₀ _ ((compTurn (.GeneratorExp elt [⟨tg, iter, [], 0⟩] scope pos) 0 (.ref I) .none cenv).onRaise (leaving cenv)) [] s
    rw [compTurn_gen, Sem.onRaise_eq_wrap]
    refine seg_bind_wrap (wpAny_standAt ?_)
    refine seg_bind_wrap (wpAny_mono (fin s hJ) (fun o s1 h => ?_) fun _ _ e => e.elim)
    obtain ⟨rfl, hb, hT⟩ := h
    exact seg_end (.ok .next) (.inl ⟨.inr rfl, hb, hT⟩)
  | succ k ih =>
    intro i s₀ s hk hi hJ
    have hlt : i < n₀ := by omega
    show Seg _ A _ _ _ s₀ _ ((compTurn (.GeneratorExp elt [⟨tg, iter, [], 0⟩] scope pos) 0 (.ref I) .none cenv).onRaise (leaving cenv)) [] s
    rw [compTurn_gen, Sem.onRaise_eq_wrap]
    refine seg_bind_wrap (wpAny_standAt ?_)
    refine seg_bind_wrap (wpAny_mono (turn i s hlt hJ) (fun o s1 h => ?_) fun _ _ e => e.elim)
    obtain ⟨v, rfl, h⟩ := h
    refine seg_bind_wrap (wpAny_mono h (fun _ s1 h => ?_) fun _ _ e => e.elim)
    refine seg_bind_wrap (wpAny_mono h (fun _ s2 h => ?_) fun _ _ e => e.elim)
    refine seg_bind_wrap (wpAny_pure ?_)
    simp only [if_true]
    have plain : ∀ z, yieldOut cenv z = yieldValue z := by
      intro z
      unfold yieldOut
      rw [hco]
      rfl
    simp only [plain]
    rw [Sem.bind_eq_wrap']
    rw [Sem.bind_eq_wrap', Sem.wrap_wrap]
    rw [Sem.wrap_wrap]
    refine seg_wrap (wpAny_mono h (fun y s3 h => ?_) fun _ _ e => e.elim)
    obtain ⟨b, rfl, hb, hl, hg, hF, hJ'⟩ := h
    refine seg_at (seg_yield rfl rfl rfl ⟨hb, hl, hg, ?_⟩)
    by_cases c : b = stop
    · exact .inl ⟨by rw [c], hF c⟩
    · have c2 : b = !stop := by cases b <;> cases stop <;> first | rfl | exact absurd rfl c
      exact .inr ⟨by rw [c2], fun s' hr => seg_again rfl (ih (i + 1) s' s' (by omega) hlt (hJ' c2 s' hr))⟩
theorem seg_start (hco : cenv.scope.isCoroutine = false)
    (turn : ∀ i s, i < n₀ → J i s → Turn P w (inLoop A elt tg iter pos scope I cenv) elt tg I cenv a g stop F J i s)
    (fin : ∀ s, J n₀ s → wpAny (model P w) (inLoop A elt tg iter pos scope I cenv) (pyNext (.ref I)) (fun o s1 => o = none ∧ AllBare s1.gens ∧ T s1) (fun _ _ => False) s)
    (self : ∀ (B : Around) (s : Shared) (Q : Value → Shared → Prop) (E : Value → Shared → Prop), J 0 s → Q (.ref I) s → wpAny (model P w) B (pyIter (.ref I)) Q E s) (s₀ s : Shared) (hJ : J 0 s) :
    Seg (model P w) A (EB a g T fun _ _ => False) (YB a g stop F) n₀ s₀ (.compStart (.GeneratorExp elt [⟨tg, iter, [], 0⟩] scope pos) 0 (.ref I) .none cenv)
      ((model P w).den (.compStart (.GeneratorExp elt [⟨tg, iter, [], 0⟩] scope pos) 0 (.ref I) .none cenv)) [] s := by
  have loop := seg_loop (iter := iter) (pos := pos) (scope := scope) hco turn fin n₀ 0 s₀ s (Nat.sub_zero _) (Nat.zero_le _) hJ
  show Seg _ A _ _ _ s₀ _ ((compStart (.GeneratorExp elt [⟨tg, iter, [], 0⟩] scope pos) 0 (.ref I) .none cenv).onRaise (leaving cenv)) [] s
  unfold compStart
  rw [Sem.onRaise_eq_wrap]
  change Seg _ A _ _ _ s₀ _ ((ask >>= _).wrap _ _ _ _) [] _
  apply seg_bind_wrap (wpAny_askSetting ?_)
  split
  · exact seg_again rfl loop
  · refine seg_bind_wrap (wpAny_rule ?_)
    show Seg _ A _ _ _ s₀ _ ((standAt iter.pos >>= _).wrap _ _ _ _) [] s
    exact seg_bind_wrap (wpAny_standAt (seg_bind_wrap (self _ s _ _ hJ (seg_again rfl loop))))
end
end Gx

set_option Elab.async false
set_option linter.all false
set_option maxRecDepth 100000
set_option maxHeartbeats 4000000
namespace Gx
open PySem PySem.Spec PyProof.Rows L2 GenW
/-- the context of a generator expression's frame -/
abbrev gcx (X : Cx) (s : Shared) (H : Hp) (cenv : Env) (fp : List Addr) (B : Around) : Cx := { X with A := B, s_0 := s, H_0 := H, env := cenv, outer := X.stack, stack := cenv :: X.stack, ex := fp, fn := fun _ => false, calm := true, pn := [], xe := fun _ _ => False }
/-- its environment -/
abbrev genv (X : Cx) (scope : Scope) (C : Addr) (code : Value) : Env := genEnv scope (cloFrom X.env.cells scope.names []) C code builtinsNs X.env
section
variable {X : Cx} {pins : List (Addr × Obj)} {σ : L2.St} {H : Hp} {s s5 : Shared} {scope : Scope} {own : List (Str × Nat)} {fp : List Addr} {code : Value} {B : Around} {m0 : Str → Option Value}
theorem gen_start (I : Inv X pins σ H s) (ok : BlkOk X.N X.env.scope scope own) (nc : ∀ y ∈ scope.names, y.2 ≠ .cell) (hN : X.N.Nodup) (hfp : ∀ b ∈ fp, FpOk X pins H b ∧ b < s.heap.objs.size)
    (hB : B.handled = none) (hBf : B.frames = some (genv X scope s.heap.objs.size code :: X.stack)) (os5 : s5.os = s.os) (bare5 : AllBare s5.gens) (kp : ∀ b o, s.heap.get? b = some o → s5.heap.get? b = some o) (hns : s5.heap.Ns s.heap.objs.size m0) :
    Inv (gcx X s H (genv X scope s.heap.objs.size code) fp B) [] (wipe σ (own.map (·.2))) H s5 := by
  have frees : ∀ y ∈ scope.names, y.2 = .free → ∃ c, X.env.cells.lookup y.1 = some c := fun y hy e => (ok.free y hy e).elim (fun k => I.ok.has _ (.inl k)) fun k => I.ok.has _ (.inr k)
  have cellOf : ∀ {y : Str} {c : Addr}, (cloFrom X.env.cells scope.names []).lookup y = some c → X.env.cells.lookup y = some c ∧ c < s.heap.objs.size := fun {y c} e => by
    rcases cloFrom_mem (PySem.mem_of_lookup e) with hm | ⟨h1, rfl⟩
    · cases hm
    · obtain ⟨c, hc⟩ := frees _ h1 rfl
      obtain ⟨v, z⟩ := I.cell _ _ hc
      rw [hc]
      exact ⟨rfl, z.lt⟩
  have seen : ∀ {y : Str}, scope.names.lookup y = some .free → ∃ c, (cloFrom X.env.cells scope.names []).lookup y = some c ∧ X.env.cells.lookup y = some c := fun {y} e => by
    obtain ⟨c, hc⟩ := mem_lookup (cloFrom_has (cells := X.env.cells) (acc := []) (PySem.mem_of_lookup e))
    exact ⟨c, hc, (cellOf hc).1⟩
  have kinds : ∀ {y : Str} {k : NameKind}, scope.names.lookup y = some k → k ≠ .cell := fun {y k} e => nc _ (PySem.mem_of_lookup e)
  have okG : (gcx X s H (genv X scope s.heap.objs.size code) fp B).Ok := by
    constructor
    case mod => exact I.ok.mod
    case kind => exact ok.kind
    case glob => exact I.ok.glob
    case blt => rfl
    case above => exact Nat.le_refl _
    case inj => exact fun y z c e1 e2 => I.ok.inj y z c (cellOf e1).1 (cellOf e2).1
    case has =>
      intro y hy
      rcases hy with hy | hy
      · exact absurd rfl (kinds hy)
      · obtain ⟨c, h1, _⟩ := seen hy
        exact ⟨c, h1⟩
    case cab => exact fun y c z _ => absurd z Bool.false_ne_true
    case hd => exact fun _ => hB
    case frames => exact hBf
    case stk => exact .inr ⟨rfl, rfl⟩
    case exf => exact fun b hb => ⟨Nat.ne_of_lt (hfp b hb).2, fun y c e => (hfp b hb).1.2.2.2.2.1 y c (cellOf e).1⟩
    case bs => exact I.bs
    case bsz => exact Nat.le_trans I.ok.bsz I.sz
    case noex =>
      intro b o e hb
      rcases (hfp b hb).1.2.2.2.1 with z | z
      · exact I.ok.noex b o e z
      · have far := Nat.lt_of_lt_of_le (Heap.lt_size e) (Nat.le_trans I.ok.bsz z)
        exact (Nat.lt_irrefl _ far).elim
    case exfs =>
      intro b hb z
      rcases List.mem_cons.mp (I.stkSub b z) with z | z
      · exact (hfp b hb).1.2.1 z
      · exact (hfp b hb).1.2.2.1 z
    case funs => exact I.stack
    case frf => exact I.stkFree
  constructor
  case ok => exact okG
  case os => exact os5
  case bare => exact bare5
  case base => exact Un.kept kp
  case loc =>
    refine ⟨_, hns, fun i y av e1 e2 e3 => ?_⟩
    obtain ⟨e2, hne⟩ := wipe_some e2
    have nloc : scope.names.lookup y ≠ some .local := fun e => by
      rcases ok.own _ (PySem.mem_of_lookup e) (.inl rfl) with e' | e'
      · obtain ⟨r, hr, hry⟩ := List.mem_map.mp e'
        have at_ := ok.ix r hr
        rw [show r.1 = y from hry] at at_
        exact hne (List.mem_map.mpr ⟨r, hr, nodup_ix hN at_ e1⟩)
      · exact e' (List.mem_of_getElem? e1)
    have hfr : scope.names.lookup y = some .free := by
      rcases e3 with e3 | e3 | e3
      · exact absurd e3 nloc
      · exact absurd rfl (kinds e3)
      · exact e3
    obtain ⟨m, hn, hl⟩ := I.loc
    have fr := ok.free _ (PySem.mem_of_lookup hfr) rfl
    obtain ⟨v, r, q⟩ := hl i y av e1 e2 (fr.elim (fun k => .inr (.inl k)) fun k => .inr (.inr k))
    obtain ⟨c, h1, h2⟩ := seen hfr
    refine ⟨v, r, .inr ⟨.inr hfr, c, h1, ?_⟩⟩
    rcases q with ⟨isl, _⟩ | ⟨_, d, ed, z⟩
    · have isl : X.env.scope.names.lookup y = some .local := isl
      rcases fr with r' | r' <;> rw [show X.env.scope.names.lookup y = _ from r'] at isl <;> cases isl
    · rw [h2] at ed; cases ed
      exact z.keeps kp
  case cell =>
    intro y c e
    obtain ⟨v, z⟩ := I.cell y c (cellOf e).1
    exact ⟨v, z.keeps kp⟩
  case free => exact I.hok.fresh (Nat.le_refl _)
  case freeC => exact fun y c e => I.freeC y c (cellOf e).1
  case pin => exact fun p hp => absurd (show p ∈ ([] : List (Addr × Obj)) ++ [] from hp) (by simp)
  case hok => exact I.hok.kept kp
  case len => rw [wipe_length]; exact I.len
end
end Gx

set_option Elab.async false
set_option linter.all false
set_option maxRecDepth 100000
set_option maxHeartbeats 4000000
namespace Gx
open PySem PySem.Spec PyProof.Rows L2 GenW GxR
section
variable {Y : Cx} {pins : List (Addr × Obj)} {σ : L2.St} {H : Hp} {s s' : Shared}
theorem Rests.inv (r : Rests s s') (I : Inv Y pins σ H s) : Inv Y pins σ H s' :=
  I.call' (ch := []) r.os (by rw [r.heap]; exact Un.refl) (by rw [r.heap]; exact I.hok) r.bare fun b hb => absurd hb (by simp)
theorem Onward.inv (r : Onward s s') (I : Inv Y pins σ H s) : Inv Y pins σ H s' :=
  I.call' (ch := []) r.os (Un.kept r.keep) (I.hok.kept r.keep) r.bare fun b hb => absurd hb (by simp)
end
/-- all or any of a generator expression: stop, the truth that ends the walk; behind it the def's table may have grown -/
def tAG (P : Addr) (wi : TI) (g : TG) (te : TE) (vs : List Nat) (stop : Bool) : TE := fun σ H Q => wi σ H fun J H1 => TabG H1 P ∧ ∀ H2, Tabbed P H1 H2 → ∃ (W : Nat → Hp → Prop) (n : Nat), W 0 H2 ∧
  (∀ i H', i < n → W i H' → J.go i H' ∧ ∀ x H3, J.yld i H' x H3 → g x (wipe σ vs) H3 fun σ2 H4 => wipe σ2 vs = wipe σ vs ∧ te σ2 H4 fun y H5 => ∃ b, y = .bl b ∧ (b = stop → Q (.bl stop) H5) ∧ (b = !stop → W (i + 1) H5)) ∧
  ∀ H', W n H' → J.stop n H' ∧ Q (.bl (!stop)) H'
/-- a generator that hands out truths, not begun -/
def Made (X : Cx) (pins : List (Addr × Obj)) (σ : L2.St) (Q : VK) (stop : Bool) (u : Value) (s : Shared) : Prop :=
  ∃ (a : Addr) (g n : Nat) (c : Code), u = .ref a ∧ s.heap.IsGen a g ∧ s.heap.NoLimit ∧ s.gens[g]? = some (.fresh c) ∧ AllBare s.gens ∧
    ∀ s', Rests s s' → Seg (model X.prog X.w) X.A.in1.in1 (EB a g (fun s1 => ∃ H1, Inv X pins σ H1 s1 ∧ Q (.bl (!stop)) H1) fun _ _ => False) (YB a g stop fun s1 => ∃ H1, Inv X pins σ H1 s1 ∧ Q (.bl stop) H1) n s' c ((model X.prog X.w).den c) [] s'
section
variable {X : Cx} {pins : List (Addr × Obj)} {σ : L2.St} {H : Hp} {s : Shared} {scope : Scope} {own : List (Str × Nat)} {elt tg iter : Expr} {gpos : Pos} {c P : Addr} {wi : TI} {g : TG} {te : TE} {stop : Bool} {Q : VK} {k : Nat}
theorem gen_made (hr : Room k X.A) (hN : X.N.Nodup) (TB : TabB X.base X.mg c P) (hcode : X.env.code = .ref c) (hi : PI X tg iter wi) (ok : BlkOk X.N X.env.scope scope own) (nc : ∀ y ∈ scope.names, y.2 ≠ .cell)
    (dot : scope.names.lookup (".0" : Str) = some NameKind.local) (hco : scope.isCoroutine = false)
    (hg : ∀ (s : Shared) (H : Hp) (C : Addr) (cv : Value) (fp : List Addr) (B : Around), PG (gcx X s H (genv X scope C cv) fp B) tg g)
    (he : ∀ (s : Shared) (H : Hp) (C : Addr) (cv : Value) (fp : List Addr) (B : Around), (∀ j, Room (j + 1) X.A → Room j B) → B.guards = X.A.guards → PE (gcx X s H (genv X scope C cv) fp B) elt te)
    (hs : ∀ v, genFold iter X.env v = pure v) (I : Inv X pins σ H s) (h : tAG P wi g te (own.map (·.2)) stop σ H Q) :
    wpAny (model X.prog X.w) X.A (eval (.GeneratorExp elt [⟨tg, iter, [], 0⟩] scope gpos) X.env) (Made X pins σ Q stop) X.xe s := by
  have frees : ∀ y ∈ scope.names, y.2 = .free → ∃ c, X.env.cells.lookup y.1 = some c := fun y hy e => (ok.free y hy e).elim (fun k => I.ok.has _ (.inl k)) fun k => I.ok.has _ (.inr k)
  refine wpAny_GeneratorExp_make hco (closure_ok frees) nc dot ok.kind (by have := hr.dp; omega) ?_ hs
  refine thn (hi.run pins s σ H _ I h) fun xv s1 hx => thn hx fun itv s2 h2 => ?_
  obtain ⟨it, fp, tn, J, H2, e, I2, T, st2, f2, ⟨ps, hP, ht⟩, q⟩ := h2
  subst e
  refine ⟨I2.nolimit, ?_⟩
  have hPs : s2.heap.get? P = some { cls := .none, data := .fields ps } := I2.hok P _ hP
  have cd : PySem.W.CodeHd s2.heap c P := TB.code.keeps fun b u e => I2.bk b u e
  have szf : ∀ b ∈ fp, b < s2.heap.objs.size := fun b hb => by
    obtain ⟨o, e, _⟩ := T.obj _ _ st2 b hb
    exact Heap.lt_size e
  have nPf : ∀ b ∈ fp, b ≠ P := fun b hb z => by
    have q := (f2 b hb).1
    rw [z, hP] at q
    cases q
  have cont : ∀ (cv : Value) (s3 : Shared) (H3 : Hp), Inv X pins σ H3 s3 → Tabbed P H2 H3 → s2.heap.objs.size ≤ s3.heap.objs.size → (∀ b o, b ≠ P → s2.heap.get? b = some o → s3.heap.get? b = some o) →
      wpAny (model X.prog X.w) X.A (builtinsFor X.env.globals X.env.builtins) (fun bi s₄ =>
        ∀ h', h'.Ns s₄.heap.objs.size (fun y => if y = ".0" then some (Value.ref it) else none) → Heap.SameBut s₄.heap.objs.size (s₄.heap.push { cls := .type "frame", data := .dict #[] }) h' →
          Made X pins σ Q stop (.ref h'.objs.size) { s₄ with
            gens := s₄.gens.push (.fresh (.compStart (.GeneratorExp elt [⟨tg, iter, [], 0⟩] scope gpos) 0 (.ref it) .none (genEnv scope (cloFrom X.env.cells scope.names []) s₄.heap.objs.size cv bi X.env))),
            toks := s₄.toks + 1 + 1 + 1,
            heap := h'.push { cls := .type "generator", data := .fields #[.int s₄.gens.size 0, .str "<genexpr>" (s₄.toks + 1), .str (X.env.qual ++ "<genexpr>") (s₄.toks + 1 + 1)] } }) X.xe s3 := by
    intro cv s3 H3 I3 tb sz3 k3
    obtain ⟨bm, ob, e1, e2, e3, e4, e5, e6, e7, e8⟩ := TB.bm
    refine wpAny_builtinsFor (m := X.mg) (by rw [I3.ok.glob]; exact I3.mod.glob.keeps I3.bk) e1 e2 (I3.bk _ _ e5) e6 e7 e8 ?_
    intro h' hn' hs'
    obtain ⟨W, n, w0, step, last⟩ := q H3 tb
    generalize hoa : ({ cls := .type "generator", data := .fields #[.int s3.gens.size 0, .str "<genexpr>" (s3.toks + 1), .str (X.env.qual ++ "<genexpr>") (s3.toks + 1 + 1)] } : Obj) = oa
    have nfr : oa.isFreed = false := by rw [← hoa]; rfl
    have hsz : h'.objs.size = s3.heap.objs.size + 1 := by rw [hs'.1, Heap.size_push]
    have kp : ∀ b o, s3.heap.get? b = some o → (h'.push oa).get? b = some o := fun b o e => Heap.get?_push_of_some _ (hs'.extBut b o (Nat.ne_of_lt (Heap.lt_size e)) (Heap.get?_push_of_some _ e))
    have ga : ∀ {h : Heap}, h.get? h'.objs.size = some oa → h.IsGen h'.objs.size s3.gens.size := fun {h} e => by
      refine ⟨oa, .str "<genexpr>" (s3.toks + 1), .str (X.env.qual ++ "<genexpr>") (s3.toks + 1 + 1), e, ?_, ?_, ?_⟩ <;> rw [← hoa]
    have nf : ∀ b ∈ fp, H3 b = none := fun b hb => by rw [tb.2 b (nPf b hb)]; exact (f2 b hb).1
    have f3 : ∀ b ∈ fp, FpOk X pins H3 b ∧ b < s3.heap.objs.size := fun b hb => ⟨⟨nf b hb, (f2 b hb).2⟩, Nat.lt_of_lt_of_le (szf b hb) sz3⟩
    have stP : ∀ {h : Heap}, (∀ b o, s3.heap.get? b = some o → h.get? b = some o) → tn 0 h := fun kk => T.keep _ _ _ st2 fun b hb o e => kk b o (k3 b o (nPf b hb) e)
    refine ⟨h'.objs.size, s3.gens.size, n, _, rfl, ga (Heap.get?_push_size _ nfr), I3.nolimit.keeps kp, Array.getElem?_push_size .., I3.bare.push rfl, ?_⟩
    generalize hB : inLoop X.A.in1.in1 elt tg iter gpos scope it (genv X scope s3.heap.objs.size cv) = B
    have hB1 : B.handled = none := by rw [← hB]; exact hr.hd
    have hBf : B.frames = some (genv X scope s3.heap.objs.size cv :: X.stack) := by
      have e : (inLoop X.A.in1.in1 elt tg iter gpos scope it (genv X scope s3.heap.objs.size cv)).frames = pushEnvs (Code.envs (.compLoop (.GeneratorExp elt [⟨tg, iter, [], 0⟩] scope gpos) 0 (.ref it) .none (genv X scope s3.heap.objs.size cv))) (pushEnvs [] X.A.frames) := rfl
      rw [← hB, e, I.ok.frames]
      rfl
    have hBr : ∀ j, Room (j + 1) X.A → Room j B := fun j r => by
      rw [← hB]
      refine ⟨r.hd, ?_, ?_⟩
      · have := r.dp
        show X.A.depth + 0 + 1 + 3 * j + 5 < _
        omega
      · have := r.un
        show X.A.units + 1 + 1 + 0 + 3 + 16 * j + 200 < _
        omega
    have hBg : B.guards = X.A.guards := by rw [← hB]; rfl
    generalize hs5 : ({ s3 with gens := s3.gens.push (.fresh (.compStart (.GeneratorExp elt [⟨tg, iter, [], 0⟩] scope gpos) 0 (.ref it) .none (genEnv scope (cloFrom X.env.cells scope.names []) s3.heap.objs.size cv builtinsNs X.env))), toks := s3.toks + 1 + 1 + 1, heap := h'.push oa } : Shared) = s5
    have h5 : s5.heap = h'.push oa := by rw [← hs5]
    have I5 : Inv (gcx X s3 H3 (genv X scope s3.heap.objs.size cv) fp B) [] (wipe σ (own.map (·.2))) H3 s5 := by
      refine gen_start I3 ok nc hN f3 hB1 hBf (by rw [← hs5]) (by rw [← hs5]; exact I3.bare.push rfl) (by rw [h5]; exact kp) (m0 := fun y => if y = ".0" then some (Value.ref it) else none) (by rw [h5]; exact hn'.push _)
    have an : H3 h'.objs.size = none := I3.hok.fresh (by omega)
    have af : h'.objs.size ∉ frs X.stack := fun z => by
      rcases List.mem_cons.mp (I3.stkSub _ z) with z | z
      · have := I3.lt
        rw [← z] at this
        have hh : h'.objs.size < s3.heap.objs.size := this
        omega
      · exact I3.nofs (by omega) z
    have I6 : Inv (gcx X s3 H3 (genv X scope s3.heap.objs.size cv) fp B) [(h'.objs.size, oa)] (wipe σ (own.map (·.2))) H3 s5 := I5.pins_of fun p hp => by
      rw [List.mem_singleton.mp hp]
      refine ⟨by rw [h5]; exact Heap.get?_push_size _ nfr, an, ?_, af, fun v z => ?_⟩
      · show h'.objs.size ≠ s3.heap.objs.size
        omega
      · rw [← hoa] at z
        cases z
    have pg := hg s3 H3 s3.heap.objs.size cv fp B
    have pe := he s3 H3 s3.heap.objs.size cv fp B hBr hBg
    have st5 : tn 0 s5.heap := by rw [h5]; exact stP kp
    generalize hGX : gcx X s3 H3 (genv X scope s3.heap.objs.size cv) fp B = GX at I6 pg pe
    have back : ∀ {pl : List (Addr × Obj)} {σ' : L2.St} {H' : Hp} {s' : Shared}, Inv GX pl σ' H' s' → Inv X pins σ H' s' := fun {pl σ' H' s'} I' => by
      rw [← hGX] at I'
      exact I3.call' (ch := fp) I'.os I'.base I'.hok I'.bare fun b hb => ⟨(f3 b hb).1.2.2.2.1, (f3 b hb).1.2.1, (f3 b hb).1.2.2.2.2.1, (f3 b hb).1.2.2.2.2.2⟩
    have stat : ∀ {σ' : L2.St} {H' : Hp} {s' : Shared}, Inv GX [(h'.objs.size, oa)] σ' H' s' → (∀ b ∈ fp, H' b = none) → ∀ b ∈ fp, FpOk GX [(h'.objs.size, oa)] H' b := fun {σ' H' s'} I' hn b hb => by
      rw [← hGX] at I' ⊢
      refine ⟨hn b hb, (I'.ok.exf b hb).1, I'.ok.exfs b hb, .inl hb, fun x c e => (I'.ok.exf b hb).2 x c e, fun p hp z => ?_⟩
      rcases List.mem_append.mp hp with hp | hp
      · cases hp
      · rw [List.mem_singleton.mp hp] at z
        have := (f3 b hb).2
        have hh : h'.objs.size < s3.heap.objs.size := by rw [show h'.objs.size = b from z]; exact this
        omega
    have genAt : ∀ {pl : List (Addr × Obj)} {σ' : L2.St} {H' : Hp} {s' : Shared}, Inv GX ((h'.objs.size, oa) :: pl) σ' H' s' → s'.heap.IsGen h'.objs.size s3.gens.size := fun {pl σ' H' s'} I' => ga (I'.pin (h'.objs.size, oa) (List.mem_append_right _ (List.mem_cons_self ..))).1
    have gxA : GX.A = B := by rw [← hGX]
    have gxp : GX.prog = X.prog := by rw [← hGX]
    have gxw : GX.w = X.w := by rw [← hGX]
    have gxK : GX.K = X.K := by rw [← hGX]
    have gxe : GX.env = genv X scope s3.heap.objs.size cv := by rw [← hGX]
    have gxc : GX.calm = true := by rw [← hGX]
    have gxx : GX.xe = fun _ _ => False := by rw [← hGX]
    intro s' hres
    refine seg_start (J := fun i s => ∃ H', Inv GX [(h'.objs.size, oa)] (wipe σ (own.map (·.2))) H' s ∧ tn i s.heap ∧ (∀ b ∈ fp, H' b = none) ∧ W i H') (n₀ := n) hco ?_ ?_ ?_ s' s' ⟨H3, hres.inv I6, by rw [hres.heap]; exact st5, nf, w0⟩
    · rintro i s4 hin ⟨H4, I4, st4, n4, w4⟩
      obtain ⟨go, turn⟩ := step i H4 hin w4
      have ti := T.item GX gxp gxw gxK gxc i [(h'.objs.size, oa)] s4 _ H4 (fun _ _ => False) I4 (stat I4 n4) st4 go
      rw [gxA] at ti
      unfold Turn
      rw [hB]
      refine wpAny_mono ti (fun r s6 hr6 => ?_) fun _ _ e => e
      obtain ⟨u, hr6, h6⟩ := hr6
      refine ⟨u, hr6, wpAny_mono h6 (fun _ s7 h7 => ?_) fun _ _ e => e⟩
      obtain ⟨x, H7, I7, r7, y7, st7, n7⟩ := h7
      have I7' := I7.pinned (stat I7 n7) (T.obj _ _ st7)
      have pr := pg.run _ s7 _ H7 x u _ I7' r7 (turn x H7 y7)
      rw [gxA, gxe, gxp, gxw, gxx] at pr
      refine wpAny_mono pr (fun _ s8 h8 => ?_) fun _ _ e => e
      obtain ⟨σ8, H8, I8, hw8, q8⟩ := h8
      have er := pe.run _ s8 σ8 H8 _ I8 q8
      rw [gxA, gxe, gxp, gxw, gxx] at er
      refine wpAny_mono er (fun z s9 h9 => ?_) fun _ _ e => e
      obtain ⟨yv, H9, I9, r9, b, rfl, hQ, w9⟩ := h9
      have r9 : z = Value.bool b := r9
      have pin' : ∀ b ∈ fp, ∀ o, s7.heap.get? b = some o → s9.heap.get? b = some o ∧ H9 b = none := fun b hb o e =>
        let y := I9.pin (b, o) (List.mem_append_right _ (List.mem_append_right _ (mem_pinsAt hb e)))
        ⟨y.1, y.2.1⟩
      have hl : (wipe σ (own.map (·.2))).length = σ8.length := by
        rw [← hw8]
        exact wipe_length _ _
      refine ⟨b, r9, I9.bare, I9.nolimit, genAt (pl := pinsAt fp s7.heap) I9, fun c => ⟨H9, back I9, hQ c⟩, fun c s10 hr => ⟨H9, hr.inv ((I9.unpinned (pins := [(h'.objs.size, oa)])).weak hl fun j v e => ?_), ?_, fun b hb => ?_, w9 c⟩⟩
      · rw [← hw8] at e
        exact (wipe_some e).1
      · rw [hr.heap]
        exact T.keep _ _ _ st7 fun b hb o e => (pin' b hb o e).1
      · obtain ⟨o, e, _⟩ := T.obj _ _ st7 b hb
        exact (pin' b hb o e).2
    · rintro s4 ⟨H4, I4, st4, n4, w4⟩
      obtain ⟨go, qq⟩ := last H4 w4
      have td := T.done GX gxp gxw gxK gxc n [(h'.objs.size, oa)] s4 _ H4 (fun _ _ => False) I4 (stat I4 n4) st4 go
      rw [gxA] at td
      rw [hB]
      refine wpAny_mono td (fun r s6 h6 => ?_) fun _ _ e => e
      exact ⟨h6.1, h6.2.bare, H4, back h6.2, qq⟩
    · rintro A' s4 Q4 E4 ⟨H4, I4, st4, n4, w4⟩ hq
      exact T.self A' 0 s4 Q4 E4 st4 hq
  cases hf : codeAmong gpos ps.toList with
  | none =>
    refine wpAny_genexprCodeX hcode (cd.code hPs ht) (cd.tab hPs) hf fun c' h3 tk hx hge hlt hco' _ htab' _ => ?_
    obtain ⟨o1, vs, f1, tf, fl, tgf, inF, tx, tt, op, _, _, _, _, _, _, _, _, _, htr, _⟩ := hco'
    have I3 := inv_tab (g' := s2.gens) (d' := s2.drawn) (t' := tk) I2 hP (fun b u hb e => hx b u hb e) htab'.2 I2.bare
    exact cont _ _ _ I3 ⟨⟨_, upd_same, htr⟩, fun b hb => upd_ne hb⟩ (Nat.le_trans hge (Nat.le_of_lt hlt)) fun b o hb e => hx b o hb e
  | some cv =>
    refine wpAny_genexprCode_hit hcode (cd.code hPs ht) hf ?_
    exact cont cv s2 H2 I2 ⟨⟨ps, hP, ht⟩, fun _ _ => rfl⟩ (Nat.le_refl _) fun _ _ _ e => e
end
end Gx

set_option Elab.async false
set_option linter.all false
set_option maxRecDepth 100000
set_option maxHeartbeats 4000000
namespace Gx
open PySem PySem.Spec PyProof.Rows L2 GenW GxR
section
variable {X : Cx} {scope : Scope} {own : List (Str × Nat)} {elt tg iter : Expr} {gpos p pos : Pos} {c P : Addr} {wi : TI} {g : TG} {te : TE} {k : Nat}
theorem pe_all (hr : Room k X.A) (hgl : Gl X "all") (hm : X.mg "all" = none) (hb : bootBuiltins "all" = some (.builtin "all")) (hN : X.N.Nodup) (TB : TabB X.base X.mg c P) (hcode : X.env.code = .ref c) (hi : PI X tg iter wi) (ok : BlkOk X.N X.env.scope scope own)
    (nc : ∀ y ∈ scope.names, y.2 ≠ .cell) (dot : scope.names.lookup (".0" : Str) = some NameKind.local) (hco : scope.isCoroutine = false)
    (hg : ∀ (s : Shared) (H : Hp) (C : Addr) (cv : Value) (fp : List Addr) (B : Around), PG (gcx X s H (genv X scope C cv) fp B) tg g)
    (he : ∀ (s : Shared) (H : Hp) (C : Addr) (cv : Value) (fp : List Addr) (B : Around), (∀ j, Room (j + 1) X.A → Room j B) → B.guards = X.A.guards → PE (gcx X s H (genv X scope C cv) fp B) elt te)
    (hs : ∀ v, genFold iter X.env v = pure v)
    (hst : starEach [.GeneratorExp elt [⟨tg, iter, [], 0⟩] scope gpos] X.env = (false, eval (.GeneratorExp elt [⟨tg, iter, [], 0⟩] scope gpos) X.env) :: starEach [] X.env := by rfl) :
    PE X (.Call (.Name "all" p) [.GeneratorExp elt [⟨tg, iter, [], 0⟩] scope gpos] [] pos) (tAG P wi g te (own.map (·.2)) false) := by
  refine ⟨fun pins s σ H Q I h => ?_⟩
  refine wpAny_Call_Name_kw (ld_blt I hgl hm hb ?_)
  refine PyProof.Rows.callWith_builtin1 ?_ hst (by rfl)
  rw [hst]
  show wpAny _ _ (spliced ((false, eval (.GeneratorExp elt [⟨tg, iter, [], 0⟩] scope gpos) X.env) :: backTo pos (starEach [] X.env))) _ _ s
  refine Calls.spliced_cons (thn (gen_made hr hN TB hcode hi ok nc dot hco hg he hs I h) fun u s1 hmade => ?_)
  refine Calls.spliced_nil ?_
  obtain ⟨a, gn, n, cc, rfl, ga, nl, gs, bare, run⟩ := hmade
  refine call_function_tree PySem.F.kind_all PySem.F.plain_all PySem.F.entry_all (PySem.F.args_all1 _) ?_
  unfold Builtin.«all»
  refine wpAny_bind (m := oneArg "all" _) (wpAny_pure ?_)
  refine wpAny_bind (wpAny_pyIter_gen ga ?_)
  refine wpAny_pure ⟨plainId_quiet PySem.F.plain_all_loop _, ?_⟩
  refine all_loop (A := X.A) (g := gn) hr.hd (by have := hr.dp; omega) (fun s2 s3 hF r => ?_) (fun s2 s3 hT r => ?_) (fun _ _ e => e.elim) n s1 ga nl ⟨_, gs, rfl, run _ ⟨rfl, rfl, allBare_setGen bare rfl⟩⟩
  · obtain ⟨H1, I1, q⟩ := hF
    exact ⟨.bl false, H1, r.inv I1, rfl, q⟩
  · obtain ⟨H1, I1, q⟩ := hT
    exact ⟨.bl true, H1, r.inv I1, rfl, q⟩
end
end Gx

set_option Elab.async false
set_option linter.all false
set_option maxRecDepth 100000
set_option maxHeartbeats 4000000
namespace Dl
open PySem PySem.Spec PyProof.Rows L2
/-! ### all, any of a generator expression -/
def isTbl (nm : Str) : DO → Bool
  | .tbl m => decide (m = nm)
  | _ => false
def allF (stop : Bool) (vs : List Nat) (g : DG) (e : DE) : List D → Sx → Option (D × Sx)
  | [], S => some (.bl (!stop), S)
  | x :: xs, S => (g x S).bind fun S1 => (e S1).bind fun p => match p.1 with
    | .bl b => if b = stop then some (.bl stop, wipeS p.2 vs) else allF stop vs g e xs (wipeS p.2 vs)
    | _ => none
def eGx (nm : Str) (stop : Bool) (vs : List Nat) (it : DI) (g : DG) (e : DE) : DE := fun S => (it S).bind fun p => if p.2.st.any (isTbl nm) = true then allF stop vs g e p.1 (wipeS p.2 vs) else none
section
variable {K : PySem.W.Frag} {N : Addr → Prop} {H0 H H2 : Hp} {α0 α : List Addr} {σ : L2.St} {S : Sx} {P : Addr}
theorem tab_at {nm : Str} {Hm : Hp} (h : StR K α H Hm S.st) (ht : S.st.any (isTbl nm) = true) : tbA K nm ∈ α ∧ GxR.TabG H (tbA K nm) := by
  obtain ⟨o, ho, e⟩ := List.any_eq_true.mp ht
  obtain ⟨n, hn, en⟩ := List.mem_iff_getElem.mp ho
  have en : S.st[n]? = some o := by rw [List.getElem?_eq_getElem hn, en]
  cases o with
  | tbl m =>
    have e : m = nm := of_decide_eq_true e
    subst e
    obtain ⟨a, h1, rfl, ps, h2, h3⟩ := h.at_ n _ en
    exact ⟨List.mem_of_getElem? h1, ps, h2, h3⟩
  | _ => cases e
theorem SR.tab (R : SR K N H0 α0 α σ H S) (pa : P ∈ α) (tg : GxR.TabG H P) (tb : GxR.Tabbed P H H2) : SR K N H0 α0 α σ H2 S ∧ Gr α H S α H2 S := by
  have nP : ∀ {a : Addr}, a ≠ P → H2 a = H a := fun {a} h => tb.2 a h
  have sm : Same (lim H (Mx N α S σ)) (lim H2 (Mx N α S σ)) := lim_keep (fun a o nm e => by
    rw [nP fun z => nm (.inr (.inl (by rw [z]; exact pa)))]; exact e) fun a m _ => m
  have fz : ∀ a o u, H a = some (.frz o u) → H2 a = some (.frz o u) := fun a o u e => by
    rw [nP fun z => by (subst z; obtain ⟨ps, hp, _⟩ := tg; rw [hp] at e; cases e)]
    exact e
  refine ⟨⟨R.pre, R.len, R.nd, fun a n => ?_, R.na, R.on, R.uniq, fun i x e => (R.slot i x e).mono (fun a u h1 h2 q => ?_) sm (List.prefix_refl _), ⟨R.sto.len, fun n o e => ?_⟩, fun a o n e => ?_, R.fresh, R.fral, fun a o u e => fz a o u (R.frz a o u e)⟩, List.prefix_refl _, fun a h n => absurd h n, fun a o n e => ?_, fun _ _ e => e, fz⟩
  · rw [nP fun z => R.na P pa (by rw [← z]; exact n)]
    exact R.live a n
  · obtain ⟨ds, rfl⟩ := h2
    rw [nP fun z => (R.on a ⟨i, ds, e, h1⟩).2 (by rw [z]; exact pa)]
    exact q
  · obtain ⟨a, y1, y2⟩ := R.sto.at_ n o e
    refine ⟨a, y1, ?_⟩
    by_cases c : a = P
    · subst c
      obtain ⟨ps, hp, _⟩ := tg
      cases o with
      | tbl nm =>
        obtain ⟨q0, _⟩ := y2
        obtain ⟨ps', hp', ht'⟩ := tb.1
        exact ⟨q0, ps', hp', ht'⟩
      | lst ds => obtain ⟨vs, q, _⟩ := y2; rw [hp] at q; cases q
      | dct ds => obtain ⟨vs, q, _⟩ := y2; rw [hp] at q; cases q
      | ins C ds => obtain ⟨dx, vs, q, _⟩ := y2; rw [hp] at q; cases q
      | exc c ds => obtain ⟨d, q, _⟩ := y2; rw [hp] at q; cases q
      | dctL ds => obtain ⟨ob, vs, q, _⟩ := y2; rw [hp] at q; cases q
    · exact y2.mono (fun u h => by rw [nP c]; exact h) sm (List.prefix_refl _)
  · have h := R.keep a o n e
    by_cases c : a = P
    · subst c
      rw [R.fral a pa n] at e
      cases e
    · rw [nP c]; exact h
  · rw [nP fun z => n (by rw [z]; exact pa)]
    exact e
variable {te : TE} {fe : DE} {tg : TG} {fg : DG} {wi : TI} {fi : DI} {stop : Bool} {nm : Str} {ws vs : List Nat}
theorem rf_gxZ (hw : ∀ j, j ∈ ws → j ∈ vs) (hi : RefIZ K wi fi) (hg : RefG K ws tg fg) (he : RefE K te fe) : RefE K (Gx.tAG (tbA K nm) wi tg te vs stop) (eGx nm stop vs fi fg fe) := by
  intro N H0 α0 α σ H S res S' Q R e q
  obtain ⟨⟨ds, S1⟩, e1, e⟩ := opt_bind e
  by_cases ht : S1.st.any (isTbl nm) = true
  case neg =>
    have e : (if S1.st.any (isTbl nm) = true then allF stop vs fg fe ds (wipeS S1 vs) else none) = some (res, S') := e
    rw [if_neg ht] at e
    cases e
  have e : (if S1.st.any (isTbl nm) = true then allF stop vs fg fe ds (wipeS S1 vs) else none) = some (res, S') := e
  rw [if_pos ht] at e
  refine hi N H0 α0 α σ H S ds S1 _ R e1 fun J α1 H1 R1 g1 W => ?_
  obtain ⟨pa, tg0⟩ := tab_at R1.sto ht
  refine ⟨tg0, fun Ht tb => ?_⟩
  obtain ⟨Rt, gt⟩ := R1.tab pa tg0 tb
  obtain ⟨G, Y, W, WG, WY⟩ := W
  obtain ⟨Rw, sw⟩ := Rt.wipe vs
  have hun : ∀ (T : Sx) (j : Nat) (x : Slot), j ∈ vs → (wipeS T vs).env[j]? = some x → x = .un := fun T j x c hx => wipeS_un c hx
  have hsl : ∀ (T : Sx), (∀ (j : Nat) (x : Slot), j ∈ vs → T.env[j]? = some x → x = .un) → ∀ (j : Nat) (x : Slot), T.env[j]? = some x → x ≠ .un → (L2.wipe σ vs)[j]? = σ[j]? := by
    intro T hT j x hx nx
    by_cases c : j ∈ vs
    · exact absurd (hT j x c hx) nx
    · exact wipe_out c
  obtain ⟨Rs, mxs⟩ := Rw.slots (σ' := L2.wipe σ vs) (wipe_length σ vs) (hsl _ (hun S1))
  have ems : Mx N α1 (wipeS S1 vs) (L2.wipe σ vs) = Mx N α1 (wipeS S1 vs) σ := funext fun a => propext (mxs a)
  have s0 : Same (lim H1 (Mx N α1 S1 σ)) (lim Ht (Mx N α1 (wipeS S1 vs) (L2.wipe σ vs))) := by
    rw [ems]
    exact gt.same.trans sw
  -- the end, told to the def
  have done : ∀ {α2 : List Addr} {Hc : Hp} {S2 : Sx} {b : Bool}, SR K N H0 α0 α2 (L2.wipe σ vs) Hc S2 → Gr α1 H1 S1 α2 Hc S2 → (∀ (j : Nat) (x : Slot), j ∈ vs → S2.env[j]? = some x → x = .un) → some (D.bl b, S2) = some (res, S') → Q (.bl b) Hc := by
    intro α2 Hc S2 b R2 g2 un ef
    cases ef
    obtain ⟨Rf, _⟩ := R2.slots (σ' := σ) (wipe_length σ vs).symm (fun j x hx nx => by
      by_cases c : j ∈ vs
      · exact absurd (un j x c hx) nx
      · exact (wipe_out c).symm)
    exact q (.bl b) α2 Hc Rf (g1.trans g2) (.bl b)
  refine ⟨fun i Hc => ∃ α2 S2, SR K N H0 α0 α2 (L2.wipe σ vs) Hc S2 ∧ Gr α1 H1 S1 α2 Hc S2 ∧ Same (lim H1 (Mx N α1 S1 σ)) (lim Hc (Mx N α2 S2 (L2.wipe σ vs))) ∧ allF stop vs fg fe (ds.drop i) S2 = some (res, S') ∧ ∀ (j : Nat) (x : Slot), j ∈ vs → S2.env[j]? = some x → x = .un, ds.length,
    ⟨α1, wipeS S1 vs, Rs, gt.trans (Gr.wipe vs), s0, e, hun S1⟩, ?_, ?_⟩
  · rintro i H2 hi ⟨α2, S2, R2, g2, s2, ef, un⟩
    refine ⟨W.goes i H2 hi (WG H2 _ s2 g2.frz), fun x H3 y => ?_⟩
    have y := W.yields i H2 x H3 hi (WG H2 _ s2 g2.frz) y
    obtain ⟨s3, d, ed, dd⟩ := WY i H2 x H3 _ hi s2 g2.frz R2.mlive y
    have R3 := R2.same s3
    have hd : ds.drop i = d :: ds.drop (i + 1) := by
      rw [List.drop_eq_getElem_cons hi]
      congr 1
      rw [List.getElem?_eq_getElem hi] at ed
      exact Option.some.inj ed
    rw [hd] at ef
    obtain ⟨S4, e4, ef⟩ := opt_bind ef
    obtain ⟨⟨b, S5⟩, e5, ef⟩ := opt_bind ef
    have s23 : Same (lim H2 (Mx N α2 S2 (L2.wipe σ vs))) (lim H3 (Mx N α2 S2 (L2.wipe σ vs))) := lim_mono s3
    refine hg N H0 α0 α2 (L2.wipe σ vs) H3 S2 d x S4 _ R3 (dd α2 g2.pre) e4 fun σ4 α4 H4 R4 g4 s4 w4 => ⟨?_, ?_⟩
    · rw [wipe_wr w4 hw]
      exact wipe_wr (ws := vs) ⟨wipe_length σ vs, fun j h => wipe_out h⟩ fun j h => h
    refine he N H0 α0 α4 σ4 H4 S4 b S5 _ R4 e5 fun v α5 H5 R5 g5 d5 => ?_
    have g05 : Gr α1 H1 S1 α5 H5 S5 := ((g2.trans (.of_same s3)).trans g4).trans g5
    have s05 : Same (lim H1 (Mx N α1 S1 σ)) (lim H5 (Mx N α5 S5 σ4)) := ((s2.trans s23).trans s4).trans g5.same
    have back : SR K N H0 α0 α5 (L2.wipe σ vs) H5 (wipeS S5 vs) ∧ Same (lim H5 (Mx N α5 S5 σ4)) (lim H5 (Mx N α5 (wipeS S5 vs) (L2.wipe σ vs))) := by
      obtain ⟨Ra, sa⟩ := R5.wipe vs
      have hw4 : ∀ (j : Nat), j ∉ vs → (L2.wipe σ vs)[j]? = σ4[j]? := fun j h => (w4.2 j fun z => h (hw j z)).symm
      obtain ⟨Rb, mb⟩ := Ra.slots (σ' := L2.wipe σ vs) w4.1.symm (fun j x hx nx => by
        by_cases c : j ∈ vs
        · exact absurd (hun S5 j x c hx) nx
        · exact hw4 j c)
      have eb : Mx N α5 (wipeS S5 vs) (L2.wipe σ vs) = Mx N α5 (wipeS S5 vs) σ4 := funext fun a => propext (mb a)
      exact ⟨Rb, by rw [eb]; exact sa⟩
    obtain ⟨Rb, sb⟩ := back
    cases d5 with
    | bl p =>
      have ef : (if p = stop then some (D.bl stop, wipeS S5 vs) else allF stop vs fg fe (ds.drop (i + 1)) (wipeS S5 vs)) = some (res, S') := ef
      refine ⟨p, rfl, fun c => ?_, fun c => ?_⟩
      · rw [if_pos c] at ef
        exact done Rb (g05.trans (.wipe vs)) (hun S5) ef
      · rw [if_neg (by rw [c]; cases stop <;> decide)] at ef
        exact ⟨α5, wipeS S5 vs, Rb, g05.trans (.wipe vs), s05.trans sb, ef, hun S5⟩
    | _ => cases ef
  · rintro Hc ⟨α2, S2, R2, g2, s2, ef, un⟩
    refine ⟨W.stops Hc (WG Hc _ s2 g2.frz), ?_⟩
    rw [List.drop_length] at ef
    exact done R2 g2 un ef
theorem rf_gx (hw : ∀ j, j ∈ ws → j ∈ vs) (hi : RefI K wi fi) (hg : RefG K ws tg fg) (he : RefE K te fe) : RefE K (Gx.tAG (tbA K nm) wi tg te vs stop) (eGx nm stop vs fi fg fe) := rf_gxZ hw hi.z hg he
end
end Dl

set_option Elab.async false
set_option linter.all false
set_option maxRecDepth 100000
set_option maxHeartbeats 4000000
namespace Dl
open PySem PySem.Spec PyProof.Rows L2
/-! ### defs that know their code object; all, any as expressions -/
section
variable {P : Program} {w : World} {K : PySem.W.Frag} {mg : Str → Option Value} {base : Heap}
theorem fnGc {CX : CXT} {k : Nat} {x qual : Str} {st : Stmt} {f : Addr} {fd : FuncData} {N ps : List Str} {sp : Sp}
    (F : Fun K x qual st f fd) (S : FnScope N ps (defScope st)) (len : ∀ vs H Q E, sp vs H Q E → vs.length = ps.length)
    (hbody : ∀ (cdv : Value), fd.code = cdv → ∀ (A : Around) (outer : List Env) (s : Shared) (H : Hp) (vs : List V) (Q : VK) (E : XK),
      Room k (A.deeper (envOfC qual (defScope st) s.heap.objs.size f cdv)) → Bg.Gd A → sp vs H Q E →
      ∃ t, PSs (cxOf CX P w K mg base N qual (defScope st) f cdv A outer s H E) (defBody st) t ∧
        t { nx := fun _ H' => Q .non H', rt := Q } (start N vs) H) :
    Bg.FnG P w K mg base CX (k + 1) f fd ps sp := by
  obtain ⟨oc, od, kV, doc, pm, an, cdv, ct, osl, rfl, lk, hcd⟩ := F.ex
  constructor
  · exact len
  intro A outer s H args us vs Q E room gd env bnd rel hsp
  have kin : K.In s.heap := env.mod.kin.keeps (fun b o e => (env.bs b o e).1)
  have kinds : ∀ y ∈ ps.zip us, (defScope st).names.lookup y.1 = some .local ∨
      ((defScope st).names.lookup y.1 = some .cell ∧
        ((cellsFrom (s.heap.objs.size + 1) (defScope st).names []).lookup y.1).isSome = true) := by
    rintro ⟨n, v⟩ hy
    cases S.par n (List.of_mem_zip hy).1 with
    | inl q => exact Or.inl q
    | inr q => exact Or.inr ⟨q, PySem.W.cellsFrom_some _ _ _ (Or.inl q)⟩
  apply codeAny_call_function room.depth (kin _ _ lk) rfl S.co S.gen rfl (PySem.W.codeRec_of kin hcd)
  apply bnd
  apply wpAny_newFunctionEnv_cells S.kind kinds
  intro env' he s1 x1
  subst he
  obtain ⟨t, ht, hq⟩ := hbody cdv rfl A outer s H vs Q E (room.deeper _) gd hsp
  have I := inv_start (CX := CX) (E := E) (outer := outer) S room.hd env (len _ _ _ _ hsp) rel x1
  refine ⟨(env.mod.nolimit.keeps (fun b o e => (env.bs b o e).1)).keeps x1.toInCall.keep, codeAny_func ?_⟩
  apply wpAny_mono (ht.run [] s1 (start N vs) H _ I hq)
  · intro fl s' hs
    cases fl with
    | ret u => obtain ⟨v, σ', H', J, rv, q⟩ := hs; exact ⟨v, H', J.os, J.bare, J.base, J.hok, rv, q⟩
    | next => obtain ⟨σ', H', J, q⟩ := hs; exact ⟨V.non, H', J.os, J.bare, J.base, J.hok, rfl, q⟩
    | brk => obtain ⟨_, _, _, q⟩ := hs; exact q.elim
    | cont => obtain ⟨_, _, _, q⟩ := hs; exact q.elim
  · exact fun _ _ hs => hs
theorem fnG0c {P : Program} {w : World} {K : PySem.W.Frag} {mg : Str → Option Value} {base : Heap} {k : Nat} {x qual : Str} {st : Stmt} {f : Addr} {fd : FuncData} {N ps : List Str} {sp : Sp}
    (F : Fun K x qual st f fd) (S : FnScope N ps (defScope st)) (len : ∀ vs H Q E, sp vs H Q E → vs.length = ps.length)
    (hbody : ∀ (cdv : Value), fd.code = cdv → ∀ (A : Around) (outer : List Env) (s : Shared) (H : Hp) (vs : List V) (Q : VK) (E : XK),
      Room k (A.deeper (envOfC qual (defScope st) s.heap.objs.size f cdv)) → Bg.Gd A → sp vs H Q E →
      ∃ t, PSs (cxOf CX0 P w K mg base N qual (defScope st) f cdv A outer s H E).nox (defBody st) t ∧
        t { nx := fun _ H' => Q .non H', rt := Q } (start N vs) H) :
    Bg.FnG P w K mg base CX0 (k + 1) f fd ps sp :=
  fnGc F S len fun cdv hcd A outer s H vs Q E hr g h => by
    obtain ⟨t, ht, q⟩ := hbody cdv hcd A outer s H vs Q E hr g h
    exact ⟨t, ht.nox, q⟩
theorem fn_dataC {k : Nat} {x qual : Str} {st : Stmt} {f : Addr} {fd : FuncData} {Nm ps : List Str} {b : DS} (F : Fun K x qual st f fd) (Sc : FnScope Nm ps (defScope st))
    (hb : ∀ (cdv : Value), fd.code = cdv → ∀ (A : Around) (outer : List Env) (s : Shared) (H : Hp) (E : XK), Room k (A.deeper (envOfC qual (defScope st) s.heap.objs.size f cdv)) → Bg.Gd (A.deeper (envOfC qual (defScope st) s.heap.objs.size f cdv)) →
      JSs (cxOf CX0 P w K mg base Nm qual (defScope st) f cdv A outer s H E).nox (defBody st) b) :
    Bg.FnG P w K mg base CX0 (k + 1) f fd ps (spD K (fnD ps.length Nm.length b)) := by
  have hpl : ps.length ≤ Nm.length := by have := congrArg List.length Sc.pre; rw [List.length_take] at this; omega
  have hlen : ∀ vs H Q E, spD K (fnD ps.length Nm.length b) vs H Q E → vs.length = ps.length := by
    rintro vs H Q E ⟨N, α, ds, st0, d, st', nd, lv, na, dr, sr, e, q⟩
    unfold fnD at e
    split at e
    · rename_i h; rw [dr.len, h]
    · cases e
  refine fnG0c F Sc hlen fun cdv hcd A outer s H vs Q E hr gd h => ?_
  have hvl := hlen _ _ _ _ h
  obtain ⟨N, α, ds, st0, d, st', nd, lv, na, dr, sr, e, q⟩ := h
  have J := hb cdv hcd A outer s H E hr (gd.deep _)
  refine ⟨_, J.pe, ?_⟩
  unfold fnD at e
  split at e
  case isFalse => cases e
  obtain ⟨⟨fl, S'⟩, e1, e⟩ := opt_bind e
  have R := sr_start (Nm := Nm) (vs := vs) (by rw [hvl]; exact hpl) nd lv na dr sr
  refine J.rf N H α α (start Nm vs) H _ fl S' _ R e1 fun σ' α' H' R' pre sm => ?_
  have wk : ∀ a, NA N α' a → Mx N α' S' σ' a := fun a m => m.imp id .inl
  have fin : ∀ v, DR K α' (lim H' (Mx N α' S' σ')) v d → st' = S'.st → Q v H' := fun v dv es =>
    q v α' H' pre R'.nd (fun a h n => R'.fral a h n) R'.na (by rw [es]; exact R'.sto.weaker wk) (fun a o n h => R'.keep a o n h) (fun a o u h => R'.frz a o u h) (dv.mono (lim_weaker wk) (List.prefix_refl _))
  cases fl with
  | nx => cases e; exact fin _ .non rfl
  | ret r => cases e; exact fun v dv => fin v dv rfl
  | brk => cases e
  | cont => cases e
end
/-- the table of the def named nm -/
structure TbOk (K : PySem.W.Frag) (base : Heap) (mg : Str → Option Value) (nm : Str) : Prop where
  ex : ∃ c, cdA K nm = .ref c ∧ GxR.TabB base mg c (tbA K nm)
theorem cdA_of {K : PySem.W.Frag} {nm qual : Str} {st : Stmt} {f : Addr} {fd : FuncData} (F : Fun K nm qual st f fd) (h : rho K nm = f) : cdA K nm = fd.code := by
  obtain ⟨oc, od, kV, doc, pm, an, cdv, ct, osl, e, lk, _⟩ := F.ex
  unfold cdA
  rw [h, lk]
section
variable {X : Cx} {elt tgt iter : Expr} {scope : Scope} {own : List (Str × Nat)} {fi : DI} {fg : DG} {fe : DE} {ws : List Nat} {nm : Str} {gpos p pos : Pos} {k : Nat}
/-- the scope of a generator expression: no cells of its own -/
def genC (scope : Scope) : Bool := (scope.names.all fun y => decide (y.2 ≠ .cell)) && (decide (scope.names.lookup (".0" : Str) = some NameKind.local) && !scope.isCoroutine)
theorem genC_ok (h : genC scope = true) : (∀ y ∈ scope.names, y.2 ≠ .cell) ∧ scope.names.lookup (".0" : Str) = some NameKind.local ∧ scope.isCoroutine = false := by
  unfold genC at h
  rw [Bool.and_eq_true, Bool.and_eq_true, List.all_eq_true] at h
  refine ⟨fun y hy => of_decide_eq_true (h.1 y hy), of_decide_eq_true h.2.1, ?_⟩
  have := h.2.2
  cases e : scope.isCoroutine
  · rfl
  · rw [e] at this; cases this
theorem je_all (hr : Room (k + 1) X.A) (gd : Bg.Gd X.A) (hgl : Gl X "all") (hm : X.mg "all" = none) (tb : TbOk X.K X.base X.mg nm) (hcode : X.env.code = cdA X.K nm) (hN : X.N.Nodup) (hi : JI X tgt iter fi) (ok : BlkOk X.N X.env.scope scope own) (gc : genC scope = true)
    (hw : ∀ j, j ∈ ws → j ∈ own.map (·.2)) (hg : ∀ (s : Shared) (H : Hp) (C : Addr) (cv : Value) (fp : List Addr) (B : Around), JG (Gx.gcx X s H (Gx.genv X scope C cv) fp B) tgt ws fg)
    (he : ∀ (s : Shared) (H : Hp) (C : Addr) (cv : Value) (fp : List Addr) (B : Around), Room k B → Bg.Gd B → JE (Gx.gcx X s H (Gx.genv X scope C cv) fp B) elt fe) (hs : ∀ v, genFold iter X.env v = pure v := by intro _; rfl)
    (hst : starEach [.GeneratorExp elt [⟨tgt, iter, [], 0⟩] scope gpos] X.env = (false, eval (.GeneratorExp elt [⟨tgt, iter, [], 0⟩] scope gpos) X.env) :: starEach [] X.env := by rfl) :
    JE X (.Call (.Name "all" p) [.GeneratorExp elt [⟨tgt, iter, [], 0⟩] scope gpos] [] pos) (eGx nm false (own.map (·.2)) fi fg fe) := by
  obtain ⟨c, e1, TB⟩ := tb.ex
  obtain ⟨g1, g2, g3⟩ := genC_ok gc
  exact JE.of (Gx.pe_all (g := tgOf X.K ws fg) (te := teOf X.K fe) hr hgl hm (by decide +kernel) hN TB (hcode.trans e1) hi.pe ok g1 g2 g3 (fun s H C cv fp B => (hg s H C cv fp B).pe) (fun s H C cv fp B r q => (he s H C cv fp B (r k hr) (q.trans gd)).pe) hs hst) (rf_gx hw hi.rf rf_tgOf rf_teOf)
end
/-! ### evaluation -/
section
variable {S S1 S9 : Sx} {it : DI} {g : DG} {e : DE} {ds : List D} {vs : List Nat} {nm : Str}
end
end Dl

set_option Elab.async false
set_option linter.all false
set_option maxRecDepth 100000
set_option maxHeartbeats 4000000
namespace Gx
open PySem PySem.Spec PyProof.Rows L2 GxR
/-! ### the end of a law's row with tables, its def told by FnG -/
section
variable {P : Program} {w : World} {K : PySem.W.Frag} {mg mb : Str → Option Value} {CX : CXT} {k : Nat} {fa a : Addr} {fd : FuncData} {x : Str} {sp : Sp}
  {s1 : Shared} {vs : List Value} {ns : List Int} {cs : List (Addr × Addr)}
/-- H tracks the script, locked, and the tables, empty -/
structure ScrT (P : Program) (w : World) (K : PySem.W.Frag) (H : Hp) (s1 : Shared) (a : Addr) (cs : List (Addr × Addr)) (xs : List V) : Prop where
  only : ∀ b, H b = none ∨ (b = a ∧ ∃ o, H b = some (.frz o (.lst xs))) ∨ (∃ p ∈ cs, p.2 = b ∧ H b = some (.tbl #[]))
  tabs : ∀ p ∈ cs, H p.2 = some (.tbl #[])
  seq : SqL K H a xs
  hok : HOk P w H s1.heap
  out : H a ≠ none → K.lookup a = none
theorem scrT_run (kin : K.In s1.heap) (hns : s1.heap.Ns mainGlobals mg) (hb : s1.heap.Ns builtinsNs mb) (hbb : ∀ x : Str, x ≠ "__name__" → mb x = bootBuiltins x)
    (hlim : s1.heap.NoLimit) (hg : s1.gens = #[]) (ha : s1.heap.get? a = some { cls := .type "list", data := .seq vs.toArray }) (hr : Room k callerA)
    (hT : ∀ p ∈ cs, s1.heap.get? p.2 = some { cls := .none, data := .fields #[] }) (nT : ∀ p ∈ cs, K.lookup p.2 = none) (hC : ∀ p ∈ cs, PySem.W.CodeHd s1.heap p.1 p.2)
    (hbm : ∃ (bm : Addr) (ob : Obj), mg "__builtins__" = some (.ref bm) ∧ bm ≠ builtinsNs ∧ s1.heap.get? bm = some ob ∧ ob.cls = .type "module" ∧ ob.dict = some builtinsNs ∧ ob.data = .plain)
    (F : ∀ base : Heap, K.In base → base.Ns mainGlobals mg → (∀ p ∈ cs, TabB base mg p.1 p.2) → Bg.FnG P w K mg base CX k fa fd [x] sp)
    (hbind : ∀ (s : Shared) (u : Value), BindsTo s fd ⟨[u], []⟩ [(x, u)]) (H : Hp) {xs : List V} (C : ScrT P w K H s1 a cs xs)
    (hsp : sp [.ref a] H (fun v _ => v = .bl true) fun _ _ _ => False) (hCX : ∀ e s', CX [] H s1 (fun _ _ _ => False) e s' → False) :
    codeAny (model P w) callerA (.call (.ref fa) ⟨[.ref a], []⟩)
      (fun r s' => r = .ok (.ret (.bool true)) ∧ OldK s1.heap s'.heap ∧ s'.os = s1.os ∧ AllBare s'.gens) s1 := by
  have free : ∀ {b : Addr} {o : Obj}, s1.heap.get? b = some o → (∀ es, o.data ≠ .seq es 0) → o.data ≠ .fields #[] → H b = none := by
    intro b o e h1 h2
    rcases C.only b with q | ⟨rfl, _⟩ | ⟨p, hp, rfl, _⟩
    · exact q
    · rw [ha] at e; cases e; exact absurd rfl (h1 _)
    · rw [hT p hp] at e; cases e; exact absurd rfl h2
  have nsk : ∀ {b : Addr} {m : Str → Option Value}, s1.heap.Ns b m → (hidT s1.heap H).Ns b m := by
    rintro b m ⟨o, es, ep, e, d, r⟩
    exact ⟨o, es, ep, hidT_get e (free e (fun q z => by rw [d] at z; cases z) (fun z => by rw [d] at z; cases z)), d, r⟩
  have kb : K.In (hidT s1.heap H) := by
    intro b o e
    apply hidT_get (kin b o e)
    rcases C.only b with q | ⟨rfl, ob, q⟩ | ⟨p, hp, rfl, q⟩
    · exact q
    · rw [C.out (by rw [q]; exact fun z => by cases z)] at e; cases e
    · rw [nT p hp] at e; cases e
  have md : Mod K mg (hidT s1.heap H) := by
    obtain ⟨mc, h1, h2⟩ := hlim
    exact ⟨kb, nsk hns, ⟨mb, nsk hb, hbb⟩, mc, nsk h1, h2⟩
  have tb : ∀ p ∈ cs, TabB (hidT s1.heap H) mg p.1 p.2 := by
    intro p hp
    have hTp := hT p hp
    obtain ⟨bm, ob, b1, b2, b3, b4, b5, b6⟩ := hbm
    constructor
    case code =>
      obtain ⟨o, us, file, tf, flags, tg, inF, text, tt, e1, r1, r2, r3, rest⟩ := hC p hp
      refine ⟨o, us, file, tf, flags, tg, inF, text, tt, hidT_get e1 (free e1 (fun q z => by rw [r2] at z; cases z) fun z => ?_), r1, r2, r3, rest⟩
      rw [r2] at z
      cases z
      simp at r3
    case bm =>
      refine ⟨bm, ob, b1, b2, fun q => ?_, fun q => ?_, hidT_get b3 (free b3 (fun q z => by rw [b6] at z; cases z) (fun z => by rw [b6] at z; cases z)), b4, b5, b6⟩
      · obtain ⟨o, es, ep, e, hd, _⟩ := hns
        rw [q, e] at b3; cases b3
        rw [hd] at b6; cases b6
      · rw [q, hTp] at b3; cases b3
        cases b6
    case gP =>
      intro z
      obtain ⟨o, es, ep, e, hd, _⟩ := hns
      rw [z, hTp] at e; cases e
      cases hd
  have env : Env0 P w K mg (hidT s1.heap H) callerA [] s1 H :=
    ⟨rfl, md, fun _ _ e => of_hidT e, Nat.le_of_eq (hidT_size _ _), trivial, fun b z => (nomatch (show b ∈ ([] : List Addr) from z)), C.hok, .of_eq hg⟩
  have run := (F _ kb (nsk hns) tb).run callerA [] s1 H ⟨[.ref a], []⟩ [.ref a] [.ref a] _ _ hr rfl env (hbind s1 (.ref a)) (.cons rfl .nil) hsp
  refine codeAny_mono run ?_
  intro r s' h
  cases r with
  | error e => exact (hCX e s' h).elim
  | ok fl =>
    cases fl with
    | next => exact h.elim
    | brk => exact h.elim
    | cont => exact h.elim
    | ret u =>
      obtain ⟨v, H', os, bare, un, hok, rv, q⟩ := h
      cases (show v = .bl true from q)
      cases (show u = Value.bool true from rv)
      have bigger : ∀ r ∈ cs, ∃ now : Array Value, s'.heap.get? r.2 = some { cls := .none, data := .fields now } := by
        intro r hr
        obtain ⟨_, z⟩ := un.tbls r.2 #[] (C.tabs r hr)
        exact ⟨_, hok r.2 _ z⟩
      have same : ∀ b o, (∀ p ∈ cs, p.2 ≠ b) → s1.heap.get? b = some o → s'.heap.get? b = some o := fun b o nb e => by
        rcases C.only b with z | ⟨_, ob, z⟩ | ⟨p, hp, z, _⟩
        · exact un.keep b o e z (fun y => (nomatch (show b ∈ ([] : List Addr) from y))) (fun y => (nomatch y))
        · have e1 := (C.hok b _ z).1
          have e2 := (hok b _ (un.frzs b ob _ z)).1
          rw [e] at e1; cases e1
          exact e2
        · exact absurd z (nb p hp)
      refine ⟨rfl, ?_, os, bare⟩
      refine ⟨fun b o e => ?_, fun b o e => ?_⟩
      · by_cases c : ∃ p ∈ cs, p.2 = b
        · obtain ⟨p, hp, rfl⟩ := c
          obtain ⟨more, hm⟩ := bigger p hp
          rw [hT p hp] at e
          cases e
          exact .inr (.inl ⟨((hC p hp).tab (hT p hp)).isCodeTable, rfl, #[], more, rfl, by rw [Array.empty_append]; exact hm⟩)
        · exact .inl (same b o (fun p hp z => c ⟨p, hp, z⟩) e)
      · by_cases c : ∃ p ∈ cs, p.2 = b
        · obtain ⟨p, hp, rfl⟩ := c
          obtain ⟨more, hm⟩ := bigger p hp
          exact ⟨_, hm⟩
        · exact ⟨o, same b o (fun p hp z => c ⟨p, hp, z⟩) e⟩
theorem scrT_of (P : Program) (w : World) (ha : s1.heap.get? a = some { cls := .type "list", data := .seq vs.toArray }) (hi : IntsAre vs ns) (hl : ns.length ≤ sizeLine) (kin : K.In s1.heap)
    (hT : ∀ p ∈ cs, s1.heap.get? p.2 = some { cls := .none, data := .fields #[] }) : ∃ H, ScrT P w K H s1 a cs (ns.map V.int) := by
  have rv := vals_ints hi
  have aT : ∀ p ∈ cs, p.2 ≠ a := fun p hp z => by
    have e := hT p hp
    rw [z, ha] at e
    have e2 : Data.seq vs.toArray _ = Data.fields #[] := congrArg Obj.data (Option.some.inj e)
    cases e2
  have inT : ∀ b, b ∈ cs.map (·.2) → ∃ p ∈ cs, p.2 = b := fun b hb => by
    obtain ⟨p, hp, e⟩ := List.mem_map.mp hb
    exact ⟨p, hp, e⟩
  have na : a ∉ cs.map (·.2) := fun z => by
    obtain ⟨p, hp, e⟩ := inT a z
    exact aT p hp e
  cases hk : K.lookup a with
  | some o =>
    have e := kin a o hk
    rw [ha] at e; cases e
    refine ⟨fun b => if b ∈ cs.map (·.2) then some (.tbl #[]) else none, fun b => ?_, fun p hp => if_pos (List.mem_map.mpr ⟨p, hp, rfl⟩), .inr ⟨_, vs.toArray, _, hk, rfl, rfl, rfl, ?_, by simpa using rv⟩, fun b u z => ?_, fun z => absurd (if_neg na) z⟩
    · by_cases hb : b ∈ cs.map (·.2)
      · obtain ⟨p, hp, e⟩ := inT b hb
        exact .inr (.inr ⟨p, hp, e, if_pos hb⟩)
      · exact .inl (if_neg hb)
    · rw [List.size_toArray, hi.length]; exact hl
    · by_cases hb : b ∈ cs.map (·.2)
      · obtain ⟨p, hp, rfl⟩ := inT b hb
        cases (if_pos hb).symm.trans z
        exact hT p hp
      · exact nomatch ((if_neg hb).symm.trans z)
  | none =>
    refine ⟨fun b => if b = a then some (.frz { cls := .type "list", data := .seq vs.toArray } (.lst (ns.map V.int))) else if b ∈ cs.map (·.2) then some (.tbl #[]) else none, fun b => ?_, fun p hp => (if_neg (aT p hp)).trans (if_pos (List.mem_map.mpr ⟨p, hp, rfl⟩)), .inl (.inr ⟨_, if_pos rfl⟩), fun b u z => ?_, fun _ => hk⟩
    · by_cases e : b = a
      · exact .inr (.inl ⟨e, _, if_pos e⟩)
      · by_cases hb : b ∈ cs.map (·.2)
        · obtain ⟨p, hp, e2⟩ := inT b hb
          exact .inr (.inr ⟨p, hp, e2, (if_neg e).trans (if_pos hb)⟩)
        · exact .inl ((if_neg e).trans (if_neg hb))
    · by_cases e : b = a
      · subst e
        have z2 : (HO.frz { cls := .type "list", data := .seq vs.toArray } (.lst (ns.map V.int))) = u := Option.some.inj ((if_pos rfl).symm.trans z)
        subst z2
        exact ⟨ha, by rw [List.length_map]; exact hl, vs, _, rv, ha⟩
      · by_cases hb : b ∈ cs.map (·.2)
        · obtain ⟨p, hp, rfl⟩ := inT b hb
          cases (if_pos hb).symm.trans ((if_neg e).symm.trans z)
          exact hT p hp
        · exact nomatch ((if_neg hb).symm.trans ((if_neg e).symm.trans z))
end
theorem walkGT {l : PySem.W.OpenLaw} {n k : Nat} {q : Program} {loose : List Str} {XP : (Str → Option Value) → Heap → Prop} {YP : World → Heap → Prop} {d : DefRec}
    {K : Params → PySem.W.Frag} {CX : World → CXT} {sp : World → Sp} {x : Str} (hn : l.most = some n) (hn2 : n ≤ sizeLine) (hdf : d.params.defaults = []) (hr : Room k callerA)
    (hY : ∀ (w : World) (h : Heap), YP w h → (K w.params).In h)
    (F : ∀ (w : World) (mg mb : Str → Option Value) (ls : List Str) (mean : ExcName → Option Value) (fa : Addr) (h : Heap), YP w h → (K w.params).In h → PyProof.Rows.Top q ls mean mg mb h → h.Ns mainGlobals mg → mg d.name = some (.ref fa) →
      ∃ (fd : FuncData) (cs : List (Addr × Addr)), (∀ p ∈ cs, h.get? p.2 = some { cls := .none, data := .fields #[] }) ∧ (∀ p ∈ cs, (K w.params).lookup p.2 = none) ∧ (∀ p ∈ cs, PySem.W.CodeHd h p.1 p.2) ∧ (∀ (s : Shared) (u : Value), BindsTo s fd ⟨[u], []⟩ [(x, u)]) ∧
        (∀ (H : Hp) (a : Addr) (ns : List Int), ns.length ≤ n → (∀ p ∈ cs, H p.2 = some (.tbl #[])) → SqL (K w.params) H a (ns.map V.int) → sp w [.ref a] H (fun v _ => v = .bl true) fun _ _ _ => False) ∧
        ∀ base : Heap, (K w.params).In base → base.Ns mainGlobals mg → (∀ p ∈ cs, TabB base mg p.1 p.2) → Bg.FnG l.prog w (K w.params) mg base (CX w) k fa fd [x] (sp w))
    (hCX : ∀ (w : World) (H : Hp) (s : Shared) (e : Value) (s' : Shared), CX w [] H s (fun _ _ _ => False) e s' → False) :
    PySem.W.WalkO q loose XP YP l.row.toRowW d [] (fun f vs => PySem.call f vs) := by
  apply Att.attach_callB hn hdf
  intro w s0 s1 mg mb fa o pm cd doc a vs ns G Y ho hd hcd hmg hobj hints hlen hbits hg
  have kin := hY w _ Y
  obtain ⟨fd, cs, hT, nT, hC, hb, hsp, hF⟩ := F w mg mb _ _ fa _ Y kin G.T G.T.g hmg
  obtain ⟨H, C⟩ := scrT_of (K := K w.params) l.prog w hobj hints (Nat.le_trans hlen hn2) kin hT
  exact scrT_run kin G.T.g G.T.b G.T.builtins G.T.nolimit hg hobj hr hT nT hC G.T.bmain hF hb H C (hsp H a ns hlen C.tabs C.seq) (fun e s' => hCX w H s1 e s')
end Gx

set_option Elab.async false
set_option linter.all false
set_option maxRecDepth 100000
set_option maxHeartbeats 4000000
namespace Dl
open PySem PySem.Spec PyProof.Rows L2
/-! ### a law whose defs hold generator expressions: its end -/
theorem tb_of {K : PySem.W.Frag} {nm : Str} {c P : Addr} (h : PySem.W.tabIn K nm = some (c, P)) : cdA K nm = .ref c ∧ tbA K nm = P := by
  unfold PySem.W.tabIn at h
  unfold tbA cdA rho
  split at h
  · rename_i f e1
    rw [e1]
    simp only
    split at h
    · rename_i fd _ e2
      rw [e2]
      simp only
      split at h
      · rename_i c' e3
        rw [e3]
        simp only
        split at h
        · rename_i vs _ e4
          rw [e4]
          simp only
          split at h
          · rename_i P' e5
            cases h
            rw [e5]
            exact ⟨rfl, rfl⟩
          · cases h
        · cases h
      · cases h
    · cases h
  · cases h
theorem law_spT {K : PySem.W.Frag} {F : DF} {H : Hp} {a : Addr} {ns : List Int} {E : XK} {nms : List Str} (nd : (nms.map (tbA K)).Nodup) (ht : ∀ nm, nm ∈ nms → H (tbA K nm) = some (.tbl #[]))
    (h : ∃ st', F [.lst (ns.map D.int)] (nms.map DO.tbl) = some (.bl true, st')) (hS : SqL K H a (ns.map V.int)) : spD K F [.ref a] H (fun v _ => v = .bl true) E := by
  obtain ⟨st', e⟩ := h
  have no : ∀ {b : Addr} {o : HO}, H b = some o → (∀ ps, o ≠ .tbl ps) → ¬ NA (fun _ => False) (nms.map (tbA K)) b := fun {b o} q n z => by
    rcases z with z | z
    · exact z
    · obtain ⟨nm, hm, rfl⟩ := List.mem_map.mp z
      rw [ht nm hm] at q
      cases q
      exact n _ rfl
  have es : SqL K (lim H (NA (fun _ => False) (nms.map (tbA K)))) a (ns.map V.int) := by
    rcases hS with (h | ⟨o, h⟩) | h
    · exact .inl (.inl (lim_some.mpr ⟨no h fun ps z => (nomatch z), h⟩))
    · exact .inl (.inr ⟨o, lim_some.mpr ⟨no h fun ps z => (nomatch z), h⟩⟩)
    · exact .inr h
  refine ⟨fun _ => False, nms.map (tbA K), [.lst (ns.map D.int)], nms.map DO.tbl, .bl true, st', nd, fun a z => z.elim, fun a _ z => z, .cons (.lst es DRs.ints) .nil, ⟨by rw [List.length_map, List.length_map], fun n o q => ?_⟩, e, ?_⟩
  · rw [List.getElem?_map] at q
    obtain ⟨nm, q1, rfl⟩ := Option.map_eq_some_iff.mp q
    exact ⟨tbA K nm, by rw [List.getElem?_map, q1]; rfl, rfl, #[], ht nm (List.mem_of_getElem? q1), trivial⟩
  · intro v α' H' _ _ _ _ _ _ _ d
    cases d
    rfl
/-- every named def has a table; no table is written out; no two are one -/
def tabsOkB (K : PySem.W.Frag) (nms : List Str) : Bool := (nms.all fun nm => match PySem.W.tabIn K nm with
  | some p => (K.lookup p.2).isNone
  | none => false) && decide ((nms.filterMap fun nm => (PySem.W.tabIn K nm).map (·.2)).Nodup)
theorem tabsOk {K : PySem.W.Frag} {nms : List Str} (h : tabsOkB K nms = true) : (∀ nm, nm ∈ nms → ∃ c P, PySem.W.tabIn K nm = some (c, P) ∧ K.lookup P = none) ∧ (nms.map (tbA K)).Nodup := by
  unfold tabsOkB at h
  rw [Bool.and_eq_true, List.all_eq_true] at h
  have one : ∀ nm, nm ∈ nms → ∃ c P, PySem.W.tabIn K nm = some (c, P) ∧ K.lookup P = none := fun nm hm => by
    have q := h.1 nm hm
    cases e : PySem.W.tabIn K nm with
    | none => rw [e] at q; cases q
    | some p =>
      rw [e] at q
      exact ⟨p.1, p.2, rfl, Option.isNone_iff_eq_none.mp q⟩
  refine ⟨one, ?_⟩
  have nd := of_decide_eq_true h.2
  have eq : ∀ l : List Str, (∀ nm, nm ∈ l → nm ∈ nms) → (l.filterMap fun nm => (PySem.W.tabIn K nm).map (·.2)) = l.map (tbA K) := by
    intro l
    induction l with
    | nil => exact fun _ => rfl
    | cons nm l ih =>
      intro hl
      obtain ⟨c, P, e, _⟩ := one nm (hl nm (List.mem_cons_self ..))
      rw [List.filterMap_cons, e, List.map_cons, ih fun x hx => hl x (List.mem_cons_of_mem _ hx), (tb_of e).2]
      rfl
  rw [eq nms fun _ h => h] at nd
  exact nd
theorem walkGD {l : PySem.W.OpenLaw} {n k : Nat} {q : Program} {loose : List Str} {XP : (Str → Option Value) → Heap → Prop} {YP : World → Heap → Prop} {d : DefRec} {K : Params → PySem.W.Frag} {x : Str} {F : DF} (nms : List Str)
    (hn : l.most = some n) (hn2 : n ≤ sizeLine) (hdf : d.params.defaults = []) (hr : Room k callerA) (hY : ∀ (w : World) (h : Heap), YP w h → (K w.params).In h)
    (tabsB : ∀ (w : World), tabsOkB (K w.params) nms = true) (recs : (nms.all fun nm => ((PyProof.Rows.recsOf q).find? (fun e => e.name == nm)).isSome) = true)
    (Fd : ∀ (w : World) (mg : Str → Option Value) (fa : Addr) (h : Heap), (K w.params).In h → h.Ns mainGlobals mg → mg d.name = some (.ref fa) →
      ∃ fd : FuncData, (∀ (s : Shared) (u : Value), BindsTo s fd ⟨[u], []⟩ [(x, u)]) ∧ ∀ base : Heap, (K w.params).In base → base.Ns mainGlobals mg → (∀ nm, nm ∈ nms → TbOk (K w.params) base mg nm) → Bg.FnG l.prog w (K w.params) mg base L2.CX0 k fa fd [x] (spD (K w.params) F))
    (law : ∀ ns : List Int, ns.length ≤ n → ∃ st', F [.lst (ns.map D.int)] (nms.map DO.tbl) = some (.bl true, st'))
    (hCX : ∀ (H : Hp) (s : Shared) (e : Value) (s' : Shared), L2.CX0 [] H s (fun _ _ _ => False) e s' → False) :
    PySem.W.WalkO q loose XP YP l.row.toRowW d [] (fun f vs => PySem.call f vs) := by
  have tabs : ∀ (w : World), ∀ nm, nm ∈ nms → ∃ (c P : Addr) (r : DefRec), PySem.W.tabIn (K w.params) nm = some (c, P) ∧ (PyProof.Rows.recsOf q).find? (fun e => e.name == nm) = some r ∧ (K w.params).lookup P = none := fun w nm hm => by
    obtain ⟨c, P, e, n⟩ := (tabsOk (tabsB w)).1 nm hm
    obtain ⟨r, hr⟩ := Option.isSome_iff_exists.mp (List.all_eq_true.mp recs nm hm)
    exact ⟨c, P, r, e, hr, n⟩
  have nd : ∀ (w : World), (nms.map (tbA (K w.params))).Nodup := fun w => (tabsOk (tabsB w)).2
  refine Gx.walkGT (K := K) (CX := fun _ => L2.CX0) (sp := fun w => spD (K w.params) F) (x := x) (k := k) hn hn2 hdf hr hY (fun w mg mb ls mean fa h Y kin T g hmg => ?_) fun _ => hCX
  obtain ⟨fd, hb, hF⟩ := Fd w mg fa h kin g hmg
  have key : ∀ p, p ∈ nms.map (fun nm => ((match cdA (K w.params) nm with | .ref c => c | _ => 0 : Addr), tbA (K w.params) nm)) → ∃ nm, nm ∈ nms ∧ cdA (K w.params) nm = .ref p.1 ∧ p.2 = tbA (K w.params) nm ∧ PySem.W.CodeHd h p.1 p.2 ∧ h.get? p.2 = some { cls := .none, data := .fields #[] } ∧ (K w.params).lookup p.2 = none := by
    intro p hp
    obtain ⟨nm, hm, rfl⟩ := List.mem_map.mp hp
    obtain ⟨c, P, r, t1, t2, t3⟩ := tabs w nm hm
    obtain ⟨e1, e2⟩ := tb_of t1
    obtain ⟨c1, c2⟩ := PySem.W.tab_of T kin t2 t1
    refine ⟨nm, hm, ?_, rfl, ?_, ?_, ?_⟩
    · rw [e1]
    · rw [e1, e2]; exact c1
    · rw [e2]; exact c2
    · rw [e2]; exact t3
  refine ⟨fd, nms.map (fun nm => ((match cdA (K w.params) nm with | .ref c => c | _ => 0 : Addr), tbA (K w.params) nm)), fun p hp => ?_, fun p hp => ?_, fun p hp => ?_, hb, fun H a ns hl hH hS => ?_, fun base kb gb tb => hF base kb gb fun nm hm => ?_⟩
  · obtain ⟨_, _, _, _, _, z, _⟩ := key p hp; exact z
  · obtain ⟨_, _, _, _, _, _, z⟩ := key p hp; exact z
  · obtain ⟨_, _, _, _, z, _, _⟩ := key p hp; exact z
  · exact law_spT (nd w) (fun nm hm => hH _ (List.mem_map.mpr ⟨nm, hm, rfl⟩)) (law ns hl) hS
  · obtain ⟨c, P, r, t1, t2, t3⟩ := tabs w nm hm
    obtain ⟨e1, e2⟩ := tb_of t1
    have z := tb _ (List.mem_map.mpr ⟨nm, hm, rfl⟩)
    rw [e1] at z
    exact ⟨c, e1, z⟩
end Dl

set_option Elab.async false
set_option linter.all false
set_option maxRecDepth 100000
set_option maxHeartbeats 4000000
namespace Dl
open PySem PySem.Spec PyProof.Rows L2
/-! ### == with an empty list or tuple -/
section
variable {X : Cx}
end
section
variable {K : PySem.W.Frag}
end
/-! ### x is True, x is False, x a truth or None -/
/-! ### a list times a number -/
theorem drs_rep {K : PySem.W.Frag} {α : List Addr} {H : Hp} {vs : List V} {ds : List D} (h : DRs K α H vs ds) : ∀ k : Nat, DRs K α H (List.replicate k vs).flatten (List.replicate k ds).flatten
  | 0 => .nil
  | k + 1 => by rw [List.replicate_succ, List.replicate_succ, List.flatten_cons, List.flatten_cons]; exact h.append (drs_rep h k)
/-! ### min, max of a tuple of numbers -/
section
variable {X : Cx}
/-! ### how often a text stands in a list -/
end
end Dl

set_option Elab.async false
set_option linter.all false
set_option maxRecDepth 100000
set_option maxHeartbeats 4000000
namespace Dl
open PySem PySem.Spec PyProof.Rows L2
/-! ### repr of a list in which {} may stand, however deep -/
mutual
inductive Rdq (h : Heap) : Value → PyData → Prop
  | plain {v : Value} {d : PyData} {as : List Addr} : Reads h v d as → d.hasDict = false → Rdq h v d
  | list {a : Addr} {o : Obj} {vs : Array Value} {n : Nat} {xs : List PyData} : h.get? a = some o → o.cls = .type "list" → o.data = .seq vs n → RdqAll h vs.toList xs → Rdq h (.ref a) (.list xs)
  | tuple {a : Addr} {o : Obj} {vs : Array Value} {n : Nat} {xs : List PyData} : h.get? a = some o → o.cls = .type "tuple" → o.data = .seq vs n → RdqAll h vs.toList xs → Rdq h (.ref a) (.tuple xs)
  | bare {a : Addr} {o : Obj} {es : Array DictEntry} {n : Nat} : h.get? a = some o → o.cls = .type "dict" → o.data = .dict es n → es.toList = [] → (a == sysModules) = false → Rdq h (.ref a) (.dict [])
inductive RdqAll (h : Heap) : List Value → List PyData → Prop
  | nil : RdqAll h [] []
  | cons {v : Value} {vs : List Value} {d : PyData} {ds : List PyData} : Rdq h v d → RdqAll h vs ds → RdqAll h (v :: vs) (d :: ds)
end
section
variable {h : Heap} {prog : Program} {w : World}
theorem rd_bare {a : Addr} {o : Obj} {es : Array DictEntry} {n : Nat} (h1 : h.get? a = some o) (h2 : o.cls = .type "dict") (h3 : o.data = .dict es n) (h4 : es.toList = []) : Reads h (.ref a) (.dict []) (a :: [] ++ []) :=
  .dict h1 h2 h3 (by rw [h4]; exact .nil) (by rw [h4]; exact .nil)
mutual
theorem Rdq.reads : ∀ {v : Value} {d : PyData}, Rdq h v d → ∃ as, Reads h v d as
  | _, _, .plain r _ => ⟨_, r⟩
  | _, _, .list h1 h2 h3 h4 => let ⟨_, z⟩ := RdqAll.reads h4; ⟨_, .list h1 h2 h3 z⟩
  | _, _, .tuple h1 h2 h3 h4 => let ⟨_, z⟩ := RdqAll.reads h4; ⟨_, .tuple h1 h2 h3 z⟩
  | _, _, .bare h1 h2 h3 h4 _ => ⟨_, rd_bare h1 h2 h3 h4⟩
theorem RdqAll.reads : ∀ {vs : List Value} {ds : List PyData}, RdqAll h vs ds → ∃ as, ReadsAll h vs ds as
  | _, _, .nil => ⟨_, .nil⟩
  | _, _, .cons a b => let ⟨_, y⟩ := Rdq.reads a; let ⟨_, z⟩ := RdqAll.reads b; ⟨_, .cons y z⟩
end
theorem no_sys {a : Addr} (ns : (a == sysModules) = false) : sysModules ∉ (a :: [] ++ [] : List Addr) := by
  intro z
  have z2 : sysModules = a := by simpa using z
  subst z2
  simp at ns
mutual
theorem Rdq.shows : ∀ {v : Value} {d : PyData}, Rdq h v d → d.showable = true → d.shown.length ≤ sizeLine → ∃ bs, ReadAtMost h d.depth bs ∧ ReprK prog w bs h d.depth v d.shown
  | _, _, .plain r nd, hs, hz => ReprK.of_reads r hs (PyData.noDict_hsm nd) hz
  | _, _, .bare h1 h2 h3 h4 ns, hs, hz => ReprK.of_reads (rd_bare h1 h2 h3 h4) hs (fun _ => no_sys ns) hz
  | _, _, .list (a := a) (vs := vs) (xs := xs) h1 h2 h3 h4, hs, hz => by
    have z1 : (listText (PyData.shownAll xs)).length ≤ sizeLine := by rw [PyData.shown] at hz; exact hz
    have s1 : PyData.showableAll xs = true := by rw [PyData.showable] at hs; exact hs
    obtain ⟨bs, hb, hk⟩ := RdqAll.shows h4 s1 fun t ht => Nat.le_trans (listText_mem_le ht) z1
    obtain ⟨as, ra⟩ := RdqAll.reads h4
    have r : Reads h (.ref a) (.list xs) _ := .list h1 h2 h3 ra
    have na : a ∉ bs := not_mem_of_deeper r (by rw [PyData.depth]; omega) hb
    refine ⟨a :: bs, ReadAtMost.cons r (by rw [PyData.depth]; omega) hb, ?_⟩
    rw [PyData.depth, PyData.shown]
    obtain ⟨l⟩ := vs
    cases l with
    | nil =>
      cases (show RdqAll h [] xs from h4)
      rw [PyData.shownAll, listText_nil]
      exact ReprK.listEmpty h1 h2 h3
    | cons x l => exact ReprK.list h1 h2 h3 na (by have := hk.length_eq; simpa using this) fun i y e => hk.item i y (by simpa using e)
  | _, _, .tuple (a := a) (xs := xs) h1 h2 h3 h4, hs, hz => by
    have z1 : (tupleText (PyData.shownAll xs)).length ≤ sizeLine := by rw [PyData.shown] at hz; exact hz
    have s1 : PyData.showableAll xs = true := by rw [PyData.showable] at hs; exact hs
    obtain ⟨bs, hb, hk⟩ := RdqAll.shows h4 s1 fun t ht => Nat.le_trans (tupleText_mem_le ht) z1
    obtain ⟨as, ra⟩ := RdqAll.reads h4
    have r : Reads h (.ref a) (.tuple xs) _ := .tuple h1 h2 h3 ra
    have na : a ∉ bs := not_mem_of_deeper r (by rw [PyData.depth]; omega) hb
    refine ⟨a :: bs, ReadAtMost.cons r (by rw [PyData.depth]; omega) hb, ?_⟩
    rw [PyData.depth, PyData.shown]
    exact ReprK.tuple h1 h2 h3 na hk
theorem RdqAll.shows : ∀ {vs : List Value} {ds : List PyData}, RdqAll h vs ds → PyData.showableAll ds = true → (∀ t ∈ PyData.shownAll ds, t.length ≤ sizeLine) →
    ∃ bs, ReadAtMost h (PyData.depthAll ds) bs ∧ ReprAllK prog w bs h (PyData.depthAll ds) vs (PyData.shownAll ds)
  | _, _, .nil, _, _ => ⟨[], (fun _ z => nomatch z), by rw [PyData.shownAll]; exact .nil⟩
  | _, _, .cons (d := d) (ds := ds) r rs, hs, hz => by
    have s1 : d.showable = true ∧ PyData.showableAll ds = true := by rw [PyData.showableAll, Bool.and_eq_true] at hs; exact hs
    rw [PyData.shownAll] at hz
    obtain ⟨b1, u1, k1⟩ := Rdq.shows r s1.1 (hz _ List.mem_cons_self)
    obtain ⟨b2, u2, k2⟩ := RdqAll.shows rs s1.2 fun t ht => hz t (List.mem_cons_of_mem _ ht)
    rw [PyData.depthAll, PyData.shownAll]
    refine ⟨b1 ++ b2, fun b hm => ?_, .cons ((k1.more fun b m => List.mem_append_left _ m).level_le (Nat.le_max_left _ _)) (k2.more_le (fun b m => List.mem_append_right _ m) (Nat.le_max_right _ _))⟩
    rcases List.mem_append.mp hm with m | m
    · obtain ⟨x, y, z, le⟩ := u1 b m
      exact ⟨x, y, z, Nat.le_trans le (Nat.le_max_left _ _)⟩
    · obtain ⟨x, y, z, le⟩ := u2 b m
      exact ⟨x, y, z, Nat.le_trans le (Nat.le_max_right _ _)⟩
end
end
/-! values -/
mutual
inductive Dq (K : PySem.W.Frag) (H : Hp) : V → PyData → Prop
  | plain {v : V} {d : PyData} : Dp K H v d → d.hasDict = false → Dq K H v d
  | lst {a : Addr} {xs : List V} {ds : List PyData} : SqL K H a xs → DqAll K H xs ds → Dq K H (.ref a) (.list ds)
  | tup {a : Addr} {xs : List V} {ds : List PyData} : SqT K H a xs → DqAll K H xs ds → Dq K H (.ref a) (.tuple ds)
  | bare {a : Addr} : H a = some (.dK []) → Dq K H (.ref a) (.dict [])
inductive DqAll (K : PySem.W.Frag) (H : Hp) : List V → List PyData → Prop
  | nil : DqAll K H [] []
  | cons {v : V} {vs : List V} {d : PyData} {ds : List PyData} : Dq K H v d → DqAll K H vs ds → DqAll K H (v :: vs) (d :: ds)
end
section
variable {X : Cx} {pins : List (Addr × Obj)} {σ : L2.St} {H : Hp} {s : Shared}
end
/-! data -/
mutual
def D.pyq : D → Option PyData
  | .non => some .none
  | .bl b => some (.bool b)
  | .int i => some (.int i)
  | .str z => some (.str z)
  | .lst ds => (D.pysq ds).map .list
  | .tup ds => (D.pysq ds).map .tuple
  | .obj _ => none
  | .con _ => none
  | .dct ks ds => if (ks.isEmpty && ds.isEmpty) = true then some (.dict []) else none
def D.pysq : List D → Option (List PyData)
  | [] => some []
  | d :: ds => (D.pyq d).bind fun p => (D.pysq ds).map (p :: ·)
end
section
variable {K : PySem.W.Frag} {α : List Addr} {H : Hp} {M : Addr → Prop}
mutual
theorem DR.dq : ∀ (d : D) (v : V) (p : PyData), DR K α (lim H M) v d → D.pyq d = some p → Dq K H v p
  | .non, _, _, h, e => by cases h; cases e; exact .plain .non rfl
  | .bl _, _, _, h, e => by cases h; cases e; exact .plain (.bl _) rfl
  | .int _, _, _, h, e => by cases h; cases e; exact .plain (.int _) rfl
  | .str _, _, _, h, e => by cases h; cases e; exact .plain (.str _) rfl
  | .lst ds, _, _, h, e => by
    cases h with
    | lst a b =>
      obtain ⟨ps, e1, rfl⟩ := opt_map e
      exact .lst (sqL_lim a) (DRs.dq ds _ ps b e1)
  | .tup ds, _, _, h, e => by
    cases h with
    | tup a b =>
      obtain ⟨ps, e1, rfl⟩ := opt_map e
      exact .tup (sqT_lim a) (DRs.dq ds _ ps b e1)
  | .obj _, _, _, _, e => by cases e
  | .con _, _, _, _, e => by cases e
  | .dct ks ds, _, _, h, e => by
    rw [D.pyq] at e
    split at e
    · rename_i c
      rw [Bool.and_eq_true] at c
      cases e
      cases h with
      | @dct _ kvs _ _ ha ek hd =>
        cases kvs with
        | nil => exact .bare (lim_some.mp ha).2
        | cons x y => subst ek; exact absurd c.1 (by simp)
    · cases e
theorem DRs.dq : ∀ (ds : List D) (vs : List V) (ps : List PyData), DRs K α (lim H M) vs ds → D.pysq ds = some ps → DqAll K H vs ps
  | [], _, _, h, e => by cases h; cases e; exact .nil
  | d :: ds, _, _, h, e => by
    cases h with
    | cons a b =>
      obtain ⟨p, e1, e⟩ := opt_bind e
      obtain ⟨ps, e2, rfl⟩ := opt_map e
      exact .cons (DR.dq d _ p a e1) (DRs.dq ds _ ps b e2)
end
end
/-! ### how great such texts are -/
structure Sz (k n : Nat) (d : PyData) : Prop where
  sh : d.showable = true
  dp : d.depth ≤ k
  ln : d.shown.length ≤ n
structure SzAll (k n : Nat) (ds : List PyData) : Prop where
  sh : PyData.showableAll ds = true
  dp : PyData.depthAll ds ≤ k
  ln : ((PyData.shownAll ds).map (·.length)).sum + 2 * (PyData.shownAll ds).length ≤ n
theorem Sz.of {k n : Nat} {d : PyData} (h : Bg.Sh k n d) : Sz k n d := ⟨h.sh, h.dp, h.ln⟩
theorem Sz.mono {k n k' n' : Nat} {d : PyData} (h : Sz k n d) (a : k ≤ k') (b : n ≤ n') : Sz k' n' d := ⟨h.sh, Nat.le_trans h.dp a, Nat.le_trans h.ln b⟩
theorem Sz.bare : Sz 1 10 (.dict []) := ⟨rfl, Nat.le_refl _, by decide +kernel⟩
theorem SzAll.nil {k n : Nat} : SzAll k n [] := ⟨rfl, Nat.zero_le _, Nat.zero_le _⟩
theorem SzAll.mono {k n k' n' : Nat} {d : List PyData} (h : SzAll k n d) (a : k ≤ k') (b : n ≤ n') : SzAll k' n' d := ⟨h.sh, Nat.le_trans h.dp a, Nat.le_trans h.ln b⟩
theorem SzAll.cons {k n m : Nat} {d : PyData} {ds : List PyData} (h : Sz k n d) (t : SzAll k m ds) : SzAll k (n + 2 + m) (d :: ds) := by
  refine ⟨by rw [PyData.showableAll, h.sh, t.sh]; rfl, by rw [PyData.depthAll]; exact Nat.max_le.mpr ⟨h.dp, t.dp⟩, ?_⟩
  have a := h.ln
  have b := t.ln
  rw [PyData.shownAll, List.map_cons, List.sum_cons, List.length_cons]
  omega
theorem SzAll.tup {k n : Nat} {ds : List PyData} (h : SzAll k n ds) : Sz (k + 1) (n + 3) (.tuple ds) := by
  refine ⟨by rw [PyData.showable]; exact h.sh, by rw [PyData.depth]; exact Nat.succ_le_succ h.dp, ?_⟩
  have a := h.ln
  have b := tupleText_len_le (PyData.shownAll ds)
  rw [PyData.shown]
  omega
theorem SzAll.lst {k n : Nat} {ds : List PyData} (h : SzAll k n ds) : Sz (k + 1) (n + 3) (.list ds) := by
  refine ⟨by rw [PyData.showable]; exact h.sh, by rw [PyData.depth]; exact Nat.succ_le_succ h.dp, ?_⟩
  have a := h.ln
  have b := listText_len_le (PyData.shownAll ds)
  rw [PyData.shown]
  omega
end Dl

set_option Elab.async false
set_option linter.all false
set_option maxRecDepth 100000
set_option maxHeartbeats 4000000
namespace Dl
open PySem PySem.Spec PyProof.Rows L2
/-! ### sorted(set(l)) of whole numbers -/
section
variable {K : PySem.W.Frag} {w : World} {ta : TE} {fa : DE}
end
section
variable {X : Cx} {e : Expr} {fe : DE} {p p2 pos pos2 : Pos}
end
/-! ### dict comprehensions: a dict that is never changed -/
section
variable {K : PySem.W.Frag}
theorem KR.parts {α : List Addr} {H : Hp} {vs : List (Key × V)} {ds : List (Key × D)} (h : KR K α H vs ds) : vs.map Prod.fst = ds.map Prod.fst ∧ DRs K α H (vs.map Prod.snd) (ds.map Prod.snd) := by
  induction h with
  | nil => exact ⟨rfl, .nil⟩
  | cons a b ih => exact ⟨by rw [List.map_cons, List.map_cons, ih.1], .cons a ih.2⟩
variable {tk tv : TE} {fk fv : DE} {tg : TG} {fg : DG} {wi : TI} {fi : DI}
/-! ### d.get(k) -/
theorem KR.zip {α : List Addr} {H : Hp} : ∀ {kvs : List (Key × V)} {ds : List D}, DRs K α H (kvs.map Prod.snd) ds → KR K α H kvs ((kvs.map Prod.fst).zip ds)
  | [], _, h => by cases h; exact .nil
  | (k, v) :: kvs, _, h => by cases h with | cons a b => exact .cons a (KR.zip b)
end
section
variable {X : Cx} {o e kx vx tgt iter : Expr} {fo fe fk fv : DE} {fg : DG} {fi : DI} {ws : List Nat} {apos cpos pos : Pos} {scope : Scope} {own : List (Str × Nat)}
end
end Dl

set_option Elab.async false
set_option linter.all false
set_option maxRecDepth 100000
set_option maxHeartbeats 4000000
namespace Dl
open PySem PySem.Spec PyProof.Rows L2
/-! ### match over tuples with a text ahead -/
inductive Caps : List Pattern → List Str → Prop
  | nil : Caps [] []
  | cons {n : Str} {p : Pos} {ps : List Pattern} {ns : List Str} : Caps ps ns → Caps (.MatchAs none (some n) p :: ps) (n :: ns)
theorem Caps.len {ps : List Pattern} {ns : List Str} (h : Caps ps ns) : ps.length = ns.length := by
  induction h with
  | nil => rfl
  | cons _ ih => rw [List.length_cons, List.length_cons, ih]
section
variable {X : Cx} {pins : List (Addr × Obj)} {σ : L2.St} {H : Hp} {s : Shared}
theorem caps_run {E : Value → Shared → Prop} {M : Model} {A : Around} {env : Env} : ∀ {ps : List Pattern} {ns : List Str} {us : List Value} {s : Shared} {Q : Option (List (Str × Value)) → Shared → Prop}, Caps ps ns → ns.length = us.length → Q (some (ns.zip us)) s → wpAny M A (matchEach ps env us) Q E s
  | _, _, _, _, _, .nil, _, q => wpAny_matchEach_nil (by simpa using q)
  | _, _, [], _, _, .cons _, e, _ => by cases e
  | _, _, u :: us, _, _, .cons h, e, q => by
    refine wpAny_matchEach_cons (wpAny_matchPattern_Capture ?_) rfl
    show wpAny _ _ _ _ _ _
    exact caps_run h (Nat.succ.inj e) q
theorem seq_pat (hc : X.calm = true) (I : Inv X pins σ H s) {a : Addr} {x z : Str} {vs : List V} {ps : List Pattern} {ns : List Str} {j : Nat} {p1 p2 pos : Pos} {Q : Option (List (Str × Value)) → Shared → Prop} (hT : SqT X.K H a (.str x :: vs)) (cp : Caps ps ns)
    (hstar : (Pattern.MatchValue (.Constant (.str z) j p1) p2 :: ps).findIdx? (·.isStar) = none)
    (yes : x = z → vs.length = ns.length → ∀ s' us, Inv X pins σ H s' → Vals vs us → Q (some (ns.zip us)) s')
    (no : ¬ (x = z ∧ vs.length = ns.length) → ∀ s', Inv X pins σ H s' → Q none s') :
    wpAny (model X.prog X.w) X.A (matchPattern (.MatchSequence (.MatchValue (.Constant (.str z) j p1) p2 :: ps) pos) X.env (.ref a)) Q X.xe s := by
  obtain ⟨its, rv, ht, hz⟩ := I.tuple hT
  have hl := rv.length
  have fit : ((its.toArray.size : Nat) : Int) < 2 ^ 63 := by
    rw [List.size_toArray, ← hl]
    have := sizeLine_eq
    omega
  have I2 : Inv X pins σ H { s with toks := s.toks + 1 + 1 } := I.tok _
  by_cases c : vs.length = ns.length
  · have sz : its.toArray.size = (Pattern.MatchValue (.Constant (.str z) j p1) p2 :: ps).length := by
      rw [List.size_toArray, ← hl, List.length_cons, List.length_cons, cp.len, c]
    refine matchSeq_tuple_hit ht fit sz ?_ hstar rfl
    rw [← sz]
    refine unpackItems_tuple (I2.ok.hd hc) ht fun h' hx => ?_
    have I3 : Inv X pins σ H { s with heap := h', toks := s.toks + 1 + 1 } := I2.kept (t' := s.toks + 1 + 1) fun b o e => hx b o (Nat.ne_of_lt (Heap.lt_size e)) e
    cases rv with
    | @cons _ u _ us r1 r2 =>
      refine wpAny_matchEach_cons (wpAny_matchPattern_Value ?_) rfl
      refine thn ((pe_str (X := X) (x := z) (j := j) (pos := p1)).run pins _ σ H (fun v H1 => v = .str z ∧ H1 = H) I3 ⟨rfl, rfl⟩) ?_
      rintro y s1 ⟨v1, H1, I4, r4, rfl, rfl⟩
      refine thn (op_eq pins s1 σ H1 (.str x) (.str z) u y (fun c H2 => c = .bl (decide (x = z)) ∧ H2 = H1) I4 r1 r4 ⟨rfl, by
        rw [show decide ((V.str x) = V.str z) = decide (x = z) from by simp]; exact ⟨rfl, rfl⟩⟩) ?_
      rintro cc s2 ⟨v2, H2, I5, r5, rfl, rfl⟩
      cases (show cc = Value.bool (decide (x = z)) from r5)
      apply wpAny_truthy_bool
      by_cases e : x = z
      · rw [if_pos (decide_eq_true e)]
        show wpAny _ _ _ _ _ _
        refine caps_run cp (by rw [← c]; exact r2.length) ?_
        show Q (some ([] ++ ns.zip us)) s2
        exact yes e c s2 us I5 r2
      · rw [decide_eq_false e, if_neg Bool.false_ne_true]
        exact no (fun h => e h.1) s2 I5
  · refine matchSeq_tuple_miss ht fit ?_ (no (fun h => c h.2) _ I2) hstar rfl
    rw [List.size_toArray, ← hl, List.length_cons, List.length_cons, cp.len]
    exact fun h => c (Nat.succ.inj h)
/-! names that are bound -/
structure PB (X : Cx) (ns : List Str) (t : TGs) : Prop where
  run : ∀ (pins : List (Addr × Obj)) (s : Shared) (σ : L2.St) (H : Hp) (vs : List V) (us : List Value) (Q : L2.St → Hp → Prop), Inv X pins σ H s → Vals vs us → t vs σ H Q →
    wpAny (model X.prog X.w) X.A (assignInOrder (ns.map (bindName X.env)) us) (fun _ s' => ∃ σ' H', Inv X pins σ' H' s' ∧ Q σ' H') X.xe s
theorem pb_nil : PB X [] gNil := by
  refine ⟨fun pins s σ H vs us Q I r h => ?_⟩
  obtain ⟨rfl, h⟩ := h
  cases r
  exact wpAny_assignInOrder_none ⟨σ, H, I, h⟩
theorem pb_cons {i : Nat} {x : Str} {ns : List Str} {t : TGs} (hN : X.N.Nodup) (hi : X.N[i]? = some x) (hx : Loc X.env.scope x) (h : PB X ns t) (hf : X.fn x = true ∨ X.env.scope.names.lookup x = some .local := by first | exact .inl rfl | exact .inr rfl | assumption) : PB X (x :: ns) (gCons (gName i) t) := by
  refine ⟨fun pins s σ H vs us Q I r q => ?_⟩
  obtain ⟨v, w, rfl, q⟩ := q
  cases r with
  | cons r1 r2 =>
    refine wpAny_assignInOrder_more (wpAny_bindName (store_ok I hN hi hx r1 (fun s' I' => ?_) hf))
    exact h.run pins s' _ H w _ Q I' r2 q
structure JB (X : Cx) (ns : List Str) (ws : List Nat) (fgs : List D → Sx → Option Sx) : Prop where
  ex : ∃ t, PB X ns t ∧ RefGs X.K ws t fgs
theorem jb_0 : JB X [] [] gs0 := ⟨_, pb_nil, rf_gs0⟩
theorem jb_C {i : Nat} {x : Str} {ns : List Str} {ws : List Nat} {fgs : List D → Sx → Option Sx} (hN : X.N.Nodup) (hi : X.N[i]? = some x) (hx : Loc X.env.scope x) (h : JB X ns ws fgs) (hf : X.fn x = true ∨ X.env.scope.names.lookup x = some .local := by first | exact .inl rfl | exact .inr rfl | assumption) : JB X (x :: ns) ([i] ++ ws) (gsC (gN i) fgs) := by
  obtain ⟨t, p, r⟩ := h
  exact ⟨_, pb_cons hN hi hx p hf, rf_gsC rf_gN r⟩
end
/-! cases -/
def mSeq (z : Str) (n : Nat) (fgs : List D → Sx → Option Sx) (b : DS) (r : D → DS) : D → DS := fun d S => match d with
  | .tup (.str x :: ds) => if x = z ∧ ds.length = n then (fgs ds S).bind b else r (.tup (.str x :: ds)) S
  | _ => none
theorem zip_fst {α β γ : Type} (g : α → γ) : ∀ {ns : List α} {us : List β}, ns.length = us.length → (ns.zip us).map (fun q => g q.1) = ns.map g
  | [], [], _ => rfl
  | _ :: _, _ :: _, e => by rw [List.zip_cons_cons, List.map_cons, List.map_cons, zip_fst g (Nat.succ.inj e)]
theorem zip_snd {α β : Type} : ∀ {ns : List α} {us : List β}, ns.length = us.length → (ns.zip us).map (·.2) = us
  | [], [], _ => rfl
  | _ :: _, _ :: _, e => by rw [List.zip_cons_cons, List.map_cons, zip_snd (Nat.succ.inj e)]
section
variable {X : Cx} {rest : List MatchCase} {body : List Stmt} {f : DS} {m : D → DS} {pos p1 p2 p3 p4 p5 p6 p7 : Pos} {z z' : Str} {j j' : Nat} {ps : List Pattern} {ns : List Str} {ws : List Nat} {fgs : List D → Sx → Option Sx}
theorem jm_seq (hc : X.calm = true) (hb : JB X ns ws fgs) (cp : Caps ps ns) (h : JSs X body f) (hr : JM X rest m) {n : Nat} (hn : ns.length = n := by rfl)
    (hstar : (Pattern.MatchValue (.Constant (.str z) j p1) p2 :: ps).findIdx? (·.isStar) = none := by rfl) :
    JM X (⟨.MatchSequence (.MatchValue (.Constant (.str z) j p1) p2 :: ps) pos, none, body⟩ :: rest) (mSeq z n fgs f m) := by
  subst hn
  obtain ⟨t, pb, rb⟩ := hb
  obtain ⟨tm, pm, rm⟩ := hr
  refine ⟨fun v D σ H => ∃ a x vs, v = .ref a ∧ SqT X.K H a (.str x :: vs) ∧ if x = z ∧ vs.length = ns.length then t vs σ H (fun σ' H' => tsOf X.K f D σ' H') else tm v D σ H, ⟨?_⟩, ?_⟩
  · intro pins s σ H D v u b I r q
    obtain ⟨a, x, vs, rfl, hT, q⟩ := q
    cases r
    apply wpAny_matchCases_cons
    refine seq_pat hc I hT cp hstar (fun e1 e2 s' us I' rv => ?_) (fun no s' I' => ?_)
    · rw [if_pos ⟨e1, e2⟩] at q
      have el : ns.length = us.length := by rw [← e2]; exact rv.length
      show wpAny _ _ (assignInOrder ((ns.zip us).map fun q => bindName X.env q.1) ((ns.zip us).map (·.2))) _ _ _
      rw [zip_fst (bindName X.env) el, zip_snd el]
      refine thn (pb.run pins s' σ H vs us _ I' rv q) ?_
      rintro _ s2 ⟨σ2, H2, I2, q2⟩
      exact h.pe.run pins s2 σ2 H2 D I2 q2
    · rw [if_neg no] at q
      exact pm.run pins s' σ H D (.ref a) (.ref a) false I' rfl q
  · intro N H0 α0 α σ H S d v fl S' E R dr e q
    unfold mSeq at e
    split at e
    · rename_i x ds
      cases dr with
      | tup a b =>
        have b' := b
        cases b' with
        | @cons _ vs _ _ b1 b2 =>
          cases b1
          refine ⟨_, x, vs, rfl, sqT_lim a, ?_⟩
          rw [b2.len]
          by_cases c : x = z ∧ ds.length = ns.length
          · rw [if_pos c] at e ⊢
            obtain ⟨S1, e1, e⟩ := opt_bind e
            refine rb N H0 α0 α σ H S ds vs S1 _ R b2 e1 fun σ1 α1 H1 R1 g1 s1 w1 => ?_
            exact h.rf N H0 α0 α1 σ1 H1 S1 fl S' E R1 e fun σ2 α2 H2 R2 p2 s2 => q σ2 α2 H2 R2 (g1.pre.trans p2) (s1.trans s2)
          · rw [if_neg c] at e ⊢
            exact rm N H0 α0 α σ H S _ _ fl S' E R (.tup a b) e q
    · cases e
end
section
variable {S S1 S9 : Sx} {k b : DS} {ds : List D} {m : D → DS} {Q : Fl → Sx → Prop} {x z z' : Str} {n : Nat} {fgs : List D → Sx → Option Sx}
end
end Dl

set_option Elab.async false
set_option linter.all false
set_option maxRecDepth 100000
set_option maxHeartbeats 4000000
namespace Dl
open PySem PySem.Spec PyProof.Rows L2
/-! ### a name = a dict comprehension -/
section
variable {X : Cx}
variable {fg : DG} {fk fv : DE} {ws : List Nat}
end
end Dl

set_option Elab.async false
set_option linter.all false
set_option maxRecDepth 100000
set_option maxHeartbeats 4000000
namespace Dl
open PySem PySem.Spec PyProof.Rows L2
/-! ### a list of one's own = the sum of two lists -/
def lAdd (a b : DE) : DL := fun S => (a S).bind fun p => (b p.2).bind fun q => match p.1, q.1 with
  | .lst xs, .lst ys => if xs.length + ys.length ≤ 16777216 then some (xs ++ ys, q.2) else none
  | _, _ => none
section
variable {K : PySem.W.Frag} {ta tb : TE} {fa fb : DE}
theorem rf_lAdd (ha : RefE K ta fa) (hb : RefE K tb fb) : RefL K (tOp (rCatL K) ta tb) (lAdd fa fb) := by
  intro N H0 α0 α σ H S ds S' Q R e q
  obtain ⟨⟨x, S1⟩, e1, e⟩ := opt_bind e
  obtain ⟨⟨y, S2⟩, e2, e⟩ := opt_bind e
  refine ha N H0 α0 α σ H S x S1 _ R e1 fun v1 α1 H1 R1 g1 d1 => ?_
  refine hb N H0 α0 α1 σ H1 S1 y S2 _ R1 e2 fun v2 α2 H2 R2 g2 d2 => ?_
  dsimp only at e
  split at e
  · split at e
    · rename_i c
      cases e
      cases g2.dr d1 with
      | @lst p1 xs _ a b =>
        cases d2 with
        | @lst p2 ys _ a2 b2 =>
          refine ⟨_, _, _, _, rfl, rfl, sqL_lim a, sqL_lim a2, by rw [b.len, b2.len, sizeLine_eq]; omega, fun p np => ?_⟩
          have s : Same H2 (upd H2 p (.lst (xs ++ ys))) := Bg.same_new np
          refine q p α2 _ _ (R2.add np) ((g1.trans g2).trans (.of_same s)) ((g1.trans g2).none R2 np) (R2.base_none np) upd_same ?_
          refine (b.append b2).mono (lim_keep (fun a o _ e => s _ _ e) fun a m l => ?_) (List.prefix_refl _)
          rcases m with (m | m) | m
          · exact .inl m
          · subst m; exact absurd np l
          · exact .inr m
    · cases e
  · cases e
end
theorem jl_add {X : Cx} {a b : Expr} {fa fb : DE} {pos : Pos} (ha : JE X a fa) (hb : JE X b fb) : JL X (.BinOp a .Add b pos) (lAdd fa fb) := JL.of (pe_op op_catL ha.pe hb.pe) (rf_lAdd ha.rf hb.rf)
end Dl

set_option Elab.async false
set_option linter.all false
set_option maxRecDepth 100000
set_option maxHeartbeats 4000000
namespace Dl
open PySem PySem.Spec PyProof.Rows L2
/-! ### errors with fields, over whichever built-in error -/
abbrev keyMro : List Value := [.type "KeyError", .type "LookupError", .type "Exception", .type "BaseException", .type "object"]
theorem keyStore : StoreFacts "KeyError" keyMro "object.__setattr__" "object" :=
  { mro := by kernel_rfl, entry := F.entry_object_sa, kind := by decide +kernel, split := by decide +kernel, hasOwner := by decide +kernel, args := fun x y z => by unfold argsOk; kernel_rfl, passes := fun x => by kernel_rfl
    slot := by
      refine .of (owner := "object") (n := "__setattr__") ?_ (by decide +kernel) (by decide +kernel) (by decide +kernel) ?_ ?_
      · rw [typeLookup_type, builtinLookup_eq_fast]
        kernel_rfl
      · first | exact .inr (by decide +kernel) | exact .inl (by decide +kernel)
      · rw [isSubtype_type]
        kernel_rfl }
end Dl

set_option Elab.async false
set_option linter.all false
set_option maxRecDepth 100000
set_option maxHeartbeats 4000000
namespace Dl
open PySem PySem.Spec PyProof.Rows L2
/-- what the written part says of an error's class -/
structure OexG (K : PySem.W.Frag) (C : Addr) : Prop where
  bas : ∃ NB newId initId bmN B bmB, ExcBaseFacts NB newId initId bmN ∧ StoreFacts B bmB "object.__setattr__" "object" ∧ (bmB.contains (.type NB) = true ∧ bmB.contains (.type "AttributeError") = false ∧ bmB.contains (.type "NameError") = false) ∧
    PySem.W.excInitIn K C bmB newId = true ∧ PySem.W.excOver K C bmB = true
  dicts : PySem.W.hasDictIn K C = true
  putBy : PySem.W.findIn K (.ref C) "__setattr__" = some (some (.builtin "object.__setattr__"))
  isEx : PySem.W.subIn K (.ref C) (.type "BaseException") = some true
  isTy : PySem.W.typeIn K (.ref C) = some (.type "type")
  kept : PySem.W.keepIn K (.ref C) = true
section
variable {hp : Heap} {g : Array GenState} {d : Drawn} {t : Nat} {os : OsState} {A : Around} {P : Program} {w : World} {E : Value → Shared → Prop} {R : Result → Shared → Prop}
open Builtin
open Builtin.ObjectAttr
theorem osg_new {K : W.Frag} {name : Str} {tk : Tok} {v : Value} {x C : Addr} {fv : Array Value} (X : K.In hp) (T : OexG K C) (hx : hp.get? x = some { cls := .ref C, data := .fields fv }) (ha : W.findIn K (.ref C) name = some none)
    (hq : ∀ later tk' dx, (∀ c o, c ≠ x → hp.get? c = some o → later.get? c = some o) → hp.objs.size ≤ dx → dx ≠ x → later.get? x = some { cls := .ref C, dict := some dx, data := .fields fv } → later.Ns1 dx (fun f => if f = name then some v else none) → R (.ok (.ret .none)) ⟨later, g, d, tk', os⟩) :
    codeAny (model P w) A (.call (.builtin "object.__setattr__") ⟨[.ref x, .str name tk, v], []⟩) R ⟨hp, g, d, t, os⟩ := by
  obtain ⟨_, _, _, _, B, bmB, _, st, _, _, ov⟩ := T.bas
  refine PySem.W.osa_openX st X (show W.InstAt hp x { cls := .ref C, data := .fields fv } C none from ⟨hx, rfl, rfl, trivial⟩) ov (r := none) (by unfold W.takerIn; rw [ha]; rfl) fun b => ?_
  obtain ⟨cd, hcd, hh⟩ := PySem.W.any_some T.dicts
  have look : W.Looks (model P w) hp (classData C) cd := W.looks_clsIn X hcd
  have apart : x ≠ hp.objs.size := Nat.ne_of_lt (Heap.lt_size hx)
  cases cd with
  | mk nm bs mro ns qn hd sn sb ab col del =>
    dsimp only at hh
    subst hh
    show wpAny _ _ (storeInOwnDict (.ref x) (.ref C) (.str name tk) name v b) _ _ _
    unfold storeInOwnDict ownDictForStores
    repeat (first | with_reducible refine HandSPX.store_in_new ?_ ?_ | with_reducible refine wpAny_loadPart_at hx ?_ | with_reducible refine look.at ?_ | wp_step)
    · exact ⟨_, #[], _, (Heap.get?_update_ne _ _ _ _ apart.symm).trans (Heap.get?_push_at rfl rfl), rfl, fun z m => absurd m (by simp), fun _ => rfl⟩
    · intro h' tk' hn' hs
      have old : (hp.push { cls := .type "dict", data := .dict #[] }).get? x = some { cls := .ref C, data := .fields fv } := Heap.get?_push_of_some _ hx
      refine hq h' tk' hp.objs.size (fun c o hc ho => ?_) (Nat.le_refl _) apart.symm ((hs.2 x apart).trans (Heap.get?_update_self _ old rfl)) hn'
      exact (hs.2 c (Nat.ne_of_lt (Heap.lt_size ho))).trans ((Heap.get?_update_ne _ _ _ _ hc).trans (Heap.get?_push_of_some _ ho))
theorem osg_old {K : W.Frag} {name : Str} {tk : Tok} {v : Value} {x C dx : Addr} {fv : Array Value} {m0 : Str → Option Value} {nl : List Str} (X : K.In hp) (T : OexG K C) (hx : hp.get? x = some { cls := .ref C, dict := some dx, data := .fields fv })
    (hns : hp.Ns1 dx m0) (hw : Within m0 nl) (hz : nl.length ≤ 1000) (ha : W.findIn K (.ref C) name = some none)
    (hq : ∀ later tk', (∀ c o, c ≠ dx → hp.get? c = some o → later.get? c = some o) → later.Ns1 dx (fun f => if f = name then some v else m0 f) → R (.ok (.ret .none)) ⟨later, g, d, tk', os⟩) :
    codeAny (model P w) A (.call (.builtin "object.__setattr__") ⟨[.ref x, .str name tk, v], []⟩) R ⟨hp, g, d, t, os⟩ := by
  obtain ⟨_, _, _, _, B, bmB, _, st, _, _, ov⟩ := T.bas
  have ⟨oD, _, _, hoD, _⟩ := hns.count hw
  refine PySem.W.osa_openX st X (show W.InstAt hp x { cls := .ref C, dict := some dx, data := .fields fv } C (some oD) from ⟨hx, rfl, rfl, hoD⟩) ov (r := none) (by unfold W.takerIn; rw [ha]; rfl) fun b => ?_
  obtain ⟨cd, hcd, hh⟩ := PySem.W.any_some T.dicts
  have look : W.Looks (model P w) hp (classData C) cd := W.looks_clsIn X hcd
  cases cd with
  | mk nm bs mro ns qn hd sn sb ab col del =>
    dsimp only at hh
    subst hh
    show wpAny _ _ (storeInOwnDict (.ref x) (.ref C) (.str name tk) name v b) _ _ _
    unfold storeInOwnDict ownDictForStores
    repeat (first | with_reducible refine OEX.store_in_old hns hw hz ?_ | with_reducible refine wpAny_loadPart_at hx ?_ | with_reducible refine look.at ?_ | wp_step)
    intro h' tk' hn' hs
    exact hq h' tk' (fun c o hc ho => (hs.2 c hc).trans ho) hn'
end
/-! ### such a class, called -/
section
variable {h : Heap} {g : Array GenState} {d : Drawn} {t : Nat} {os : OsState} {A : Around} {P : Program} {w : World} {E : Value → Shared → Prop} {R : Result → Shared → Prop}
variable {nm q : Str} {C N fI : Addr} {bs bm bmN : List Value} {hdct : Bool} {sn : List Str} {sub : List Value} {ab : Bool} {col : Option Bool} {dd : Option Addr} {k0 k1 k2 k3 k5 : Option Value} {NB newId initId : String} {us : List Value}
theorem new_g (F : ExcBaseFacts NB newId initId bmN) (cB : (Value.ref C :: bm).contains (.type NB) = true) (cA : (Value.ref C :: bm).contains (.type "AttributeError") = false) (cN : (Value.ref C :: bm).contains (.type "NameError") = false)
    (at_ : h.get? C = some (excClassObj nm q C N bs bm hdct sn sub ab col dd k0 k1 k2 k3 k5 newId)) (few : us.length ≤ sizeLine)
    (then_ : R (.ok (.ret (.ref (h.objs.size + 1)))) ⟨(h.push { cls := .type "tuple", data := .seq us.toArray }).push (HandSPX.excO C h.objs.size), g, d, t, os⟩) : codeAny (model P w) A (.builtin newId ⟨.ref C :: us, []⟩) R ⟨h, g, d, t, os⟩ := by
  have ends := F.ends
  apply codeAny_builtinAt F.entry
  unfold Builtin.«BaseException.__new__»
  refine PySem.wpAt_bind ?_
  show PySem.wpAt _ _ _ (stack >>= _) _ _ _
  refine PySem.wpAt_bind (PySem.wpAt_stack fun p below => ?_)
  apply PySem.wpAt_of_wpAny
  wp_walk
  apply PySem.wpAt_of_wpAny
  rw [F.owner]
  repeat (first | with_reducible refine wpAny_loadPart_at at_ ?_ | (with_reducible refine wpAny_isSubtype_exc at_ ?_; first | rw [cA] | rw [cN] | rw [cB]) | with_reducible refine wpAny_madeHere_exc F.canon at_ ?_ | wp_step)
  show R _ _
  rw [Heap.size_push]
  exact then_
theorem check_g (F : ExcBaseFacts NB newId initId bmN) (cB : (Value.ref C :: bm).contains (.type NB) = true) {M : Model} {Q : Unit → Shared → Prop} (at_ : h.get? C = some (excClassObj nm q C N bs bm hdct sn sub ab col dd k0 k1 k2 k3 k5 newId)) (then_ : Q () ⟨h, g, d, t, os⟩) :
    wpAny M A (checkBuiltinCall newId ⟨.ref C :: us, []⟩) Q E ⟨h, g, d, t, os⟩ := by
  have star := F.noStar
  simp only [checkBuiltinCall, F.newKind, F.newSplit, F.newRow]
  repeat (first | refine wpAny_loadPart_at at_ ?_ | refine wpAny_staticBase_exc at_ ?_ | refine wpAny_madeBy_exc at_ ?_ | (refine wpAny_isSubtype_exc at_ ?_; rw [cB]) | simp only [bne_self_eq_false, Bool.false_eq_true, if_false] | wp_step)
  exact then_
theorem call_g (F : ExcBaseFacts NB newId initId bmN) (cB : (Value.ref C :: bm).contains (.type NB) = true) (cA : (Value.ref C :: bm).contains (.type "AttributeError") = false) (cN : (Value.ref C :: bm).contains (.type "NameError") = false)
    (at_ : h.get? C = some (excClassObj nm q C N bs bm hdct sn sub ab col dd k0 k1 k2 k3 k5 newId)) (hi : W.Looks (model P w) h (typeLookup (.ref C) "__init__") (some (.ref fI)))
    (hb : ∀ self, W.Looks (model P w) h (bindSpecial (.ref fI) self) (.ref fI, [self])) (few : us.length ≤ sizeLine)
    (then_ : codeAny (model P w) (A.under (.builtin "type.__call__" ⟨.ref C :: us, []⟩)) (.call (.ref fI) ⟨.ref (h.objs.size + 1) :: us, []⟩) (W.InitBack (h.objs.size + 1) R) ⟨(h.push (W.kdv_tup us)).push (HandSPX.excO C h.objs.size), g, d, t, os⟩) :
    codeAny (model P w) A (.call (.ref C) ⟨us, []⟩) R ⟨h, g, d, t, os⟩ := by
  have f1 := tc_lookup
  have f2 := tc_bind (.ref C)
  have ty : (⟨h, g, d, t, os⟩ : Shared).TypeIs (.ref C) "type" := ⟨_, at_, rfl⟩
  apply codeAny_of_tree
  show wpAny _ _ (callAny (.ref C) _) _ _ _
  repeat (any_goals (first | assumption | with_reducible refine wpAny_loadPart_at at_ ?_ | wp_step))
  refine ⟨rfl, codeAny_call_builtin_at (Code.quiet_builtin _ (by decide +kernel)) entry_typeCall (wpAny_check_type_call_sub at_ ?_)⟩
  repeat (first | with_reducible refine wpAny_madeBy_exc at_ ?_ | with_reducible refine wpAny_loadPart_at at_ ?_ | wp_step)
  apply codeAny_call_builtin_code (Code.quiet_builtin _ F.quiet)
  apply check_g F cB at_
  apply new_g F cB cA cN at_ few
  show wpAny _ _ _ _ _ _
  have more : ∀ b o, h.get? b = some o → ((h.push (W.kdv_tup us)).push (HandSPX.excO C h.objs.size)).get? b = some o := fun b o e => Heap.get?_push_of_some _ (Heap.get?_push_of_some _ e)
  have at2 := more _ _ at_
  have new2 : ((h.push (W.kdv_tup us)).push (HandSPX.excO C h.objs.size)).get? (h.objs.size + 1) = some (HandSPX.excO C h.objs.size) := by heap_get
  have self_ : (Value.ref C :: bm).contains (.ref C) = true := by simp
  unfold isInstance
  repeat (first | with_reducible refine wpAny_loadPart_at new2 ?_ | (with_reducible refine wpAny_isSubtype_exc at2 ?_; rw [self_]) | wp_step)
  show wpAny _ _ (typeLookup (.ref C) _) _ _ _
  refine (hi.keeps more).at ?_
  refine wpAny_holding (wpAny_bind (((hb (.ref (h.objs.size + 1))).keeps more).at ?_))
  refine wpAny_bind (wpAny_call (codeAny_mono then_ fun r s' z => ?_))
  rcases r with e | (v | _ | _ | _) <;> first | exact z | exact z.elim | skip
  obtain ⟨rfl, z⟩ := z
  first
    | exact wpAny_pure (wpAny_pure z)
    | (wp_walk; exact z)
end
end Dl

set_option Elab.async false
set_option linter.all false
set_option maxRecDepth 100000
set_option maxHeartbeats 4000000
namespace Dl
open PySem PySem.Spec PyProof.Rows L2
/-! ### self.f = e in the __init__ of such a class -/
section
variable {X : Cx} {pins : List (Addr × Obj)} {σ : L2.St} {H : Hp} {s : Shared} {a C dx : Addr} {f : Str} {y : V} {u : Value} {fs : List (Str × V)} {Q : Unit → Shared → Prop} {E : Value → Shared → Prop} {A : Around}
theorem ostG_new (T : OexG X.K C) (I : Inv X pins σ H s) (at_ : H a = some (exo a C none)) (no : PySem.W.findIn X.K (.ref C) f = some none) (ry : RelV y u)
    (then_ : ∀ dx s', H dx = none → dx ≠ a → Inv X pins σ (upd (upd H dx (exd dx [(f, y)])) a (exo a C (some dx))) s' → Q () s') : wpAny (model X.prog X.w) A (setAttr (.ref a) f u) Q E s := by
  obtain ⟨t1, ho⟩ := exo_at I.hok at_
  obtain ⟨hp, g, d, t, os⟩ := s
  apply PySem.W.set_plain I.kIn (ox := { cls := .ref C, dict := none, data := .fields #[.ref t1, .none, .none, .none, .bool false, .none] }) (od := none) ⟨ho, rfl, rfl, trivial⟩ T.putBy
  apply osg_new I.kIn T ho no
  intro h' tk' dx kept dn dne hx hn
  have fresh : H dx = none := I.hok.fresh dn
  have nd : ∀ {b : Addr} {o : Obj}, hp.get? b = some o → b ≠ dx := fun q => Nat.ne_of_lt (Nat.lt_of_lt_of_le (Heap.lt_size q) dn)
  have na : ∀ {b : Addr}, H b = none → b ≠ a := fun n z => by subst z; rw [at_] at n; cases n
  have U : Un X.fs [] H (upd (upd H dx (exd dx [(f, y)])) a (exo a C (some dx))) hp h' := by
    constructor
    case keep => exact fun b o q n _ _ => kept b o (na n) q
    case slot => exact fun b o q n _ _ => ⟨o.slots, kept b o (na n) q⟩
    case free =>
      intro b o q n _
      rw [upd_ne (na n), upd_ne (nd q)]
      exact n
    case there =>
      intro b o q _
      by_cases hb : b = a
      · subst hb
        exact ⟨_, hx⟩
      · exact ⟨o, kept b o hb q⟩
    case tups =>
      intro b xs q
      rw [upd_ne (at_ne at_ q exo_tup), upd_ne (ne_of_none q fresh)]
      exact q
    case frzs =>
      intro b o v q
      rw [upd_ne (at_ne at_ q exo_frz), upd_ne (ne_of_none q fresh)]
      exact q
    case tbls =>
      intro b ps q
      refine ⟨#[], ?_⟩
      rw [upd_ne (at_ne at_ q exo_tbl), upd_ne (ne_of_none q fresh), q]
      simp
  refine then_ dx _ fresh dne (I.un (t' := tk') U fun b o q => ?_)
  by_cases hb : b = a
  · subst hb
    rw [upd_same] at q
    cases q
    exact exo_ok hx
  rw [upd_ne hb] at q
  by_cases hd : b = dx
  · subst hd
    rw [upd_same] at q
    cases q
    exact exd_ok hn (relO_put (fs := []) ry fun _ => True.intro)
  rw [upd_ne hd] at q
  refine (I.hok b o q).stay (fun c v hc z => kept c v (hc.elim (fun e => e ▸ hb) fun e => at_ne at_ e exo_own) z) (fun c hc => ?_) fun c xs hc => ?_
  · rw [upd_ne (at_ne at_ hc exo_own), upd_ne (ne_of_none hc fresh)]
    exact hc
  · rw [upd_ne (at_ne at_ hc exo_tup), upd_ne (ne_of_none hc fresh)]
    exact hc
theorem ostG_old (T : OexG X.K C) (I : Inv X pins σ H s) (at_ : H a = some (exo a C (some dx))) (ed : H dx = some (exd dx fs)) (few : fs.length ≤ 900) (no : PySem.W.findIn X.K (.ref C) f = some none) (ry : RelV y u)
    (then_ : ∀ s', Inv X pins σ (upd H dx (exd dx ((f, y) :: fs))) s' → Q () s') : wpAny (model X.prog X.w) A (setAttr (.ref a) f u) Q E s := by
  obtain ⟨t1, ho⟩ := exo_at I.hok at_
  obtain ⟨mA, hns, rel⟩ := exd_at I.hok ed
  have wi := within_of rel
  obtain ⟨hp, g, d, t, os⟩ := s
  obtain ⟨oD, _, _, hoD, _, _⟩ := hns.count wi
  apply PySem.W.set_plain I.kIn (ox := { cls := .ref C, dict := some dx, data := .fields #[.ref t1, .none, .none, .none, .bool false, .none] }) (od := some oD) ⟨ho, rfl, rfl, hoD⟩ T.putBy
  apply osg_old I.kIn T ho hns wi (by rw [List.length_map]; omega) no
  intro h' tk' kept hn
  have there : ∃ o, h'.get? dx = some o := let ⟨o, _, _, e, _⟩ := hn; ⟨o, e⟩
  exact then_ _ (I.write (t' := tk') (x := dx) (e := dx) (o := exd dx ((f, y) :: fs)) (by rw [ed]; exact True.intro) (.inl rfl) kept there (exd_ok hn (relO_put ry rel)))
end
def tOstG (K : PySem.W.Frag) (f : Str) (to te : TE) : TS := fun D σ H => te σ H fun y H1 => to σ H1 fun x H2 => ∃ a C : Addr, x = .ref a ∧ OexG K C ∧ PySem.W.findIn K (.ref C) f = some none ∧
  ((∃ (dx : Addr) (fs : List (Str × V)), H2 a = some (exo a C (some dx)) ∧ H2 dx = some (exd dx fs) ∧ fs.length ≤ 900 ∧ D.nx σ (upd H2 dx (exd dx ((f, y) :: fs)))) ∨
    H2 a = some (exo a C none) ∧ ∀ dx, H2 dx = none → dx ≠ a → D.nx σ (upd (upd H2 dx (exd dx [(f, y)])) a (exo a C (some dx))))
theorem ps_ostG {X : Cx} {o e : Expr} {to te : TE} {f : Str} {p' pos : Pos} (ho : PE X o to) (he : PE X e te) (hs : swapsWith e (some (.Attribute o f p')) pos.line X.env = pure false := by rfl) : PS X (.Assign [.Attribute o f p'] e pos) (tOstG X.K f to te) := by
  constructor
  intro pins s σ H D I h
  apply plainObj_wpAny_Assign_Attribute _ hs
  refine thn (he.run pins s σ H _ I h) ?_
  rintro v s1 ⟨y, H1, I1, r1, q1⟩
  refine thn (ho.run pins s1 σ H1 _ I1 q1) ?_
  rintro u s2 ⟨x, H2, I2, r2, a, C, rfl, T, no, q⟩
  cases (show u = Value.ref a from r2)
  rcases q with ⟨dx, fs, ea, ed, few, q⟩ | ⟨ea, q⟩
  · exact ostG_old T I2 ea ed few no r1 fun s' J => ⟨σ, _, J, q⟩
  · exact ostG_new T I2 ea no r1 fun dx s' n ne J => ⟨σ, _, J, q dx n ne⟩
/-! ### C(x, ..) -/
section
variable {X : Cx} {CX : CXT} {C fI : Addr} {k : Nat} {fd : FuncData} {ps : List Str} {sp : Sp} {pins : List (Addr × Obj)} {σ : L2.St} {H1 : Hp} {s1 : Shared} {vs : List V} {us : List Value} {Q : Value → Shared → Prop} {G : Addr → Addr → List (Str × V) → Hp → Prop}
theorem callG (T : OexG X.K C) (iC : PySem.W.findIn X.K (.ref C) "__init__" = some (some (.ref fI))) (tI : PySem.W.typeIn X.K (.ref fI) = some (.type "function")) (F1 : FnOk X.prog X.w X.K X.mg X.base CX k fI fd ps sp) (hr : Room (k + 1) X.A) (hb : Binds X.K fd ps [])
    (hx : Passes CX X (fun _ _ _ => False)) (I1 : Inv X pins σ H1 s1) (r1 : Vals vs us) (few : vs.length ≤ 1000)
    (q1 : ∀ a, H1 a = none → sp (.ref a :: vs) (upd H1 a (exo a C none)) (fun v H2 => v = .non ∧ ∃ (d : Addr) (fs : List (Str × V)), H2 a = some (exo a C (some d)) ∧ H2 d = some (exd d fs) ∧ H1 d = none ∧ G a d fs H2) (fun _ _ _ => False))
    (then_ : ∀ (a d t0 : Addr) (fs : List (Str × V)) (H2 : Hp) (g0 : Heap) (s2 : Shared), Inv X pins σ (upd (del H2 a) d (.xd fs)) { s2 with heap := g0 } → (∀ b o, g0.get? b = some o → s2.heap.get? b = some o) → g0.get? a = none →
      s2.heap.get? a = some ({ cls := .ref C, dict := some d, data := .fields #[.ref t0, .none, .none, .none, .bool false, .none] } : Obj) → (upd (del H2 a) d (.xd fs)) a = none → AllBare s2.gens → G a d fs H2 → Q (.ref a) s2) :
    wpAny (model X.prog X.w) X.A (call (.ref C) us) Q X.xe s1 := by
  obtain ⟨NB, newId, initId, bmN, B, bmB, F, _, ⟨tB, tA, tN⟩, oc, _⟩ := T.bas
  obtain ⟨nm, N, q, bs, bm, hdct, sn, sub, ab, col, dd, k0, k1, k2, k3, k5, hC, hT⟩ := PySem.W.excInit_of I1.kIn oc
  obtain ⟨hp, g, dr, tk, os⟩ := s1
  have past : hp.objs.size ≤ hp.objs.size + 1 := Nat.le_succ _
  have new1 : H1 (hp.objs.size + 1) = none := I1.hok.fresh past
  have hq := q1 _ new1
  have kk : ∀ b o, hp.get? b = some o → ((hp.push (PySem.W.kdv_tup us)).push (HandSPX.excO C hp.objs.size)).get? b = some o := fun b o e => Heap.get?_push_of_some _ (Heap.get?_push_of_some _ e)
  have at2 : ((hp.push (PySem.W.kdv_tup us)).push (HandSPX.excO C hp.objs.size)).get? (hp.objs.size + 1) = some (HandSPX.excO C hp.objs.size) := by heap_get
  have I2 : Inv X pins σ (upd H1 (hp.objs.size + 1) (exo (hp.objs.size + 1) C none)) ⟨(hp.push (PySem.W.kdv_tup us)).push (HandSPX.excO C hp.objs.size), g, dr, tk, os⟩ := I1.laid (t' := tk) kk past (exo_ok at2)
  have r2 : Vals (.ref (hp.objs.size + 1) :: vs) (.ref (hp.objs.size + 1) :: us) := .cons rfl r1
  have len : (Value.ref (hp.objs.size + 1) :: us ++ []).length = ps.length := by
    rw [List.append_nil, ← r2.length]
    exact F1.len _ _ _ _ hq
  have few' : us.length ≤ sizeLine := by
    rw [← Paired.length r1, sizeLine_eq]
    omega
  have bnd := hb _ (Value.ref (hp.objs.size + 1) :: us) I2.kIn len
  rw [List.append_nil] at bnd
  have made := F1.run _ X.stack _ _ ⟨Value.ref (hp.objs.size + 1) :: us, []⟩ (Value.ref (hp.objs.size + 1) :: us) _ _ (fun _ _ _ => False) (hr.make C us []) (I2.env0.make C us []) bnd r2 hq
  have has : ∀ Y : String, (Value.ref C :: bm).contains (.type Y) = bmB.contains (.type Y) := fun Y => by rw [List.contains_cons, hT]; rfl
  refine wpAny_call (call_g F ((has _).trans tB) ((has _).trans tA) ((has _).trans tN) hC (PySem.W.looks_findIn I1.kIn iC) (fun self => PySem.W.bind_fn I1.kIn self tI) few' (codeAny_mono made fun r s' hq' => ?_))
  cases r with
  | error er => exact hx pins σ _ _ er s' I2 hq'
  | ok fl =>
    cases fl <;> first | exact False.elim hq' | skip
    obtain ⟨v, H2, os2, bare2, un2, hok2, rv, rfl, d, fs, ea, ed, hd1, gg⟩ := hq'
    obtain ⟨h2, g2, d2, t2, os'⟩ := s'
    obtain ⟨t0, g0, J, kG, ge, hoe, na⟩ := mk_end0 (d2 := d2) (t2 := t2) I1 past kk un2 hok2 os2 bare2 ea ed hd1
    exact ⟨rv, then_ _ d t0 fs H2 g0 ⟨h2, g2, d2, t2, os'⟩ J kG ge hoe na bare2 gg⟩
/-- .. that is raised -/
def tMkG (C : Addr) (sp : Sp) (ta : TA) : L2.St → Hp → XK → Prop := fun σ H Q => ta σ H fun vs H1 => vs.length ≤ 1000 ∧ ∀ a, H1 a = none → sp (.ref a :: vs) (upd H1 a (exo a C none))
  (fun u H2 => u = .non ∧ ∃ (d : Addr) (fs : List (Str × V)), H2 a = some (exo a C (some d)) ∧ H2 d = some (exd d fs) ∧ H1 d = none ∧ Q (.ref C) (some d) (upd (del H2 a) d (.xd fs))) fun _ _ _ => False
variable {x : Str} {e : Expr} {es : List Expr} {ta : TA} {p pos : Pos}
theorem pmk_g (T : OexG X.K C) (iC : PySem.W.findIn X.K (.ref C) "__init__" = some (some (.ref fI))) (tI : PySem.W.typeIn X.K (.ref fI) = some (.type "function")) (F1 : FnOk X.prog X.w X.K X.mg X.base CX k fI fd ps sp) (hr : Room (k + 1) X.A) (hb : Binds X.K fd ps [])
    (hx : Passes CX X (fun _ _ _ => False)) (hg : Gl X x) (hm : X.mg x = some (.ref C)) (ha : PA X (e :: es) ta)
    (hdb : (x == ("__debug__" : Str)) = false := by decide) (he : starEach (e :: es) X.env = (false, eval e X.env) :: starEach es X.env := by rfl) (hpl : (backTo pos (starEach es X.env)).any (·.1) = false := by rfl) : PMk X (.Call (.Name x p) (e :: es) [] pos) (tMkG C sp ta) := by
  intro pins s σ H Q I h
  apply wpAny_Call_Name_kw (ld_glob I hg hm _ hdb)
  apply PySem.W.callWith_K (h₀ := X.base) I.ok.mod.kin T.kept _ he hpl
  refine thn (ha.run pos pins s σ H _ I h) ?_
  rintro us s1 ⟨vs, H1, I1, r1, few, q1⟩
  refine ⟨I1.kIn, ?_⟩
  show wpAny _ _ (call (.ref C) us) _ _ _
  exact callG T iC tI F1 hr hb hx I1 r1 few q1 fun a d t0 fs H2 g0 s2 J kG ge hoe na bare q => ⟨a, _, _, { s2 with heap := g0 }, _, .ref C, some d, rfl, J, kG, ge, hoe, ⟨rfl, rfl⟩, rfl, rfl, na, rfl, bare, raises_own T.isEx T.isTy, q⟩
end
end Dl

set_option Elab.async false
set_option linter.all false
set_option maxRecDepth 100000
set_option maxHeartbeats 4000000
namespace Dl
open PySem PySem.Spec PyProof.Rows L2
/-! ### their __init__ -/
/-- what __init__(self, f): self.f = f does -/
def init1 (C : Addr) (f : Str) : Sp := fun vs H Q _ => ∃ a y, vs = [.ref a, y] ∧ H a = some (exo a C none) ∧ ∀ d, H d = none → d ≠ a → Q .non (upd (upd H d (exd d [(f, y)])) a (exo a C (some d)))
section
variable {P : Program} {w : World} {K : PySem.W.Frag} {mg : Str → Option Value} {base : Heap} {qual : Str} {st : Stmt} {fI C : Addr} {fd : FuncData} {N : List Str} {f g : Str}
theorem init1_ok (F : Fun K "__init__" qual st fI fd) (S : FnScope N ["self", f] (defScope st)) (T : OexG K C) (hno : PySem.W.findIn K (.ref C) f = some none)
    (hb : ∀ (cdv : Value) (A : Around) (outer : List Env) (s : Shared) (H : Hp) (E : XK), PSs (cxOf CX0 P w K mg base N qual (defScope st) fI cdv A outer s H E).nox (defBody st) (tOstG K f (tVar 0) (tVar 1))) :
    FnOk P w K mg base CX0 1 fI fd ["self", f] (init1 C f) := by
  refine F.ok (k := 0) S (fun vs H Q E h => ?_) fun cdv A outer s H vs Q E hr h => ⟨_, hb cdv A outer s H E, ?_⟩
  · obtain ⟨a, y, rfl, _⟩ := h
    rfl
  · obtain ⟨a, y, rfl, ea, q⟩ := h
    refine ⟨y, rfl, .ref a, rfl, a, C, rfl, T, hno, .inr ⟨ea, fun d n ne => q d n ne⟩⟩
end
/-! made and let go -/
theorem Dl_one {α : Type} {x : Str} {ds : List α} (h : ds.length = [x].length) : ∃ y, ds = [y] := by
  rcases ds with _ | ⟨a, _ | ⟨b, r⟩⟩ <;> first | exact ⟨_, rfl⟩ | (exfalso; simp only [List.length_cons, List.length_nil] at h; omega)
def xRaiseI (c : Str) (fns : List Str) (a : DA) : DX := fun S => (a S).bind fun p => if p.1.length = fns.length then some (⟨c, (fns.zip p.1).reverse⟩, p.2) else none
theorem heap1 {H : Hp} {a d : Addr} {o u v x : HO} (na : H a = none) (ne : d ≠ a) : upd (del (upd (upd (upd H a o) d u) a v) a) d x = upd H d x := by
  funext b
  by_cases hd : b = d
  · subst hd; rw [upd_same, upd_same]
  · rw [upd_ne hd, upd_ne hd]
    by_cases ha : b = a
    · subst ha; rw [del_same, na]
    · rw [del_ne ha, upd_ne ha, upd_ne hd, upd_ne ha]
section
variable {X : Cx} {W : WX} {x : Str} {C fI : Addr} {k : Nat} {fd : FuncData} {e e2 : Expr} {fA : DA} {pos p pos2 : Pos} {f g : Str}
theorem jxs_raise1 (T : OexG X.K C) (iC : PySem.W.findIn X.K (.ref C) "__init__" = some (some (.ref fI))) (tI : PySem.W.typeIn X.K (.ref fI) = some (.type "function"))
    (F1 : FnOk X.prog X.w X.K X.mg X.base CX0 k fI fd ["self", f] (init1 C f)) (hr : Room (k + 1) X.A) (hb : Binds X.K fd ["self", f] []) (hg : Gl X x) (hm : X.mg x = some (.ref C)) (rh : rho X.K x = C) (hc : X.calm = true) (tk : Takes X W) (ha : JA X [e] fA)
    (hdb : (x == ("__debug__" : Str)) = false := by decide) (he : starEach [e] X.env = (false, eval e X.env) :: starEach [] X.env := by rfl) : JXs X W (.Raise (some (.Call (.Name x p) [e] [] pos2)) none pos) (xRaiseI x [f] fA) := by
  refine ⟨fun pins s σ H D0 I h => (ps_raise hc tk (pmk_g T iC tI F1 hr hb pass0 hg hm ha.pe hdb he rfl)).run pins s σ H D0 I ?_⟩
  obtain ⟨N, H0, α0, α, S, ex, S', R, e0, q⟩ := h
  obtain ⟨⟨ds, S1⟩, e1, e0⟩ := opt_bind e0
  dsimp only at e0
  split at e0
  · rename_i hl
    cases e0
    refine ha.rf N H0 α0 α σ H S ds _ _ R e1 fun vs α1 H1 R1 g1 d1 => ?_
    obtain ⟨y, rfl⟩ := Dl_one hl
    cases d1 with
    | @cons v _ _ _ dv rest =>
      cases rest
      refine ⟨Nat.le_of_ble_eq_true rfl, fun a na => ⟨a, v, rfl, upd_same, fun d nd ne => ⟨rfl, d, [(f, v)], upd_same, by rw [upd_ne ne, upd_same], ?_, ?_⟩⟩⟩
      · rw [upd_ne ne] at nd; exact nd
      · rw [upd_ne ne] at nd
        rw [heap1 na ne, ← rh]
        have sm := Bg.same_new (o := HO.xd [(f, v)]) nd
        refine q σ α1 _ (some d) (R1.same sm) g1.pre (g1.same.trans (Gr.of_same (α := α1) (S := S') sm).same) (.inr ⟨d, [(f, v)], (fun z => nomatch z), rfl, ?_, .cons ?_ .nil⟩)
        · exact lim_some.mpr ⟨fun m => (R1.mlive d m) nd, upd_same⟩
        · exact dv.mono (Gr.of_same (α := α1) (S := S') sm).same (List.prefix_refl _)
  · cases e0
end
/-! ### e.f of a kept error -/
theorem KR.look {K : PySem.W.Frag} {α : List Addr} {H : Hp} {n : Str} {vs : List (Str × V)} {ds : List (Str × D)} {d : D} (h : KR K α H vs ds) (e : ds.lookup n = some d) : ∃ v, vs.lookup n = some v ∧ DR K α H v d := by
  induction h with
  | nil => cases e
  | @cons k v vs d0 ds ha hb ih =>
    rw [List.lookup_cons] at e ⊢
    cases hk : n == k with
    | true => rw [hk] at e; cases e; exact ⟨_, rfl, ha⟩
    | false => rw [hk] at e; exact ih e
end Dl

set_option Elab.async false
set_option linter.all false
set_option maxRecDepth 100000
set_option maxHeartbeats 4000000
namespace Dl
open PySem PySem.Spec PyProof.Rows L2
/-! ### errors as things -/
section
variable {K : PySem.W.Frag} {N : Addr → Prop} {H0 H H1 : Hp} {α0 α α1 : List Addr} {σ : L2.St} {S S1 : Sx}
end
section
variable {X : Cx} {x : Str} {C fI : Addr} {k : Nat} {fd : FuncData} {e e2 : Expr} {fA : DA} {fe : DE} {p pos : Pos} {f g : Str}
end
/-! ### isinstance of errors, with fields or without -/
end Dl

set_option Elab.async false
set_option linter.all false
set_option maxRecDepth 100000
set_option maxHeartbeats 4000000
namespace Dl
open PySem PySem.Spec PyProof.Rows L2
/-! ### enumerate -/
theorem enumD_len : ∀ (ds : List D) (n : Nat), (enumD n ds).length = ds.length
  | [], _ => rfl
  | _ :: ds, n => congrArg (· + 1) (enumD_len ds (n + 1))
theorem enumD_get : ∀ (ds : List D) (n i : Nat) (d : D), ds[i]? = some d → (enumD n ds)[i]? = some (.tup [.int ((n + i : Nat) : Int), d])
  | [], _, _, _, h => by rw [List.getElem?_nil] at h; cases h
  | _ :: ds, n, 0, _, h => by cases h; rfl
  | _ :: ds, n, i + 1, d, h => by
    rw [List.getElem?_cons_succ] at h
    unfold enumD
    rw [List.getElem?_cons_succ, enumD_get ds (n + 1) i d h, Nat.add_assoc, Nat.add_comm 1 i]
section
variable {K : PySem.W.Frag} {tA : TA} {fA : DA}
theorem walk_denum {α : List Addr} {Hm : Hp} {J : It} {xs : List V} {ds : List D} {G : Hp → Prop} (w : Walk J xs.length G (YPair (fun i => some (.int (i : Nat))) (fun i => xs[i]?))) (g : ∀ H2 M2, Same Hm (lim H2 M2) → G H2) (r : DRs K α Hm xs ds) : WalkD K α Hm J (enumD 0 ds) := by
  refine ⟨G, YPair (fun i => some (.int (i : Nat))) (fun i => xs[i]?), by rw [enumD_len, ← r.len]; exact w, g, fun i H2 v H3 M2 hi s l y => ?_⟩
  obtain ⟨T, x, z, rfl, new, rfl, hx, hz⟩ := y
  cases hx
  obtain ⟨d, e, dr⟩ := r.getV hz
  have at_ := enumD_get ds 0 i d e
  rw [Nat.zero_add] at at_
  refine ⟨Bg.same_new new, _, at_, fun α2 p => .tup (SqT.of (lim_new l new)) (.cons (.int _) (.cons (dr.mono (fun a o h => lim_mono (Bg.same_new new) a o (s a o h)) p) .nil))⟩
theorem rf_iEn (ha : RefA K tA fA) : RefI K (tiOr (iEnum K tA) (Bg.iEnumT K tA)) (iEn fA) := by
  intro N H0 α0 α σ H S ds S' Rr R e q
  obtain ⟨⟨xs, S1⟩, e1, e⟩ := opt_bind e
  dsimp only at e
  split at e
  · cases e
    refine .inl (ha N H0 α0 α σ H S _ _ _ R e1 fun v α1 H1 R1 g1 d1 => ?_)
    cases d1 with
    | cons r1 r2 =>
      cases r2
      cases r1 with
      | lst a b => exact ⟨_, _, rfl, sqL_lim a, q _ α1 H1 R1 g1 (walk_denum walk_enum (fun H2 M2 s => sqL_lim (s.seq a)) b)⟩
  · cases e
    refine .inr (ha N H0 α0 α σ H S _ _ _ R e1 fun v α1 H1 R1 g1 d1 => ?_)
    cases d1 with
    | cons r1 r2 =>
      cases r2
      cases r1 with
      | tup a b => exact ⟨_, _, rfl, sqT_lim a, q _ α1 H1 R1 g1 (walk_denum Bg.walk_enumT (fun H2 M2 s => sqT_lim (Bg.sqT_same s a)) b)⟩
  · cases e
end
section
variable {X : Cx} {a : Expr} {fA : DA} {p pos tpos : Pos} {elts : List Expr} {kk : Nat}
theorem ji_en (hg : Gl X "enumerate") (hm : X.mg "enumerate" = none) (ha : JA X [a] fA) (hs : starEach [a] X.env = [(false, eval a X.env)] := by rfl) : JI X (.Tuple elts kk tpos) (.Call (.Name "enumerate" p) [a] [] pos) (iEn fA) :=
  JI.of (pi_or (pi_enum hg hm ha.pe hs) (Bg.pi_enumT hg hm ha.pe hs)) (rf_iEn ha.rf)
end
end Dl

set_option Elab.async false
set_option linter.all false
set_option maxRecDepth 100000
set_option maxHeartbeats 4000000
namespace Dl
open PySem PySem.Spec PyProof.Rows L2
/-! ### repr of whatever can be shown -/
end Dl

set_option Elab.async false
set_option linter.all false
set_option maxRecDepth 100000
set_option maxHeartbeats 4000000
namespace Dl
open PySem PySem.Spec PyProof.Rows L2
/-! ### texts: walked sign by sign, in, <= -/
def signs (z : Str) : List D := z.cps.toList.map fun c => .str ⟨#[c]⟩
def iES (a : DE) : DI := fun S => (a S).bind fun p => match p.1 with
  | .lst ds => some (ds, p.2)
  | .tup ds => some (ds, p.2)
  | .str z => some (signs z, p.2)
  | _ => none
section
variable {K : PySem.W.Frag} {ta : TE} {fa : DE}
theorem walk_dstr {α : List Addr} {Hm : Hp} {z : Str} : WalkD K α Hm (Its z) (signs z) := by
  have hl : (signs z).length = z.cps.size := by unfold signs; rw [List.length_map, Array.length_toList]
  refine ⟨fun _ => True, fun i H v H' => H' = H ∧ ∃ c, z.cps[i]? = some c ∧ v = .str ⟨#[c]⟩, by rw [hl]; exact walk_str, fun _ _ _ => trivial, fun i H2 x H3 M2 hi s l y => ?_⟩
  obtain ⟨rfl, c, e, rfl⟩ := y
  refine ⟨Same.refl _, .str ⟨#[c]⟩, ?_, fun α2 p => .str _⟩
  unfold signs
  rw [List.getElem?_map, Array.getElem?_toList, e]
  rfl
theorem rf_iES (ha : RefE K ta fa) : RefI K (tiOr (tiOr (iList K ta) (iTup K ta)) (iStr ta)) (iES fa) := by
  intro N H0 α0 α σ H S ds S' Rr R e q
  obtain ⟨⟨x, S1⟩, e1, e⟩ := opt_bind e
  cases x <;> first | (cases e; done) | skip
  · cases e
    refine .inr (ha N H0 α0 α σ H S _ _ _ R e1 fun v α1 H1 R1 g1 d1 => ?_)
    cases d1
    exact ⟨_, rfl, q _ α1 H1 R1 g1 walk_dstr⟩
  · cases e
    exact .inl (rf_iE ha N H0 α0 α σ H S _ _ _ R (by unfold iE; rw [e1]; rfl) q)
  · cases e
    exact .inl (rf_iE ha N H0 α0 α σ H S _ _ _ R (by unfold iE; rw [e1]; rfl) q)
end
theorem ji_es {X : Cx} {e tgt : Expr} {fe : DE} (h : JE X e fe) : JI X tgt e (iES fe) := JI.of (pi_or (pi_or (pi_list h.pe) (pi_tup h.pe)) (pi_str h.pe)) (rf_iES h.rf)
theorem x_iEL {e : DE} {S S1 : Sx} {ds : List D} {d : D} (h : e S = some (d, S1)) (hd : d = .lst ds ∨ d = .tup ds) : iES e S = some (ds, S1) := by rcases hd with rfl | rfl <;> (unfold iES; rw [h]; rfl)
def gInW (x y : D) : Option D := match x, y with
  | .str i, .str j => match i.cps.toList with
    | [c] => some (.bl (decide (c ∈ j.cps.toList)))
    | _ => none
  | x, y => gIn false x y
def gLeW (x y : D) : Option D := match x, y with
  | .str i, .str j => some (.bl (!decide (j.cps.toList < i.cps.toList)))
  | x, y => gLe x y
section
variable {K : PySem.W.Frag}
def rSign : R2 := fun x y H Q => ∃ (c : Nat) (z : Str), x = .str ⟨#[c]⟩ ∧ y = .str z ∧ Q (.bl (decide (c ∈ z.cps.toList))) H
def rLeS : R2 := fun x y H Q => ∃ i j, x = .str i ∧ y = .str j ∧ Q (.bl (!decide (j.cps.toList < i.cps.toList))) H
theorem os_inW : OpS K (rOr (rInA K false) rSign) gInW := by
  intro α M x y H Q d1 d2 d3 l r1 r2 e q
  unfold gInW at e
  split at e
  · rename_i i j
    split at e
    · rename_i c hc
      cases e
      cases r1
      cases r2
      refine .inr ⟨c, j, ?_, rfl, q _ H (Same.refl H) (.bl _)⟩
      obtain ⟨⟨cs⟩⟩ := i
      cases (show cs = [c] from hc)
      rfl
    · cases e
  · exact .inl (os_in false α M x y H Q _ _ d3 l r1 r2 e q)
theorem os_leW : OpS K (rOr (rI0 fun i j => .bl (decide (i ≤ j))) rLeS) gLeW := by
  intro α M x y H Q d1 d2 d3 l r1 r2 e q
  unfold gLeW at e
  split at e
  · rename_i i j
    cases e
    cases r1
    cases r2
    exact .inr ⟨i, j, rfl, rfl, q _ H (Same.refl H) (.bl _)⟩
  · exact .inl (os_le α M x y H Q _ _ d3 l r1 r2 e q)
end
theorem oj_inW {X : Cx} (hu : X.A.units + 65 < cLine) : OpJ X (compareOp .In) (rOr (rInA X.K false) rSign) gInW := ⟨op_or2 (oj_in hu).op op_in_sign, os_inW⟩
theorem oj_leW {X : Cx} : OpJ X (compareOp .LtE) (rOr (rI0 fun i j => .bl (decide (i ≤ j))) rLeS) gLeW := ⟨op_or2 oj_le.op op_le_str, os_leW⟩
/-! ### in a list of the store -/
def inStO (x y : D) (S : Sx) : Option D := match y with
  | .obj k => match S.st[k]? with
    | some (.lst ds) => inFlat false x ds
    | _ => none
  | y => gInW x y
def eInO (a b : DE) : DE := fun S => (a S).bind fun p => (b p.2).bind fun q => (inStO p.1 q.1 q.2).map fun z => (z, q.2)
theorem rf_inO {K : PySem.W.Frag} {ta tb : TE} {fa fb : DE} (ha : RefE K ta fa) (hb : RefE K tb fb) : RefE K (tOp (rOr (rInA K false) rSign) ta tb) (eInO fa fb) := by
  intro N H0 α0 α σ H S d S' Q R e q
  obtain ⟨⟨x, S1⟩, e1, e⟩ := opt_bind e
  obtain ⟨⟨y, S2⟩, e2, e⟩ := opt_bind e
  obtain ⟨z, e3, e⟩ := opt_map e
  obtain ⟨rfl, rfl⟩ := Prod.mk.inj e
  refine ha N H0 α0 α σ H S x S1 _ R e1 fun v1 α1 H1 R1 g1 d1 => ?_
  refine hb N H0 α0 α1 σ H1 S1 y S2 _ R1 e2 fun v2 α2 H2 R2 g2 d2 => ?_
  have dx := g2.dr d1
  have e3 : inStO x y S2 = some z := e3
  have fin : ∀ v, DR K α2 (lim H2 (Mx N α2 S2 σ)) v z → Q v H2 := fun v dr => q v α2 H2 R2 (g1.trans g2) dr
  clear e e1 e2
  unfold inStO at e3
  split at e3
  · rename_i k
    split at e3
    · rename_i ds en
      cases d2 with
      | obj ea =>
        obtain ⟨a, ea', vs, hH, dr⟩ := R2.sto.at_ _ _ en
        rw [ea] at ea'
        cases ea'
        obtain ⟨v, f1, e3⟩ := opt_bind e3
        obtain ⟨ws, f2, rfl⟩ := opt_map e3
        obtain ⟨rfl, g1⟩ := flat_ok dx f1
        obtain ⟨rfl, g2⟩ := flats_ok dr f2
        exact .inl (.inl ⟨_, _, rfl, .inl (.inl (.inl hH)), g1, g2, fin _ (.bl _)⟩)
    · cases e3
  · refine os_inW α2 _ v1 v2 H2 Q x _ _ R2.mlive dx d2 e3 fun v H' s dr => ?_
    exact q v α2 H' (R2.same s) ((g1.trans g2).trans (.of_same s)) dr
section
variable {X : Cx} {a b : Expr} {fa fb : DE} {pos : Pos}
theorem je_inO (hu : X.A.units + 65 < cLine) (ha : JE X a fa) (hb : JE X b fb) (hm : behindInMarks .In b = false) : JE X (.Compare a [.In] [b] pos) (eInO fa fb) := JE.of (pe_cmpR (oj_inW hu).op ha.pe hb.pe hm) (rf_inO ha.rf hb.rf)
theorem jt_inO (hu : X.A.units + 65 < cLine) (ha : JE X a fa) (hb : JE X b fb) (hm : behindInMarks .In b = false) : JT X (.Compare a [.In] [b] pos) (tE (eInO fa fb)) := JT.of (pt_cmpR (oj_inW hu).op ha.pe hb.pe hm) (rf_tT (rf_inO ha.rf hb.rf))
end
end Dl

set_option Elab.async false
set_option linter.all false
set_option maxRecDepth 100000
set_option maxHeartbeats 4000000
namespace Dl
open PySem PySem.Spec PyProof.Rows L2
/-! ### an exception that goes out of a loop -/
section
variable {K : PySem.W.Frag} {W : WX} {wi : TI} {fi : DI} {tg : TG} {fg : DG} {f1 : DS} {r1 : DX} {ws : List Nat}
end
/-! evaluation -/
section
variable {g : DG} {b : DS} {r : DX} {x : D} {xs ds : List D} {S S1 S2 : Sx} {z : Exn × Sx} {it : DI}
end
end Dl

set_option Elab.async false
set_option linter.all false
set_option maxRecDepth 100000
set_option maxHeartbeats 4000000
namespace Dl
open PySem PySem.Spec PyProof.Rows L2
/-! ### repr of a tuple in which {} may stand however deep -/
def rRepT (K : PySem.W.Frag) : List V → Hp → VK → Prop := fun xs H Q => ∃ a vs ds, xs = [.ref a] ∧ SqT K H a vs ∧ DqAll K H vs ds ∧ (PyData.tuple ds).showable = true ∧ (PyData.tuple ds).depth ≤ 50 ∧ (PyData.tuple ds).shown.length ≤ 1000000 ∧ Q (.str (PyData.tuple ds).shown) H
end Dl

set_option Elab.async false
set_option linter.all false
set_option maxRecDepth 100000
set_option maxHeartbeats 4000000
namespace Dl
open PySem PySem.Spec PyProof.Rows L2
/-! ### a tuple, repeated -/
def gMulT : D → D → Option D
  | .tup (x :: xs), .int k => if 2 ≤ k ∧ k ≤ 1000 ∧ (x :: xs).length ≤ 1000 then some (.tup (List.replicate k.toNat (x :: xs)).flatten) else none
  | _, _ => none
theorem os_mulT {K : PySem.W.Frag} : OpS K (L2.rRepT K) gMulT := by
  intro α M x y H Q d1 d2 d3 l r1 r2 e q
  unfold gMulT at e
  split at e
  · split at e
    · rename_i c
      cases e
      cases r2
      cases r1 with
      | tup a b =>
        refine ⟨_, _, _, rfl, rfl, sqT_lim a, (fun z => by subst z; cases b), c.1, c.2.1, by rw [b.len]; exact c.2.2, fun p np => ?_⟩
        exact q _ _ (Bg.same_new np) (.tup (SqT.of (lim_new l np)) ((drs_rep b _).mono (lim_mono (Bg.same_new np)) (List.prefix_refl _)))
    · cases e
  · cases e
theorem oj_mulT {X : Cx} : OpJ X (binaryOp .Mult) (L2.rRepT X.K) gMulT := ⟨op_repT, os_mulT⟩
end Dl

set_option Elab.async false
set_option linter.all false
set_option maxRecDepth 100000
set_option maxHeartbeats 4000000
namespace Dl
open PySem PySem.Spec PyProof.Rows L2
/-! ### a text is no dict -/
section
open SeqAt MeetsSeq AutoSeq1
variable {prog : Program} {w : World} {K : Type} [DecidableEq K] {knd : KeyKind prog w K} {A : Around} {E : Value → Shared → Prop} {s : Shared}
end
end Dl

set_option Elab.async false
set_option linter.all false
set_option maxRecDepth 100000
set_option maxHeartbeats 3200000
/-! Sets of texts: what they hold, add, sorted. Own work of the verifier. -/
namespace Bg
open PySem PySem.Spec PyProof.Rows L2 PySem.Calls
def txtOf (e : Int × Value) : Str := match e.2 with | .str k _ => k | _ => ""
/-- one entry of a set of texts -/
def TxtIn (w : World) (e : Int × Value) : Prop := ∃ k tk, e.2 = Value.str k tk ∧ e.1 = hashStr w k
/-- what the set at b holds: Z tells it, m how many; it can be walked -/
def SetZ (w : World) (h : Heap) (b : Addr) (Z : Str → Bool) (m : Nat) : Prop :=
  ∃ ob fs en tb, h.get? b = some ob ∧ ob.ExactSet ∧ ob.data = .set fs en tb ∧ (∀ e, e ∈ fs.toList → TxtIn w e) ∧ (fs.toList.map txtOf).Nodup ∧ (∀ z, Z z = true ↔ z ∈ fs.toList.map txtOf) ∧
    fs.size < scanBound ∧ tb.fits fs.size = true ∧ fs.size = m ∧ Ris tb.place.toList ∧ (w.params.followText "set-order" = true ∨ tb.led = true)
section
variable {P : Program} {w : World} {h h' : Heap} {b : Addr} {Z : Str → Bool} {m : Nat}
theorem SetZ.moved (R : SetZ w h b Z m) (k : ∀ o, h.get? b = some o → h'.get? b = some o) : SetZ w h' b Z m :=
  let ⟨ob, fs, en, tb, q, r⟩ := R
  ⟨ob, fs, en, tb, k ob q, r⟩
end
section
variable {P : Program} {w : World} {A : Around} {E : Value → Shared → Prop} {s : Shared} {b : Addr} {Z : Str → Bool} {m : Nat}
end
end Bg

set_option Elab.async false
set_option linter.all false
set_option maxRecDepth 100000
set_option maxHeartbeats 3200000
/-! The order of texts; sorted of a set of texts. Own work of the verifier. -/
namespace Bg
open PySem PySem.Spec PyProof.Rows L2 PySem.Calls
section
variable {P : Program} {w : World} {A : Around} {E : Value → Shared → Prop} {s : Shared}
end
/-! ### over the layer -/
section
variable {X : Cx}
end
end Bg

set_option Elab.async false
set_option linter.all false
set_option maxRecDepth 100000
set_option maxHeartbeats 3200000
/-! Set comprehensions of texts. Own work of the verifier. -/
namespace Bg
open PySem PySem.Spec PyProof.Rows L2 PpSet
section
variable {X : Cx}
end
end Bg

set_option Elab.async false
set_option linter.all false
set_option maxRecDepth 100000
set_option maxHeartbeats 3200000
/-! set(l), l a list of texts. Own work of the verifier. -/
namespace Bg
open PySem PySem.Spec PyProof.Rows L2 PySem.Calls
theorem SetZ.congr {w : World} {h : Heap} {b : Addr} {Z Y : Str → Bool} {m : Nat} (R : SetZ w h b Z m) (e : ∀ z, Y z = Z z) : SetZ w h b Y m := by
  obtain rfl : Y = Z := funext e
  exact R
section
variable {P : Program} {w : World} {A : Around} {E : Value → Shared → Prop} {s : Shared}
end
end Bg

set_option Elab.async false
set_option linter.all false
set_option maxRecDepth 100000
set_option maxHeartbeats 4000000
namespace Dl
open PySem PySem.Spec PyProof.Rows L2
/-! ### sorted(set(l)), sorted({.. for ..}): texts -/
section
variable {K : PySem.W.Frag} {w : World}
section
variable {ta : TE} {fa : DE}
end
section
variable {tt : TT} {ft : DT} {te : TE} {fe : DE} {tg : TG} {fg : DG} {wi : TI} {fi : DI}
end
end
section
variable {X : Cx} {e : Expr} {fe : DE} {p p2 pos pos2 : Pos}
end
end Dl

set_option Elab.async false
set_option linter.all false
set_option maxRecDepth 100000
set_option maxHeartbeats 4000000
namespace Dl
open PySem PySem.Spec PyProof.Rows L2
/-! ### split, join -/
section
variable {K : PySem.W.Frag} {ta tb : TE} {fa fb : DE}
end
section
variable {X : Cx} {o e : Expr} {fo fe : DE} {apos pos : Pos}
end
/-! ### k not in d -/
section
variable {K : PySem.W.Frag} {ta tb : TE} {fa fb : DE}
end
section
variable {X : Cx} {a b : Expr} {fa fb : DE} {pos : Pos}
end
/-! ### d.update(e) -/
section
variable {K : PySem.W.Frag} {te to : TE} {fe fo : DE}
end
/-! ### isinstance of an error, several classes -/
def anyB (c : Str) : List (List (Str × Bool)) → Option Bool
  | [] => some false
  | t :: ts => (t.lookup c).bind fun b => if b = true then some true else anyB c ts
/-- the classes that are asked for, each with its table -/
inductive ClsT (K : PySem.W.Frag) : List V → List Value → List (List (Str × Bool)) → Prop
  | nil : ClsT K [] [] []
  | cons {v : V} {u : Value} {t : List (Str × Bool)} {vs : List V} {us : List Value} {ts : List (List (Str × Bool))} (k : ClsV v u) (h : ∀ c b, t.lookup c = some b → ExcC K (rho K c) ∧ PySem.W.kitOne K (.ref (rho K c)) u = some b) (r : ClsT K vs us ts) : ClsT K (v :: vs) (u :: us) (t :: ts)
theorem ClsT.pair {K : PySem.W.Frag} {vs : List V} {us : List Value} {ts : List (List (Str × Bool))} (h : ClsT K vs us ts) : Paired ClsV vs us := by
  induction h with
  | nil => exact .nil
  | cons k _ _ ih => exact .cons k ih
theorem ClsT.any {K : PySem.W.Frag} {vs : List V} {us : List Value} {ts : List (List (Str × Bool))} (h : ClsT K vs us ts) {c : Str} : ∀ {b : Bool}, anyB c ts = some b → PySem.W.kitAny K (.ref (rho K c)) us = some b := by
  induction h with
  | nil => intro b e; cases e; rfl
  | cons k h r ih =>
    intro b e
    obtain ⟨b0, e1, e2⟩ := opt_bind e
    refine kitAny_cons (h _ _ e1).2 (fun z => ?_) fun z => ?_
    · rw [z, if_neg Bool.false_ne_true] at e2
      exact ih e2
    · rw [z, if_pos rfl] at e2
      cases e2
      rfl
theorem ClsT.exc {K : PySem.W.Frag} {vs : List V} {us : List Value} {ts : List (List (Str × Bool))} (h : ClsT K vs us ts) (n : ts ≠ []) {c : Str} {b : Bool} (e : anyB c ts = some b) : ExcC K (rho K c) := by
  cases h with
  | nil => exact absurd rfl n
  | cons k h r =>
    obtain ⟨b0, e1, _⟩ := opt_bind e
    exact (h _ _ e1).1
/-- es are the names of the classes -/
inductive ClsE (X : Cx) : List Expr → List V → Prop
  | nil : ClsE X [] []
  | cons {e : Expr} {v : V} {es : List Expr} {vs : List V} (h : PE X e (tC v)) (n : starEach (e :: es) X.env = (false, eval e X.env) :: starEach es X.env) (r : ClsE X es vs) : ClsE X (e :: es) (v :: vs)
def taC (vs : List V) : TA := fun _ H Q => Q vs H
theorem ClsE.pa {X : Cx} {es : List Expr} {vs : List V} (h : ClsE X es vs) : PA X es (taC vs) := by
  induction h with
  | nil => exact ⟨fun pos pins s σ H Q I q => pa_nil.run pos pins s σ H Q I q⟩
  | cons h n r ih => exact ⟨fun pos pins s σ H Q I q => (pa_cons h ih n).run pos pins s σ H Q I q⟩
/-! ### lists of the store: isinstance, == and != -/
section
variable {K : PySem.W.Frag} {ta tb : TE} {fa fb : DE}
end
section
variable {X : Cx} {a b : Expr} {fa fb : DE} {p pos : Pos}
end
/-! ### three names at once -/
end Dl

set_option Elab.async false
set_option linter.all false
set_option maxRecDepth 100000
set_option maxHeartbeats 3200000
/-! zip of a list and a tuple. Own work of the verifier. -/
namespace Bg
open PySem PySem.Spec PyProof.Rows L2 PySem.Calls RZ
section
variable {P : Program} {w : World} {A : Around} {E : Value → Shared → Prop} {s : Shared}
end
section
variable {P : Program} {w : World} {A : Around} {E : Value → Shared → Prop} {s : Shared}
end
end Bg

set_option Elab.async false
set_option linter.all false
set_option maxRecDepth 100000
set_option maxHeartbeats 4000000
namespace Dl
open PySem PySem.Spec PyProof.Rows L2
/-! ### zip of a list and a tuple -/
end Dl

set_option Elab.async false
set_option linter.all false
set_option maxRecDepth 100000
set_option maxHeartbeats 4000000
/-! Generator expressions of two fors: all, any over them. -/
namespace Gx
open PySem PySem.Spec PyProof.Rows L2 GenW
section
variable {P : Program} {w : World} {A : Around} {a : Addr} {g : Nat} {F T : Shared → Prop} {stop : Bool} {elt t1 it1 t2 it2 : Expr} {pos : Pos} {scope : Scope} {I : Addr} {cenv : Env} {J : Nat → Nat → Shared → Prop} {n₀ : Nat}
/-- the generator expression with two fors -/
abbrev two (elt t1 it1 t2 it2 : Expr) (scope : Scope) (pos : Pos) : Expr := .GeneratorExp elt [⟨t1, it1, [], 0⟩, ⟨t2, it2, [], 0⟩] scope pos
end
end Gx

set_option Elab.async false
set_option linter.all false
set_option maxRecDepth 100000
set_option maxHeartbeats 4000000
namespace Gx
open PySem PySem.Spec PyProof.Rows L2 GenW GxR
section
variable {M : Model} {A : Around} {E : Value → Shared → Prop} {s : Shared} {elt t1 it1 t2 it2 : Expr} {scope : Scope} {pos : Pos} {env : Env}
end
section
variable {X : Cx} {pins : List (Addr × Obj)} {σ : L2.St} {H : Hp} {s : Shared} {scope : Scope} {own : List (Str × Nat)} {elt t1 it1 t2 it2 : Expr} {gpos : Pos} {c P : Addr} {wi wi1 : TI} {g g1 : TG} {te : TE} {vs1 : List Nat} {stop : Bool} {Q : VK} {k : Nat}
end
end Gx

set_option Elab.async false
set_option linter.all false
set_option maxRecDepth 100000
set_option maxHeartbeats 4000000
namespace Gx
open PySem PySem.Spec PyProof.Rows L2 GenW GxR
section
variable {X : Cx} {scope : Scope} {own : List (Str × Nat)} {elt t1 it1 t2 it2 : Expr} {gpos p pos : Pos} {c P : Addr} {wi wi1 : TI} {g g1 : TG} {te : TE} {vs1 : List Nat} {k : Nat}
end
end Gx

set_option Elab.async false
set_option linter.all false
set_option maxRecDepth 100000
set_option maxHeartbeats 4000000
namespace Dl
open PySem PySem.Spec PyProof.Rows L2
/-! ### all, any of a generator expression with two fors -/
def inF (stop : Bool) (vs1 : List Nat) (g1 : DG) (e : DE) : List D → Sx → Option (Bool × Sx × Nat)
  | [], S => some (false, S, 0)
  | x :: xs, S => (g1 x S).bind fun S1 => (e S1).bind fun p => match p.1 with
    | .bl b => if b = stop then some (true, p.2, 1) else (inF stop vs1 g1 e xs (wipeS p.2 vs1)).map fun q => (q.1, q.2.1, q.2.2 + 1)
    | _ => none
section
variable {K : PySem.W.Frag} {N : Addr → Prop} {H0 H : Hp} {α0 α : List Addr} {σ τ : L2.St} {S : Sx} {vs : List Nat}
theorem SR.wiped (R : SR K N H0 α0 α τ H S) (hl : σ.length = τ.length) (h : ∀ j, j ∉ vs → σ[j]? = τ[j]?) : SR K N H0 α0 α σ H (wipeS S vs) ∧ Same (lim H (Mx N α S τ)) (lim H (Mx N α (wipeS S vs) σ)) := by
  obtain ⟨Ra, sa⟩ := R.wipe vs
  obtain ⟨Rb, mb⟩ := Ra.slots (σ' := σ) hl (fun j x hx nx => by
    by_cases c : j ∈ vs
    · exact absurd (wipeS_un c hx) nx
    · exact h j c)
  have eb : Mx N α (wipeS S vs) σ = Mx N α (wipeS S vs) τ := funext fun a => propext (mb a)
  exact ⟨Rb, by rw [eb]; exact sa⟩
variable {te : TE} {fe : DE} {tg tg1 : TG} {fg fg1 : DG} {wi wi1 : TI} {fi fi1 : DI} {stop : Bool} {nm : Str} {ws ws1 vs1 : List Nat}
end
section
variable {X : Cx} {elt t1 it1 t2 it2 : Expr} {scope : Scope} {own : List (Str × Nat)} {fi fi1 : DI} {fg fg1 : DG} {fe : DE} {ws ws1 vs1 : List Nat} {nm : Str} {gpos p pos : Pos} {k : Nat}
end
/-! ### evaluation -/
section
variable {S S1 S9 : Sx} {it it1 : DI} {g g1 : DG} {e : DE} {ds : List D} {vs vs1 : List Nat} {nm : Str}
end
end Dl

set_option Elab.async false
set_option linter.all false
set_option maxRecDepth 100000
set_option maxHeartbeats 4000000
namespace Dl
open PySem PySem.Spec PyProof.Rows L2
/-! ### (*a, b): a display with stars; dict(list of pairs) -/
section
variable {X : Cx} {a : Expr} {es : List Expr} {ta : TE} {tr : TA} {p : Pos}
variable {K : PySem.W.Frag} {fa : DE} {fr : DA}
end
/-! evaluation -/
section
variable {S S1 S2 : Sx} {a : DE} {r : DA} {xs ys : List D}
end
/-! ### dict(list of pairs) -/
def pairsD : List D → Option (List (Key × D))
  | [] => some []
  | .tup [k, v] :: ds => (keyD k).bind fun kk => (pairsD ds).map fun r => (kk, v) :: r
  | _ => none
def gDictL : List D → Option D
  | [.lst ds] => (pairsD ds).map fun kvs => .dct ((mergeD [] kvs).map Prod.fst) ((mergeD [] kvs).map Prod.snd)
  | _ => none
abbrev rDictL (K : PySem.W.Frag) : CRd := fun xs H Q => ∃ (a : Addr) (ps : List Addr) (kvs : List (Key × V)), xs = [.ref a] ∧ SqL K H a (ps.map V.ref) ∧ Paired (fun p kv => SqT K H p [kV kv.1, kv.2]) ps kvs ∧ ∀ p, H p = none → Q (.ref p) (upd H p (.dK (mergeK [] kvs)))
section
variable {K : PySem.W.Frag} {α : List Addr} {H : Hp} {M : Addr → Prop}
theorem pairs_at : ∀ {ds : List D} {xs : List V} {kvs : List (Key × D)}, DRs K α (lim H M) xs ds → pairsD ds = some kvs → ∃ (ps : List Addr) (vs : List (Key × V)), xs = ps.map V.ref ∧ Paired (fun p kv => SqT K H p [kV kv.1, kv.2]) ps vs ∧ KR K α (lim H M) vs kvs
  | [], _, _, h, e => by
    cases h
    cases e
    exact ⟨[], [], rfl, .nil, .nil⟩
  | d :: ds, _, kvs, .cons (v := v) (vs := vs) h t, e => by
    match d, h, e with
    | .tup [k, y], h, e =>
      obtain ⟨kk, ek, e⟩ := opt_bind (show (keyD k).bind (fun kk => (pairsD ds).map fun r => (kk, y) :: r) = some kvs from e)
      obtain ⟨r, er, ee⟩ := Option.map_eq_some_iff.mp e
      subst ee
      obtain ⟨ps, ws, rfl, hp, hk⟩ := pairs_at t er
      cases h with
      | @tup b us _ y1 y2 =>
        cases y2 with
        | cons z1 z2 =>
          cases z2 with
          | cons z3 z4 =>
            cases z4
            rename_i v1 v2
            have ev := key_ok z1 ek
            subst ev
            exact ⟨b :: ps, (kk, v2) :: ws, rfl, .cons (sqT_lim y1) hp, .cons z3 hk⟩
theorem cs_dictL : CallS K (rDictL K) gDictL := by
  intro α M xs H Q ds d3 l r e q
  match ds, r, e with
  | [.lst ds], r, e =>
    obtain ⟨kvs, ek, ee⟩ := Option.map_eq_some_iff.mp (show (pairsD ds).map (fun kvs => D.dct ((mergeD [] kvs).map Prod.fst) ((mergeD [] kvs).map Prod.snd)) = some d3 from e)
    subst ee
    cases r with
    | cons r1 r2 =>
      cases r2
      cases r1 with
      | lst y1 y2 =>
        obtain ⟨ps, vs, rfl, hp, hk⟩ := pairs_at y2 ek
        refine ⟨_, ps, vs, rfl, sqL_lim y1, hp, fun p np => q _ _ (Bg.same_new np) ?_⟩
        have sm : Same (lim H M) (lim (upd H p (.dK (mergeK [] vs))) M) := lim_mono (Bg.same_new np)
        have km := (hk.mono sm (List.prefix_refl _)).merge (vs := []) (ds := []) .nil
        obtain ⟨p1, p2⟩ := km.parts
        exact .dct (kvs := mergeK [] vs) (lim_new l np) p1 p2
variable {X : Cx}
theorem cj_dictL (hc : X.calm = true) : CJ X (.type "dict") (rDictL X.K) gDictL := ⟨call_dictP hc, cs_dictL⟩
end
end Dl

set_option Elab.async false
set_option linter.all false
set_option maxRecDepth 100000
set_option maxHeartbeats 4000000
namespace Dl
open PySem PySem.Spec PyProof.Rows L2
/-! ### d[y] of a dict that is never changed -/
section
variable {K : PySem.W.Frag} {ta tb : TE} {fa fb : DE}
end
/-! ### a list of the store, of lists of the store, compared -/
section
variable {K : PySem.W.Frag} {N : Addr → Prop} {H0 H : Hp} {α0 α : List Addr} {σ : L2.St} {S : Sx}
variable {ta tb : TE} {fa fb : DE}
end
end Dl

set_option Elab.async false
set_option linter.all false
set_option maxRecDepth 100000
set_option maxHeartbeats 4000000
namespace Dl
open PySem PySem.Spec PyProof.Rows L2
/-! ### plain data (no truths among them), compared: == is just being the same -/
inductive Pq : Nat → D → Prop
  | non {n : Nat} : Pq n .non
  | int {n : Nat} (i : Int) : Pq n (.int i)
  | str {n : Nat} {z : Str} (h : PyData.strOk z = true) : Pq n (.str z)
  | tup {n : Nat} {ds : List D} (h : ∀ d, d ∈ ds → Pq n d) : Pq (n + 1) (.tup ds)
  | lst {n : Nat} {ds : List D} (h : ∀ d, d ∈ ds → Pq n d) : Pq (n + 1) (.lst ds)
theorem Pq.mono : ∀ {n m : Nat} {d : D}, Pq n d → n ≤ m → Pq m d
  | _, _, _, .non, _ => .non
  | _, _, _, .int i, _ => .int i
  | _, _, _, .str h, _ => .str h
  | n + 1, m, _, .tup h, l => by
    obtain ⟨m', rfl⟩ : ∃ m', m = m' + 1 := ⟨m - 1, by omega⟩
    exact .tup fun d hd => Pq.mono (h d hd) (by omega)
  | n + 1, m, _, .lst h, l => by
    obtain ⟨m', rfl⟩ : ∃ m', m = m' + 1 := ⟨m - 1, by omega⟩
    exact .lst fun d hd => Pq.mono (h d hd) (by omega)
structure PqS (n : Nat) (d : D) (p : PyData) : Prop where
  py : D.py d = some p
  lay : p.canLay0 = true
  dep : p.depth ≤ n
  eqv : ∀ (m : Nat) (e : D) (q : PyData), Pq m e → D.py e = some q → (PyData.eqv p q = true ↔ d = e)
/-! ### sorted sets of texts -/
end Dl

set_option Elab.async false
set_option linter.all false
set_option maxRecDepth 100000
set_option maxHeartbeats 4000000
namespace Dl
open PySem PySem.Spec PyProof.Rows L2
/-! ### startswith, removeprefix, int(text) -/
section
variable {K : PySem.W.Frag}
end
section
variable {X : Cx} {o e : Expr} {fo fe : DE} {apos pos : Pos}
end
/-! ### f-strings of texts and whole numbers -/
inductive JJ (X : Cx) : List Expr → List DE → Prop where
  | nil : JJ X [] []
  | cons {e : Expr} {f : DE} {es : List Expr} {fs : List DE} (h : JE X e f) (r : JJ X es fs) : JJ X (e :: es) (f :: fs)
section
variable {K : PySem.W.Frag} {te : TE} {fe : DE}
inductive RefJs (K : PySem.W.Frag) : List TE → List DE → Prop where
  | nil : RefJs K [] []
  | cons {t : TE} {f : DE} {ts : List TE} {fs : List DE} (h : RefE K t f) (r : RefJs K ts fs) : RefJs K (t :: ts) (f :: fs)
end
section
variable {X : Cx} {v1 v2 e : Expr} {rest : List Expr} {f : DE} {fs : List DE} {pos : Pos}
theorem JJ.both {es : List Expr} (h : JJ X es fs) : ∃ ts, PJ X es ts ∧ RefJs X.K ts fs := by
  induction h with
  | nil => exact ⟨[], .nil, .nil⟩
  | cons a _ ih =>
    obtain ⟨ts, p, r⟩ := ih
    exact ⟨_ :: ts, .cons a.pe p, .cons a.rf r⟩
end
/-! evaluation -/
section
variable {S S1 S2 : Sx} {e : DE} {es : List DE} {d : D} {z y acc out : Str}
end
end Dl

set_option Elab.async false
set_option linter.all false
set_option maxRecDepth 100000
set_option maxHeartbeats 4000000
namespace Dl
open PySem PySem.Spec PyProof.Rows L2
/-! ### match over lists: a text ahead and names behind it, or names alone -/
section
variable {X : Cx} {pins : List (Addr × Obj)} {σ : L2.St} {H : Hp} {s : Shared}
end
section
variable {X : Cx} {rest : List MatchCase} {body : List Stmt} {f : DS} {m : D → DS} {pos p1 p2 : Pos} {z : Str} {j : Nat} {ps : List Pattern} {ns : List Str} {ws : List Nat} {fgs : List D → Sx → Option Sx}
end
/-! evaluation -/
section
variable {z x : Str} {n : Nat} {ds : List D} {fgs : List D → Sx → Option Sx} {b k : DS} {m : D → DS} {S S1 : Sx} {Q : Fl → Sx → Prop}
end
end Dl

set_option Elab.async false
set_option linter.all false
set_option maxRecDepth 100000
set_option maxHeartbeats 4000000
namespace Dl
open PySem PySem.Spec PyProof.Rows L2
/-! ### lists of the store: what a builtin tells of one, enumerate, all and any over one -/
def atomB : D → Bool
  | .str _ => true
  | .int _ => true
  | .bl _ => true
  | _ => false
def eCBO (g : List D → Option D) (a : DE) : DE := fun S => (a S).bind fun p => (asO p.1).bind fun n => (lstO p.2 n).bind fun ds => (g [.lst ds]).bind fun d => if atomB d = true then some (d, p.2) else none
section
variable {K : PySem.W.Frag} {N : Addr → Prop} {H0 H H2 : Hp} {α0 α : List Addr} {σ : L2.St} {S : Sx} {P : Addr}
variable {ta te : TE} {fa fe : DE} {tA : TA} {tg : TG} {fg : DG} {stop : Bool} {nm : Str} {ws vs : List Nat}
theorem rf_cbO {r : CRd} {g : List D → Option D} (h : CallS K r g) (ha : RefE K ta fa) : RefE K (tCB r (tCons ta tNil)) (eCBO g fa) := by
  intro N H0 α0 α σ H S d S' Q R e q
  obtain ⟨⟨x, S1⟩, e1, e⟩ := opt_bind e
  obtain ⟨n, e2, e⟩ := opt_bind e
  obtain ⟨ds, e3, e⟩ := opt_bind e
  obtain ⟨d', e4, e⟩ := opt_bind e
  split at e
  case isFalse => cases e
  rename_i at_
  cases e
  have e2 := asO_ok e2
  simp only at e2
  subst e2
  refine ha N H0 α0 α σ H S _ S1 _ R e1 fun v α1 H1 R1 g1 d1 => ?_
  cases d1 with
  | obj en =>
    obtain ⟨vs0, hv, hd⟩ := R1.lstAt en e3
    have lx : DR K α1 (lim H1 fun _ => False) (.ref _) (.lst ds) := .lst (.inl (.inl (lim_some.mpr ⟨fun z => z, hv⟩))) (hd.mono (fun a o h => lim_some.mpr ⟨fun z => z, (lim_some.mp h).2⟩) (List.prefix_refl _))
    refine h α1 (fun _ => False) _ H1 Q [.lst ds] _ (fun _ z => z.elim) (.cons lx .nil) e4 fun v H3 sm dr => q v α1 H3 (R1.same sm) (g1.trans (.of_same sm)) ?_
    cases dr with
    | str z => exact .str z
    | int i => exact .int i
    | bl b => exact .bl b
    | _ => cases at_
end
section
variable {X : Cx} {a e elt tgt iter : Expr} {f fe : DE} {fg : DG} {p pos tpos gpos : Pos} {elts : List Expr} {kk k : Nat} {scope : Scope} {own : List (Str × Nat)} {ws : List Nat} {nm : Str}
theorem je_cbO {x : Str} {id : String} {rr : CRd} {gg : List D → Option D} (hc : CJ X (.builtin id) rr gg) (hg : Gl X x) (hm : X.mg x = none) (hv : bootBuiltins x = some (.builtin id)) (ha : JE X a f) (hn : x ≠ "__name__" := by decide) (hdb : (x == ("__debug__" : Str)) = false := by decide)
    (he : starEach [a] X.env = (false, eval a X.env) :: starEach [] X.env := by rfl) (hpl : (backTo pos (starEach [] X.env)).any (·.1) = false := by rfl) : JE X (.Call (.Name x p) [a] [] pos) (eCBO gg f) :=
  JE.of (pe_callB hc.op hg hm hv (pa_cons ha.pe pa_nil he) hn hdb he hpl) (rf_cbO hc.os ha.rf)
end
/-! evaluation -/
section
variable {S S1 S9 : Sx} {a e : DE} {g : DG} {n : Nat} {ds : List D} {d : D} {vs : List Nat} {nm : Str}
end
end Dl

set_option Elab.async false
set_option linter.all false
set_option maxRecDepth 100000
set_option maxHeartbeats 4000000
namespace Dl
open PySem PySem.Spec PyProof.Rows L2
/-! ### texts as lists of signs; whole numbers written and read -/
def nT (i : Int) : Str := Str.ofString (toString i)
/-! one sign ahead -/
/-! pieces of an f-string that leave all as it is -/
inductive JsP (S : Sx) : List DE → List Str → Prop
  | nil : JsP S [] []
  | cons {e : DE} {y : Str} {es : List DE} {ys : List Str} (h : e S = some (.str y, S)) (r : JsP S es ys) : JsP S (e :: es) (y :: ys)
/-! joined and split again -/
end Dl

set_option Elab.async false
set_option linter.all false
set_option maxRecDepth 100000
set_option maxHeartbeats 4000000
namespace Dl
open PySem PySem.Spec PyProof.Rows L2
/-! ### an exception out of a walk over a list of the store -/
section
variable {K : PySem.W.Frag} {W : WX} {wi : TI} {fi : DIW} {tg : TG} {fg : DG} {f1 : DS} {r1 : DX} {ws : List Nat}
end
section
variable {nx : DW} {g : DG} {b : DS} {r : DX} {x : D} {S S1 S2 : Sx} {z : Exn × Sx} {it : DIW} {n i : Nat}
end
/-! ### slices of a list of the store, its reverse, it and more, it some times -/
section
variable {K : PySem.W.Frag} {N : Addr → Prop} {H0 H : Hp} {α0 α : List Addr} {σ : L2.St} {S : Sx} {ta tb : TE} {fa fb : DE} {tl th : TO} {fl fh : DOp}
end
section
variable {X : Cx} {a b e : Expr} {fa fb fe : DE} {pos p2 p1 p3 : Pos} {k : Nat}
/-! ### a text, once or not at all -/
end
/-! ### a sign that is not in a text -/
/-! ### d.get(k, x) of a dict of the store -/
def eGetO (a b c : DE) : DE := fun S => (a S).bind fun p => (b p.2).bind fun q => (c q.2).bind fun r => match p.1 with
  | .obj n => (keyD q.1).bind fun k => match p.2.st[n]?, r.2.st[n]? with
    | some (.dct _), some (.dct kvs) => some ((valD kvs k).getD r.1, r.2)
    | _, _ => none
  | _ => none
section
variable {K : PySem.W.Frag} {ta tb tc : TE} {fa fb fc : DE}
theorem rf_getO (ha : RefE K ta fa) (hb : RefE K tb fb) (hc : RefE K tc fc) : RefE K (tDGet2 ta tb tc) (eGetO fa fb fc) := by
  intro N H0 α0 α σ H S d S' Q R e q
  obtain ⟨⟨x, S1⟩, e1, e⟩ := opt_bind e
  obtain ⟨⟨y, S2⟩, e2, e⟩ := opt_bind e
  obtain ⟨⟨z, S3⟩, e3, e⟩ := opt_bind e
  refine ha N H0 α0 α σ H S x S1 _ R e1 fun v1 α1 H1 R1 g1 d1 => ?_
  cases x <;> first | (cases e; done) | skip
  rename_i n
  obtain ⟨k, ek, e⟩ := opt_bind e
  dsimp only at e
  split at e
  case h_2 => cases e
  rename_i k0 kvs en0 en
  cases e
  have d1' := d1
  cases d1' with
  | obj ea =>
    rename_i a
    obtain ⟨a0, ea0, vs0, hv0, _⟩ := R1.sto.at_ _ _ en0
    rw [ea] at ea0; cases ea0
    refine ⟨a, rfl, .inl ⟨vs0, .inl hv0⟩, ?_⟩
    refine hb N H0 α0 α1 σ H1 S1 y S2 _ R1 e2 fun v2 α2 H2 R2 g2 d2 => ?_
    refine hc N H0 α0 α2 σ H2 S2 z _ _ R2 e3 fun v3 α3 H3 R3 g3 d3 => ?_
    have ev := key_ok d2 ek
    subst ev
    obtain ⟨a1, ea1, vs, hv, kr⟩ := R3.sto.at_ _ _ en
    rw [pre_at (g2.trans g3).pre ea] at ea1; cases ea1
    refine ⟨valV vs k, DGet.k hv, q _ α3 H3 R3 ((g1.trans g2).trans g3) ?_⟩
    cases ed : valD kvs k with
    | none => rw [kr.val.2 ed]; exact d3
    | some dd => obtain ⟨w, ew, dw⟩ := kr.val.1 _ ed; rw [ew]; exact dw
end
theorem je_getO {X : Cx} {o e f : Expr} {fo fe ff : DE} {apos cpos : Pos} (hu : X.A.units + 1 < cLine) (ho : JE X o fo) (he : JE X e fe) (hf : JE X f ff) (hbase : attributeBase o "get" X.env (eval o X.env) = eval o X.env := by rfl)
    (hfew : ((backTo cpos (starEach [e, f] X.env)).all (fun x => !x.1) && (backToKw cpos (keywordEach [] X.env)).all (fun x => x.1.isSome) && decide (([e, f] : List Expr).length + ([] : List Keyword).length + (if ([] : List Keyword).isEmpty then 0 else 1) < 30)) = true := by rfl) (hline : (apos.endLine == cpos.line) = true := by rfl) (hs : backTo cpos (starEach [e, f] X.env) = [(false, eval e X.env), (false, eval f X.env)] := by rfl) :
    JE X (.Call (.Attribute o "get" apos) [e, f] [] cpos) (eGetO fo fe ff) := JE.of (pe_dget2 hu ho.pe he.pe hf.pe ⟨hbase, hfew, hline, hs⟩) (rf_getO ho.rf he.rf hf.rf)
/-! ### l.index(x) -/
/-! ### a new list by split -/
/-! evaluation -/
section
variable {S S1 S2 S3 : Sx} {a b c : DE} {n : Nat} {x y : D} {ds es : List D} {l h : Option Int} {lo hi : DOp}
end
/-! ### a def that raises and knows its code object -/
section
variable {P : Program} {w : World} {K : PySem.W.Frag} {mg : Str → Option Value} {base : Heap}
end
end Dl

set_option Elab.async false
set_option linter.all false
set_option maxRecDepth 100000
set_option maxHeartbeats 4000000
namespace Dl
open PySem PySem.Spec PyProof.Rows L2
/-! ### a number's text is the only one that is read so, without a nought ahead -/
end Dl

set_option Elab.async false
set_option linter.all false
set_option maxRecDepth 100000
set_option maxHeartbeats 4000000
namespace Dl
open PySem PySem.Spec PyProof.Rows L2
/-! ### a long list some times; a list of the store joined -/
section
variable {K : PySem.W.Frag} {N : Addr → Prop} {H0 H : Hp} {α0 α : List Addr} {σ : L2.St} {S : Sx} {ta tb : TE} {fa fb : DE}
end
section
variable {X : Cx} {a b o e : Expr} {fa fb fo fe : DE} {pos apos : Pos}
end
section
variable {S S1 S2 S3 : Sx} {a b : DE} {n : Nat} {ds : List D}
end
end Dl

set_option Elab.async false
set_option linter.all false
set_option maxRecDepth 100000
set_option maxHeartbeats 4000000
namespace Dl
open PySem PySem.Spec PyProof.Rows L2
/-! ### instances: fields read, stored, counted up; made; their methods called -/
def putFD (f : Str) (d : D) : List (Str × D) → List (Str × D)
  | [] => [(f, d)]
  | (g, x) :: r => if g = f then (g, d) :: r else (g, x) :: putFD f d r
/-- the instance at n, of one of the classes cs -/
def insO (cs : List Str) (S : Sx) (n : Nat) : Option (Str × List (Str × D)) := match S.st[n]? with
  | some (.ins c fs) => if cs.contains c = true then some (c, fs) else none
  | _ => none
def eFld (cs : List Str) (n : Str) (e : DE) : DE := fun S => (e S).bind fun p => (asO p.1).bind fun k => (insO cs p.2 k).bind fun o => (o.2.lookup n).map fun d => (d, p.2)
def sFldO (cs : List Str) (n : Str) (o e : DE) : DS := fun S => (e S).bind fun p => (o p.2).bind fun q => (asO q.1).bind fun k => (insO cs q.2 k).bind fun w =>
  if w.2.length < 1000 then some (.nx, q.2.putO k (.ins w.1 (putFD n p.1 w.2))) else none
def sFldA (cs : List Str) (n : Str) (g : D → D → Option D) (o e : DE) : DS := fun S => (o S).bind fun p => (asO p.1).bind fun k => (insO cs p.2 k).bind fun w => (w.2.lookup n).bind fun d => (e p.2).bind fun q => (g d q.1).bind fun z => (insO [w.1] q.2 k).bind fun w =>
  if w.2.length < 1000 then some (.nx, q.2.putO k (.ins w.1 (putFD n z w.2))) else none
def eMeth (c m : Str) (F : DF) (o : DE) (a : DA) : DE := fun S => (o S).bind fun p => (asO p.1).bind fun k => (insO [c] p.2 k).bind fun w => if w.2.lookup m = none then (a p.2).bind fun q => (F (.obj k :: q.1) q.2.st).map fun r => (r.1, { q.2 with st := r.2 }) else none
def eMake (c : Str) (F : DF) (dds : List D) (a : DA) : DE := fun S => (a S).bind fun p => (F (.obj p.2.st.length :: app2 p.1 dds) (p.2.st ++ [.ins c []])).bind fun r => match r.1 with
  | .non => some (.obj p.2.st.length, { p.2 with st := r.2 })
  | _ => none
section
variable {K : PySem.W.Frag} {α : List Addr} {H : Hp}
theorem KR.putF {f : Str} {v : V} {d : D} {vs : List (Str × V)} {ds : List (Str × D)} (h : KR K α H vs ds) (r : DR K α H v d) : KR K α H (L2.putF f v vs) (putFD f d ds) := by
  induction h with
  | nil => exact .cons r .nil
  | @cons k x vs y ds a b ih =>
    show KR K α H (if k = f then (k, v) :: vs else (k, x) :: L2.putF f v vs) (if k = f then (k, d) :: ds else (k, y) :: putFD f d ds)
    by_cases e : k = f
    · rw [if_pos e, if_pos e]; exact .cons r b
    · rw [if_neg e, if_neg e]; exact .cons a ih
theorem KR.len' {κ : Type} {vs : List (κ × V)} {ds : List (κ × D)} (h : KR K α H vs ds) : vs.length = ds.length := by
  induction h with
  | nil => rfl
  | cons a b ih => rw [List.length_cons, List.length_cons, ih]
theorem KR.none {κ : Type} [BEq κ] {n : κ} {vs : List (κ × V)} {ds : List (κ × D)} (h : KR K α H vs ds) (e : ds.lookup n = Option.none) : vs.lookup n = Option.none := by
  induction h with
  | nil => rfl
  | @cons k v vs d0 ds ha hb ih =>
    rw [List.lookup_cons] at e ⊢
    cases hk : n == k with
    | true => rw [hk] at e; cases e
    | false => rw [hk] at e; exact ih e
end
theorem insO_ok {cs : List Str} {S : Sx} {n : Nat} {w : Str × List (Str × D)} (h : insO cs S n = some w) : S.st[n]? = some (.ins w.1 w.2) ∧ cs.contains w.1 = true := by
  unfold insO at h
  split at h
  · rename_i c fs e
    split at h
    · rename_i hc
      cases h
      exact ⟨e, hc⟩
    · cases h
  · cases h
/-- what the rules ask of a class that has the field -/
def FldC (K : PySem.W.Frag) (cs : List Str) (n : Str) : Prop := ∀ c, cs.contains c = true → Cls K (rho K c) ∧ NoAttr K (rho K c) n
section
variable {K : PySem.W.Frag} {ta tb te : TE} {tA : TA} {fa fe fo : DE} {fA : DA} {cs : List Str} {n c m : Str}
theorem rf_fld (hc : FldC K cs n) (he : RefE K te fe) : RefE K (tFld K te n) (eFld cs n fe) := by
  intro N H0 α0 α σ H S d S' Q R e q
  obtain ⟨⟨x, S1⟩, e1, e⟩ := opt_bind e
  obtain ⟨k, e2, e⟩ := opt_bind e
  obtain ⟨⟨c, fs⟩, e3, e⟩ := opt_bind e
  obtain ⟨dd, e4, e⟩ := opt_map e
  cases e
  refine he N H0 α0 α σ H S x S1 _ R e1 fun v α1 H1 R1 g1 d1 => ?_
  cases x <;> first | (cases e2; done) | skip
  cases e2
  obtain ⟨en, hcs⟩ := insO_ok e3
  cases d1 with
  | obj ea =>
    obtain ⟨a, ea', dx, vs, h1, kr⟩ := R1.sto.at_ _ _ en
    rw [ea] at ea'; cases ea'
    obtain ⟨w, ew, dw⟩ := kr.look e4
    exact ⟨_, _, dx, vs, w, rfl, h1, (hc c hcs).1, (hc c hcs).2, ew, q w α1 H1 R1 g1 dw⟩
theorem rf_fldS (hc : FldC K cs n) (ho : RefE K ta fo) (he : RefE K te fe) : RefS K (sFld K ta te n) (sFldO cs n fo fe) := by
  intro N H0 α0 α σ H S fl S' E R e q
  obtain ⟨⟨z, S1⟩, e1, e⟩ := opt_bind e
  obtain ⟨⟨x, S2⟩, e2, e⟩ := opt_bind e
  obtain ⟨k, e3, e⟩ := opt_bind e
  obtain ⟨⟨c, fs⟩, e4, e⟩ := opt_bind e
  split at e
  case isFalse => cases e
  rename_i hl
  cases e
  refine he N H0 α0 α σ H S z S1 _ R e1 fun v0 α1 H1 R1 g1 d0 => ?_
  refine ho N H0 α0 α1 σ H1 S1 x S2 _ R1 e2 fun v1 α2 H2 R2 g2 d1 => ?_
  cases x <;> first | (cases e3; done) | skip
  cases e3
  obtain ⟨en, hcs⟩ := insO_ok e4
  cases d1 with
  | obj ea =>
    obtain ⟨a, ea', dx, vs, h1, kr⟩ := R2.sto.at_ _ _ en
    rw [ea] at ea'; cases ea'
    obtain ⟨R3, s3⟩ := R2.chgG (u := .ins (rho K c) dx (L2.putF n v0 vs)) (o' := .ins c (putFD n z fs)) en ea fun Hm sm => ⟨dx, _, upd_same, (kr.mono sm (List.prefix_refl _)).putF ((g2.dr d0).mono sm (List.prefix_refl _))⟩
    exact ⟨_, _, dx, vs, rfl, h1, (hc c hcs).1, (hc c hcs).2, by rw [kr.len']; exact hl, q σ α2 _ R3 (g1.pre.trans g2.pre) ((g1.same.trans g2.same).trans s3)⟩
theorem rf_fldA {rd : V → V → Hp → VK → Prop} {g : D → D → Option D} (hg : OpS K rd g) (hc : FldC K cs n) (ho : RefE K ta fo) (he : RefE K te fe) : RefS K (sFldAug K ta te rd n) (sFldA cs n g fo fe) := by
  intro N H0 α0 α σ H S fl S' E R e q
  obtain ⟨⟨x, S1⟩, e1, e⟩ := opt_bind e
  obtain ⟨k, e2, e⟩ := opt_bind e
  obtain ⟨⟨c, fs⟩, e3, e⟩ := opt_bind e
  obtain ⟨d, e4, e⟩ := opt_bind e
  obtain ⟨⟨y, S2⟩, e5, e⟩ := opt_bind e
  obtain ⟨z, e6, e⟩ := opt_bind e
  obtain ⟨⟨c2, fs2⟩, e7, e⟩ := opt_bind e
  split at e
  case isFalse => cases e
  rename_i hl
  cases e
  refine ho N H0 α0 α σ H S x S1 _ R e1 fun v1 α1 H1 R1 g1 d1 => ?_
  cases x <;> first | (cases e2; done) | skip
  cases e2
  obtain ⟨en, hcs⟩ := insO_ok e3
  obtain ⟨en2, hcs2⟩ := insO_ok e7
  have d1' := d1
  cases d1 with
  | obj ea =>
    obtain ⟨a, ea', dx, vs, h1, kr⟩ := R1.sto.at_ _ _ en
    rw [ea] at ea'; cases ea'
    obtain ⟨w, ew, dw⟩ := kr.look e4
    refine ⟨_, _, dx, vs, w, rfl, h1, (hc c hcs).1, (hc c hcs).2, ew, ?_⟩
    refine he N H0 α0 α1 σ H1 S1 y S2 _ R1 e5 fun v2 α2 H2 R2 g2 d2 => ?_
    refine hg α2 (Mx N α2 S2 σ) _ _ H2 _ _ _ _ R2.mlive (g2.dr dw) d2 e6 fun v3 H3 sm d3 => ?_
    have R3 := R2.same sm
    obtain ⟨a2, ea2, dx2, vs2, h2, kr2⟩ := R3.sto.at_ _ _ en2
    have e8 : α2[k]? = α1[k]? := by
      obtain ⟨t, e⟩ := g2.pre
      rw [← e, List.getElem?_append_left (List.getElem?_eq_some_iff.mp ea).1]
    rw [← e8] at ea
    rw [ea] at ea2; cases ea2
    obtain rfl : c2 = c := by simpa using hcs2
    obtain ⟨R4, s4⟩ := R3.chgG (u := .ins (rho K c2) dx2 (L2.putF n v3 vs2)) (o' := .ins c2 (putFD n z fs2)) en2 ea fun Hm sm => ⟨dx2, _, upd_same, (kr2.mono sm (List.prefix_refl _)).putF (d3.mono sm (List.prefix_refl _))⟩
    exact ⟨dx2, vs2, h2, by rw [kr2.len']; exact hl, q σ α2 _ R4 (g1.pre.trans g2.pre) (((g1.same.trans g2.same).trans (lim_mono sm)).trans s4)⟩
theorem rf_meth {F : DF} {E : XK} (ho : RefE K te fe) (ha : RefA K tA fA) : RefE K (tMeth (rho K c) m (spD K F) [] E te tA) (eMeth c m F fe fA) := by
  intro N H0 α0 α σ H S d S' Q R e q
  obtain ⟨⟨x, S1⟩, e1, e⟩ := opt_bind e
  obtain ⟨k, e2, e⟩ := opt_bind e
  obtain ⟨⟨c2, fs⟩, e3, e⟩ := opt_bind e
  split at e
  case isFalse => cases e
  rename_i hm
  obtain ⟨⟨xs, S2⟩, e4, e⟩ := opt_bind e
  obtain ⟨⟨r, st⟩, e5, e⟩ := opt_map e
  cases e
  refine ho N H0 α0 α σ H S x S1 _ R e1 fun v1 α1 H1 R1 g1 d1 => ?_
  cases x <;> first | (cases e2; done) | skip
  cases e2
  obtain ⟨en, hcs⟩ := insO_ok e3
  obtain rfl : c2 = c := by simpa using hcs
  have d1' := d1
  cases d1 with
  | obj ea =>
    obtain ⟨a, ea', dx, vs, h1, kr⟩ := R1.sto.at_ _ _ en
    rw [ea] at ea'; cases ea'
    refine ⟨_, dx, vs, rfl, h1, kr.none hm, ?_⟩
    refine ha N H0 α0 α1 σ H1 S1 xs S2 _ R1 e4 fun ws α2 H2 R2 g2 d2 => ?_
    rw [List.append_nil]
    exact callee F R2 (ds := .obj k :: xs) (.cons (g2.dr d1') d2) e5 fun v α3 H3 R3 g3 d3 => q v α3 H3 R3 ((g1.trans g2).trans g3) d3
theorem rf_make {F : DF} {E : XK} {dvs : List V} {dds : List D} (hd : ∀ α H, DRs K α H dvs dds) (ha : RefA K tA fA) : RefE K (tMake (rho K c) (spD K F) dvs E tA) (eMake c F dds fA) := by
  intro N H0 α0 α σ H S d S' Q R e q
  obtain ⟨⟨xs, S1⟩, e1, e⟩ := opt_bind e
  obtain ⟨⟨r, st⟩, e2, e⟩ := opt_bind e
  cases r <;> first | (cases e; done) | skip
  cases e
  refine ha N H0 α0 α σ H S xs S1 _ R e1 fun vs α1 H1 R1 g1 d1 => ?_
  intro x dx nx nd ne
  have La := (R1.add (p := dx) (o := .own x) nd).less.1
  have sa : Same H1 (upd H1 dx (.own x)) := Bg.same_new nd
  have nx2 : upd H1 dx (.own x) x = none := by rw [upd_ne (Ne.symm ne)]; exact nx
  have Rb := La.add (p := x) (o := .ins (rho K c) dx []) nx2
  have sb : Same (upd H1 dx (.own x)) (upd (upd H1 dx (.own x)) x (.ins (rho K c) dx [])) := Bg.same_new nx2
  obtain ⟨Rc, gc, dc⟩ := La.push Rb (.of_same sb) nx2 (R1.base_none nx) (o := .ins c []) fun α2 _ => ⟨dx, [], upd_same, .nil⟩
  have ga : Gr α1 H1 S1 α1 (upd H1 dx (.own x)) S1 := .of_same sa
  exact callee F Rc (ds := .obj S1.st.length :: app2 xs dds) (.cons dc (by rw [app2_eq]; exact ((ga.trans gc).drs d1).append (hd _ _))) e2 fun v α3 H3 R3 g3 d3 => ⟨by cases d3; rfl, q _ α3 H3 R3 (((g1.trans ga).trans gc).trans g3) (g3.dr dc)⟩
end
/-! methods and __init__ that show things (FnG) -/
/-- what o.m(..) comes to, once looked up -/
abbrev MethSem (X : Cx) (o : Expr) (m : Str) (apos pos : Pos) (es : List Expr) (pl : Sem Bool) : Prop :=
  eval (.Call (.Attribute o m apos) es [] pos) X.env = (eval o X.env >>= fun ov => standAt apos.atName >>= fun _ => holding [ov] (getMethod ov m pl) >>= fun w => callWith pos w.1 w.2 (backTo pos (starEach es X.env)) (backToKw pos (keywordEach [] X.env)))
section
variable {X : Cx} {CX : CXT} {k : Nat} {f C : Addr} {fd : FuncData} {ps : List Str} {sp : Sp} {E : XK} {x m : Str} {p pos apos : Pos} {e o : Expr} {es : List Expr} {ta : TE} {t : TA}
/-- C called: its __init__ f, whose parameters are bound to full, runs on a new instance -/
theorem made_goes {pins : List (Addr × Obj)} {σ : L2.St} {H : Hp} {s : Shared} {Q : VK} {us full : List Value} {kw : List (Str × Value)} {fv : List V} (M : Mk X.K C f) (F : Bg.FnG X.prog X.w X.K X.mg X.base CX k f fd ps sp) (hr : Room (k + 1) X.A) (gd : Bg.Gd X.A) (hx : Passes CX X E) (I : Inv X pins σ H s)
    (rel : Vals fv full) (bnd : ∀ s1 : Shared, X.K.In s1.heap → BindsTo s1 fd ⟨.ref (s.heap.objs.size + 1) :: us, kw⟩ (ps.zip full))
    (go : ∀ y dy, y = s.heap.objs.size + 1 → H y = none → H dy = none → dy ≠ y → sp fv (upd (upd H dy (.own y)) y (.ins C dy [])) (fun v H2 => v = .non ∧ Q (.ref y) H2) E) :
    wpAny (model X.prog X.w) X.A (call (.ref C) us kw) (EP X pins σ Q) X.xe s := by
  have J := I.made (C := C)
  have w := go _ s.heap.objs.size rfl (I.hok.fresh (by omega)) (I.hok.fresh (by omega)) (Nat.ne_add_one _)
  have run := F.run _ X.stack _ _ _ _ _ _ E (hr.make C us kw) gd (J.env0.make C us kw) (bnd _ J.kIn) rel w
  apply wpAny_call
  apply make_map (f := f) I.kIn M.makes M.init (beq_iff_eq.mp M.fn)
  refine codeAny_mono run ?_
  rintro (ex | fl) s2 post
  · exact hx pins σ _ _ ex s2 J post
  · rcases fl with u | _ | _ | _ <;> first | exact post.elim | skip
    obtain ⟨v, H2, J2, rv, rfl, last⟩ := J.after post
    exact ⟨rv, .ref (s.heap.objs.size + 1), H2, J2, rfl, last⟩
theorem pe_makeG {dvs : List V} {ds : List Value} (M : Mk X.K C f) (F : Bg.FnG X.prog X.w X.K X.mg X.base CX k f fd ps sp) (hr : Room (k + 1) X.A) (gd : Bg.Gd X.A) (hg : Gl X x) (hm : X.mg x = some (.ref C)) (hb : Binds X.K fd ps ds) (hd : Vals dvs ds) (hx : Passes CX X E) (ha : PA X (e :: es) t)
    (hdb : (x == ("__debug__" : Str)) = false) (he : starEach (e :: es) X.env = (false, eval e X.env) :: starEach es X.env) (hpl : (backTo pos (starEach es X.env)).any (·.1) = false) : PE X (.Call (.Name x p) (e :: es) [] pos) (tMake C sp dvs E t) := by
  constructor
  intro pins s σ H Q I h
  apply wpAny_Call_Name_kw
  apply ld_glob I hg hm _ hdb
  refine PySem.W.callWith_K (h₀ := X.base) I.ok.mod.kin M.kp ?_ he hpl
  refine thn (ha.run pos pins s σ H _ I h) ?_
  rintro us s1 ⟨vs, H1, I1, r, q⟩
  refine ⟨I1.kIn, ?_⟩
  have rr : Vals (.ref (s1.heap.objs.size + 1) :: (vs ++ dvs)) (.ref (s1.heap.objs.size + 1) :: us ++ ds) := .cons rfl (r.append hd)
  refine made_goes M F hr gd hx I1 rr (fun s2 k2 => hb s2 (.ref (s1.heap.objs.size + 1) :: us) k2 ?_) fun y dy ey ny nd ne => ?_
  · have w := q (s1.heap.objs.size + 1) s1.heap.objs.size (I1.hok.fresh (by omega)) (I1.hok.fresh (by omega)) (Nat.ne_add_one _)
    rw [← rr.length, F.len _ _ _ _ w]
  · subst ey
    exact q _ dy ny nd ne
/-- a method called: f, bound to full -/
theorem meth_goes {pins : List (Addr × Obj)} {σ : L2.St} {H : Hp} {s : Shared} {Q : VK} {us : List Value} {vs : List V} (F : Bg.FnG X.prog X.w X.K X.mg X.base CX k f fd ps sp) (hr : Room k X.A) (gd : Bg.Gd X.A) (hb : Binds X.K fd ps []) (hx : Passes CX X E) (I : Inv X pins σ H s) (r : Vals vs us) (w : sp (vs ++ []) H Q E) :
    wpAny (model X.prog X.w) X.A (call (.ref f) us) (EP X pins σ Q) X.xe s := by
  rw [List.append_nil] at w
  have n : (us ++ []).length = ps.length := by rw [List.append_nil, ← r.length, F.len _ _ _ _ w]
  have b := hb s us I.kIn n
  rw [List.append_nil] at b
  apply wpAny_call
  refine codeAny_mono (F.run X.A X.stack s H _ us vs Q E hr gd I.env0 b r w) ?_
  rintro (ex | fl) s2 post
  · exact hx pins σ H s ex s2 I post
  · rcases fl with u | _ | _ | _ <;> first | exact post.elim | exact I.after post
theorem pe_methG0 {pl : Sem Bool} (he : PE X o ta) (c : Cls X.K C) (hm : Meth X.K C m f) (F : Bg.FnG X.prog X.w X.K X.mg X.base CX k f fd ps sp) (hr : Room k X.A) (gd : Bg.Gd X.A) (hb : Binds X.K fd ps []) (hx : Passes CX X E) (ht : MethSem X o m apos pos [] pl) :
    PE X (.Call (.Attribute o m apos) [] [] pos) (tMeth C m sp [] E ta tNil) := by
  constructor
  intro pins s σ H Q I h
  refine PySem.W.methodCall_KW (pl := pl) ?_ ht
  refine thn (he.run pins s σ H _ I h) ?_
  rintro u s1 ⟨y, H1, I1, ru, a, dx, fs, rfl, ea, l, w⟩
  cases ru
  refine getmeth_ok I1 ea c hm l ?_
  exact PySem.W.callWith_K0 (first := [.ref a]) I1.kIn hm.kp (meth_goes (us := [.ref a]) (vs := [.ref a]) F hr gd hb hx I1 (.cons rfl .nil) w)
end
/-! the rules that gen2 writes -/
section
variable {X : Cx} {k : Nat} {f : Addr} {fd : FuncData} {ps : List Str} {F : DF} {dvs : List V} {dds : List D} {dss : List Value} {x n m c : Str} {p pos pos' apos tpos : Pos} {e o value : Expr} {es : List Expr} {fe fo fv : DE} {fA : DA} {cs : List Str}
theorem je_fld (hc : FldC X.K cs n) (he : JE X e fe) (hb : attributeBase e n X.env (eval e X.env) = eval e X.env := by rfl) : JE X (.Attribute e n pos) (eFld cs n fe) := JE.of (pe_fld he.pe hb) (rf_fld hc he.rf)
theorem js_fld (hc : FldC X.K cs n) (ho : JE X o fo) (hv : JE X value fv) (hs : swapsWith value (some (.Attribute o n pos')) pos.line X.env = pure false := by rfl) : JS X (.Assign [.Attribute o n pos'] value pos) (sFldO cs n fo fv) := JS.of (ps_fld ho.pe hv.pe hs) (rf_fldS hc ho.rf hv.rf)
def gAddI : D → D → Option D
  | .int i, .int j => some (.int (i + j))
  | _, _ => none
theorem os_ip {K : PySem.W.Frag} {g : Int → Int → Int} {h : D → D → Option D} (e : ∀ i j : Int, h (.int i) (.int j) = some (.int (g i j))) (n : ∀ d1 d2 d3, h d1 d2 = some d3 → ∃ i j, d1 = .int i ∧ d2 = .int j) : OpS K (ipI g) h := by
  intro α M x y H Q d1 d2 d3 l r1 r2 e3 q
  obtain ⟨i, j, rfl, rfl⟩ := n _ _ _ e3
  rw [e] at e3
  cases e3
  cases r1
  cases r2
  exact ⟨i, j, rfl, rfl, q _ H (Same.refl H) (.int _)⟩
theorem os_addI {K : PySem.W.Frag} : OpS K (ipI fun i j => i + j) gAddI := os_ip (fun _ _ => rfl) fun d1 d2 d3 e => by
  unfold gAddI at e
  split at e
  · exact ⟨_, _, rfl, rfl⟩
  · cases e
theorem js_fldP (hc : FldC X.K cs n) (ho : JE X o fo) (hv : JE X value fv) : JS X (.AugAssign (.Attribute o n tpos) .Add value pos) (sFldA cs n gAddI fo fv) := JS.of (ps_fldaug ho.pe hv.pe ip_add) (rf_fldA os_addI hc ho.rf hv.rf)
theorem je_meth0 {pl : Sem Bool} (ho : JE X o fo) (hc : Cls X.K (rho X.K c)) (hm : Meth X.K (rho X.K c) m f) (Fn : Bg.FnG X.prog X.w X.K X.mg X.base CX0 k f fd ps (spD X.K F)) (hr : Room k X.A) (gd : Bg.Gd X.A) (hb : Binds X.K fd ps []) (ht : MethSem X o m apos pos [] pl := by rfl) :
    JE X (.Call (.Attribute o m apos) [] [] pos) (eMeth c m F fo aNil) := JE.of (pe_methG0 ho.pe hc hm Fn hr gd hb pass0 ht) (rf_meth ho.rf rf_nil)
theorem je_make (M : Mk X.K (rho X.K c) f) (Fn : Bg.FnG X.prog X.w X.K X.mg X.base CX0 k f fd ps (spD X.K F)) (hr : Room (k + 1) X.A) (gd : Bg.Gd X.A) (hg : Gl X x) (hm : X.mg x = some (.ref (rho X.K c))) (hb : Binds X.K fd ps dss) (hd : Vals dvs dss) (hdd : ∀ α H, DRs X.K α H dvs dds)
    (ha : JA X (e :: es) fA) (hdb : (x == ("__debug__" : Str)) = false := by decide) (he : starEach (e :: es) X.env = (false, eval e X.env) :: starEach es X.env := by rfl) (hpl : (backTo pos (starEach es X.env)).any (·.1) = false := by rfl) :
    JE X (.Call (.Name x p) (e :: es) [] pos) (eMake c F dds fA) := JE.of (pe_makeG M Fn hr gd hg hm hb hd pass0 ha.pe hdb he hpl) (rf_make hdd ha.rf)
end
end Dl

set_option Elab.async false
set_option linter.all false
set_option maxRecDepth 100000
set_option maxHeartbeats 4000000
namespace Dl
open PySem PySem.Spec PyProof.Rows L2
/-! ### instances evaluated -/
section
variable {S S1 S2 S3 S9 : Sx} {e o : DE} {a : DA} {k : Nat} {c n m : Str} {cs : List Str} {fs : List (Str × D)} {d x : D} {s : DS} {Q : Fl → Sx → Prop}
end
end Dl

set_option Elab.async false
set_option linter.all false
set_option maxRecDepth 100000
set_option maxHeartbeats 4000000
namespace Dl
open PySem PySem.Spec PyProof.Rows L2
/-! ### try .. except C: without a name; an exception out of the value of a stored tuple -/
def sTryN (f : DS) (g : DX) (cats : List Str) (fh : DS) : DS := fun S => match g S with
  | some (ex, S1) => if cats.contains ex.c = true then fh S1 else none
  | none => f S
def noW : WX := fun _ _ _ _ => False
theorem takes_no {X : Cx} : Takes X noW := fun u s' x => by
  obtain ⟨a, B, sI, pins', σ', H', cls, d, rfl, J', nb, up, sky, na, os, ag, w⟩ := x
  exact w.elim
theorem rf_tryN {K : PySem.W.Frag} {c : Value} {f fh : DS} {g : DX} {cats : List Str} (hc : ∀ n, cats.contains n = true → PySem.W.exmOne K (.ref (rho K n)) c = some true) :
    RefS K (fun D σ H => tsOf K f D σ H ∨ xsOf K (wOnly K c (fun _ _ _ => tsOf K fh) noW D) g D σ H) (sTryN f g cats fh) := by
  intro N H0 α0 α σ H S fl S' E R e q
  unfold sTryN at e
  cases eg : g S with
  | none => rw [eg] at e; exact .inl ⟨N, H0, α0, α, S, fl, S', R, e, q⟩
  | some r =>
    obtain ⟨ex, S1⟩ := r
    rw [eg] at e
    dsimp only at e
    split at e
    · rename_i hi
      refine .inr ⟨N, H0, α0, α, S, ex, S1, R, eg, fun σ1 α1 H1 d R1 pre1 sm1 xr => ⟨true, hc _ hi, fun _ a na => ?_, fun z => nomatch z⟩⟩
      exact ⟨N, H0, α0, α1, S1, fl, S', R1, e, fun σ' α' H' R' pre smm => q σ' α' H' R' (pre1.trans pre) (sm1.trans smm)⟩
    · cases e
theorem js_tryN {X : Cx} {x : Str} {c : Value} {body suite : List Stmt} {b0 : Stmt} {np pos pos' : Pos} {f fh : DS} {g : DX} {cats : List Str} (stk : X.stack = X.env :: X.outer) (frm : X.env.frame = some X.env.locals) (nm : Names X x c)
    (hf : ∀ (W : WX) (pn : List (Addr × Obj)) (xe : Value → Shared → Prop), Takes (X.tr pn xe) W → PassesOwn (model X.prog X.w) X.A X.env xe → JSs (X.tr pn xe) body f)
    (hg : ∀ (W : WX) (pn : List (Addr × Obj)) (xe : Value → Shared → Prop), Takes (X.tr pn xe) W → PassesOwn (model X.prog X.w) X.A X.env xe → JXss (X.tr pn xe) W body g)
    (hh : ∀ (a : Addr) (pn : List (Addr × Obj)), JSs (X.suite a pn) (b0 :: suite) fh)
    (hc : ∀ n, cats.contains n = true → PySem.W.exmOne X.K (.ref (rho X.K n)) c = some true) :
    JS X (.Try body [.ExceptHandler (some (.Name x np)) none (b0 :: suite) pos'] [] [] pos) (sTryN f g cats fh) :=
  JS.of (ps_try_only (ts := fun _ _ _ => tsOf X.K fh) (tb := fun W D σ H => tsOf X.K f D σ H ∨ xsOf X.K W g D σ H) stk frm nm takes_no (fun W pn xe tk po => pss_or2 (hf W pn xe tk po).pe (hg W pn xe tk po)) (fun a oe cls d pn _ _ => (hh a _).pe)) (rf_tryN hc)
theorem jxs_asg {X : Cx} {W : WX} {tgt e : Expr} {ws : List Nat} {fg : DG} {g : DX} {pos : Pos} (h : JXe X W e g) (hg : JG X tgt ws fg) (hs : swapsWithSole [tgt] e pos.line X.env = pure false := by rfl) (hw : swappedStores [tgt] e X.env = pure none := by rfl)
    (h1 : (assignEach [tgt] X.env).map (·.2) = [assign tgt X.env] := by rfl) : JXs X W (.Assign [tgt] e pos) g := ⟨fun pins s σ H D0 I q => (ps_asg h hg.pe hs hw h1).run pins s σ H D0 I (xs_xe q)⟩
/-! evaluation -/
end Dl

set_option Elab.async false
set_option linter.all false
set_option maxRecDepth 100000
set_option maxHeartbeats 4000000
namespace Dl
open PySem PySem.Spec PyProof.Rows L2
/-! ### C(e, .., k = v, ..) -/
def eMakeK (c : Str) (F : DF) (n m : Nat) (g : List D → List D → List D) (a k : DA) : DE := fun S => (a S).bind fun p => (k p.2).bind fun q => if p.1.length = n ∧ q.1.length = m then
    (F (g (.obj q.2.st.length :: p.1) q.1) (q.2.st ++ [.ins c []])).bind fun r => match r.1 with
      | .non => some (.obj q.2.st.length, { q.2 with st := r.2 })
      | _ => none
  else none
def KRel (gV : List V → List V → List V) (gD : List D → List D → List D) : Prop := ∀ (K : PySem.W.Frag) (α : List Addr) (H : Hp) (vs zs : List V) (xs ys : List D), DRs K α H vs xs → DRs K α H zs ys → DRs K α H (gV vs zs) (gD xs ys)
theorem krel_app : KRel (fun vs zs => vs ++ zs) (fun xs ys => xs ++ ys) := fun K α H vs zs xs ys h1 h2 => h1.append h2
theorem rf_makeK {K : PySem.W.Frag} {tA tk : TA} {fA fk : DA} {c : Str} {F : DF} {E : XK} {n m : Nat} {gV : List V → List V → List V} {gD : List D → List D → List D} (hg : KRel gV gD) (ha : RefA K tA fA) (hk : RefA K tk fk) :
    RefE K (tMakeK (rho K c) n m (spD K F) gV E tA tk) (eMakeK c F n m gD fA fk) := by
  intro N H0 α0 α σ H S d S' Q R e q
  obtain ⟨⟨xs, S1⟩, e1, e⟩ := opt_bind e
  obtain ⟨⟨ys, S2⟩, e2, e⟩ := opt_bind e
  split at e
  case isFalse => cases e
  rename_i hl
  obtain ⟨⟨r, st⟩, e3, e⟩ := opt_bind e
  cases r <;> first | (cases e; done) | skip
  cases e
  refine ha N H0 α0 α σ H S xs S1 _ R e1 fun vs α1 H1 R1 g1 d1 => ?_
  refine hk N H0 α0 α1 σ H1 S1 ys S2 _ R1 e2 fun zs α2 H2 R2 g2 d2 => ?_
  refine ⟨d1.len.trans hl.1, d2.len.trans hl.2, fun x dx nx nd ne => ?_⟩
  have La := (R2.add (p := dx) (o := .own x) nd).less.1
  have sa : Same H2 (upd H2 dx (.own x)) := Bg.same_new nd
  have nx2 : upd H2 dx (.own x) x = none := by rw [upd_ne (Ne.symm ne)]; exact nx
  have Rb := La.add (p := x) (o := .ins (rho K c) dx []) nx2
  have sb : Same (upd H2 dx (.own x)) (upd (upd H2 dx (.own x)) x (.ins (rho K c) dx [])) := Bg.same_new nx2
  obtain ⟨Rc, gc, dc⟩ := La.push Rb (.of_same sb) nx2 (R2.base_none nx) (o := .ins c []) fun α2 _ => ⟨dx, [], upd_same, .nil⟩
  have ga : Gr α2 H2 S2 α2 (upd H2 dx (.own x)) S2 := .of_same sa
  exact callee F Rc (ds := gD (.obj S2.st.length :: xs) ys) (hg _ _ _ _ _ _ _ (.cons dc (((g2.trans ga).trans gc).drs d1)) ((ga.trans gc).drs d2)) e3 fun v α3 H3 R3 g3 d3 => ⟨by cases d3; rfl, q _ α3 H3 R3 ((((g1.trans g2).trans ga).trans gc).trans g3) (g3.dr dc)⟩
section
variable {X : Cx} {CX : CXT} {k n : Nat} {f C : Addr} {fd : FuncData} {ps ks : List Str} {sp : Sp} {E : XK} {x c : Str} {p pos : Pos} {e : Expr} {es : List Expr} {kws : List Keyword} {t tk : TA} {gw : List Value → List Value → List Value} {gV : List V → List V → List V}
/-- what a call with keywords asks of its arguments' forms -/
structure KwForm (X : Cx) (pos : Pos) (e : Expr) (es : List Expr) (kws : List Keyword) (ks : List Str) : Prop where
  named : (backToKw pos (keywordEach kws X.env)).all (·.1.isSome) = true
  names : (backToKw pos (keywordEach kws X.env)).filterMap (·.1) = ks
  plain : starEach (e :: es) X.env = (false, eval e X.env) :: starEach es X.env
  few : ((backTo pos (starEach (e :: es) X.env)).any (·.1) || (backToKw pos (keywordEach kws X.env)).any (·.1.isNone)) = false
theorem pe_makeKG (M : Mk X.K C f) (F : Bg.FnG X.prog X.w X.K X.mg X.base CX k f fd ps sp) (hr : Room (k + 1) X.A) (gd : Bg.Gd X.A) (hg : Gl X x) (hm : X.mg x = some (.ref C)) (hb : KBn X.K fd ps (n + 1) ks gw gV) (hx : Passes CX X E) (ha : PA X (e :: es) t) (hkw : PK X kws tk)
    (fm : KwForm X pos e es kws ks) (hdb : (x == ("__debug__" : Str)) = false) : PE X (.Call (.Name x p) (e :: es) kws pos) (tMakeK C n ks.length sp gV E t tk) := by
  constructor
  intro pins s σ H Q I h
  apply wpAny_Call_Name_kw
  apply ld_glob I hg hm _ hdb
  refine PySem.W.callWith_KW (h₀ := X.base) I.ok.mod.kin M.kp fm.named ?_ fm.few fm.plain
  refine thn (ha.run pos pins s σ H _ I h) ?_
  rintro us s1 ⟨vs, H1, I1, r, q⟩
  refine thn (hkw.run pos pins s1 σ H1 _ I1 q) ?_
  rintro ws s2 ⟨zs, H2, I2, rz, l1, l2, w⟩
  refine ⟨I2.kIn, ?_⟩
  rw [fm.names]
  have r1 : Vals (.ref (s2.heap.objs.size + 1) :: vs) (.ref (s2.heap.objs.size + 1) :: us) := .cons rfl r
  have rel := hb.rel r1 rz
  have many : us.length = n := r.length.symm.trans l1
  refine made_goes M F hr gd hx I2 rel (fun s3 k3 => hb.to s3 (.ref (s2.heap.objs.size + 1) :: us) ws k3 (by rw [List.length_cons, many]) (rz.length.symm.trans l2)) fun y dy ey ny nd ne => ?_
  subst ey
  exact w _ dy ny nd ne
theorem je_makeK {fd : FuncData} {F : DF} {fA fk : DA} {gD : List D → List D → List D} (kr : KRel gV gD) (M : Mk X.K (rho X.K c) f) (Fn : Bg.FnG X.prog X.w X.K X.mg X.base CX0 k f fd ps (spD X.K F)) (hr : Room (k + 1) X.A) (gd : Bg.Gd X.A) (hg : Gl X x) (hm : X.mg x = some (.ref (rho X.K c)))
    (hb : KBn X.K fd ps (n + 1) ks gw gV) (ha : JA X (e :: es) fA) (hkw : JK X kws fk) {m : Nat} (fm : KwForm X pos e es kws ks := by exact ⟨rfl, rfl, rfl, rfl⟩) (hlm : ks.length = m := by rfl) (hdb : (x == ("__debug__" : Str)) = false := by decide) :
    JE X (.Call (.Name x p) (e :: es) kws pos) (eMakeK c F n m gD fA fk) := by
  subst hlm
  exact JE.of (pe_makeKG M Fn hr gd hg hm hb pass0 ha.pe hkw.pe fm hdb) (rf_makeK kr ha.rf hkw.rf)
end
/-! evaluation -/
end Dl

set_option Elab.async false
set_option linter.all false
set_option maxRecDepth 100000
set_option maxHeartbeats 4000000
namespace Dl
open PySem PySem.Spec PyProof.Rows L2
/-! ### a dict of the store, locked while an expression runs -/
def eLock (a : DE) (f : DE) : DE := fun S => match a S with
  | some (.obj n, _) => match S.st[n]? with
    | some (.dct kvs) => (f (S.putO n (.dctL kvs))).bind fun p => match p.2.st[n]? with
      | some (.dctL kvs2) => some (p.1, p.2.putO n (.dct kvs2))
      | _ => none
    | _ => none
  | _ => none
theorem rf_lockE {K : PySem.W.Frag} {te : TE} {a f : DE} (he : RefE K te f) : RefE K (tLockE te) (eLock a f) := by
  intro N H0 α0 α σ H S d S' Q R e q
  unfold eLock at e
  split at e
  case h_2 => cases e
  rename_i n _ _
  split at e
  case h_2 => cases e
  rename_i kvs en
  obtain ⟨⟨r, S1⟩, e1, e⟩ := opt_bind e
  dsimp only at e
  split at e
  case h_2 => cases e
  rename_i kvs2 en1
  cases e
  obtain ⟨da, ea, vs, hv, kr⟩ := R.sto.at_ n _ en
  refine ⟨da, .dK vs, hv, trivial, fun od => ?_⟩
  obtain ⟨R1, s1⟩ := R.chgG (u := .frz od (.dK vs)) (o' := .dctL kvs) en ea fun Hm sm => ⟨od, vs, upd_same, kr.mono sm (List.prefix_refl _)⟩
  refine he N H0 α0 α σ _ _ d S1 _ R1 e1 fun v α1 H1 R2 g dv => ?_
  have hz : H1 da = some (.frz od (.dK vs)) := g.frz da od (.dK vs) upd_same
  refine ⟨hz, ?_⟩
  obtain ⟨b, y1, ob, vs2, hb, kr2⟩ := R2.sto.at_ n _ en1
  have ea1 : α1[n]? = some da := by
    obtain ⟨t, e⟩ := g.pre
    rw [← e, List.getElem?_append_left (List.getElem?_eq_some_iff.mp ea).1]
    exact ea
  rw [ea1] at y1
  cases y1
  rw [hz] at hb
  cases hb
  have n0 : ∀ ob w, H0 da ≠ some (.frz ob w) := fun ob w z => by
    have := R.frz da ob w z
    rw [hv] at this
    cases this
  obtain ⟨R3, s3⟩ := R2.chgZ (u := .dK vs) (o' := .dct kvs2) en1 ea1 (fun Hm sm => ⟨vs, upd_same, kr2.mono sm (List.prefix_refl _)⟩) n0
  have am : da ∈ α := List.mem_of_getElem? ea
  refine q v α1 _ R3 ⟨g.pre, fun x h n => ?_, fun x o n h => ?_, g.own, fun x ob w h => ?_⟩ (dv.mono s3 (List.prefix_refl _))
  · have z := g.fr x h n
    rw [upd_ne (fun y => n (by rw [y]; exact am))] at z
    exact z
  · have nx : x ≠ da := fun y => n (by rw [y]; exact am)
    rw [upd_ne nx]
    exact g.keep x o n (by rw [upd_ne nx]; exact h)
  · have nx : x ≠ da := fun y => by rw [y, hv] at h; cases h
    rw [upd_ne nx]
    exact g.frz x ob w (by rw [upd_ne nx]; exact h)
end Dl

set_option Elab.async false
set_option linter.all false
set_option maxRecDepth 100000
set_option maxHeartbeats 4000000
/-! == and != of things in which lists, tuples and dicts stand within one another, where they are alike. Own work of the verifier. -/
namespace Gx
open PySem PySem.Spec PySem.W L2 PyProof.Rows PySem.SeqAt
open AutoSeq1 (wpAny_loadPart')
section
variable {P : Program} {w : World} {A : Around} {s : Shared}
/-- a != b of two dicts that are alike -/
theorem ne_dicts {Kt : Type} [DecidableEq Kt] {kn : KeyKind P w Kt} {a b : Addr} {ka kb : List (Kt × Value)} (za : (a == sysModules) = false) (zb : (b == sysModules) = false) (da : s.heap.DictOf kn a ka) (db : s.heap.DictOf kn b kb) (hu : A.units < cLine)
    (len : ka.length = kb.length) (hits : KeqHitsP P w A.in1 s kb ka true) (E Q : Value → Shared → Prop) (q : Q (.bool false) s) : wpAny (model P w) A (richCompare .NotEq (.ref a) (.ref b)) Q E s := by
  refine wpAny_richCompare_same_room (op := .NotEq) da.typeIs db.typeIs F.slot_dict_ne (wpAny_call_entry F.slot_dict_ne da.typeIs F.entry_dict_ne ?_ (F.args_dict_ne_2 _ _)) hu
  show wpAny _ _ ((Builtin.Dict.dictSlotArgs "__ne__" ⟨[.ref a, .ref b], []⟩) >>= _) _ _ s
  unfold Builtin.Dict.dictSlotArgs
  refine wpAny_bind (wpAny_bind (wpAny_notOrdered_dict da.typeIs (wpAny_pure (wpAny_bind (wpAny_isInstance (T := "dict") db.typeIs F.sub_dict_dict ?_)))))
  simp only [Bool.not_true, Bool.false_eq_true, if_false]
  refine wpAny_bind (wpAny_pure (wpAny_bind (wpAny_pure (wpAny_bind (samePairsP za zb da db (fun _ => hits) ?_)))))
  exact wpAny_pure ⟨_, rfl, (fun x => nomatch x), by simpa [len] using q⟩
/-- two tuples whose items are alike, one by one -/
theorem tup_meets (l b : Addr) (xs ys : Array Value) (n m : Nat) (d1 d2 : Option Addr) (z1 z2 : Array (Option Value)) (len : xs.size = ys.size) :
    MeetsIn P w (Builtin.«tuple.__eq__» ⟨[.ref l, .ref b], []⟩) fun A R s =>
      s.heap.get? l = some { cls := .type "tuple", dict := d1, data := .seq xs n, slots := z1 } ∧ s.heap.get? b = some { cls := .type "tuple", dict := d2, data := .seq ys m, slots := z2 } ∧
      (∀ j (h1 : j < xs.size) (h2 : j < ys.size), EqP P w A.in1 s xs[j] ys[j] true) ∧ R (.ok (.ret (.bool true))) s := by
  intro A R s h
  obtain ⟨hp, g, d, tk, os⟩ := s
  obtain ⟨hl, hb, he, q⟩ := h
  have sub := AutoSeq1.sub_tuple_tuple
  have hz : (xs.toList.zip ys.toList).length = xs.size := by simp [len]
  wp_walk using wpAny_loadPart' hl, wpAny_loadPart' hb, wpAny_forIn_list _ (fun more c s' => c.1 = none ∧ s' = ⟨hp, g, d, tk, os⟩ ∧ ∃ i, more = (xs.toList.zip ys.toList).drop i) _
  case turn =>
    rintro ⟨y, x⟩ more c s' ⟨c1, rfl, i, e⟩
    have lt : i < (xs.toList.zip ys.toList).length := Nat.lt_of_not_le fun z => by rw [List.drop_of_length_le z] at e; cases e
    have l1 : i < xs.size := hz ▸ lt
    have l2 : i < ys.size := len ▸ l1
    rw [List.drop_eq_getElem_cons lt] at e
    injection e with e1 e2
    obtain rfl : y = xs[i] := by simpa using congrArg Prod.fst e1
    obtain rfl : x = ys[i] := by simpa using congrArg Prod.snd e1
    refine wpAny_bind (he i l1 l2 _ _ ?_)
    wp_walk
    exact ⟨rfl, rfl, i + 1, e2⟩
  case fin =>
    rintro ⟨c1, c2⟩ s' ⟨e, rfl, _, _⟩
    simp only at e
    subst e
    wp_walk
    simpa [Builtin.Tuple.tupleCompareSizes, len] using q
  case h => exact ⟨rfl, rfl, 0, rfl⟩
theorem eq_tups {l b : Addr} {xs ys : Array Value} (hl : s.heap.IsTuple l xs) (hb : s.heap.IsTuple b ys) (len : xs.size = ys.size) (hu : A.units < cLine) (he : ∀ j (h1 : j < xs.size) (h2 : j < ys.size), EqP P w A.in1 s xs[j] ys[j] true)
    (E Q : Value → Shared → Prop) (q : Q (.bool true) s) : wpAny (model P w) A (richCompare .Eq (.ref l) (.ref b)) Q E s := by
  obtain ⟨⟨c1, d1, t1, z1⟩, o1, e1, n, e2⟩ := id hl
  obtain ⟨⟨c2, d2, t2, z2⟩, o2, e3, m, e4⟩ := id hb
  simp only at e1 e2 e3 e4
  subst e1 e2 e3 e4
  have k1 : s.TypeIs (.ref l) "tuple" := ⟨_, o1, rfl⟩
  have k2 : s.TypeIs (.ref b) "tuple" := ⟨_, o2, rfl⟩
  exact wpAny_richCompare_same_room (op := .Eq) k1 k2 F.slot_tuple_eq (call_meetsIn F.slot_tuple_eq k1 F.entry_tuple_eq (F.args_tuple_eq_2 _ _) (tup_meets l b xs ys n m d1 d2 z1 z2 len) ⟨o1, o2, he, show Value.bool true ≠ Value.notImplemented ∧ Q (.bool true) s from ⟨(fun x => nomatch x), q⟩⟩) hu
end
/-- alike by their parts -/
def PartsR (K : PySem.W.Frag) (H : Hp) (R : V → V → Prop) (x y : V) : Prop := EqR K H R x y ∨ ∃ a b xs ys, x = .ref a ∧ y = .ref b ∧ SqT K H a xs ∧ SqT K H b ys ∧ Paired R xs ys
/-- alike, parts within parts below n -/
def Alike (K : PySem.W.Frag) (H : Hp) : Nat → V → V → Prop
  | 0 => fun _ _ => False
  | n + 1 => fun x y => (x = y ∧ flatB x = true) ∨ (∃ a, x = .ref a ∧ y = .ref a) ∨ PartsR K H (Alike K H n) x y
theorem PartsR.refs {K : PySem.W.Frag} {H : Hp} {R : V → V → Prop} {x y : V} : PartsR K H R x y → ∃ a b, x = .ref a ∧ y = .ref b
  | .inl (.inl ⟨a, b, _, _, e, f, _⟩) => ⟨a, b, e, f⟩
  | .inl (.inr ⟨a, b, _, _, e, f, _⟩) => ⟨a, b, e, f⟩
  | .inr ⟨a, b, _, _, e, f, _⟩ => ⟨a, b, e, f⟩
section
variable {X : Cx} {pins : List (Addr × Obj)} {σ : L2.St} {H : Hp} {s : Shared}
theorem parts_run (I : Inv X pins σ H s) {A : Around} {R : V → V → Prop} (hu : A.units < cLine) (ih : ∀ x y v u, R x y → RelV x v → RelV y u → EqP X.prog X.w A.in1 s v u true) {x y : V} {v u : Value} (h : PartsR X.K H R x y) (rx : RelV x v) (ry : RelV y u)
    (E Q : Value → Shared → Prop) (q : Q (.bool true) s) : wpAny (model X.prog X.w) A (richCompare .Eq v u) Q E s := by
  rcases h with h | ⟨a, b, xs, ys, rfl, rfl, ha, hb, hp⟩
  · exact eqR_run I hu ih h rx ry E Q q
  · cases (show v = Value.ref a from rx)
    cases (show u = Value.ref b from ry)
    obtain ⟨us, r1, p1, _⟩ := I.tuple ha
    obtain ⟨ws, r2, p2, _⟩ := I.tuple hb
    refine eq_tups p1 p2 ?_ hu (fun j h1 h2 => ?_) E Q q
    · rw [List.size_toArray, List.size_toArray, ← r1.length, ← r2.length, Paired.length hp]
    · simpa using items_run ih hp r1 r2 j (by simpa using h1) (by simpa using h2)
theorem alike_run (I : Inv X pins σ H s) : ∀ (n : Nat) (A : Around), A.units + n < cLine → ∀ (x y : V) (v u : Value), Alike X.K H n x y → RelV x v → RelV y u → EqP X.prog X.w A s v u true
  | 0, _, _, _, _, _, _, h, _, _ => (show False from h).elim
  | n + 1, A, hu, x, y, v, u, h, rx, ry => by
    rcases h with ⟨rfl, f⟩ | ⟨a, rfl, rfl⟩ | h
    · exact (eqAt_same rx ry f).eqP
    · cases (show v = Value.ref a from rx)
      cases (show u = Value.ref a from ry)
      exact (EqAt.same _).eqP
    · obtain ⟨a, b, rfl, rfl⟩ := h.refs
      cases (show v = Value.ref a from rx)
      cases (show u = Value.ref b from ry)
      by_cases e : a = b
      · exact e ▸ (EqAt.same _).eqP
      · exact eqP_refs e fun E Q q => parts_run I (A := A) (by omega) (alike_run I n A.in1 (by show A.units + 1 + n < cLine; omega)) h rfl rfl E Q q
end
section
variable {X : Cx}
/-- x == y of two that are alike -/
def rAlike (K : PySem.W.Frag) : R2 := fun x y H Q => ∃ n, n ≤ 60 ∧ PartsR K H (Alike K H n) x y ∧ Q (.bl true) H
/-- x != y of two dicts that are alike -/
def rAlikeN (K : PySem.W.Frag) : R2 := fun x y H Q => ∃ n a b ks ls, n ≤ 60 ∧ x = .ref a ∧ y = .ref b ∧ H a = some (.dK ks) ∧ H b = some (.dK ls) ∧ ks.length = ls.length ∧ (∀ p ∈ ks, ∃ u, valV ls p.1 = some u ∧ Alike K H n p.2 u) ∧ Q (.bl false) H
theorem op_alike (hu : X.A.units + 64 < cLine) : OpR X (compareOp .Eq) (rAlike X.K) := by
  intro pins s σ H x y v u Q I rx ry ⟨n, hn, h, q⟩
  exact parts_run I (A := X.A) (by omega) (alike_run I n X.A.in1 (by show X.A.units + 1 + n < cLine; omega)) h rx ry _ _ ⟨.bl true, H, I, rfl, q⟩
theorem op_alikeN (hu : X.A.units + 64 < cLine) : OpR X (compareOp .NotEq) (rAlikeN X.K) := by
  intro pins s σ H x y v u Q I rx ry ⟨n, a, b, ks, ls, hn, ex, ey, ha, hb, hl, hp, q⟩
  subst ex ey
  obtain rfl : v = Value.ref a := rx
  obtain rfl : u = Value.ref b := ry
  obtain ⟨_, ya, va, ra, da⟩ := (show ObjOk X.prog X.w H s.heap a (.dK ks) from I.hok a _ ha)
  obtain ⟨_, yb, vb, rb, db⟩ := (show ObjOk X.prog X.w H s.heap b (.dK ls) from I.hok b _ hb)
  exact ne_dicts (kn := mixKind X.prog X.w) ya yb da db (by omega) (by rw [← ra.length, ← rb.length]; exact hl) (hits_run (alike_run I n X.A.in1 (by show X.A.units + 1 + n < cLine; omega)) rb ra hp) _ _ ⟨.bl false, H, I, rfl, q⟩
end
end Gx

set_option Elab.async false
set_option linter.all false
set_option maxRecDepth 100000
set_option maxHeartbeats 4000000
namespace Dl
open PySem PySem.Spec PyProof.Rows L2
/-! ### things of the store, seen as data for one step -/
def resL (f : D → Option D) : List D → Option (List D)
  | [] => some []
  | d :: ds => (f d).bind fun e => (resL f ds).map fun r => e :: r
def resD : Nat → List DO → D → Option D
  | 0, _, _ => none
  | n + 1, st, d => match d with
    | .lst ds => (resL (resD n st) ds).map .lst
    | .tup ds => (resL (resD n st) ds).map .tup
    | .dct ks ds => (resL (resD n st) ds).map (.dct ks)
    | .obj i => match st[i]? with
      | some (.lst ds) => (resL (resD n st) ds).map .lst
      | some (.dct kvs) => (resL (resD n st) (kvs.map Prod.snd)).map (.dct (kvs.map Prod.fst))
      | _ => some (.obj i)
    | d => some d
section
variable {K : PySem.W.Frag} {N : Addr → Prop} {H0 H : Hp} {α0 α : List Addr} {σ : L2.St} {S : Sx}
theorem resL_ok {Hm : Hp} {f : D → Option D} (hf : ∀ d e v, DR K α Hm v d → f d = some e → DR K α H v e) : ∀ {ds es : List D} {vs : List V}, DRs K α Hm vs ds → resL f ds = some es → DRs K α H vs es
  | [], _, _, h, q => by cases h; cases q; exact .nil
  | d :: ds, _, _, h, q => by
    cases h with
    | cons h1 h2 =>
      obtain ⟨e, e1, q⟩ := opt_bind (show (f d).bind (fun e => (resL f ds).map fun r => e :: r) = some _ from q)
      obtain ⟨r, e2, ee⟩ := Option.map_eq_some_iff.mp q
      subst ee
      exact .cons (hf _ _ _ h1 e1) (resL_ok hf h2 e2)
theorem resD_ok (R : SR K N H0 α0 α σ H S) : ∀ (n : Nat) (d e : D) (v : V), DR K α (lim H (Mx N α S σ)) v d → resD n S.st d = some e → DR K α H v e
  | 0, _, _, _, _, q => nomatch q
  | n + 1, d, e, v, h, q => by
    have ih : ∀ {ds es : List D} {vs : List V}, DRs K α (lim H (Mx N α S σ)) vs ds → resL (resD n S.st) ds = some es → DRs K α H vs es := fun a b => resL_ok (fun d e v => resD_ok R n d e v) a b
    cases d with
    | lst ds =>
      obtain ⟨es, e1, rfl⟩ := Option.map_eq_some_iff.mp (show (resL (resD n S.st) ds).map D.lst = some e from q)
      cases h with | lst a b => exact .lst (lim_sub.seq a) (ih b e1)
    | tup ds =>
      obtain ⟨es, e1, rfl⟩ := Option.map_eq_some_iff.mp (show (resL (resD n S.st) ds).map D.tup = some e from q)
      cases h with | tup a b => exact .tup (Bg.sqT_same lim_sub a) (ih b e1)
    | dct ks ds =>
      obtain ⟨es, e1, rfl⟩ := Option.map_eq_some_iff.mp (show (resL (resD n S.st) ds).map (D.dct ks) = some e from q)
      cases h with | dct a k b => exact .dct (lim_sub _ _ a) k (ih b e1)
    | obj i =>
      have q : (match S.st[i]? with
        | some (.lst ds) => (resL (resD n S.st) ds).map .lst
        | some (.dct kvs) => (resL (resD n S.st) (kvs.map Prod.snd)).map (.dct (kvs.map Prod.fst))
        | _ => some (D.obj i)) = some e := q
      cases h with
      | obj en =>
        split at q
        · rename_i ds es
          obtain ⟨r, e1, rfl⟩ := Option.map_eq_some_iff.mp q
          obtain ⟨b, eb, vs, hv, hd⟩ := R.sto.at_ i _ es
          rw [en] at eb; cases eb
          exact .lst (.inl (.inl hv)) (ih hd e1)
        · rename_i kvs es
          obtain ⟨r, e1, rfl⟩ := Option.map_eq_some_iff.mp q
          obtain ⟨b, eb, vs, hv, kr⟩ := R.sto.at_ i _ es
          rw [en] at eb; cases eb
          exact .dct hv kr.parts.1 (ih kr.parts.2 e1)
        · cases q; exact .obj en
    | _ => cases q; exact h.mono lim_sub (List.prefix_refl _)
theorem no_lim (h : DR K α H v d) : DR K α (lim H fun _ => False) v d := h.mono (fun a o e => lim_some.mpr ⟨fun z => z, e⟩) (List.prefix_refl _)
theorem no_lims {vs : List V} {ds : List D} (h : DRs K α H vs ds) : DRs K α (lim H fun _ => False) vs ds := h.mono (fun a o e => lim_some.mpr ⟨fun z => z, e⟩) (List.prefix_refl _)
theorem atom_dr {Hm Hm2 : Hp} {α2 : List Addr} {v : V} {d : D} (h : DR K α Hm v d) (a : atomB d = true) : DR K α2 Hm2 v d := by
  cases h with
  | str z => exact .str z
  | int i => exact .int i
  | bl b => exact .bl b
  | _ => cases a
end
def eCBR (g : List D → Option D) (a : DA) : DE := fun S => (a S).bind fun p => (resL (resD 9 p.2.st) p.1).bind fun ds => (g ds).bind fun d => if atomB d = true then some (d, p.2) else none
def eOpR (g : D → D → Option D) (a b : DE) : DE := fun S => (a S).bind fun p => (b p.2).bind fun q => (resD 9 q.2.st p.1).bind fun x => (resD 9 q.2.st q.1).bind fun y => (g x y).bind fun d => if atomB d = true then some (d, q.2) else none
section
variable {K : PySem.W.Frag} {ta tb : TE} {fa fb : DE} {tA : TA} {fA : DA}
theorem rf_cbR {r : CRd} {g : List D → Option D} (h : CallS K r g) (ha : RefA K tA fA) : RefE K (tCB r tA) (eCBR g fA) := by
  intro N H0 α0 α σ H S d S' Q R e q
  obtain ⟨⟨xs, S1⟩, e1, e⟩ := opt_bind e
  obtain ⟨ds, e2, e⟩ := opt_bind e
  obtain ⟨d', e3, e⟩ := opt_bind e
  split at e
  case isFalse => cases e
  rename_i at_
  cases e
  refine ha N H0 α0 α σ H S _ S1 _ R e1 fun vs α1 H1 R1 g1 d1 => ?_
  exact h α1 (fun _ => False) vs H1 Q ds _ (fun _ z => z.elim) (no_lims (resL_ok (fun d e v => resD_ok R1 9 d e v) d1 e2)) e3 fun v H3 sm dr => q v α1 H3 (R1.same sm) (g1.trans (.of_same sm)) (atom_dr dr at_)
theorem rf_opR {r : R2} {g : D → D → Option D} (ho : OpS K r g) (ha : RefE K ta fa) (hb : RefE K tb fb) : RefE K (tOp r ta tb) (eOpR g fa fb) := by
  intro N H0 α0 α σ H S d S' Q R e q
  obtain ⟨⟨x, S1⟩, e1, e⟩ := opt_bind e
  obtain ⟨⟨y, S2⟩, e2, e⟩ := opt_bind e
  obtain ⟨x', e3, e⟩ := opt_bind e
  obtain ⟨y', e4, e⟩ := opt_bind e
  obtain ⟨d', e5, e⟩ := opt_bind e
  split at e
  case isFalse => cases e
  rename_i at_
  cases e
  refine ha N H0 α0 α σ H S x S1 _ R e1 fun v1 α1 H1 R1 g1 d1 => ?_
  refine hb N H0 α0 α1 σ H1 S1 y S2 _ R1 e2 fun v2 α2 H2 R2 g2 d2 => ?_
  exact ho α2 (fun _ => False) v1 v2 H2 Q x' y' _ (fun _ z => z.elim) (no_lim (resD_ok R2 9 _ _ _ (g2.dr d1) e3)) (no_lim (resD_ok R2 9 _ _ _ d2 e4)) e5 fun v H3 sm dr => q v α2 H3 (R2.same sm) ((g1.trans g2).trans (.of_same sm)) (atom_dr dr at_)
end
section
variable {X : Cx} {a b e : Expr} {es : List Expr} {fa fb : DE} {fA : DA} {pos p : Pos} {r : R2} {g : D → D → Option D}
theorem je_cbR {x : Str} {id : String} {rr : CRd} {gg : List D → Option D} (hc : CJ X (.builtin id) rr gg) (hg : Gl X x) (hm : X.mg x = none) (hv : bootBuiltins x = some (.builtin id)) (ha : JA X (e :: es) fA) (hn : x ≠ "__name__" := by decide) (hdb : (x == ("__debug__" : Str)) = false := by decide)
    (he : starEach (e :: es) X.env = (false, eval e X.env) :: starEach es X.env := by rfl) (hpl : (backTo pos (starEach es X.env)).any (·.1) = false := by rfl) : JE X (.Call (.Name x p) (e :: es) [] pos) (eCBR gg fA) := JE.of (pe_callB hc.op hg hm hv ha.pe hn hdb he hpl) (rf_cbR hc.os ha.rf)
theorem je_opR {op : CmpOp} (h : OpJ X (compareOp op) r g) (ha : JE X a fa) (hb : JE X b fb) (hm : behindInMarks op b = false) : JE X (.Compare a [op] [b] pos) (eOpR g fa fb) := JE.of (pe_cmpR h.op ha.pe hb.pe hm) (rf_opR h.os ha.rf hb.rf)
theorem jt_opR {op : CmpOp} (h : OpJ X (compareOp op) r g) (ha : JE X a fa) (hb : JE X b fb) (hm : behindInMarks op b = false) : JT X (.Compare a [op] [b] pos) (tE (eOpR g fa fb)) := JT.of (pt_cmpR h.op ha.pe hb.pe hm) (rf_tT (rf_opR h.os ha.rf hb.rf))
end
/-! ### len of a dict -/
def gLenK : List D → Option D
  | [.dct ks _] => some (.int ks.length)
  | _ => none
theorem cj_lenK {X : Cx} : CJ X (.builtin "len") (fun xs H Q => ∃ a kvs, xs = [V.ref a] ∧ H a = some (.dK kvs) ∧ Q (.int kvs.length) H) gLenK := by
  refine ⟨call_lenD, fun α M xs H Q ds d3 l r e q => ?_⟩
  unfold gLenK at e
  split at e
  · cases e
    cases r with
    | cons r1 r2 =>
      cases r2
      cases r1 with
      | dct a ek b =>
        refine ⟨_, _, rfl, (lim_some.mp a).2, ?_⟩
        have z := q (.int _) H (Same.refl H) (.int _)
        rw [← ek, List.length_map] at z
        exact z
  · cases e
/-! ### things that are alike -/
def alL (f : D → D → Bool) : List D → List D → Bool
  | [], [] => true
  | x :: xs, y :: ys => f x y && alL f xs ys
  | _, _ => false
def alK (f : D → D → Bool) (ls : List (Key × D)) : List (Key × D) → Bool
  | [] => true
  | (k, d) :: ks => (match valD ls k with
    | some u => f d u
    | none => false) && alK f ls ks
def alD : Nat → D → D → Bool
  | 0, _, _ => false
  | n + 1, x, y => match x, y with
    | .non, .non => true
    | .bl a, .bl b => a == b
    | .int i, .int j => decide (i = j)
    | .str a, .str b => decide (a = b)
    | .obj i, .obj j => decide (i = j)
    | .lst xs, .lst ys => alL (alD n) xs ys
    | .tup xs, .tup ys => alL (alD n) xs ys
    | .dct ks ds, .dct ls es => decide (ks.length = ls.length) && alK (alD n) (ls.zip es) (ks.zip ds)
    | _, _ => false
section
variable {K : PySem.W.Frag} {α : List Addr} {H : Hp}
theorem alL_ok {f : D → D → Bool} {R : V → V → Prop} (hf : ∀ d e v u, DR K α H v d → DR K α H u e → f d e = true → R v u) : ∀ {ds es : List D} {vs us : List V}, DRs K α H vs ds → DRs K α H us es → alL f ds es = true → Paired R vs us
  | [], [], _, _, a, b, _ => by cases a; cases b; exact .nil
  | [], _ :: _, _, _, _, _, q => nomatch q
  | _ :: _, [], _, _, _, _, q => nomatch q
  | d :: ds, e :: es, _, _, a, b, q => by
    cases a with
    | cons a1 a2 =>
      cases b with
      | cons b1 b2 =>
        have q : (f d e && alL f ds es) = true := q
        rw [Bool.and_eq_true] at q
        exact .cons (hf _ _ _ _ a1 b1 q.1) (alL_ok hf a2 b2 q.2)
theorem alK_ok {f : D → D → Bool} {R : V → V → Prop} (hf : ∀ d e v u, DR K α H v d → DR K α H u e → f d e = true → R v u) {ls : List (Key × D)} {lv : List (Key × V)} (kr : KR K α H lv ls) : ∀ {ks : List (Key × D)} {kv : List (Key × V)}, KR K α H kv ks → alK f ls ks = true →
    ∀ p, p ∈ kv → ∃ u, valV lv p.1 = some u ∧ R p.2 u := by
  intro ks kv h
  induction h with
  | nil => intro _ p hp; cases hp
  | @cons k v vs d ds a b ih =>
    intro q p hp
    have q : ((match valD ls k with
      | some u => f d u
      | none => false) && alK f ls ds) = true := q
    rw [Bool.and_eq_true] at q
    rcases List.mem_cons.mp hp with rfl | hp
    · cases e : valD ls k with
      | none => rw [e] at q; cases q.1
      | some u =>
        rw [e] at q
        obtain ⟨w, ew, dw⟩ := kr.val.1 _ e
        exact ⟨w, ew, hf _ _ _ _ a dw q.1⟩
    · exact ih q.2 p hp
theorem alD_ok : ∀ (n : Nat) (d e : D) (v u : V), DR K α H v d → DR K α H u e → alD n d e = true → Gx.Alike K H n v u
  | 0, _, _, _, _, _, _, q => nomatch q
  | n + 1, d, e, v, u, hd, he, q => by
    unfold alD at q
    split at q
    · cases hd; cases he; exact .inl ⟨rfl, rfl⟩
    · cases hd; cases he; obtain rfl := eq_of_beq q; exact .inl ⟨rfl, rfl⟩
    · cases hd; cases he; obtain rfl := of_decide_eq_true q; exact .inl ⟨rfl, rfl⟩
    · cases hd; cases he; obtain rfl := of_decide_eq_true q; exact .inl ⟨rfl, rfl⟩
    · obtain rfl := of_decide_eq_true q
      cases hd with
      | obj a => cases he with | obj b => rw [a] at b; cases b; exact .inr (.inl ⟨_, rfl, rfl⟩)
    · cases hd with
      | lst a b => cases he with | lst c d => exact .inr (.inr (.inl (.inl ⟨_, _, _, _, rfl, rfl, a, c, alL_ok (fun d e v u => alD_ok n d e v u) b d q⟩)))
    · cases hd with
      | tup a b => cases he with | tup c d => exact .inr (.inr (.inr ⟨_, _, _, _, rfl, rfl, a, c, alL_ok (fun d e v u => alD_ok n d e v u) b d q⟩))
    · rw [Bool.and_eq_true, decide_eq_true_eq] at q
      cases hd with
      | dct a ea ha =>
        cases he with
        | dct b eb hb =>
          subst ea eb
          exact .inr (.inr (.inl (.inr ⟨_, _, _, _, rfl, rfl, a, b, by simpa using q.1, alK_ok (fun d e v u => alD_ok n d e v u) (KR.zip hb) (KR.zip ha) q.2⟩)))
    · cases q
def gAlike : D → D → Option D
  | .tup xs, .tup ys => if alL (alD 20) xs ys = true then some (.bl true) else none
  | .lst xs, .lst ys => if alL (alD 20) xs ys = true then some (.bl true) else none
  | .dct ks ds, .dct ls es => if (decide (ks.length = ls.length) && alK (alD 20) (ls.zip es) (ks.zip ds)) = true then some (.bl true) else none
  | _, _ => none
def gAlikeN : D → D → Option D
  | .dct ks ds, .dct ls es => if (decide (ks.length = ls.length) && alK (alD 20) (ls.zip es) (ks.zip ds)) = true then some (.bl false) else none
  | _, _ => none
theorem os_alike : OpS K (Gx.rAlike K) gAlike := by
  intro α M x y H Q d1 d2 d3 l r1 r2 e q
  have r1 : DR K α H x d1 := r1.mono lim_sub (List.prefix_refl _)
  have r2 : DR K α H y d2 := r2.mono lim_sub (List.prefix_refl _)
  have T := q (.bl true) H (Same.refl H) 
  unfold gAlike at e
  split at e
  · split at e
    · rename_i c
      cases e
      cases r1 with
      | tup a b => cases r2 with | tup c d => exact ⟨20, by decide, .inr ⟨_, _, _, _, rfl, rfl, a, c, alL_ok (fun d e v u => alD_ok 20 d e v u) b d (by assumption)⟩, T (.bl _)⟩
    · cases e
  · split at e
    · rename_i c
      cases e
      cases r1 with
      | lst a b => cases r2 with | lst c d => exact ⟨20, by decide, .inl (.inl ⟨_, _, _, _, rfl, rfl, a, c, alL_ok (fun d e v u => alD_ok 20 d e v u) b d (by assumption)⟩), T (.bl _)⟩
    · cases e
  · split at e
    · rename_i c
      cases e
      rw [Bool.and_eq_true, decide_eq_true_eq] at c
      cases r1 with
      | dct a ea ha =>
        cases r2 with
        | dct b eb hb =>
          subst ea eb
          exact ⟨20, by decide, .inl (.inr ⟨_, _, _, _, rfl, rfl, a, b, by simpa using c.1, alK_ok (fun d e v u => alD_ok 20 d e v u) (KR.zip hb) (KR.zip ha) c.2⟩), T (.bl _)⟩
    · cases e
  · cases e
theorem os_alikeN : OpS K (Gx.rAlikeN K) gAlikeN := by
  intro α M x y H Q d1 d2 d3 l r1 r2 e q
  have r1 : DR K α H x d1 := r1.mono lim_sub (List.prefix_refl _)
  have r2 : DR K α H y d2 := r2.mono lim_sub (List.prefix_refl _)
  unfold gAlikeN at e
  split at e
  · split at e
    · rename_i c
      cases e
      rw [Bool.and_eq_true, decide_eq_true_eq] at c
      cases r1 with
      | dct a ea ha =>
        cases r2 with
        | dct b eb hb =>
          subst ea eb
          exact ⟨20, _, _, _, _, by decide, rfl, rfl, a, b, by simpa using c.1, alK_ok (fun d e v u => alD_ok 20 d e v u) (KR.zip hb) (KR.zip ha) c.2, q _ H (Same.refl H) (.bl _)⟩
    · cases e
  · cases e
end
theorem oj_alike {X : Cx} (hu : X.A.units + 64 < cLine) : OpJ X (compareOp .Eq) (Gx.rAlike X.K) gAlike := ⟨Gx.op_alike hu, os_alike⟩
theorem oj_alikeN {X : Cx} (hu : X.A.units + 64 < cLine) : OpJ X (compareOp .NotEq) (Gx.rAlikeN X.K) gAlikeN := ⟨Gx.op_alikeN hu, os_alikeN⟩
/-! ### reads of a dict, of the store (locked or not) or never changed -/
def dctA (S : Sx) : D → Option (List (Key × D))
  | .dct ks ds => some (ks.zip ds)
  | .obj n => match S.st[n]? with
    | some (.dct kvs) => some kvs
    | some (.dctL kvs) => some kvs
    | _ => none
  | _ => none
def eDGetA (a b : DE) : DE := fun S => (a S).bind fun p => (b p.2).bind fun q => (dctA q.2 p.1).bind fun kvs => (keyD q.1).bind fun k => (valD kvs k).map fun d => (d, q.2)
def eDInA (neg : Bool) (b a : DE) : DE := fun S => (b S).bind fun q => (a q.2).bind fun p => (dctA p.2 p.1).bind fun kvs => (keyD q.1).map fun k => (.bl (if neg then !(valD kvs k).isSome else (valD kvs k).isSome), p.2)
section
variable {K : PySem.W.Frag} {N : Addr → Prop} {H0 H : Hp} {α0 α : List Addr} {σ : L2.St} {S : Sx}
theorem dctA_ok (R : SR K N H0 α0 α σ H S) {v : V} {d : D} {kvs : List (Key × D)} (h : DR K α (lim H (Mx N α S σ)) v d) (e : dctA S d = some kvs) : ∃ a vs, v = .ref a ∧ Rd H a (.dK vs) ∧ KR K α (lim H (Mx N α S σ)) vs kvs ∧ ¬ N a := by
  cases d <;> first | (cases e; done) | skip
  · rename_i n
    unfold dctA at e
    cases h with
    | obj en =>
      dsimp only at e
      split at e
      · rename_i k es
        cases e
        obtain ⟨b, eb, vs, hv, kr⟩ := R.sto.at_ n _ es
        rw [en] at eb; cases eb
        exact ⟨_, vs, rfl, .inl hv, kr, R.na _ (List.mem_of_getElem? en)⟩
      · rename_i k es
        cases e
        obtain ⟨b, eb, ob, vs, hv, kr⟩ := R.sto.at_ n _ es
        rw [en] at eb; cases eb
        exact ⟨_, vs, rfl, .inr ⟨ob, hv⟩, kr, R.na _ (List.mem_of_getElem? en)⟩
      · cases e
  · cases e
    cases h with
    | dct a ek b =>
      subst ek
      exact ⟨_, _, rfl, .inl (lim_some.mp a).2, KR.zip b, fun z => (lim_some.mp a).1 (.inl z)⟩
variable {ta tb : TE} {fa fb : DE}
theorem rf_dgetA (ha : RefE K ta fa) (hb : RefE K tb fb) : RefE K (tDGet ta tb) (eDGetA fa fb) := by
  intro N H0 α0 α σ H S d S' Q R e q
  obtain ⟨⟨x, S1⟩, e1, e⟩ := opt_bind e
  obtain ⟨⟨y, S2⟩, e2, e⟩ := opt_bind e
  obtain ⟨kvs, e3, e⟩ := opt_bind e
  obtain ⟨k, ek, e⟩ := opt_bind e
  obtain ⟨dd, ed, e⟩ := opt_map e
  cases e
  refine ha N H0 α0 α σ H S x S1 _ R e1 fun v1 α1 H1 R1 g1 d1 => ?_
  refine hb N H0 α0 α1 σ H1 S1 y _ _ R1 e2 fun v2 α2 H2 R2 g2 d2 => ?_
  obtain rfl := key_ok d2 ek
  obtain ⟨a, vs, rfl, rd, kr, _⟩ := dctA_ok R2 (g2.dr d1) e3
  obtain ⟨w, ew, dw⟩ := kr.val.1 _ ed
  exact ⟨a, w, rfl, .inl ⟨vs, k, rd, rfl, ew.symm⟩, q w α2 H2 R2 (g1.trans g2) dw⟩
theorem kr_some {vs : List (Key × V)} {kvs : List (Key × D)} {k : Key} {Hm : Hp} (kr : KR K α Hm vs kvs) : (valV vs k).isSome = (valD kvs k).isSome := by
  cases ed : valD kvs k with
  | none => rw [kr.val.2 ed]; rfl
  | some dd => obtain ⟨w, ew, _⟩ := kr.val.1 _ ed; rw [ew]; rfl
theorem rf_dinA (hb : RefE K tb fb) (ha : RefE K ta fa) : RefE K (tDIn tb ta) (eDInA false fb fa) ∧ RefE K (tDNotIn tb ta) (eDInA true fb fa) := by
  refine ⟨fun N H0 α0 α σ H S d S' Q R e q => ?_, fun N H0 α0 α σ H S d S' Q R e q => ?_⟩ <;> (
  obtain ⟨⟨y, S1⟩, e1, e⟩ := opt_bind e
  obtain ⟨⟨x, S2⟩, e2, e⟩ := opt_bind e
  obtain ⟨kvs, e3, e⟩ := opt_bind e
  obtain ⟨k, ek, e⟩ := opt_map e
  cases e
  refine hb N H0 α0 α σ H S y S1 _ R e1 fun v1 α1 H1 R1 g1 d1 => ?_
  refine ha N H0 α0 α1 σ H1 S1 x _ _ R1 e2 fun v2 α2 H2 R2 g2 d2 => ?_
  obtain rfl := key_ok d1 ek
  obtain ⟨a, vs, rfl, rd, kr, _⟩ := dctA_ok R2 d2 e3
  refine ⟨a, valV vs k, rfl, .inl ⟨vs, k, rd, rfl, rfl⟩, ?_⟩
  rw [kr_some kr]
  exact q _ α2 H2 R2 (g1.trans g2) (.bl _))
end
section
variable {X : Cx} {a b : Expr} {fa fb : DE} {pos : Pos}
theorem je_dgetA (hu : X.A.units + 1 < cLine) (ha : JE X a fa) (hb : JE X b fb) (hs : NoSl b := by exact fun _ _ => rfl) : JE X (.Subscript a b pos) (eDGetA fa fb) := JE.of (pe_dget hu ha.pe hb.pe hs) (rf_dgetA ha.rf hb.rf)
theorem je_dinA (hu : X.A.units + 1 < cLine) (hb : JE X b fb) (ha : JE X a fa) (hm : behindInMarks .In a = false) : JE X (.Compare b [.In] [a] pos) (eDInA false fb fa) := JE.of (pe_cmp (pc_din hu hb.pe ha.pe) hm) (rf_dinA hb.rf ha.rf).1
theorem jt_dniA (hu : X.A.units + 1 < cLine) (hb : JE X b fb) (ha : JE X a fa) (hm : behindInMarks .NotIn a = false) : JT X (.Compare b [.NotIn] [a] pos) (tE (eDInA true fb fa)) := JT.of (pt_cmp (pc_dnotin hu hb.pe ha.pe) hm) (rf_tE (rf_dinA hb.rf ha.rf).2)
end
/-! ### a thing is locked if it is a dict of the store -/
def eLockM (a f : DE) : DE := fun S => match a S with
  | some (.obj n, _) => (match S.st[n]? with
    | some (.dct _) => eLock a f S
    | _ => f S)
  | _ => f S
theorem je_lockM {X : Cx} {e : Expr} {a f : DE} (h : JE X e f) : JE X e (eLockM a f) := by
  refine JE.of (pe_or (pe_lock h.pe) h.pe) fun N H0 α0 α σ H S d S' Q R e q => ?_
  unfold eLockM at e
  split at e
  · split at e
    · exact .inl (rf_lockE h.rf N H0 α0 α σ H S d S' Q R e q)
    · exact .inr (h.rf N H0 α0 α σ H S d S' Q R e q)
  · exact .inr (h.rf N H0 α0 α σ H S d S' Q R e q)
/-! ### walks of a locked dict -/
def keyOf : Key → D
  | .inl i => .int i
  | .inr z => .str z
def lockO (S : Sx) : D → Option (List (Key × D))
  | .obj n => match S.st[n]? with
    | some (.dctL kvs) => some kvs
    | _ => none
  | _ => none
def iKa (a : DE) : DI := fun S => (a S).bind fun p => match p.1 with
  | .lst ds => some (ds, p.2)
  | .tup ds => some (ds, p.2)
  | d => (lockO p.2 d).map fun kvs => (kvs.map fun kv => keyOf kv.1, p.2)
def iVa (a : DE) : DI := fun S => (a S).bind fun p => (lockO p.2 p.1).map fun kvs => (kvs.map Prod.snd, p.2)
def iIa (a : DE) : DI := fun S => (a S).bind fun p => (lockO p.2 p.1).map fun kvs => (kvs.map fun kv => .tup [keyOf kv.1, kv.2], p.2)
section
variable {K : PySem.W.Frag} {N : Addr → Prop} {H0 H : Hp} {α0 α : List Addr} {σ : L2.St} {S : Sx}
theorem lockO_ok (R : SR K N H0 α0 α σ H S) {v : V} {d : D} {kvs : List (Key × D)} (h : DR K α (lim H (Mx N α S σ)) v d) (e : lockO S d = some kvs) : ∃ a o vs, v = .ref a ∧ H a = some (.frz o (.dK vs)) ∧ KR K α (lim H (Mx N α S σ)) vs kvs := by
  cases d <;> first | (cases e; done) | skip
  rename_i n
  unfold lockO at e
  cases h with
  | obj en =>
    dsimp only at e
    split at e
    · rename_i k es
      cases e
      obtain ⟨b, eb, ob, vs, hv, kr⟩ := R.sto.at_ n _ es
      rw [en] at eb; cases eb
      exact ⟨_, ob, vs, rfl, hv, kr⟩
    · cases e
theorem kr_get {vs : List (Key × V)} {kvs : List (Key × D)} {Hm : Hp} (kr : KR K α Hm vs kvs) : ∀ {i : Nat} {k : Key} {v : V}, vs[i]? = some (k, v) → ∃ d, kvs[i]? = some (k, d) ∧ DR K α Hm v d := by
  induction kr with
  | nil => intro i k v e; simp at e
  | @cons k v vs d ds a b ih =>
    intro i k2 v2 e
    cases i with
    | zero => simp at e; obtain ⟨rfl, rfl⟩ := e; exact ⟨d, rfl, a⟩
    | succ i => exact ih (by simpa using e)
theorem dr_key {Hm : Hp} : ∀ k : Key, DR K α Hm (kV k) (keyOf k)
  | .inl i => .int i
  | .inr z => .str z
variable {a : Addr} {o : Obj} {vs : List (Key × V)} {kvs : List (Key × D)} {Hm : Hp}
theorem walk_dkeys (hv : H a = some (.frz o (.dK vs))) (kr : KR K α Hm vs kvs) : WalkDZ K α Hm H (Itk a o vs) (kvs.map fun kv => keyOf kv.1) := by
  refine ⟨_, _, by rw [List.length_map, ← kr.len]; exact walk_keys, fun H2 M2 s z => z _ _ _ hv, fun i H2 x H3 M2 hi s z l y => ?_⟩
  obtain ⟨rfl, k, v, e, rfl⟩ := y
  obtain ⟨d, e2, _⟩ := kr_get kr e
  exact ⟨Same.refl _, keyOf k, by rw [List.getElem?_map, e2]; rfl, fun α2 p => dr_key k⟩
theorem walk_dvals (hv : H a = some (.frz o (.dK vs))) (kr : KR K α Hm vs kvs) : WalkDZ K α Hm H (Itd a o vs) (kvs.map Prod.snd) := by
  refine ⟨_, _, by rw [List.length_map, ← kr.len]; exact walk_values, fun H2 M2 s z => z _ _ _ hv, fun i H2 x H3 M2 hi s z l y => ?_⟩
  obtain ⟨rfl, k, e⟩ := y
  obtain ⟨d, e2, r⟩ := kr_get kr e
  exact ⟨Same.refl _, d, by rw [List.getElem?_map, e2]; rfl, fun α2 p => r.mono s p⟩
theorem walk_ditems (hv : H a = some (.frz o (.dK vs))) (kr : KR K α Hm vs kvs) : WalkDZ K α Hm H (Iti a o vs) (kvs.map fun kv => .tup [keyOf kv.1, kv.2]) := by
  refine ⟨_, _, by rw [List.length_map, ← kr.len]; exact walk_items, fun H2 M2 s z => z _ _ _ hv, fun i H2 x H3 M2 hi s z l y => ?_⟩
  obtain ⟨T, x1, x2, rfl, new, rfl, e1, e2⟩ := y
  dsimp only at e1 e2
  cases e : vs[i]? with
  | none => rw [e] at e1; cases e1
  | some kv =>
    obtain ⟨k, v⟩ := kv
    rw [e] at e1 e2
    cases e1; cases e2
    obtain ⟨d, e3, r⟩ := kr_get kr e
    refine ⟨Bg.same_new new, _, by rw [List.getElem?_map, e3]; rfl, fun α2 p => .tup (SqT.of (lim_new l new)) (.cons (dr_key k) (.cons (r.mono (fun a o h => lim_mono (Bg.same_new new) a o (s a o h)) p) .nil))⟩
variable {ta : TE} {fa : DE}
theorem rf_iKa (ha : RefE K ta fa) : RefIZ K (tiOr (tiOr (iList K ta) (iTup K ta)) (iKeys ta)) (iKa fa) := by
  intro N H0 α0 α σ H S ds S' Rr R e q
  obtain ⟨⟨x, S1⟩, e1, e⟩ := opt_bind e
  cases x with
  | lst es => cases e; exact .inl ((rf_iE ha).z N H0 α0 α σ H S _ _ Rr R (by unfold iE; rw [e1]; rfl) q)
  | tup es => cases e; exact .inl ((rf_iE ha).z N H0 α0 α σ H S _ _ Rr R (by unfold iE; rw [e1]; rfl) q)
  | obj n =>
    obtain ⟨kvs, e2, e⟩ := opt_map e
    cases e
    refine .inr (ha N H0 α0 α σ H S _ _ _ R e1 fun v α1 H1 R1 g1 d1 => ?_)
    obtain ⟨a, o, vs, rfl, hv, kr⟩ := lockO_ok R1 d1 e2
    exact ⟨a, o, rfl, .inl ⟨vs, hv, q _ α1 H1 R1 g1 (walk_dkeys hv kr)⟩⟩
  | _ => cases e
theorem rf_iVa (ha : RefE K ta fa) : RefIZ K (iVals ta) (iVa fa) := by
  intro N H0 α0 α σ H S ds S' Rr R e q
  obtain ⟨⟨x, S1⟩, e1, e⟩ := opt_bind e
  obtain ⟨kvs, e2, e⟩ := opt_map e
  cases e
  refine ha N H0 α0 α σ H S _ _ _ R e1 fun v α1 H1 R1 g1 d1 => ?_
  obtain ⟨a, o, vs, rfl, hv, kr⟩ := lockO_ok R1 d1 e2
  exact ⟨a, o, vs, rfl, hv, q _ α1 H1 R1 g1 (walk_dvals hv kr)⟩
theorem rf_iIa (ha : RefE K ta fa) : RefIZ K (iItems ta) (iIa fa) := by
  intro N H0 α0 α σ H S ds S' Rr R e q
  obtain ⟨⟨x, S1⟩, e1, e⟩ := opt_bind e
  obtain ⟨kvs, e2, e⟩ := opt_map e
  cases e
  refine ha N H0 α0 α σ H S _ _ _ R e1 fun v α1 H1 R1 g1 d1 => ?_
  obtain ⟨a, o, vs, rfl, hv, kr⟩ := lockO_ok R1 d1 e2
  exact ⟨a, o, vs, rfl, hv, q _ α1 H1 R1 g1 (walk_ditems hv kr)⟩
end
def tiZ (K : PySem.W.Frag) (f : DI) : TI := fun σ H Rr => ∃ (N : Addr → Prop) (H0 : Hp) (α0 α : List Addr) (S : Sx) (ds : List D) (S' : Sx), SR K N H0 α0 α σ H S ∧ f S = some (ds, S') ∧
  ∀ J α' H', SR K N H0 α0 α' σ H' S' → Gr α H S α' H' S' → WalkDZ K α' (lim H' (Mx N α' S' σ)) H' J ds → Rr J H'
def JIZ (X : Cx) (tgt iter : Expr) (f : DI) : Prop := PI X tgt iter (tiZ X.K f)
section
variable {X : Cx} {tgt iter e : Expr} {wi : TI} {f : DI} {fe : DE}
theorem JIZ.of (h : PI X tgt iter wi) (r : RefIZ X.K wi f) : JIZ X tgt iter f := ⟨fun pins s σ H Q I ⟨N, H0, α0, α, S, d, S', R, e, q⟩ => h.run pins s σ H Q I (r N H0 α0 α σ H S d S' Q R e q)⟩
theorem JIZ.pe (h : JIZ X tgt iter f) : PI X tgt iter (tiZ X.K f) := h
theorem JIZ.rf (h : JIZ X tgt iter f) : RefIZ X.K (tiZ X.K f) f := fun N H0 α0 α σ H S d S' Q R e q => ⟨N, H0, α0, α, S, d, S', R, e, q⟩
theorem JI.z (h : JI X tgt iter f) : JIZ X tgt iter f := JIZ.of h.pe h.rf.z
theorem jz_k (h : JE X e fe) : JIZ X tgt e (iKa fe) := JIZ.of (pi_or (pi_or (pi_list h.pe) (pi_tup h.pe)) (pi_keys h.pe)) (rf_iKa h.rf)
theorem jz_v {apos cpos : Pos} (h : JE X e fe) (hbase : attributeBase e "values" X.env (eval e X.env) = eval e X.env := by rfl) (hline : (apos.endLine == cpos.line) = true := by rfl) : JIZ X tgt (.Call (.Attribute e "values" apos) [] [] cpos) (iVa fe) := JIZ.of (pi_values h.pe hbase hline) (rf_iVa h.rf)
theorem jz_i {elts : List Expr} {kk : Nat} {tpos apos cpos : Pos} (h : JE X e fe) (hbase : attributeBase e "items" X.env (eval e X.env) = eval e X.env := by rfl) (hline : (apos.endLine == cpos.line) = true := by rfl) : JIZ X (.Tuple elts kk tpos) (.Call (.Attribute e "items" apos) [] [] cpos) (iIa fe) := JIZ.of (pi_items h.pe hbase hline) (rf_iIa h.rf)
end
/-! ### all, any over such a walk -/
section
variable {X : Cx} {elt tgt iter : Expr} {scope : Scope} {own : List (Str × Nat)} {fi : DI} {fg : DG} {fe : DE} {ws : List Nat} {nm : Str} {gpos p pos : Pos} {k : Nat}
theorem je_allZ (hr : Room (k + 1) X.A) (gd : Bg.Gd X.A) (hgl : Gl X "all") (hm : X.mg "all" = none) (tb : TbOk X.K X.base X.mg nm) (hcode : X.env.code = cdA X.K nm) (hN : X.N.Nodup) (hi : JIZ X tgt iter fi) (ok : BlkOk X.N X.env.scope scope own) (gc : genC scope = true)
    (hw : ∀ j, j ∈ ws → j ∈ own.map (·.2)) (hg : ∀ (s : Shared) (H : Hp) (C : Addr) (cv : Value) (fp : List Addr) (B : Around), JG (Gx.gcx X s H (Gx.genv X scope C cv) fp B) tgt ws fg)
    (he : ∀ (s : Shared) (H : Hp) (C : Addr) (cv : Value) (fp : List Addr) (B : Around), Room k B → Bg.Gd B → JE (Gx.gcx X s H (Gx.genv X scope C cv) fp B) elt fe) (hs : ∀ v, genFold iter X.env v = pure v := by intro _; rfl)
    (hst : starEach [.GeneratorExp elt [⟨tgt, iter, [], 0⟩] scope gpos] X.env = (false, eval (.GeneratorExp elt [⟨tgt, iter, [], 0⟩] scope gpos) X.env) :: starEach [] X.env := by rfl) :
    JE X (.Call (.Name "all" p) [.GeneratorExp elt [⟨tgt, iter, [], 0⟩] scope gpos] [] pos) (eGx nm false (own.map (·.2)) fi fg fe) := by
  obtain ⟨c, e1, TB⟩ := tb.ex
  obtain ⟨g1, g2, g3⟩ := genC_ok gc
  exact JE.of (Gx.pe_all (g := tgOf X.K ws fg) (te := teOf X.K fe) hr hgl hm (by decide +kernel) hN TB (hcode.trans e1) hi.pe ok g1 g2 g3 (fun s H C cv fp B => (hg s H C cv fp B).pe) (fun s H C cv fp B r q => (he s H C cv fp B (r k hr) (q.trans gd)).pe) hs hst) (rf_gxZ hw hi.rf rf_tgOf rf_teOf)
end
end Dl

set_option Elab.async false
set_option linter.all false
set_option maxRecDepth 100000
set_option maxHeartbeats 4000000
namespace Dl
open PySem PySem.Spec PyProof.Rows L2
/-! ### dict comprehensions with or without a test, over locked dicts too: a new dict of the store -/
def compKT (vs : List Nat) (g : DG) (t : DT) (k v : DE) : List D → List (Key × D) → Sx → Option (List (Key × D) × Sx)
  | [], acc, S => some (acc, S)
  | x :: xs, acc, S => (g x S).bind fun S1 => (t S1).bind fun b => if b.1 = true then (k b.2).bind fun p => (keyD p.1).bind fun ky => (v p.2).bind fun q => compKT vs g t k v xs (putD acc ky q.1) (wipeS q.2 vs) else compKT vs g t k v xs acc (wipeS b.2 vs)
def eDcO (vs : List Nat) (it : DI) (g : DG) (t : DT) (k v : DE) : DE := fun S => (it S).bind fun p => if p.1.length ≤ 1000 then (compKT vs g t k v p.1 [] (wipeS p.2 vs)).map fun r => (.obj r.2.st.length, { r.2 with st := r.2.st ++ [.dct r.1] }) else none
/-- a dict comprehension with a test over what is walked -/
theorem dcT_it {J : It} {n : Nat} {G : Hp → Prop} {Y : Nat → Hp → V → Hp → Prop} (W : Walk J n G Y) {g : TG} {tt : TT} {tk tv : TE} {vs : List Nat} {σ : L2.St} {H1 : Hp} {Dd : Addr} {Qd : Hp → Prop} (Pv : Nat → Hp → Prop) (h0 : Pv 0 (upd H1 Dd (.dK [])))
    (hG : ∀ i H, i ≤ n → Pv i H → G H)
    (hs : ∀ i x H H', i < n → Pv i H → Y i H x H' → g x (wipe σ vs) H' fun σ2 H2 => wipe σ2 vs = wipe σ vs ∧ tt σ2 H2 fun b H3 =>
      if b = true then tk σ2 H3 fun y H4 => tv σ2 H4 fun z H5 => ∃ kvs k, y = kV k ∧ H5 Dd = some (.dK kvs) ∧ kvs.length < sizeLine ∧ Pv (i + 1) (upd H5 Dd (.dK (putK kvs k z))) else Pv (i + 1) H3)
    (hd : ∀ H, Pv n H → Qd H) :
    ∃ Wf : Nat → Nat → Hp → Prop, (∃ m, Wf 0 m (upd H1 Dd (.dK []))) ∧ ∀ i m H, Wf i m H →
      (J.stop i H ∧ Qd H) ∨ (J.go i H ∧ ∃ Nx : Hp → Prop, (∀ H', Nx H' → ∃ m', m' < m ∧ Wf (i + 1) m' H') ∧ ∀ x H', J.yld i H x H' → g x (wipe σ vs) H' fun σ2 H2 => wipe σ2 vs = wipe σ vs ∧ tt σ2 H2 fun b H3 =>
        if b = true then tk σ2 H3 fun y H4 => tv σ2 H4 fun z H5 => ∃ kvs k, y = kV k ∧ H5 Dd = some (.dK kvs) ∧ kvs.length < sizeLine ∧ Nx (upd H5 Dd (.dK (putK kvs k z))) else Nx H3) := by
  refine ⟨fun i m H => (i ≤ n ∧ m = n - i) ∧ Pv i H, ⟨n, ⟨Nat.zero_le _, rfl⟩, h0⟩, ?_⟩
  rintro i m H ⟨⟨le, rfl⟩, pv⟩
  rcases Nat.lt_or_ge i n with lt | ge
  · refine .inr ⟨W.goes i H lt (hG i H le pv), Pv (i + 1), fun H' z => ⟨n - (i + 1), by omega, ⟨lt, rfl⟩, z⟩, fun x H' y => ?_⟩
    exact hs i x H H' lt pv (W.yields i H x H' lt (hG i H le pv) y)
  · have : i = n := Nat.le_antisymm le ge
    subst this
    exact .inl ⟨W.stops H (hG _ H le pv), hd H pv⟩
section
variable {K : PySem.W.Frag} {tk tv : TE} {fk fv : DE} {tt : TT} {ft : DT} {tg : TG} {fg : DG} {wi : TI} {fi : DI}
theorem rf_dcO {ws vs : List Nat} (hw : ∀ j, j ∈ ws → j ∈ vs) (hi : RefIZ K wi fi) (hg : RefG K ws tg fg) (ht : RefT K tt ft) (hk : RefE K tk fk) (hv : RefE K tv fv) : RefE K (tDc wi tg tt tk tv vs) (eDcO vs fi fg ft fk fv) := by
  intro N H0 α0 α σ H S d S' Q R e q
  obtain ⟨⟨ds, S1⟩, e1, e⟩ := opt_bind e
  by_cases hlen : ds.length ≤ 1000
  case neg =>
    have e : (if ds.length ≤ 1000 then (compKT vs fg ft fk fv ds [] (wipeS S1 vs)).map fun r => (D.obj r.2.st.length, { r.2 with st := r.2.st ++ [.dct r.1] }) else none) = some (d, S') := e
    rw [if_neg hlen] at e
    cases e
  have e : (if ds.length ≤ 1000 then (compKT vs fg ft fk fv ds [] (wipeS S1 vs)).map fun r => (D.obj r.2.st.length, { r.2 with st := r.2.st ++ [.dct r.1] }) else none) = some (d, S') := e
  rw [if_pos hlen] at e
  obtain ⟨⟨res, S2⟩, e0, e2⟩ := opt_map e
  clear e
  cases e2
  refine hi N H0 α0 α σ H S ds S1 _ R e1 fun J α1 H1 R1 g1 W => fun Dd nD => ?_
  obtain ⟨G, Y, W, WG, WY⟩ := W
  obtain ⟨Rw, sw⟩ := R1.wipe vs
  have hun : ∀ (T : Sx) (j : Nat) (x : Slot), j ∈ vs → (wipeS T vs).env[j]? = some x → x = .un := fun T j x c hx => wipeS_un c hx
  have hsl : ∀ (T : Sx), (∀ (j : Nat) (x : Slot), j ∈ vs → T.env[j]? = some x → x = .un) → ∀ (j : Nat) (x : Slot), T.env[j]? = some x → x ≠ .un → (L2.wipe σ vs)[j]? = σ[j]? := by
    intro T hT j x hx nx
    by_cases c : j ∈ vs
    · exact absurd (hT j x c hx) nx
    · exact wipe_out c
  obtain ⟨Rs, mxs⟩ := Rw.slots (σ' := L2.wipe σ vs) (wipe_length σ vs) (hsl _ (hun S1))
  have ems : Mx N α1 (wipeS S1 vs) (L2.wipe σ vs) = Mx N α1 (wipeS S1 vs) σ := funext fun a => propext (mxs a)
  have s0 : Same (lim H1 (Mx N α1 S1 σ)) (lim (upd H1 Dd (.dK [])) (Mx (NewP N Dd) α1 (wipeS S1 vs) (L2.wipe σ vs))) := by
    refine sw.trans ?_
    rw [← ems]
    refine lim_keep (fun a o _ e => Bg.same_new nD _ _ e) fun a m l => ?_
    rcases m with (m | m) | m
    · exact .inl m
    · subst m; exact absurd nD l
    · exact .inr m
  refine dcT_it W (g := tg) (tt := tt) (tk := tk) (tv := tv) (vs := vs) (σ := σ) (H1 := H1) (Dd := Dd) (Qd := fun H => Q (.ref Dd) H) (fun i Hc => ∃ α2 S3 acc da, SR K (NewP N Dd) H0 α0 α2 (L2.wipe σ vs) Hc S3 ∧ Gr α1 H1 S1 α2 Hc S3 ∧ Same (lim H1 (Mx N α1 S1 σ)) (lim Hc (Mx (NewP N Dd) α2 S3 (L2.wipe σ vs))) ∧
    Hc Dd = some (.dK acc) ∧ KR K α2 (lim Hc (Mx (NewP N Dd) α2 S3 (L2.wipe σ vs))) acc da ∧ acc.length ≤ i ∧ compKT vs fg ft fk fv (ds.drop i) da S3 = some (res, S2) ∧ ∀ (j : Nat) (x : Slot), j ∈ vs → S3.env[j]? = some x → x = .un) ?_ ?_ ?_ ?_
  · exact ⟨α1, wipeS S1 vs, [], [], Rs.add nD, (Gr.wipe vs).trans (.of_same (Bg.same_new nD)), s0, upd_same, .nil, Nat.le_refl _, e0, hun S1⟩
  · rintro i Hc _ ⟨α2, S3, acc, da, R2, g2, s2, _⟩
    exact WG Hc _ s2 g2.frz
  · rintro i x H2 H3 hi ⟨α2, S3, acc, da, R2, g2, s2, hD, dacc, al, ef, un⟩ y
    obtain ⟨s3, d, ed, dd⟩ := WY i H2 x H3 _ hi s2 g2.frz R2.mlive y
    have R3 := R2.same s3
    have hd : ds.drop i = d :: ds.drop (i + 1) := by
      rw [List.drop_eq_getElem_cons hi]
      congr 1
      rw [List.getElem?_eq_getElem hi] at ed
      exact Option.some.inj ed
    rw [hd] at ef
    obtain ⟨S4, e4, ef⟩ := opt_bind ef
    obtain ⟨⟨b, St⟩, et, ef⟩ := opt_bind ef
    have s23 : Same (lim H2 (Mx (NewP N Dd) α2 S3 (L2.wipe σ vs))) (lim H3 (Mx (NewP N Dd) α2 S3 (L2.wipe σ vs))) := lim_mono s3
    refine hg (NewP N Dd) H0 α0 α2 (L2.wipe σ vs) H3 S3 d x S4 _ R3 (dd α2 g2.pre) e4 fun σ4 α4 H4 R4 g4 s4 w4 => ⟨?_, ?_⟩
    · rw [wipe_wr w4 hw]
      exact wipe_wr (ws := vs) ⟨wipe_length σ vs, fun j h => wipe_out h⟩ fun j h => h
    refine ht (NewP N Dd) H0 α0 α4 σ4 H4 S4 b St _ R4 et fun αt Ht Rt gt => ?_
    have nDa : Dd ∉ α2 := fun z => R2.na Dd z (.inr rfl)
    have hw4 : ∀ (j : Nat), j ∉ vs → (L2.wipe σ vs)[j]? = σ4[j]? := fun j h => (w4.2 j fun z => h (hw j z)).symm
    have g2t : Gr α2 H2 S3 αt Ht St := ((Gr.of_same s3).trans g4).trans gt
    have s2t : Same (lim H2 (Mx (NewP N Dd) α2 S3 (L2.wipe σ vs))) (lim Ht (Mx (NewP N Dd) αt St σ4)) := (s23.trans s4).trans gt.same
    cases b with
    | false =>
      rw [if_neg Bool.false_ne_true]
      have ef : compKT vs fg ft fk fv (ds.drop (i + 1)) da (wipeS St vs) = some (res, S2) := ef
      obtain ⟨Rb, sb⟩ := Rt.wiped (σ := L2.wipe σ vs) (vs := vs) w4.1.symm hw4
      exact ⟨αt, wipeS St vs, acc, da, Rb, (g2.trans g2t).trans (.wipe vs), (s2.trans s2t).trans sb, g2t.keep Dd _ nDa hD, dacc.mono (s2t.trans sb) g2t.pre, Nat.le_succ_of_le al, ef, hun St⟩
    | true =>
    rw [if_pos rfl]
    obtain ⟨⟨kd, S5⟩, e5, ef⟩ := opt_bind (show (fk St).bind _ = some (res, S2) from ef)
    obtain ⟨ky, eky, ef⟩ := opt_bind ef
    obtain ⟨⟨z, S6⟩, e6, ef⟩ := opt_bind ef
    refine hk (NewP N Dd) H0 α0 αt σ4 Ht St kd S5 _ Rt e5 fun vk α5 H5 R5 g5 d5 => ?_
    have evk := key_ok d5 eky
    subst evk
    refine hv (NewP N Dd) H0 α0 α5 σ4 H5 S5 z S6 _ R5 e6 fun v α6 H6 R6 g6 d6 => ?_
    have g26 : Gr α2 H2 S3 α6 H6 S6 := (g2t.trans g5).trans g6
    have s26 : Same (lim H2 (Mx (NewP N Dd) α2 S3 (L2.wipe σ vs))) (lim H6 (Mx (NewP N Dd) α6 S6 σ4)) := (s2t.trans g5.same).trans g6.same
    obtain ⟨Rb, sb⟩ := R6.wiped (σ := L2.wipe σ vs) (vs := vs) w4.1.symm hw4
    have hD6 := g26.keep Dd _ nDa hD
    refine ⟨acc, ky, rfl, hD6, ?_, ?_⟩
    · have h1 : acc.length < ds.length := Nat.lt_of_le_of_lt al hi
      rw [sizeLine_eq]; omega
    · have keepD : ∀ a o, a ≠ Dd → H6 a = some o → upd H6 Dd (.dK (putK acc ky v)) a = some o := fun a o n h => by rw [upd_ne n]; exact h
      have sx : Same (lim H6 (Mx (NewP N Dd) α6 (wipeS S6 vs) (L2.wipe σ vs))) (lim (upd H6 Dd (.dK (putK acc ky v))) (Mx (NewP N Dd) α6 (wipeS S6 vs) (L2.wipe σ vs))) :=
        lim_keep (fun a o nm h => keepD a o (fun z => nm (.inl (.inr z))) h) fun a m _ => m
      have Rd : SR K (NewP N Dd) H0 α0 α6 (L2.wipe σ vs) (upd H6 Dd (.dK (putK acc ky v))) (wipeS S6 vs) := by
        refine ⟨Rb.pre, Rb.len, Rb.nd, fun a n => ?_, Rb.na, Rb.on, Rb.uniq, fun j x hx => (Rb.slot j x hx).mono (fun a u hu hx2 h => keepD a u (fun w => ?_) h) sx (List.prefix_refl _), ⟨Rb.sto.len, fun n o ho => ?_⟩, fun a o n h => ?_, Rb.fresh, Rb.fral, fun a o u h => keepD a _ (fun w => by (subst w; rw [R1.base_none nD] at h; cases h)) (Rb.frz a o u h)⟩
        · by_cases c : a = Dd
          · subst c; rw [upd_same]; exact fun z => (nomatch z)
          · rw [upd_ne c]; exact Rb.live a n
        · obtain ⟨es, rfl⟩ := hx2
          exact (Rb.on a ⟨j, es, hx, hu⟩).1 (.inr w)
        · obtain ⟨b, y1, y2⟩ := Rb.sto.at_ n o ho
          exact ⟨b, y1, y2.mono (fun u h => keepD b u (fun w => Rb.na b (List.mem_of_getElem? y1) (.inr w)) h) sx (List.prefix_refl _)⟩
        · have h1 := Rb.keep a o n h
          refine keepD a o (fun w => ?_) h1
          subst w
          have := R1.base_none nD
          rw [this] at h; cases h
      refine ⟨α6, wipeS S6 vs, putK acc ky v, putD da ky z, Rd, ?_, ((s2.trans s26).trans sb).trans sx, upd_same, ?_, ?_, ef, hun S6⟩
      · have ga := (g2.trans g26).trans (.wipe vs)
        exact ⟨ga.pre, ga.fr, fun a o n h => keepD a o (fun w => by subst w; rw [nD] at h; cases h) (ga.keep a o n h), ga.own, fun a o u h => keepD a _ (fun w => by (subst w; rw [nD] at h; cases h)) (ga.frz a o u h)⟩
      · exact (((dacc.mono s26 g26.pre).put d6).mono (sb.trans sx) (List.prefix_refl _))
      · have := length_putK acc ky v
        omega
  · rintro Hc ⟨α2, S3, acc, da, R2, g2, s2, hD, dacc, al, ef, un⟩
    rw [List.drop_length] at ef
    cases ef
    obtain ⟨Rf, mf⟩ := R2.slots (σ' := σ) (wipe_length σ vs).symm (fun j x hx nx => by
      by_cases c : j ∈ vs
      · exact absurd (un j x c hx) nx
      · exact (wipe_out c).symm)
    have ef : Mx (NewP N Dd) α2 S2 σ = Mx (NewP N Dd) α2 S2 (L2.wipe σ vs) := funext fun a => propext (mf a)
    rw [← ef] at dacc
    obtain ⟨R3, g3, d3⟩ := R1.push (o := .dct res) Rf g2 nD (R1.base_none nD) fun α3 pr => ⟨_, hD, dacc.mono (Same.refl _) pr⟩
    exact q _ _ _ R3 (g1.trans g3) d3
/-! ### {} as a thing of the store -/
def eNewD : DE := fun S => some (.obj S.st.length, { S with st := S.st ++ [.dct []] })
theorem rf_newD : RefE K tDNewK eNewD := by
  intro N H0 α0 α σ H S d S' Q R e q p np
  cases e
  have s : Same H (upd H p (.dK [])) := Bg.same_new np
  obtain ⟨R3, g3, d3⟩ := R.push (o := .dct []) (R.add (o := .dK []) np) (.of_same s) np (R.base_none np) fun α2 pr => ⟨[], upd_same, .nil⟩
  exact q _ _ _ R3 g3 d3
/-! ### list(..): a new list of the store -/
def seqA (S : Sx) : D → Option (List D)
  | .lst ds => some ds
  | .tup ds => some ds
  | .obj n => lstO S n
  | _ => none
def lListA (a : DE) : DL := fun S => (a S).bind fun p => (seqA p.2 p.1).map fun ds => (ds, p.2)
theorem seqA_ok {N : Addr → Prop} {H0 H : Hp} {α0 α : List Addr} {σ : L2.St} {S : Sx} (R : SR K N H0 α0 α σ H S) {v : V} {d : D} {ds : List D} (h : DR K α (lim H (Mx N α S σ)) v d) (e : seqA S d = some ds) : ∃ a vs, v = .ref a ∧ (SqL K H a vs ∨ SqT K H a vs) ∧ DRs K α (lim H (Mx N α S σ)) vs ds := by
  cases d <;> first | (cases e; done) | skip
  · cases e; cases h with | lst a b => exact ⟨_, _, rfl, .inl (sqL_lim a), b⟩
  · cases e; cases h with | tup a b => exact ⟨_, _, rfl, .inr (sqT_lim a), b⟩
  · cases h with
    | obj en =>
      obtain ⟨vs, hv, hd⟩ := R.lstAt en e
      exact ⟨_, vs, rfl, .inl (.inl (.inl hv)), hd⟩
theorem rf_lListA {ta : TE} {fa : DE} (ha : RefE K ta fa) : RefL K (tCB (rListOf K) (tCons ta tNil)) (lListA fa) := by
  intro N H0 α0 α σ H S ds S' Q R e q
  obtain ⟨⟨x, S1⟩, e1, e⟩ := opt_bind e
  obtain ⟨es, e2, e⟩ := opt_map e
  cases e
  refine ha N H0 α0 α σ H S x S1 _ R e1 fun v1 α1 H1 R1 g1 d1 => ?_
  obtain ⟨a, vs, rfl, sq, hd⟩ := seqA_ok R1 d1 e2
  refine ⟨a, vs, rfl, sq, fun p np => ?_⟩
  have s : Same H1 (upd H1 p (.lst vs)) := Bg.same_new np
  refine q p α1 _ _ (R1.add np) (g1.trans (.of_same s)) (g1.none R1 np) (R1.base_none np) upd_same ?_
  refine hd.mono (lim_keep (fun a o _ e => s _ _ e) fun a m l => ?_) (List.prefix_refl _)
  rcases m with (m | m) | m
  · exact .inl m
  · subst m; exact absurd np l
  · exact .inr m
end
section
variable {X : Cx} {e kx vx tgt iter : Expr} {ifs : List Expr} {fe fk fv : DE} {ft : DT} {fg : DG} {fi : DI} {ws : List Nat} {p pos : Pos} {scope : Scope} {own : List (Str × Nat)}
theorem je_dcO (hc : X.calm = true) (hN : X.N.Nodup) (hi : JIZ X tgt iter fi) (ok : BlkOk X.N X.env.scope scope own) (hw : ∀ j, j ∈ ws → j ∈ own.map (·.2))
    (hg : ∀ (s : Shared) (H : Hp) (C : Addr) (cl : List (Str × Addr)) (fp : List Addr), JG (X.blk s H scope (compEnvC scope cl C X.env) fp) tgt ws fg)
    (ht : ∀ (s : Shared) (H : Hp) (C : Addr) (cl : List (Str × Addr)) (fp : List Addr), JTs (X.blk s H scope (compEnvC scope cl C X.env) fp) ifs ft)
    (hk : ∀ (s : Shared) (H : Hp) (C : Addr) (cl : List (Str × Addr)) (fp : List Addr), JE (X.blk s H scope (compEnvC scope cl C X.env) fp) kx fk)
    (hv : ∀ (s : Shared) (H : Hp) (C : Addr) (cl : List (Str × Addr)) (fp : List Addr), JE (X.blk s H scope (compEnvC scope cl C X.env) fp) vx fv) (hs : ∀ x, foldedSetIterable iter X.env x = pure x := by intro _; rfl) :
    JE X (.DictComp kx vx [⟨tgt, iter, ifs, 0⟩] scope pos) (eDcO (own.map (·.2)) fi fg ft fk fv) :=
  JE.of (pe_dc (g := tgOf X.K ws fg) (tt := ttOf X.K ft) (tk := teOf X.K fk) (tv := teOf X.K fv) hc hN hi.pe ok (fun s H C cl fp => (hg s H C cl fp).pe) (fun s H C cl fp => (ht s H C cl fp).pe) (fun s H C cl fp => (hk s H C cl fp).pe) (fun s H C cl fp => (hv s H C cl fp).pe) hs)
    (rf_dcO hw hi.rf rf_tgOf rf_ttOf rf_teOf rf_teOf)
theorem je_newD : JE X (.Dict [] [] pos) eNewD := JE.of pe_dnewK rf_newD
theorem jl_listA (hg : Gl X "list") (hm : X.mg "list" = none) (hv : bootBuiltins "list" = some (.type "list")) (he : JE X e fe) (n1 : starEach [e] X.env = (false, eval e X.env) :: starEach [] X.env := by rfl) : JL X (.Call (.Name "list" p) [e] [] pos) (lListA fe) :=
  JL.of (pe_callTy call_list_of hg hm hv (pa_cons he.pe pa_nil n1) (he := n1)) (rf_lListA he.rf)
end
end Dl

set_option Elab.async false
set_option linter.all false
set_option maxRecDepth 100000
set_option maxHeartbeats 4000000
/-! {**d, k: v}: a new dict, made of a standing one and one pair more. Own work of the verifier. -/
namespace Gx
open PySem PySem.Spec PySem.W L2 PyProof.Rows
section
variable {P : Program} {w : World} {A : Around} {E : Value → Shared → Prop} {s : Shared} {Kt : Type} [DecidableEq Kt] {kn : KeyKind P w Kt}
/-- one pair put -/
theorem put_run {d : Addr} {kvs : List (Kt × Value)} {k : Kt} {key v : Value} {Q : Unit → Shared → Prop} (is : kn.is k key = true) (dd : s.heap.DictOf kn d kvs) (sz : kvs.length ≤ sizeLine)
    (q : ∀ h', h'.DictOf kn d (stored kvs k v) → Heap.SameBut d s.heap h' → Q () { s with heap := h' }) : wpAny (model P w) A (dictPut d (kn.hash k) key v) Q E s := by
  obtain ⟨o, es, ep, ho, hc, hd, hk, hp, hn⟩ := dd
  have len : es.size ≤ sizeLine := by
    have := hp.length
    rw [Array.length_toList] at this
    omega
  have at_ : (es.findIdx? fun e => kn.is k e.key) = kvs.findIdx? fun kv => decide (kv.1 = k) := by
    rw [← hp.findIdx k]
    obtain ⟨l⟩ := es
    simp
  unfold dictPut
  refine wpAny_bind (wpAny_dictFind_of is ho hd hk ?_)
  cases hi : es.findIdx? fun e => kn.is k e.key with
  | none =>
    have out : k ∉ kvs.map Prod.fst := not_mem_of_findIdx_none (at_ ▸ hi)
    have no : ¬ (kvs.any fun kv => decide (kv.1 = k)) = true := fun z => by
      obtain ⟨kv, m, e⟩ := List.any_eq_true.mp z
      exact out (List.mem_map.mpr ⟨kv, m, of_decide_eq_true e⟩)
    have st : stored kvs k v = kvs ++ [(k, v)] := by unfold stored; exact if_neg no
    refine wpAny_updateDictKeys (hz := len) ho hd (q _ ?_ (Heap.SameBut.update ..))
    rw [st]
    refine ⟨_, _, ep + 1, Heap.get?_update_self _ ho (Obj.isFreed_of_dict (Obj.data_mapDictKeys hd _)), hc.mapDictKeys _, Obj.data_mapDictKeys hd _, hk.push is _, ?_, ?_⟩
    · have := hp.append is (kn.hash k) v
      obtain ⟨l⟩ := es
      simpa using this
    · rw [List.map_append]
      refine List.nodup_append.mpr ⟨hn, by simp, fun a ha b hb e => ?_⟩
      simp at hb
      subst hb
      exact out (e ▸ ha)
  | some i =>
    have yes : (kvs.any fun kv => decide (kv.1 = k)) = true := any_of_findIdx_some (at_ ▸ hi)
    have hl : (es.toList.findIdx? fun e => kn.is k e.key) = some i := by
      rw [← hi]
      obtain ⟨l⟩ := es
      simp
    refine wpAny_updateDict ho hd (q _ ?_ (Heap.SameBut.update ..))
    refine ⟨_, _, ep, Heap.get?_update_self _ ho (Obj.isFreed_of_dict (Obj.data_mapDict hd _)), hc.mapDict _, Obj.data_mapDict hd _, hk.modify _ _, ?_, ?_⟩
    · have z := hp.modify hn hl v
      rw [stored, if_pos yes]
      obtain ⟨l⟩ := es
      simpa using z
    · rw [stored, if_pos yes, keys_map_store]
      exact hn
/-- what stands in one dict is put into another -/
theorem merge_run {d o : Addr} {kvs more_ : List (Kt × Value)} {Q : Unit → Shared → Prop} (ne : d ≠ o) (oS : (o == sysModules) = false) (plain : ∀ (k : Kt) (a : Addr), kn.is k (.ref a) = false) (hd : s.heap.DictOf kn d kvs) (ho : s.heap.DictOf kn o more_) (sz : kvs.length + more_.length ≤ sizeLine)
    (q : ∀ h', h'.DictOf kn d (merged kvs more_) → h'.DictOf kn o more_ → Heap.SameBut d s.heap h' → Q () { s with heap := h' }) : wpAny (model P w) A (mergeMapping d (.ref o) false) Q E s := by
  obtain ⟨od, esd, epd, hod, hcd, hdd, hkd, hpd, hnd⟩ := id hd
  obtain ⟨oo, eso, epo, hoo, hco, hdo, hko, hpo, hno⟩ := id ho
  have len : eso.size = more_.length := by rw [← hpo.length, Array.length_toList]
  have main : wpAny (model P w) A (do
      let l ← dictEntries o
      let epoch ← dictEpoch o
      forIn (List.range l.size) PUnit.unit fun i (_ : PUnit) => (do
          let l' ← dictEntries o
          match l'[i]? with
          | some e => do
            holding [e.key, e.val] (dictPut d e.hash e.key e.val)
            let ep ← dictEpoch o
            if (ep != epoch) = true then do
              (unsupported "dict.changed-during-merge" : Sem PUnit)
              pure (ForInStep.yield PUnit.unit)
            else pure (ForInStep.yield PUnit.unit)
          | _ => do
            (unsupported "dict.changed-during-merge" : Sem PUnit)
            pure (ForInStep.yield PUnit.unit) : Sem (ForInStep PUnit))
      pure ()) Q E s := by
    refine wpAny_bind (wpAny_dictEntries hoo hdo (wpAny_bind (wpAny_dictEpoch hoo hdo (wpAny_bind ?_))))
    rw [List.range_eq_range']
    refine wpAny_forIn_list _ (fun more _ s' => ∃ h' i, s' = { s with heap := h' } ∧ more = List.range' i (eso.size - i) ∧ i ≤ eso.size ∧ h'.DictOf kn d (merged kvs (more_.take i)) ∧ h'.get? o = some oo ∧ Heap.SameBut d s.heap h') _ ?_ ?_ _ _ ⟨s.heap, 0, rfl, by simp, Nat.zero_le _, by simpa [merged] using hd, hoo, Heap.SameBut.refl _ _⟩
    · rintro x more b s' ⟨h', i, rfl, e, le, hd', hoo', hs'⟩
      have lt : i < eso.size := Nat.lt_of_not_le fun z => by
        rw [Nat.sub_eq_zero_of_le z] at e
        cases e
      rw [show eso.size - i = (eso.size - (i + 1)) + 1 from by omega, List.range'_succ] at e
      injection e with ex em
      subst ex
      refine wpAny_bind (wpAny_dictEntries hoo' hdo ?_)
      rw [Array.getElem?_eq_getElem lt]
      obtain ⟨kv, hkv⟩ : ∃ kv, more_[x]? = some kv := ⟨more_[x]'(len ▸ lt), List.getElem?_eq_getElem _⟩
      obtain ⟨k, v⟩ := kv
      obtain ⟨is, ev⟩ := hpo.get? (e := eso[x]) (by simp [lt]) hkv
      obtain ⟨k', is', eh⟩ := hko eso[x] (Array.getElem_mem lt)
      obtain rfl : k' = k := kn.inj _ _ _ is' is
      show wpAny _ _ (holding [eso[x].key, eso[x].val] (dictPut d eso[x].hash eso[x].key eso[x].val) >>= _) _ _ _
      rw [eh, ev]
      have z : (merged kvs (more_.take x)).length ≤ sizeLine := by
        have z1 := merged_length_le kvs (more_.take x)
        rw [List.length_take] at z1
        omega
      refine wpAny_bind (wpAny_holding (put_run is hd' z fun h2 d2 s2 => ?_))
      have o2 : h2.get? o = some oo := (s2.2 o ne.symm).trans hoo'
      refine wpAny_bind (wpAny_dictEpoch o2 hdo ?_)
      rw [if_neg (by simp)]
      exact wpAny_pure ⟨h2, x + 1, rfl, em, lt, by rw [merged_take_succ kvs more_ x (k', v) hkv]; exact d2, o2, hs'.trans s2⟩
    · rintro b s' ⟨h', i, rfl, e, le, hd', hoo', hs'⟩
      have ge : i = eso.size := Nat.le_antisymm le (Nat.le_of_not_lt fun z => by
        rw [show eso.size - i = (eso.size - (i + 1)) + 1 from by omega, List.range'_succ] at e
        cases e)
      refine wpAny_pure (q h' ?_ ⟨oo, eso, epo, hoo', hco, hdo, hko, hpo, hno⟩ hs')
      rw [ge, len, List.take_length] at hd'
      exact hd'
  unfold mergeMapping
  refine wpAny_bind (wpAny_isInstance (T := "dict") ho.typeIs F.sub_dict_dict ?_)
  dsimp only
  rw [if_pos rfl]
  refine wpAny_bind (wpAny_specialOf ho.typeIs F.slot_dict_iter.lookup ?_)
  refine wpAny_bind (wpAny_pure ?_)
  rw [show (some (Value.builtin "dict.__iter__") == some (Value.builtin "dict.__iter__")) = true from by decide]
  dsimp only
  simp only [Bool.false_eq_true, if_false]
  rw [if_neg (by rw [oS]; exact Bool.false_ne_true)]
  refine wpAny_bind (wpAny_dictEntries hod hdd ?_)
  refine wpAny_ite_split (fun _ => ?_) fun _ => main
  refine wpAny_bind (wpAny_dictEntries hoo hdo (wpAny_bind ?_))
  refine MeetsSeq2.wpAny_forIn_array _ (fun more _ s' => s' = s ∧ ∀ e, e ∈ more → e ∈ eso) _ ?_ ?_ _ _ ⟨rfl, fun e h => by simpa using h⟩
  · rintro e more b s' ⟨rfl, h⟩
    obtain ⟨k, is, _⟩ := hko e (h e (List.mem_cons_self ..))
    have h2 : ∀ e, e ∈ more → e ∈ eso := fun x m => h x (List.mem_cons_of_mem _ m)
    cases ek : e.key with
    | ref a => rw [ek, plain] at is; cases is
    | _ => exact wpAny_pure ⟨rfl, h2⟩
  · rintro b s' ⟨rfl, _⟩
    exact main
end
theorem mix_plain {P : Program} {w : World} (k : Key) (a : Addr) : (mixKind P w).is k (.ref a) = false := by
  cases k <;> rfl
/-- {**d, k: v}: p the new dict, p2 one for the pair alone -/
def tDStar (td tk tv : TE) : TE := fun σ H Q => ∀ p, H p = none → td σ (upd H p (.dK [])) fun x H1 => ∃ a kvs, x = .ref a ∧ Rd H1 a (.dK kvs) ∧ a ≠ p ∧ H1 p = some (.dK []) ∧
  ∀ p2, (upd H1 p (.dK (mergeK [] kvs))) p2 = none → tPairs [(tk, tv)] σ (upd (upd H1 p (.dK (mergeK [] kvs))) p2 (.dK [])) fun ps H3 => ∃ key z ks, ps = [(kV key, z)] ∧ H3 p = some (.dK ks) ∧ ks.length < sizeLine ∧ H3 p2 = some (.dK []) ∧
    Q (.ref p) (upd (upd H3 p2 (.dK [(key, z)])) p (.dK (putK ks key z)))
section
variable {X : Cx}
theorem pe_dstar {d k v : Expr} {pos : Pos} {td tk tv : TE} (hd : PE X d td) (hk : PE X k tk) (hv : PE X v tv) : PE X (.Dict [none, some k] [d, v] pos) (tDStar td tk tv) := by
  refine ⟨fun pins s σ H Q I q => ?_⟩
  have hn := I.hok.fresh (Nat.le_refl s.heap.objs.size)
  have I1 := I.laid (a := s.heap.objs.size) (o := .dK []) (h' := s.heap.push { cls := .type "dict", data := .dict #[] }) (t' := s.toks) (fun _ _ q => Heap.get?_push_of_some _ q) (Nat.le_refl _) (dk_empty s.heap I.big)
  rw [arm_eval_Dict]
  refine wpAny_bind (wpAny_standAt ?_)
  show wpAny (model X.prog X.w) X.A (dictDisplay [(none, do let x ← eval d X.env; standAt pos; pure x), (some (eval k X.env), do let x ← eval v X.env; standAt pos; pure x)]) _ _ _
  unfold dictDisplay
  simp only [List.forIn_cons, List.forIn_nil, List.isEmpty_nil, if_true, pure_bind, bind_assoc, List.nil_append, List.length_singleton, List.isEmpty_cons, Bool.false_eq_true, if_false, show ((1 : Nat) == 17) = false from rfl]
  generalize hp : s.heap.objs.size = p at hn I1
  refine wpAny_bind (wpAny_alloc ?_)
  rw [hp]
  refine wpAny_bind (wpAny_holding (wpAny_bind (thn (hd.run pins _ σ _ _ I1 (q p hn)) fun m s1 ⟨x, H1, I2, rx, a, kvs, ex, rd, ne, e1, q1⟩ => wpAny_bind (wpAny_standAt (wpAny_pure ?_)))))
  subst ex
  obtain rfl : m = Value.ref a := rx
  obtain ⟨za, zaS, va, ra, da⟩ := dk_rd I2.hok rd
  obtain ⟨_, zp, vp, rp, dp⟩ := dk_of I2.hok e1
  cases rp
  have zs : ([] : List (Key × Value)).length + va.length ≤ sizeLine := by rw [← ra.length, List.length_nil]; omega
  refine wpAny_bind (wpAny_onRaise (wpAny_tryCatch (wpAny_onRaise (wpAny_holding (merge_run (kn := mixKind X.prog X.w) ne.symm zaS mix_plain dp da zs fun h2 d2 _ s2 => ?_)))))
  have I3 : Inv X pins σ (upd H1 p (.dK (mergeK [] kvs))) { s1 with heap := h2 } := by
    have he : ∃ o, h2.get? p = some o := let ⟨o, _, _, e, _⟩ := d2; ⟨o, e⟩
    have z : (mergeK [] kvs).length ≤ sizeLine := by
      have := length_mergeK kvs []
      rw [List.length_nil] at this
      omega
    exact d_write I2 (by rw [e1]; exact True.intro) s2 he (dk_new z zp (ra.merge .nil) d2)
  have sz2 : ({ s1 with heap := h2 } : Shared).heap.objs.size = h2.objs.size := rfl
  have hn2 : upd H1 p (.dK (mergeK [] kvs)) h2.objs.size = none := I3.hok.fresh (Nat.le_refl _)
  have I4 := I3.laid (a := h2.objs.size) (o := .dK []) (h' := h2.push { cls := .type "dict", data := .dict #[] }) (t' := s1.toks) (fun _ _ q => Heap.get?_push_of_some _ q) (Nat.le_refl _) (dk_empty h2 I3.big)
  generalize hp2 : h2.objs.size = p2 at hn2 I4
  have pp : PPs X pos [some k] [v] [(tk, tv)] := pps_cons hk hv pps_nil
  have np : p ≠ p2 := fun z => by
    rw [← z, upd_same] at hn2
    cases hn2
  refine wpAny_bind (wpAny_holding (wpAny_subDict (knd := mixKind X.prog X.w) (pairs := pairTrees [some k] [v] X.env pos) (Nat.le_of_ble_eq_true rfl) ?_))
  rw [sz2, hp2]
  refine thn (pp.run pins _ σ _ (fun ps H3 => ∃ key z ks, ps = [(kV key, z)] ∧ H3 p = some (.dK ks) ∧ ks.length < sizeLine ∧ H3 p2 = some (.dK []) ∧ Q (.ref p) (upd (upd H3 p2 (.dK [(key, z)])) p (.dK (putK ks key z)))) I4 ?_) fun ws s3 ⟨ps, H3, I5, rel, key, z, ks, ep, e3, l3, e4, q3⟩ => ?_
  · exact q1 p2 hn2
  subst ep
  obtain ⟨rs, c, rk⟩ := carries_of (P := X.prog) (w := X.w) (kvs := [(key, z)]) rel
  obtain ⟨_, zp2, v2, r2, dp2⟩ := dk_of I5.hok e4
  cases r2
  refine ⟨rs, c, dp2, fun h3 d3 s3' => wpAny_bind (wpAny_onRaise (wpAny_holding ?_))⟩
  have I6 : Inv X pins σ (upd H3 p2 (.dK [(key, z)])) { s3 with heap := h3, toks := s3.toks + ws.length } := by
    have he : ∃ o, h3.get? p2 = some o := let ⟨o, _, _, e, _⟩ := d3; ⟨o, e⟩
    exact d_write (ob := .dK (mergeK [] [(key, z)])) I5 (by rw [e4]; exact True.intro) s3' he (dk_new (by rw [sizeLine_eq]; exact Nat.le_of_ble_eq_true rfl) zp2 (rk.merge .nil) d3)
  have e5 : upd H3 p2 (.dK [(key, z)]) p = some (.dK ks) := by rw [upd_ne np]; exact e3
  obtain ⟨_, zp', vp, rp, dp'⟩ := dk_of I6.hok e5
  obtain ⟨_, _, vq, rq, dq⟩ := dk_of I6.hok (upd_same (H := H3) (a := p2) (o := .dK [(key, z)]))
  have zs2 : vp.length + vq.length ≤ sizeLine := by
    rw [← rp.length, ← rq.length, List.length_singleton]
    exact l3
  refine merge_run (kn := mixKind X.prog X.w) np zp2 mix_plain dp' dq zs2 fun h4 d4 _ s4 => wpAny_pure ?_
  have he : ∃ o, h4.get? p = some o := let ⟨o, _, _, e, _⟩ := d4; ⟨o, e⟩
  have z4 : (mergeK ks [(key, z)]).length ≤ sizeLine := by
    have := length_mergeK [(key, z)] ks
    rw [List.length_singleton] at this
    omega
  exact ⟨.ref p, _, d_write (ob := .dK (mergeK ks [(key, z)])) I6 (by rw [e5]; exact True.intro) s4 he (dk_new z4 zp' (rq.merge rp) d4), rfl, q3⟩
end
end Gx

set_option Elab.async false
set_option linter.all false
set_option maxRecDepth 100000
set_option maxHeartbeats 4000000
namespace Dl
open PySem PySem.Spec PyProof.Rows L2
/-! ### {**d, k: v} -/
section
variable {K : PySem.W.Frag} {N : Addr → Prop} {H0 H H1 : Hp} {α0 α α1 : List Addr} {σ : L2.St} {S S1 : Sx} {p : Addr} {o : HO}
theorem SR.chgP (R : SR K N H0 α0 α σ H S) (n : N p) (n0 : H0 p = none) : SR K N H0 α0 α σ (upd H p o) S ∧ Same (lim H (Mx N α S σ)) (lim (upd H p o) (Mx N α S σ)) := by
  have s2 : ∀ b, b ≠ p → upd H p o b = H b := fun b hb => upd_ne hb
  have npa : p ∉ α := fun z => R.na p z n
  have sm : Same (lim H (Mx N α S σ)) (lim (upd H p o) (Mx N α S σ)) := lim_keep (fun b o nm h => by rw [s2 b fun z => nm (.inl (by rw [z]; exact n))]; exact h) fun b m _ => m
  refine ⟨⟨R.pre, R.len, R.nd, fun b nb => ?_, R.na, R.on, R.uniq, fun i x ex => (R.slot i x ex).mono (fun b w hu hx h => ?_) sm (List.prefix_refl _), ⟨R.sto.len, fun m w em => ?_⟩, fun b w nb h => ?_, R.fresh, R.fral, fun b ob w h => by rw [s2 b fun z => by (subst z; rw [n0] at h; cases h)]; exact R.frz b ob w h⟩, sm⟩
  · by_cases c : b = p
    · subst c; rw [upd_same]; exact fun z => nomatch z
    · rw [s2 b c]; exact R.live b nb
  · obtain ⟨es, rfl⟩ := hx
    rw [s2 b fun z => (R.on b ⟨i, es, ex, hu⟩).1 (by rw [z]; exact n)]; exact h
  · obtain ⟨b, y1, y2⟩ := R.sto.at_ m w em
    refine ⟨b, y1, y2.mono (fun x h => ?_) sm (List.prefix_refl _)⟩
    rw [s2 b fun z => npa (by rw [← z]; exact List.mem_of_getElem? y1)]; exact h
  · by_cases c : b = p
    · subst c; rw [n0] at h; cases h
    · rw [s2 b c]; exact R.keep b w nb h
theorem Gr.chgP (g : Gr α H S α1 H1 S1) (np : H p = Option.none) : Gr α H S α1 (upd H1 p o) S1 :=
  ⟨g.pre, g.fr, fun a u n h => by rw [upd_ne fun z => by (subst z; rw [np] at h; cases h)]; exact g.keep a u n h, g.own, fun a ob u h => by rw [upd_ne fun z => by (subst z; rw [np] at h; cases h)]; exact g.frz a ob u h⟩
theorem add_same (np : H p = none) : Same (lim H (Mx N α S σ)) (lim (upd H p o) (Mx (NewP N p) α S σ)) := lim_keep (fun a o _ e => Bg.same_new np _ _ e) fun a m l => by
  rcases m with (m | m) | m
  · exact .inl m
  · subst m; exact absurd np l
  · exact .inr m
end
def eDStar (a k v : DE) : DE := fun S => (a S).bind fun p => (dctA p.2 p.1).bind fun kvs => (k p.2).bind fun kq => (keyD kq.1).bind fun key => (v kq.2).bind fun r => if kvs.length < 1000 then some (.obj r.2.st.length, { r.2 with st := r.2.st ++ [.dct (putD (mergeD [] kvs) key r.1)] }) else none
theorem mergeK_len (more : List (Key × V)) : (mergeK [] more).length ≤ more.length := by
  have := length_mergeK more []
  rw [List.length_nil] at this
  omega
section
variable {K : PySem.W.Frag} {ta tk tv : TE} {fa fk fv : DE}
theorem rf_dstar (ha : RefE K ta fa) (hk : RefE K tk fk) (hv : RefE K tv fv) : RefE K (Gx.tDStar ta tk tv) (eDStar fa fk fv) := by
  intro N H0 α0 α σ H S d S' Q R e q p np
  obtain ⟨⟨x, S1⟩, e1, e⟩ := opt_bind e
  obtain ⟨kvs, e2, e⟩ := opt_bind e
  obtain ⟨⟨kd, S2⟩, e3, e⟩ := opt_bind e
  obtain ⟨key, ek, e⟩ := opt_bind e
  obtain ⟨⟨z, S3⟩, e4, e⟩ := opt_bind e
  dsimp only at e
  split at e
  case isFalse => cases e
  rename_i hl
  cases e
  have n0 := R.base_none np
  refine ha (NewP N p) H0 α0 α σ _ S x S1 _ (R.add np) e1 fun v1 α1 H1 R1 g1 d1 => ?_
  obtain ⟨a, vs, rfl, rd, kr, na⟩ := dctA_ok R1 d1 e2
  have hp1 : H1 p = some (.dK []) := g1.keep p _ (fun z => (R.add np (o := .dK [])).na p z (.inr rfl)) upd_same
  have g1' : Gr α H S α1 H1 S1 := (Gr.of_same (Bg.same_new np)).trans g1
  refine ⟨a, vs, rfl, rd, fun z => na (.inr z), hp1, fun p2 np2 => ?_⟩
  obtain ⟨R2, s2⟩ := R1.chgP (p := p) (o := .dK (mergeK [] vs)) (.inr rfl) n0
  have g2 : Gr α H S α1 (upd H1 p (.dK (mergeK [] vs))) S1 := g1'.chgP np
  have n2 : H p2 = none := g2.none R2 np2
  have n02 := R2.base_none np2
  have R3 := R2.add (o := .dK []) np2
  have s3 : Same (lim (upd H1 p (.dK (mergeK [] vs))) (Mx (NewP N p) α1 S1 σ)) (lim (upd (upd H1 p (.dK (mergeK [] vs))) p2 (.dK [])) (Mx (NewP (NewP N p) p2) α1 S1 σ)) := add_same np2
  have g3 : Gr α H S α1 (upd (upd H1 p (.dK (mergeK [] vs))) p2 (.dK [])) S1 := g2.chgP n2
  have ne : p ≠ p2 := fun z => by rw [← z, upd_same] at np2; cases np2
  refine (show tPairs [(tk, tv)] σ _ _ from ?_)
  refine hk _ H0 α0 α1 σ _ S1 kd S2 _ R3 e3 fun v3 α3 H3 R4 g4 d3 => ?_
  refine hv _ H0 α0 α3 σ H3 S2 z _ _ R4 e4 fun v4 α4 H4 R5 g5 d4 => ?_
  obtain rfl := key_ok d3 ek
  have g45 := g4.trans g5
  have pa : p ∉ α1 := fun z => R1.na p z (.inr rfl)
  have p2a : p2 ∉ α1 := fun z => R3.na p2 z (.inr rfl)
  have hp4 : H4 p = some (.dK (mergeK [] vs)) := g45.keep p _ pa (by rw [upd_ne ne, upd_same])
  have hp5 : H4 p2 = some (.dK []) := g45.keep p2 _ p2a upd_same
  have lv : vs.length < 1000 := by rw [kr.len]; exact hl
  refine ⟨key, v4, mergeK [] vs, rfl, hp4, by have := mergeK_len vs; rw [sizeLine_eq]; omega, hp5, ?_⟩
  obtain ⟨R6, s6⟩ := R5.chgP (p := p2) (o := .dK [(key, v4)]) (.inr rfl) n02
  obtain ⟨R7, s7⟩ := R6.chgP (p := p) (o := .dK (putK (mergeK [] vs) key v4)) (.inl (.inr rfl)) n0
  obtain ⟨R8, s8⟩ := R7.less
  have g8 : Gr α H S α4 (upd (upd H4 p2 (.dK [(key, v4)])) p (.dK (putK (mergeK [] vs) key v4))) S3 := ((g3.trans g45).chgP n2).chgP np
  have sv : Same (lim H4 (Mx (NewP (NewP N p) p2) α4 S3 σ)) _ := (s6.trans s7).trans s8
  have sk := (((s2.trans s3).trans g4.same).trans g5.same).trans sv
  obtain ⟨R9, g9, d9⟩ := R.push (o := .dct (putD (mergeD [] kvs) key z)) R8 g8 np n0 fun α5 pr => ⟨_, upd_same, (((kr.mono sk (g45.pre)).merge .nil).put (d4.mono sv (List.prefix_refl _))).mono (Same.refl _) pr⟩
  exact q _ _ _ R9 g9 d9
end
theorem je_dstar {X : Cx} {d k v : Expr} {fd fk fv : DE} {pos : Pos} (hd : JE X d fd) (hk : JE X k fk) (hv : JE X v fv) : JE X (.Dict [none, some k] [d, v] pos) (eDStar fd fk fv) := JE.of (Gx.pe_dstar hd.pe hk.pe hv.pe) (rf_dstar hd.rf hk.rf hv.rf)
/-- the scope of the comprehension that a def's only return hands out -/
def retScope (st : Stmt) : Scope := match defBody st with
  | [.Return (some (.DictComp _ _ _ sc _)) _] => sc
  | _ => defScope st
end Dl

set_option Elab.async false
set_option linter.all false
set_option maxRecDepth 100000
set_option maxHeartbeats 4000000
namespace Dl
open PySem PySem.Spec PyProof.Rows L2
/-! ### isinstance of several built-in types -/
def eIsiT (a : DE) (ns : List String) : DE := fun S => (a S).bind fun p => (resD 9 p.2.st p.1).bind fun d => d.ty.bind fun t => if ns.all kinds.contains = true then some (.bl (ns.any (isT t)), p.2) else none
theorem kit_tys {K : PySem.W.Frag} {t : String} {d : D} (e : d.ty = some t) : ∀ ns : List String, ns.all kinds.contains = true → PySem.W.kitAny K (.type t) (ns.map Value.type) = some (ns.any (isT t))
  | [], _ => rfl
  | n :: ns, h => by
    rw [List.all_cons, Bool.and_eq_true] at h
    have ih := kit_tys (K := K) e ns h.2
    rw [List.map_cons, List.any_cons]
    refine kitAny_cons (kit_all e h.1) (fun z => ?_) fun z => ?_
    · rw [z, Bool.false_or]; exact ih
    · rw [z, Bool.true_or]
theorem cls_tys : ∀ ns : List String, Paired ClsV (ns.map V.ty) (ns.map Value.type)
  | [] => .nil
  | n :: ns => .cons (.ty n) (cls_tys ns)
theorem rf_isiT {K : PySem.W.Frag} {ta : TE} {fa : DE} {ns : List String} (hl : ns.length ≤ 16777216) (ha : RefE K ta fa) : RefE K (tCB (rIsiT K) (tCons ta (tCons (tTup (taC (ns.map V.ty))) tNil))) (eIsiT fa ns) := by
  intro N H0 α0 α σ H S d S' Q R e q
  obtain ⟨⟨x, S1⟩, e1, e⟩ := opt_bind e
  obtain ⟨y, e2, e⟩ := opt_bind e
  obtain ⟨t, e3, e⟩ := opt_bind e
  split at e
  case isFalse => cases e
  rename_i c
  cases e
  refine ha N H0 α0 α σ H S x _ _ R e1 fun v α1 H1 R1 g1 d1 => ?_
  have dv := resD_ok R1 9 _ _ _ d1 e2
  refine ⟨by rw [List.length_map]; exact hl, fun p np => ?_⟩
  have sm : Same H1 (upd H1 p (.tup (ns.map V.ty))) := Bg.same_new np
  exact ⟨v, p, ns.map V.ty, .type t, ns.map Value.type, _, rfl, upd_same, cls_tys ns, (dv.mono sm (List.prefix_refl _)).tyx e3, kit_tys e3 ns c, q _ α1 _ (R1.same sm) (g1.trans (.of_same sm)) (.bl _)⟩
theorem je_isiT {X : Cx} {a : Expr} {es : List Expr} {f : DE} {ns : List String} {k : Nat} {p pos tpos : Pos} (hg : Gl X "isinstance") (hm : X.mg "isinstance" = none) (he : ClsE X es (ns.map V.ty)) (hl : ns.length ≤ 16777216)
    (ha : JE X a f) (h1 : starEach [a, .Tuple es k tpos] X.env = (false, eval a X.env) :: starEach [.Tuple es k tpos] X.env := by rfl) (h2 : starEach [.Tuple es k tpos] X.env = (false, eval (.Tuple es k tpos) X.env) :: starEach [] X.env := by rfl) (hpl : (backTo pos (starEach [.Tuple es k tpos] X.env)).any (·.1) = false := by rfl) :
    JE X (.Call (.Name "isinstance" p) [a, .Tuple es k tpos] [] pos) (eIsiT f ns) :=
  JE.of (te := tCB (rIsiT X.K) (tCons (teOf X.K f) (tCons (tTup (taC (ns.map V.ty))) tNil))) (pe_callB call_isiT hg hm (by decide +kernel) (pa_cons ha.pe (pa_cons (pe_tup he.pa) pa_nil h2) h1) (by decide) (by decide) h1 hpl) (rf_isiT hl ha.rf)
/-! ### len of whatever has one -/
def gLenV (ds : List D) : Option D := (gLen ds).or (gLenK ds)
theorem cj_lenV {X : Cx} : CJ X (.builtin "len") (fun xs H Q => rLenA X.K xs H Q ∨ ∃ a kvs, xs = [V.ref a] ∧ H a = some (.dK kvs) ∧ Q (.int kvs.length) H) gLenV := by
  refine ⟨fun pins s σ H xs us Q I r h => h.elim (fun z => cj_len.op pins s σ H xs us Q I r z) fun z => cj_lenK.op pins s σ H xs us Q I r z, fun α M xs H Q ds d3 l r e q => ?_⟩
  unfold gLenV at e
  cases e1 : gLen ds with
  | some d =>
    rw [e1] at e
    cases e
    exact .inl (cj_len.os α M xs H Q ds d3 l r e1 q)
  | none =>
    rw [e1, Option.none_or] at e
    exact .inr (cj_lenK (X := X).os α M xs H Q ds d3 l r e q)
end Dl

set_option Elab.async false
set_option linter.all false
set_option maxRecDepth 100000
set_option maxHeartbeats 4000000
namespace Dl
open PySem PySem.Spec PyProof.Rows L2
/-! ### an expression that knows of no thing of the store but the first T, which are tables: it is run apart, and what it leaves in the store is forgotten -/
mutual
def clo (T : Nat) : D → Bool
  | .obj n => decide (n < T)
  | .lst ds => clos T ds
  | .tup ds => clos T ds
  | .dct _ ds => clos T ds
  | _ => true
def clos (T : Nat) : List D → Bool
  | [] => true
  | d :: ds => clo T d && clos T ds
end
def cutE (T : Nat) : Slot → Slot
  | .val d => if clo T d = true then .val d else .un
  | _ => .un
def isT0 : DO → Bool
  | .tbl _ => true
  | _ => false
def eIso (T : Nat) (e : DE) : DE := fun S => if (S.st.take T).all isT0 = true ∧ T ≤ S.st.length then (e ⟨S.env.map (cutE T), S.st.take T⟩).bind fun p => if clo T p.1 = true ∧ (p.2.st.take T).all isT0 = true ∧ T ≤ p.2.st.length then some (p.1, { S with st := p.2.st.take T ++ S.st.drop T }) else none else none
section
variable {K : PySem.W.Frag} {α α2 : List Addr} {H : Hp} {T : Nat}
mutual
theorem clo_dr (h : ∀ n, n < T → α2[n]? = α[n]?) : ∀ (d : D) (v : V), clo T d = true → DR K α H v d → DR K α2 H v d
  | .non, _, _, r => by cases r; exact .non
  | .bl _, _, _, r => by cases r; exact .bl _
  | .int _, _, _, r => by cases r; exact .int _
  | .str _, _, _, r => by cases r; exact .str _
  | .con _, _, _, r => by cases r; exact .con _
  | .lst ds, _, c, r => by cases r with | lst a b => exact .lst a (clos_dr h ds _ c b)
  | .tup ds, _, c, r => by cases r with | tup a b => exact .tup a (clos_dr h ds _ c b)
  | .dct ks ds, _, c, r => by cases r with | dct a e b => exact .dct a e (clos_dr h ds _ c b)
  | .obj n, _, c, r => by cases r with | obj e => exact .obj (by rw [h n (of_decide_eq_true c)]; exact e)
theorem clos_dr (h : ∀ n, n < T → α2[n]? = α[n]?) : ∀ (ds : List D) (vs : List V), clos T ds = true → DRs K α H vs ds → DRs K α2 H vs ds
  | [], _, _, r => by cases r; exact .nil
  | d :: ds, _, c, r => by
    have c : (clo T d && clos T ds) = true := c
    rw [Bool.and_eq_true] at c
    cases r with | cons a b => exact .cons (clo_dr h d _ c.1 a) (clos_dr h ds _ c.2 b)
end
theorem tbl_of {o : DO} (h : isT0 o = true) : ∃ nm, o = .tbl nm := by cases o <;> first | exact ⟨_, rfl⟩ | cases h
variable {te : TE} {fe : DE}
theorem rf_iso (he : RefE K te fe) : RefE K te (eIso T fe) := by
  intro N H0 α0 α σ H S d S' Q R e q
  unfold eIso at e
  split at e
  case isFalse => cases e
  rename_i c0
  obtain ⟨ct, cl⟩ := c0
  obtain ⟨⟨r, S1⟩, e1, e⟩ := opt_bind e
  dsimp only at e
  split at e
  case isFalse => cases e
  rename_i c1
  obtain ⟨cr, ct2, cl2⟩ := c1
  cases e
  have al : S.st.length = α.length := R.sto.len
  have at1 : ∀ n, n < T → (α.take T)[n]? = α[n]? := fun n hn => List.getElem?_take_of_lt hn
  have mem1 : ∀ a, a ∈ α.take T → a ∈ α := fun a h => List.mem_of_mem_take h
  have apart : ∀ a, a ∈ α.take T → a ∉ α.drop T := fun a h1 h2 => by
    have nd := R.nd
    rw [← List.take_append_drop T α] at nd
    exact (List.nodup_append.mp nd).2.2 a h1 a h2 rfl
  have parts : ∀ a, a ∈ α → a ∈ α.take T ∨ a ∈ α.drop T := fun a h => by
    rw [← List.take_append_drop T α] at h
    exact List.mem_append.mp h
  let N1 : Addr → Prop := fun a => N a ∨ a ∈ α.drop T ∨ Owned S σ a
  let S0 : Sx := ⟨S.env.map (cutE T), S.st.take T⟩
  have noown : ∀ (i : Nat) (ds : List D), S0.env[i]? ≠ some (.own ds) := fun i ds h => by
    have h : (S.env.map (cutE T))[i]? = some (.own ds) := h
    rw [List.getElem?_map] at h
    cases e : S.env[i]? with
    | none => rw [e] at h; cases h
    | some x =>
      rw [e] at h
      have h : cutE T x = .own ds := Option.some.inj h
      unfold cutE at h
      split at h
      · split at h <;> cases h
      · cases h
  have noO : ∀ a, ¬ Owned S0 σ a := fun a ⟨i, ds, h, _⟩ => noown i ds h
  have mx : Mx N1 (α.take T) S0 σ = Mx N α S σ := funext fun a => propext ⟨fun m => by
      rcases m with (m | m | m) | m | m
      · exact .inl m
      · exact .inr (.inl (List.mem_of_mem_drop m))
      · exact .inr (.inr m)
      · exact .inr (.inl (mem1 a m))
      · exact absurd m (noO a), fun m => by
      rcases m with m | m | m
      · exact .inl (.inl m)
      · exact (parts a m).elim (fun z => .inr (.inl z)) fun z => .inl (.inr (.inl z))
      · exact .inl (.inr (.inr m))⟩
  have R0 : SR K N1 H (α.take T) (α.take T) σ H S0 := by
    refine ⟨List.prefix_refl _, by show (S.env.map (cutE T)).length = _; rw [List.length_map]; exact R.len, R.nd.sublist (List.take_sublist T α), fun a m => R.mlive a ?_, fun a h m => ?_, fun a h => absurd h (noO a), fun i j ds es a h _ _ _ => absurd h (noown i ds), fun i x h => ?_, ⟨?_, fun n o h => ?_⟩, fun _ _ _ h => h, fun a h => absurd h (noO a), fun a h n => absurd h n, fun _ _ _ h => h⟩
    · rcases m with m | m | m
      · exact .inl m
      · exact .inr (.inl (List.mem_of_mem_drop m))
      · exact .inr (.inr m)
    · rcases m with m | m | m
      · exact R.na a (mem1 a h) m
      · exact apart a h m
      · exact (R.on a m).2 (mem1 a h)
    · rw [mx]
      have h : (S.env.map (cutE T))[i]? = some x := h
      rw [List.getElem?_map] at h
      cases e : S.env[i]? with
      | none => rw [e] at h; cases h
      | some y =>
        rw [e] at h
        obtain rfl : cutE T y = x := Option.some.inj h
        have sl := R.slot i y e
        unfold cutE
        split
        · split
          · rename_i c
            obtain ⟨v, q1, q2⟩ := sl
            exact ⟨v, q1, clo_dr at1 _ _ c q2⟩
          · exact True.intro
        · exact True.intro
    · show (S.st.take T).length = _
      rw [List.length_take, List.length_take, al]
    · have h : (S.st.take T)[n]? = some o := h
      have hn : n < T := by
        have := (List.getElem?_eq_some_iff.mp h).1
        rw [List.length_take] at this
        omega
      obtain ⟨nm, rfl⟩ := tbl_of (List.all_eq_true.mp ct o (List.mem_of_getElem? h))
      rw [List.getElem?_take_of_lt hn] at h
      obtain ⟨a, h1, h2⟩ := R.sto.at_ n _ h
      exact ⟨a, by rw [at1 n hn]; exact h1, h2⟩
  refine he N1 H (α.take T) (α.take T) σ H S0 _ S1 _ R0 e1 fun v α' H' R1 g1 dr => ?_
  have out : ∀ a, (a ∉ α ∨ a ∈ α.drop T) → a ∉ α.take T := fun a h z => h.elim (fun n => n (mem1 a z)) fun m => apart a z m
  have keep : ∀ a o, (a ∉ α ∨ a ∈ α.drop T) → H a = some o → H' a = some o := fun a o h e => g1.keep a o (out a h) e
  have live : ∀ a, N a → a ∉ α := fun a n z => R.na a z n
  have pre' : ∀ n, n < T → α[n]? = α'[n]? := fun n hn => by
    obtain ⟨l, hl⟩ := g1.pre
    have tl : (α.take T).length = T := by rw [List.length_take, ← al]; omega
    rw [← hl, List.getElem?_append_left (by omega), at1 n hn]
  let Sf : Sx := { S with st := S1.st.take T ++ S.st.drop T }
  have sm : Same (lim H (Mx N α S σ)) (lim H' (Mx N α Sf σ)) := lim_keep (fun a o nm e => keep a o (.inl fun z => nm (.inr (.inl z))) e) fun a m _ => m
  have Rf : SR K N H0 α0 α σ H' Sf := by
    refine ⟨R.pre, R.len, R.nd, fun a n => ?_, R.na, R.on, R.uniq, fun i x h => (R.slot i x h).mono (fun a u h1 h2 h3 => ?_) sm (List.prefix_refl _), ⟨?_, fun n o h => ?_⟩, fun a o n h => ?_, R.fresh, R.fral, fun a o u h => g1.frz a o u (R.frz a o u h)⟩
    · cases e : H a with
      | none => exact absurd e (R.live a n)
      | some o => rw [keep a o (.inl (live a n)) e]; exact fun z => nomatch z
    · obtain ⟨es, rfl⟩ := h2
      exact keep a u (.inl (R.on a ⟨i, es, h, h1⟩).2) h3
    · show (S1.st.take T ++ S.st.drop T).length = _
      rw [List.length_append, List.length_take, List.length_drop, ← al]
      omega
    · have h : (S1.st.take T ++ S.st.drop T)[n]? = some o := h
      have tl : (S1.st.take T).length = T := by rw [List.length_take]; omega
      by_cases hn : n < T
      · rw [List.getElem?_append_left (by omega)] at h
        obtain ⟨nm, rfl⟩ := tbl_of (List.all_eq_true.mp ct2 o (List.mem_of_getElem? h))
        rw [List.getElem?_take_of_lt hn] at h
        obtain ⟨a, h1, h2⟩ := R1.sto.at_ n _ h
        exact ⟨a, by rw [pre' n hn]; exact h1, h2⟩
      · rw [List.getElem?_append_right (by omega), tl, List.getElem?_drop] at h
        rw [show T + (n - T) = n from by omega] at h
        obtain ⟨a, h1, h2⟩ := R.sto.at_ n _ h
        have ad : a ∈ α.drop T := by
          refine List.mem_of_getElem? (i := n - T) ?_
          rw [List.getElem?_drop, show T + (n - T) = n from by omega]
          exact h1
        exact ⟨a, h1, h2.mono (fun u z => keep a u (.inr ad) z) sm (List.prefix_refl _)⟩
    · have h1 := R.keep a o n h
      by_cases z : a ∈ α
      · rw [R.fral a z n] at h; cases h
      · exact keep a o (.inl z) h1
  refine q v α H' Rf ⟨List.prefix_refl _, fun a h n => absurd h n, fun a o n h => keep a o (.inl n) h, fun _ _ h => h, g1.frz⟩ ?_
  refine (clo_dr pre' _ _ cr dr).mono (lim_keep (fun _ _ _ h => h) fun a m _ => ?_) (List.prefix_refl _)
  rcases m with m | m | m
  · exact .inl (.inl m)
  · rcases parts a m with z | z
    · exact .inr (.inl (List.IsPrefix.subset g1.pre z))
    · exact .inl (.inr (.inl z))
  · exact .inl (.inr (.inr m))
end
theorem je_iso {X : Cx} {e : Expr} {f : DE} (T : Nat) (h : JE X e f) : JE X e (eIso T f) := JE.of h.pe (rf_iso h.rf)
theorem x_iso {T : Nat} {e : DE} {S S1 : Sx} {d : D} (h1 : (S.st.take T).all isT0 = true) (h2 : T ≤ S.st.length) (h : e ⟨S.env.map (cutE T), S.st.take T⟩ = some (d, S1)) (h3 : clo T d = true) (h4 : S1.st.take T = S.st.take T) (h5 : T ≤ S1.st.length) : eIso T e S = some (d, S) := by
  unfold eIso
  rw [if_pos ⟨h1, h2⟩, h, Option.bind_some]
  dsimp only
  rw [h4, if_pos ⟨h3, h1, h5⟩, List.take_append_drop]
end Dl

set_option Elab.async false
set_option linter.all false
set_option maxRecDepth 100000
set_option maxHeartbeats 800000
namespace Law
open PySem PySem.Spec PyProof.Rows L2 Dl
def topS (i : Nat) : Stmt := PySem.Challenge.pw_boundgate_k32_faults_one_by_one.main.body.getD i (.Pass ⟨0, 0, 0, 0⟩)
abbrev s_greatest : Stmt := topS 12
theorem sc_greatest : FnScope ["wide"] ["wide"] (defScope s_greatest) := ⟨rfl, rfl, rfl, by decide +kernel, rfl, by decide +kernel, by decide +kernel⟩
abbrev s_is_whole : Stmt := topS 13
theorem sc_is_whole : FnScope ["thing"] ["thing"] (defScope s_is_whole) := ⟨rfl, rfl, rfl, by decide +kernel, rfl, by decide +kernel, by decide +kernel⟩
abbrev s_is_worth : Stmt := topS 14
theorem sc_is_worth : FnScope ["thing", "wide"] ["thing", "wide"] (defScope s_is_worth) := ⟨rfl, rfl, rfl, by decide +kernel, rfl, by decide +kernel, by decide +kernel⟩
abbrev s_is_among : Stmt := topS 15
theorem sc_is_among : FnScope ["word", "words"] ["word", "words"] (defScope s_is_among) := ⟨rfl, rfl, rfl, by decide +kernel, rfl, by decide +kernel, by decide +kernel⟩
abbrev s_signed : Stmt := topS 16
theorem sc_signed : FnScope ["worth", "wide"] ["worth", "wide"] (defScope s_signed) := ⟨rfl, rfl, rfl, by decide +kernel, rfl, by decide +kernel, by decide +kernel⟩
abbrev s_moved_left : Stmt := topS 17
theorem sc_moved_left : FnScope ["worth", "places", "wide"] ["worth", "places", "wide"] (defScope s_moved_left) := ⟨rfl, rfl, rfl, by decide +kernel, rfl, by decide +kernel, by decide +kernel⟩
abbrev s_moved_right : Stmt := topS 18
theorem sc_moved_right : FnScope ["worth", "places", "wide"] ["worth", "places", "wide"] (defScope s_moved_right) := ⟨rfl, rfl, rfl, by decide +kernel, rfl, by decide +kernel, by decide +kernel⟩
abbrev s_done : Stmt := topS 19
theorem sc_done : FnScope ["word", "one", "other", "wide"] ["word", "one", "other", "wide"] (defScope s_done) := ⟨rfl, rfl, rfl, by decide +kernel, rfl, by decide +kernel, by decide +kernel⟩
abbrev s_asked : Stmt := topS 20
theorem sc_asked : FnScope ["word", "one", "other", "wide"] ["word", "one", "other", "wide"] (defScope s_asked) := ⟨rfl, rfl, rfl, by decide +kernel, rfl, by decide +kernel, by decide +kernel⟩
abbrev s_contrary : Stmt := topS 21
theorem sc_contrary : FnScope ["word", "first", "second"] ["word"] (defScope s_contrary) := ⟨rfl, rfl, rfl, by decide +kernel, rfl, by decide +kernel, by decide +kernel⟩
abbrev s_call_of : Stmt := topS 24
theorem sc_call_of : FnScope ["contract", "name", "called", "takes", "gives"] ["contract", "name"] (defScope s_call_of) := ⟨rfl, rfl, rfl, by decide +kernel, rfl, by decide +kernel, by decide +kernel⟩
abbrev s_are_worths : Stmt := topS 27
theorem sc_are_worths : FnScope ["things", "thing"] ["things"] (defScope s_are_worths) := ⟨rfl, rfl, rfl, by decide +kernel, rfl, by decide +kernel, by decide +kernel⟩
abbrev s_is_room : Stmt := topS 28
theorem sc_is_room : FnScope ["thing", "size"] ["thing", "size"] (defScope s_is_room) := ⟨rfl, rfl, rfl, by decide +kernel, rfl, by decide +kernel, by decide +kernel⟩
abbrev s_are_rooms : Stmt := topS 29
theorem sc_are_rooms : FnScope ["thing", "size", "room"] ["thing", "size"] (defScope s_are_rooms) := ⟨rfl, rfl, rfl, by decide +kernel, rfl, by decide +kernel, by decide +kernel⟩
abbrev s_are_shelves : Stmt := topS 30
theorem sc_are_shelves : FnScope ["thing", "contract", "sizes", "name"] ["thing", "contract"] (defScope s_are_shelves) := ⟨rfl, rfl, rfl, by decide +kernel, rfl, by decide +kernel, by decide +kernel⟩
abbrev s_look_at_inputs : Stmt := topS 31
theorem sc_look_at_inputs : FnScope ["contract", "given", "shelves", "answers", "answer"] ["contract", "given", "shelves", "answers"] (defScope s_look_at_inputs) := ⟨rfl, rfl, rfl, by decide +kernel, rfl, by decide +kernel, by decide +kernel⟩
abbrev s_copied_shelves : Stmt := topS 32
theorem sc_copied_shelves : FnScope ["shelves", "name", "rooms", "key", "room"] ["shelves"] (defScope s_copied_shelves) := ⟨rfl, rfl, rfl, by decide +kernel, rfl, by decide +kernel, by decide +kernel⟩
abbrev s_bare_shelves : Stmt := topS 33
theorem sc_bare_shelves : FnScope ["contract", "name", "size"] ["contract"] (defScope s_bare_shelves) := ⟨rfl, rfl, rfl, by decide +kernel, rfl, by decide +kernel, by decide +kernel⟩
abbrev s_moment_of : Stmt := topS 37
theorem sc_moment_of : FnScope ["machine"] ["machine"] (defScope s_moment_of) := ⟨rfl, rfl, rfl, by decide +kernel, rfl, by decide +kernel, by decide +kernel⟩
abbrev s_told_end : Stmt := topS 39
theorem sc_told_end : FnScope ["machine", "word", "what"] ["machine"] (defScope s_told_end) := ⟨rfl, rfl, rfl, by decide +kernel, rfl, by decide +kernel, by decide +kernel⟩
abbrev s_by_value : Stmt := topS 40
theorem sc_by_value : FnScope ["machine", "by"] ["machine", "by"] (defScope s_by_value) := ⟨rfl, rfl, rfl, by decide +kernel, rfl, by decide +kernel, by decide +kernel⟩
abbrev s_put_box : Stmt := topS 41
theorem sc_put_box : FnScope ["machine", "box", "value", "ahead"] ["machine", "box", "value"] (defScope s_put_box) := ⟨rfl, rfl, rfl, by decide +kernel, rfl, by decide +kernel, by decide +kernel⟩
abbrev s_moved : Stmt := topS 42
theorem sc_moved : FnScope ["pointer", "many"] ["pointer", "many"] (defScope s_moved) := ⟨rfl, rfl, rfl, by decide +kernel, rfl, by decide +kernel, by decide +kernel⟩
abbrev s_room_of : Stmt := topS 43
theorem sc_room_of : FnScope ["machine", "ask", "shelf", "key"] ["machine", "ask"] (defScope s_room_of) := ⟨rfl, rfl, rfl, by decide +kernel, rfl, by decide +kernel, by decide +kernel⟩
abbrev s_size_of : Stmt := topS 44
theorem sc_size_of : FnScope ["machine", "pointer"] ["machine", "pointer"] (defScope s_size_of) := ⟨rfl, rfl, rfl, by decide +kernel, rfl, by decide +kernel, by decide +kernel⟩
abbrev s_cell_value : Stmt := topS 45
theorem sc_cell_value : FnScope ["machine", "pointer", "place"] ["machine", "pointer"] (defScope s_cell_value) := ⟨rfl, rfl, rfl, by decide +kernel, rfl, by decide +kernel, by decide +kernel⟩
abbrev s_put_cell : Stmt := topS 46
theorem sc_put_cell : FnScope ["machine", "pointer", "value", "place", "ahead", "room"] ["machine", "pointer", "value"] (defScope s_put_cell) := ⟨rfl, rfl, rfl, by decide +kernel, rfl, by decide +kernel, by decide +kernel⟩
abbrev s_do_move : Stmt := topS 49
theorem sc_do_move : FnScope ["machine", "box", "other", "value"] ["machine", "box", "other"] (defScope s_do_move) := ⟨rfl, rfl, rfl, by decide +kernel, rfl, by decide +kernel, by decide +kernel⟩
abbrev s_deed_value : Stmt := topS 50
theorem sc_deed_value : FnScope ["word", "one", "other"] ["word", "one", "other"] (defScope s_deed_value) := ⟨rfl, rfl, rfl, by decide +kernel, rfl, by decide +kernel, by decide +kernel⟩
abbrev s_do_deed : Stmt := topS 51
theorem sc_do_deed : FnScope ["machine", "word", "box", "by", "one", "other", "value"] ["machine", "word", "box", "by"] (defScope s_do_deed) := ⟨rfl, rfl, rfl, by decide +kernel, rfl, by decide +kernel, by decide +kernel⟩
abbrev s_ask_answer : Stmt := topS 52
theorem sc_ask_answer : FnScope ["word", "one", "other"] ["word", "one", "other"] (defScope s_ask_answer) := ⟨rfl, rfl, rfl, by decide +kernel, rfl, by decide +kernel, by decide +kernel⟩
abbrev s_do_jump : Stmt := topS 53
theorem sc_do_jump : FnScope ["machine", "word", "box", "by", "to", "one", "other", "answer"] ["machine", "word", "box", "by", "to"] (defScope s_do_jump) := ⟨rfl, rfl, rfl, by decide +kernel, rfl, by decide +kernel, by decide +kernel⟩
abbrev s_do_load : Stmt := topS 54
theorem sc_do_load : FnScope ["machine", "box", "other", "off", "pointer", "cell", "value"] ["machine", "box", "other", "off"] (defScope s_do_load) := ⟨rfl, rfl, rfl, by decide +kernel, rfl, by decide +kernel, by decide +kernel⟩
abbrev s_do_store : Stmt := topS 55
theorem sc_do_store : FnScope ["machine", "box", "off", "by", "pointer", "value", "cell"] ["machine", "box", "off", "by"] (defScope s_do_store) := ⟨rfl, rfl, rfl, by decide +kernel, rfl, by decide +kernel, by decide +kernel⟩
abbrev s_has_numbers : Stmt := topS 56
theorem sc_has_numbers : FnScope ["machine", "value", "many", "cells", "step", "cell"] ["machine", "value", "many"] (defScope s_has_numbers) := ⟨rfl, rfl, rfl, by decide +kernel, rfl, by decide +kernel, by decide +kernel⟩
abbrev s_is_good_take : Stmt := topS 57
theorem sc_is_good_take : FnScope ["machine", "take", "value", "least", "most", "many"] ["machine", "take", "value"] (defScope s_is_good_take) := ⟨rfl, rfl, rfl, by decide +kernel, rfl, by decide +kernel, by decide +kernel⟩
abbrev s_next_answer : Stmt := topS 58
theorem sc_next_answer : FnScope ["machine"] ["machine"] (defScope s_next_answer) := ⟨rfl, rfl, rfl, by decide +kernel, rfl, by decide +kernel, by decide +kernel⟩
abbrev s_lent_value : Stmt := topS 59
theorem sc_lent_value : FnScope ["machine", "shelf", "key", "ask"] ["machine", "shelf", "key"] (defScope s_lent_value) := ⟨rfl, rfl, rfl, by decide +kernel, rfl, by decide +kernel, by decide +kernel⟩
abbrev s_forget_asking : Stmt := topS 60
theorem sc_forget_asking : FnScope ["machine", "ask", "lent", "other"] ["machine", "ask"] (defScope s_forget_asking) := ⟨rfl, rfl, rfl, by decide +kernel, rfl, by decide +kernel, by decide +kernel⟩
abbrev s_without_asking : Stmt := topS 61
theorem sc_without_asking : FnScope ["values", "ask", "value"] ["values", "ask"] (defScope s_without_asking) := ⟨rfl, rfl, rfl, by decide +kernel, rfl, by decide +kernel, by decide +kernel⟩
abbrev s_given_value : Stmt := topS 62
theorem sc_given_value : FnScope ["machine", "gives", "least", "most", "shelf"] ["machine", "gives"] (defScope s_given_value) := ⟨rfl, rfl, rfl, by decide +kernel, rfl, by decide +kernel, by decide +kernel⟩
abbrev s_do_call : Stmt := topS 63
theorem sc_do_call : FnScope ["machine", "name", "takes", "gives", "place", "take", "value"] ["machine", "name"] (defScope s_do_call) := ⟨rfl, rfl, rfl, by decide +kernel, rfl, by decide +kernel, by decide +kernel⟩
abbrev s_do_end : Stmt := topS 64
theorem sc_do_end : FnScope ["machine", "value"] ["machine"] (defScope s_do_end) := ⟨rfl, rfl, rfl, by decide +kernel, rfl, by decide +kernel, by decide +kernel⟩
abbrev s_do_row : Stmt := topS 65
theorem sc_do_row : FnScope ["machine", "row", "box", "worth", "other", "word", "by", "to", "off", "name"] ["machine", "row"] (defScope s_do_row) := ⟨rfl, rfl, rfl, by decide +kernel, rfl, by decide +kernel, by decide +kernel⟩
abbrev s_do_step : Stmt := topS 66
theorem sc_do_step : FnScope ["machine", "row", "fault"] ["machine"] (defScope s_do_step) := ⟨rfl, rfl, rfl, by decide +kernel, rfl, by decide +kernel, by decide +kernel⟩
abbrev s_run : Stmt := topS 69
theorem sc_run : FnScope ["program", "contract", "given", "shelves", "answers", "most", "machine"] ["program", "contract", "given", "shelves", "answers", "most"] (defScope s_run) := ⟨rfl, rfl, rfl, by decide +kernel, rfl, by decide +kernel, by decide +kernel⟩
abbrev s_l_pool : Stmt := topS 72
theorem sc_l_pool : FnScope ["_law_script", "_law_k", "_law_cell", "_law_great", "_law_mixed"] ["_law_script", "_law_k"] (defScope s_l_pool) := ⟨rfl, rfl, rfl, by decide +kernel, rfl, by decide +kernel, by decide +kernel⟩
abbrev s_l_take : Stmt := topS 73
theorem sc_l_take : FnScope ["_law_pool_here", "_law_many", "_law_found"] ["_law_pool_here", "_law_many"] (defScope s_l_take) := ⟨rfl, rfl, rfl, by decide +kernel, rfl, by decide +kernel, by decide +kernel⟩
abbrev s_l_contract : Stmt := topS 74
theorem sc_l_contract : FnScope ["_law_size", "_law_number", "_law_calls_here"] ["_law_size"] (defScope s_l_contract) := ⟨rfl, rfl, rfl, by decide +kernel, rfl, by decide +kernel, by decide +kernel⟩
abbrev s_l_plain : Stmt := topS 75
theorem sc_l_plain : FnScope ["_law_end", "_law_some", "_law_more"] [] (defScope s_l_plain) := ⟨rfl, rfl, rfl, by decide +kernel, rfl, by decide +kernel, by decide +kernel⟩
abbrev s_l_calls : Stmt := topS 76
theorem sc_l_calls : FnScope ["_law_end", "_law_one", "_law_some"] [] (defScope s_l_calls) := ⟨rfl, rfl, rfl, by decide +kernel, rfl, by decide +kernel, by decide +kernel⟩
abbrev s_l_right : Stmt := topS 77
theorem sc_l_right : FnScope ["_law_rows", "_law_word", "_law_steps", "_law_ahead", "_law_rooms", "_law_later_rows", "_law_row", "_law_heard", "_law_what", "_law_done_many", "_law_runner", "_law_turn"] ["_law_rows", "_law_word", "_law_steps", "_law_ahead"] (defScope s_l_right) := ⟨rfl, rfl, rfl, by decide +kernel, rfl, by decide +kernel, by decide +kernel⟩
abbrev s_Machine___init__ : Stmt := match topS 36 with | .ClassDef _ _ _ b _ _ _ _ _ _ _ => b.getD 0 (.Pass ⟨0, 0, 0, 0⟩) | _ => .Pass ⟨0, 0, 0, 0⟩
theorem sc_Machine___init__ : FnScope ["self", "program", "contract", "given", "shelves", "answers", "start"] ["self", "program", "contract", "given", "shelves", "answers"] (defScope s_Machine___init__) := ⟨rfl, rfl, rfl, by decide +kernel, rfl, by decide +kernel, by decide +kernel⟩
abbrev s_Runner___init__ : Stmt := match topS 70 with | .ClassDef _ _ _ b _ _ _ _ _ _ _ => b.getD 0 (.Pass ⟨0, 0, 0, 0⟩) | _ => .Pass ⟨0, 0, 0, 0⟩
theorem sc_Runner___init__ : FnScope ["self", "program", "contract", "given", "shelves", "answers"] ["self", "program", "contract", "given", "shelves", "answers"] (defScope s_Runner___init__) := ⟨rfl, rfl, rfl, by decide +kernel, rfl, by decide +kernel, by decide +kernel⟩
abbrev s_Runner_step : Stmt := match topS 70 with | .ClassDef _ _ _ b _ _ _ _ _ _ _ => b.getD 1 (.Pass ⟨0, 0, 0, 0⟩) | _ => .Pass ⟨0, 0, 0, 0⟩
theorem sc_Runner_step : FnScope ["self", "ahead"] ["self"] (defScope s_Runner_step) := ⟨rfl, rfl, rfl, by decide +kernel, rfl, by decide +kernel, by decide +kernel⟩
abbrev s_Runner_told : Stmt := match topS 70 with | .ClassDef _ _ _ b _ _ _ _ _ _ _ => b.getD 8 (.Pass ⟨0, 0, 0, 0⟩) | _ => .Pass ⟨0, 0, 0, 0⟩
theorem sc_Runner_told : FnScope ["self"] ["self"] (defScope s_Runner_told) := ⟨rfl, rfl, rfl, by decide +kernel, rfl, by decide +kernel, by decide +kernel⟩
abbrev s_law : Stmt := topS 78
theorem sc_law : FnScope ["_law_script", "_law_k", "_law_pool_here", "_law_ahead", "_law_rows", "_law_some", "_law_word", "_law_steps", "_law_both", "_law_found", "_law_many", "_law_at"] ["_law_script"] (defScope s_law) := ⟨rfl, rfl, rfl, by decide +kernel, rfl, by decide +kernel, by decide +kernel⟩
abbrev si_NoCall : Stmt := match topS 6 with | .ClassDef _ _ _ b _ _ _ _ _ _ _ => b.getD 0 (.Pass ⟨0, 0, 0, 0⟩) | _ => .Pass ⟨0, 0, 0, 0⟩
theorem sci_NoCall : FnScope ["self", "name"] ["self", "name"] (defScope si_NoCall) := ⟨rfl, rfl, rfl, by decide +kernel, rfl, by decide +kernel, by decide +kernel⟩
abbrev si_NoInput : Stmt := match topS 5 with | .ClassDef _ _ _ b _ _ _ _ _ _ _ => b.getD 0 (.Pass ⟨0, 0, 0, 0⟩) | _ => .Pass ⟨0, 0, 0, 0⟩
def fs_answered : List Str := ["Machine", "Runner"]
def fs_answers : List Str := ["Machine", "Runner"]
def fs_askings : List Str := ["Machine", "Runner"]
def fs_at : List Str := ["Machine", "Runner"]
def fs_box_values : List Str := ["Machine", "Runner"]
def fs_cells : List Str := ["Machine", "Runner"]
def fs_ending : List Str := ["Machine", "Runner"]
def fs_history : List Str := ["Machine", "Runner"]
def fs_lent_rooms : List Str := ["Machine", "Runner"]
def fs_machine : List Str := ["Machine", "Runner"]
def fs_pile_values : List Str := ["Machine", "Runner"]
def fs_rooms : List Str := ["Machine", "Runner"]
def fs_rows : List Str := ["Machine", "Runner"]
def fs_rows_done : List Str := ["Machine", "Runner"]
def fs_terms : List Str := ["Machine", "Runner"]
def fs_written : List Str := ["Machine", "Runner"]
structure Txt (w : World) (K : PySem.W.Frag) (mg : Str → Option Value) where
  a_greatest : Addr
  fd_greatest : FuncData
  F_greatest : Fun K "greatest" "greatest" s_greatest a_greatest fd_greatest
  g_greatest : mg "greatest" = some (.ref a_greatest)
  b_greatest : Binds K fd_greatest ["wide"] []
  a_is_whole : Addr
  fd_is_whole : FuncData
  F_is_whole : Fun K "is_whole" "is_whole" s_is_whole a_is_whole fd_is_whole
  g_is_whole : mg "is_whole" = some (.ref a_is_whole)
  b_is_whole : Binds K fd_is_whole ["thing"] []
  a_is_worth : Addr
  fd_is_worth : FuncData
  F_is_worth : Fun K "is_worth" "is_worth" s_is_worth a_is_worth fd_is_worth
  g_is_worth : mg "is_worth" = some (.ref a_is_worth)
  d_is_worth : List Value
  v_is_worth : Vals [.int 16] d_is_worth
  b_is_worth : Binds K fd_is_worth ["thing", "wide"] d_is_worth
  k_is_worth : KBn K fd_is_worth ["thing", "wide"] 1 ["wide"] (fun us ws => us ++ ws) (fun vs zs => vs ++ zs)
  a_is_among : Addr
  fd_is_among : FuncData
  F_is_among : Fun K "is_among" "is_among" s_is_among a_is_among fd_is_among
  g_is_among : mg "is_among" = some (.ref a_is_among)
  b_is_among : Binds K fd_is_among ["word", "words"] []
  a_signed : Addr
  fd_signed : FuncData
  F_signed : Fun K "signed" "signed" s_signed a_signed fd_signed
  g_signed : mg "signed" = some (.ref a_signed)
  d_signed : List Value
  v_signed : Vals [.int 16] d_signed
  b_signed : Binds K fd_signed ["worth", "wide"] d_signed
  k_signed : KBn K fd_signed ["worth", "wide"] 1 ["wide"] (fun us ws => us ++ ws) (fun vs zs => vs ++ zs)
  a_moved_left : Addr
  fd_moved_left : FuncData
  F_moved_left : Fun K "moved_left" "moved_left" s_moved_left a_moved_left fd_moved_left
  g_moved_left : mg "moved_left" = some (.ref a_moved_left)
  b_moved_left : Binds K fd_moved_left ["worth", "places", "wide"] []
  a_moved_right : Addr
  fd_moved_right : FuncData
  F_moved_right : Fun K "moved_right" "moved_right" s_moved_right a_moved_right fd_moved_right
  g_moved_right : mg "moved_right" = some (.ref a_moved_right)
  b_moved_right : Binds K fd_moved_right ["worth", "places", "wide"] []
  a_done : Addr
  fd_done : FuncData
  F_done : Fun K "done" "done" s_done a_done fd_done
  g_done : mg "done" = some (.ref a_done)
  d_done : List Value
  v_done : Vals [.int 16] d_done
  b_done : Binds K fd_done ["word", "one", "other", "wide"] d_done
  k_done : KBn K fd_done ["word", "one", "other", "wide"] 3 ["wide"] (fun us ws => us ++ ws) (fun vs zs => vs ++ zs)
  a_asked : Addr
  fd_asked : FuncData
  F_asked : Fun K "asked" "asked" s_asked a_asked fd_asked
  g_asked : mg "asked" = some (.ref a_asked)
  d_asked : List Value
  v_asked : Vals [.int 16] d_asked
  b_asked : Binds K fd_asked ["word", "one", "other", "wide"] d_asked
  k_asked : KBn K fd_asked ["word", "one", "other", "wide"] 3 ["wide"] (fun us ws => us ++ ws) (fun vs zs => vs ++ zs)
  a_contrary : Addr
  fd_contrary : FuncData
  F_contrary : Fun K "contrary" "contrary" s_contrary a_contrary fd_contrary
  g_contrary : mg "contrary" = some (.ref a_contrary)
  b_contrary : Binds K fd_contrary ["word"] []
  a_call_of : Addr
  fd_call_of : FuncData
  F_call_of : Fun K "call_of" "call_of" s_call_of a_call_of fd_call_of
  g_call_of : mg "call_of" = some (.ref a_call_of)
  b_call_of : Binds K fd_call_of ["contract", "name"] []
  a_are_worths : Addr
  fd_are_worths : FuncData
  F_are_worths : Fun K "are_worths" "are_worths" s_are_worths a_are_worths fd_are_worths
  g_are_worths : mg "are_worths" = some (.ref a_are_worths)
  c_are_worths : cdA K "are_worths" = fd_are_worths.code
  b_are_worths : Binds K fd_are_worths ["things"] []
  a_is_room : Addr
  fd_is_room : FuncData
  F_is_room : Fun K "is_room" "is_room" s_is_room a_is_room fd_is_room
  g_is_room : mg "is_room" = some (.ref a_is_room)
  b_is_room : Binds K fd_is_room ["thing", "size"] []
  a_are_rooms : Addr
  fd_are_rooms : FuncData
  F_are_rooms : Fun K "are_rooms" "are_rooms" s_are_rooms a_are_rooms fd_are_rooms
  g_are_rooms : mg "are_rooms" = some (.ref a_are_rooms)
  c_are_rooms : cdA K "are_rooms" = fd_are_rooms.code
  b_are_rooms : Binds K fd_are_rooms ["thing", "size"] []
  a_are_shelves : Addr
  fd_are_shelves : FuncData
  F_are_shelves : Fun K "are_shelves" "are_shelves" s_are_shelves a_are_shelves fd_are_shelves
  g_are_shelves : mg "are_shelves" = some (.ref a_are_shelves)
  c_are_shelves : cdA K "are_shelves" = fd_are_shelves.code
  b_are_shelves : Binds K fd_are_shelves ["thing", "contract"] []
  a_look_at_inputs : Addr
  fd_look_at_inputs : FuncData
  F_look_at_inputs : Fun K "look_at_inputs" "look_at_inputs" s_look_at_inputs a_look_at_inputs fd_look_at_inputs
  g_look_at_inputs : mg "look_at_inputs" = some (.ref a_look_at_inputs)
  c_look_at_inputs : cdA K "look_at_inputs" = fd_look_at_inputs.code
  b_look_at_inputs : Binds K fd_look_at_inputs ["contract", "given", "shelves", "answers"] []
  a_copied_shelves : Addr
  fd_copied_shelves : FuncData
  F_copied_shelves : Fun K "copied_shelves" "copied_shelves" s_copied_shelves a_copied_shelves fd_copied_shelves
  g_copied_shelves : mg "copied_shelves" = some (.ref a_copied_shelves)
  b_copied_shelves : Binds K fd_copied_shelves ["shelves"] []
  a_bare_shelves : Addr
  fd_bare_shelves : FuncData
  F_bare_shelves : Fun K "bare_shelves" "bare_shelves" s_bare_shelves a_bare_shelves fd_bare_shelves
  g_bare_shelves : mg "bare_shelves" = some (.ref a_bare_shelves)
  b_bare_shelves : Binds K fd_bare_shelves ["contract"] []
  a_moment_of : Addr
  fd_moment_of : FuncData
  F_moment_of : Fun K "moment_of" "moment_of" s_moment_of a_moment_of fd_moment_of
  g_moment_of : mg "moment_of" = some (.ref a_moment_of)
  b_moment_of : Binds K fd_moment_of ["machine"] []
  a_told_end : Addr
  fd_told_end : FuncData
  F_told_end : Fun K "told_end" "told_end" s_told_end a_told_end fd_told_end
  g_told_end : mg "told_end" = some (.ref a_told_end)
  b_told_end : Binds K fd_told_end ["machine"] []
  a_by_value : Addr
  fd_by_value : FuncData
  F_by_value : Fun K "by_value" "by_value" s_by_value a_by_value fd_by_value
  g_by_value : mg "by_value" = some (.ref a_by_value)
  b_by_value : Binds K fd_by_value ["machine", "by"] []
  a_put_box : Addr
  fd_put_box : FuncData
  F_put_box : Fun K "put_box" "put_box" s_put_box a_put_box fd_put_box
  g_put_box : mg "put_box" = some (.ref a_put_box)
  b_put_box : Binds K fd_put_box ["machine", "box", "value"] []
  a_moved : Addr
  fd_moved : FuncData
  F_moved : Fun K "moved" "moved" s_moved a_moved fd_moved
  g_moved : mg "moved" = some (.ref a_moved)
  b_moved : Binds K fd_moved ["pointer", "many"] []
  a_room_of : Addr
  fd_room_of : FuncData
  F_room_of : Fun K "room_of" "room_of" s_room_of a_room_of fd_room_of
  g_room_of : mg "room_of" = some (.ref a_room_of)
  b_room_of : Binds K fd_room_of ["machine", "ask"] []
  a_size_of : Addr
  fd_size_of : FuncData
  F_size_of : Fun K "size_of" "size_of" s_size_of a_size_of fd_size_of
  g_size_of : mg "size_of" = some (.ref a_size_of)
  b_size_of : Binds K fd_size_of ["machine", "pointer"] []
  a_cell_value : Addr
  fd_cell_value : FuncData
  F_cell_value : Fun K "cell_value" "cell_value" s_cell_value a_cell_value fd_cell_value
  g_cell_value : mg "cell_value" = some (.ref a_cell_value)
  b_cell_value : Binds K fd_cell_value ["machine", "pointer"] []
  a_put_cell : Addr
  fd_put_cell : FuncData
  F_put_cell : Fun K "put_cell" "put_cell" s_put_cell a_put_cell fd_put_cell
  g_put_cell : mg "put_cell" = some (.ref a_put_cell)
  b_put_cell : Binds K fd_put_cell ["machine", "pointer", "value"] []
  a_do_move : Addr
  fd_do_move : FuncData
  F_do_move : Fun K "do_move" "do_move" s_do_move a_do_move fd_do_move
  g_do_move : mg "do_move" = some (.ref a_do_move)
  b_do_move : Binds K fd_do_move ["machine", "box", "other"] []
  a_deed_value : Addr
  fd_deed_value : FuncData
  F_deed_value : Fun K "deed_value" "deed_value" s_deed_value a_deed_value fd_deed_value
  g_deed_value : mg "deed_value" = some (.ref a_deed_value)
  b_deed_value : Binds K fd_deed_value ["word", "one", "other"] []
  a_do_deed : Addr
  fd_do_deed : FuncData
  F_do_deed : Fun K "do_deed" "do_deed" s_do_deed a_do_deed fd_do_deed
  g_do_deed : mg "do_deed" = some (.ref a_do_deed)
  b_do_deed : Binds K fd_do_deed ["machine", "word", "box", "by"] []
  a_ask_answer : Addr
  fd_ask_answer : FuncData
  F_ask_answer : Fun K "ask_answer" "ask_answer" s_ask_answer a_ask_answer fd_ask_answer
  g_ask_answer : mg "ask_answer" = some (.ref a_ask_answer)
  b_ask_answer : Binds K fd_ask_answer ["word", "one", "other"] []
  a_do_jump : Addr
  fd_do_jump : FuncData
  F_do_jump : Fun K "do_jump" "do_jump" s_do_jump a_do_jump fd_do_jump
  g_do_jump : mg "do_jump" = some (.ref a_do_jump)
  b_do_jump : Binds K fd_do_jump ["machine", "word", "box", "by", "to"] []
  a_do_load : Addr
  fd_do_load : FuncData
  F_do_load : Fun K "do_load" "do_load" s_do_load a_do_load fd_do_load
  g_do_load : mg "do_load" = some (.ref a_do_load)
  b_do_load : Binds K fd_do_load ["machine", "box", "other", "off"] []
  a_do_store : Addr
  fd_do_store : FuncData
  F_do_store : Fun K "do_store" "do_store" s_do_store a_do_store fd_do_store
  g_do_store : mg "do_store" = some (.ref a_do_store)
  b_do_store : Binds K fd_do_store ["machine", "box", "off", "by"] []
  a_has_numbers : Addr
  fd_has_numbers : FuncData
  F_has_numbers : Fun K "has_numbers" "has_numbers" s_has_numbers a_has_numbers fd_has_numbers
  g_has_numbers : mg "has_numbers" = some (.ref a_has_numbers)
  c_has_numbers : cdA K "has_numbers" = fd_has_numbers.code
  b_has_numbers : Binds K fd_has_numbers ["machine", "value", "many"] []
  a_is_good_take : Addr
  fd_is_good_take : FuncData
  F_is_good_take : Fun K "is_good_take" "is_good_take" s_is_good_take a_is_good_take fd_is_good_take
  g_is_good_take : mg "is_good_take" = some (.ref a_is_good_take)
  b_is_good_take : Binds K fd_is_good_take ["machine", "take", "value"] []
  a_next_answer : Addr
  fd_next_answer : FuncData
  F_next_answer : Fun K "next_answer" "next_answer" s_next_answer a_next_answer fd_next_answer
  g_next_answer : mg "next_answer" = some (.ref a_next_answer)
  b_next_answer : Binds K fd_next_answer ["machine"] []
  a_lent_value : Addr
  fd_lent_value : FuncData
  F_lent_value : Fun K "lent_value" "lent_value" s_lent_value a_lent_value fd_lent_value
  g_lent_value : mg "lent_value" = some (.ref a_lent_value)
  b_lent_value : Binds K fd_lent_value ["machine", "shelf", "key"] []
  a_forget_asking : Addr
  fd_forget_asking : FuncData
  F_forget_asking : Fun K "forget_asking" "forget_asking" s_forget_asking a_forget_asking fd_forget_asking
  g_forget_asking : mg "forget_asking" = some (.ref a_forget_asking)
  b_forget_asking : Binds K fd_forget_asking ["machine", "ask"] []
  a_without_asking : Addr
  fd_without_asking : FuncData
  F_without_asking : Fun K "without_asking" "without_asking" s_without_asking a_without_asking fd_without_asking
  g_without_asking : mg "without_asking" = some (.ref a_without_asking)
  b_without_asking : Binds K fd_without_asking ["values", "ask"] []
  a_given_value : Addr
  fd_given_value : FuncData
  F_given_value : Fun K "given_value" "given_value" s_given_value a_given_value fd_given_value
  g_given_value : mg "given_value" = some (.ref a_given_value)
  b_given_value : Binds K fd_given_value ["machine", "gives"] []
  a_do_call : Addr
  fd_do_call : FuncData
  F_do_call : Fun K "do_call" "do_call" s_do_call a_do_call fd_do_call
  g_do_call : mg "do_call" = some (.ref a_do_call)
  b_do_call : Binds K fd_do_call ["machine", "name"] []
  a_do_end : Addr
  fd_do_end : FuncData
  F_do_end : Fun K "do_end" "do_end" s_do_end a_do_end fd_do_end
  g_do_end : mg "do_end" = some (.ref a_do_end)
  b_do_end : Binds K fd_do_end ["machine"] []
  a_do_row : Addr
  fd_do_row : FuncData
  F_do_row : Fun K "do_row" "do_row" s_do_row a_do_row fd_do_row
  g_do_row : mg "do_row" = some (.ref a_do_row)
  b_do_row : Binds K fd_do_row ["machine", "row"] []
  a_do_step : Addr
  fd_do_step : FuncData
  F_do_step : Fun K "do_step" "do_step" s_do_step a_do_step fd_do_step
  g_do_step : mg "do_step" = some (.ref a_do_step)
  b_do_step : Binds K fd_do_step ["machine"] []
  a_run : Addr
  fd_run : FuncData
  F_run : Fun K "run" "run" s_run a_run fd_run
  g_run : mg "run" = some (.ref a_run)
  ad_run_given : Addr
  qd_run_given : ∀ H : Hp, SqT K H ad_run_given []
  ad_run_answers : Addr
  qd_run_answers : ∀ H : Hp, SqT K H ad_run_answers []
  d_run : List Value
  v_run : Vals [.ref ad_run_given, .non, .ref ad_run_answers, .int 1000] d_run
  b_run : Binds K fd_run ["program", "contract", "given", "shelves", "answers", "most"] d_run
  k_run : KBn K fd_run ["program", "contract", "given", "shelves", "answers", "most"] 2 ["given", "shelves", "answers", "most"] (fun us ws => us ++ ws) (fun vs zs => vs ++ zs)
  mv_run_given : List Value
  m_run_given : KBn K fd_run ["program", "contract", "given", "shelves", "answers", "most"] 2 ["given"] (fun us ws => us ++ mergeP [false, true, true, true] mv_run_given ws) (fun vs zs => vs ++ mergeP [false, true, true, true] [.non, .ref ad_run_answers, .int 1000] zs)
  mv_run_most : List Value
  m_run_most : KBn K fd_run ["program", "contract", "given", "shelves", "answers", "most"] 2 ["most"] (fun us ws => us ++ mergeP [true, true, true, false] mv_run_most ws) (fun vs zs => vs ++ mergeP [true, true, true, false] [.ref ad_run_given, .non, .ref ad_run_answers] zs)
  a_l_pool : Addr
  fd_l_pool : FuncData
  F_l_pool : Fun K "_law_pool" "_law_pool" s_l_pool a_l_pool fd_l_pool
  g_l_pool : mg "_law_pool" = some (.ref a_l_pool)
  b_l_pool : Binds K fd_l_pool ["_law_script", "_law_k"] []
  a_l_take : Addr
  fd_l_take : FuncData
  F_l_take : Fun K "_law_take" "_law_take" s_l_take a_l_take fd_l_take
  g_l_take : mg "_law_take" = some (.ref a_l_take)
  b_l_take : Binds K fd_l_take ["_law_pool_here", "_law_many"] []
  a_l_contract : Addr
  fd_l_contract : FuncData
  F_l_contract : Fun K "_law_contract" "_law_contract" s_l_contract a_l_contract fd_l_contract
  g_l_contract : mg "_law_contract" = some (.ref a_l_contract)
  b_l_contract : Binds K fd_l_contract ["_law_size"] []
  a_l_plain : Addr
  fd_l_plain : FuncData
  F_l_plain : Fun K "_law_plain" "_law_plain" s_l_plain a_l_plain fd_l_plain
  g_l_plain : mg "_law_plain" = some (.ref a_l_plain)
  b_l_plain : Binds K fd_l_plain [] []
  a_l_calls : Addr
  fd_l_calls : FuncData
  F_l_calls : Fun K "_law_calls" "_law_calls" s_l_calls a_l_calls fd_l_calls
  g_l_calls : mg "_law_calls" = some (.ref a_l_calls)
  b_l_calls : Binds K fd_l_calls [] []
  a_l_right : Addr
  fd_l_right : FuncData
  F_l_right : Fun K "_law_right" "_law_right" s_l_right a_l_right fd_l_right
  g_l_right : mg "_law_right" = some (.ref a_l_right)
  b_l_right : Binds K fd_l_right ["_law_rows", "_law_word", "_law_steps", "_law_ahead"] []
  a_Machine___init__ : Addr
  fd_Machine___init__ : FuncData
  F_Machine___init__ : Fun K "__init__" "Machine.__init__" s_Machine___init__ a_Machine___init__ fd_Machine___init__
  me_Machine___init__ : Meth K (rho K "Machine") "__init__" a_Machine___init__
  b_Machine___init__ : Binds K fd_Machine___init__ ["self", "program", "contract", "given", "shelves", "answers"] []
  a_Runner___init__ : Addr
  fd_Runner___init__ : FuncData
  F_Runner___init__ : Fun K "__init__" "Runner.__init__" s_Runner___init__ a_Runner___init__ fd_Runner___init__
  me_Runner___init__ : Meth K (rho K "Runner") "__init__" a_Runner___init__
  ad_Runner___init___given : Addr
  qd_Runner___init___given : ∀ H : Hp, SqT K H ad_Runner___init___given []
  ad_Runner___init___answers : Addr
  qd_Runner___init___answers : ∀ H : Hp, SqT K H ad_Runner___init___answers []
  d_Runner___init__ : List Value
  v_Runner___init__ : Vals [.ref ad_Runner___init___given, .non, .ref ad_Runner___init___answers] d_Runner___init__
  b_Runner___init__ : Binds K fd_Runner___init__ ["self", "program", "contract", "given", "shelves", "answers"] d_Runner___init__
  k_Runner___init__ : KBn K fd_Runner___init__ ["self", "program", "contract", "given", "shelves", "answers"] 3 ["given", "shelves", "answers"] (fun us ws => us ++ ws) (fun vs zs => vs ++ zs)
  a_Runner_step : Addr
  fd_Runner_step : FuncData
  F_Runner_step : Fun K "step" "Runner.step" s_Runner_step a_Runner_step fd_Runner_step
  me_Runner_step : Meth K (rho K "Runner") "step" a_Runner_step
  b_Runner_step : Binds K fd_Runner_step ["self"] []
  a_Runner_told : Addr
  fd_Runner_told : FuncData
  F_Runner_told : Fun K "told" "Runner.told" s_Runner_told a_Runner_told fd_Runner_told
  me_Runner_told : Meth K (rho K "Runner") "told" a_Runner_told
  b_Runner_told : Binds K fd_Runner_told ["self"] []
  g_Machine : mg "Machine" = some (.ref (rho K "Machine"))
  cl_Machine : Cls K (rho K "Machine")
  mk_Machine : Mk K (rho K "Machine") a_Machine___init__
  na_Machine_answered : NoAttr K (rho K "Machine") "answered"
  na_Machine_answers : NoAttr K (rho K "Machine") "answers"
  na_Machine_askings : NoAttr K (rho K "Machine") "askings"
  na_Machine_at : NoAttr K (rho K "Machine") "at"
  na_Machine_box_values : NoAttr K (rho K "Machine") "box_values"
  na_Machine_cells : NoAttr K (rho K "Machine") "cells"
  na_Machine_ending : NoAttr K (rho K "Machine") "ending"
  na_Machine_history : NoAttr K (rho K "Machine") "history"
  na_Machine_lent_rooms : NoAttr K (rho K "Machine") "lent_rooms"
  na_Machine_machine : NoAttr K (rho K "Machine") "machine"
  na_Machine_pile_values : NoAttr K (rho K "Machine") "pile_values"
  na_Machine_rooms : NoAttr K (rho K "Machine") "rooms"
  na_Machine_rows : NoAttr K (rho K "Machine") "rows"
  na_Machine_rows_done : NoAttr K (rho K "Machine") "rows_done"
  na_Machine_terms : NoAttr K (rho K "Machine") "terms"
  na_Machine_written : NoAttr K (rho K "Machine") "written"
  g_Runner : mg "Runner" = some (.ref (rho K "Runner"))
  cl_Runner : Cls K (rho K "Runner")
  mk_Runner : Mk K (rho K "Runner") a_Runner___init__
  na_Runner_answered : NoAttr K (rho K "Runner") "answered"
  na_Runner_answers : NoAttr K (rho K "Runner") "answers"
  na_Runner_askings : NoAttr K (rho K "Runner") "askings"
  na_Runner_at : NoAttr K (rho K "Runner") "at"
  na_Runner_box_values : NoAttr K (rho K "Runner") "box_values"
  na_Runner_cells : NoAttr K (rho K "Runner") "cells"
  na_Runner_ending : NoAttr K (rho K "Runner") "ending"
  na_Runner_history : NoAttr K (rho K "Runner") "history"
  na_Runner_lent_rooms : NoAttr K (rho K "Runner") "lent_rooms"
  na_Runner_machine : NoAttr K (rho K "Runner") "machine"
  na_Runner_pile_values : NoAttr K (rho K "Runner") "pile_values"
  na_Runner_rooms : NoAttr K (rho K "Runner") "rooms"
  na_Runner_rows : NoAttr K (rho K "Runner") "rows"
  na_Runner_rows_done : NoAttr K (rho K "Runner") "rows_done"
  na_Runner_terms : NoAttr K (rho K "Runner") "terms"
  na_Runner_written : NoAttr K (rho K "Runner") "written"
  a_ASKS : Addr
  g_ASKS : mg "ASKS" = some (.ref a_ASKS)
  q_ASKS : ∀ H : Hp, SqT K H a_ASKS [.str "same", .str "under", .str "upto", .str "below", .str "least", .str "bits", .str "unlike", .str "over", .str "from", .str "above", .str "notbelow", .str "nobits"]
  t_BOXES : Tok
  g_BOXES : mg "BOXES" = some (.int 6 t_BOXES)
  a_CONTRARIES : Addr
  g_CONTRARIES : mg "CONTRARIES" = some (.ref a_CONTRARIES)
  a0_CONTRARIES : Addr
  q0_CONTRARIES : ∀ H : Hp, SqT K H a0_CONTRARIES [.str "same", .str "unlike"]
  a1_CONTRARIES : Addr
  q1_CONTRARIES : ∀ H : Hp, SqT K H a1_CONTRARIES [.str "under", .str "from"]
  a2_CONTRARIES : Addr
  q2_CONTRARIES : ∀ H : Hp, SqT K H a2_CONTRARIES [.str "upto", .str "over"]
  a3_CONTRARIES : Addr
  q3_CONTRARIES : ∀ H : Hp, SqT K H a3_CONTRARIES [.str "below", .str "notbelow"]
  a4_CONTRARIES : Addr
  q4_CONTRARIES : ∀ H : Hp, SqT K H a4_CONTRARIES [.str "least", .str "above"]
  a5_CONTRARIES : Addr
  q5_CONTRARIES : ∀ H : Hp, SqT K H a5_CONTRARIES [.str "bits", .str "nobits"]
  q_CONTRARIES : ∀ H : Hp, SqT K H a_CONTRARIES [.ref a0_CONTRARIES, .ref a1_CONTRARIES, .ref a2_CONTRARIES, .ref a3_CONTRARIES, .ref a4_CONTRARIES, .ref a5_CONTRARIES]
  a_DEEDS : Addr
  g_DEEDS : mg "DEEDS" = some (.ref a_DEEDS)
  q_DEEDS : ∀ H : Hp, SqT K H a_DEEDS [.str "plus", .str "minus", .str "times", .str "and", .str "or", .str "either", .str "left", .str "right"]
  t_MOST_CELLS : Tok
  g_MOST_CELLS : mg "MOST_CELLS" = some (.int 16 t_MOST_CELLS)
  t_PILE : Tok
  g_PILE : mg "PILE" = some (.int 8 t_PILE)
  t_WIDE : Tok
  g_WIDE : mg "WIDE" = some (.int 16 t_WIDE)
  b_abs : mg "abs" = none
  b_all : mg "all" = none
  b_bool : mg "bool" = none
  b_dict : mg "dict" = none
  b_enumerate : mg "enumerate" = none
  b_int : mg "int" = none
  b_isinstance : mg "isinstance" = none
  b_len : mg "len" = none
  b_list : mg "list" = none
  b_max : mg "max" = none
  b_min : mg "min" = none
  b_range : mg "range" = none
  b_str : mg "str" = none
  b_sum : mg "sum" = none
  b_tuple : mg "tuple" = none
  a_NoCall : Addr
  g_NoCall : mg "NoCall" = some (.ref a_NoCall)
  rho_NoCall : rho K "NoCall" = a_NoCall
  i_NoCall : Bg.ClsI K a_NoCall
  a_NoInput : Addr
  g_NoInput : mg "NoInput" = some (.ref a_NoInput)
  rho_NoInput : rho K "NoInput" = a_NoInput
  i_NoInput : Bg.ClsI K a_NoInput
  a_NoWord : Addr
  g_NoWord : mg "NoWord" = some (.ref a_NoWord)
  rho_NoWord : rho K "NoWord" = a_NoWord
  i_NoWord : Bg.ClsI K a_NoWord
  o_NoCall : OexG K a_NoCall
  e_NoCall : ExcC K a_NoCall
  xf_NoCall : XfC K a_NoCall
  fI_NoCall : Addr
  fdI_NoCall : FuncData
  iC_NoCall : PySem.W.findIn K (.ref a_NoCall) "__init__" = some (some (.ref fI_NoCall))
  tI_NoCall : PySem.W.typeIn K (.ref fI_NoCall) = some (.type "function")
  FI_NoCall : Fun K "__init__" "NoCall.__init__" si_NoCall fI_NoCall fdI_NoCall
  bI_NoCall : Binds K fdI_NoCall ["self", "name"] []
  nf_NoCall_name : PySem.W.findIn K (.ref a_NoCall) "name" = some none
  s_NoCall_NoCall : PySem.W.subIn K (.ref a_NoCall) (.ref a_NoCall) = some true
  s_NoCall_NoInput : PySem.W.subIn K (.ref a_NoCall) (.ref a_NoInput) = some false
  s_NoCall_NoWord : PySem.W.subIn K (.ref a_NoCall) (.ref a_NoWord) = some false
  o_NoInput : OexG K a_NoInput
  e_NoInput : ExcC K a_NoInput
  xf_NoInput : XfC K a_NoInput
  fI_NoInput : Addr
  fdI_NoInput : FuncData
  iC_NoInput : PySem.W.findIn K (.ref a_NoInput) "__init__" = some (some (.ref fI_NoInput))
  tI_NoInput : PySem.W.typeIn K (.ref fI_NoInput) = some (.type "function")
  FI_NoInput : Fun K "__init__" "NoInput.__init__" si_NoInput fI_NoInput fdI_NoInput
  bI_NoInput : Binds K fdI_NoInput ["self", "part"] []
  nf_NoInput_part : PySem.W.findIn K (.ref a_NoInput) "part" = some none
  s_NoInput_NoCall : PySem.W.subIn K (.ref a_NoInput) (.ref a_NoCall) = some false
  s_NoInput_NoInput : PySem.W.subIn K (.ref a_NoInput) (.ref a_NoInput) = some true
  s_NoInput_NoWord : PySem.W.subIn K (.ref a_NoInput) (.ref a_NoWord) = some false
  r_NoWord : Bg.Refl K a_NoWord
  s_NoWord_NoCall : PySem.W.subIn K (.ref a_NoWord) (.ref a_NoCall) = some false
  s_NoWord_NoInput : PySem.W.subIn K (.ref a_NoWord) (.ref a_NoInput) = some false
  s_NoWord_NoWord : PySem.W.subIn K (.ref a_NoWord) (.ref a_NoWord) = some true
/-- the tables of the defs that hold generator expressions -/
structure Tabs (K : PySem.W.Frag) (base : Heap) (mg : Str → Option Value) : Prop where
  t_are_worths : TbOk K base mg "are_worths"
  t_are_rooms : TbOk K base mg "are_rooms"
  t_are_shelves : TbOk K base mg "are_shelves"
  t_look_at_inputs : TbOk K base mg "look_at_inputs"
  t_has_numbers : TbOk K base mg "has_numbers"
def C_ASKS : D := .tup [.str "same", .str "under", .str "upto", .str "below", .str "least", .str "bits", .str "unlike", .str "over", .str "from", .str "above", .str "notbelow", .str "nobits"]
theorem dr_ASKS {w : World} {K : PySem.W.Frag} {mg : Str → Option Value} (T : Txt w K mg) : ∀ α H, DR K α H (.ref T.a_ASKS) C_ASKS := fun α H => .tup (T.q_ASKS H) (.cons (.str _) (.cons (.str _) (.cons (.str _) (.cons (.str _) (.cons (.str _) (.cons (.str _) (.cons (.str _) (.cons (.str _) (.cons (.str _) (.cons (.str _) (.cons (.str _) (.cons (.str _) .nil))))))))))))
def C_CONTRARIES : D := .tup [.tup [.str "same", .str "unlike"], .tup [.str "under", .str "from"], .tup [.str "upto", .str "over"], .tup [.str "below", .str "notbelow"], .tup [.str "least", .str "above"], .tup [.str "bits", .str "nobits"]]
theorem dr_CONTRARIES {w : World} {K : PySem.W.Frag} {mg : Str → Option Value} (T : Txt w K mg) : ∀ α H, DR K α H (.ref T.a_CONTRARIES) C_CONTRARIES := fun α H => .tup (T.q_CONTRARIES H) (.cons (.tup (T.q0_CONTRARIES H) (.cons (.str _) (.cons (.str _) .nil))) (.cons (.tup (T.q1_CONTRARIES H) (.cons (.str _) (.cons (.str _) .nil))) (.cons (.tup (T.q2_CONTRARIES H) (.cons (.str _) (.cons (.str _) .nil))) (.cons (.tup (T.q3_CONTRARIES H) (.cons (.str _) (.cons (.str _) .nil))) (.cons (.tup (T.q4_CONTRARIES H) (.cons (.str _) (.cons (.str _) .nil))) (.cons (.tup (T.q5_CONTRARIES H) (.cons (.str _) (.cons (.str _) .nil))) .nil))))))
def C_DEEDS : D := .tup [.str "plus", .str "minus", .str "times", .str "and", .str "or", .str "either", .str "left", .str "right"]
theorem dr_DEEDS {w : World} {K : PySem.W.Frag} {mg : Str → Option Value} (T : Txt w K mg) : ∀ α H, DR K α H (.ref T.a_DEEDS) C_DEEDS := fun α H => .tup (T.q_DEEDS H) (.cons (.str _) (.cons (.str _) (.cons (.str _) (.cons (.str _) (.cons (.str _) (.cons (.str _) (.cons (.str _) (.cons (.str _) .nil))))))))
theorem fc_answered {w : World} {K : PySem.W.Frag} {mg : Str → Option Value} (T : Txt w K mg) : FldC K fs_answered "answered" := by
  intro n h
  unfold fs_answered at h
  rcases cats2 h with rfl | h
  · exact ⟨T.cl_Machine, T.na_Machine_answered⟩
  rcases cats2 h with rfl | h
  · exact ⟨T.cl_Runner, T.na_Runner_answered⟩
  exact Bool.noConfusion (show false = true from h)
theorem fc_answers {w : World} {K : PySem.W.Frag} {mg : Str → Option Value} (T : Txt w K mg) : FldC K fs_answers "answers" := by
  intro n h
  unfold fs_answers at h
  rcases cats2 h with rfl | h
  · exact ⟨T.cl_Machine, T.na_Machine_answers⟩
  rcases cats2 h with rfl | h
  · exact ⟨T.cl_Runner, T.na_Runner_answers⟩
  exact Bool.noConfusion (show false = true from h)
theorem fc_askings {w : World} {K : PySem.W.Frag} {mg : Str → Option Value} (T : Txt w K mg) : FldC K fs_askings "askings" := by
  intro n h
  unfold fs_askings at h
  rcases cats2 h with rfl | h
  · exact ⟨T.cl_Machine, T.na_Machine_askings⟩
  rcases cats2 h with rfl | h
  · exact ⟨T.cl_Runner, T.na_Runner_askings⟩
  exact Bool.noConfusion (show false = true from h)
theorem fc_at {w : World} {K : PySem.W.Frag} {mg : Str → Option Value} (T : Txt w K mg) : FldC K fs_at "at" := by
  intro n h
  unfold fs_at at h
  rcases cats2 h with rfl | h
  · exact ⟨T.cl_Machine, T.na_Machine_at⟩
  rcases cats2 h with rfl | h
  · exact ⟨T.cl_Runner, T.na_Runner_at⟩
  exact Bool.noConfusion (show false = true from h)
theorem fc_box_values {w : World} {K : PySem.W.Frag} {mg : Str → Option Value} (T : Txt w K mg) : FldC K fs_box_values "box_values" := by
  intro n h
  unfold fs_box_values at h
  rcases cats2 h with rfl | h
  · exact ⟨T.cl_Machine, T.na_Machine_box_values⟩
  rcases cats2 h with rfl | h
  · exact ⟨T.cl_Runner, T.na_Runner_box_values⟩
  exact Bool.noConfusion (show false = true from h)
theorem fc_cells {w : World} {K : PySem.W.Frag} {mg : Str → Option Value} (T : Txt w K mg) : FldC K fs_cells "cells" := by
  intro n h
  unfold fs_cells at h
  rcases cats2 h with rfl | h
  · exact ⟨T.cl_Machine, T.na_Machine_cells⟩
  rcases cats2 h with rfl | h
  · exact ⟨T.cl_Runner, T.na_Runner_cells⟩
  exact Bool.noConfusion (show false = true from h)
theorem fc_ending {w : World} {K : PySem.W.Frag} {mg : Str → Option Value} (T : Txt w K mg) : FldC K fs_ending "ending" := by
  intro n h
  unfold fs_ending at h
  rcases cats2 h with rfl | h
  · exact ⟨T.cl_Machine, T.na_Machine_ending⟩
  rcases cats2 h with rfl | h
  · exact ⟨T.cl_Runner, T.na_Runner_ending⟩
  exact Bool.noConfusion (show false = true from h)
theorem fc_history {w : World} {K : PySem.W.Frag} {mg : Str → Option Value} (T : Txt w K mg) : FldC K fs_history "history" := by
  intro n h
  unfold fs_history at h
  rcases cats2 h with rfl | h
  · exact ⟨T.cl_Machine, T.na_Machine_history⟩
  rcases cats2 h with rfl | h
  · exact ⟨T.cl_Runner, T.na_Runner_history⟩
  exact Bool.noConfusion (show false = true from h)
theorem fc_lent_rooms {w : World} {K : PySem.W.Frag} {mg : Str → Option Value} (T : Txt w K mg) : FldC K fs_lent_rooms "lent_rooms" := by
  intro n h
  unfold fs_lent_rooms at h
  rcases cats2 h with rfl | h
  · exact ⟨T.cl_Machine, T.na_Machine_lent_rooms⟩
  rcases cats2 h with rfl | h
  · exact ⟨T.cl_Runner, T.na_Runner_lent_rooms⟩
  exact Bool.noConfusion (show false = true from h)
theorem fc_machine {w : World} {K : PySem.W.Frag} {mg : Str → Option Value} (T : Txt w K mg) : FldC K fs_machine "machine" := by
  intro n h
  unfold fs_machine at h
  rcases cats2 h with rfl | h
  · exact ⟨T.cl_Machine, T.na_Machine_machine⟩
  rcases cats2 h with rfl | h
  · exact ⟨T.cl_Runner, T.na_Runner_machine⟩
  exact Bool.noConfusion (show false = true from h)
theorem fc_pile_values {w : World} {K : PySem.W.Frag} {mg : Str → Option Value} (T : Txt w K mg) : FldC K fs_pile_values "pile_values" := by
  intro n h
  unfold fs_pile_values at h
  rcases cats2 h with rfl | h
  · exact ⟨T.cl_Machine, T.na_Machine_pile_values⟩
  rcases cats2 h with rfl | h
  · exact ⟨T.cl_Runner, T.na_Runner_pile_values⟩
  exact Bool.noConfusion (show false = true from h)
theorem fc_rooms {w : World} {K : PySem.W.Frag} {mg : Str → Option Value} (T : Txt w K mg) : FldC K fs_rooms "rooms" := by
  intro n h
  unfold fs_rooms at h
  rcases cats2 h with rfl | h
  · exact ⟨T.cl_Machine, T.na_Machine_rooms⟩
  rcases cats2 h with rfl | h
  · exact ⟨T.cl_Runner, T.na_Runner_rooms⟩
  exact Bool.noConfusion (show false = true from h)
theorem fc_rows {w : World} {K : PySem.W.Frag} {mg : Str → Option Value} (T : Txt w K mg) : FldC K fs_rows "rows" := by
  intro n h
  unfold fs_rows at h
  rcases cats2 h with rfl | h
  · exact ⟨T.cl_Machine, T.na_Machine_rows⟩
  rcases cats2 h with rfl | h
  · exact ⟨T.cl_Runner, T.na_Runner_rows⟩
  exact Bool.noConfusion (show false = true from h)
theorem fc_rows_done {w : World} {K : PySem.W.Frag} {mg : Str → Option Value} (T : Txt w K mg) : FldC K fs_rows_done "rows_done" := by
  intro n h
  unfold fs_rows_done at h
  rcases cats2 h with rfl | h
  · exact ⟨T.cl_Machine, T.na_Machine_rows_done⟩
  rcases cats2 h with rfl | h
  · exact ⟨T.cl_Runner, T.na_Runner_rows_done⟩
  exact Bool.noConfusion (show false = true from h)
theorem fc_terms {w : World} {K : PySem.W.Frag} {mg : Str → Option Value} (T : Txt w K mg) : FldC K fs_terms "terms" := by
  intro n h
  unfold fs_terms at h
  rcases cats2 h with rfl | h
  · exact ⟨T.cl_Machine, T.na_Machine_terms⟩
  rcases cats2 h with rfl | h
  · exact ⟨T.cl_Runner, T.na_Runner_terms⟩
  exact Bool.noConfusion (show false = true from h)
theorem fc_written {w : World} {K : PySem.W.Frag} {mg : Str → Option Value} (T : Txt w K mg) : FldC K fs_written "written" := by
  intro n h
  unfold fs_written at h
  rcases cats2 h with rfl | h
  · exact ⟨T.cl_Machine, T.na_Machine_written⟩
  rcases cats2 h with rfl | h
  · exact ⟨T.cl_Runner, T.na_Runner_written⟩
  exact Bool.noConfusion (show false = true from h)
theorem ini_NoCall {P : Program} {base : Heap} {w : World} {K : PySem.W.Frag} {mg : Str → Option Value} (T : Txt w K mg) : FnOk P w K mg base CX0 1 T.fI_NoCall T.fdI_NoCall ["self", "name"] (init1 T.a_NoCall "name") :=
  init1_ok T.FI_NoCall sci_NoCall T.o_NoCall T.nf_NoCall_name fun cdv A outer s H E => pss_one (ps_ostG (pv 0) (pv 1))
theorem cat_NoCall {w : World} {K : PySem.W.Frag} {mg : Str → Option Value} (T : Txt w K mg) : ∀ n, (["NoCall"] : List Str).contains n = true → PySem.W.exmOne K (.ref (rho K n)) (.ref T.a_NoCall) = some true := by
  intro n h
  rcases cats2 h with rfl | h
  · rw [T.rho_NoCall]; exact PySem.W.exm_ref T.i_NoCall.b T.i_NoCall.d T.i_NoCall.t T.s_NoCall_NoCall
  exact Bool.noConfusion (show false = true from h)
def F_greatest : DF := fnD 1 1
 ((sRet (eOp gSub (eOp gShl (eC (.int (1))) (eV 0)) (eC (.int (1))))))
def F_is_whole : DF := fnD 1 1
 ((sRet (eAn (eCB gIsi (aCons (eV 0) (aCons (eC (.con (.ty "int"))) aNil))) (eNt (eCB gIsi (aCons (eV 0) (aCons (eC (.con (.ty "bool"))) aNil)))))))
def F_is_worth : DF := fnD 2 2
 ((sRet (eAn (eCall F_is_whole [] (aCons (eV 0) aNil)) (eCh gLeW gLeW (eC (.int (0))) (eV 0) (eCall F_greatest [] (aCons (eV 1) aNil))))))
def F_is_among : DF := fnD 2 2
 ((sRet (eAn (eCB gIsi (aCons (eV 0) (aCons (eC (.con (.ty "str"))) aNil))) (eInO (eV 0) (eV 1)))))
def F_signed : DF := fnD 2 2
 ((sSeq (sIf (tE (eOp gEq (eOp gShr (eV 0) (eOp gSub (eV 1) (eC (.int (1))))) (eC (.int (0)))))
  (sRet (eV 0))
  sNil)
 (sRet (eOp gSub (eV 0) (eOp gShl (eC (.int (1))) (eV 1))))))
def F_moved_left : DF := fnD 3 3
 ((sSeq (sIf (tE (eOp gGe (eV 1) (eV 2)))
  (sRet (eC (.int (0))))
  sNil)
 (sRet (eOp gAnd (eOp gShl (eV 0) (eV 1)) (eCall F_greatest [] (aCons (eV 2) aNil))))))
def F_moved_right : DF := fnD 3 3
 ((sSeq (sIf (tE (eOp gGe (eV 1) (eV 2)))
  (sRet (eC (.int (0))))
  sNil)
 (sRet (eOp gShr (eV 0) (eV 1)))))
def F_done : DF := fnD 4 4
 ((sSeq (sIf (tNt (tE (eCall F_is_among [] (aCons (eV 0) (aCons (eC C_DEEDS) aNil)))))
  sNever
  sNil)
 (sMatch (eV 0) (mStr "plus" (sRet (eOp gAnd (eOp gAdd (eV 1) (eV 2)) (eCall F_greatest [] (aCons (eV 3) aNil))))
  (mStr "minus" (sRet (eOp gAnd (eOp gSub (eV 1) (eV 2)) (eCall F_greatest [] (aCons (eV 3) aNil))))
  (mStr "times" (sRet (eOp gAnd (eOp gMul (eV 1) (eV 2)) (eCall F_greatest [] (aCons (eV 3) aNil))))
  (mStr "and" (sRet (eOp gAnd (eV 1) (eV 2)))
  (mStr "or" (sRet (eOp gOr (eV 1) (eV 2)))
  (mStr "either" (sRet (eOp gXor (eV 1) (eV 2)))
  (mStr "left" (sRet (eCall F_moved_left [] (aCons (eV 1) (aCons (eV 2) (aCons (eV 3) aNil)))))
  (mAny (sRet (eCall F_moved_right [] (aCons (eV 1) (aCons (eV 2) (aCons (eV 3) aNil))))))))))))))))
def F_contrary : DF := fnD 1 3
 ((sSeq (sFor (iES (eC C_CONTRARIES)) (gT (gsC (gN 1) (gsC (gN 2) gs0)))
  (sIf (tE (eCall F_is_among [] (aCons (eV 0) (aCons (eTup (aCons (eV 1) (aCons (eV 2) aNil))) aNil))))
  (sRet (eIf (tE (eOp gEq (eV 0) (eV 1))) (eV 2) (eV 1)))
  sNil))
 sNever))
def F_asked_1 : DF := fnD 4 4
 ((sSeq (sIf (tNt (tE (eCall F_is_among [] (aCons (eV 0) (aCons (eC C_ASKS) aNil)))))
  sNever
  sNil)
 (sMatch (eV 0) (mStr "same" (sRet (eOp gEq (eV 1) (eV 2)))
  (mStr "under" (sRet (eOp gLt (eV 1) (eV 2)))
  (mStr "upto" (sRet (eOp gLeW (eV 1) (eV 2)))
  (mStr "below" (sRet (eOp gLt (eCallN F_signed 1 1 (aCons (eV 1) aNil) (aCons (eV 3) aNil)) (eCallN F_signed 1 1 (aCons (eV 2) aNil) (aCons (eV 3) aNil))))
  (mStr "least" (sRet (eOp gLeW (eCallN F_signed 1 1 (aCons (eV 1) aNil) (aCons (eV 3) aNil)) (eCallN F_signed 1 1 (aCons (eV 2) aNil) (aCons (eV 3) aNil))))
  (mStr "bits" (sRet (eOp gNe (eOp gAnd (eV 1) (eV 2)) (eC (.int (0)))))
  (mAny (sRet (eNt (eCallN F_none 3 1 (aCons (eCall F_contrary [] (aCons (eV 0) aNil)) (aCons (eV 1) (aCons (eV 2) aNil))) (aCons (eV 3) aNil))))))))))))))
def F_asked : DF := fnD 4 4
 ((sSeq (sIf (tNt (tE (eCall F_is_among [] (aCons (eV 0) (aCons (eC C_ASKS) aNil)))))
  sNever
  sNil)
 (sMatch (eV 0) (mStr "same" (sRet (eOp gEq (eV 1) (eV 2)))
  (mStr "under" (sRet (eOp gLt (eV 1) (eV 2)))
  (mStr "upto" (sRet (eOp gLeW (eV 1) (eV 2)))
  (mStr "below" (sRet (eOp gLt (eCallN F_signed 1 1 (aCons (eV 1) aNil) (aCons (eV 3) aNil)) (eCallN F_signed 1 1 (aCons (eV 2) aNil) (aCons (eV 3) aNil))))
  (mStr "least" (sRet (eOp gLeW (eCallN F_signed 1 1 (aCons (eV 1) aNil) (aCons (eV 3) aNil)) (eCallN F_signed 1 1 (aCons (eV 2) aNil) (aCons (eV 3) aNil))))
  (mStr "bits" (sRet (eOp gNe (eOp gAnd (eV 1) (eV 2)) (eC (.int (0)))))
  (mAny (sRet (eNt (eCallN F_asked_1 3 1 (aCons (eCall F_contrary [] (aCons (eV 0) aNil)) (aCons (eV 1) (aCons (eV 2) aNil))) (aCons (eV 3) aNil))))))))))))))
def F_call_of : DF := fnD 2 5
 ((sSeq (sFor (iES (eOp gIx (eV 0) (eC (.int (1))))) (gT (gsC (gN 2) (gsC (gN 3) (gsC (gN 4) gs0))))
  (sIf (tE (eCall F_is_among [] (aCons (eV 1) (aCons (eTup (aCons (eV 2) aNil)) aNil))))
  (sRet (eTup (aCons (eV 3) (aCons (eV 4) aNil))))
  sNil))
 sNever))
def R_call_of : DFX := fnX 2 5
 ((xThen (sFor (iES (eOp gIx (eV 0) (eC (.int (1))))) (gT (gsC (gN 2) (gsC (gN 3) (gsC (gN 4) gs0))))
  (sIf (tE (eCall F_is_among [] (aCons (eV 1) (aCons (eTup (aCons (eV 2) aNil)) aNil))))
  (sRet (eTup (aCons (eV 3) (aCons (eV 4) aNil))))
  sNil))
 (xRaiseI "NoCall" ["name"] (aCons (eV 1) aNil))))
def F_are_worths : DF := fnD 1 2
 ((sRet (eLockM (eV 0) (eGx "are_worths" false [1] (iKa (eV 0)) (gN 1) (eCall F_is_worth [(.int 16)] (aCons (eV 1) aNil))))))
def F_is_room : DF := fnD 2 2
 ((sRet (eAn (eCB gIsi (aCons (eV 0) (aCons (eC (.con (.ty "list"))) aNil))) (eAn (eOp gEq (eCBR gLenV (aCons (eV 0) aNil)) (eV 1)) (eCall F_are_worths [] (aCons (eV 0) aNil))))))
def F_are_rooms : DF := fnD 2 3
 ((sSeq (sIf (tOo (tNt (tE (eCBR gIsi (aCons (eV 0) (aCons (eC (.con (.ty "dict"))) aNil))))) (tNt (tE (eCall F_are_worths [] (aCons (eV 0) aNil)))))
  (sRet (eC (.bl false)))
  sNil)
 (sRet (eLockM (eV 0) (eGx "are_rooms" false [2] (iVa (eV 0)) (gN 2) (eCall F_is_room [] (aCons (eV 2) (aCons (eV 1) aNil))))))))
def F_are_shelves : DF := fnD 2 4
 ((sSeq (sSet 2 (eCB gDictL (aCons (eOp gIx (eV 1) (eC (.int (0)))) aNil)))
 (sSeq (sIf (tOo (tNt (tE (eCBR gIsi (aCons (eV 0) (aCons (eC (.con (.ty "dict"))) aNil))))) (tE (eOp gNe (eCBR gLenV (aCons (eV 0) aNil)) (eCBR gLenV (aCons (eV 2) aNil)))))
  (sRet (eC (.bl false)))
  sNil)
 (sRet (eLockM (eV 0) (eGx "are_shelves" false [3] (iKa (eV 0)) (gN 3) (eAn (eDInA false (eV 3) (eV 2)) (eCall F_are_rooms [] (aCons (eDGetA (eV 0) (eV 3)) (aCons (eDGetA (eV 2) (eV 3)) aNil))))))))))
def F_look_at_inputs : DF := fnD 4 5
 ((sSeq (sIf (tOo (tNt (tE (eIsiT (eV 1) ["list", "tuple"]))) (tOo (tE (eOp gGt (eCB gLen (aCons (eV 1) aNil)) (eC (.int (16))))) (tNt (tE (eCall F_are_worths [] (aCons (eV 1) aNil))))))
  sNever
  sNil)
 (sSeq (sIf (tAn (tE (eOp gNotN (eV 2) (eC .non))) (tNt (tE (eCall F_are_shelves [] (aCons (eV 2) (aCons (eV 0) aNil))))))
  sNever
  sNil)
 (sIf (tOo (tNt (tE (eIsiT (eV 3) ["list", "tuple"]))) (tNt (tE (eGx "look_at_inputs" false [4] (iES (eV 3)) (gN 4) (eCall F_is_whole [] (aCons (eV 4) aNil))))))
  sNever
  sNil))))
def F_copied_shelves : DF := fnD 1 5
 ((sRet (eLockM (eV 0) (eDcO [1, 2] (iIa (eV 0)) (gT (gsC (gN 1) (gsC (gN 2) gs0))) tY (eV 1) (eLockM (eV 2) (eDcO [3, 4] (iIa (eV 2)) (gT (gsC (gN 3) (gsC (gN 4) gs0))) tY (eV 3) (eNewO (lListA (eV 4)))))))))
def F_bare_shelves : DF := fnD 1 3
 ((sRet (eDcO [1, 2] (iES (eOp gIx (eV 0) (eC (.int (0))))) (gT (gsC (gN 1) (gsC (gN 2) gs0))) tY (eV 1) eNewD)))
def F_moment_of : DF := fnD 1 1
 ((sRet (eTup (aCons (eFld fs_box_values "box_values" (eV 0)) (aCons (eFld fs_pile_values "pile_values" (eV 0)) (aCons (eFld fs_lent_rooms "lent_rooms" (eV 0)) (aCons (eFld fs_askings "askings" (eV 0)) (aCons (eFld fs_answered "answered" (eV 0)) (aCons (eFld fs_at "at" (eV 0)) (aCons (eFld fs_rows_done "rows_done" (eV 0)) (aCons (eFld fs_ending "ending" (eV 0)) aNil)))))))))))
def F_told_end : DF := fnD 1 3
 ((sSeq (sIf (tE (eOp gIsN (eFld fs_ending "ending" (eV 0)) (eC .non)))
  (sRet (eC .non))
  sNil)
 (sSeq (sAsg (eFld fs_ending "ending" (eV 0)) (gT (gsC (gN 1) (gsC (gN 2) gs0))))
 (sRet (eTup (aCons (eV 1) (aCons (eV 2) (aCons (eFld fs_rows_done "rows_done" (eV 0)) (aCons (eCall F_copied_shelves [] (aCons (eFld fs_rooms "rooms" (eV 0)) aNil)) aNil)))))))))
def F_by_value : DF := fnD 2 2
 ((sRet (eIf (tE (eOp gEq (eOp gIx (eV 1) (eC (.int (0)))) (eC (.str "box")))) (eOp gIx (eFld fs_box_values "box_values" (eV 0)) (eOp gIx (eV 1) (eC (.int (1))))) (eTup (aCons (eC (.str "number")) (aCons (eOp gIx (eV 1) (eC (.int (1)))) aNil))))))
def F_put_box : DF := fnD 3 4
 ((sSeq (sSet 3 (eFld fs_box_values "box_values" (eV 0)))
 (sFldO fs_box_values "box_values" (eV 0) (eOp gAdd (eOp gAdd (eSl (eV 3) oNo (oSo (eV 1))) (eTup (aCons (eV 2) aNil))) (eSl (eV 3) (oSo (eOp gAdd (eV 1) (eC (.int (1))))) oNo)))))
def F_moved : DF := fnD 2 2
 ((sRet (eOp gAdd (eSl (eV 0) oNo (oSo (eUn gNeg (eC (.int (1)))))) (eTup (aCons (eOp gAnd (eOp gAdd (eOp gIx (eV 0) (eUn gNeg (eC (.int (1))))) (eV 1)) (eCall F_greatest [] (aCons (eC (.int (16))) aNil))) aNil)))))
def F_room_of : DF := fnD 2 4
 ((sSeq (sAsg (eDGetA (eFld fs_lent_rooms "lent_rooms" (eV 0)) (eV 1)) (gT (gsC (gN 2) (gsC (gN 3) gs0))))
 (sRet (eDGetA (eDGetA (eFld fs_rooms "rooms" (eV 0)) (eV 2)) (eV 3)))))
def F_size_of : DF := fnD 2 2
 ((sMatch (eOp gIx (eV 1) (eC (.int (0)))) (mStr "pile" (sRet (eC (.int (8))))
  (mStr "input" (sRet (eCB gLen (aCons (eFld fs_cells "cells" (eV 0)) aNil)))
  (mAny (sRet (eCBO gLen (eCall F_room_of [] (aCons (eV 0) (aCons (eOp gIx (eV 1) (eC (.int (1)))) aNil))))))))))
def F_cell_value : DF := fnD 2 3
 ((sSeq (sSet 2 (eOp gIx (eV 1) (eUn gNeg (eC (.int (1))))))
 (sMatch (eOp gIx (eV 1) (eC (.int (0)))) (mStr "pile" (sRet (eOp gIx (eFld fs_pile_values "pile_values" (eV 0)) (eV 2)))
  (mStr "input" (sRet (eTup (aCons (eC (.str "number")) (aCons (eOp gIx (eFld fs_cells "cells" (eV 0)) (eV 2)) aNil))))
  (mAny (sRet (eTup (aCons (eC (.str "number")) (aCons (eIxS (eCall F_room_of [] (aCons (eV 0) (aCons (eOp gIx (eV 1) (eC (.int (1)))) aNil))) (eV 2)) aNil))))))))))
def F_put_cell : DF := fnD 3 6
 ((sSeq (sSet 3 (eOp gIx (eV 1) (eUn gNeg (eC (.int (1))))))
 (sSeq (sIf (tE (eOp gEq (eOp gIx (eV 1) (eC (.int (0)))) (eC (.str "pile"))))
  (sSeq (sSet 4 (eFld fs_pile_values "pile_values" (eV 0)))
 (sSeq (sFldO fs_pile_values "pile_values" (eV 0) (eOp gAdd (eOp gAdd (eSl (eV 4) oNo (oSo (eV 3))) (eTup (aCons (eV 2) aNil))) (eSl (eV 4) (oSo (eOp gAdd (eV 3) (eC (.int (1))))) oNo)))
 sRetN))
  sNil)
 (sSeq (sSet 5 (eCall F_room_of [] (aCons (eV 0) (aCons (eOp gIx (eV 1) (eC (.int (1)))) aNil))))
 (sSeq (sFldO fs_written "written" (eV 0) (eOp gAdd (eDGetA (eFld fs_lent_rooms "lent_rooms" (eV 0)) (eOp gIx (eV 1) (eC (.int (1))))) (eTup (aCons (eV 3) (aCons (eIxS (eV 5) (eV 3)) aNil)))))
 (sPutO (eV 5) (eV 3) (eOp gIx (eV 2) (eC (.int (1))))))))))
def F_do_move : DF := fnD 3 4
 ((sSeq (sSet 3 (eOp gIx (eFld fs_box_values "box_values" (eV 0)) (eV 2)))
 (sSeq (sIf (tE (eOp gIsN (eV 3) (eC .non)))
  (sRet (eC (.str "unset")))
  sNil)
 (sSeq (sEx (eCall F_put_box [] (aCons (eV 0) (aCons (eV 1) (aCons (eV 3) aNil)))))
 (sRet (eC .non))))))
def F_deed_value : DF := fnD 3 3
 ((sSeq (sIf (tE (eOp gNe (eOp gIx (eV 2) (eC (.int (0)))) (eC (.str "number"))))
  (sRet (eC .non))
  sNil)
 (sSeq (sIf (tE (eOp gEq (eOp gIx (eV 1) (eC (.int (0)))) (eC (.str "number"))))
  (sRet (eTup (aCons (eC (.str "number")) (aCons (eCall F_done [(.int 16)] (aCons (eV 0) (aCons (eOp gIx (eV 1) (eC (.int (1)))) (aCons (eOp gIx (eV 2) (eC (.int (1)))) aNil)))) aNil))))
  sNil)
 (sSeq (sIf (tE (eOp gEq (eV 0) (eC (.str "plus"))))
  (sRet (eCall F_moved [] (aCons (eV 1) (aCons (eOp gIx (eV 2) (eC (.int (1)))) aNil))))
  sNil)
 (sSeq (sIf (tE (eOp gEq (eV 0) (eC (.str "minus"))))
  (sRet (eCall F_moved [] (aCons (eV 1) (aCons (eUn gNeg (eOp gIx (eV 2) (eC (.int (1))))) aNil))))
  sNil)
 (sRet (eC .non)))))))
def F_do_deed : DF := fnD 4 7
 ((sSeq (sPar 4 5 (aCons (eOp gIx (eFld fs_box_values "box_values" (eV 0)) (eV 2)) (aCons (eCall F_by_value [] (aCons (eV 0) (aCons (eV 3) aNil))) aNil)))
 (sSeq (sIf (tOo (tE (eOp gIsN (eV 4) (eC .non))) (tE (eOp gIsN (eV 5) (eC .non))))
  (sRet (eC (.str "unset")))
  sNil)
 (sSeq (sSet 6 (eCall F_deed_value [] (aCons (eV 1) (aCons (eV 4) (aCons (eV 5) aNil)))))
 (sSeq (sIf (tE (eOp gIsN (eV 6) (eC .non)))
  (sRet (eC (.str "kind")))
  sNil)
 (sSeq (sEx (eCall F_put_box [] (aCons (eV 0) (aCons (eV 2) (aCons (eV 6) aNil)))))
 (sRet (eC .non))))))))
def F_ask_answer : DF := fnD 3 3
 ((sSeq (sIf (tE (eOp gNe (eOp gIx (eV 2) (eC (.int (0)))) (eC (.str "number"))))
  (sRet (eC .non))
  sNil)
 (sSeq (sIf (tE (eOp gEq (eOp gIx (eV 1) (eC (.int (0)))) (eC (.str "number"))))
  (sRet (eCall F_asked [(.int 16)] (aCons (eV 0) (aCons (eOp gIx (eV 1) (eC (.int (1)))) (aCons (eOp gIx (eV 2) (eC (.int (1)))) aNil)))))
  sNil)
 (sSeq (sIf (tAn (tE (eOp gEq (eOp gIx (eV 2) (eC (.int (1)))) (eC (.int (0))))) (tE (eInO (eV 0) (eTup (aCons (eC (.str "same")) (aCons (eC (.str "unlike")) aNil))))))
  (sRet (eOp gEq (eV 0) (eC (.str "unlike"))))
  sNil)
 (sRet (eC .non))))))
def F_do_jump : DF := fnD 5 8
 ((sSeq (sPar 5 6 (aCons (eOp gIx (eFld fs_box_values "box_values" (eV 0)) (eV 2)) (aCons (eCall F_by_value [] (aCons (eV 0) (aCons (eV 3) aNil))) aNil)))
 (sSeq (sIf (tOo (tE (eOp gIsN (eV 5) (eC .non))) (tE (eOp gIsN (eV 6) (eC .non))))
  (sRet (eC (.str "unset")))
  sNil)
 (sSeq (sSet 7 (eCall F_ask_answer [] (aCons (eV 1) (aCons (eV 5) (aCons (eV 6) aNil)))))
 (sSeq (sIf (tE (eOp gIsN (eV 7) (eC .non)))
  (sRet (eC (.str "kind")))
  sNil)
 (sSeq (sIf (tE (eV 7))
  (sFldO fs_at "at" (eV 0) (eV 4))
  sNil)
 (sRet (eC .non))))))))
def F_do_load : DF := fnD 4 7
 ((sSeq (sSet 4 (eOp gIx (eFld fs_box_values "box_values" (eV 0)) (eV 2)))
 (sSeq (sIf (tE (eOp gIsN (eV 4) (eC .non)))
  (sRet (eC (.str "unset")))
  sNil)
 (sSeq (sIf (tE (eOp gEq (eOp gIx (eV 4) (eC (.int (0)))) (eC (.str "number"))))
  (sRet (eC (.str "kind")))
  sNil)
 (sSeq (sSet 5 (eCall F_moved [] (aCons (eV 4) (aCons (eV 3) aNil))))
 (sSeq (sIf (tE (eOp gGe (eOp gIx (eV 5) (eUn gNeg (eC (.int (1))))) (eCall F_size_of [] (aCons (eV 0) (aCons (eV 5) aNil)))))
  (sRet (eC (.str "outside")))
  sNil)
 (sSeq (sSet 6 (eCall F_cell_value [] (aCons (eV 0) (aCons (eV 5) aNil))))
 (sSeq (sIf (tE (eOp gIsN (eV 6) (eC .non)))
  (sRet (eC (.str "unset")))
  sNil)
 (sSeq (sEx (eCall F_put_box [] (aCons (eV 0) (aCons (eV 1) (aCons (eV 6) aNil)))))
 (sRet (eC .non)))))))))))
def F_do_store : DF := fnD 4 7
 ((sSeq (sPar 4 5 (aCons (eOp gIx (eFld fs_box_values "box_values" (eV 0)) (eV 1)) (aCons (eCall F_by_value [] (aCons (eV 0) (aCons (eV 3) aNil))) aNil)))
 (sSeq (sIf (tOo (tE (eOp gIsN (eV 4) (eC .non))) (tE (eOp gIsN (eV 5) (eC .non))))
  (sRet (eC (.str "unset")))
  sNil)
 (sSeq (sIf (tE (eOp gEq (eOp gIx (eV 4) (eC (.int (0)))) (eC (.str "number"))))
  (sRet (eC (.str "kind")))
  sNil)
 (sSeq (sSet 6 (eCall F_moved [] (aCons (eV 4) (aCons (eV 2) aNil))))
 (sSeq (sIf (tE (eOp gGe (eOp gIx (eV 6) (eUn gNeg (eC (.int (1))))) (eCall F_size_of [] (aCons (eV 0) (aCons (eV 6) aNil)))))
  (sRet (eC (.str "outside")))
  sNil)
 (sSeq (sIf (tE (eOp gEq (eOp gIx (eV 6) (eC (.int (0)))) (eC (.str "input"))))
  (sRet (eC (.str "write")))
  sNil)
 (sSeq (sIf (tAn (tE (eOp gEq (eOp gIx (eV 6) (eC (.int (0)))) (eC (.str "room")))) (tE (eOp gNe (eOp gIx (eV 5) (eC (.int (0)))) (eC (.str "number")))))
  (sRet (eC (.str "out")))
  sNil)
 (sSeq (sEx (eCall F_put_cell [] (aCons (eV 0) (aCons (eV 6) (aCons (eV 5) aNil)))))
 (sRet (eC .non)))))))))))
def F_has_numbers : DF := fnD 3 6
 ((sSeq (sIf (tOo (tE (eOp gEq (eOp gIx (eV 1) (eC (.int (0)))) (eC (.str "number")))) (tE (eOp gGt (eOp gAdd (eOp gIx (eV 1) (eUn gNeg (eC (.int (1))))) (eV 2)) (eCall F_size_of [] (aCons (eV 0) (aCons (eV 1) aNil))))))
  (sRet (eC (.bl false)))
  sNil)
 (sSeq (sSet 3 (eL (lComp [4] (iR1 (aCons (eV 2) aNil)) (gN 4) tY (eCall F_cell_value [] (aCons (eV 0) (aCons (eCall F_moved [] (aCons (eV 1) (aCons (eV 4) aNil))) aNil))))))
 (sRet (eGx "has_numbers" false [5] (iES (eV 3)) (gN 5) (eAn (eOp gNotN (eV 5) (eC .non)) (eOp gEq (eOp gIx (eV 5) (eC (.int (0)))) (eC (.str "number")))))))))
def F_is_good_take : DF := fnD 3 6
 ((sMatch (eV 1) (mSeq "number" 2 (gsC (gN 3) (gsC (gN 4) gs0)) (sRet (eAn (eOp gEq (eOp gIx (eV 2) (eC (.int (0)))) (eC (.str "number"))) (eCh gLeW gLeW (eV 3) (eOp gIx (eV 2) (eC (.int (1)))) (eV 4))))
  (mSeq "cells" 1 (gsC (gN 5) gs0) (sRet (eCall F_has_numbers [] (aCons (eV 0) (aCons (eV 2) (aCons (eV 5) aNil)))))
  (mAny (sRet (eAn (eOp gEq (eOp gIx (eV 2) (eC (.int (0)))) (eC (.str "room"))) (eAn (eOp gEq (eOp gIx (eV 2) (eC (.int (2)))) (eC (.int (0)))) (eOp gEq (eOp gIx (eDGetA (eFld fs_lent_rooms "lent_rooms" (eV 0)) (eOp gIx (eV 2) (eC (.int (1))))) (eC (.int (0)))) (eOp gIx (eV 1) (eC (.int (1)))))))))))))
def F_next_answer : DF := fnD 1 1
 ((sSeq (sFldA fs_answered "answered" gAddI (eV 0) (eC (.int (1))))
 (sSeq (sIf (tNt (tTr (eFld fs_answers "answers" (eV 0))))
  (sRet (eC (.int (0))))
  sNil)
 (sRet (eOp gIx (eFld fs_answers "answers" (eV 0)) (eOp gMod (eOp gSub (eFld fs_answered "answered" (eV 0)) (eC (.int (1)))) (eCB gLen (aCons (eFld fs_answers "answers" (eV 0)) aNil))))))))
def F_lent_value : DF := fnD 3 4
 ((sSeq (sSet 3 (eFld fs_askings "askings" (eV 0)))
 (sSeq (sFldA fs_askings "askings" gAddI (eV 0) (eC (.int (1))))
 (sSeq (sIf (tE (eDInA true (eV 2) (eDGetA (eFld fs_rooms "rooms" (eV 0)) (eV 1))))
  (sRet (eTup (aCons (eC (.str "number")) (aCons (eC (.int (0))) aNil))))
  sNil)
 (sSeq (sFldO fs_lent_rooms "lent_rooms" (eV 0) (eDStar (eFld fs_lent_rooms "lent_rooms" (eV 0)) (eV 3) (eTup (aCons (eV 1) (aCons (eV 2) aNil)))))
 (sRet (eTup (aCons (eC (.str "room")) (aCons (eV 3) (aCons (eC (.int (0))) aNil))))))))))
def F_without_asking : DF := fnD 2 3
 ((sRet (eCB gTuple (aCons (eL (lComp [2] (iES (eV 0)) (gN 2) tY (eIf (tAn (tE (eOp gNotN (eV 2) (eC .non))) (tE (eOp gEq (eSl (eV 2) oNo (oSo (eC (.int (2))))) (eTup (aCons (eC (.str "room")) (aCons (eV 1) aNil)))))) (eC .non) (eV 2)))) aNil))))
def F_forget_asking : DF := fnD 2 4
 ((sSeq (sSet 2 (eFld fs_lent_rooms "lent_rooms" (eV 0)))
 (sSeq (sFldO fs_lent_rooms "lent_rooms" (eV 0) (eLockM (eV 2) (eDcO [3] (iKa (eV 2)) (gN 3) (tE (eOp gNe (eV 3) (eV 1))) (eV 3) (eDGetA (eV 2) (eV 3)))))
 (sSeq (sFldO fs_box_values "box_values" (eV 0) (eCall F_without_asking [] (aCons (eFld fs_box_values "box_values" (eV 0)) (aCons (eV 1) aNil))))
 (sFldO fs_pile_values "pile_values" (eV 0) (eCall F_without_asking [] (aCons (eFld fs_pile_values "pile_values" (eV 0)) (aCons (eV 1) aNil))))))))
def F_given_value : DF := fnD 2 5
 ((sMatch (eV 1) (mSeq "number" 2 (gsC (gN 2) (gsC (gN 3) gs0)) (sRet (eTup (aCons (eC (.str "number")) (aCons (eOp gAdd (eV 2) (eOp gMod (eCall F_next_answer [] (aCons (eV 0) aNil)) (eOp gAdd (eOp gSub (eV 3) (eV 2)) (eC (.int (1)))))) aNil))))
  (mSeq "lent" 1 (gsC (gN 4) gs0) (sRet (eCall F_lent_value [] (aCons (eV 0) (aCons (eV 4) (aCons (eOp gIx (eOp gIx (eFld fs_box_values "box_values" (eV 0)) (eC (.int (1)))) (eC (.int (1)))) aNil)))))
  (mAny (sSeq (sEx (eCall F_forget_asking [] (aCons (eV 0) (aCons (eOp gIx (eOp gIx (eFld fs_box_values "box_values" (eV 0)) (eC (.int (1)))) (eC (.int (1)))) aNil))))
 (sRet (eTup (aCons (eC (.str "number")) (aCons (eC (.int (0))) aNil))))))))))
def F_do_call : DF := fnD 2 7
 ((sSeq (sTryN (sAsg (eCall F_call_of [] (aCons (eFld fs_terms "terms" (eV 0)) (aCons (eV 1) aNil))) (gT (gsC (gN 2) (gsC (gN 3) gs0))))
 (xCall R_call_of [] (aCons (eFld fs_terms "terms" (eV 0)) (aCons (eV 1) aNil))) ["NoCall"]
 (sRet (eC (.str "call"))))
 (sSeq (sFor (iEn (aCons (eV 2) aNil)) (gT (gsC (gN 4) (gsC (gN 5) gs0)))
  (sSeq (sSet 6 (eOp gIx (eFld fs_box_values "box_values" (eV 0)) (eOp gAdd (eV 4) (eC (.int (1))))))
 (sSeq (sIf (tE (eOp gIsN (eV 6) (eC .non)))
  (sRet (eC (.str "unset")))
  sNil)
 (sIf (tNt (tE (eCall F_is_good_take [] (aCons (eV 0) (aCons (eV 5) (aCons (eV 6) aNil))))))
  (sRet (eC (.str "call")))
  sNil))))
 (sSeq (sSet 6 (eCall F_given_value [] (aCons (eV 0) (aCons (eV 3) aNil))))
 (sSeq (sFldO fs_box_values "box_values" (eV 0) (eOp gAdd (eTup (aCons (eV 6) (aCons (eC .non) (aCons (eC .non) (aCons (eC .non) aNil))))) (eSl (eFld fs_box_values "box_values" (eV 0)) (oSo (eC (.int (4)))) oNo)))
 (sRet (eC .non)))))))
def F_do_end : DF := fnD 1 2
 ((sSeq (sSet 1 (eOp gIx (eFld fs_box_values "box_values" (eV 0)) (eC (.int (0)))))
 (sSeq (sIf (tE (eOp gIsN (eV 1) (eC .non)))
  (sRet (eC (.str "unset")))
  sNil)
 (sSeq (sIf (tE (eOp gNe (eOp gIx (eV 1) (eC (.int (0)))) (eC (.str "number"))))
  (sRet (eC (.str "out")))
  sNil)
 (sSeq (sIf (tTr (eFld fs_lent_rooms "lent_rooms" (eV 0)))
  (sRet (eC (.str "kept")))
  sNil)
 (sSeq (sFldO fs_ending "ending" (eV 0) (eTup (aCons (eC (.str "end")) (aCons (eOp gIx (eV 1) (eC (.int (1)))) aNil))))
 (sRet (eC .non))))))))
def F_do_row : DF := fnD 2 10
 ((sMatch (eV 1) (mSeq "set" 2 (gsC (gN 2) (gsC (gN 3) gs0)) (sSeq (sEx (eCall F_put_box [] (aCons (eV 0) (aCons (eV 2) (aCons (eTup (aCons (eC (.str "number")) (aCons (eV 3) aNil))) aNil)))))
 (sRet (eC .non)))
  (mSeq "move" 2 (gsC (gN 2) (gsC (gN 4) gs0)) (sRet (eCall F_do_move [] (aCons (eV 0) (aCons (eV 2) (aCons (eV 4) aNil)))))
  (mSeq "do" 3 (gsC (gN 5) (gsC (gN 2) (gsC (gN 6) gs0))) (sRet (eCall F_do_deed [] (aCons (eV 0) (aCons (eV 5) (aCons (eV 2) (aCons (eV 6) aNil))))))
  (mSeq "jump" 4 (gsC (gN 5) (gsC (gN 2) (gsC (gN 6) (gsC (gN 7) gs0)))) (sRet (eCall F_do_jump [] (aCons (eV 0) (aCons (eV 5) (aCons (eV 2) (aCons (eV 6) (aCons (eV 7) aNil)))))))
  (mSeq "go" 1 (gsC (gN 7) gs0) (sSeq (sFldO fs_at "at" (eV 0) (eV 7))
 (sRet (eC .non)))
  (mSeq "load" 3 (gsC (gN 2) (gsC (gN 4) (gsC (gN 8) gs0))) (sRet (eCall F_do_load [] (aCons (eV 0) (aCons (eV 2) (aCons (eV 4) (aCons (eV 8) aNil))))))
  (mSeq "store" 3 (gsC (gN 2) (gsC (gN 8) (gsC (gN 6) gs0))) (sRet (eCall F_do_store [] (aCons (eV 0) (aCons (eV 2) (aCons (eV 8) (aCons (eV 6) aNil))))))
  (mSeq "call" 1 (gsC (gN 9) gs0) (sRet (eCall F_do_call [] (aCons (eV 0) (aCons (eV 9) aNil))))
  (mAny (sRet (eCall F_do_end [] (aCons (eV 0) aNil))))))))))))))
def F_do_step : DF := fnD 1 3
 ((sSeq (sFldO fs_written "written" (eV 0) (eC .non))
 (sSeq (sIf (tE (eOp gEq (eFld fs_at "at" (eV 0)) (eCB gLen (aCons (eFld fs_rows "rows" (eV 0)) aNil))))
  (sSeq (sFldO fs_ending "ending" (eV 0) (eTup (aCons (eC (.str "off")) (aCons (eC .non) aNil))))
 sRetN)
  sNil)
 (sSeq (sSet 1 (eOp gIx (eFld fs_rows "rows" (eV 0)) (eFld fs_at "at" (eV 0))))
 (sSeq (sFldA fs_at "at" gAddI (eV 0) (eC (.int (1))))
 (sSeq (sFldA fs_rows_done "rows_done" gAddI (eV 0) (eC (.int (1))))
 (sSeq (sSet 2 (eCall F_do_row [] (aCons (eV 0) (aCons (eV 1) aNil))))
 (sIf (tE (eOp gNotN (eV 2) (eC .non)))
  (sFldO fs_ending "ending" (eV 0) (eTup (aCons (eV 2) (aCons (eC .non) aNil))))
  sNil))))))))
def F_Machine___init__ : DF := fnD 6 7
 ((sSeq (sEx (eCall F_look_at_inputs [] (aCons (eV 2) (aCons (eV 3) (aCons (eV 4) (aCons (eV 5) aNil))))))
 (sSeq (sFldO fs_rows "rows" (eV 0) (eCB gList (aCons (eV 1) aNil)))
 (sSeq (sFldO fs_terms "terms" (eV 0) (eTup (aCons (eCB gList (aCons (eOp gIx (eV 2) (eC (.int (0)))) aNil)) (aCons (eCB gList (aCons (eOp gIx (eV 2) (eC (.int (1)))) aNil)) aNil))))
 (sSeq (sFldO fs_cells "cells" (eV 0) (eCB gList (aCons (eV 3) aNil)))
 (sSeq (sFldO fs_answers "answers" (eV 0) (eCB gList (aCons (eV 5) aNil)))
 (sSeq (sFldO fs_rooms "rooms" (eV 0) (eIf (tE (eOp gIsN (eV 4) (eC .non))) (eCall F_bare_shelves [] (aCons (eV 2) aNil)) (eCall F_copied_shelves [] (aCons (eV 4) aNil))))
 (sSeq (sSet 6 (eTup (aCons (eTup (aCons (eC (.str "pile")) (aCons (eC (.int (0))) aNil))) (aCons (eTup (aCons (eC (.str "input")) (aCons (eC (.int (0))) aNil))) (aCons (eTup (aCons (eC (.str "number")) (aCons (eCB gLen (aCons (eV 3) aNil)) aNil))) aNil)))))
 (sSeq (sFldO fs_box_values "box_values" (eV 0) (eOp gAdd (eV 6) (eOp gMulT (eTup (aCons (eC .non) aNil)) (eOp gSub (eC (.int (6))) (eCB gLen (aCons (eV 6) aNil))))))
 (sSeq (sFldO fs_pile_values "pile_values" (eV 0) (eOp gMulT (eTup (aCons (eC .non) aNil)) (eC (.int (8)))))
 (sSeq (sFldO fs_lent_rooms "lent_rooms" (eV 0) eNewD)
 (sSeq (sFldO fs_askings "askings" (eV 0) (eC (.int (0))))
 (sSeq (sFldO fs_answered "answered" (eV 0) (eC (.int (0))))
 (sSeq (sFldO fs_at "at" (eV 0) (eC (.int (0))))
 (sSeq (sFldO fs_rows_done "rows_done" (eV 0) (eC (.int (0))))
 (sSeq (sFldO fs_ending "ending" (eV 0) (eC .non))
 (sFldO fs_written "written" (eV 0) (eC .non))))))))))))))))))
def F_run : DF := fnD 6 7
 ((sSeq (sSet 6 (eMake "Machine" F_Machine___init__ [] (aCons (eV 0) (aCons (eV 1) (aCons (eV 2) (aCons (eV 3) (aCons (eV 4) aNil)))))))
 (sSeq (sWhile (tE (eOp gIsN (eFld fs_ending "ending" (eV 6)) (eC .non)))
  (sIf (tE (eOp gGe (eFld fs_rows_done "rows_done" (eV 6)) (eV 5)))
  (sFldO fs_ending "ending" (eV 6) (eTup (aCons (eC (.str "over")) (aCons (eC .non) aNil))))
  (sEx (eCall F_do_step [] (aCons (eV 6) aNil)))))
 (sRet (eCall F_told_end [] (aCons (eV 6) aNil))))))
def F_l_pool : DF := fnD 2 5
 ((sSeq (sSet 2 (eOp gAdd (eOp gMul (eC (.int (7))) (eCB gSum (aCons (eSl (eV 0) oNo (oSo (eC (.int (63))))) aNil))) (eV 1)))
 (sSeq (sIf (tE (eOp gLt (eV 1) (eCB gLen (aCons (eV 0) aNil))))
  (sSet 2 (eOp gIx (eV 0) (eV 1)))
  sNil)
 (sSeq (sSet 3 (eCB gAbs (aCons (eV 2) aNil)))
 (sSeq (sSet 4 (eOp gMod (eOp gMul (eOp gAdd (eOp gAdd (eOp gAdd (eOp gMod (eV 3) (eC (.int (2147483629)))) (eOp gMul (eOp gMul (eC (.int (7919))) (eV 1)) (eV 1))) (eOp gMul (eC (.int (31))) (eV 1))) (eC (.int (17)))) (eC (.int (48271)))) (eC (.int (2147483647)))))
 (sRet (eNewO (lDisp (aCons (eOp gMul (eV 3) (eCB gInt (aCons (eOp gGe (eV 3) (eOp gPow (eC (.int (10))) (eC (.int (18))))) aNil))) (aCons (eOp gMod (eOp gMul (eV 4) (eV 4)) (eC (.int (2147483629)))) aNil))))))))))
def F_l_take : DF := fnD 2 3
 ((sSeq (sIf (tE (eOp gGt (eIxS (eV 0) (eC (.int (0)))) (eC (.int (0)))))
  (sSeq (sSet 2 (eOp gMod (eIxS (eV 0) (eC (.int (0)))) (eV 1)))
 (sSeq (sPutO (eV 0) (eC (.int (0))) (eOp gDiv (eIxS (eV 0) (eC (.int (0)))) (eV 1)))
 (sRet (eV 2))))
  sNil)
 (sSeq (sPutO (eV 0) (eC (.int (1))) (eOp gMod (eOp gAdd (eOp gMul (eIxS (eV 0) (eC (.int (1)))) (eC (.int (48271)))) (eC (.int (11)))) (eC (.int (2147483647)))))
 (sRet (eOp gMod (eOp gDiv (eOp gMod (eOp gMul (eIxS (eV 0) (eC (.int (1)))) (eIxS (eV 0) (eC (.int (1))))) (eC (.int (2147483629)))) (eC (.int (16)))) (eV 1))))))
def F_l_contract : DF := fnD 1 3
 ((sSeq (sSet 1 (eTup (aCons (eC (.str "number")) (aCons (eC (.int (0))) (aCons (eC (.int (65535))) aNil)))))
 (sSeq (sOwn 2 (lDisp (aCons (eTup (aCons (eC (.str "find")) (aCons (eTup (aCons (eV 1) aNil)) (aCons (eTup (aCons (eC (.str "lent")) (aCons (eC (.str "rooms")) aNil))) aNil)))) (aCons (eTup (aCons (eC (.str "back")) (aCons (eTup (aCons (eTup (aCons (eC (.str "room")) (aCons (eC (.str "rooms")) aNil))) aNil)) (aCons (eTup (aCons (eC (.str "back")) aNil)) aNil)))) aNil))))
 (sSeq (sApp 2 (eTup (aCons (eC (.str "tell")) (aCons (eTup (aCons (eTup (aCons (eC (.str "number")) (aCons (eC (.int (0))) (aCons (eC (.int (255))) aNil)))) (aCons (eTup (aCons (eC (.str "cells")) (aCons (eC (.int (2))) aNil))) aNil))) (aCons (eTup (aCons (eC (.str "number")) (aCons (eC (.int (0))) (aCons (eC (.int (7))) aNil)))) aNil)))))
 (sSeq (sOwn 2 (lAdd (eV 2) (eL (lDisp (aCons (eTup (aCons (eC (.str "ask")) (aCons (eTup aNil) (aCons (eTup (aCons (eC (.str "number")) (aCons (eC (.int (3))) (aCons (eC (.int (65535))) aNil)))) aNil)))) (aCons (eTup (aCons (eC (.str "seek")) (aCons (eTup (aCons (eTup (aCons (eC (.str "number")) (aCons (eC (.int (0))) (aCons (eC (.int (9))) aNil)))) aNil)) (aCons (eTup (aCons (eC (.str "lent")) (aCons (eC (.str "bits")) aNil))) aNil)))) aNil))))))
 (sSeq (sApp 2 (eTup (aCons (eC (.str "give")) (aCons (eTup (aCons (eTup (aCons (eC (.str "room")) (aCons (eC (.str "bits")) aNil))) (aCons (eTup (aCons (eC (.str "cells")) (aCons (eC (.int (1))) aNil))) aNil))) (aCons (eTup (aCons (eC (.str "back")) aNil)) aNil)))))
 (sRet (eTup (aCons (eL (lDisp (aCons (eTup (aCons (eC (.str "rooms")) (aCons (eV 0) aNil))) (aCons (eTup (aCons (eC (.str "bits")) (aCons (eC (.int (1))) aNil))) aNil)))) (aCons (eV 2) aNil))))))))))
def F_l_plain : DF := fnD 0 3
 ((sSeq (sSet 0 (eTup (aCons (eC (.str "end")) aNil)))
 (sSeq (sOwn 1 (lDisp (aCons (eTup (aCons (eL (lDisp (aCons (eV 0) aNil))) (aCons (eC (.str "out")) (aCons (eC (.int (1))) aNil)))) (aCons (eTup (aCons (eL (lDisp (aCons (eTup (aCons (eC (.str "set")) (aCons (eC (.int (0))) (aCons (eC (.int (7))) aNil)))) (aCons (eV 0) aNil)))) (aCons (eC (.str "end")) (aCons (eC (.int (2))) aNil)))) aNil))))
 (sSeq (sOwn 1 (lAdd (eV 1) (eL (lDisp (aCons (eTup (aCons (eL (lDisp (aCons (eTup (aCons (eC (.str "move")) (aCons (eC (.int (0))) (aCons (eC (.int (3))) aNil)))) (aCons (eV 0) aNil)))) (aCons (eC (.str "unset")) (aCons (eC (.int (1))) aNil)))) (aCons (eTup (aCons (eL (lDisp (aCons (eTup (aCons (eC (.str "go")) (aCons (eC (.int (0))) aNil))) aNil))) (aCons (eC (.str "over")) (aCons (eC (.int (50))) aNil)))) aNil))))))
 (sSeq (sOwn 1 (lAdd (eV 1) (eL (lDisp (aCons (eTup (aCons (eL (lDisp (aCons (eTup (aCons (eC (.str "set")) (aCons (eC (.int (0))) (aCons (eC (.int (1))) aNil)))) aNil))) (aCons (eC (.str "off")) (aCons (eC (.int (1))) aNil)))) (aCons (eTup (aCons (eL (lDisp (aCons (eTup (aCons (eC (.str "do")) (aCons (eC (.str "plus")) (aCons (eC (.int (3))) (aCons (eTup (aCons (eC (.str "worth")) (aCons (eC (.int (1))) aNil))) aNil))))) aNil))) (aCons (eC (.str "unset")) (aCons (eC (.int (1))) aNil)))) aNil))))))
 (sSeq (sOwn 1 (lAdd (eV 1) (eL (lDisp (aCons (eTup (aCons (eL (lDisp (aCons (eTup (aCons (eC (.str "do")) (aCons (eC (.str "plus")) (aCons (eC (.int (2))) (aCons (eTup (aCons (eC (.str "box")) (aCons (eC (.int (3))) aNil))) aNil))))) aNil))) (aCons (eC (.str "unset")) (aCons (eC (.int (1))) aNil)))) aNil)))))
 (sSeq (sOwn 1 (lAdd (eV 1) (eL (lDisp (aCons (eTup (aCons (eL (lDisp (aCons (eTup (aCons (eC (.str "do")) (aCons (eC (.str "times")) (aCons (eC (.int (0))) (aCons (eTup (aCons (eC (.str "worth")) (aCons (eC (.int (1))) aNil))) aNil))))) aNil))) (aCons (eC (.str "kind")) (aCons (eC (.int (1))) aNil)))) aNil)))))
 (sSeq (sOwn 1 (lAdd (eV 1) (eL (lDisp (aCons (eTup (aCons (eL (lDisp (aCons (eTup (aCons (eC (.str "do")) (aCons (eC (.str "plus")) (aCons (eC (.int (2))) (aCons (eTup (aCons (eC (.str "box")) (aCons (eC (.int (0))) aNil))) aNil))))) aNil))) (aCons (eC (.str "kind")) (aCons (eC (.int (1))) aNil)))) aNil)))))
 (sSeq (sOwn 1 (lAdd (eV 1) (eL (lDisp (aCons (eTup (aCons (eL (lDisp (aCons (eTup (aCons (eC (.str "do")) (aCons (eC (.str "plus")) (aCons (eC (.int (0))) (aCons (eTup (aCons (eC (.str "box")) (aCons (eC (.int (0))) aNil))) aNil))))) aNil))) (aCons (eC (.str "kind")) (aCons (eC (.int (1))) aNil)))) aNil)))))
 (sSeq (sOwn 1 (lAdd (eV 1) (eL (lDisp (aCons (eTup (aCons (eL (lDisp (aCons (eTup (aCons (eC (.str "jump")) (aCons (eC (.str "same")) (aCons (eC (.int (3))) (aCons (eTup (aCons (eC (.str "worth")) (aCons (eC (.int (0))) aNil))) (aCons (eC (.int (0))) aNil)))))) aNil))) (aCons (eC (.str "unset")) (aCons (eC (.int (1))) aNil)))) aNil)))))
 (sSeq (sOwn 1 (lAdd (eV 1) (eL (lDisp (aCons (eTup (aCons (eL (lDisp (aCons (eTup (aCons (eC (.str "jump")) (aCons (eC (.str "same")) (aCons (eC (.int (0))) (aCons (eTup (aCons (eC (.str "worth")) (aCons (eC (.int (1))) aNil))) (aCons (eC (.int (0))) aNil)))))) aNil))) (aCons (eC (.str "kind")) (aCons (eC (.int (1))) aNil)))) aNil)))))
 (sSeq (sOwn 1 (lAdd (eV 1) (eL (lDisp (aCons (eTup (aCons (eL (lDisp (aCons (eTup (aCons (eC (.str "jump")) (aCons (eC (.str "under")) (aCons (eC (.int (0))) (aCons (eTup (aCons (eC (.str "worth")) (aCons (eC (.int (0))) aNil))) (aCons (eC (.int (0))) aNil)))))) aNil))) (aCons (eC (.str "kind")) (aCons (eC (.int (1))) aNil)))) aNil)))))
 (sSeq (sOwn 1 (lAdd (eV 1) (eL (lDisp (aCons (eTup (aCons (eL (lDisp (aCons (eTup (aCons (eC (.str "jump")) (aCons (eC (.str "same")) (aCons (eC (.int (2))) (aCons (eTup (aCons (eC (.str "box")) (aCons (eC (.int (0))) aNil))) (aCons (eC (.int (0))) aNil)))))) aNil))) (aCons (eC (.str "kind")) (aCons (eC (.int (1))) aNil)))) aNil)))))
 (sSeq (sOwn 1 (lAdd (eV 1) (eL (lDisp (aCons (eTup (aCons (eL (lDisp (aCons (eTup (aCons (eC (.str "jump")) (aCons (eC (.str "same")) (aCons (eC (.int (0))) (aCons (eTup (aCons (eC (.str "worth")) (aCons (eC (.int (0))) aNil))) (aCons (eC (.int (0))) aNil)))))) (aCons (eTup (aCons (eC (.str "set")) (aCons (eC (.int (0))) (aCons (eC (.int (3))) aNil)))) (aCons (eV 0) aNil))))) (aCons (eC (.str "end")) (aCons (eC (.int (3))) aNil)))) aNil)))))
 (sSeq (sOwn 1 (lAdd (eV 1) (eL (lDisp (aCons (eTup (aCons (eL (lDisp (aCons (eTup (aCons (eC (.str "jump")) (aCons (eC (.str "unlike")) (aCons (eC (.int (1))) (aCons (eTup (aCons (eC (.str "worth")) (aCons (eC (.int (0))) aNil))) (aCons (eC (.int (2))) aNil)))))) (aCons (eTup (aCons (eC (.str "go")) (aCons (eC (.int (1))) aNil))) (aCons (eTup (aCons (eC (.str "set")) (aCons (eC (.int (0))) (aCons (eC (.int (3))) aNil)))) (aCons (eV 0) aNil)))))) (aCons (eC (.str "end")) (aCons (eC (.int (3))) aNil)))) aNil)))))
 (sSeq (sOwn 1 (lAdd (eV 1) (eL (lDisp (aCons (eTup (aCons (eL (lDisp (aCons (eTup (aCons (eC (.str "load")) (aCons (eC (.int (3))) (aCons (eC (.int (2))) (aCons (eC (.int (0))) aNil))))) aNil))) (aCons (eC (.str "kind")) (aCons (eC (.int (1))) aNil)))) (aCons (eTup (aCons (eL (lDisp (aCons (eTup (aCons (eC (.str "load")) (aCons (eC (.int (3))) (aCons (eC (.int (4))) (aCons (eC (.int (0))) aNil))))) aNil))) (aCons (eC (.str "unset")) (aCons (eC (.int (1))) aNil)))) aNil))))))
 (sSeq (sOwn 1 (lAdd (eV 1) (eL (lDisp (aCons (eTup (aCons (eL (lDisp (aCons (eTup (aCons (eC (.str "load")) (aCons (eC (.int (3))) (aCons (eC (.int (0))) (aCons (eC (.int (8))) aNil))))) aNil))) (aCons (eC (.str "outside")) (aCons (eC (.int (1))) aNil)))) (aCons (eTup (aCons (eL (lDisp (aCons (eTup (aCons (eC (.str "load")) (aCons (eC (.int (3))) (aCons (eC (.int (0))) (aCons (eUn gNeg (eC (.int (1)))) aNil))))) aNil))) (aCons (eC (.str "outside")) (aCons (eC (.int (1))) aNil)))) aNil))))))
 (sSeq (sOwn 1 (lAdd (eV 1) (eL (lDisp (aCons (eTup (aCons (eL (lDisp (aCons (eTup (aCons (eC (.str "load")) (aCons (eC (.int (3))) (aCons (eC (.int (0))) (aCons (eC (.int (7))) aNil))))) aNil))) (aCons (eC (.str "unset")) (aCons (eC (.int (1))) aNil)))) (aCons (eTup (aCons (eL (lDisp (aCons (eTup (aCons (eC (.str "load")) (aCons (eC (.int (3))) (aCons (eC (.int (1))) (aCons (eC (.int (2))) aNil))))) aNil))) (aCons (eC (.str "outside")) (aCons (eC (.int (1))) aNil)))) aNil))))))
 (sSeq (sOwn 1 (lAdd (eV 1) (eL (lDisp (aCons (eTup (aCons (eL (lDisp (aCons (eTup (aCons (eC (.str "load")) (aCons (eC (.int (0))) (aCons (eC (.int (1))) (aCons (eC (.int (1))) aNil))))) (aCons (eV 0) aNil)))) (aCons (eC (.str "end")) (aCons (eC (.int (2))) aNil)))) (aCons (eTup (aCons (eL (lDisp (aCons (eTup (aCons (eC (.str "store")) (aCons (eC (.int (1))) (aCons (eC (.int (0))) (aCons (eTup (aCons (eC (.str "worth")) (aCons (eC (.int (1))) aNil))) aNil))))) aNil))) (aCons (eC (.str "write")) (aCons (eC (.int (1))) aNil)))) aNil))))))
 (sSeq (sOwn 1 (lAdd (eV 1) (eL (lDisp (aCons (eTup (aCons (eL (lDisp (aCons (eTup (aCons (eC (.str "store")) (aCons (eC (.int (1))) (aCons (eC (.int (2))) (aCons (eTup (aCons (eC (.str "worth")) (aCons (eC (.int (1))) aNil))) aNil))))) aNil))) (aCons (eC (.str "outside")) (aCons (eC (.int (1))) aNil)))) aNil)))))
 (sSeq (sOwn 1 (lAdd (eV 1) (eL (lDisp (aCons (eTup (aCons (eL (lDisp (aCons (eTup (aCons (eC (.str "store")) (aCons (eC (.int (2))) (aCons (eC (.int (0))) (aCons (eTup (aCons (eC (.str "box")) (aCons (eC (.int (3))) aNil))) aNil))))) aNil))) (aCons (eC (.str "unset")) (aCons (eC (.int (1))) aNil)))) aNil)))))
 (sSeq (sOwn 1 (lAdd (eV 1) (eL (lDisp (aCons (eTup (aCons (eL (lDisp (aCons (eTup (aCons (eC (.str "store")) (aCons (eC (.int (2))) (aCons (eC (.int (0))) (aCons (eTup (aCons (eC (.str "worth")) (aCons (eC (.int (3))) aNil))) aNil))))) aNil))) (aCons (eC (.str "kind")) (aCons (eC (.int (1))) aNil)))) aNil)))))
 (sSeq (sOwn 1 (lAdd (eV 1) (eL (lDisp (aCons (eTup (aCons (eL (lDisp (aCons (eTup (aCons (eC (.str "store")) (aCons (eC (.int (0))) (aCons (eC (.int (7))) (aCons (eTup (aCons (eC (.str "box")) (aCons (eC (.int (1))) aNil))) aNil))))) (aCons (eTup (aCons (eC (.str "load")) (aCons (eC (.int (0))) (aCons (eC (.int (0))) (aCons (eC (.int (7))) aNil))))) (aCons (eV 0) aNil))))) (aCons (eC (.str "out")) (aCons (eC (.int (3))) aNil)))) aNil)))))
 (sSeq (sOwn 1 (lAdd (eV 1) (eL (lDisp (aCons (eTup (aCons (eL (lDisp (aCons (eTup (aCons (eC (.str "do")) (aCons (eC (.str "minus")) (aCons (eC (.int (0))) (aCons (eTup (aCons (eC (.str "worth")) (aCons (eC (.int (1))) aNil))) aNil))))) (aCons (eTup (aCons (eC (.str "load")) (aCons (eC (.int (3))) (aCons (eC (.int (0))) (aCons (eC (.int (1))) aNil))))) aNil)))) (aCons (eC (.str "unset")) (aCons (eC (.int (2))) aNil)))) aNil)))))
 (sSeq (sSet 2 (eL (lDisp (aCons (eTup (aCons (eC (.str "do")) (aCons (eC (.str "plus")) (aCons (eC (.int (0))) (aCons (eTup (aCons (eC (.str "worth")) (aCons (eC (.int (65535))) aNil))) aNil))))) (aCons (eTup (aCons (eC (.str "store")) (aCons (eC (.int (0))) (aCons (eC (.int (1))) (aCons (eTup (aCons (eC (.str "worth")) (aCons (eC (.int (5))) aNil))) aNil))))) aNil)))))
 (sSeq (sApp 1 (eTup (aCons (eOp gAdd (eV 2) (eL (lDisp (aCons (eTup (aCons (eC (.str "load")) (aCons (eC (.int (0))) (aCons (eC (.int (0))) (aCons (eC (.int (1))) aNil))))) (aCons (eV 0) aNil))))) (aCons (eC (.str "end")) (aCons (eC (.int (4))) aNil)))))
 (sRet (eV 1))))))))))))))))))))))))))))
def F_l_calls : DF := fnD 0 3
 ((sSeq (sSet 0 (eTup (aCons (eC (.str "end")) aNil)))
 (sSeq (sSet 1 (eL (lDisp (aCons (eTup (aCons (eC (.str "set")) (aCons (eC (.int (1))) (aCons (eC (.int (1))) aNil)))) (aCons (eTup (aCons (eC (.str "call")) (aCons (eC (.str "find")) aNil))) aNil)))))
 (sSeq (sSet 2 (eL (lDisp (aCons (eTup (aCons (eL (lDisp (aCons (eTup (aCons (eC (.str "call")) (aCons (eC (.str "none")) aNil))) aNil))) (aCons (eC (.str "call")) (aCons (eC (.int (1))) aNil)))) (aCons (eTup (aCons (eL (lDisp (aCons (eTup (aCons (eC (.str "call")) (aCons (eC (.str "find")) aNil))) aNil))) (aCons (eC (.str "call")) (aCons (eC (.int (1))) aNil)))) aNil)))))
 (sSeq (sSet 2 (eOp gAdd (eV 2) (eL (lDisp (aCons (eTup (aCons (eL (lDisp (aCons (eTup (aCons (eC (.str "call")) (aCons (eC (.str "back")) aNil))) aNil))) (aCons (eC (.str "call")) (aCons (eC (.int (1))) aNil)))) (aCons (eTup (aCons (eL (lDisp (aCons (eTup (aCons (eC (.str "set")) (aCons (eC (.int (1))) (aCons (eC (.int (1))) aNil)))) (aCons (eTup (aCons (eC (.str "call")) (aCons (eC (.str "back")) aNil))) aNil)))) (aCons (eC (.str "call")) (aCons (eC (.int (2))) aNil)))) aNil))))))
 (sSeq (sSet 2 (eOp gAdd (eV 2) (eL (lDisp (aCons (eTup (aCons (eL (lDisp (aCons (eTup (aCons (eC (.str "move")) (aCons (eC (.int (1))) (aCons (eC (.int (3))) aNil)))) aNil))) (aCons (eC (.str "unset")) (aCons (eC (.int (1))) aNil)))) (aCons (eTup (aCons (eL (lDisp (aCons (eTup (aCons (eC (.str "call")) (aCons (eC (.str "ask")) aNil))) (aCons (eTup (aCons (eC (.str "call")) (aCons (eC (.str "find")) aNil))) aNil)))) (aCons (eC (.str "unset")) (aCons (eC (.int (2))) aNil)))) aNil))))))
 (sSeq (sSet 2 (eOp gAdd (eV 2) (eL (lDisp (aCons (eTup (aCons (eL (lDisp (aCons (eTup (aCons (eC (.str "set")) (aCons (eC (.int (1))) (aCons (eC (.int (10))) aNil)))) (aCons (eTup (aCons (eC (.str "call")) (aCons (eC (.str "seek")) aNil))) aNil)))) (aCons (eC (.str "call")) (aCons (eC (.int (2))) aNil)))) aNil)))))
 (sSeq (sSet 2 (eOp gAdd (eV 2) (eL (lDisp (aCons (eTup (aCons (eL (lDisp (aCons (eTup (aCons (eC (.str "set")) (aCons (eC (.int (1))) (aCons (eC (.int (256))) aNil)))) (aCons (eTup (aCons (eC (.str "call")) (aCons (eC (.str "tell")) aNil))) aNil)))) (aCons (eC (.str "call")) (aCons (eC (.int (2))) aNil)))) aNil)))))
 (sSeq (sSet 2 (eOp gAdd (eV 2) (eL (lDisp (aCons (eTup (aCons (eL (lDisp (aCons (eTup (aCons (eC (.str "set")) (aCons (eC (.int (1))) (aCons (eC (.int (1))) aNil)))) (aCons (eTup (aCons (eC (.str "call")) (aCons (eC (.str "tell")) aNil))) aNil)))) (aCons (eC (.str "call")) (aCons (eC (.int (2))) aNil)))) aNil)))))
 (sSeq (sSet 2 (eOp gAdd (eV 2) (eL (lDisp (aCons (eTup (aCons (eL (lDisp (aCons (eTup (aCons (eC (.str "set")) (aCons (eC (.int (1))) (aCons (eC (.int (1))) aNil)))) (aCons (eTup (aCons (eC (.str "move")) (aCons (eC (.int (2))) (aCons (eC (.int (0))) aNil)))) (aCons (eTup (aCons (eC (.str "call")) (aCons (eC (.str "tell")) aNil))) aNil))))) (aCons (eC (.str "call")) (aCons (eC (.int (3))) aNil)))) aNil)))))
 (sSeq (sSet 2 (eOp gAdd (eV 2) (eL (lDisp (aCons (eTup (aCons (eL (lDisp (aCons (eTup (aCons (eC (.str "call")) (aCons (eC (.str "ask")) aNil))) (aCons (eV 0) aNil)))) (aCons (eC (.str "end")) (aCons (eC (.int (2))) aNil)))) (aCons (eTup (aCons (eOp gAdd (eV 1) (eL (lDisp (aCons (eV 0) aNil)))) (aCons (eC (.str "out")) (aCons (eC (.int (3))) aNil)))) aNil))))))
 (sSeq (sSet 2 (eOp gAdd (eV 2) (eL (lDisp (aCons (eTup (aCons (eOp gAdd (eV 1) (eL (lDisp (aCons (eTup (aCons (eC (.str "set")) (aCons (eC (.int (0))) (aCons (eC (.int (1))) aNil)))) (aCons (eV 0) aNil))))) (aCons (eC (.str "kept")) (aCons (eC (.int (4))) aNil)))) aNil)))))
 (sSeq (sSet 2 (eOp gAdd (eV 2) (eL (lDisp (aCons (eTup (aCons (eOp gAdd (eV 1) (eL (lDisp (aCons (eTup (aCons (eC (.str "store")) (aCons (eC (.int (0))) (aCons (eC (.int (4))) (aCons (eTup (aCons (eC (.str "worth")) (aCons (eC (.int (1))) aNil))) aNil))))) aNil)))) (aCons (eC (.str "outside")) (aCons (eC (.int (3))) aNil)))) aNil)))))
 (sSeq (sSet 2 (eOp gAdd (eV 2) (eL (lDisp (aCons (eTup (aCons (eOp gAdd (eV 1) (eL (lDisp (aCons (eTup (aCons (eC (.str "store")) (aCons (eC (.int (0))) (aCons (eC (.int (0))) (aCons (eTup (aCons (eC (.str "box")) (aCons (eC (.int (0))) aNil))) aNil))))) aNil)))) (aCons (eC (.str "out")) (aCons (eC (.int (3))) aNil)))) aNil)))))
 (sSeq (sSet 2 (eOp gAdd (eV 2) (eL (lDisp (aCons (eTup (aCons (eOp gAdd (eV 1) (eL (lDisp (aCons (eTup (aCons (eC (.str "move")) (aCons (eC (.int (4))) (aCons (eC (.int (0))) aNil)))) (aCons (eTup (aCons (eC (.str "store")) (aCons (eC (.int (0))) (aCons (eC (.int (0))) (aCons (eTup (aCons (eC (.str "box")) (aCons (eC (.int (4))) aNil))) aNil))))) aNil))))) (aCons (eC (.str "out")) (aCons (eC (.int (4))) aNil)))) aNil)))))
 (sSeq (sSet 2 (eOp gAdd (eV 2) (eL (lDisp (aCons (eTup (aCons (eOp gAdd (eV 1) (eL (lDisp (aCons (eTup (aCons (eC (.str "move")) (aCons (eC (.int (2))) (aCons (eC (.int (3))) aNil)))) aNil)))) (aCons (eC (.str "unset")) (aCons (eC (.int (3))) aNil)))) aNil)))))
 (sSeq (sSet 2 (eOp gAdd (eV 2) (eL (lDisp (aCons (eTup (aCons (eOp gAdd (eV 1) (eL (lDisp (aCons (eTup (aCons (eC (.str "move")) (aCons (eC (.int (1))) (aCons (eC (.int (0))) aNil)))) (aCons (eTup (aCons (eC (.str "call")) (aCons (eC (.str "back")) aNil))) (aCons (eV 0) aNil)))))) (aCons (eC (.str "end")) (aCons (eC (.int (5))) aNil)))) aNil)))))
 (sSeq (sSet 2 (eOp gAdd (eV 2) (eL (lDisp (aCons (eTup (aCons (eOp gAdd (eV 1) (eL (lDisp (aCons (eTup (aCons (eC (.str "load")) (aCons (eC (.int (0))) (aCons (eC (.int (0))) (aCons (eC (.int (3))) aNil))))) (aCons (eV 0) aNil))))) (aCons (eC (.str "kept")) (aCons (eC (.int (4))) aNil)))) aNil)))))
 (sSeq (sSet 2 (eOp gAdd (eV 2) (eL (lDisp (aCons (eTup (aCons (eOp gAdd (eV 1) (eL (lDisp (aCons (eTup (aCons (eC (.str "move")) (aCons (eC (.int (4))) (aCons (eC (.int (0))) aNil)))) (aCons (eTup (aCons (eC (.str "move")) (aCons (eC (.int (1))) (aCons (eC (.int (0))) aNil)))) (aCons (eTup (aCons (eC (.str "call")) (aCons (eC (.str "back")) aNil))) (aCons (eTup (aCons (eC (.str "load")) (aCons (eC (.int (0))) (aCons (eC (.int (4))) (aCons (eC (.int (0))) aNil))))) aNil))))))) (aCons (eC (.str "unset")) (aCons (eC (.int (6))) aNil)))) aNil)))))
 (sSeq (sSet 2 (eOp gAdd (eV 2) (eL (lDisp (aCons (eTup (aCons (eOp gAdd (eV 1) (eL (lDisp (aCons (eTup (aCons (eC (.str "do")) (aCons (eC (.str "plus")) (aCons (eC (.int (0))) (aCons (eTup (aCons (eC (.str "worth")) (aCons (eC (.int (1))) aNil))) aNil))))) (aCons (eTup (aCons (eC (.str "move")) (aCons (eC (.int (1))) (aCons (eC (.int (0))) aNil)))) (aCons (eTup (aCons (eC (.str "call")) (aCons (eC (.str "back")) aNil))) aNil)))))) (aCons (eC (.str "call")) (aCons (eC (.int (5))) aNil)))) aNil)))))
 (sSeq (sSet 2 (eOp gAdd (eV 2) (eL (lDisp (aCons (eTup (aCons (eL (lDisp (aCons (eTup (aCons (eC (.str "set")) (aCons (eC (.int (1))) (aCons (eC (.int (2))) aNil)))) (aCons (eTup (aCons (eC (.str "call")) (aCons (eC (.str "find")) aNil))) (aCons (eV 0) aNil))))) (aCons (eC (.str "end")) (aCons (eC (.int (3))) aNil)))) aNil)))))
 (sSeq (sSet 2 (eOp gAdd (eV 2) (eL (lDisp (aCons (eTup (aCons (eOp gAdd (eV 1) (eL (lDisp (aCons (eTup (aCons (eC (.str "move")) (aCons (eC (.int (1))) (aCons (eC (.int (0))) aNil)))) (aCons (eTup (aCons (eC (.str "call")) (aCons (eC (.str "give")) aNil))) aNil))))) (aCons (eC (.str "call")) (aCons (eC (.int (4))) aNil)))) (aCons (eTup (aCons (eOp gAdd (eV 1) (eV 1)) (aCons (eC (.str "off")) (aCons (eC (.int (4))) aNil)))) aNil))))))
 (sSeq (sSet 2 (eOp gAdd (eV 2) (eL (lDisp (aCons (eTup (aCons (eOp gAdd (eOp gAdd (eOp gAdd (eV 1) (eL (lDisp (aCons (eTup (aCons (eC (.str "move")) (aCons (eC (.int (4))) (aCons (eC (.int (0))) aNil)))) aNil)))) (eV 1)) (eL (lDisp (aCons (eTup (aCons (eC (.str "move")) (aCons (eC (.int (1))) (aCons (eC (.int (0))) aNil)))) (aCons (eTup (aCons (eC (.str "call")) (aCons (eC (.str "back")) aNil))) (aCons (eV 0) aNil)))))) (aCons (eC (.str "kept")) (aCons (eC (.int (8))) aNil)))) aNil)))))
 (sRet (eV 2)))))))))))))))))))))))))
def F_Runner___init__ : DF := fnD 6 6
 ((sSeq (sFldO fs_machine "machine" (eV 0) (eMake "Machine" F_Machine___init__ [] (aCons (eV 1) (aCons (eV 2) (aCons (eV 3) (aCons (eV 4) (aCons (eV 5) aNil)))))))
 (sFldO fs_history "history" (eV 0) (eNewO (lDisp aNil)))))
def F_Runner_step : DF := fnD 1 2
 ((sSeq (sIf (tE (eOp gNotN (eFld fs_ending "ending" (eFld fs_machine "machine" (eV 0))) (eC .non)))
  (sRet (eC (.bl false)))
  sNil)
 (sSeq (sSet 1 (eCall F_moment_of [] (aCons (eFld fs_machine "machine" (eV 0)) aNil)))
 (sSeq (sEx (eCall F_do_step [] (aCons (eFld fs_machine "machine" (eV 0)) aNil)))
 (sSeq (sAppO (eFld fs_history "history" (eV 0)) (eTup (aCons (eV 1) (aCons (eFld fs_written "written" (eFld fs_machine "machine" (eV 0))) aNil))))
 (sRet (eOp gIsN (eFld fs_ending "ending" (eFld fs_machine "machine" (eV 0))) (eC .non))))))))
def F_Runner_told : DF := fnD 1 1
 ((sRet (eCall F_told_end [] (aCons (eFld fs_machine "machine" (eV 0)) aNil))))
def F_l_right : DF := fnD 4 12
 ((sSeq (sSet 4 (eDict (pCons (eC (.str "rooms")) (eDict (pCons (eC (.int (1))) (eL (lDisp (aCons (eC (.int (5))) (aCons (eC (.int (6))) (aCons (eC (.int (7))) (aCons (eC (.int (8))) aNil)))))) pNil)) (pCons (eC (.str "bits")) eNewD pNil))))
 (sSeq (sOwn 5 (lDisp aNil))
 (sSeq (sFor (iES (eV 0)) (gN 6)
  (sApp 5 (eIf (tE (eInO (eOp gIx (eV 6) (eC (.int (0)))) (eTup (aCons (eC (.str "jump")) (aCons (eC (.str "go")) aNil))))) (eOp gAdd (eSl (eV 6) oNo (oSo (eUn gNeg (eC (.int (1)))))) (eTup (aCons (eOp gAdd (eOp gIx (eV 6) (eUn gNeg (eC (.int (1))))) (eCB gLen (aCons (eV 3) aNil))) aNil))) (eV 6))))
 (sSeq (sSet 7 (eCallN F_run 2 4 (aCons (eOp gAdd (eV 3) (eV 5)) (aCons (eCall F_l_contract [] (aCons (eC (.int (4))) aNil)) aNil)) (aCons (eL (lDisp (aCons (eC (.int (3))) (aCons (eC (.int (9))) aNil)))) (aCons (eV 4) (aCons (eL (lDisp (aCons (eC (.int (2))) aNil))) (aCons (eC (.int (50))) aNil))))))
 (sSeq (sSet 8 (eGetO (eDict (pCons (eC (.str "end")) (eOp gIx (eV 7) (eC (.int (1)))) pNil)) (eV 1) (eC .non)))
 (sSeq (sSet 9 (eCB gMin (aCons (eC (.int (50))) (aCons (eOp gAdd (eV 2) (eCB gLen (aCons (eV 3) aNil))) aNil))))
 (sSeq (sIf (tOo (tE (eOp gNe (eSl (eV 7) oNo (oSo (eC (.int (3))))) (eTup (aCons (eV 1) (aCons (eV 8) (aCons (eV 9) aNil)))))) (tOo (tE (eOp gNe (eOp gEq (eV 1) (eC (.str "end"))) (eOp gNotN (eOp gIx (eV 7) (eC (.int (1)))) (eC .non)))) (tE (eOpR gAlikeN (eOp gIx (eV 7) (eC (.int (3)))) (eV 4)))))
  (sRet (eC (.bl false)))
  sNil)
 (sSeq (sSet 10 (eMakeK "Runner" F_Runner___init__ 2 3 (fun xs ys => xs ++ ys) (aCons (eOp gAdd (eV 3) (eV 5)) (aCons (eCall F_l_contract [] (aCons (eC (.int (4))) aNil)) aNil)) (aCons (eL (lDisp (aCons (eC (.int (3))) (aCons (eC (.int (9))) aNil)))) (aCons (eV 4) (aCons (eL (lDisp (aCons (eC (.int (2))) aNil))) aNil)))))
 (sSeq (sFor (iR1 (aCons (eC (.int (50))) aNil)) (gN 11)
  (sEx (eMeth "Runner" "step" F_Runner_step (eV 10) aNil)))
 (sRet (eOo (eAn (eOp gEq (eV 1) (eC (.str "over"))) (eOp gIsN (eMeth "Runner" "told" F_Runner_told (eV 10) aNil) (eC .non))) (eOpR gAlike (eMeth "Runner" "told" F_Runner_told (eV 10) aNil) (eV 7))))))))))))))
def F_law : DF := fnD 1 12
 ((sSeq (sFor (iR1 (aCons (eCB gMax (aCons (eC (.int (1))) (aCons (eCB gMin (aCons (eCB gLen (aCons (eV 0) aNil)) (aCons (eC (.int (6))) aNil))) aNil))) aNil)) (gN 1)
  (sSeq (sSet 2 (eCall F_l_pool [] (aCons (eV 0) (aCons (eV 1) aNil))))
 (sSeq (sSet 3 (eL (lDisp (aCons (eL (lDisp aNil)) (aCons (eL (lDisp (aCons (eTup (aCons (eC (.str "set")) (aCons (eC (.int (5))) (aCons (eC (.int (1))) aNil)))) aNil))) (aCons (eL (lDisp (aCons (eTup (aCons (eC (.str "set")) (aCons (eC (.int (5))) (aCons (eC (.int (2))) aNil)))) (aCons (eTup (aCons (eC (.str "go")) (aCons (eC (.int (2))) aNil))) aNil)))) (aCons (eL (lDisp (aCons (eTup (aCons (eC (.str "move")) (aCons (eC (.int (5))) (aCons (eC (.int (2))) aNil)))) aNil))) aNil)))))))
 (sSeq (sSet 4 (eOp gIx (eV 3) (eCall F_l_take [] (aCons (eV 2) (aCons (eC (.int (4))) aNil)))))
 (sFor (iES (eIso 5 (eOp gAdd (eCall F_l_plain [] aNil) (eCall F_l_calls [] aNil)))) (gT (gsC (gN 5) (gsC (gN 6) (gsC (gN 7) gs0))))
  (sIf (tNt (tE (eIso 5 (eCall F_l_right [] (aCons (eV 5) (aCons (eV 6) (aCons (eV 7) (aCons (eV 4) aNil))))))))
  (sRet (eC (.bl false)))
  sNil))))))
 (sSeq (sSet 8 (eL (lComp [10] (iES (eTup (aCons (eC (.int (1))) (aCons (eC (.int (2))) aNil)))) (gN 10) tY (eIso 5 (eSl (eCallM F_run 2 1 [true, true, true, false] [(.tup []), .non, (.tup [])] (aCons (eL (lDisp (aCons (eTup (aCons (eC (.str "set")) (aCons (eC (.int (0))) (aCons (eC (.int (1))) aNil)))) aNil))) (aCons (eCall F_l_contract [] (aCons (eC (.int (1))) aNil)) aNil)) (aCons (eV 10) aNil)) oNo (oSo (eC (.int (3)))))))))
 (sSeq (sIf (tE (eOp gNe (eV 8) (eL (lDisp (aCons (eTup (aCons (eC (.str "over")) (aCons (eC .non) (aCons (eC (.int (1))) aNil)))) (aCons (eTup (aCons (eC (.str "off")) (aCons (eC .non) (aCons (eC (.int (1))) aNil)))) aNil))))))
  (sRet (eC (.bl false)))
  sNil)
 (sSeq (sSet 9 (eL (lComp [11] (iR1 (aCons (eC (.int (3))) aNil)) (gN 11) tY (eIso 5 (eSl (eCallM F_run 2 1 [false, true, true, true] [.non, (.tup []), (.int 1000)] (aCons (eL (lDisp (aCons (eTup (aCons (eC (.str "load")) (aCons (eC (.int (0))) (aCons (eC (.int (1))) (aCons (eV 11) aNil))))) (aCons (eTup (aCons (eC (.str "end")) aNil)) aNil)))) (aCons (eCall F_l_contract [] (aCons (eC (.int (1))) aNil)) aNil)) (aCons (eL (lDisp (aCons (eC (.int (4))) (aCons (eC (.int (5))) aNil)))) aNil)) oNo (oSo (eC (.int (3)))))))))
 (sRet (eOp gEq (eV 9) (eL (lDisp (aCons (eTup (aCons (eC (.str "end")) (aCons (eC (.int (4))) (aCons (eC (.int (2))) aNil)))) (aCons (eTup (aCons (eC (.str "end")) (aCons (eC (.int (5))) (aCons (eC (.int (2))) aNil)))) (aCons (eTup (aCons (eC (.str "outside")) (aCons (eC .non) (aCons (eC (.int (1))) aNil)))) aNil))))))))))))
section
variable {P : Program} {w : World} {K : PySem.W.Frag} {mg : Str → Option Value} {base : Heap}
theorem ok_greatest (T : Txt w K mg) (TT : Tabs K base mg) : Bg.FnG P w K mg base CX0 1 T.a_greatest T.fd_greatest ["wide"] (spD K F_greatest) :=
  fn_data T.F_greatest sc_greatest fun cdv A outer s H E hr gd => (jss_one (js_ret (je_op oj_sub (je_op oj_shl je_i (je_v 0)) je_i)))
theorem ok_is_whole (T : Txt w K mg) (TT : Tabs K base mg) : Bg.FnG P w K mg base CX0 1 T.a_is_whole T.fd_is_whole ["thing"] (spD K F_is_whole) :=
  fn_data T.F_is_whole sc_is_whole fun cdv A outer s H E hr gd => (jss_one (js_ret (je_and (je_cb cj_isi (by rfl) T.b_isinstance (by decide +kernel) (ja_cons (je_v 0) (ja_cons (je_bl (v := .ty "int") (by rfl) T.b_int (by decide +kernel) rfl) ja_nil))) (je_one (je_not (je_cb cj_isi (by rfl) T.b_isinstance (by decide +kernel) (ja_cons (je_v 0) (ja_cons (je_bl (v := .ty "bool") (by rfl) T.b_bool (by decide +kernel) rfl) ja_nil))))))))
theorem ok_is_worth (T : Txt w K mg) (TT : Tabs K base mg) : Bg.FnG P w K mg base CX0 2 T.a_is_worth T.fd_is_worth ["thing", "wide"] (spD K F_is_worth) :=
  fn_data T.F_is_worth sc_is_worth fun cdv A outer s H E hr gd => (jss_one (js_ret (je_and (je_call (ok_is_whole T TT) (hr.mono (by decide)) gd (by rfl) T.g_is_whole T.F_is_whole.kp T.b_is_whole .nil (fun _ _ => .nil) (ja_cons (je_v 0) ja_nil)) (je_one (je_ch oj_leW oj_leW je_i (je_v 0) (je_call (ok_greatest T TT) (hr.mono (by decide)) gd (by rfl) T.g_greatest T.F_greatest.kp T.b_greatest .nil (fun _ _ => .nil) (ja_cons (je_v 1) ja_nil)))))))
theorem ok_is_among (T : Txt w K mg) (TT : Tabs K base mg) : Bg.FnG P w K mg base CX0 1 T.a_is_among T.fd_is_among ["word", "words"] (spD K F_is_among) :=
  fn_data T.F_is_among sc_is_among fun cdv A outer s H E hr gd => (jss_one (js_ret (je_and (je_cb cj_isi (by rfl) T.b_isinstance (by decide +kernel) (ja_cons (je_v 0) (ja_cons (je_bl (v := .ty "str") (by rfl) T.b_str (by decide +kernel) rfl) ja_nil))) (je_one (je_inO (hu65 hr) (je_v 0) (je_v 1) (by rfl))))))
theorem ok_signed (T : Txt w K mg) (TT : Tabs K base mg) : Bg.FnG P w K mg base CX0 1 T.a_signed T.fd_signed ["worth", "wide"] (spD K F_signed) :=
  fn_data T.F_signed sc_signed fun cdv A outer s H E hr gd => (jss_cons (js_if (jt_cmp (oj_eq hr.units) (je_op oj_shr (je_v 0) (je_op oj_sub (je_v 1) je_i)) je_i (nomark _))
  (jss_one (js_ret (je_v 0)))
  jss_nil)
 (jss_one (js_ret (je_op oj_sub (je_v 0) (je_op oj_shl je_i (je_v 1))))))
theorem ok_moved_left (T : Txt w K mg) (TT : Tabs K base mg) : Bg.FnG P w K mg base CX0 2 T.a_moved_left T.fd_moved_left ["worth", "places", "wide"] (spD K F_moved_left) :=
  fn_data T.F_moved_left sc_moved_left fun cdv A outer s H E hr gd => (jss_cons (js_if (jt_cmp oj_ge (je_v 1) (je_v 2) (nomark _))
  (jss_one (js_ret je_i))
  jss_nil)
 (jss_one (js_ret (je_op oj_and (je_op oj_shl (je_v 0) (je_v 1)) (je_call (ok_greatest T TT) (hr.mono (by decide)) gd (by rfl) T.g_greatest T.F_greatest.kp T.b_greatest .nil (fun _ _ => .nil) (ja_cons (je_v 2) ja_nil))))))
theorem ok_moved_right (T : Txt w K mg) (TT : Tabs K base mg) : Bg.FnG P w K mg base CX0 1 T.a_moved_right T.fd_moved_right ["worth", "places", "wide"] (spD K F_moved_right) :=
  fn_data T.F_moved_right sc_moved_right fun cdv A outer s H E hr gd => (jss_cons (js_if (jt_cmp oj_ge (je_v 1) (je_v 2) (nomark _))
  (jss_one (js_ret je_i))
  jss_nil)
 (jss_one (js_ret (je_op oj_shr (je_v 0) (je_v 1)))))
theorem ok_done (T : Txt w K mg) (TT : Tabs K base mg) : Bg.FnG P w K mg base CX0 3 T.a_done T.fd_done ["word", "one", "other", "wide"] (spD K F_done) :=
  fn_data T.F_done sc_done fun cdv A outer s H E hr gd => (jss_cons (js_if (jt_not (jt_val (je_call (ok_is_among T TT) (hr.mono (by decide)) gd (by rfl) T.g_is_among T.F_is_among.kp T.b_is_among .nil (fun _ _ => .nil) (ja_cons (je_v 0) (ja_cons (je_gl (v := .ref T.a_DEEDS) (d := C_DEEDS) (by rfl) T.g_DEEDS rfl (dr_DEEDS T)) ja_nil)))))
  (jss_one js_never)
  jss_nil)
 (jss_one (js_match (je_v 0) (jm_str (jss_one (js_ret (je_op oj_and (je_op oj_add (je_v 1) (je_v 2)) (je_call (ok_greatest T TT) (hr.mono (by decide)) gd (by rfl) T.g_greatest T.F_greatest.kp T.b_greatest .nil (fun _ _ => .nil) (ja_cons (je_v 3) ja_nil)))))
  (jm_str (jss_one (js_ret (je_op oj_and (je_op oj_sub (je_v 1) (je_v 2)) (je_call (ok_greatest T TT) (hr.mono (by decide)) gd (by rfl) T.g_greatest T.F_greatest.kp T.b_greatest .nil (fun _ _ => .nil) (ja_cons (je_v 3) ja_nil)))))
  (jm_str (jss_one (js_ret (je_op oj_and (je_op oj_mul (je_v 1) (je_v 2)) (je_call (ok_greatest T TT) (hr.mono (by decide)) gd (by rfl) T.g_greatest T.F_greatest.kp T.b_greatest .nil (fun _ _ => .nil) (ja_cons (je_v 3) ja_nil)))))
  (jm_str (jss_one (js_ret (je_op oj_and (je_v 1) (je_v 2))))
  (jm_str (jss_one (js_ret (je_op oj_or (je_v 1) (je_v 2))))
  (jm_str (jss_one (js_ret (je_op oj_xor (je_v 1) (je_v 2))))
  (jm_str (jss_one (js_ret (je_call (ok_moved_left T TT) (hr.mono (by decide)) gd (by rfl) T.g_moved_left T.F_moved_left.kp T.b_moved_left .nil (fun _ _ => .nil) (ja_cons (je_v 1) (ja_cons (je_v 2) (ja_cons (je_v 3) ja_nil))))))
  (jm_any (jss_one (js_ret (je_call (ok_moved_right T TT) (hr.mono (by decide)) gd (by rfl) T.g_moved_right T.F_moved_right.kp T.b_moved_right .nil (fun _ _ => .nil) (ja_cons (je_v 1) (ja_cons (je_v 2) (ja_cons (je_v 3) ja_nil)))))))))))))))))
theorem ok_contrary (T : Txt w K mg) (TT : Tabs K base mg) : Bg.FnG P w K mg base CX0 2 T.a_contrary T.fd_contrary ["word"] (spD K F_contrary) :=
  fn_data T.F_contrary sc_contrary fun cdv A outer s H E hr gd => (jss_cons (js_for PassesOwn.never rfl (ji_es (je_gl (v := .ref T.a_CONTRARIES) (d := C_CONTRARIES) (by rfl) T.g_CONTRARIES rfl (dr_CONTRARIES T))) (jg_t rfl (jgs_C (jg_n (i := 1) sc_contrary.nd rfl (.inl rfl)) (jgs_C (jg_n (i := 2) sc_contrary.nd rfl (.inl rfl)) jgs_0)))
  (jss_one (js_if (jt_val (je_call (ok_is_among T TT) (hr.mono (by decide)) gd (by rfl) T.g_is_among T.F_is_among.kp T.b_is_among .nil (fun _ _ => .nil) (ja_cons (je_v 0) (ja_cons (je_tup (ja_cons (je_v 1) (ja_cons (je_v 2) ja_nil))) ja_nil))))
  (jss_one (js_ret (je_if (jt_cmp (oj_eq hr.units) (je_v 0) (je_v 1) (nomark _)) (je_v 2) (je_v 1))))
  jss_nil)))
 (jss_one js_never))
theorem ok_asked_1 (T : Txt w K mg) (TT : Tabs K base mg) : Bg.FnG P w K mg base CX0 3 T.a_asked T.fd_asked ["word", "one", "other", "wide"] (spD K F_asked_1) :=
  fn_data T.F_asked sc_asked fun cdv A outer s H E hr gd => (jss_cons (js_if (jt_not (jt_val (je_call (ok_is_among T TT) (hr.mono (by decide)) gd (by rfl) T.g_is_among T.F_is_among.kp T.b_is_among .nil (fun _ _ => .nil) (ja_cons (je_v 0) (ja_cons (je_gl (v := .ref T.a_ASKS) (d := C_ASKS) (by rfl) T.g_ASKS rfl (dr_ASKS T)) ja_nil)))))
  (jss_one js_never)
  jss_nil)
 (jss_one (js_match (je_v 0) (jm_str (jss_one (js_ret (je_cmp (oj_eq hr.units) (je_v 1) (je_v 2) (nomark _))))
  (jm_str (jss_one (js_ret (je_cmp oj_lt (je_v 1) (je_v 2) (nomark _))))
  (jm_str (jss_one (js_ret (je_cmp oj_leW (je_v 1) (je_v 2) (nomark _))))
  (jm_str (jss_one (js_ret (je_cmp oj_lt (je_callN (ok_signed T TT) (hr.mono (by decide)) gd (by rfl) T.g_signed T.F_signed.kp T.k_signed (ja_cons (je_v 1) ja_nil) (jk_cons (je_v 3) jk_nil)) (je_callN (ok_signed T TT) (hr.mono (by decide)) gd (by rfl) T.g_signed T.F_signed.kp T.k_signed (ja_cons (je_v 2) ja_nil) (jk_cons (je_v 3) jk_nil)) (nomark _))))
  (jm_str (jss_one (js_ret (je_cmp oj_leW (je_callN (ok_signed T TT) (hr.mono (by decide)) gd (by rfl) T.g_signed T.F_signed.kp T.k_signed (ja_cons (je_v 1) ja_nil) (jk_cons (je_v 3) jk_nil)) (je_callN (ok_signed T TT) (hr.mono (by decide)) gd (by rfl) T.g_signed T.F_signed.kp T.k_signed (ja_cons (je_v 2) ja_nil) (jk_cons (je_v 3) jk_nil)) (nomark _))))
  (jm_str (jss_one (js_ret (je_cmp (oj_ne hr.units) (je_op oj_and (je_v 1) (je_v 2)) je_i (nomark _))))
  (jm_any (jss_one (js_ret (je_not (je_callN (ok_none (k := 0)) (hr.mono (by decide)) gd (by rfl) T.g_asked T.F_asked.kp T.k_asked (ja_cons (je_call (ok_contrary T TT) (hr.mono (by decide)) gd (by rfl) T.g_contrary T.F_contrary.kp T.b_contrary .nil (fun _ _ => .nil) (ja_cons (je_v 0) ja_nil)) (ja_cons (je_v 1) (ja_cons (je_v 2) ja_nil))) (jk_cons (je_v 3) jk_nil)))))))))))))))
theorem ok_asked (T : Txt w K mg) (TT : Tabs K base mg) : Bg.FnG P w K mg base CX0 4 T.a_asked T.fd_asked ["word", "one", "other", "wide"] (spD K F_asked) :=
  fn_data T.F_asked sc_asked fun cdv A outer s H E hr gd => (jss_cons (js_if (jt_not (jt_val (je_call (ok_is_among T TT) (hr.mono (by decide)) gd (by rfl) T.g_is_among T.F_is_among.kp T.b_is_among .nil (fun _ _ => .nil) (ja_cons (je_v 0) (ja_cons (je_gl (v := .ref T.a_ASKS) (d := C_ASKS) (by rfl) T.g_ASKS rfl (dr_ASKS T)) ja_nil)))))
  (jss_one js_never)
  jss_nil)
 (jss_one (js_match (je_v 0) (jm_str (jss_one (js_ret (je_cmp (oj_eq hr.units) (je_v 1) (je_v 2) (nomark _))))
  (jm_str (jss_one (js_ret (je_cmp oj_lt (je_v 1) (je_v 2) (nomark _))))
  (jm_str (jss_one (js_ret (je_cmp oj_leW (je_v 1) (je_v 2) (nomark _))))
  (jm_str (jss_one (js_ret (je_cmp oj_lt (je_callN (ok_signed T TT) (hr.mono (by decide)) gd (by rfl) T.g_signed T.F_signed.kp T.k_signed (ja_cons (je_v 1) ja_nil) (jk_cons (je_v 3) jk_nil)) (je_callN (ok_signed T TT) (hr.mono (by decide)) gd (by rfl) T.g_signed T.F_signed.kp T.k_signed (ja_cons (je_v 2) ja_nil) (jk_cons (je_v 3) jk_nil)) (nomark _))))
  (jm_str (jss_one (js_ret (je_cmp oj_leW (je_callN (ok_signed T TT) (hr.mono (by decide)) gd (by rfl) T.g_signed T.F_signed.kp T.k_signed (ja_cons (je_v 1) ja_nil) (jk_cons (je_v 3) jk_nil)) (je_callN (ok_signed T TT) (hr.mono (by decide)) gd (by rfl) T.g_signed T.F_signed.kp T.k_signed (ja_cons (je_v 2) ja_nil) (jk_cons (je_v 3) jk_nil)) (nomark _))))
  (jm_str (jss_one (js_ret (je_cmp (oj_ne hr.units) (je_op oj_and (je_v 1) (je_v 2)) je_i (nomark _))))
  (jm_any (jss_one (js_ret (je_not (je_callN (ok_asked_1 T TT) (hr.mono (by decide)) gd (by rfl) T.g_asked T.F_asked.kp T.k_asked (ja_cons (je_call (ok_contrary T TT) (hr.mono (by decide)) gd (by rfl) T.g_contrary T.F_contrary.kp T.b_contrary .nil (fun _ _ => .nil) (ja_cons (je_v 0) ja_nil)) (ja_cons (je_v 1) (ja_cons (je_v 2) ja_nil))) (jk_cons (je_v 3) jk_nil)))))))))))))))
theorem ok_call_of (T : Txt w K mg) (TT : Tabs K base mg) : Bg.FnG P w K mg base CX0 3 T.a_call_of T.fd_call_of ["contract", "name"] (spD K F_call_of) :=
  fn_data T.F_call_of sc_call_of fun cdv A outer s H E hr gd => (jss_cons (js_for PassesOwn.never rfl (ji_es (je_ix (je_v 0) je_i)) (jg_t rfl (jgs_C (jg_n (i := 2) sc_call_of.nd rfl (.inl rfl)) (jgs_C (jg_n (i := 3) sc_call_of.nd rfl (.inl rfl)) (jgs_C (jg_n (i := 4) sc_call_of.nd rfl (.inl rfl)) jgs_0))))
  (jss_one (js_if (jt_val (je_call (ok_is_among T TT) (hr.mono (by decide)) gd (by rfl) T.g_is_among T.F_is_among.kp T.b_is_among .nil (fun _ _ => .nil) (ja_cons (je_v 1) (ja_cons (je_tup (ja_cons (je_v 2) ja_nil)) ja_nil))))
  (jss_one (js_ret (je_tup (ja_cons (je_v 3) (ja_cons (je_v 4) ja_nil)))))
  jss_nil)))
 (jss_one js_never))
theorem okX_call_of (T : Txt w K mg) (TT : Tabs K base mg) : Bg.FnG P w K mg base (L2.CX P w) 3 T.a_call_of T.fd_call_of ["contract", "name"] (spX K R_call_of) :=
  fn_raise T.F_call_of sc_call_of fun cdv A outer s H E hr gd => (jxss_tail (js_for (passes_of rfl) rfl (ji_es (je_ix (je_v 0) je_i)) (jg_t rfl (jgs_C (jg_n (i := 2) sc_call_of.nd rfl (.inl rfl)) (jgs_C (jg_n (i := 3) sc_call_of.nd rfl (.inl rfl)) (jgs_C (jg_n (i := 4) sc_call_of.nd rfl (.inl rfl)) jgs_0))))
  (jss_one (js_if (jt_val (je_call (ok_is_among T TT) (hr.mono (by decide)) gd (by rfl) T.g_is_among T.F_is_among.kp T.b_is_among .nil (fun _ _ => .nil) (ja_cons (je_v 1) (ja_cons (je_tup (ja_cons (je_v 2) ja_nil)) ja_nil))))
  (jss_one (js_ret (je_tup (ja_cons (je_v 3) (ja_cons (je_v 4) ja_nil)))))
  jss_nil)))
 (jxss_head (jxs_raise1 T.o_NoCall T.iC_NoCall T.tI_NoCall (ini_NoCall T) (hr.mono (by decide)) T.bI_NoCall (by rfl) T.g_NoCall T.rho_NoCall rfl (takes_of rfl rfl rfl rfl) (ja_cons (je_v 1) ja_nil))))
theorem ok_are_worths (T : Txt w K mg) (TT : Tabs K base mg) : Bg.FnG P w K mg base CX0 4 T.a_are_worths T.fd_are_worths ["things"] (spD K F_are_worths) :=
  fn_dataC T.F_are_worths sc_are_worths fun cdv hc A outer s H E hr gd => (jss_one (js_ret (je_lockM (a := (eV 0)) (je_allZ (k := 2) (own := [("thing", 1)]) hr gd (by rfl) T.b_all TT.t_are_worths (hc.symm.trans T.c_are_worths.symm) sc_are_worths.nd (jz_k (je_v 0)) (blkOk_by (own := [("thing", 1)]) (N := ["things", "thing"]) (sc := defScope s_are_worths) (by decide +kernel)) (by decide +kernel) (by decide) (fun _ _ _ _ _ _ => (jg_n (i := 1) sc_are_worths.nd rfl (by first | exact .inl rfl | exact .inr rfl))) (fun _ _ _ _ _ _ hr gd => (je_call (ok_is_worth T TT) (hr.mono (by decide)) gd (by rfl) T.g_is_worth T.F_is_worth.kp T.b_is_worth T.v_is_worth (fun _ _ => (.cons (.int _) .nil)) (ja_cons (je_v 1) ja_nil)))))))
theorem ok_is_room (T : Txt w K mg) (TT : Tabs K base mg) : Bg.FnG P w K mg base CX0 5 T.a_is_room T.fd_is_room ["thing", "size"] (spD K F_is_room) :=
  fn_data T.F_is_room sc_is_room fun cdv A outer s H E hr gd => (jss_one (js_ret (je_and (je_cb cj_isi (by rfl) T.b_isinstance (by decide +kernel) (ja_cons (je_v 0) (ja_cons (je_bl (v := .ty "list") (by rfl) T.b_list (by decide +kernel) rfl) ja_nil))) (je_and (je_cmp (oj_eq hr.units) (je_cbR cj_lenV (by rfl) T.b_len (by decide +kernel) (ja_cons (je_v 0) ja_nil)) (je_v 1) (nomark _)) (je_one (je_call (ok_are_worths T TT) (hr.mono (by decide)) gd (by rfl) T.g_are_worths T.F_are_worths.kp T.b_are_worths .nil (fun _ _ => .nil) (ja_cons (je_v 0) ja_nil)))))))
theorem ok_are_rooms (T : Txt w K mg) (TT : Tabs K base mg) : Bg.FnG P w K mg base CX0 7 T.a_are_rooms T.fd_are_rooms ["thing", "size"] (spD K F_are_rooms) :=
  fn_dataC T.F_are_rooms sc_are_rooms fun cdv hc A outer s H E hr gd => (jss_cons (js_if (JW.jt (jw_or (jt_not (jt_val (je_cbR cj_isi (by rfl) T.b_isinstance (by decide +kernel) (ja_cons (je_v 0) (ja_cons (je_bl (v := .ty "dict") (by rfl) T.b_dict (by decide +kernel) rfl) ja_nil))))) (jw_or1 (jt_not (jt_val (je_call (ok_are_worths T TT) (hr.mono (by decide)) gd (by rfl) T.g_are_worths T.F_are_worths.kp T.b_are_worths .nil (fun _ _ => .nil) (ja_cons (je_v 0) ja_nil)))))))
  (jss_one (js_ret je_b))
  jss_nil)
 (jss_one (js_ret (je_lockM (a := (eV 0)) (je_allZ (k := 5) (own := [("room", 2)]) hr gd (by rfl) T.b_all TT.t_are_rooms (hc.symm.trans T.c_are_rooms.symm) sc_are_rooms.nd (jz_v (je_v 0)) (blkOk_by (own := [("room", 2)]) (N := ["thing", "size", "room"]) (sc := defScope s_are_rooms) (by decide +kernel)) (by decide +kernel) (by decide) (fun _ _ _ _ _ _ => (jg_n (i := 2) sc_are_rooms.nd rfl (by first | exact .inl rfl | exact .inr rfl))) (fun _ _ _ _ _ _ hr gd => (je_call (ok_is_room T TT) (hr.mono (by decide)) gd (by rfl) T.g_is_room T.F_is_room.kp T.b_is_room .nil (fun _ _ => .nil) (ja_cons (je_v 2) (ja_cons (je_v 1) ja_nil)))))))))
theorem ok_are_shelves (T : Txt w K mg) (TT : Tabs K base mg) : Bg.FnG P w K mg base CX0 9 T.a_are_shelves T.fd_are_shelves ["thing", "contract"] (spD K F_are_shelves) :=
  fn_dataC T.F_are_shelves sc_are_shelves fun cdv hc A outer s H E hr gd => (jss_cons (js_set (i := 2) sc_are_shelves.nd rfl (.inr rfl) (je_ct (cj_dictL rfl) (by rfl) T.b_dict (by decide +kernel) (ja_cons (je_ix (je_v 1) je_i) ja_nil)))
 (jss_cons (js_if (JW.jt (jw_or (jt_not (jt_val (je_cbR cj_isi (by rfl) T.b_isinstance (by decide +kernel) (ja_cons (je_v 0) (ja_cons (je_bl (v := .ty "dict") (by rfl) T.b_dict (by decide +kernel) rfl) ja_nil))))) (jw_or1 (jt_cmp (oj_ne hr.units) (je_cbR cj_lenV (by rfl) T.b_len (by decide +kernel) (ja_cons (je_v 0) ja_nil)) (je_cbR cj_lenV (by rfl) T.b_len (by decide +kernel) (ja_cons (je_v 2) ja_nil)) (nomark _)))))
  (jss_one (js_ret je_b))
  jss_nil)
 (jss_one (js_ret (je_lockM (a := (eV 0)) (je_allZ (k := 7) (own := [("name", 3)]) hr gd (by rfl) T.b_all TT.t_are_shelves (hc.symm.trans T.c_are_shelves.symm) sc_are_shelves.nd (jz_k (je_v 0)) (blkOk_by (own := [("name", 3)]) (N := ["thing", "contract", "sizes", "name"]) (sc := defScope s_are_shelves) (by decide +kernel)) (by decide +kernel) (by decide) (fun _ _ _ _ _ _ => (jg_n (i := 3) sc_are_shelves.nd rfl (by first | exact .inl rfl | exact .inr rfl))) (fun _ _ _ _ _ _ hr gd => (je_and (je_dinA (hu1 hr) (je_v 3) (je_v 2) (by rfl)) (je_one (je_call (ok_are_rooms T TT) (hr.mono (by decide)) gd (by rfl) T.g_are_rooms T.F_are_rooms.kp T.b_are_rooms .nil (fun _ _ => .nil) (ja_cons (je_dgetA (hu1 hr) (je_v 0) (je_v 3)) (ja_cons (je_dgetA (hu1 hr) (je_v 2) (je_v 3)) ja_nil))))))))))))
theorem ok_look_at_inputs (T : Txt w K mg) (TT : Tabs K base mg) : Bg.FnG P w K mg base CX0 10 T.a_look_at_inputs T.fd_look_at_inputs ["contract", "given", "shelves", "answers"] (spD K F_look_at_inputs) :=
  fn_dataC T.F_look_at_inputs sc_look_at_inputs fun cdv hc A outer s H E hr gd => (jss_cons (js_if (JW.jt (jw_or (jt_not (jt_val (je_isiT (ns := ["list", "tuple"]) (by rfl) T.b_isinstance (.cons (pe_bltn (v := .ty "list") (by rfl) T.b_list (by decide +kernel) rfl) (by rfl) (.cons (pe_bltn (v := .ty "tuple") (by rfl) T.b_tuple (by decide +kernel) rfl) (by rfl) .nil)) (Nat.le_of_ble_eq_true rfl) (je_v 1)))) (jw_or (jt_cmp oj_gt (je_cb cj_len (by rfl) T.b_len (by decide +kernel) (ja_cons (je_v 1) ja_nil)) (je_gl (v := (.int (16))) (d := (.int (16))) (by rfl) T.g_MOST_CELLS ⟨_, rfl⟩ (fun _ _ => .int _)) (nomark _)) (jw_or1 (jt_not (jt_val (je_call (ok_are_worths T TT) (hr.mono (by decide)) gd (by rfl) T.g_are_worths T.F_are_worths.kp T.b_are_worths .nil (fun _ _ => .nil) (ja_cons (je_v 1) ja_nil))))))))
  (jss_one js_never)
  jss_nil)
 (jss_cons (js_if (JW.jt (jw_and (jt_cmp oj_notN (je_v 2) je_n (nomark _)) (jw_and1 (jt_not (jt_val (je_call (ok_are_shelves T TT) (hr.mono (by decide)) gd (by rfl) T.g_are_shelves T.F_are_shelves.kp T.b_are_shelves .nil (fun _ _ => .nil) (ja_cons (je_v 2) (ja_cons (je_v 0) ja_nil))))))))
  (jss_one js_never)
  jss_nil)
 (jss_one (js_if (JW.jt (jw_or (jt_not (jt_val (je_isiT (ns := ["list", "tuple"]) (by rfl) T.b_isinstance (.cons (pe_bltn (v := .ty "list") (by rfl) T.b_list (by decide +kernel) rfl) (by rfl) (.cons (pe_bltn (v := .ty "tuple") (by rfl) T.b_tuple (by decide +kernel) rfl) (by rfl) .nil)) (Nat.le_of_ble_eq_true rfl) (je_v 3)))) (jw_or1 (jt_not (jt_val (je_all (k := 8) (own := [("answer", 4)]) hr gd (by rfl) T.b_all TT.t_look_at_inputs (hc.symm.trans T.c_look_at_inputs.symm) sc_look_at_inputs.nd (ji_es (je_v 3)) (blkOk_by (own := [("answer", 4)]) (N := ["contract", "given", "shelves", "answers", "answer"]) (sc := defScope s_look_at_inputs) (by decide +kernel)) (by decide +kernel) (by decide) (fun _ _ _ _ _ _ => (jg_n (i := 4) sc_look_at_inputs.nd rfl (by first | exact .inl rfl | exact .inr rfl))) (fun _ _ _ _ _ _ hr gd => (je_call (ok_is_whole T TT) (hr.mono (by decide)) gd (by rfl) T.g_is_whole T.F_is_whole.kp T.b_is_whole .nil (fun _ _ => .nil) (ja_cons (je_v 4) ja_nil)))))))))
  (jss_one js_never)
  jss_nil))))
theorem ok_copied_shelves (T : Txt w K mg) (TT : Tabs K base mg) : Bg.FnG P w K mg base CX0 1 T.a_copied_shelves T.fd_copied_shelves ["shelves"] (spD K F_copied_shelves) :=
  fn_data T.F_copied_shelves sc_copied_shelves fun cdv A outer s H E hr gd => (jss_one (js_ret (je_lockM (a := (eV 0)) (je_dcO (own := [("name", 1), ("rooms", 2)]) rfl sc_copied_shelves.nd (jz_i (je_v 0)) (blkOk_by (own := [("name", 1), ("rooms", 2)]) (N := ["shelves", "name", "rooms", "key", "room"]) (sc := (defScope s_copied_shelves)) (by decide +kernel)) (by decide) (fun _ _ _ _ _ => (jg_t rfl (jgs_C (jg_n (i := 1) sc_copied_shelves.nd rfl (by first | exact .inl rfl | exact .inr rfl)) (jgs_C (jg_n (i := 2) sc_copied_shelves.nd rfl (by first | exact .inl rfl | exact .inr rfl)) jgs_0)))) (fun _ _ _ _ _ => jts_nil) (fun _ _ _ _ _ => (je_v 1)) (fun _ _ _ _ _ => (je_lockM (a := (eV 2)) (je_dcO (own := [("key", 3), ("room", 4)]) rfl sc_copied_shelves.nd (jz_i (je_v 2)) (blkOk_by (own := [("key", 3), ("room", 4)]) (N := ["shelves", "name", "rooms", "key", "room"]) (sc := (relS (retScope s_copied_shelves) (defScope s_copied_shelves))) (by decide +kernel)) (by decide) (fun _ _ _ _ _ => (jg_t rfl (jgs_C (jg_n (i := 3) sc_copied_shelves.nd rfl (by first | exact .inl rfl | exact .inr rfl)) (jgs_C (jg_n (i := 4) sc_copied_shelves.nd rfl (by first | exact .inl rfl | exact .inr rfl)) jgs_0)))) (fun _ _ _ _ _ => jts_nil) (fun _ _ _ _ _ => (je_v 3)) (fun _ _ _ _ _ => (je_new (jl_listA (by rfl) T.b_list (by decide +kernel) (je_v 4)))))))))))
theorem ok_bare_shelves (T : Txt w K mg) (TT : Tabs K base mg) : Bg.FnG P w K mg base CX0 1 T.a_bare_shelves T.fd_bare_shelves ["contract"] (spD K F_bare_shelves) :=
  fn_data T.F_bare_shelves sc_bare_shelves fun cdv A outer s H E hr gd => (jss_one (js_ret (je_dcO (own := [("name", 1), ("size", 2)]) rfl sc_bare_shelves.nd (JI.z (ji_es (je_ix (je_v 0) je_i))) (blkOk_by (own := [("name", 1), ("size", 2)]) (N := ["contract", "name", "size"]) (sc := (defScope s_bare_shelves)) (by decide +kernel)) (by decide) (fun _ _ _ _ _ => (jg_t rfl (jgs_C (jg_n (i := 1) sc_bare_shelves.nd rfl (by first | exact .inl rfl | exact .inr rfl)) (jgs_C (jg_n (i := 2) sc_bare_shelves.nd rfl (by first | exact .inl rfl | exact .inr rfl)) jgs_0)))) (fun _ _ _ _ _ => jts_nil) (fun _ _ _ _ _ => (je_v 1)) (fun _ _ _ _ _ => je_newD))))
theorem ok_moment_of (T : Txt w K mg) (TT : Tabs K base mg) : Bg.FnG P w K mg base CX0 1 T.a_moment_of T.fd_moment_of ["machine"] (spD K F_moment_of) :=
  fn_data T.F_moment_of sc_moment_of fun cdv A outer s H E hr gd => (jss_one (js_ret (je_tup (ja_cons (je_fld (fc_box_values T) (je_v 0)) (ja_cons (je_fld (fc_pile_values T) (je_v 0)) (ja_cons (je_fld (fc_lent_rooms T) (je_v 0)) (ja_cons (je_fld (fc_askings T) (je_v 0)) (ja_cons (je_fld (fc_answered T) (je_v 0)) (ja_cons (je_fld (fc_at T) (je_v 0)) (ja_cons (je_fld (fc_rows_done T) (je_v 0)) (ja_cons (je_fld (fc_ending T) (je_v 0)) ja_nil)))))))))))
theorem ok_told_end (T : Txt w K mg) (TT : Tabs K base mg) : Bg.FnG P w K mg base CX0 2 T.a_told_end T.fd_told_end ["machine"] (spD K F_told_end) :=
  fn_data T.F_told_end sc_told_end fun cdv A outer s H E hr gd => (jss_cons (js_if (jt_cmp oj_isN (je_fld (fc_ending T) (je_v 0)) je_n (nomark _))
  (jss_one (js_ret je_n))
  jss_nil)
 (jss_cons (js_asg (je_fld (fc_ending T) (je_v 0)) (jg_t rfl (jgs_C (jg_n (i := 1) sc_told_end.nd rfl (.inl rfl)) (jgs_C (jg_n (i := 2) sc_told_end.nd rfl (.inl rfl)) jgs_0))))
 (jss_one (js_ret (je_tup (ja_cons (je_v 1) (ja_cons (je_v 2) (ja_cons (je_fld (fc_rows_done T) (je_v 0)) (ja_cons (je_call (ok_copied_shelves T TT) (hr.mono (by decide)) gd (by rfl) T.g_copied_shelves T.F_copied_shelves.kp T.b_copied_shelves .nil (fun _ _ => .nil) (ja_cons (je_fld (fc_rooms T) (je_v 0)) ja_nil)) ja_nil)))))))))
theorem ok_by_value (T : Txt w K mg) (TT : Tabs K base mg) : Bg.FnG P w K mg base CX0 1 T.a_by_value T.fd_by_value ["machine", "by"] (spD K F_by_value) :=
  fn_data T.F_by_value sc_by_value fun cdv A outer s H E hr gd => (jss_one (js_ret (je_if (jt_cmp (oj_eq hr.units) (je_ix (je_v 1) je_i) je_s (nomark _)) (je_ix (je_fld (fc_box_values T) (je_v 0)) (je_ix (je_v 1) je_i)) (je_tup (ja_cons je_s (ja_cons (je_ix (je_v 1) je_i) ja_nil))))))
theorem ok_put_box (T : Txt w K mg) (TT : Tabs K base mg) : Bg.FnG P w K mg base CX0 1 T.a_put_box T.fd_put_box ["machine", "box", "value"] (spD K F_put_box) :=
  fn_data T.F_put_box sc_put_box fun cdv A outer s H E hr gd => (jss_cons (js_set (i := 3) sc_put_box.nd rfl (.inl rfl) (je_fld (fc_box_values T) (je_v 0)))
 (jss_one (js_fld (fc_box_values T) (je_v 0) (je_op oj_add (je_op oj_add (je_sl (je_v 3) jo_no (jo_so (je_v 1))) (je_tup (ja_cons (je_v 2) ja_nil))) (je_sl (je_v 3) (jo_so (je_op oj_add (je_v 1) je_i)) jo_no)))))
theorem ok_moved (T : Txt w K mg) (TT : Tabs K base mg) : Bg.FnG P w K mg base CX0 2 T.a_moved T.fd_moved ["pointer", "many"] (spD K F_moved) :=
  fn_data T.F_moved sc_moved fun cdv A outer s H E hr gd => (jss_one (js_ret (je_op oj_add (je_sl (je_v 0) jo_no (jo_so (je_neg je_i))) (je_tup (ja_cons (je_op oj_and (je_op oj_add (je_ix (je_v 0) (je_neg je_i)) (je_v 1)) (je_call (ok_greatest T TT) (hr.mono (by decide)) gd (by rfl) T.g_greatest T.F_greatest.kp T.b_greatest .nil (fun _ _ => .nil) (ja_cons (je_gl (v := (.int (16))) (d := (.int (16))) (by rfl) T.g_WIDE ⟨_, rfl⟩ (fun _ _ => .int _)) ja_nil))) ja_nil)))))
theorem ok_room_of (T : Txt w K mg) (TT : Tabs K base mg) : Bg.FnG P w K mg base CX0 1 T.a_room_of T.fd_room_of ["machine", "ask"] (spD K F_room_of) :=
  fn_data T.F_room_of sc_room_of fun cdv A outer s H E hr gd => (jss_cons (js_asg (je_dgetA (hu1 hr) (je_fld (fc_lent_rooms T) (je_v 0)) (je_v 1)) (jg_t rfl (jgs_C (jg_n (i := 2) sc_room_of.nd rfl (.inl rfl)) (jgs_C (jg_n (i := 3) sc_room_of.nd rfl (.inl rfl)) jgs_0))))
 (jss_one (js_ret (je_dgetA (hu1 hr) (je_dgetA (hu1 hr) (je_fld (fc_rooms T) (je_v 0)) (je_v 2)) (je_v 3)))))
theorem ok_size_of (T : Txt w K mg) (TT : Tabs K base mg) : Bg.FnG P w K mg base CX0 2 T.a_size_of T.fd_size_of ["machine", "pointer"] (spD K F_size_of) :=
  fn_data T.F_size_of sc_size_of fun cdv A outer s H E hr gd => (jss_one (js_match (je_ix (je_v 1) je_i) (jm_str (jss_one (js_ret (je_gl (v := (.int (8))) (d := (.int (8))) (by rfl) T.g_PILE ⟨_, rfl⟩ (fun _ _ => .int _))))
  (jm_str (jss_one (js_ret (je_cb cj_len (by rfl) T.b_len (by decide +kernel) (ja_cons (je_fld (fc_cells T) (je_v 0)) ja_nil))))
  (jm_any (jss_one (js_ret (je_cbO cj_len (by rfl) T.b_len (by decide +kernel) (je_call (ok_room_of T TT) (hr.mono (by decide)) gd (by rfl) T.g_room_of T.F_room_of.kp T.b_room_of .nil (fun _ _ => .nil) (ja_cons (je_v 0) (ja_cons (je_ix (je_v 1) je_i) ja_nil)))))))))))
theorem ok_cell_value (T : Txt w K mg) (TT : Tabs K base mg) : Bg.FnG P w K mg base CX0 2 T.a_cell_value T.fd_cell_value ["machine", "pointer"] (spD K F_cell_value) :=
  fn_data T.F_cell_value sc_cell_value fun cdv A outer s H E hr gd => (jss_cons (js_set (i := 2) sc_cell_value.nd rfl (.inl rfl) (je_ix (je_v 1) (je_neg je_i)))
 (jss_one (js_match (je_ix (je_v 1) je_i) (jm_str (jss_one (js_ret (je_ix (je_fld (fc_pile_values T) (je_v 0)) (je_v 2))))
  (jm_str (jss_one (js_ret (je_tup (ja_cons je_s (ja_cons (je_ix (je_fld (fc_cells T) (je_v 0)) (je_v 2)) ja_nil)))))
  (jm_any (jss_one (js_ret (je_tup (ja_cons je_s (ja_cons (je_ixS (je_call (ok_room_of T TT) (hr.mono (by decide)) gd (by rfl) T.g_room_of T.F_room_of.kp T.b_room_of .nil (fun _ _ => .nil) (ja_cons (je_v 0) (ja_cons (je_ix (je_v 1) je_i) ja_nil))) (je_v 2)) ja_nil)))))))))))
theorem ok_put_cell (T : Txt w K mg) (TT : Tabs K base mg) : Bg.FnG P w K mg base CX0 2 T.a_put_cell T.fd_put_cell ["machine", "pointer", "value"] (spD K F_put_cell) :=
  fn_data T.F_put_cell sc_put_cell fun cdv A outer s H E hr gd => (jss_cons (js_set (i := 3) sc_put_cell.nd rfl (.inl rfl) (je_ix (je_v 1) (je_neg je_i)))
 (jss_cons (js_if (jt_cmp (oj_eq hr.units) (je_ix (je_v 1) je_i) je_s (nomark _))
  (jss_cons (js_set (i := 4) sc_put_cell.nd rfl (.inl rfl) (je_fld (fc_pile_values T) (je_v 0)))
 (jss_cons (js_fld (fc_pile_values T) (je_v 0) (je_op oj_add (je_op oj_add (je_sl (je_v 4) jo_no (jo_so (je_v 3))) (je_tup (ja_cons (je_v 2) ja_nil))) (je_sl (je_v 4) (jo_so (je_op oj_add (je_v 3) je_i)) jo_no)))
 (jss_one js_retN)))
  jss_nil)
 (jss_cons (js_set (i := 5) sc_put_cell.nd rfl (.inl rfl) (je_call (ok_room_of T TT) (hr.mono (by decide)) gd (by rfl) T.g_room_of T.F_room_of.kp T.b_room_of .nil (fun _ _ => .nil) (ja_cons (je_v 0) (ja_cons (je_ix (je_v 1) je_i) ja_nil))))
 (jss_cons (js_fld (fc_written T) (je_v 0) (je_op oj_add (je_dgetA (hu1 hr) (je_fld (fc_lent_rooms T) (je_v 0)) (je_ix (je_v 1) je_i)) (je_tup (ja_cons (je_v 3) (ja_cons (je_ixS (je_v 5) (je_v 3)) ja_nil)))))
 (jss_one (js_putO (je_ix (je_v 2) je_i) (je_v 5) (je_v 3) (pg_sub (JE.pe (je_v 5)) (JE.pe (je_v 3)) set_list)))))))
theorem ok_do_move (T : Txt w K mg) (TT : Tabs K base mg) : Bg.FnG P w K mg base CX0 2 T.a_do_move T.fd_do_move ["machine", "box", "other"] (spD K F_do_move) :=
  fn_data T.F_do_move sc_do_move fun cdv A outer s H E hr gd => (jss_cons (js_set (i := 3) sc_do_move.nd rfl (.inl rfl) (je_ix (je_fld (fc_box_values T) (je_v 0)) (je_v 2)))
 (jss_cons (js_if (jt_cmp oj_isN (je_v 3) je_n (nomark _))
  (jss_one (js_ret je_s))
  jss_nil)
 (jss_cons (js_ex (je_call (ok_put_box T TT) (hr.mono (by decide)) gd (by rfl) T.g_put_box T.F_put_box.kp T.b_put_box .nil (fun _ _ => .nil) (ja_cons (je_v 0) (ja_cons (je_v 1) (ja_cons (je_v 3) ja_nil)))))
 (jss_one (js_ret je_n)))))
theorem ok_deed_value (T : Txt w K mg) (TT : Tabs K base mg) : Bg.FnG P w K mg base CX0 4 T.a_deed_value T.fd_deed_value ["word", "one", "other"] (spD K F_deed_value) :=
  fn_data T.F_deed_value sc_deed_value fun cdv A outer s H E hr gd => (jss_cons (js_if (jt_cmp (oj_ne hr.units) (je_ix (je_v 2) je_i) je_s (nomark _))
  (jss_one (js_ret je_n))
  jss_nil)
 (jss_cons (js_if (jt_cmp (oj_eq hr.units) (je_ix (je_v 1) je_i) je_s (nomark _))
  (jss_one (js_ret (je_tup (ja_cons je_s (ja_cons (je_call (ok_done T TT) (hr.mono (by decide)) gd (by rfl) T.g_done T.F_done.kp T.b_done T.v_done (fun _ _ => (.cons (.int _) .nil)) (ja_cons (je_v 0) (ja_cons (je_ix (je_v 1) je_i) (ja_cons (je_ix (je_v 2) je_i) ja_nil)))) ja_nil)))))
  jss_nil)
 (jss_cons (js_if (jt_cmp (oj_eq hr.units) (je_v 0) je_s (nomark _))
  (jss_one (js_ret (je_call (ok_moved T TT) (hr.mono (by decide)) gd (by rfl) T.g_moved T.F_moved.kp T.b_moved .nil (fun _ _ => .nil) (ja_cons (je_v 1) (ja_cons (je_ix (je_v 2) je_i) ja_nil)))))
  jss_nil)
 (jss_cons (js_if (jt_cmp (oj_eq hr.units) (je_v 0) je_s (nomark _))
  (jss_one (js_ret (je_call (ok_moved T TT) (hr.mono (by decide)) gd (by rfl) T.g_moved T.F_moved.kp T.b_moved .nil (fun _ _ => .nil) (ja_cons (je_v 1) (ja_cons (je_neg (je_ix (je_v 2) je_i)) ja_nil)))))
  jss_nil)
 (jss_one (js_ret je_n))))))
theorem ok_do_deed (T : Txt w K mg) (TT : Tabs K base mg) : Bg.FnG P w K mg base CX0 5 T.a_do_deed T.fd_do_deed ["machine", "word", "box", "by"] (spD K F_do_deed) :=
  fn_data T.F_do_deed sc_do_deed fun cdv A outer s H E hr gd => (jss_cons (js_par (i := 4) (j := 5) (by rfl) sc_do_deed.nd rfl rfl (by decide) rfl rfl (ja_cons (je_ix (je_fld (fc_box_values T) (je_v 0)) (je_v 2)) (ja_cons (je_call (ok_by_value T TT) (hr.mono (by decide)) gd (by rfl) T.g_by_value T.F_by_value.kp T.b_by_value .nil (fun _ _ => .nil) (ja_cons (je_v 0) (ja_cons (je_v 3) ja_nil))) ja_nil)) (by rfl))
 (jss_cons (js_if (JW.jt (jw_or (jt_cmp oj_isN (je_v 4) je_n (nomark _)) (jw_or1 (jt_cmp oj_isN (je_v 5) je_n (nomark _)))))
  (jss_one (js_ret je_s))
  jss_nil)
 (jss_cons (js_set (i := 6) sc_do_deed.nd rfl (.inl rfl) (je_call (ok_deed_value T TT) (hr.mono (by decide)) gd (by rfl) T.g_deed_value T.F_deed_value.kp T.b_deed_value .nil (fun _ _ => .nil) (ja_cons (je_v 1) (ja_cons (je_v 4) (ja_cons (je_v 5) ja_nil)))))
 (jss_cons (js_if (jt_cmp oj_isN (je_v 6) je_n (nomark _))
  (jss_one (js_ret je_s))
  jss_nil)
 (jss_cons (js_ex (je_call (ok_put_box T TT) (hr.mono (by decide)) gd (by rfl) T.g_put_box T.F_put_box.kp T.b_put_box .nil (fun _ _ => .nil) (ja_cons (je_v 0) (ja_cons (je_v 2) (ja_cons (je_v 6) ja_nil)))))
 (jss_one (js_ret je_n)))))))
theorem ok_ask_answer (T : Txt w K mg) (TT : Tabs K base mg) : Bg.FnG P w K mg base CX0 5 T.a_ask_answer T.fd_ask_answer ["word", "one", "other"] (spD K F_ask_answer) :=
  fn_data T.F_ask_answer sc_ask_answer fun cdv A outer s H E hr gd => (jss_cons (js_if (jt_cmp (oj_ne hr.units) (je_ix (je_v 2) je_i) je_s (nomark _))
  (jss_one (js_ret je_n))
  jss_nil)
 (jss_cons (js_if (jt_cmp (oj_eq hr.units) (je_ix (je_v 1) je_i) je_s (nomark _))
  (jss_one (js_ret (je_call (ok_asked T TT) (hr.mono (by decide)) gd (by rfl) T.g_asked T.F_asked.kp T.b_asked T.v_asked (fun _ _ => (.cons (.int _) .nil)) (ja_cons (je_v 0) (ja_cons (je_ix (je_v 1) je_i) (ja_cons (je_ix (je_v 2) je_i) ja_nil))))))
  jss_nil)
 (jss_cons (js_if (JW.jt (jw_and (jt_cmp (oj_eq hr.units) (je_ix (je_v 2) je_i) je_i (nomark _)) (jw_and1 (jt_inO (hu65 hr) (je_v 0) (je_tup (ja_cons je_s (ja_cons je_s ja_nil))) (by rfl)))))
  (jss_one (js_ret (je_cmp (oj_eq hr.units) (je_v 0) je_s (nomark _))))
  jss_nil)
 (jss_one (js_ret je_n)))))
theorem ok_do_jump (T : Txt w K mg) (TT : Tabs K base mg) : Bg.FnG P w K mg base CX0 6 T.a_do_jump T.fd_do_jump ["machine", "word", "box", "by", "to"] (spD K F_do_jump) :=
  fn_data T.F_do_jump sc_do_jump fun cdv A outer s H E hr gd => (jss_cons (js_par (i := 5) (j := 6) (by rfl) sc_do_jump.nd rfl rfl (by decide) rfl rfl (ja_cons (je_ix (je_fld (fc_box_values T) (je_v 0)) (je_v 2)) (ja_cons (je_call (ok_by_value T TT) (hr.mono (by decide)) gd (by rfl) T.g_by_value T.F_by_value.kp T.b_by_value .nil (fun _ _ => .nil) (ja_cons (je_v 0) (ja_cons (je_v 3) ja_nil))) ja_nil)) (by rfl))
 (jss_cons (js_if (JW.jt (jw_or (jt_cmp oj_isN (je_v 5) je_n (nomark _)) (jw_or1 (jt_cmp oj_isN (je_v 6) je_n (nomark _)))))
  (jss_one (js_ret je_s))
  jss_nil)
 (jss_cons (js_set (i := 7) sc_do_jump.nd rfl (.inl rfl) (je_call (ok_ask_answer T TT) (hr.mono (by decide)) gd (by rfl) T.g_ask_answer T.F_ask_answer.kp T.b_ask_answer .nil (fun _ _ => .nil) (ja_cons (je_v 1) (ja_cons (je_v 5) (ja_cons (je_v 6) ja_nil)))))
 (jss_cons (js_if (jt_cmp oj_isN (je_v 7) je_n (nomark _))
  (jss_one (js_ret je_s))
  jss_nil)
 (jss_cons (js_if (jt_val (je_v 7))
  (jss_one (js_fld (fc_at T) (je_v 0) (je_v 4)))
  jss_nil)
 (jss_one (js_ret je_n)))))))
theorem ok_do_load (T : Txt w K mg) (TT : Tabs K base mg) : Bg.FnG P w K mg base CX0 3 T.a_do_load T.fd_do_load ["machine", "box", "other", "off"] (spD K F_do_load) :=
  fn_data T.F_do_load sc_do_load fun cdv A outer s H E hr gd => (jss_cons (js_set (i := 4) sc_do_load.nd rfl (.inl rfl) (je_ix (je_fld (fc_box_values T) (je_v 0)) (je_v 2)))
 (jss_cons (js_if (jt_cmp oj_isN (je_v 4) je_n (nomark _))
  (jss_one (js_ret je_s))
  jss_nil)
 (jss_cons (js_if (jt_cmp (oj_eq hr.units) (je_ix (je_v 4) je_i) je_s (nomark _))
  (jss_one (js_ret je_s))
  jss_nil)
 (jss_cons (js_set (i := 5) sc_do_load.nd rfl (.inl rfl) (je_call (ok_moved T TT) (hr.mono (by decide)) gd (by rfl) T.g_moved T.F_moved.kp T.b_moved .nil (fun _ _ => .nil) (ja_cons (je_v 4) (ja_cons (je_v 3) ja_nil))))
 (jss_cons (js_if (jt_cmp oj_ge (je_ix (je_v 5) (je_neg je_i)) (je_call (ok_size_of T TT) (hr.mono (by decide)) gd (by rfl) T.g_size_of T.F_size_of.kp T.b_size_of .nil (fun _ _ => .nil) (ja_cons (je_v 0) (ja_cons (je_v 5) ja_nil))) (nomark _))
  (jss_one (js_ret je_s))
  jss_nil)
 (jss_cons (js_set (i := 6) sc_do_load.nd rfl (.inl rfl) (je_call (ok_cell_value T TT) (hr.mono (by decide)) gd (by rfl) T.g_cell_value T.F_cell_value.kp T.b_cell_value .nil (fun _ _ => .nil) (ja_cons (je_v 0) (ja_cons (je_v 5) ja_nil))))
 (jss_cons (js_if (jt_cmp oj_isN (je_v 6) je_n (nomark _))
  (jss_one (js_ret je_s))
  jss_nil)
 (jss_cons (js_ex (je_call (ok_put_box T TT) (hr.mono (by decide)) gd (by rfl) T.g_put_box T.F_put_box.kp T.b_put_box .nil (fun _ _ => .nil) (ja_cons (je_v 0) (ja_cons (je_v 1) (ja_cons (je_v 6) ja_nil)))))
 (jss_one (js_ret je_n))))))))))
theorem ok_do_store (T : Txt w K mg) (TT : Tabs K base mg) : Bg.FnG P w K mg base CX0 3 T.a_do_store T.fd_do_store ["machine", "box", "off", "by"] (spD K F_do_store) :=
  fn_data T.F_do_store sc_do_store fun cdv A outer s H E hr gd => (jss_cons (js_par (i := 4) (j := 5) (by rfl) sc_do_store.nd rfl rfl (by decide) rfl rfl (ja_cons (je_ix (je_fld (fc_box_values T) (je_v 0)) (je_v 1)) (ja_cons (je_call (ok_by_value T TT) (hr.mono (by decide)) gd (by rfl) T.g_by_value T.F_by_value.kp T.b_by_value .nil (fun _ _ => .nil) (ja_cons (je_v 0) (ja_cons (je_v 3) ja_nil))) ja_nil)) (by rfl))
 (jss_cons (js_if (JW.jt (jw_or (jt_cmp oj_isN (je_v 4) je_n (nomark _)) (jw_or1 (jt_cmp oj_isN (je_v 5) je_n (nomark _)))))
  (jss_one (js_ret je_s))
  jss_nil)
 (jss_cons (js_if (jt_cmp (oj_eq hr.units) (je_ix (je_v 4) je_i) je_s (nomark _))
  (jss_one (js_ret je_s))
  jss_nil)
 (jss_cons (js_set (i := 6) sc_do_store.nd rfl (.inl rfl) (je_call (ok_moved T TT) (hr.mono (by decide)) gd (by rfl) T.g_moved T.F_moved.kp T.b_moved .nil (fun _ _ => .nil) (ja_cons (je_v 4) (ja_cons (je_v 2) ja_nil))))
 (jss_cons (js_if (jt_cmp oj_ge (je_ix (je_v 6) (je_neg je_i)) (je_call (ok_size_of T TT) (hr.mono (by decide)) gd (by rfl) T.g_size_of T.F_size_of.kp T.b_size_of .nil (fun _ _ => .nil) (ja_cons (je_v 0) (ja_cons (je_v 6) ja_nil))) (nomark _))
  (jss_one (js_ret je_s))
  jss_nil)
 (jss_cons (js_if (jt_cmp (oj_eq hr.units) (je_ix (je_v 6) je_i) je_s (nomark _))
  (jss_one (js_ret je_s))
  jss_nil)
 (jss_cons (js_if (JW.jt (jw_and (jt_cmp (oj_eq hr.units) (je_ix (je_v 6) je_i) je_s (nomark _)) (jw_and1 (jt_cmp (oj_ne hr.units) (je_ix (je_v 5) je_i) je_s (nomark _)))))
  (jss_one (js_ret je_s))
  jss_nil)
 (jss_cons (js_ex (je_call (ok_put_cell T TT) (hr.mono (by decide)) gd (by rfl) T.g_put_cell T.F_put_cell.kp T.b_put_cell .nil (fun _ _ => .nil) (ja_cons (je_v 0) (ja_cons (je_v 6) (ja_cons (je_v 5) ja_nil)))))
 (jss_one (js_ret je_n))))))))))
theorem ok_has_numbers (T : Txt w K mg) (TT : Tabs K base mg) : Bg.FnG P w K mg base CX0 3 T.a_has_numbers T.fd_has_numbers ["machine", "value", "many"] (spD K F_has_numbers) :=
  fn_dataC T.F_has_numbers sc_has_numbers fun cdv hc A outer s H E hr gd => (jss_cons (js_if (JW.jt (jw_or (jt_cmp (oj_eq hr.units) (je_ix (je_v 1) je_i) je_s (nomark _)) (jw_or1 (jt_cmp oj_gt (je_op oj_add (je_ix (je_v 1) (je_neg je_i)) (je_v 2)) (je_call (ok_size_of T TT) (hr.mono (by decide)) gd (by rfl) T.g_size_of T.F_size_of.kp T.b_size_of .nil (fun _ _ => .nil) (ja_cons (je_v 0) (ja_cons (je_v 1) ja_nil))) (nomark _)))))
  (jss_one (js_ret je_b))
  jss_nil)
 (jss_cons (js_setLcJ (i := 3) (own := [("step", 4)]) lcSet rfl sc_has_numbers.nd rfl rfl (sw_true rfl rfl rfl (by decide +kernel)) (ji_r1 (by rfl) T.b_range (ja_cons (je_v 2) ja_nil)) (blkOk_by (own := [("step", 4)]) (N := ["machine", "value", "many", "cells", "step", "cell"]) (sc := defScope s_has_numbers) (by decide +kernel)) (by decide) (fun _ _ _ _ _ => (jg_n (i := 4) sc_has_numbers.nd rfl (by first | exact .inl rfl | exact .inr rfl))) (fun _ _ _ _ _ => jts_nil) (fun _ _ _ _ _ => (je_call (ok_cell_value T TT) (hr.mono (by decide)) gd (by rfl) T.g_cell_value T.F_cell_value.kp T.b_cell_value .nil (fun _ _ => .nil) (ja_cons (je_v 0) (ja_cons (je_call (ok_moved T TT) (hr.mono (by decide)) gd (by rfl) T.g_moved T.F_moved.kp T.b_moved .nil (fun _ _ => .nil) (ja_cons (je_v 1) (ja_cons (je_v 4) ja_nil))) ja_nil)))))
 (jss_one (js_ret (je_all (k := 1) (own := [("cell", 5)]) hr gd (by rfl) T.b_all TT.t_has_numbers (hc.symm.trans T.c_has_numbers.symm) sc_has_numbers.nd (ji_es (je_v 3)) (blkOk_by (own := [("cell", 5)]) (N := ["machine", "value", "many", "cells", "step", "cell"]) (sc := defScope s_has_numbers) (by decide +kernel)) (by decide +kernel) (by decide) (fun _ _ _ _ _ _ => (jg_n (i := 5) sc_has_numbers.nd rfl (by first | exact .inl rfl | exact .inr rfl))) (fun _ _ _ _ _ _ hr gd => (je_and (je_cmp oj_notN (je_v 5) je_n (nomark _)) (je_one (je_cmp (oj_eq hr.units) (je_ix (je_v 5) je_i) je_s (nomark _))))))))))
theorem ok_is_good_take (T : Txt w K mg) (TT : Tabs K base mg) : Bg.FnG P w K mg base CX0 4 T.a_is_good_take T.fd_is_good_take ["machine", "take", "value"] (spD K F_is_good_take) :=
  fn_data T.F_is_good_take sc_is_good_take fun cdv A outer s H E hr gd => (jss_one (js_match (je_v 1) (jm_seq rfl (jb_C (i := 3) sc_is_good_take.nd rfl (.inl rfl) (jb_C (i := 4) sc_is_good_take.nd rfl (.inl rfl) jb_0)) (.cons (.cons .nil)) (jss_one (js_ret (je_and (je_cmp (oj_eq hr.units) (je_ix (je_v 2) je_i) je_s (nomark _)) (je_one (je_ch oj_leW oj_leW (je_v 3) (je_ix (je_v 2) je_i) (je_v 4))))))
  (jm_seq rfl (jb_C (i := 5) sc_is_good_take.nd rfl (.inl rfl) jb_0) (.cons .nil) (jss_one (js_ret (je_call (ok_has_numbers T TT) (hr.mono (by decide)) gd (by rfl) T.g_has_numbers T.F_has_numbers.kp T.b_has_numbers .nil (fun _ _ => .nil) (ja_cons (je_v 0) (ja_cons (je_v 2) (ja_cons (je_v 5) ja_nil))))))
  (jm_any (jss_one (js_ret (je_and (je_cmp (oj_eq hr.units) (je_ix (je_v 2) je_i) je_s (nomark _)) (je_and (je_cmp (oj_eq hr.units) (je_ix (je_v 2) je_i) je_i (nomark _)) (je_one (je_cmp (oj_eq hr.units) (je_ix (je_dgetA (hu1 hr) (je_fld (fc_lent_rooms T) (je_v 0)) (je_ix (je_v 2) je_i)) je_i) (je_ix (je_v 1) je_i) (nomark _))))))))))))
theorem ok_next_answer (T : Txt w K mg) (TT : Tabs K base mg) : Bg.FnG P w K mg base CX0 1 T.a_next_answer T.fd_next_answer ["machine"] (spD K F_next_answer) :=
  fn_data T.F_next_answer sc_next_answer fun cdv A outer s H E hr gd => (jss_cons (js_fldP (fc_answered T) (je_v 0) je_i)
 (jss_cons (js_if (jt_not (jt_tru (je_fld (fc_answers T) (je_v 0))))
  (jss_one (js_ret je_i))
  jss_nil)
 (jss_one (js_ret (je_ix (je_fld (fc_answers T) (je_v 0)) (je_op oj_mod (je_op oj_sub (je_fld (fc_answered T) (je_v 0)) je_i) (je_cb cj_len (by rfl) T.b_len (by decide +kernel) (ja_cons (je_fld (fc_answers T) (je_v 0)) ja_nil))))))))
theorem ok_lent_value (T : Txt w K mg) (TT : Tabs K base mg) : Bg.FnG P w K mg base CX0 1 T.a_lent_value T.fd_lent_value ["machine", "shelf", "key"] (spD K F_lent_value) :=
  fn_data T.F_lent_value sc_lent_value fun cdv A outer s H E hr gd => (jss_cons (js_set (i := 3) sc_lent_value.nd rfl (.inl rfl) (je_fld (fc_askings T) (je_v 0)))
 (jss_cons (js_fldP (fc_askings T) (je_v 0) je_i)
 (jss_cons (js_if (jt_dniA (hu1 hr) (je_v 2) (je_dgetA (hu1 hr) (je_fld (fc_rooms T) (je_v 0)) (je_v 1)) (by rfl))
  (jss_one (js_ret (je_tup (ja_cons je_s (ja_cons je_i ja_nil)))))
  jss_nil)
 (jss_cons (js_fld (fc_lent_rooms T) (je_v 0) (je_dstar (je_fld (fc_lent_rooms T) (je_v 0)) (je_v 3) (je_tup (ja_cons (je_v 1) (ja_cons (je_v 2) ja_nil)))))
 (jss_one (js_ret (je_tup (ja_cons je_s (ja_cons (je_v 3) (ja_cons je_i ja_nil))))))))))
theorem ok_without_asking (T : Txt w K mg) (TT : Tabs K base mg) : Bg.FnG P w K mg base CX0 1 T.a_without_asking T.fd_without_asking ["values", "ask"] (spD K F_without_asking) :=
  fn_data T.F_without_asking sc_without_asking fun cdv A outer s H E hr gd => (jss_one (js_ret (je_ct cj_tuple (by rfl) T.b_tuple (by decide +kernel) (ja_cons (je_L (jl_comp (own := [("value", 2)]) rfl sc_without_asking.nd (ji_es (je_v 0)) (blkOk_by (own := [("value", 2)]) (N := ["values", "ask", "value"]) (sc := defScope s_without_asking) (by decide +kernel)) (by decide) (fun _ _ _ _ _ => (jg_n (i := 2) sc_without_asking.nd rfl (by first | exact .inl rfl | exact .inr rfl))) (fun _ _ _ _ _ => jts_nil) (fun _ _ _ _ _ => (je_if (JW.jt (jw_and (jt_cmp oj_notN (je_v 2) je_n (nomark _)) (jw_and1 (jt_cmp (oj_eq hr.units) (je_sl (je_v 2) jo_no (jo_so je_i)) (je_tup (ja_cons je_s (ja_cons (je_v 1) ja_nil))) (nomark _))))) je_n (je_v 2))))) ja_nil))))
theorem ok_forget_asking (T : Txt w K mg) (TT : Tabs K base mg) : Bg.FnG P w K mg base CX0 2 T.a_forget_asking T.fd_forget_asking ["machine", "ask"] (spD K F_forget_asking) :=
  fn_data T.F_forget_asking sc_forget_asking fun cdv A outer s H E hr gd => (jss_cons (js_set (i := 2) sc_forget_asking.nd rfl (.inr rfl) (je_fld (fc_lent_rooms T) (je_v 0)))
 (jss_cons (js_fld (fc_lent_rooms T) (je_v 0) (je_lockM (a := (eV 2)) (je_dcO (own := [("other", 3)]) rfl sc_forget_asking.nd (jz_k (je_v 2)) (blkOk_by (own := [("other", 3)]) (N := ["machine", "ask", "lent", "other"]) (sc := (defScope s_forget_asking)) (by decide +kernel)) (by decide) (fun _ _ _ _ _ => (jg_n (i := 3) sc_forget_asking.nd rfl (by first | exact .inl rfl | exact .inr rfl))) (fun _ _ _ _ _ => (jts_one (jt_cmp (oj_ne hr.units) (je_v 3) (je_v 1) (nomark _)))) (fun _ _ _ _ _ => (je_v 3)) (fun _ _ _ _ _ => (je_dgetA (hu1 hr) (je_v 2) (je_v 3))))))
 (jss_cons (js_fld (fc_box_values T) (je_v 0) (je_call (ok_without_asking T TT) (hr.mono (by decide)) gd (by rfl) T.g_without_asking T.F_without_asking.kp T.b_without_asking .nil (fun _ _ => .nil) (ja_cons (je_fld (fc_box_values T) (je_v 0)) (ja_cons (je_v 1) ja_nil))))
 (jss_one (js_fld (fc_pile_values T) (je_v 0) (je_call (ok_without_asking T TT) (hr.mono (by decide)) gd (by rfl) T.g_without_asking T.F_without_asking.kp T.b_without_asking .nil (fun _ _ => .nil) (ja_cons (je_fld (fc_pile_values T) (je_v 0)) (ja_cons (je_v 1) ja_nil))))))))
theorem ok_given_value (T : Txt w K mg) (TT : Tabs K base mg) : Bg.FnG P w K mg base CX0 3 T.a_given_value T.fd_given_value ["machine", "gives"] (spD K F_given_value) :=
  fn_data T.F_given_value sc_given_value fun cdv A outer s H E hr gd => (jss_one (js_match (je_v 1) (jm_seq rfl (jb_C (i := 2) sc_given_value.nd rfl (.inl rfl) (jb_C (i := 3) sc_given_value.nd rfl (.inl rfl) jb_0)) (.cons (.cons .nil)) (jss_one (js_ret (je_tup (ja_cons je_s (ja_cons (je_op oj_add (je_v 2) (je_op oj_mod (je_call (ok_next_answer T TT) (hr.mono (by decide)) gd (by rfl) T.g_next_answer T.F_next_answer.kp T.b_next_answer .nil (fun _ _ => .nil) (ja_cons (je_v 0) ja_nil)) (je_op oj_add (je_op oj_sub (je_v 3) (je_v 2)) je_i))) ja_nil)))))
  (jm_seq rfl (jb_C (i := 4) sc_given_value.nd rfl (.inl rfl) jb_0) (.cons .nil) (jss_one (js_ret (je_call (ok_lent_value T TT) (hr.mono (by decide)) gd (by rfl) T.g_lent_value T.F_lent_value.kp T.b_lent_value .nil (fun _ _ => .nil) (ja_cons (je_v 0) (ja_cons (je_v 4) (ja_cons (je_ix (je_ix (je_fld (fc_box_values T) (je_v 0)) je_i) je_i) ja_nil))))))
  (jm_any (jss_cons (js_ex (je_call (ok_forget_asking T TT) (hr.mono (by decide)) gd (by rfl) T.g_forget_asking T.F_forget_asking.kp T.b_forget_asking .nil (fun _ _ => .nil) (ja_cons (je_v 0) (ja_cons (je_ix (je_ix (je_fld (fc_box_values T) (je_v 0)) je_i) je_i) ja_nil))))
 (jss_one (js_ret (je_tup (ja_cons je_s (ja_cons je_i ja_nil)))))))))))
theorem ok_do_call (T : Txt w K mg) (TT : Tabs K base mg) : Bg.FnG P w K mg base CX0 5 T.a_do_call T.fd_do_call ["machine", "name"] (spD K F_do_call) :=
  fn_data T.F_do_call sc_do_call fun cdv A outer s H E hr gd => (jss_cons (js_tryN rfl rfl ⟨by rfl, by decide, .inl T.g_NoCall⟩ (fun W pn xe tk po => (jss_one (js_asg (je_call (ok_call_of T TT) (hr.mono (by decide)) gd (by rfl) T.g_call_of T.F_call_of.kp T.b_call_of .nil (fun _ _ => .nil) (ja_cons (je_fld (fc_terms T) (je_v 0)) (ja_cons (je_v 1) ja_nil))) (jg_t rfl (jgs_C (jg_n (i := 2) sc_do_call.nd rfl (.inl rfl)) (jgs_C (jg_n (i := 3) sc_do_call.nd rfl (.inl rfl)) jgs_0))))))
 (fun W pn xe tk po => (jxss_head (jxs_asg (jxe_call (okX_call_of T TT) tk (hr.mono (by decide)) gd (by rfl) T.g_call_of T.F_call_of.kp T.b_call_of .nil (fun _ _ => .nil) (ja_cons (je_fld (fc_terms T) (je_v 0)) (ja_cons (je_v 1) ja_nil))) (jg_t rfl (jgs_C (jg_n (i := 2) sc_do_call.nd rfl (.inl rfl)) (jgs_C (jg_n (i := 3) sc_do_call.nd rfl (.inl rfl)) jgs_0))))))
 (fun a pn => (jss_one (js_ret je_s))) (cat_NoCall T))
 (jss_cons (js_for PassesOwn.never rfl (ji_en (by rfl) T.b_enumerate (ja_cons (je_v 2) ja_nil)) (jg_t rfl (jgs_C (jg_n (i := 4) sc_do_call.nd rfl (.inl rfl)) (jgs_C (jg_n (i := 5) sc_do_call.nd rfl (.inl rfl)) jgs_0)))
  (jss_cons (js_set (i := 6) sc_do_call.nd rfl (.inl rfl) (je_ix (je_fld (fc_box_values T) (je_v 0)) (je_op oj_add (je_v 4) je_i)))
 (jss_cons (js_if (jt_cmp oj_isN (je_v 6) je_n (nomark _))
  (jss_one (js_ret je_s))
  jss_nil)
 (jss_one (js_if (jt_not (jt_val (je_call (ok_is_good_take T TT) (hr.mono (by decide)) gd (by rfl) T.g_is_good_take T.F_is_good_take.kp T.b_is_good_take .nil (fun _ _ => .nil) (ja_cons (je_v 0) (ja_cons (je_v 5) (ja_cons (je_v 6) ja_nil))))))
  (jss_one (js_ret je_s))
  jss_nil)))))
 (jss_cons (js_set (i := 6) sc_do_call.nd rfl (.inl rfl) (je_call (ok_given_value T TT) (hr.mono (by decide)) gd (by rfl) T.g_given_value T.F_given_value.kp T.b_given_value .nil (fun _ _ => .nil) (ja_cons (je_v 0) (ja_cons (je_v 3) ja_nil))))
 (jss_cons (js_fld (fc_box_values T) (je_v 0) (je_op oj_add (je_tup (ja_cons (je_v 6) (ja_cons je_n (ja_cons je_n (ja_cons je_n ja_nil))))) (je_sl (je_fld (fc_box_values T) (je_v 0)) (jo_so je_i) jo_no)))
 (jss_one (js_ret je_n))))))
theorem ok_do_end (T : Txt w K mg) (TT : Tabs K base mg) : Bg.FnG P w K mg base CX0 1 T.a_do_end T.fd_do_end ["machine"] (spD K F_do_end) :=
  fn_data T.F_do_end sc_do_end fun cdv A outer s H E hr gd => (jss_cons (js_set (i := 1) sc_do_end.nd rfl (.inl rfl) (je_ix (je_fld (fc_box_values T) (je_v 0)) je_i))
 (jss_cons (js_if (jt_cmp oj_isN (je_v 1) je_n (nomark _))
  (jss_one (js_ret je_s))
  jss_nil)
 (jss_cons (js_if (jt_cmp (oj_ne hr.units) (je_ix (je_v 1) je_i) je_s (nomark _))
  (jss_one (js_ret je_s))
  jss_nil)
 (jss_cons (js_if (jt_tru (je_fld (fc_lent_rooms T) (je_v 0)))
  (jss_one (js_ret je_s))
  jss_nil)
 (jss_cons (js_fld (fc_ending T) (je_v 0) (je_tup (ja_cons je_s (ja_cons (je_ix (je_v 1) je_i) ja_nil))))
 (jss_one (js_ret je_n)))))))
theorem ok_do_row (T : Txt w K mg) (TT : Tabs K base mg) : Bg.FnG P w K mg base CX0 7 T.a_do_row T.fd_do_row ["machine", "row"] (spD K F_do_row) :=
  fn_data T.F_do_row sc_do_row fun cdv A outer s H E hr gd => (jss_one (js_match (je_v 1) (jm_seq rfl (jb_C (i := 2) sc_do_row.nd rfl (.inl rfl) (jb_C (i := 3) sc_do_row.nd rfl (.inl rfl) jb_0)) (.cons (.cons .nil)) (jss_cons (js_ex (je_call (ok_put_box T TT) (hr.mono (by decide)) gd (by rfl) T.g_put_box T.F_put_box.kp T.b_put_box .nil (fun _ _ => .nil) (ja_cons (je_v 0) (ja_cons (je_v 2) (ja_cons (je_tup (ja_cons je_s (ja_cons (je_v 3) ja_nil))) ja_nil)))))
 (jss_one (js_ret je_n)))
  (jm_seq rfl (jb_C (i := 2) sc_do_row.nd rfl (.inl rfl) (jb_C (i := 4) sc_do_row.nd rfl (.inl rfl) jb_0)) (.cons (.cons .nil)) (jss_one (js_ret (je_call (ok_do_move T TT) (hr.mono (by decide)) gd (by rfl) T.g_do_move T.F_do_move.kp T.b_do_move .nil (fun _ _ => .nil) (ja_cons (je_v 0) (ja_cons (je_v 2) (ja_cons (je_v 4) ja_nil))))))
  (jm_seq rfl (jb_C (i := 5) sc_do_row.nd rfl (.inl rfl) (jb_C (i := 2) sc_do_row.nd rfl (.inl rfl) (jb_C (i := 6) sc_do_row.nd rfl (.inl rfl) jb_0))) (.cons (.cons (.cons .nil))) (jss_one (js_ret (je_call (ok_do_deed T TT) (hr.mono (by decide)) gd (by rfl) T.g_do_deed T.F_do_deed.kp T.b_do_deed .nil (fun _ _ => .nil) (ja_cons (je_v 0) (ja_cons (je_v 5) (ja_cons (je_v 2) (ja_cons (je_v 6) ja_nil)))))))
  (jm_seq rfl (jb_C (i := 5) sc_do_row.nd rfl (.inl rfl) (jb_C (i := 2) sc_do_row.nd rfl (.inl rfl) (jb_C (i := 6) sc_do_row.nd rfl (.inl rfl) (jb_C (i := 7) sc_do_row.nd rfl (.inl rfl) jb_0)))) (.cons (.cons (.cons (.cons .nil)))) (jss_one (js_ret (je_call (ok_do_jump T TT) (hr.mono (by decide)) gd (by rfl) T.g_do_jump T.F_do_jump.kp T.b_do_jump .nil (fun _ _ => .nil) (ja_cons (je_v 0) (ja_cons (je_v 5) (ja_cons (je_v 2) (ja_cons (je_v 6) (ja_cons (je_v 7) ja_nil))))))))
  (jm_seq rfl (jb_C (i := 7) sc_do_row.nd rfl (.inl rfl) jb_0) (.cons .nil) (jss_cons (js_fld (fc_at T) (je_v 0) (je_v 7))
 (jss_one (js_ret je_n)))
  (jm_seq rfl (jb_C (i := 2) sc_do_row.nd rfl (.inl rfl) (jb_C (i := 4) sc_do_row.nd rfl (.inl rfl) (jb_C (i := 8) sc_do_row.nd rfl (.inl rfl) jb_0))) (.cons (.cons (.cons .nil))) (jss_one (js_ret (je_call (ok_do_load T TT) (hr.mono (by decide)) gd (by rfl) T.g_do_load T.F_do_load.kp T.b_do_load .nil (fun _ _ => .nil) (ja_cons (je_v 0) (ja_cons (je_v 2) (ja_cons (je_v 4) (ja_cons (je_v 8) ja_nil)))))))
  (jm_seq rfl (jb_C (i := 2) sc_do_row.nd rfl (.inl rfl) (jb_C (i := 8) sc_do_row.nd rfl (.inl rfl) (jb_C (i := 6) sc_do_row.nd rfl (.inl rfl) jb_0))) (.cons (.cons (.cons .nil))) (jss_one (js_ret (je_call (ok_do_store T TT) (hr.mono (by decide)) gd (by rfl) T.g_do_store T.F_do_store.kp T.b_do_store .nil (fun _ _ => .nil) (ja_cons (je_v 0) (ja_cons (je_v 2) (ja_cons (je_v 8) (ja_cons (je_v 6) ja_nil)))))))
  (jm_seq rfl (jb_C (i := 9) sc_do_row.nd rfl (.inl rfl) jb_0) (.cons .nil) (jss_one (js_ret (je_call (ok_do_call T TT) (hr.mono (by decide)) gd (by rfl) T.g_do_call T.F_do_call.kp T.b_do_call .nil (fun _ _ => .nil) (ja_cons (je_v 0) (ja_cons (je_v 9) ja_nil)))))
  (jm_any (jss_one (js_ret (je_call (ok_do_end T TT) (hr.mono (by decide)) gd (by rfl) T.g_do_end T.F_do_end.kp T.b_do_end .nil (fun _ _ => .nil) (ja_cons (je_v 0) ja_nil)))))))))))))))
theorem ok_do_step (T : Txt w K mg) (TT : Tabs K base mg) : Bg.FnG P w K mg base CX0 8 T.a_do_step T.fd_do_step ["machine"] (spD K F_do_step) :=
  fn_data T.F_do_step sc_do_step fun cdv A outer s H E hr gd => (jss_cons (js_fld (fc_written T) (je_v 0) je_n)
 (jss_cons (js_if (jt_cmp (oj_eq hr.units) (je_fld (fc_at T) (je_v 0)) (je_cb cj_len (by rfl) T.b_len (by decide +kernel) (ja_cons (je_fld (fc_rows T) (je_v 0)) ja_nil)) (nomark _))
  (jss_cons (js_fld (fc_ending T) (je_v 0) (je_tup (ja_cons je_s (ja_cons je_n ja_nil))))
 (jss_one js_retN))
  jss_nil)
 (jss_cons (js_set (i := 1) sc_do_step.nd rfl (.inl rfl) (je_ix (je_fld (fc_rows T) (je_v 0)) (je_fld (fc_at T) (je_v 0))))
 (jss_cons (js_fldP (fc_at T) (je_v 0) je_i)
 (jss_cons (js_fldP (fc_rows_done T) (je_v 0) je_i)
 (jss_cons (js_set (i := 2) sc_do_step.nd rfl (.inl rfl) (je_call (ok_do_row T TT) (hr.mono (by decide)) gd (by rfl) T.g_do_row T.F_do_row.kp T.b_do_row .nil (fun _ _ => .nil) (ja_cons (je_v 0) (ja_cons (je_v 1) ja_nil))))
 (jss_one (js_if (jt_cmp oj_notN (je_v 2) je_n (nomark _))
  (jss_one (js_fld (fc_ending T) (je_v 0) (je_tup (ja_cons (je_v 2) (ja_cons je_n ja_nil)))))
  jss_nil))))))))
theorem ok_Machine___init__ (T : Txt w K mg) (TT : Tabs K base mg) : Bg.FnG P w K mg base CX0 11 T.a_Machine___init__ T.fd_Machine___init__ ["self", "program", "contract", "given", "shelves", "answers"] (spD K F_Machine___init__) :=
  fn_data T.F_Machine___init__ sc_Machine___init__ fun cdv A outer s H E hr gd => (jss_cons (js_ex (je_call (ok_look_at_inputs T TT) (hr.mono (by decide)) gd (by rfl) T.g_look_at_inputs T.F_look_at_inputs.kp T.b_look_at_inputs .nil (fun _ _ => .nil) (ja_cons (je_v 2) (ja_cons (je_v 3) (ja_cons (je_v 4) (ja_cons (je_v 5) ja_nil))))))
 (jss_cons (js_fld (fc_rows T) (je_v 0) (je_ct cj_list (by rfl) T.b_list (by decide +kernel) (ja_cons (je_v 1) ja_nil)))
 (jss_cons (js_fld (fc_terms T) (je_v 0) (je_tup (ja_cons (je_ct cj_list (by rfl) T.b_list (by decide +kernel) (ja_cons (je_ix (je_v 2) je_i) ja_nil)) (ja_cons (je_ct cj_list (by rfl) T.b_list (by decide +kernel) (ja_cons (je_ix (je_v 2) je_i) ja_nil)) ja_nil))))
 (jss_cons (js_fld (fc_cells T) (je_v 0) (je_ct cj_list (by rfl) T.b_list (by decide +kernel) (ja_cons (je_v 3) ja_nil)))
 (jss_cons (js_fld (fc_answers T) (je_v 0) (je_ct cj_list (by rfl) T.b_list (by decide +kernel) (ja_cons (je_v 5) ja_nil)))
 (jss_cons (js_fld (fc_rooms T) (je_v 0) (je_if (jt_cmp oj_isN (je_v 4) je_n (nomark _)) (je_call (ok_bare_shelves T TT) (hr.mono (by decide)) gd (by rfl) T.g_bare_shelves T.F_bare_shelves.kp T.b_bare_shelves .nil (fun _ _ => .nil) (ja_cons (je_v 2) ja_nil)) (je_call (ok_copied_shelves T TT) (hr.mono (by decide)) gd (by rfl) T.g_copied_shelves T.F_copied_shelves.kp T.b_copied_shelves .nil (fun _ _ => .nil) (ja_cons (je_v 4) ja_nil))))
 (jss_cons (js_set (i := 6) sc_Machine___init__.nd rfl (.inl rfl) (je_tup (ja_cons (je_tup (ja_cons je_s (ja_cons je_i ja_nil))) (ja_cons (je_tup (ja_cons je_s (ja_cons je_i ja_nil))) (ja_cons (je_tup (ja_cons je_s (ja_cons (je_cb cj_len (by rfl) T.b_len (by decide +kernel) (ja_cons (je_v 3) ja_nil)) ja_nil))) ja_nil)))))
 (jss_cons (js_fld (fc_box_values T) (je_v 0) (je_op oj_add (je_v 6) (je_op oj_mulT (je_tup (ja_cons je_n ja_nil)) (je_op oj_sub (je_gl (v := (.int (6))) (d := (.int (6))) (by rfl) T.g_BOXES ⟨_, rfl⟩ (fun _ _ => .int _)) (je_cb cj_len (by rfl) T.b_len (by decide +kernel) (ja_cons (je_v 6) ja_nil))))))
 (jss_cons (js_fld (fc_pile_values T) (je_v 0) (je_op oj_mulT (je_tup (ja_cons je_n ja_nil)) (je_gl (v := (.int (8))) (d := (.int (8))) (by rfl) T.g_PILE ⟨_, rfl⟩ (fun _ _ => .int _))))
 (jss_cons (js_fld (fc_lent_rooms T) (je_v 0) je_newD)
 (jss_cons (js_fld (fc_askings T) (je_v 0) je_i)
 (jss_cons (js_fld (fc_answered T) (je_v 0) je_i)
 (jss_cons (js_fld (fc_at T) (je_v 0) je_i)
 (jss_cons (js_fld (fc_rows_done T) (je_v 0) je_i)
 (jss_cons (js_fld (fc_ending T) (je_v 0) je_n)
 (jss_one (js_fld (fc_written T) (je_v 0) je_n)))))))))))))))))
theorem ok_run (T : Txt w K mg) (TT : Tabs K base mg) : Bg.FnG P w K mg base CX0 13 T.a_run T.fd_run ["program", "contract", "given", "shelves", "answers", "most"] (spD K F_run) :=
  fn_data T.F_run sc_run fun cdv A outer s H E hr gd => (jss_cons (js_set (i := 6) sc_run.nd rfl (.inl rfl) (je_make (c := "Machine") T.mk_Machine (ok_Machine___init__ T TT) (hr.mono (by decide)) gd (by rfl) T.g_Machine T.b_Machine___init__ .nil (fun _ _ => .nil) (ja_cons (je_v 0) (ja_cons (je_v 1) (ja_cons (je_v 2) (ja_cons (je_v 3) (ja_cons (je_v 4) ja_nil)))))))
 (jss_cons (js_while PassesOwn.never (jt_cmp oj_isN (je_fld (fc_ending T) (je_v 6)) je_n (nomark _))
  (jss_one (js_if (jt_cmp oj_ge (je_fld (fc_rows_done T) (je_v 6)) (je_v 5) (nomark _))
  (jss_one (js_fld (fc_ending T) (je_v 6) (je_tup (ja_cons je_s (ja_cons je_n ja_nil)))))
  (jss_one (js_ex (je_call (ok_do_step T TT) (hr.mono (by decide)) gd (by rfl) T.g_do_step T.F_do_step.kp T.b_do_step .nil (fun _ _ => .nil) (ja_cons (je_v 6) ja_nil)))))))
 (jss_one (js_ret (je_call (ok_told_end T TT) (hr.mono (by decide)) gd (by rfl) T.g_told_end T.F_told_end.kp T.b_told_end .nil (fun _ _ => .nil) (ja_cons (je_v 6) ja_nil))))))
theorem ok_l_pool (T : Txt w K mg) (TT : Tabs K base mg) : Bg.FnG P w K mg base CX0 1 T.a_l_pool T.fd_l_pool ["_law_script", "_law_k"] (spD K F_l_pool) :=
  fn_data T.F_l_pool sc_l_pool fun cdv A outer s H E hr gd => (jss_cons (js_set (i := 2) sc_l_pool.nd rfl (.inl rfl) (je_op oj_add (je_op oj_mul je_i (je_cb (cj_sum rfl) (by rfl) T.b_sum (by decide +kernel) (ja_cons (je_sl (je_v 0) jo_no (jo_so je_i)) ja_nil))) (je_v 1)))
 (jss_cons (js_if (jt_cmp oj_lt (je_v 1) (je_cb cj_len (by rfl) T.b_len (by decide +kernel) (ja_cons (je_v 0) ja_nil)) (nomark _))
  (jss_one (js_set (i := 2) sc_l_pool.nd rfl (.inl rfl) (je_ix (je_v 0) (je_v 1))))
  jss_nil)
 (jss_cons (js_set (i := 3) sc_l_pool.nd rfl (.inl rfl) (je_cb cj_abs (by rfl) T.b_abs (by decide +kernel) (ja_cons (je_v 2) ja_nil)))
 (jss_cons (js_set (i := 4) sc_l_pool.nd rfl (.inl rfl) (je_op oj_mod (je_op oj_mul (je_op oj_add (je_op oj_add (je_op oj_add (je_op oj_mod (je_v 3) je_i) (je_op oj_mul (je_op oj_mul je_i (je_v 1)) (je_v 1))) (je_op oj_mul je_i (je_v 1))) je_i) je_i) je_i))
 (jss_one (js_ret (je_new (jl_lst (ja_cons (je_op oj_mul (je_v 3) (je_ct cj_int (by rfl) T.b_int (by decide +kernel) (ja_cons (je_cmp oj_ge (je_v 3) (je_op oj_pow je_i je_i) (nomark _)) ja_nil))) (ja_cons (je_op oj_mod (je_op oj_mul (je_v 4) (je_v 4)) je_i) ja_nil))))))))))
theorem ok_l_take (T : Txt w K mg) (TT : Tabs K base mg) : Bg.FnG P w K mg base CX0 1 T.a_l_take T.fd_l_take ["_law_pool_here", "_law_many"] (spD K F_l_take) :=
  fn_data T.F_l_take sc_l_take fun cdv A outer s H E hr gd => (jss_cons (js_if (jt_cmp oj_gt (je_ixS (je_v 0) je_i) je_i (nomark _))
  (jss_cons (js_set (i := 2) sc_l_take.nd rfl (.inl rfl) (je_op oj_mod (je_ixS (je_v 0) je_i) (je_v 1)))
 (jss_cons (js_putO (je_op oj_div (je_ixS (je_v 0) je_i) (je_v 1)) (je_v 0) je_i (pg_sub (JE.pe (je_v 0)) (JE.pe je_i) set_list))
 (jss_one (js_ret (je_v 2)))))
  jss_nil)
 (jss_cons (js_putO (je_op oj_mod (je_op oj_add (je_op oj_mul (je_ixS (je_v 0) je_i) je_i) je_i) je_i) (je_v 0) je_i (pg_sub (JE.pe (je_v 0)) (JE.pe je_i) set_list))
 (jss_one (js_ret (je_op oj_mod (je_op oj_div (je_op oj_mod (je_op oj_mul (je_ixS (je_v 0) je_i) (je_ixS (je_v 0) je_i)) je_i) je_i) (je_v 1))))))
theorem ok_l_contract (T : Txt w K mg) (TT : Tabs K base mg) : Bg.FnG P w K mg base CX0 1 T.a_l_contract T.fd_l_contract ["_law_size"] (spD K F_l_contract) :=
  fn_data T.F_l_contract sc_l_contract fun cdv A outer s H E hr gd => (jss_cons (js_set (i := 1) sc_l_contract.nd rfl (.inl rfl) (je_tup (ja_cons je_s (ja_cons je_i (ja_cons je_i ja_nil)))))
 (jss_cons (js_own (i := 2) sc_l_contract.nd rfl (.inl rfl) (jl_lst (ja_cons (je_tup (ja_cons je_s (ja_cons (je_tup (ja_cons (je_v 1) ja_nil)) (ja_cons (je_tup (ja_cons je_s (ja_cons je_s ja_nil))) ja_nil)))) (ja_cons (je_tup (ja_cons je_s (ja_cons (je_tup (ja_cons (je_tup (ja_cons je_s (ja_cons je_s ja_nil))) ja_nil)) (ja_cons (je_tup (ja_cons je_s ja_nil)) ja_nil)))) ja_nil))))
 (jss_cons (js_app (i := 2) (je_tup (ja_cons je_s (ja_cons (je_tup (ja_cons (je_tup (ja_cons je_s (ja_cons je_i (ja_cons je_i ja_nil)))) (ja_cons (je_tup (ja_cons je_s (ja_cons je_i ja_nil))) ja_nil))) (ja_cons (je_tup (ja_cons je_s (ja_cons je_i (ja_cons je_i ja_nil)))) ja_nil)))) (Bg.pe_atK (K := K) rfl (pe_bm PySem.F.plainAttrs_list PySem.F.slot_list_append PySem.F.type_list_append mt_append (pv 2) (pa_cons (JE.pe (je_tup (ja_cons je_s (ja_cons (je_tup (ja_cons (je_tup (ja_cons je_s (ja_cons je_i (ja_cons je_i ja_nil)))) (ja_cons (je_tup (ja_cons je_s (ja_cons je_i ja_nil))) ja_nil))) (ja_cons (je_tup (ja_cons je_s (ja_cons je_i (ja_cons je_i ja_nil)))) ja_nil))))) pa_nil))))
 (jss_cons (js_own (i := 2) sc_l_contract.nd rfl (.inl rfl) (jl_add (je_v 2) (je_L (jl_lst (ja_cons (je_tup (ja_cons je_s (ja_cons (je_tup ja_nil) (ja_cons (je_tup (ja_cons je_s (ja_cons je_i (ja_cons je_i ja_nil)))) ja_nil)))) (ja_cons (je_tup (ja_cons je_s (ja_cons (je_tup (ja_cons (je_tup (ja_cons je_s (ja_cons je_i (ja_cons je_i ja_nil)))) ja_nil)) (ja_cons (je_tup (ja_cons je_s (ja_cons je_s ja_nil))) ja_nil)))) ja_nil))))))
 (jss_cons (js_app (i := 2) (je_tup (ja_cons je_s (ja_cons (je_tup (ja_cons (je_tup (ja_cons je_s (ja_cons je_s ja_nil))) (ja_cons (je_tup (ja_cons je_s (ja_cons je_i ja_nil))) ja_nil))) (ja_cons (je_tup (ja_cons je_s ja_nil)) ja_nil)))) (Bg.pe_atK (K := K) rfl (pe_bm PySem.F.plainAttrs_list PySem.F.slot_list_append PySem.F.type_list_append mt_append (pv 2) (pa_cons (JE.pe (je_tup (ja_cons je_s (ja_cons (je_tup (ja_cons (je_tup (ja_cons je_s (ja_cons je_s ja_nil))) (ja_cons (je_tup (ja_cons je_s (ja_cons je_i ja_nil))) ja_nil))) (ja_cons (je_tup (ja_cons je_s ja_nil)) ja_nil))))) pa_nil))))
 (jss_one (js_ret (je_tup (ja_cons (je_L (jl_lst (ja_cons (je_tup (ja_cons je_s (ja_cons (je_v 0) ja_nil))) (ja_cons (je_tup (ja_cons je_s (ja_cons je_i ja_nil))) ja_nil)))) (ja_cons (je_v 2) ja_nil))))))))))
theorem ok_l_plain (T : Txt w K mg) (TT : Tabs K base mg) : Bg.FnG P w K mg base CX0 1 T.a_l_plain T.fd_l_plain [] (spD K F_l_plain) :=
  fn_data T.F_l_plain sc_l_plain fun cdv A outer s H E hr gd => (jss_cons (js_set (i := 0) sc_l_plain.nd rfl (.inl rfl) (je_tup (ja_cons je_s ja_nil)))
 (jss_cons (js_own (i := 1) sc_l_plain.nd rfl (.inl rfl) (jl_lst (ja_cons (je_tup (ja_cons (je_L (jl_lst (ja_cons (je_v 0) ja_nil))) (ja_cons je_s (ja_cons je_i ja_nil)))) (ja_cons (je_tup (ja_cons (je_L (jl_lst (ja_cons (je_tup (ja_cons je_s (ja_cons je_i (ja_cons je_i ja_nil)))) (ja_cons (je_v 0) ja_nil)))) (ja_cons je_s (ja_cons je_i ja_nil)))) ja_nil))))
 (jss_cons (js_own (i := 1) sc_l_plain.nd rfl (.inl rfl) (jl_add (je_v 1) (je_L (jl_lst (ja_cons (je_tup (ja_cons (je_L (jl_lst (ja_cons (je_tup (ja_cons je_s (ja_cons je_i (ja_cons je_i ja_nil)))) (ja_cons (je_v 0) ja_nil)))) (ja_cons je_s (ja_cons je_i ja_nil)))) (ja_cons (je_tup (ja_cons (je_L (jl_lst (ja_cons (je_tup (ja_cons je_s (ja_cons je_i ja_nil))) ja_nil))) (ja_cons je_s (ja_cons je_i ja_nil)))) ja_nil))))))
 (jss_cons (js_own (i := 1) sc_l_plain.nd rfl (.inl rfl) (jl_add (je_v 1) (je_L (jl_lst (ja_cons (je_tup (ja_cons (je_L (jl_lst (ja_cons (je_tup (ja_cons je_s (ja_cons je_i (ja_cons je_i ja_nil)))) ja_nil))) (ja_cons je_s (ja_cons je_i ja_nil)))) (ja_cons (je_tup (ja_cons (je_L (jl_lst (ja_cons (je_tup (ja_cons je_s (ja_cons je_s (ja_cons je_i (ja_cons (je_tup (ja_cons je_s (ja_cons je_i ja_nil))) ja_nil))))) ja_nil))) (ja_cons je_s (ja_cons je_i ja_nil)))) ja_nil))))))
 (jss_cons (js_own (i := 1) sc_l_plain.nd rfl (.inl rfl) (jl_add (je_v 1) (je_L (jl_lst (ja_cons (je_tup (ja_cons (je_L (jl_lst (ja_cons (je_tup (ja_cons je_s (ja_cons je_s (ja_cons je_i (ja_cons (je_tup (ja_cons je_s (ja_cons je_i ja_nil))) ja_nil))))) ja_nil))) (ja_cons je_s (ja_cons je_i ja_nil)))) ja_nil)))))
 (jss_cons (js_own (i := 1) sc_l_plain.nd rfl (.inl rfl) (jl_add (je_v 1) (je_L (jl_lst (ja_cons (je_tup (ja_cons (je_L (jl_lst (ja_cons (je_tup (ja_cons je_s (ja_cons je_s (ja_cons je_i (ja_cons (je_tup (ja_cons je_s (ja_cons je_i ja_nil))) ja_nil))))) ja_nil))) (ja_cons je_s (ja_cons je_i ja_nil)))) ja_nil)))))
 (jss_cons (js_own (i := 1) sc_l_plain.nd rfl (.inl rfl) (jl_add (je_v 1) (je_L (jl_lst (ja_cons (je_tup (ja_cons (je_L (jl_lst (ja_cons (je_tup (ja_cons je_s (ja_cons je_s (ja_cons je_i (ja_cons (je_tup (ja_cons je_s (ja_cons je_i ja_nil))) ja_nil))))) ja_nil))) (ja_cons je_s (ja_cons je_i ja_nil)))) ja_nil)))))
 (jss_cons (js_own (i := 1) sc_l_plain.nd rfl (.inl rfl) (jl_add (je_v 1) (je_L (jl_lst (ja_cons (je_tup (ja_cons (je_L (jl_lst (ja_cons (je_tup (ja_cons je_s (ja_cons je_s (ja_cons je_i (ja_cons (je_tup (ja_cons je_s (ja_cons je_i ja_nil))) ja_nil))))) ja_nil))) (ja_cons je_s (ja_cons je_i ja_nil)))) ja_nil)))))
 (jss_cons (js_own (i := 1) sc_l_plain.nd rfl (.inl rfl) (jl_add (je_v 1) (je_L (jl_lst (ja_cons (je_tup (ja_cons (je_L (jl_lst (ja_cons (je_tup (ja_cons je_s (ja_cons je_s (ja_cons je_i (ja_cons (je_tup (ja_cons je_s (ja_cons je_i ja_nil))) (ja_cons je_i ja_nil)))))) ja_nil))) (ja_cons je_s (ja_cons je_i ja_nil)))) ja_nil)))))
 (jss_cons (js_own (i := 1) sc_l_plain.nd rfl (.inl rfl) (jl_add (je_v 1) (je_L (jl_lst (ja_cons (je_tup (ja_cons (je_L (jl_lst (ja_cons (je_tup (ja_cons je_s (ja_cons je_s (ja_cons je_i (ja_cons (je_tup (ja_cons je_s (ja_cons je_i ja_nil))) (ja_cons je_i ja_nil)))))) ja_nil))) (ja_cons je_s (ja_cons je_i ja_nil)))) ja_nil)))))
 (jss_cons (js_own (i := 1) sc_l_plain.nd rfl (.inl rfl) (jl_add (je_v 1) (je_L (jl_lst (ja_cons (je_tup (ja_cons (je_L (jl_lst (ja_cons (je_tup (ja_cons je_s (ja_cons je_s (ja_cons je_i (ja_cons (je_tup (ja_cons je_s (ja_cons je_i ja_nil))) (ja_cons je_i ja_nil)))))) ja_nil))) (ja_cons je_s (ja_cons je_i ja_nil)))) ja_nil)))))
 (jss_cons (js_own (i := 1) sc_l_plain.nd rfl (.inl rfl) (jl_add (je_v 1) (je_L (jl_lst (ja_cons (je_tup (ja_cons (je_L (jl_lst (ja_cons (je_tup (ja_cons je_s (ja_cons je_s (ja_cons je_i (ja_cons (je_tup (ja_cons je_s (ja_cons je_i ja_nil))) (ja_cons je_i ja_nil)))))) ja_nil))) (ja_cons je_s (ja_cons je_i ja_nil)))) ja_nil)))))
 (jss_cons (js_own (i := 1) sc_l_plain.nd rfl (.inl rfl) (jl_add (je_v 1) (je_L (jl_lst (ja_cons (je_tup (ja_cons (je_L (jl_lst (ja_cons (je_tup (ja_cons je_s (ja_cons je_s (ja_cons je_i (ja_cons (je_tup (ja_cons je_s (ja_cons je_i ja_nil))) (ja_cons je_i ja_nil)))))) (ja_cons (je_tup (ja_cons je_s (ja_cons je_i (ja_cons je_i ja_nil)))) (ja_cons (je_v 0) ja_nil))))) (ja_cons je_s (ja_cons je_i ja_nil)))) ja_nil)))))
 (jss_cons (js_own (i := 1) sc_l_plain.nd rfl (.inl rfl) (jl_add (je_v 1) (je_L (jl_lst (ja_cons (je_tup (ja_cons (je_L (jl_lst (ja_cons (je_tup (ja_cons je_s (ja_cons je_s (ja_cons je_i (ja_cons (je_tup (ja_cons je_s (ja_cons je_i ja_nil))) (ja_cons je_i ja_nil)))))) (ja_cons (je_tup (ja_cons je_s (ja_cons je_i ja_nil))) (ja_cons (je_tup (ja_cons je_s (ja_cons je_i (ja_cons je_i ja_nil)))) (ja_cons (je_v 0) ja_nil)))))) (ja_cons je_s (ja_cons je_i ja_nil)))) ja_nil)))))
 (jss_cons (js_own (i := 1) sc_l_plain.nd rfl (.inl rfl) (jl_add (je_v 1) (je_L (jl_lst (ja_cons (je_tup (ja_cons (je_L (jl_lst (ja_cons (je_tup (ja_cons je_s (ja_cons je_i (ja_cons je_i (ja_cons je_i ja_nil))))) ja_nil))) (ja_cons je_s (ja_cons je_i ja_nil)))) (ja_cons (je_tup (ja_cons (je_L (jl_lst (ja_cons (je_tup (ja_cons je_s (ja_cons je_i (ja_cons je_i (ja_cons je_i ja_nil))))) ja_nil))) (ja_cons je_s (ja_cons je_i ja_nil)))) ja_nil))))))
 (jss_cons (js_own (i := 1) sc_l_plain.nd rfl (.inl rfl) (jl_add (je_v 1) (je_L (jl_lst (ja_cons (je_tup (ja_cons (je_L (jl_lst (ja_cons (je_tup (ja_cons je_s (ja_cons je_i (ja_cons je_i (ja_cons je_i ja_nil))))) ja_nil))) (ja_cons je_s (ja_cons je_i ja_nil)))) (ja_cons (je_tup (ja_cons (je_L (jl_lst (ja_cons (je_tup (ja_cons je_s (ja_cons je_i (ja_cons je_i (ja_cons (je_neg je_i) ja_nil))))) ja_nil))) (ja_cons je_s (ja_cons je_i ja_nil)))) ja_nil))))))
 (jss_cons (js_own (i := 1) sc_l_plain.nd rfl (.inl rfl) (jl_add (je_v 1) (je_L (jl_lst (ja_cons (je_tup (ja_cons (je_L (jl_lst (ja_cons (je_tup (ja_cons je_s (ja_cons je_i (ja_cons je_i (ja_cons je_i ja_nil))))) ja_nil))) (ja_cons je_s (ja_cons je_i ja_nil)))) (ja_cons (je_tup (ja_cons (je_L (jl_lst (ja_cons (je_tup (ja_cons je_s (ja_cons je_i (ja_cons je_i (ja_cons je_i ja_nil))))) ja_nil))) (ja_cons je_s (ja_cons je_i ja_nil)))) ja_nil))))))
 (jss_cons (js_own (i := 1) sc_l_plain.nd rfl (.inl rfl) (jl_add (je_v 1) (je_L (jl_lst (ja_cons (je_tup (ja_cons (je_L (jl_lst (ja_cons (je_tup (ja_cons je_s (ja_cons je_i (ja_cons je_i (ja_cons je_i ja_nil))))) (ja_cons (je_v 0) ja_nil)))) (ja_cons je_s (ja_cons je_i ja_nil)))) (ja_cons (je_tup (ja_cons (je_L (jl_lst (ja_cons (je_tup (ja_cons je_s (ja_cons je_i (ja_cons je_i (ja_cons (je_tup (ja_cons je_s (ja_cons je_i ja_nil))) ja_nil))))) ja_nil))) (ja_cons je_s (ja_cons je_i ja_nil)))) ja_nil))))))
 (jss_cons (js_own (i := 1) sc_l_plain.nd rfl (.inl rfl) (jl_add (je_v 1) (je_L (jl_lst (ja_cons (je_tup (ja_cons (je_L (jl_lst (ja_cons (je_tup (ja_cons je_s (ja_cons je_i (ja_cons je_i (ja_cons (je_tup (ja_cons je_s (ja_cons je_i ja_nil))) ja_nil))))) ja_nil))) (ja_cons je_s (ja_cons je_i ja_nil)))) ja_nil)))))
 (jss_cons (js_own (i := 1) sc_l_plain.nd rfl (.inl rfl) (jl_add (je_v 1) (je_L (jl_lst (ja_cons (je_tup (ja_cons (je_L (jl_lst (ja_cons (je_tup (ja_cons je_s (ja_cons je_i (ja_cons je_i (ja_cons (je_tup (ja_cons je_s (ja_cons je_i ja_nil))) ja_nil))))) ja_nil))) (ja_cons je_s (ja_cons je_i ja_nil)))) ja_nil)))))
 (jss_cons (js_own (i := 1) sc_l_plain.nd rfl (.inl rfl) (jl_add (je_v 1) (je_L (jl_lst (ja_cons (je_tup (ja_cons (je_L (jl_lst (ja_cons (je_tup (ja_cons je_s (ja_cons je_i (ja_cons je_i (ja_cons (je_tup (ja_cons je_s (ja_cons je_i ja_nil))) ja_nil))))) ja_nil))) (ja_cons je_s (ja_cons je_i ja_nil)))) ja_nil)))))
 (jss_cons (js_own (i := 1) sc_l_plain.nd rfl (.inl rfl) (jl_add (je_v 1) (je_L (jl_lst (ja_cons (je_tup (ja_cons (je_L (jl_lst (ja_cons (je_tup (ja_cons je_s (ja_cons je_i (ja_cons je_i (ja_cons (je_tup (ja_cons je_s (ja_cons je_i ja_nil))) ja_nil))))) (ja_cons (je_tup (ja_cons je_s (ja_cons je_i (ja_cons je_i (ja_cons je_i ja_nil))))) (ja_cons (je_v 0) ja_nil))))) (ja_cons je_s (ja_cons je_i ja_nil)))) ja_nil)))))
 (jss_cons (js_own (i := 1) sc_l_plain.nd rfl (.inl rfl) (jl_add (je_v 1) (je_L (jl_lst (ja_cons (je_tup (ja_cons (je_L (jl_lst (ja_cons (je_tup (ja_cons je_s (ja_cons je_s (ja_cons je_i (ja_cons (je_tup (ja_cons je_s (ja_cons je_i ja_nil))) ja_nil))))) (ja_cons (je_tup (ja_cons je_s (ja_cons je_i (ja_cons je_i (ja_cons je_i ja_nil))))) ja_nil)))) (ja_cons je_s (ja_cons je_i ja_nil)))) ja_nil)))))
 (jss_cons (js_set (i := 2) sc_l_plain.nd rfl (.inl rfl) (je_L (jl_lst (ja_cons (je_tup (ja_cons je_s (ja_cons je_s (ja_cons je_i (ja_cons (je_tup (ja_cons je_s (ja_cons je_i ja_nil))) ja_nil))))) (ja_cons (je_tup (ja_cons je_s (ja_cons je_i (ja_cons je_i (ja_cons (je_tup (ja_cons je_s (ja_cons je_i ja_nil))) ja_nil))))) ja_nil)))))
 (jss_cons (js_app (i := 1) (je_tup (ja_cons (je_op oj_add (je_v 2) (je_L (jl_lst (ja_cons (je_tup (ja_cons je_s (ja_cons je_i (ja_cons je_i (ja_cons je_i ja_nil))))) (ja_cons (je_v 0) ja_nil))))) (ja_cons je_s (ja_cons je_i ja_nil)))) (Bg.pe_atK (K := K) rfl (pe_bm PySem.F.plainAttrs_list PySem.F.slot_list_append PySem.F.type_list_append mt_append (pv 1) (pa_cons (JE.pe (je_tup (ja_cons (je_op oj_add (je_v 2) (je_L (jl_lst (ja_cons (je_tup (ja_cons je_s (ja_cons je_i (ja_cons je_i (ja_cons je_i ja_nil))))) (ja_cons (je_v 0) ja_nil))))) (ja_cons je_s (ja_cons je_i ja_nil))))) pa_nil))))
 (jss_one (js_ret (je_v 1))))))))))))))))))))))))))))
theorem ok_l_calls (T : Txt w K mg) (TT : Tabs K base mg) : Bg.FnG P w K mg base CX0 1 T.a_l_calls T.fd_l_calls [] (spD K F_l_calls) :=
  fn_data T.F_l_calls sc_l_calls fun cdv A outer s H E hr gd => (jss_cons (js_set (i := 0) sc_l_calls.nd rfl (.inl rfl) (je_tup (ja_cons je_s ja_nil)))
 (jss_cons (js_set (i := 1) sc_l_calls.nd rfl (.inl rfl) (je_L (jl_lst (ja_cons (je_tup (ja_cons je_s (ja_cons je_i (ja_cons je_i ja_nil)))) (ja_cons (je_tup (ja_cons je_s (ja_cons je_s ja_nil))) ja_nil)))))
 (jss_cons (js_set (i := 2) sc_l_calls.nd rfl (.inl rfl) (je_L (jl_lst (ja_cons (je_tup (ja_cons (je_L (jl_lst (ja_cons (je_tup (ja_cons je_s (ja_cons je_s ja_nil))) ja_nil))) (ja_cons je_s (ja_cons je_i ja_nil)))) (ja_cons (je_tup (ja_cons (je_L (jl_lst (ja_cons (je_tup (ja_cons je_s (ja_cons je_s ja_nil))) ja_nil))) (ja_cons je_s (ja_cons je_i ja_nil)))) ja_nil)))))
 (jss_cons (js_set (i := 2) sc_l_calls.nd rfl (.inl rfl) (je_op oj_add (je_v 2) (je_L (jl_lst (ja_cons (je_tup (ja_cons (je_L (jl_lst (ja_cons (je_tup (ja_cons je_s (ja_cons je_s ja_nil))) ja_nil))) (ja_cons je_s (ja_cons je_i ja_nil)))) (ja_cons (je_tup (ja_cons (je_L (jl_lst (ja_cons (je_tup (ja_cons je_s (ja_cons je_i (ja_cons je_i ja_nil)))) (ja_cons (je_tup (ja_cons je_s (ja_cons je_s ja_nil))) ja_nil)))) (ja_cons je_s (ja_cons je_i ja_nil)))) ja_nil))))))
 (jss_cons (js_set (i := 2) sc_l_calls.nd rfl (.inl rfl) (je_op oj_add (je_v 2) (je_L (jl_lst (ja_cons (je_tup (ja_cons (je_L (jl_lst (ja_cons (je_tup (ja_cons je_s (ja_cons je_i (ja_cons je_i ja_nil)))) ja_nil))) (ja_cons je_s (ja_cons je_i ja_nil)))) (ja_cons (je_tup (ja_cons (je_L (jl_lst (ja_cons (je_tup (ja_cons je_s (ja_cons je_s ja_nil))) (ja_cons (je_tup (ja_cons je_s (ja_cons je_s ja_nil))) ja_nil)))) (ja_cons je_s (ja_cons je_i ja_nil)))) ja_nil))))))
 (jss_cons (js_set (i := 2) sc_l_calls.nd rfl (.inl rfl) (je_op oj_add (je_v 2) (je_L (jl_lst (ja_cons (je_tup (ja_cons (je_L (jl_lst (ja_cons (je_tup (ja_cons je_s (ja_cons je_i (ja_cons je_i ja_nil)))) (ja_cons (je_tup (ja_cons je_s (ja_cons je_s ja_nil))) ja_nil)))) (ja_cons je_s (ja_cons je_i ja_nil)))) ja_nil)))))
 (jss_cons (js_set (i := 2) sc_l_calls.nd rfl (.inl rfl) (je_op oj_add (je_v 2) (je_L (jl_lst (ja_cons (je_tup (ja_cons (je_L (jl_lst (ja_cons (je_tup (ja_cons je_s (ja_cons je_i (ja_cons je_i ja_nil)))) (ja_cons (je_tup (ja_cons je_s (ja_cons je_s ja_nil))) ja_nil)))) (ja_cons je_s (ja_cons je_i ja_nil)))) ja_nil)))))
 (jss_cons (js_set (i := 2) sc_l_calls.nd rfl (.inl rfl) (je_op oj_add (je_v 2) (je_L (jl_lst (ja_cons (je_tup (ja_cons (je_L (jl_lst (ja_cons (je_tup (ja_cons je_s (ja_cons je_i (ja_cons je_i ja_nil)))) (ja_cons (je_tup (ja_cons je_s (ja_cons je_s ja_nil))) ja_nil)))) (ja_cons je_s (ja_cons je_i ja_nil)))) ja_nil)))))
 (jss_cons (js_set (i := 2) sc_l_calls.nd rfl (.inl rfl) (je_op oj_add (je_v 2) (je_L (jl_lst (ja_cons (je_tup (ja_cons (je_L (jl_lst (ja_cons (je_tup (ja_cons je_s (ja_cons je_i (ja_cons je_i ja_nil)))) (ja_cons (je_tup (ja_cons je_s (ja_cons je_i (ja_cons je_i ja_nil)))) (ja_cons (je_tup (ja_cons je_s (ja_cons je_s ja_nil))) ja_nil))))) (ja_cons je_s (ja_cons je_i ja_nil)))) ja_nil)))))
 (jss_cons (js_set (i := 2) sc_l_calls.nd rfl (.inl rfl) (je_op oj_add (je_v 2) (je_L (jl_lst (ja_cons (je_tup (ja_cons (je_L (jl_lst (ja_cons (je_tup (ja_cons je_s (ja_cons je_s ja_nil))) (ja_cons (je_v 0) ja_nil)))) (ja_cons je_s (ja_cons je_i ja_nil)))) (ja_cons (je_tup (ja_cons (je_op oj_add (je_v 1) (je_L (jl_lst (ja_cons (je_v 0) ja_nil)))) (ja_cons je_s (ja_cons je_i ja_nil)))) ja_nil))))))
 (jss_cons (js_set (i := 2) sc_l_calls.nd rfl (.inl rfl) (je_op oj_add (je_v 2) (je_L (jl_lst (ja_cons (je_tup (ja_cons (je_op oj_add (je_v 1) (je_L (jl_lst (ja_cons (je_tup (ja_cons je_s (ja_cons je_i (ja_cons je_i ja_nil)))) (ja_cons (je_v 0) ja_nil))))) (ja_cons je_s (ja_cons je_i ja_nil)))) ja_nil)))))
 (jss_cons (js_set (i := 2) sc_l_calls.nd rfl (.inl rfl) (je_op oj_add (je_v 2) (je_L (jl_lst (ja_cons (je_tup (ja_cons (je_op oj_add (je_v 1) (je_L (jl_lst (ja_cons (je_tup (ja_cons je_s (ja_cons je_i (ja_cons je_i (ja_cons (je_tup (ja_cons je_s (ja_cons je_i ja_nil))) ja_nil))))) ja_nil)))) (ja_cons je_s (ja_cons je_i ja_nil)))) ja_nil)))))
 (jss_cons (js_set (i := 2) sc_l_calls.nd rfl (.inl rfl) (je_op oj_add (je_v 2) (je_L (jl_lst (ja_cons (je_tup (ja_cons (je_op oj_add (je_v 1) (je_L (jl_lst (ja_cons (je_tup (ja_cons je_s (ja_cons je_i (ja_cons je_i (ja_cons (je_tup (ja_cons je_s (ja_cons je_i ja_nil))) ja_nil))))) ja_nil)))) (ja_cons je_s (ja_cons je_i ja_nil)))) ja_nil)))))
 (jss_cons (js_set (i := 2) sc_l_calls.nd rfl (.inl rfl) (je_op oj_add (je_v 2) (je_L (jl_lst (ja_cons (je_tup (ja_cons (je_op oj_add (je_v 1) (je_L (jl_lst (ja_cons (je_tup (ja_cons je_s (ja_cons je_i (ja_cons je_i ja_nil)))) (ja_cons (je_tup (ja_cons je_s (ja_cons je_i (ja_cons je_i (ja_cons (je_tup (ja_cons je_s (ja_cons je_i ja_nil))) ja_nil))))) ja_nil))))) (ja_cons je_s (ja_cons je_i ja_nil)))) ja_nil)))))
 (jss_cons (js_set (i := 2) sc_l_calls.nd rfl (.inl rfl) (je_op oj_add (je_v 2) (je_L (jl_lst (ja_cons (je_tup (ja_cons (je_op oj_add (je_v 1) (je_L (jl_lst (ja_cons (je_tup (ja_cons je_s (ja_cons je_i (ja_cons je_i ja_nil)))) ja_nil)))) (ja_cons je_s (ja_cons je_i ja_nil)))) ja_nil)))))
 (jss_cons (js_set (i := 2) sc_l_calls.nd rfl (.inl rfl) (je_op oj_add (je_v 2) (je_L (jl_lst (ja_cons (je_tup (ja_cons (je_op oj_add (je_v 1) (je_L (jl_lst (ja_cons (je_tup (ja_cons je_s (ja_cons je_i (ja_cons je_i ja_nil)))) (ja_cons (je_tup (ja_cons je_s (ja_cons je_s ja_nil))) (ja_cons (je_v 0) ja_nil)))))) (ja_cons je_s (ja_cons je_i ja_nil)))) ja_nil)))))
 (jss_cons (js_set (i := 2) sc_l_calls.nd rfl (.inl rfl) (je_op oj_add (je_v 2) (je_L (jl_lst (ja_cons (je_tup (ja_cons (je_op oj_add (je_v 1) (je_L (jl_lst (ja_cons (je_tup (ja_cons je_s (ja_cons je_i (ja_cons je_i (ja_cons je_i ja_nil))))) (ja_cons (je_v 0) ja_nil))))) (ja_cons je_s (ja_cons je_i ja_nil)))) ja_nil)))))
 (jss_cons (js_set (i := 2) sc_l_calls.nd rfl (.inl rfl) (je_op oj_add (je_v 2) (je_L (jl_lst (ja_cons (je_tup (ja_cons (je_op oj_add (je_v 1) (je_L (jl_lst (ja_cons (je_tup (ja_cons je_s (ja_cons je_i (ja_cons je_i ja_nil)))) (ja_cons (je_tup (ja_cons je_s (ja_cons je_i (ja_cons je_i ja_nil)))) (ja_cons (je_tup (ja_cons je_s (ja_cons je_s ja_nil))) (ja_cons (je_tup (ja_cons je_s (ja_cons je_i (ja_cons je_i (ja_cons je_i ja_nil))))) ja_nil))))))) (ja_cons je_s (ja_cons je_i ja_nil)))) ja_nil)))))
 (jss_cons (js_set (i := 2) sc_l_calls.nd rfl (.inl rfl) (je_op oj_add (je_v 2) (je_L (jl_lst (ja_cons (je_tup (ja_cons (je_op oj_add (je_v 1) (je_L (jl_lst (ja_cons (je_tup (ja_cons je_s (ja_cons je_s (ja_cons je_i (ja_cons (je_tup (ja_cons je_s (ja_cons je_i ja_nil))) ja_nil))))) (ja_cons (je_tup (ja_cons je_s (ja_cons je_i (ja_cons je_i ja_nil)))) (ja_cons (je_tup (ja_cons je_s (ja_cons je_s ja_nil))) ja_nil)))))) (ja_cons je_s (ja_cons je_i ja_nil)))) ja_nil)))))
 (jss_cons (js_set (i := 2) sc_l_calls.nd rfl (.inl rfl) (je_op oj_add (je_v 2) (je_L (jl_lst (ja_cons (je_tup (ja_cons (je_L (jl_lst (ja_cons (je_tup (ja_cons je_s (ja_cons je_i (ja_cons je_i ja_nil)))) (ja_cons (je_tup (ja_cons je_s (ja_cons je_s ja_nil))) (ja_cons (je_v 0) ja_nil))))) (ja_cons je_s (ja_cons je_i ja_nil)))) ja_nil)))))
 (jss_cons (js_set (i := 2) sc_l_calls.nd rfl (.inl rfl) (je_op oj_add (je_v 2) (je_L (jl_lst (ja_cons (je_tup (ja_cons (je_op oj_add (je_v 1) (je_L (jl_lst (ja_cons (je_tup (ja_cons je_s (ja_cons je_i (ja_cons je_i ja_nil)))) (ja_cons (je_tup (ja_cons je_s (ja_cons je_s ja_nil))) ja_nil))))) (ja_cons je_s (ja_cons je_i ja_nil)))) (ja_cons (je_tup (ja_cons (je_op oj_add (je_v 1) (je_v 1)) (ja_cons je_s (ja_cons je_i ja_nil)))) ja_nil))))))
 (jss_cons (js_set (i := 2) sc_l_calls.nd rfl (.inl rfl) (je_op oj_add (je_v 2) (je_L (jl_lst (ja_cons (je_tup (ja_cons (je_op oj_add (je_op oj_add (je_op oj_add (je_v 1) (je_L (jl_lst (ja_cons (je_tup (ja_cons je_s (ja_cons je_i (ja_cons je_i ja_nil)))) ja_nil)))) (je_v 1)) (je_L (jl_lst (ja_cons (je_tup (ja_cons je_s (ja_cons je_i (ja_cons je_i ja_nil)))) (ja_cons (je_tup (ja_cons je_s (ja_cons je_s ja_nil))) (ja_cons (je_v 0) ja_nil)))))) (ja_cons je_s (ja_cons je_i ja_nil)))) ja_nil)))))
 (jss_one (js_ret (je_v 2)))))))))))))))))))))))))
theorem ok_Runner___init__ (T : Txt w K mg) (TT : Tabs K base mg) : Bg.FnG P w K mg base CX0 13 T.a_Runner___init__ T.fd_Runner___init__ ["self", "program", "contract", "given", "shelves", "answers"] (spD K F_Runner___init__) :=
  fn_data T.F_Runner___init__ sc_Runner___init__ fun cdv A outer s H E hr gd => (jss_cons (js_fld (fc_machine T) (je_v 0) (je_make (c := "Machine") T.mk_Machine (ok_Machine___init__ T TT) (hr.mono (by decide)) gd (by rfl) T.g_Machine T.b_Machine___init__ .nil (fun _ _ => .nil) (ja_cons (je_v 1) (ja_cons (je_v 2) (ja_cons (je_v 3) (ja_cons (je_v 4) (ja_cons (je_v 5) ja_nil)))))))
 (jss_one (js_fld (fc_history T) (je_v 0) (je_new (jl_lst ja_nil)))))
theorem ok_Runner_step (T : Txt w K mg) (TT : Tabs K base mg) : Bg.FnG P w K mg base CX0 9 T.a_Runner_step T.fd_Runner_step ["self"] (spD K F_Runner_step) :=
  fn_data T.F_Runner_step sc_Runner_step fun cdv A outer s H E hr gd => (jss_cons (js_if (jt_cmp oj_notN (je_fld (fc_ending T) (je_fld (fc_machine T) (je_v 0))) je_n (nomark _))
  (jss_one (js_ret je_b))
  jss_nil)
 (jss_cons (js_set (i := 1) sc_Runner_step.nd rfl (.inl rfl) (je_call (ok_moment_of T TT) (hr.mono (by decide)) gd (by rfl) T.g_moment_of T.F_moment_of.kp T.b_moment_of .nil (fun _ _ => .nil) (ja_cons (je_fld (fc_machine T) (je_v 0)) ja_nil)))
 (jss_cons (js_ex (je_call (ok_do_step T TT) (hr.mono (by decide)) gd (by rfl) T.g_do_step T.F_do_step.kp T.b_do_step .nil (fun _ _ => .nil) (ja_cons (je_fld (fc_machine T) (je_v 0)) ja_nil)))
 (jss_cons (js_appO (je_fld (fc_history T) (je_v 0)) (je_tup (ja_cons (je_v 1) (ja_cons (je_fld (fc_written T) (je_fld (fc_machine T) (je_v 0))) ja_nil))) (Bg.pe_atK (K := K) rfl (pe_bm PySem.F.plainAttrs_list PySem.F.slot_list_append PySem.F.type_list_append mt_append (JE.pe (je_fld (fc_history T) (je_v 0))) (pa_cons (JE.pe (je_tup (ja_cons (je_v 1) (ja_cons (je_fld (fc_written T) (je_fld (fc_machine T) (je_v 0))) ja_nil)))) pa_nil))))
 (jss_one (js_ret (je_cmp oj_isN (je_fld (fc_ending T) (je_fld (fc_machine T) (je_v 0))) je_n (nomark _))))))))
theorem ok_Runner_told (T : Txt w K mg) (TT : Tabs K base mg) : Bg.FnG P w K mg base CX0 3 T.a_Runner_told T.fd_Runner_told ["self"] (spD K F_Runner_told) :=
  fn_data T.F_Runner_told sc_Runner_told fun cdv A outer s H E hr gd => (jss_one (js_ret (je_call (ok_told_end T TT) (hr.mono (by decide)) gd (by rfl) T.g_told_end T.F_told_end.kp T.b_told_end .nil (fun _ _ => .nil) (ja_cons (je_fld (fc_machine T) (je_v 0)) ja_nil))))
theorem ok_l_right (T : Txt w K mg) (TT : Tabs K base mg) : Bg.FnG P w K mg base CX0 15 T.a_l_right T.fd_l_right ["_law_rows", "_law_word", "_law_steps", "_law_ahead"] (spD K F_l_right) :=
  fn_data T.F_l_right sc_l_right fun cdv A outer s H E hr gd => (jss_cons (js_set (i := 4) sc_l_right.nd rfl (.inl rfl) (je_dict (jp_cons je_s (je_dict (jp_cons je_i (je_L (jl_lst (ja_cons je_i (ja_cons je_i (ja_cons je_i (ja_cons je_i ja_nil)))))) jp_nil)) (jp_cons je_s je_newD jp_nil))))
 (jss_cons (js_own (i := 5) sc_l_right.nd rfl (.inl rfl) (jl_lst ja_nil))
 (jss_cons (js_for PassesOwn.never rfl (ji_es (je_v 0)) (jg_n (i := 6) sc_l_right.nd rfl (.inl rfl))
  (jss_one (js_app (i := 5) (je_if (jt_inO (hu65 hr) (je_ix (je_v 6) je_i) (je_tup (ja_cons je_s (ja_cons je_s ja_nil))) (by rfl)) (je_op oj_add (je_sl (je_v 6) jo_no (jo_so (je_neg je_i))) (je_tup (ja_cons (je_op oj_add (je_ix (je_v 6) (je_neg je_i)) (je_cb cj_len (by rfl) T.b_len (by decide +kernel) (ja_cons (je_v 3) ja_nil))) ja_nil))) (je_v 6)) (Bg.pe_atK (K := K) rfl (pe_bm PySem.F.plainAttrs_list PySem.F.slot_list_append PySem.F.type_list_append mt_append (pv 5) (pa_cons (JE.pe (je_if (jt_inO (hu65 hr) (je_ix (je_v 6) je_i) (je_tup (ja_cons je_s (ja_cons je_s ja_nil))) (by rfl)) (je_op oj_add (je_sl (je_v 6) jo_no (jo_so (je_neg je_i))) (je_tup (ja_cons (je_op oj_add (je_ix (je_v 6) (je_neg je_i)) (je_cb cj_len (by rfl) T.b_len (by decide +kernel) (ja_cons (je_v 3) ja_nil))) ja_nil))) (je_v 6))) pa_nil))))))
 (jss_cons (js_set (i := 7) sc_l_right.nd rfl (.inl rfl) (je_callN (ok_run T TT) (hr.mono (by decide)) gd (by rfl) T.g_run T.F_run.kp T.k_run (ja_cons (je_op oj_add (je_v 3) (je_v 5)) (ja_cons (je_call (ok_l_contract T TT) (hr.mono (by decide)) gd (by rfl) T.g_l_contract T.F_l_contract.kp T.b_l_contract .nil (fun _ _ => .nil) (ja_cons je_i ja_nil)) ja_nil)) (jk_cons (je_L (jl_lst (ja_cons je_i (ja_cons je_i ja_nil)))) (jk_cons (je_v 4) (jk_cons (je_L (jl_lst (ja_cons je_i ja_nil))) (jk_cons je_i jk_nil))))))
 (jss_cons (js_set (i := 8) sc_l_right.nd rfl (.inl rfl) (je_getO (hu1 hr) (je_dict (jp_cons je_s (je_ix (je_v 7) je_i) jp_nil)) (je_v 1) je_n))
 (jss_cons (js_set (i := 9) sc_l_right.nd rfl (.inl rfl) (je_cb (cj_min rfl) (by rfl) T.b_min (by decide +kernel) (ja_cons je_i (ja_cons (je_op oj_add (je_v 2) (je_cb cj_len (by rfl) T.b_len (by decide +kernel) (ja_cons (je_v 3) ja_nil))) ja_nil))))
 (jss_cons (js_if (JW.jt (jw_or (jt_cmp (oj_ne hr.units) (je_sl (je_v 7) jo_no (jo_so je_i)) (je_tup (ja_cons (je_v 1) (ja_cons (je_v 8) (ja_cons (je_v 9) ja_nil)))) (nomark _)) (jw_or (jt_cmp (oj_ne hr.units) (je_cmp (oj_eq hr.units) (je_v 1) je_s (nomark _)) (je_cmp oj_notN (je_ix (je_v 7) je_i) je_n (nomark _)) (nomark _)) (jw_or1 (jt_opR (oj_alikeN hr.units) (je_ix (je_v 7) je_i) (je_v 4) (nomark _))))))
  (jss_one (js_ret je_b))
  jss_nil)
 (jss_cons (js_set (i := 10) sc_l_right.nd rfl (.inl rfl) (je_makeK (c := "Runner") krel_app T.mk_Runner (ok_Runner___init__ T TT) (hr.mono (by decide)) gd (by rfl) T.g_Runner T.k_Runner___init__ (ja_cons (je_op oj_add (je_v 3) (je_v 5)) (ja_cons (je_call (ok_l_contract T TT) (hr.mono (by decide)) gd (by rfl) T.g_l_contract T.F_l_contract.kp T.b_l_contract .nil (fun _ _ => .nil) (ja_cons je_i ja_nil)) ja_nil)) (jk_cons (je_L (jl_lst (ja_cons je_i (ja_cons je_i ja_nil)))) (jk_cons (je_v 4) (jk_cons (je_L (jl_lst (ja_cons je_i ja_nil))) jk_nil)))))
 (jss_cons (js_for PassesOwn.never rfl (ji_r1 (by rfl) T.b_range (ja_cons je_i ja_nil)) (jg_n (i := 11) sc_l_right.nd rfl (.inl rfl))
  (jss_one (js_ex (je_meth0 (c := "Runner") (je_v 10) T.cl_Runner T.me_Runner_step (ok_Runner_step T TT) (hr.mono (by decide)) gd T.b_Runner_step))))
 (jss_one (js_ret (je_or (je_and (je_cmp (oj_eq hr.units) (je_v 1) je_s (nomark _)) (je_one (je_cmp oj_isN (je_meth0 (c := "Runner") (je_v 10) T.cl_Runner T.me_Runner_told (ok_Runner_told T TT) (hr.mono (by decide)) gd T.b_Runner_told) je_n (nomark _)))) (je_one (je_opR (oj_alike hr.units) (je_meth0 (c := "Runner") (je_v 10) T.cl_Runner T.me_Runner_told (ok_Runner_told T TT) (hr.mono (by decide)) gd T.b_Runner_told) (je_v 7) (nomark _)))))))))))))))
theorem ok_law (T : Txt w K mg) (TT : Tabs K base mg) {f : Addr} {fd : FuncData} (F : Fun K "law" "law" s_law f fd) : Bg.FnG P w K mg base CX0 16 f fd ["_law_script"] (spD K F_law) :=
  fn_data F sc_law fun cdv A outer s H E hr gd => (jss_cons (js_for PassesOwn.never rfl (ji_r1 (by rfl) T.b_range (ja_cons (je_cb (cj_max rfl) (by rfl) T.b_max (by decide +kernel) (ja_cons je_i (ja_cons (je_cb (cj_min rfl) (by rfl) T.b_min (by decide +kernel) (ja_cons (je_cb cj_len (by rfl) T.b_len (by decide +kernel) (ja_cons (je_v 0) ja_nil)) (ja_cons je_i ja_nil))) ja_nil))) ja_nil)) (jg_n (i := 1) sc_law.nd rfl (.inl rfl))
  (jss_cons (js_set (i := 2) sc_law.nd rfl (.inl rfl) (je_call (ok_l_pool T TT) (hr.mono (by decide)) gd (by rfl) T.g_l_pool T.F_l_pool.kp T.b_l_pool .nil (fun _ _ => .nil) (ja_cons (je_v 0) (ja_cons (je_v 1) ja_nil))))
 (jss_cons (js_set (i := 3) sc_law.nd rfl (.inl rfl) (je_L (jl_lst (ja_cons (je_L (jl_lst ja_nil)) (ja_cons (je_L (jl_lst (ja_cons (je_tup (ja_cons je_s (ja_cons je_i (ja_cons je_i ja_nil)))) ja_nil))) (ja_cons (je_L (jl_lst (ja_cons (je_tup (ja_cons je_s (ja_cons je_i (ja_cons je_i ja_nil)))) (ja_cons (je_tup (ja_cons je_s (ja_cons je_i ja_nil))) ja_nil)))) (ja_cons (je_L (jl_lst (ja_cons (je_tup (ja_cons je_s (ja_cons je_i (ja_cons je_i ja_nil)))) ja_nil))) ja_nil)))))))
 (jss_cons (js_set (i := 4) sc_law.nd rfl (.inl rfl) (je_ix (je_v 3) (je_call (ok_l_take T TT) (hr.mono (by decide)) gd (by rfl) T.g_l_take T.F_l_take.kp T.b_l_take .nil (fun _ _ => .nil) (ja_cons (je_v 2) (ja_cons je_i ja_nil)))))
 (jss_one (js_for PassesOwn.never rfl (ji_es (je_iso 5 (je_op oj_add (je_call0 (ok_l_plain T TT) (hr.mono (by decide)) gd (by rfl) T.g_l_plain T.F_l_plain.kp T.b_l_plain .nil (fun _ _ => .nil)) (je_call0 (ok_l_calls T TT) (hr.mono (by decide)) gd (by rfl) T.g_l_calls T.F_l_calls.kp T.b_l_calls .nil (fun _ _ => .nil))))) (jg_t rfl (jgs_C (jg_n (i := 5) sc_law.nd rfl (.inl rfl)) (jgs_C (jg_n (i := 6) sc_law.nd rfl (.inl rfl)) (jgs_C (jg_n (i := 7) sc_law.nd rfl (.inl rfl)) jgs_0))))
  (jss_one (js_if (jt_not (jt_val (je_iso 5 (je_call (ok_l_right T TT) (hr.mono (by decide)) gd (by rfl) T.g_l_right T.F_l_right.kp T.b_l_right .nil (fun _ _ => .nil) (ja_cons (je_v 5) (ja_cons (je_v 6) (ja_cons (je_v 7) (ja_cons (je_v 4) ja_nil))))))))
  (jss_one (js_ret je_b))
  jss_nil))))))))
 (jss_cons (js_setLcJ (i := 8) (own := [("_law_many", 10)]) lcSet rfl sc_law.nd rfl rfl (sw_true rfl rfl rfl (by decide +kernel)) (ji_es (je_tup (ja_cons je_i (ja_cons je_i ja_nil)))) (blkOk_by (own := [("_law_many", 10)]) (N := ["_law_script", "_law_k", "_law_pool_here", "_law_ahead", "_law_rows", "_law_some", "_law_word", "_law_steps", "_law_both", "_law_found", "_law_many", "_law_at"]) (sc := defScope s_law) (by decide +kernel)) (by decide) (fun _ _ _ _ _ => (jg_n (i := 10) sc_law.nd rfl (by first | exact .inl rfl | exact .inr rfl))) (fun _ _ _ _ _ => jts_nil) (fun _ _ _ _ _ => (je_iso 5 (je_sl (je_callM (ok_run T TT) (hr.mono (by decide)) gd (by rfl) T.g_run T.F_run.kp T.m_run_most (fun _ _ => (.cons (.tup (T.qd_run_given _) .nil) (.cons .non (.cons (.tup (T.qd_run_answers _) .nil) .nil)))) (ja_cons (je_L (jl_lst (ja_cons (je_tup (ja_cons je_s (ja_cons je_i (ja_cons je_i ja_nil)))) ja_nil))) (ja_cons (je_call (ok_l_contract T TT) (hr.mono (by decide)) gd (by rfl) T.g_l_contract T.F_l_contract.kp T.b_l_contract .nil (fun _ _ => .nil) (ja_cons je_i ja_nil)) ja_nil)) (jk_cons (je_v 10) jk_nil)) jo_no (jo_so je_i)))))
 (jss_cons (js_if (jt_cmp (oj_ne hr.units) (je_v 8) (je_L (jl_lst (ja_cons (je_tup (ja_cons je_s (ja_cons je_n (ja_cons je_i ja_nil)))) (ja_cons (je_tup (ja_cons je_s (ja_cons je_n (ja_cons je_i ja_nil)))) ja_nil)))) (nomark _))
  (jss_one (js_ret je_b))
  jss_nil)
 (jss_cons (js_setLcJ (i := 9) (own := [("_law_at", 11)]) lcSet rfl sc_law.nd rfl rfl (sw_true rfl rfl rfl (by decide +kernel)) (ji_r1 (by rfl) T.b_range (ja_cons je_i ja_nil)) (blkOk_by (own := [("_law_at", 11)]) (N := ["_law_script", "_law_k", "_law_pool_here", "_law_ahead", "_law_rows", "_law_some", "_law_word", "_law_steps", "_law_both", "_law_found", "_law_many", "_law_at"]) (sc := defScope s_law) (by decide +kernel)) (by decide) (fun _ _ _ _ _ => (jg_n (i := 11) sc_law.nd rfl (by first | exact .inl rfl | exact .inr rfl))) (fun _ _ _ _ _ => jts_nil) (fun _ _ _ _ _ => (je_iso 5 (je_sl (je_callM (ok_run T TT) (hr.mono (by decide)) gd (by rfl) T.g_run T.F_run.kp T.m_run_given (fun _ _ => (.cons .non (.cons (.tup (T.qd_run_answers _) .nil) (.cons (.int _) .nil)))) (ja_cons (je_L (jl_lst (ja_cons (je_tup (ja_cons je_s (ja_cons je_i (ja_cons je_i (ja_cons (je_v 11) ja_nil))))) (ja_cons (je_tup (ja_cons je_s ja_nil)) ja_nil)))) (ja_cons (je_call (ok_l_contract T TT) (hr.mono (by decide)) gd (by rfl) T.g_l_contract T.F_l_contract.kp T.b_l_contract .nil (fun _ _ => .nil) (ja_cons je_i ja_nil)) ja_nil)) (jk_cons (je_L (jl_lst (ja_cons je_i (ja_cons je_i ja_nil)))) jk_nil)) jo_no (jo_so je_i)))))
 (jss_one (js_ret (je_cmp (oj_eq hr.units) (je_v 9) (je_L (jl_lst (ja_cons (je_tup (ja_cons je_s (ja_cons je_i (ja_cons je_i ja_nil)))) (ja_cons (je_tup (ja_cons je_s (ja_cons je_i (ja_cons je_i ja_nil)))) (ja_cons (je_tup (ja_cons je_s (ja_cons je_n (ja_cons je_i ja_nil)))) ja_nil))))) (nomark _))))))))
end
section
local macro_rules | `(tactic| walk_at "g") => `(tactic| first
  | with_reducible assumption
  | (with_reducible exact gMul_b)
  | (with_reducible exact gEq_sT)
  | (with_reducible exact gNe_sT)
  | (with_reducible exact gEq_sF (by decide))
  | (with_reducible exact gNe_sF (by decide))
  | (with_reducible exact gSl_62)
  | (with_reducible exact gMax2)
  | (with_reducible exact gMin2)
  | (with_reducible exact gAdd_i)
  | (with_reducible exact gSub_i)
  | (with_reducible exact gAnd_i)
  | (with_reducible exact gOr_i)
  | (with_reducible exact gXor_i)
  | (with_reducible exact gLt_i)
  | (with_reducible exact gLe_i)
  | (with_reducible exact gGt_i)
  | (with_reducible exact gGe_i)
  | (with_reducible exact gEq_i)
  | (with_reducible exact gNe_i)
  | (with_reducible exact gEq_b)
  | (with_reducible exact gNe_b)
  | (with_reducible exact gEq_s)
  | (with_reducible exact gNe_s)
  | (with_reducible exact gMul_i (by omega))
  | (with_reducible exact gDiv_i (by omega))
  | (with_reducible exact gMod_i (by omega))
  | (with_reducible exact gPow_i (by omega))
  | (with_reducible exact gShl_i (by omega))
  | (with_reducible exact gShr_i (by omega))
  | exact rfl)
local macro_rules | `(tactic| walk_at "nm") => `(tactic| first
  | (dsimp only [slots0, app2, Sx.put, Nat.reduceAdd, Nat.reduceSub, List.replicate, List.set]; done)
  | (dsimp only [slots0, app2, Sx.put, Nat.reduceAdd, Nat.reduceSub, List.replicate, List.set]; exact rfl)
  | exact rfl)
local macro_rules | `(tactic| walk_at "fn") => `(tactic| ((refine' fn_wp ?h0 ?h1 ?_); (case h0 => exact rfl); (case h1 => walk_at "nm"); walk_at "st"))
local macro_rules | `(tactic| walk_at "call") => `(tactic| with_reducible assumption)
local macro_rules | `(tactic| walk_at "ex") => `(tactic| first
  | ((with_reducible refine' x_c))
  | ((with_reducible refine' x_v ?h0); (case h0 => exact rfl))
  | ((with_reducible refine' x_op ?h0 ?h1 ?h2); (case h0 => walk_at "ex"); (case h1 => walk_at "ex"); (case h2 => walk_at "g"))
  | ((with_reducible refine' x_call ?h0 ?h1 ?h2 ?h3); (case h0 => walk_at "ex"); (case h1 => walk_at "nm"); (case h2 => walk_at "nm"); (case h3 => walk_at "call"))
  | ((with_reducible refine' x_callN ?h0 ?h1 ?h2 ?h3 ?h4 ?h5 ?h6); (case h0 => walk_at "ex"); (case h1 => walk_at "ex"); (case h2 => exact rfl); (case h3 => exact rfl); (case h4 => walk_at "nm"); (case h5 => walk_at "nm"); (case h6 => walk_at "call"))
  | ((with_reducible refine' x_nil))
  | ((with_reducible refine' x_cons ?h0 ?h1); (case h0 => walk_at "ex"); (case h1 => walk_at "ex"))
  | ((with_reducible refine' x_cb ?h0 ?h1); (case h0 => walk_at "ex"); (case h1 => walk_at "g"))
  | ((with_reducible refine' x_tup ?h0 ?h1); (case h0 => walk_at "ex"); (case h1 => exact Nat.le_of_ble_eq_true rfl))
  | ((with_reducible refine' x_L ?h0); (case h0 => walk_at "ex"))
  | ((with_reducible refine' x_disp ?h0 ?h1); (case h0 => walk_at "ex"); (case h1 => exact Nat.le_of_ble_eq_true rfl))
  | ((with_reducible refine' x_tE ?h0); (case h0 => walk_at "ex"))
  | ((with_reducible refine' x_not ?h0); (case h0 => walk_at "ex"))
  | ((with_reducible refine' x_andF ?h0); (case h0 => walk_at "ex"))
  | ((with_reducible refine' x_andT ?h0 ?h1); (case h0 => walk_at "ex"); (case h1 => walk_at "ex"))
  | ((with_reducible refine' x_orT ?h0); (case h0 => walk_at "ex"))
  | ((with_reducible refine' x_orF ?h0 ?h1); (case h0 => walk_at "ex"); (case h1 => walk_at "ex"))
  | ((with_reducible refine' x_and ?h0 ?h1); (case h0 => walk_at "ex"); (case h1 => walk_at "ex"))
  | ((with_reducible refine' x_or ?h0 ?h1); (case h0 => walk_at "ex"); (case h1 => walk_at "ex"))
  | ((with_reducible refine' x_andVF ?h0); (case h0 => walk_at "ex"))
  | ((with_reducible refine' x_andVT ?h0 ?h1); (case h0 => walk_at "ex"); (case h1 => walk_at "ex"))
  | ((with_reducible refine' x_orVT ?h0); (case h0 => walk_at "ex"))
  | ((with_reducible refine' x_orVF ?h0 ?h1); (case h0 => walk_at "ex"); (case h1 => walk_at "ex"))
  | ((with_reducible refine' x_andV ?h0 ?h1); (case h0 => walk_at "ex"); (case h1 => walk_at "ex"))
  | ((with_reducible refine' x_orV ?h0 ?h1); (case h0 => walk_at "ex"); (case h1 => walk_at "ex"))
  | ((with_reducible refine' x_notV ?h0); (case h0 => walk_at "ex"))
  | ((with_reducible refine' x_if ?h0 ?h1 ?h2); (case h0 => walk_at "ex"); (case h1 => walk_at "ex"); (case h2 => walk_at "ex"))
  | ((with_reducible refine' x_un ?h0 ?h1); (case h0 => walk_at "ex"); (case h1 => walk_at "g"))
  | ((with_reducible refine' x_bits ?h0); (case h0 => walk_at "ex"))
  | ((with_reducible refine' x_ch ?h0 ?h1 ?h2 ?h3 ?h4); (case h0 => walk_at "ex"); (case h1 => walk_at "ex"); (case h2 => walk_at "g"); (case h3 => walk_at "ex"); (case h4 => walk_at "g"))
  | ((with_reducible refine' x_ixS ?h0 ?h1 ?h2); (case h0 => walk_at "ex"); (case h1 => walk_at "ex"); (case h2 => walk_at "g"))
  | ((with_reducible refine' x_oNo))
  | ((with_reducible refine' x_oSo ?h0); (case h0 => walk_at "ex"))
  | ((with_reducible refine' x_sl ?h0 ?h1 ?h2 ?h3); (case h0 => walk_at "ex"); (case h1 => walk_at "ex"); (case h2 => walk_at "ex"); (case h3 => walk_at "g"))
  | ((with_reducible refine' x_vo ?h0); (case h0 => exact rfl))
  | ((with_reducible refine' x_new ?h0); (case h0 => walk_at "ex"))
  | ((with_reducible refine' x_iE ?h0 ?h1); (case h0 => walk_at "ex"); (case h1 => first | exact Or.inl rfl | exact Or.inr rfl))
  | ((with_reducible refine' x_iR1 ?h0 ?h1); (case h0 => walk_at "ex"); (case h1 => omega)))
local macro_rules | `(tactic| walk_at "st") => `(tactic| repeat (first
  | ((with_reducible refine' wp_set ?h0 ?h1 ?h2 ?_); (case h0 => walk_at "ex"); (case h1 => exact Nat.le_of_ble_eq_true rfl); (case h2 => walk_at "nm"))
  | ((with_reducible refine' wp_seq_seq ?_))
  | ((with_reducible refine' wp_seq_nil ?_))
  | ((with_reducible refine' wp_nil ?_))
  | ((with_reducible refine' wp_seq_ret ?h0 ?_); (case h0 => walk_at "ex"))
  | ((with_reducible refine' wp_ret ?h0 ?_); (case h0 => walk_at "ex"))
  | ((with_reducible refine' wp_if ?h0 ?h1 ?_); (case h0 => walk_at "ex"); (case h1 => walk_at "nm"))
  | ((with_reducible refine' wp_asg ?h0 ?h1 ?h2 ?_); (case h0 => walk_at "ex"); (case h1 => exact rfl); (case h2 => walk_at "nm"))
  | ((with_reducible refine' wp_ex ?h0 ?h1 ?_); (case h0 => walk_at "ex"); (case h1 => walk_at "nm"))
  | ((with_reducible refine' wp_own ?h0 ?h1 ?h2 ?_); (case h0 => walk_at "ex"); (case h1 => exact Nat.le_of_ble_eq_true rfl); (case h2 => walk_at "nm"))
  | ((with_reducible refine' wp_par ?h0 ?h1 ?h2 ?_); (case h0 => walk_at "ex"); (case h1 => exact ⟨Nat.le_of_ble_eq_true rfl, Nat.le_of_ble_eq_true rfl⟩); (case h2 => walk_at "nm"))
  | ((with_reducible refine' wp_app ?h0 ?h1 ?h2 ?h3 ?h4 ?_); (case h0 => exact rfl); (case h1 => walk_at "ex"); (case h2 => exact rfl); (case h3 => first | exact Nat.le_of_ble_eq_true rfl | (simp only [List.length_cons, List.length_nil, List.length_append]; omega)); (case h4 => walk_at "nm"))
  | ((with_reducible refine' wp_putO ?h0 ?h1 ?h2 ?h3 ?h4 ?h5 ?_); (case h0 => walk_at "ex"); (case h1 => walk_at "ex"); (case h2 => walk_at "ex"); (case h3 => first | exact rfl | assumption); (case h4 => exact rfl); (case h5 => walk_at "nm"))
  | ((with_reducible refine' wp_for ?h0 ?h1 ?_); (case h0 => walk_at "ex"); (case h1 => walk_at "nm"))
  | ((with_reducible refine' wp_match ?h0 ?h1 ?_); (case h0 => walk_at "ex"); (case h1 => walk_at "nm"))
  | ((with_reducible refine' wp_mStr ?_))
  | ((with_reducible refine' wp_mAny ?_))
  | ((with_reducible refine' wp_aug ?h0 ?h1 ?h2 ?h3 ?_); (case h0 => exact rfl); (case h1 => walk_at "ex"); (case h2 => exact Nat.le_of_ble_eq_true rfl); (case h3 => walk_at "nm"))
  | ((with_reducible refine' wpl_set ?_))
  | ((with_reducible refine' wpl_asg ?_))
  | ((with_reducible refine' wpl_ex ?_))
  | ((with_reducible refine' wpl_if ?_))
  | ((with_reducible refine' wpl_own ?_))
  | ((with_reducible refine' wpl_app ?_))
  | ((with_reducible refine' wpl_putO ?_))
  | ((with_reducible refine' wpl_putI ?_))
  | ((with_reducible refine' wpl_par ?_))
  | ((with_reducible refine' wpl_for ?_))
  | ((with_reducible refine' wpl_while ?_))
  | ((with_reducible refine' wpl_match ?_))
  | ((with_reducible refine' wpl_aug ?_))
  | ((with_reducible refine' ite_t ?h0 ?_); (case h0 => decide))
  | ((with_reducible refine' ite_f ?h0 ?_); (case h0 => decide))))
theorem F_l_take_ok {n : Nat} {m : Int} {st : List DO} (hp : Pool st n) (m0 : 0 < m) (m1 : m < 18446744073709551616) : F_l_take [.obj n, .int m] st = some (.int (tk st n m), ts st n m) := by
  have e := hp.eq
  have hn := (List.getElem?_eq_some_iff.mp e).1
  have h0 : ∀ env, ixO (.obj n) (.int 0) ⟨env, st⟩ = some (.int (poolA st n)) := fun env => ixO_at e rfl
  have h1 : ∀ env, ixO (.obj n) (.int 1) ⟨env, st⟩ = some (.int (poolB st n)) := fun env => ixO_at e rfl
  have h2 : ∀ env x, ixO (.obj n) (.int 1) ⟨env, st.set n (.lst [.int (poolA st n), .int x])⟩ = some (.int x) := fun env x => ixO_at (List.getElem?_set_self hn) rfl
  refine fn_wp rfl rfl ?_
  refine wp_if (p := decide (0 < poolA st n)) (x_tE (x_op (x_ixS (x_v rfl) x_c (h0 _)) x_c rfl)) rfl ?_
  unfold tk ts
  refine ite2 (fun c => ?_) (fun c => ?_)
  · rw [if_pos (of_decide_eq_true c), if_pos (of_decide_eq_true c)]
    refine wp_seq_seq (wp_set (x_op (x_ixS (x_v rfl) x_c (h0 _)) (x_v rfl) (gMod_i m0)) (Nat.le_of_ble_eq_true rfl) rfl ?_)
    refine wp_seq_seq (wp_putO (x_op (x_ixS (x_v rfl) x_c (h0 _)) (x_v rfl) (gDiv_i ⟨m0, m1⟩)) (x_v rfl) x_c e rfl rfl ?_)
    exact wp_seq_ret (x_v rfl) (.inl ⟨rfl, rfl⟩)
  · rw [if_neg (fun z => c (decide_eq_true z)), if_neg (fun z => c (decide_eq_true z))]
    refine wp_seq_nil (wp_putO (x_op (x_op (x_op (x_ixS (x_v rfl) x_c (h1 _)) x_c (gMul_i (by omega))) x_c rfl) x_c (gMod_i (by omega))) (x_v rfl) x_c e rfl rfl ?_)
    refine wp_ret (x_op (x_op (x_op (x_op (x_ixS (x_v rfl) x_c (h2 _ _)) (x_ixS (x_v rfl) x_c (h2 _ _)) (gMul_i (by omega))) x_c (gMod_i (by omega))) x_c (gDiv_i (by omega))) (x_v rfl) (gMod_i m0)) (.inl ⟨rfl, rfl⟩)
theorem F_l_pool_ok {ns : List Int} {k : Int} {st : List DO} (k0 : 0 ≤ k) (k1 : k < 64) : ∃ a b : Int, F_l_pool [.lst (ns.map D.int), .int k] st = some (.obj st.length, st ++ [.lst [.int a, .int b]]) := by
  have hs : gSl (.lst (ns.map D.int)) none (some 63) = some (.lst ((cutL ns none (some 63)).map D.int)) := by show some (D.lst (cutL (ns.map D.int) none (some 63))) = _; rw [cutL_map]
  have hm : gSum [.lst ((cutL ns none (some 63)).map D.int)] = some (.int (cutL ns none (some 63)).sum) := gSum_ints
  have hl : gLen [.lst (ns.map D.int)] = some (.int ns.length) := by show some (D.int (ns.map D.int).length) = _; rw [List.length_map]
  have fin : ∀ cell : Int, wp (sSeq (sSet 3 (eCB gAbs (aCons (eV 2) aNil)))
      (sSeq (sSet 4 (eOp gMod (eOp gMul (eOp gAdd (eOp gAdd (eOp gAdd (eOp gMod (eV 3) (eC (.int (2147483629)))) (eOp gMul (eOp gMul (eC (.int (7919))) (eV 1)) (eV 1))) (eOp gMul (eC (.int (31))) (eV 1))) (eC (.int (17)))) (eC (.int (48271)))) (eC (.int (2147483647)))))
      (sRet (eNewO (lDisp (aCons (eOp gMul (eV 3) (eCB gInt (aCons (eOp gGe (eV 3) (eOp gPow (eC (.int (10))) (eC (.int (18))))) aNil))) (aCons (eOp gMod (eOp gMul (eV 4) (eV 4)) (eC (.int (2147483629)))) aNil)))))))
      ⟨[.val (.lst (ns.map D.int)), .val (.int k), .val (.int cell), .un, .un], st⟩ fun fl S' => ∃ d, fl = .ret d ∧ d = .obj st.length ∧ ∃ a b : Int, S'.st = st ++ [.lst [.int a, .int b]] := by
    intro cell
    walk_at "st"
    exact ⟨_, rfl, rfl, _, _, rfl⟩
  have out : (∃ d st', F_l_pool [.lst (ns.map D.int), .int k] st = some (d, st') ∧ d = .obj st.length ∧ ∃ a b : Int, st' = st ++ [.lst [.int a, .int b]]) → ∃ a b : Int, F_l_pool [.lst (ns.map D.int), .int k] st = some (.obj st.length, st ++ [.lst [.int a, .int b]]) := by
    rintro ⟨d, st', e, rfl, a, b, rfl⟩
    exact ⟨a, b, e⟩
  by_cases c : k < ns.length
  · have hz : gIx (.lst (ns.map D.int)) (.int k) = some (.int (ns.getD k.toNat 0)) := by
      obtain ⟨j, rfl⟩ : ∃ j : Nat, k = (j : Int) := ⟨k.toNat, by omega⟩
      have hj : j < ns.length := by omega
      show atI (ns.map D.int) ((j : Nat) : Int) = _
      rw [atI_lit (by rw [List.length_map]; exact hj), List.getElem?_map, List.getElem?_eq_getElem hj, Int.toNat_natCast, List.getD_eq_getElem?_getD, List.getElem?_eq_getElem hj]
      rfl
    refine out (fn_wpE rfl rfl ?_)
    walk_at "st"
    rw [decide_eq_true c, if_pos rfl]
    refine wp_set (x_op (x_v rfl) (x_v rfl) hz) (Nat.le_of_ble_eq_true rfl) rfl (fin _)
  · refine out (fn_wpE rfl rfl ?_)
    walk_at "st"
    rw [decide_eq_false c, if_neg Bool.false_ne_true]
    exact wp_seq_nil (fin _)
theorem compF_map {α : Type} {vs : List Nat} {g : DG} {t : DT} {e : DE} {S : Sx} (f : α → D) (q : α → Bool) (h : α → D) : ∀ ps : List α,
    (∀ p, p ∈ ps → ∃ S1, g (f p) S = some S1 ∧ t S1 = some (q p, S1) ∧ (q p = true → e S1 = some (h p, S1)) ∧ wipeS S1 vs = S) → compF vs g t e (ps.map f) S = some ((ps.filter q).map h, S)
  | [], _ => rfl
  | p :: ps, hh => by
    obtain ⟨S1, h1, h2, h3, h4⟩ := hh p (List.mem_cons_self ..)
    have ih := compF_map (vs := vs) (g := g) (t := t) (e := e) (S := S) f q h ps fun y hy => hh y (List.mem_cons_of_mem _ hy)
    show (g (f p) S).bind _ = _
    rw [h1, Option.bind_some, h2, Option.bind_some]
    by_cases c : q p = true
    · rw [if_pos c, h3 c, Option.bind_some, h4]
      show (compF vs g t e (ps.map f) S).map _ = _
      rw [ih, List.filter_cons_of_pos c]; rfl
    · rw [if_neg c, h4]
      show compF vs g t e (ps.map f) S = _
      rw [ih, List.filter_cons_of_neg c]
theorem compF_all {α : Type} {vs : List Nat} {g : DG} {e : DE} {S : Sx} (f : α → D) (h : α → D) (ps : List α) (hh : ∀ p, p ∈ ps → ∃ S1, g (f p) S = some S1 ∧ e S1 = some (h p, S1) ∧ wipeS S1 vs = S) : compF vs g tY e (ps.map f) S = some (ps.map h, S) := by
  have q := compF_map (vs := vs) (g := g) (t := tY) (e := e) (S := S) f (fun _ => true) h ps fun p hp => by
    obtain ⟨S1, h1, h2, h3⟩ := hh p hp
    exact ⟨S1, h1, rfl, fun _ => h2, h3⟩
  rw [q, show ps.filter (fun _ => true) = ps from List.filter_eq_self.mpr fun _ _ => rfl]
/-! ### the programs, run by the kernel -/
def TB : List DO := [.tbl "are_worths", .tbl "are_rooms", .tbl "are_shelves", .tbl "look_at_inputs", .tbl "has_numbers"]
def isTB : List DO → Bool
  | .tbl a :: .tbl b :: .tbl c :: .tbl d :: .tbl e :: _ => decide (a = "are_worths") && decide (b = "are_rooms") && decide (c = "are_shelves") && decide (d = "look_at_inputs") && decide (e = "has_numbers")
  | _ => false
theorem isTB_ok {st : List DO} (h : isTB st = true) : st.take 5 = TB ∧ 5 ≤ st.length := by
  unfold isTB at h
  split at h
  · rw [Bool.and_eq_true, Bool.and_eq_true, Bool.and_eq_true, Bool.and_eq_true, decide_eq_true_eq, decide_eq_true_eq, decide_eq_true_eq, decide_eq_true_eq, decide_eq_true_eq] at h
    obtain ⟨⟨⟨⟨rfl, rfl⟩, rfl⟩, rfl⟩, rfl⟩ := h
    exact ⟨rfl, by simp⟩
  · cases h
def p0 : D := .tup [.lst [.tup [.str "end"]], .str "out", .int 1]
def p1 : D := .tup [.lst [.tup [.str "set", .int 0, .int 7], .tup [.str "end"]], .str "end", .int 2]
def p2 : D := .tup [.lst [.tup [.str "move", .int 0, .int 3], .tup [.str "end"]], .str "unset", .int 1]
def p3 : D := .tup [.lst [.tup [.str "go", .int 0]], .str "over", .int 50]
def p4 : D := .tup [.lst [.tup [.str "set", .int 0, .int 1]], .str "off", .int 1]
def p5 : D := .tup [.lst [.tup [.str "do", .str "plus", .int 3, .tup [.str "worth", .int 1]]], .str "unset", .int 1]
def p6 : D := .tup [.lst [.tup [.str "do", .str "plus", .int 2, .tup [.str "box", .int 3]]], .str "unset", .int 1]
def p7 : D := .tup [.lst [.tup [.str "do", .str "times", .int 0, .tup [.str "worth", .int 1]]], .str "kind", .int 1]
def p8 : D := .tup [.lst [.tup [.str "do", .str "plus", .int 2, .tup [.str "box", .int 0]]], .str "kind", .int 1]
def p9 : D := .tup [.lst [.tup [.str "do", .str "plus", .int 0, .tup [.str "box", .int 0]]], .str "kind", .int 1]
def p10 : D := .tup [.lst [.tup [.str "jump", .str "same", .int 3, .tup [.str "worth", .int 0], .int 0]], .str "unset", .int 1]
def p11 : D := .tup [.lst [.tup [.str "jump", .str "same", .int 0, .tup [.str "worth", .int 1], .int 0]], .str "kind", .int 1]
def p12 : D := .tup [.lst [.tup [.str "jump", .str "under", .int 0, .tup [.str "worth", .int 0], .int 0]], .str "kind", .int 1]
def p13 : D := .tup [.lst [.tup [.str "jump", .str "same", .int 2, .tup [.str "box", .int 0], .int 0]], .str "kind", .int 1]
def p14 : D := .tup [.lst [.tup [.str "jump", .str "same", .int 0, .tup [.str "worth", .int 0], .int 0], .tup [.str "set", .int 0, .int 3], .tup [.str "end"]], .str "end", .int 3]
def p15 : D := .tup [.lst [.tup [.str "jump", .str "unlike", .int 1, .tup [.str "worth", .int 0], .int 2], .tup [.str "go", .int 1], .tup [.str "set", .int 0, .int 3], .tup [.str "end"]], .str "end", .int 3]
def p16 : D := .tup [.lst [.tup [.str "load", .int 3, .int 2, .int 0]], .str "kind", .int 1]
def p17 : D := .tup [.lst [.tup [.str "load", .int 3, .int 4, .int 0]], .str "unset", .int 1]
def p18 : D := .tup [.lst [.tup [.str "load", .int 3, .int 0, .int 8]], .str "outside", .int 1]
def p19 : D := .tup [.lst [.tup [.str "load", .int 3, .int 0, .int (-1)]], .str "outside", .int 1]
def p20 : D := .tup [.lst [.tup [.str "load", .int 3, .int 0, .int 7]], .str "unset", .int 1]
def p21 : D := .tup [.lst [.tup [.str "load", .int 3, .int 1, .int 2]], .str "outside", .int 1]
def p22 : D := .tup [.lst [.tup [.str "load", .int 0, .int 1, .int 1], .tup [.str "end"]], .str "end", .int 2]
def p23 : D := .tup [.lst [.tup [.str "store", .int 1, .int 0, .tup [.str "worth", .int 1]]], .str "write", .int 1]
def p24 : D := .tup [.lst [.tup [.str "store", .int 1, .int 2, .tup [.str "worth", .int 1]]], .str "outside", .int 1]
def p25 : D := .tup [.lst [.tup [.str "store", .int 2, .int 0, .tup [.str "box", .int 3]]], .str "unset", .int 1]
def p26 : D := .tup [.lst [.tup [.str "store", .int 2, .int 0, .tup [.str "worth", .int 3]]], .str "kind", .int 1]
def p27 : D := .tup [.lst [.tup [.str "store", .int 0, .int 7, .tup [.str "box", .int 1]], .tup [.str "load", .int 0, .int 0, .int 7], .tup [.str "end"]], .str "out", .int 3]
def p28 : D := .tup [.lst [.tup [.str "do", .str "minus", .int 0, .tup [.str "worth", .int 1]], .tup [.str "load", .int 3, .int 0, .int 1]], .str "unset", .int 2]
def p29 : D := .tup [.lst [.tup [.str "do", .str "plus", .int 0, .tup [.str "worth", .int 65535]], .tup [.str "store", .int 0, .int 1, .tup [.str "worth", .int 5]], .tup [.str "load", .int 0, .int 0, .int 1], .tup [.str "end"]], .str "end", .int 4]
def P1 : List D := [p0, p1, p2, p3, p4, p5, p6, p7, p8, p9, p10, p11, p12, p13, p14, p15, p16, p17, p18, p19, p20, p21, p22, p23, p24, p25, p26, p27, p28, p29]
def q0 : D := .tup [.lst [.tup [.str "call", .str "none"]], .str "call", .int 1]
def q1 : D := .tup [.lst [.tup [.str "call", .str "find"]], .str "call", .int 1]
def q2 : D := .tup [.lst [.tup [.str "call", .str "back"]], .str "call", .int 1]
def q3 : D := .tup [.lst [.tup [.str "set", .int 1, .int 1], .tup [.str "call", .str "back"]], .str "call", .int 2]
def q4 : D := .tup [.lst [.tup [.str "move", .int 1, .int 3]], .str "unset", .int 1]
def q5 : D := .tup [.lst [.tup [.str "call", .str "ask"], .tup [.str "call", .str "find"]], .str "unset", .int 2]
def q6 : D := .tup [.lst [.tup [.str "set", .int 1, .int 10], .tup [.str "call", .str "seek"]], .str "call", .int 2]
def q7 : D := .tup [.lst [.tup [.str "set", .int 1, .int 256], .tup [.str "call", .str "tell"]], .str "call", .int 2]
def q8 : D := .tup [.lst [.tup [.str "set", .int 1, .int 1], .tup [.str "call", .str "tell"]], .str "call", .int 2]
def q9 : D := .tup [.lst [.tup [.str "set", .int 1, .int 1], .tup [.str "move", .int 2, .int 0], .tup [.str "call", .str "tell"]], .str "call", .int 3]
def q10 : D := .tup [.lst [.tup [.str "call", .str "ask"], .tup [.str "end"]], .str "end", .int 2]
def q11 : D := .tup [.lst [.tup [.str "set", .int 1, .int 1], .tup [.str "call", .str "find"], .tup [.str "end"]], .str "out", .int 3]
def q12 : D := .tup [.lst [.tup [.str "set", .int 1, .int 1], .tup [.str "call", .str "find"], .tup [.str "set", .int 0, .int 1], .tup [.str "end"]], .str "kept", .int 4]
def q13 : D := .tup [.lst [.tup [.str "set", .int 1, .int 1], .tup [.str "call", .str "find"], .tup [.str "store", .int 0, .int 4, .tup [.str "worth", .int 1]]], .str "outside", .int 3]
def q14 : D := .tup [.lst [.tup [.str "set", .int 1, .int 1], .tup [.str "call", .str "find"], .tup [.str "store", .int 0, .int 0, .tup [.str "box", .int 0]]], .str "out", .int 3]
def q15 : D := .tup [.lst [.tup [.str "set", .int 1, .int 1], .tup [.str "call", .str "find"], .tup [.str "move", .int 4, .int 0], .tup [.str "store", .int 0, .int 0, .tup [.str "box", .int 4]]], .str "out", .int 4]
def q16 : D := .tup [.lst [.tup [.str "set", .int 1, .int 1], .tup [.str "call", .str "find"], .tup [.str "move", .int 2, .int 3]], .str "unset", .int 3]
def q17 : D := .tup [.lst [.tup [.str "set", .int 1, .int 1], .tup [.str "call", .str "find"], .tup [.str "move", .int 1, .int 0], .tup [.str "call", .str "back"], .tup [.str "end"]], .str "end", .int 5]
def q18 : D := .tup [.lst [.tup [.str "set", .int 1, .int 1], .tup [.str "call", .str "find"], .tup [.str "load", .int 0, .int 0, .int 3], .tup [.str "end"]], .str "kept", .int 4]
def q19 : D := .tup [.lst [.tup [.str "set", .int 1, .int 1], .tup [.str "call", .str "find"], .tup [.str "move", .int 4, .int 0], .tup [.str "move", .int 1, .int 0], .tup [.str "call", .str "back"], .tup [.str "load", .int 0, .int 4, .int 0]], .str "unset", .int 6]
def q20 : D := .tup [.lst [.tup [.str "set", .int 1, .int 1], .tup [.str "call", .str "find"], .tup [.str "do", .str "plus", .int 0, .tup [.str "worth", .int 1]], .tup [.str "move", .int 1, .int 0], .tup [.str "call", .str "back"]], .str "call", .int 5]
def q21 : D := .tup [.lst [.tup [.str "set", .int 1, .int 2], .tup [.str "call", .str "find"], .tup [.str "end"]], .str "end", .int 3]
def q22 : D := .tup [.lst [.tup [.str "set", .int 1, .int 1], .tup [.str "call", .str "find"], .tup [.str "move", .int 1, .int 0], .tup [.str "call", .str "give"]], .str "call", .int 4]
def q23 : D := .tup [.lst [.tup [.str "set", .int 1, .int 1], .tup [.str "call", .str "find"], .tup [.str "set", .int 1, .int 1], .tup [.str "call", .str "find"]], .str "off", .int 4]
def q24 : D := .tup [.lst [.tup [.str "set", .int 1, .int 1], .tup [.str "call", .str "find"], .tup [.str "move", .int 4, .int 0], .tup [.str "set", .int 1, .int 1], .tup [.str "call", .str "find"], .tup [.str "move", .int 1, .int 0], .tup [.str "call", .str "back"], .tup [.str "end"]], .str "kept", .int 8]
def P2 : List D := [q0, q1, q2, q3, q4, q5, q6, q7, q8, q9, q10, q11, q12, q13, q14, q15, q16, q17, q18, q19, q20, q21, q22, q23, q24]
def okP (r : D) : D → Bool
  | .tup [a, b, c] => clo 5 a && clo 5 b && clo 5 c && (match F_l_right [a, b, c, r] TB with
    | some (.bl true, st) => isTB st
    | _ => false)
  | _ => false
def R0 : D := .lst []
def R1 : D := .lst [.tup [.str "set", .int 5, .int 1]]
def R2 : D := .lst [.tup [.str "set", .int 5, .int 2], .tup [.str "go", .int 2]]
def R3 : D := .lst [.tup [.str "move", .int 5, .int 2]]
theorem plain_ev : F_l_plain [] TB = some (.lst P1, TB) := by kernel_rfl
theorem calls_ev : F_l_calls [] TB = some (.lst P2, TB) := by kernel_rfl
theorem both_ev : gAdd (.lst P1) (.lst P2) = some (.lst (P1 ++ P2)) := by kernel_rfl
theorem clo_ev : clo 5 (.lst (P1 ++ P2)) = true := by decide +kernel
theorem e0p0 : okP R0 p0 = true := by decide +kernel
theorem e0p1 : okP R0 p1 = true := by decide +kernel
theorem e0p2 : okP R0 p2 = true := by decide +kernel
theorem e0p3 : okP R0 p3 = true := by decide +kernel
theorem e0p4 : okP R0 p4 = true := by decide +kernel
theorem e0p5 : okP R0 p5 = true := by decide +kernel
theorem e0p6 : okP R0 p6 = true := by decide +kernel
theorem e0p7 : okP R0 p7 = true := by decide +kernel
theorem e0p8 : okP R0 p8 = true := by decide +kernel
theorem e0p9 : okP R0 p9 = true := by decide +kernel
theorem e0p10 : okP R0 p10 = true := by decide +kernel
theorem e0p11 : okP R0 p11 = true := by decide +kernel
theorem e0p12 : okP R0 p12 = true := by decide +kernel
theorem e0p13 : okP R0 p13 = true := by decide +kernel
theorem e0p14 : okP R0 p14 = true := by decide +kernel
theorem e0p15 : okP R0 p15 = true := by decide +kernel
theorem e0p16 : okP R0 p16 = true := by decide +kernel
theorem e0p17 : okP R0 p17 = true := by decide +kernel
theorem e0p18 : okP R0 p18 = true := by decide +kernel
theorem e0p19 : okP R0 p19 = true := by decide +kernel
theorem e0p20 : okP R0 p20 = true := by decide +kernel
theorem e0p21 : okP R0 p21 = true := by decide +kernel
theorem e0p22 : okP R0 p22 = true := by decide +kernel
theorem e0p23 : okP R0 p23 = true := by decide +kernel
theorem e0p24 : okP R0 p24 = true := by decide +kernel
theorem e0p25 : okP R0 p25 = true := by decide +kernel
theorem e0p26 : okP R0 p26 = true := by decide +kernel
theorem e0p27 : okP R0 p27 = true := by decide +kernel
theorem e0p28 : okP R0 p28 = true := by decide +kernel
theorem e0p29 : okP R0 p29 = true := by decide +kernel
theorem r0_a : ∀ x, x ∈ P1 → okP R0 x = true := (List.forall_mem_cons.mpr ⟨e0p0, (List.forall_mem_cons.mpr ⟨e0p1, (List.forall_mem_cons.mpr ⟨e0p2, (List.forall_mem_cons.mpr ⟨e0p3, (List.forall_mem_cons.mpr ⟨e0p4, (List.forall_mem_cons.mpr ⟨e0p5, (List.forall_mem_cons.mpr ⟨e0p6, (List.forall_mem_cons.mpr ⟨e0p7, (List.forall_mem_cons.mpr ⟨e0p8, (List.forall_mem_cons.mpr ⟨e0p9, (List.forall_mem_cons.mpr ⟨e0p10, (List.forall_mem_cons.mpr ⟨e0p11, (List.forall_mem_cons.mpr ⟨e0p12, (List.forall_mem_cons.mpr ⟨e0p13, (List.forall_mem_cons.mpr ⟨e0p14, (List.forall_mem_cons.mpr ⟨e0p15, (List.forall_mem_cons.mpr ⟨e0p16, (List.forall_mem_cons.mpr ⟨e0p17, (List.forall_mem_cons.mpr ⟨e0p18, (List.forall_mem_cons.mpr ⟨e0p19, (List.forall_mem_cons.mpr ⟨e0p20, (List.forall_mem_cons.mpr ⟨e0p21, (List.forall_mem_cons.mpr ⟨e0p22, (List.forall_mem_cons.mpr ⟨e0p23, (List.forall_mem_cons.mpr ⟨e0p24, (List.forall_mem_cons.mpr ⟨e0p25, (List.forall_mem_cons.mpr ⟨e0p26, (List.forall_mem_cons.mpr ⟨e0p27, (List.forall_mem_cons.mpr ⟨e0p28, (List.forall_mem_cons.mpr ⟨e0p29, (fun _ h => nomatch h)⟩)⟩)⟩)⟩)⟩)⟩)⟩)⟩)⟩)⟩)⟩)⟩)⟩)⟩)⟩)⟩)⟩)⟩)⟩)⟩)⟩)⟩)⟩)⟩)⟩)⟩)⟩)⟩)⟩)⟩)
theorem e0q0 : okP R0 q0 = true := by decide +kernel
theorem e0q1 : okP R0 q1 = true := by decide +kernel
theorem e0q2 : okP R0 q2 = true := by decide +kernel
theorem e0q3 : okP R0 q3 = true := by decide +kernel
theorem e0q4 : okP R0 q4 = true := by decide +kernel
theorem e0q5 : okP R0 q5 = true := by decide +kernel
theorem e0q6 : okP R0 q6 = true := by decide +kernel
theorem e0q7 : okP R0 q7 = true := by decide +kernel
theorem e0q8 : okP R0 q8 = true := by decide +kernel
theorem e0q9 : okP R0 q9 = true := by decide +kernel
theorem e0q10 : okP R0 q10 = true := by decide +kernel
theorem e0q11 : okP R0 q11 = true := by decide +kernel
theorem e0q12 : okP R0 q12 = true := by decide +kernel
theorem e0q13 : okP R0 q13 = true := by decide +kernel
theorem e0q14 : okP R0 q14 = true := by decide +kernel
theorem e0q15 : okP R0 q15 = true := by decide +kernel
theorem e0q16 : okP R0 q16 = true := by decide +kernel
theorem e0q17 : okP R0 q17 = true := by decide +kernel
theorem e0q18 : okP R0 q18 = true := by decide +kernel
theorem e0q19 : okP R0 q19 = true := by decide +kernel
theorem e0q20 : okP R0 q20 = true := by decide +kernel
theorem e0q21 : okP R0 q21 = true := by decide +kernel
theorem e0q22 : okP R0 q22 = true := by decide +kernel
theorem e0q23 : okP R0 q23 = true := by decide +kernel
theorem e0q24 : okP R0 q24 = true := by decide +kernel
theorem r0_b : ∀ x, x ∈ P2 → okP R0 x = true := (List.forall_mem_cons.mpr ⟨e0q0, (List.forall_mem_cons.mpr ⟨e0q1, (List.forall_mem_cons.mpr ⟨e0q2, (List.forall_mem_cons.mpr ⟨e0q3, (List.forall_mem_cons.mpr ⟨e0q4, (List.forall_mem_cons.mpr ⟨e0q5, (List.forall_mem_cons.mpr ⟨e0q6, (List.forall_mem_cons.mpr ⟨e0q7, (List.forall_mem_cons.mpr ⟨e0q8, (List.forall_mem_cons.mpr ⟨e0q9, (List.forall_mem_cons.mpr ⟨e0q10, (List.forall_mem_cons.mpr ⟨e0q11, (List.forall_mem_cons.mpr ⟨e0q12, (List.forall_mem_cons.mpr ⟨e0q13, (List.forall_mem_cons.mpr ⟨e0q14, (List.forall_mem_cons.mpr ⟨e0q15, (List.forall_mem_cons.mpr ⟨e0q16, (List.forall_mem_cons.mpr ⟨e0q17, (List.forall_mem_cons.mpr ⟨e0q18, (List.forall_mem_cons.mpr ⟨e0q19, (List.forall_mem_cons.mpr ⟨e0q20, (List.forall_mem_cons.mpr ⟨e0q21, (List.forall_mem_cons.mpr ⟨e0q22, (List.forall_mem_cons.mpr ⟨e0q23, (List.forall_mem_cons.mpr ⟨e0q24, (fun _ h => nomatch h)⟩)⟩)⟩)⟩)⟩)⟩)⟩)⟩)⟩)⟩)⟩)⟩)⟩)⟩)⟩)⟩)⟩)⟩)⟩)⟩)⟩)⟩)⟩)⟩)⟩)
theorem e1p0 : okP R1 p0 = true := by decide +kernel
theorem e1p1 : okP R1 p1 = true := by decide +kernel
theorem e1p2 : okP R1 p2 = true := by decide +kernel
theorem e1p3 : okP R1 p3 = true := by decide +kernel
theorem e1p4 : okP R1 p4 = true := by decide +kernel
theorem e1p5 : okP R1 p5 = true := by decide +kernel
theorem e1p6 : okP R1 p6 = true := by decide +kernel
theorem e1p7 : okP R1 p7 = true := by decide +kernel
theorem e1p8 : okP R1 p8 = true := by decide +kernel
theorem e1p9 : okP R1 p9 = true := by decide +kernel
theorem e1p10 : okP R1 p10 = true := by decide +kernel
theorem e1p11 : okP R1 p11 = true := by decide +kernel
theorem e1p12 : okP R1 p12 = true := by decide +kernel
theorem e1p13 : okP R1 p13 = true := by decide +kernel
theorem e1p14 : okP R1 p14 = true := by decide +kernel
theorem e1p15 : okP R1 p15 = true := by decide +kernel
theorem e1p16 : okP R1 p16 = true := by decide +kernel
theorem e1p17 : okP R1 p17 = true := by decide +kernel
theorem e1p18 : okP R1 p18 = true := by decide +kernel
theorem e1p19 : okP R1 p19 = true := by decide +kernel
theorem e1p20 : okP R1 p20 = true := by decide +kernel
theorem e1p21 : okP R1 p21 = true := by decide +kernel
theorem e1p22 : okP R1 p22 = true := by decide +kernel
theorem e1p23 : okP R1 p23 = true := by decide +kernel
theorem e1p24 : okP R1 p24 = true := by decide +kernel
theorem e1p25 : okP R1 p25 = true := by decide +kernel
theorem e1p26 : okP R1 p26 = true := by decide +kernel
theorem e1p27 : okP R1 p27 = true := by decide +kernel
theorem e1p28 : okP R1 p28 = true := by decide +kernel
theorem e1p29 : okP R1 p29 = true := by decide +kernel
theorem r1_a : ∀ x, x ∈ P1 → okP R1 x = true := (List.forall_mem_cons.mpr ⟨e1p0, (List.forall_mem_cons.mpr ⟨e1p1, (List.forall_mem_cons.mpr ⟨e1p2, (List.forall_mem_cons.mpr ⟨e1p3, (List.forall_mem_cons.mpr ⟨e1p4, (List.forall_mem_cons.mpr ⟨e1p5, (List.forall_mem_cons.mpr ⟨e1p6, (List.forall_mem_cons.mpr ⟨e1p7, (List.forall_mem_cons.mpr ⟨e1p8, (List.forall_mem_cons.mpr ⟨e1p9, (List.forall_mem_cons.mpr ⟨e1p10, (List.forall_mem_cons.mpr ⟨e1p11, (List.forall_mem_cons.mpr ⟨e1p12, (List.forall_mem_cons.mpr ⟨e1p13, (List.forall_mem_cons.mpr ⟨e1p14, (List.forall_mem_cons.mpr ⟨e1p15, (List.forall_mem_cons.mpr ⟨e1p16, (List.forall_mem_cons.mpr ⟨e1p17, (List.forall_mem_cons.mpr ⟨e1p18, (List.forall_mem_cons.mpr ⟨e1p19, (List.forall_mem_cons.mpr ⟨e1p20, (List.forall_mem_cons.mpr ⟨e1p21, (List.forall_mem_cons.mpr ⟨e1p22, (List.forall_mem_cons.mpr ⟨e1p23, (List.forall_mem_cons.mpr ⟨e1p24, (List.forall_mem_cons.mpr ⟨e1p25, (List.forall_mem_cons.mpr ⟨e1p26, (List.forall_mem_cons.mpr ⟨e1p27, (List.forall_mem_cons.mpr ⟨e1p28, (List.forall_mem_cons.mpr ⟨e1p29, (fun _ h => nomatch h)⟩)⟩)⟩)⟩)⟩)⟩)⟩)⟩)⟩)⟩)⟩)⟩)⟩)⟩)⟩)⟩)⟩)⟩)⟩)⟩)⟩)⟩)⟩)⟩)⟩)⟩)⟩)⟩)⟩)⟩)
theorem e1q0 : okP R1 q0 = true := by decide +kernel
theorem e1q1 : okP R1 q1 = true := by decide +kernel
theorem e1q2 : okP R1 q2 = true := by decide +kernel
theorem e1q3 : okP R1 q3 = true := by decide +kernel
theorem e1q4 : okP R1 q4 = true := by decide +kernel
theorem e1q5 : okP R1 q5 = true := by decide +kernel
theorem e1q6 : okP R1 q6 = true := by decide +kernel
theorem e1q7 : okP R1 q7 = true := by decide +kernel
theorem e1q8 : okP R1 q8 = true := by decide +kernel
theorem e1q9 : okP R1 q9 = true := by decide +kernel
theorem e1q10 : okP R1 q10 = true := by decide +kernel
theorem e1q11 : okP R1 q11 = true := by decide +kernel
theorem e1q12 : okP R1 q12 = true := by decide +kernel
theorem e1q13 : okP R1 q13 = true := by decide +kernel
theorem e1q14 : okP R1 q14 = true := by decide +kernel
theorem e1q15 : okP R1 q15 = true := by decide +kernel
theorem e1q16 : okP R1 q16 = true := by decide +kernel
theorem e1q17 : okP R1 q17 = true := by decide +kernel
theorem e1q18 : okP R1 q18 = true := by decide +kernel
theorem e1q19 : okP R1 q19 = true := by decide +kernel
theorem e1q20 : okP R1 q20 = true := by decide +kernel
theorem e1q21 : okP R1 q21 = true := by decide +kernel
theorem e1q22 : okP R1 q22 = true := by decide +kernel
theorem e1q23 : okP R1 q23 = true := by decide +kernel
theorem e1q24 : okP R1 q24 = true := by decide +kernel
theorem r1_b : ∀ x, x ∈ P2 → okP R1 x = true := (List.forall_mem_cons.mpr ⟨e1q0, (List.forall_mem_cons.mpr ⟨e1q1, (List.forall_mem_cons.mpr ⟨e1q2, (List.forall_mem_cons.mpr ⟨e1q3, (List.forall_mem_cons.mpr ⟨e1q4, (List.forall_mem_cons.mpr ⟨e1q5, (List.forall_mem_cons.mpr ⟨e1q6, (List.forall_mem_cons.mpr ⟨e1q7, (List.forall_mem_cons.mpr ⟨e1q8, (List.forall_mem_cons.mpr ⟨e1q9, (List.forall_mem_cons.mpr ⟨e1q10, (List.forall_mem_cons.mpr ⟨e1q11, (List.forall_mem_cons.mpr ⟨e1q12, (List.forall_mem_cons.mpr ⟨e1q13, (List.forall_mem_cons.mpr ⟨e1q14, (List.forall_mem_cons.mpr ⟨e1q15, (List.forall_mem_cons.mpr ⟨e1q16, (List.forall_mem_cons.mpr ⟨e1q17, (List.forall_mem_cons.mpr ⟨e1q18, (List.forall_mem_cons.mpr ⟨e1q19, (List.forall_mem_cons.mpr ⟨e1q20, (List.forall_mem_cons.mpr ⟨e1q21, (List.forall_mem_cons.mpr ⟨e1q22, (List.forall_mem_cons.mpr ⟨e1q23, (List.forall_mem_cons.mpr ⟨e1q24, (fun _ h => nomatch h)⟩)⟩)⟩)⟩)⟩)⟩)⟩)⟩)⟩)⟩)⟩)⟩)⟩)⟩)⟩)⟩)⟩)⟩)⟩)⟩)⟩)⟩)⟩)⟩)⟩)
theorem e2p0 : okP R2 p0 = true := by decide +kernel
theorem e2p1 : okP R2 p1 = true := by decide +kernel
theorem e2p2 : okP R2 p2 = true := by decide +kernel
theorem e2p3 : okP R2 p3 = true := by decide +kernel
theorem e2p4 : okP R2 p4 = true := by decide +kernel
theorem e2p5 : okP R2 p5 = true := by decide +kernel
theorem e2p6 : okP R2 p6 = true := by decide +kernel
theorem e2p7 : okP R2 p7 = true := by decide +kernel
theorem e2p8 : okP R2 p8 = true := by decide +kernel
theorem e2p9 : okP R2 p9 = true := by decide +kernel
theorem e2p10 : okP R2 p10 = true := by decide +kernel
theorem e2p11 : okP R2 p11 = true := by decide +kernel
theorem e2p12 : okP R2 p12 = true := by decide +kernel
theorem e2p13 : okP R2 p13 = true := by decide +kernel
theorem e2p14 : okP R2 p14 = true := by decide +kernel
theorem e2p15 : okP R2 p15 = true := by decide +kernel
theorem e2p16 : okP R2 p16 = true := by decide +kernel
theorem e2p17 : okP R2 p17 = true := by decide +kernel
theorem e2p18 : okP R2 p18 = true := by decide +kernel
theorem e2p19 : okP R2 p19 = true := by decide +kernel
theorem e2p20 : okP R2 p20 = true := by decide +kernel
theorem e2p21 : okP R2 p21 = true := by decide +kernel
theorem e2p22 : okP R2 p22 = true := by decide +kernel
theorem e2p23 : okP R2 p23 = true := by decide +kernel
theorem e2p24 : okP R2 p24 = true := by decide +kernel
theorem e2p25 : okP R2 p25 = true := by decide +kernel
theorem e2p26 : okP R2 p26 = true := by decide +kernel
theorem e2p27 : okP R2 p27 = true := by decide +kernel
theorem e2p28 : okP R2 p28 = true := by decide +kernel
theorem e2p29 : okP R2 p29 = true := by decide +kernel
theorem r2_a : ∀ x, x ∈ P1 → okP R2 x = true := (List.forall_mem_cons.mpr ⟨e2p0, (List.forall_mem_cons.mpr ⟨e2p1, (List.forall_mem_cons.mpr ⟨e2p2, (List.forall_mem_cons.mpr ⟨e2p3, (List.forall_mem_cons.mpr ⟨e2p4, (List.forall_mem_cons.mpr ⟨e2p5, (List.forall_mem_cons.mpr ⟨e2p6, (List.forall_mem_cons.mpr ⟨e2p7, (List.forall_mem_cons.mpr ⟨e2p8, (List.forall_mem_cons.mpr ⟨e2p9, (List.forall_mem_cons.mpr ⟨e2p10, (List.forall_mem_cons.mpr ⟨e2p11, (List.forall_mem_cons.mpr ⟨e2p12, (List.forall_mem_cons.mpr ⟨e2p13, (List.forall_mem_cons.mpr ⟨e2p14, (List.forall_mem_cons.mpr ⟨e2p15, (List.forall_mem_cons.mpr ⟨e2p16, (List.forall_mem_cons.mpr ⟨e2p17, (List.forall_mem_cons.mpr ⟨e2p18, (List.forall_mem_cons.mpr ⟨e2p19, (List.forall_mem_cons.mpr ⟨e2p20, (List.forall_mem_cons.mpr ⟨e2p21, (List.forall_mem_cons.mpr ⟨e2p22, (List.forall_mem_cons.mpr ⟨e2p23, (List.forall_mem_cons.mpr ⟨e2p24, (List.forall_mem_cons.mpr ⟨e2p25, (List.forall_mem_cons.mpr ⟨e2p26, (List.forall_mem_cons.mpr ⟨e2p27, (List.forall_mem_cons.mpr ⟨e2p28, (List.forall_mem_cons.mpr ⟨e2p29, (fun _ h => nomatch h)⟩)⟩)⟩)⟩)⟩)⟩)⟩)⟩)⟩)⟩)⟩)⟩)⟩)⟩)⟩)⟩)⟩)⟩)⟩)⟩)⟩)⟩)⟩)⟩)⟩)⟩)⟩)⟩)⟩)⟩)
theorem e2q0 : okP R2 q0 = true := by decide +kernel
theorem e2q1 : okP R2 q1 = true := by decide +kernel
theorem e2q2 : okP R2 q2 = true := by decide +kernel
theorem e2q3 : okP R2 q3 = true := by decide +kernel
theorem e2q4 : okP R2 q4 = true := by decide +kernel
theorem e2q5 : okP R2 q5 = true := by decide +kernel
theorem e2q6 : okP R2 q6 = true := by decide +kernel
theorem e2q7 : okP R2 q7 = true := by decide +kernel
theorem e2q8 : okP R2 q8 = true := by decide +kernel
theorem e2q9 : okP R2 q9 = true := by decide +kernel
theorem e2q10 : okP R2 q10 = true := by decide +kernel
theorem e2q11 : okP R2 q11 = true := by decide +kernel
theorem e2q12 : okP R2 q12 = true := by decide +kernel
theorem e2q13 : okP R2 q13 = true := by decide +kernel
theorem e2q14 : okP R2 q14 = true := by decide +kernel
theorem e2q15 : okP R2 q15 = true := by decide +kernel
theorem e2q16 : okP R2 q16 = true := by decide +kernel
theorem e2q17 : okP R2 q17 = true := by decide +kernel
theorem e2q18 : okP R2 q18 = true := by decide +kernel
theorem e2q19 : okP R2 q19 = true := by decide +kernel
theorem e2q20 : okP R2 q20 = true := by decide +kernel
theorem e2q21 : okP R2 q21 = true := by decide +kernel
theorem e2q22 : okP R2 q22 = true := by decide +kernel
theorem e2q23 : okP R2 q23 = true := by decide +kernel
theorem e2q24 : okP R2 q24 = true := by decide +kernel
theorem r2_b : ∀ x, x ∈ P2 → okP R2 x = true := (List.forall_mem_cons.mpr ⟨e2q0, (List.forall_mem_cons.mpr ⟨e2q1, (List.forall_mem_cons.mpr ⟨e2q2, (List.forall_mem_cons.mpr ⟨e2q3, (List.forall_mem_cons.mpr ⟨e2q4, (List.forall_mem_cons.mpr ⟨e2q5, (List.forall_mem_cons.mpr ⟨e2q6, (List.forall_mem_cons.mpr ⟨e2q7, (List.forall_mem_cons.mpr ⟨e2q8, (List.forall_mem_cons.mpr ⟨e2q9, (List.forall_mem_cons.mpr ⟨e2q10, (List.forall_mem_cons.mpr ⟨e2q11, (List.forall_mem_cons.mpr ⟨e2q12, (List.forall_mem_cons.mpr ⟨e2q13, (List.forall_mem_cons.mpr ⟨e2q14, (List.forall_mem_cons.mpr ⟨e2q15, (List.forall_mem_cons.mpr ⟨e2q16, (List.forall_mem_cons.mpr ⟨e2q17, (List.forall_mem_cons.mpr ⟨e2q18, (List.forall_mem_cons.mpr ⟨e2q19, (List.forall_mem_cons.mpr ⟨e2q20, (List.forall_mem_cons.mpr ⟨e2q21, (List.forall_mem_cons.mpr ⟨e2q22, (List.forall_mem_cons.mpr ⟨e2q23, (List.forall_mem_cons.mpr ⟨e2q24, (fun _ h => nomatch h)⟩)⟩)⟩)⟩)⟩)⟩)⟩)⟩)⟩)⟩)⟩)⟩)⟩)⟩)⟩)⟩)⟩)⟩)⟩)⟩)⟩)⟩)⟩)⟩)⟩)
theorem e3p0 : okP R3 p0 = true := by decide +kernel
theorem e3p1 : okP R3 p1 = true := by decide +kernel
theorem e3p2 : okP R3 p2 = true := by decide +kernel
theorem e3p3 : okP R3 p3 = true := by decide +kernel
theorem e3p4 : okP R3 p4 = true := by decide +kernel
theorem e3p5 : okP R3 p5 = true := by decide +kernel
theorem e3p6 : okP R3 p6 = true := by decide +kernel
theorem e3p7 : okP R3 p7 = true := by decide +kernel
theorem e3p8 : okP R3 p8 = true := by decide +kernel
theorem e3p9 : okP R3 p9 = true := by decide +kernel
theorem e3p10 : okP R3 p10 = true := by decide +kernel
theorem e3p11 : okP R3 p11 = true := by decide +kernel
theorem e3p12 : okP R3 p12 = true := by decide +kernel
theorem e3p13 : okP R3 p13 = true := by decide +kernel
theorem e3p14 : okP R3 p14 = true := by decide +kernel
theorem e3p15 : okP R3 p15 = true := by decide +kernel
theorem e3p16 : okP R3 p16 = true := by decide +kernel
theorem e3p17 : okP R3 p17 = true := by decide +kernel
theorem e3p18 : okP R3 p18 = true := by decide +kernel
theorem e3p19 : okP R3 p19 = true := by decide +kernel
theorem e3p20 : okP R3 p20 = true := by decide +kernel
theorem e3p21 : okP R3 p21 = true := by decide +kernel
theorem e3p22 : okP R3 p22 = true := by decide +kernel
theorem e3p23 : okP R3 p23 = true := by decide +kernel
theorem e3p24 : okP R3 p24 = true := by decide +kernel
theorem e3p25 : okP R3 p25 = true := by decide +kernel
theorem e3p26 : okP R3 p26 = true := by decide +kernel
theorem e3p27 : okP R3 p27 = true := by decide +kernel
theorem e3p28 : okP R3 p28 = true := by decide +kernel
theorem e3p29 : okP R3 p29 = true := by decide +kernel
theorem r3_a : ∀ x, x ∈ P1 → okP R3 x = true := (List.forall_mem_cons.mpr ⟨e3p0, (List.forall_mem_cons.mpr ⟨e3p1, (List.forall_mem_cons.mpr ⟨e3p2, (List.forall_mem_cons.mpr ⟨e3p3, (List.forall_mem_cons.mpr ⟨e3p4, (List.forall_mem_cons.mpr ⟨e3p5, (List.forall_mem_cons.mpr ⟨e3p6, (List.forall_mem_cons.mpr ⟨e3p7, (List.forall_mem_cons.mpr ⟨e3p8, (List.forall_mem_cons.mpr ⟨e3p9, (List.forall_mem_cons.mpr ⟨e3p10, (List.forall_mem_cons.mpr ⟨e3p11, (List.forall_mem_cons.mpr ⟨e3p12, (List.forall_mem_cons.mpr ⟨e3p13, (List.forall_mem_cons.mpr ⟨e3p14, (List.forall_mem_cons.mpr ⟨e3p15, (List.forall_mem_cons.mpr ⟨e3p16, (List.forall_mem_cons.mpr ⟨e3p17, (List.forall_mem_cons.mpr ⟨e3p18, (List.forall_mem_cons.mpr ⟨e3p19, (List.forall_mem_cons.mpr ⟨e3p20, (List.forall_mem_cons.mpr ⟨e3p21, (List.forall_mem_cons.mpr ⟨e3p22, (List.forall_mem_cons.mpr ⟨e3p23, (List.forall_mem_cons.mpr ⟨e3p24, (List.forall_mem_cons.mpr ⟨e3p25, (List.forall_mem_cons.mpr ⟨e3p26, (List.forall_mem_cons.mpr ⟨e3p27, (List.forall_mem_cons.mpr ⟨e3p28, (List.forall_mem_cons.mpr ⟨e3p29, (fun _ h => nomatch h)⟩)⟩)⟩)⟩)⟩)⟩)⟩)⟩)⟩)⟩)⟩)⟩)⟩)⟩)⟩)⟩)⟩)⟩)⟩)⟩)⟩)⟩)⟩)⟩)⟩)⟩)⟩)⟩)⟩)⟩)
theorem e3q0 : okP R3 q0 = true := by decide +kernel
theorem e3q1 : okP R3 q1 = true := by decide +kernel
theorem e3q2 : okP R3 q2 = true := by decide +kernel
theorem e3q3 : okP R3 q3 = true := by decide +kernel
theorem e3q4 : okP R3 q4 = true := by decide +kernel
theorem e3q5 : okP R3 q5 = true := by decide +kernel
theorem e3q6 : okP R3 q6 = true := by decide +kernel
theorem e3q7 : okP R3 q7 = true := by decide +kernel
theorem e3q8 : okP R3 q8 = true := by decide +kernel
theorem e3q9 : okP R3 q9 = true := by decide +kernel
theorem e3q10 : okP R3 q10 = true := by decide +kernel
theorem e3q11 : okP R3 q11 = true := by decide +kernel
theorem e3q12 : okP R3 q12 = true := by decide +kernel
theorem e3q13 : okP R3 q13 = true := by decide +kernel
theorem e3q14 : okP R3 q14 = true := by decide +kernel
theorem e3q15 : okP R3 q15 = true := by decide +kernel
theorem e3q16 : okP R3 q16 = true := by decide +kernel
theorem e3q17 : okP R3 q17 = true := by decide +kernel
theorem e3q18 : okP R3 q18 = true := by decide +kernel
theorem e3q19 : okP R3 q19 = true := by decide +kernel
theorem e3q20 : okP R3 q20 = true := by decide +kernel
theorem e3q21 : okP R3 q21 = true := by decide +kernel
theorem e3q22 : okP R3 q22 = true := by decide +kernel
theorem e3q23 : okP R3 q23 = true := by decide +kernel
theorem e3q24 : okP R3 q24 = true := by decide +kernel
theorem r3_b : ∀ x, x ∈ P2 → okP R3 x = true := (List.forall_mem_cons.mpr ⟨e3q0, (List.forall_mem_cons.mpr ⟨e3q1, (List.forall_mem_cons.mpr ⟨e3q2, (List.forall_mem_cons.mpr ⟨e3q3, (List.forall_mem_cons.mpr ⟨e3q4, (List.forall_mem_cons.mpr ⟨e3q5, (List.forall_mem_cons.mpr ⟨e3q6, (List.forall_mem_cons.mpr ⟨e3q7, (List.forall_mem_cons.mpr ⟨e3q8, (List.forall_mem_cons.mpr ⟨e3q9, (List.forall_mem_cons.mpr ⟨e3q10, (List.forall_mem_cons.mpr ⟨e3q11, (List.forall_mem_cons.mpr ⟨e3q12, (List.forall_mem_cons.mpr ⟨e3q13, (List.forall_mem_cons.mpr ⟨e3q14, (List.forall_mem_cons.mpr ⟨e3q15, (List.forall_mem_cons.mpr ⟨e3q16, (List.forall_mem_cons.mpr ⟨e3q17, (List.forall_mem_cons.mpr ⟨e3q18, (List.forall_mem_cons.mpr ⟨e3q19, (List.forall_mem_cons.mpr ⟨e3q20, (List.forall_mem_cons.mpr ⟨e3q21, (List.forall_mem_cons.mpr ⟨e3q22, (List.forall_mem_cons.mpr ⟨e3q23, (List.forall_mem_cons.mpr ⟨e3q24, (fun _ h => nomatch h)⟩)⟩)⟩)⟩)⟩)⟩)⟩)⟩)⟩)⟩)⟩)⟩)⟩)⟩)⟩)⟩)⟩)⟩)⟩)⟩)⟩)⟩)⟩)⟩)⟩)
theorem all_ev {r : D} (h : r = R0 ∨ r = R1 ∨ r = R2 ∨ r = R3) {x : D} (hx : x ∈ P1 ++ P2) : okP r x = true := by
  rcases List.mem_append.mp hx with hx | hx <;> rcases h with rfl | rfl | rfl | rfl
  · exact r0_a x hx
  · exact r1_a x hx
  · exact r2_a x hx
  · exact r3_a x hx
  · exact r0_b x hx
  · exact r1_b x hx
  · exact r2_b x hx
  · exact r3_b x hx
theorem okP_ok {r x : D} (h : okP r x = true) : ∃ a b c st, x = .tup [a, b, c] ∧ clo 5 a = true ∧ clo 5 b = true ∧ clo 5 c = true ∧ F_l_right [a, b, c, r] TB = some (.bl true, st) ∧ st.take 5 = TB ∧ 5 ≤ st.length := by
  unfold okP at h
  split at h
  · rename_i a b c
    rw [Bool.and_eq_true, Bool.and_eq_true, Bool.and_eq_true] at h
    obtain ⟨⟨⟨h1, h2⟩, h3⟩, h4⟩ := h
    split at h4
    · rename_i st e
      obtain ⟨h5, h6⟩ := isTB_ok h4
      exact ⟨a, b, c, st, rfl, h1, h2, h3, e, h5, h6⟩
    · cases h4
  · cases h
def runR (zs : List D) : Option (D × D × D) := match F_run zs TB with
  | some (.tup [a, b, c, _], st) => if isTB st = true then some (a, b, c) else none
  | _ => none
theorem runR_ok {zs : List D} {a b c : D} (h : runR zs = some (a, b, c)) : ∃ d st, F_run zs TB = some (.tup [a, b, c, d], st) ∧ st.take 5 = TB ∧ 5 ≤ st.length := by
  unfold runR at h
  split at h
  · rename_i d st e
    split at h
    · rename_i k
      cases h
      obtain ⟨h1, h2⟩ := isTB_ok k
      exact ⟨d, st, e, h1, h2⟩
    · cases h
  · cases h
def C1 : D := match F_l_contract [.int 1] TB with
  | some (d, _) => d
  | _ => .non
theorem con_ev : F_l_contract [.int 1] TB = some (C1, TB) := by kernel_rfl
def row1 : D := .lst [.tup [.str "set", .int 0, .int 1]]
def row2 (i : Int) : D := .lst [.tup [.str "load", .int 0, .int 1, .int i], .tup [.str "end"]]
theorem run1 : runR [row1, C1, .tup [], .non, .tup [], .int 1] = some (.str "over", .non, .int 1) := by kernel_rfl
theorem run2 : runR [row1, C1, .tup [], .non, .tup [], .int 2] = some (.str "off", .non, .int 1) := by kernel_rfl
theorem run3 : runR [row2 0, C1, .lst [.int 4, .int 5], .non, .tup [], .int 1000] = some (.str "end", .int 4, .int 2) := by kernel_rfl
theorem run4 : runR [row2 1, C1, .lst [.int 4, .int 5], .non, .tup [], .int 1000] = some (.str "end", .int 5, .int 2) := by kernel_rfl
theorem run5 : runR [row2 2, C1, .lst [.int 4, .int 5], .non, .tup [], .int 1000] = some (.str "outside", .non, .int 1) := by kernel_rfl
end
section
local macro_rules | `(tactic| walk_at "g") => `(tactic| first
  | with_reducible assumption
  | (with_reducible exact gMul_b)
  | (with_reducible exact gEq_sT)
  | (with_reducible exact gNe_sT)
  | (with_reducible exact gEq_sF (by decide))
  | (with_reducible exact gNe_sF (by decide))
  | (with_reducible exact gSl_62)
  | (with_reducible exact gMax2)
  | (with_reducible exact gMin2)
  | (with_reducible exact gAdd_i)
  | (with_reducible exact gSub_i)
  | (with_reducible exact gAnd_i)
  | (with_reducible exact gOr_i)
  | (with_reducible exact gXor_i)
  | (with_reducible exact gLt_i)
  | (with_reducible exact gLe_i)
  | (with_reducible exact gGt_i)
  | (with_reducible exact gGe_i)
  | (with_reducible exact gEq_i)
  | (with_reducible exact gNe_i)
  | (with_reducible exact gEq_b)
  | (with_reducible exact gNe_b)
  | (with_reducible exact gEq_s)
  | (with_reducible exact gNe_s)
  | (with_reducible exact gMul_i (by omega))
  | (with_reducible exact gDiv_i (by omega))
  | (with_reducible exact gMod_i (by omega))
  | (with_reducible exact gPow_i (by omega))
  | (with_reducible exact gShl_i (by omega))
  | (with_reducible exact gShr_i (by omega))
  | exact rfl)
local macro_rules | `(tactic| walk_at "nm") => `(tactic| first
  | (dsimp only [slots0, app2, Sx.put, Nat.reduceAdd, Nat.reduceSub, List.replicate, List.set]; done)
  | (dsimp only [slots0, app2, Sx.put, Nat.reduceAdd, Nat.reduceSub, List.replicate, List.set]; exact rfl)
  | exact rfl)
local macro_rules | `(tactic| walk_at "fn") => `(tactic| ((refine' fn_wp ?h0 ?h1 ?_); (case h0 => exact rfl); (case h1 => walk_at "nm"); walk_at "st"))
local macro_rules | `(tactic| walk_at "call") => `(tactic| with_reducible assumption)
local macro_rules | `(tactic| walk_at "ex") => `(tactic| first
  | ((with_reducible refine' x_c))
  | ((with_reducible refine' x_v ?h0); (case h0 => exact rfl))
  | ((with_reducible refine' x_op ?h0 ?h1 ?h2); (case h0 => walk_at "ex"); (case h1 => walk_at "ex"); (case h2 => walk_at "g"))
  | ((with_reducible refine' x_call ?h0 ?h1 ?h2 ?h3); (case h0 => walk_at "ex"); (case h1 => walk_at "nm"); (case h2 => walk_at "nm"); (case h3 => walk_at "call"))
  | ((with_reducible refine' x_callN ?h0 ?h1 ?h2 ?h3 ?h4 ?h5 ?h6); (case h0 => walk_at "ex"); (case h1 => walk_at "ex"); (case h2 => exact rfl); (case h3 => exact rfl); (case h4 => walk_at "nm"); (case h5 => walk_at "nm"); (case h6 => walk_at "call"))
  | ((with_reducible refine' x_nil))
  | ((with_reducible refine' x_cons ?h0 ?h1); (case h0 => walk_at "ex"); (case h1 => walk_at "ex"))
  | ((with_reducible refine' x_cb ?h0 ?h1); (case h0 => walk_at "ex"); (case h1 => walk_at "g"))
  | ((with_reducible refine' x_tup ?h0 ?h1); (case h0 => walk_at "ex"); (case h1 => exact Nat.le_of_ble_eq_true rfl))
  | ((with_reducible refine' x_L ?h0); (case h0 => walk_at "ex"))
  | ((with_reducible refine' x_disp ?h0 ?h1); (case h0 => walk_at "ex"); (case h1 => exact Nat.le_of_ble_eq_true rfl))
  | ((with_reducible refine' x_tE ?h0); (case h0 => walk_at "ex"))
  | ((with_reducible refine' x_not ?h0); (case h0 => walk_at "ex"))
  | ((with_reducible refine' x_andF ?h0); (case h0 => walk_at "ex"))
  | ((with_reducible refine' x_andT ?h0 ?h1); (case h0 => walk_at "ex"); (case h1 => walk_at "ex"))
  | ((with_reducible refine' x_orT ?h0); (case h0 => walk_at "ex"))
  | ((with_reducible refine' x_orF ?h0 ?h1); (case h0 => walk_at "ex"); (case h1 => walk_at "ex"))
  | ((with_reducible refine' x_and ?h0 ?h1); (case h0 => walk_at "ex"); (case h1 => walk_at "ex"))
  | ((with_reducible refine' x_or ?h0 ?h1); (case h0 => walk_at "ex"); (case h1 => walk_at "ex"))
  | ((with_reducible refine' x_andVF ?h0); (case h0 => walk_at "ex"))
  | ((with_reducible refine' x_andVT ?h0 ?h1); (case h0 => walk_at "ex"); (case h1 => walk_at "ex"))
  | ((with_reducible refine' x_orVT ?h0); (case h0 => walk_at "ex"))
  | ((with_reducible refine' x_orVF ?h0 ?h1); (case h0 => walk_at "ex"); (case h1 => walk_at "ex"))
  | ((with_reducible refine' x_andV ?h0 ?h1); (case h0 => walk_at "ex"); (case h1 => walk_at "ex"))
  | ((with_reducible refine' x_orV ?h0 ?h1); (case h0 => walk_at "ex"); (case h1 => walk_at "ex"))
  | ((with_reducible refine' x_notV ?h0); (case h0 => walk_at "ex"))
  | ((with_reducible refine' x_if ?h0 ?h1 ?h2); (case h0 => walk_at "ex"); (case h1 => walk_at "ex"); (case h2 => walk_at "ex"))
  | ((with_reducible refine' x_un ?h0 ?h1); (case h0 => walk_at "ex"); (case h1 => walk_at "g"))
  | ((with_reducible refine' x_bits ?h0); (case h0 => walk_at "ex"))
  | ((with_reducible refine' x_ch ?h0 ?h1 ?h2 ?h3 ?h4); (case h0 => walk_at "ex"); (case h1 => walk_at "ex"); (case h2 => walk_at "g"); (case h3 => walk_at "ex"); (case h4 => walk_at "g"))
  | ((with_reducible refine' x_ixS ?h0 ?h1 ?h2); (case h0 => walk_at "ex"); (case h1 => walk_at "ex"); (case h2 => walk_at "g"))
  | ((with_reducible refine' x_oNo))
  | ((with_reducible refine' x_oSo ?h0); (case h0 => walk_at "ex"))
  | ((with_reducible refine' x_sl ?h0 ?h1 ?h2 ?h3); (case h0 => walk_at "ex"); (case h1 => walk_at "ex"); (case h2 => walk_at "ex"); (case h3 => walk_at "g"))
  | ((with_reducible refine' x_vo ?h0); (case h0 => exact rfl))
  | ((with_reducible refine' x_new ?h0); (case h0 => walk_at "ex"))
  | ((with_reducible refine' x_iE ?h0 ?h1); (case h0 => walk_at "ex"); (case h1 => first | exact Or.inl rfl | exact Or.inr rfl))
  | ((with_reducible refine' x_iR1 ?h0 ?h1); (case h0 => walk_at "ex"); (case h1 => omega)))
local macro_rules | `(tactic| walk_at "st") => `(tactic| repeat (first
  | ((with_reducible refine' wp_set ?h0 ?h1 ?h2 ?_); (case h0 => walk_at "ex"); (case h1 => exact Nat.le_of_ble_eq_true rfl); (case h2 => walk_at "nm"))
  | ((with_reducible refine' wp_seq_seq ?_))
  | ((with_reducible refine' wp_seq_nil ?_))
  | ((with_reducible refine' wp_nil ?_))
  | ((with_reducible refine' wp_seq_ret ?h0 ?_); (case h0 => walk_at "ex"))
  | ((with_reducible refine' wp_ret ?h0 ?_); (case h0 => walk_at "ex"))
  | ((with_reducible refine' wp_if ?h0 ?h1 ?_); (case h0 => walk_at "ex"); (case h1 => walk_at "nm"))
  | ((with_reducible refine' wp_asg ?h0 ?h1 ?h2 ?_); (case h0 => walk_at "ex"); (case h1 => exact rfl); (case h2 => walk_at "nm"))
  | ((with_reducible refine' wp_ex ?h0 ?h1 ?_); (case h0 => walk_at "ex"); (case h1 => walk_at "nm"))
  | ((with_reducible refine' wp_own ?h0 ?h1 ?h2 ?_); (case h0 => walk_at "ex"); (case h1 => exact Nat.le_of_ble_eq_true rfl); (case h2 => walk_at "nm"))
  | ((with_reducible refine' wp_par ?h0 ?h1 ?h2 ?_); (case h0 => walk_at "ex"); (case h1 => exact ⟨Nat.le_of_ble_eq_true rfl, Nat.le_of_ble_eq_true rfl⟩); (case h2 => walk_at "nm"))
  | ((with_reducible refine' wp_app ?h0 ?h1 ?h2 ?h3 ?h4 ?_); (case h0 => exact rfl); (case h1 => walk_at "ex"); (case h2 => exact rfl); (case h3 => first | exact Nat.le_of_ble_eq_true rfl | (simp only [List.length_cons, List.length_nil, List.length_append]; omega)); (case h4 => walk_at "nm"))
  | ((with_reducible refine' wp_putO ?h0 ?h1 ?h2 ?h3 ?h4 ?h5 ?_); (case h0 => walk_at "ex"); (case h1 => walk_at "ex"); (case h2 => walk_at "ex"); (case h3 => first | exact rfl | assumption); (case h4 => exact rfl); (case h5 => walk_at "nm"))
  | ((with_reducible refine' wp_for ?h0 ?h1 ?_); (case h0 => walk_at "ex"); (case h1 => walk_at "nm"))
  | ((with_reducible refine' wp_match ?h0 ?h1 ?_); (case h0 => walk_at "ex"); (case h1 => walk_at "nm"))
  | ((with_reducible refine' wp_mStr ?_))
  | ((with_reducible refine' wp_mAny ?_))
  | ((with_reducible refine' wp_aug ?h0 ?h1 ?h2 ?h3 ?_); (case h0 => exact rfl); (case h1 => walk_at "ex"); (case h2 => exact Nat.le_of_ble_eq_true rfl); (case h3 => walk_at "nm"))
  | ((with_reducible refine' wpl_set ?_))
  | ((with_reducible refine' wpl_asg ?_))
  | ((with_reducible refine' wpl_ex ?_))
  | ((with_reducible refine' wpl_if ?_))
  | ((with_reducible refine' wpl_own ?_))
  | ((with_reducible refine' wpl_app ?_))
  | ((with_reducible refine' wpl_putO ?_))
  | ((with_reducible refine' wpl_putI ?_))
  | ((with_reducible refine' wpl_par ?_))
  | ((with_reducible refine' wpl_for ?_))
  | ((with_reducible refine' wpl_while ?_))
  | ((with_reducible refine' wpl_match ?_))
  | ((with_reducible refine' wpl_aug ?_))
  | ((with_reducible refine' ite_t ?h0 ?_); (case h0 => decide))
  | ((with_reducible refine' ite_f ?h0 ?_); (case h0 => decide))))
theorem cutR {r : D} (h : r = R0 ∨ r = R1 ∨ r = R2 ∨ r = R3) : clo 5 r = true := by rcases h with rfl | rfl | rfl | rfl <;> decide +kernel
def TS (st : List DO) : Prop := st.take 5 = TB ∧ 5 ≤ st.length
theorem TS.more {st more : List DO} (h : TS st) : TS (st ++ more) := ⟨by rw [List.take_append_of_le_length h.2]; exact h.1, by rw [List.length_append]; have := h.2; omega⟩
theorem TS.set {st : List DO} {n : Nat} {o : DO} (h : TS st) (hn : 5 ≤ n) : TS (st.set n o) := ⟨by rw [List.take_set_of_le hn]; exact h.1, by rw [List.length_set]; exact h.2⟩
theorem TS.ts {st : List DO} {n : Nat} {m : Int} (h : TS st) (hn : 5 ≤ n) : TS (ts st n m) := by
  unfold Dl.ts
  split
  · exact h.set hn
  · exact h.set hn
theorem x_isoT {e : DE} {env env' : List Slot} {st st' : List DO} {d : D} (h : TS st) (he : e ⟨env.map (cutE 5), TB⟩ = some (d, ⟨env', st'⟩)) (hc : clo 5 d = true) (h4 : st'.take 5 = TB) (h5 : 5 ≤ st'.length) : eIso 5 e ⟨env, st⟩ = some (d, ⟨env, st⟩) :=
  x_iso (by show (st.take 5).all isT0 = true; rw [h.1]; rfl) h.2 (by show e ⟨env.map (cutE 5), st.take 5⟩ = _; rw [h.1]; exact he) hc (by rw [h4]; exact h.1.symm) h5
theorem cut_val {d : D} (h : clo 5 d = true) : cutE 5 (.val d) = .val d := by
  unfold cutE
  exact if_pos h
theorem clo_int {i : Int} : clo 5 (.int i) = true := by unfold clo; rfl
theorem at_cut {env : List Slot} {i : Nat} {d : D} (hc : clo 5 d = true) (e : env[i]? = some (.val d)) : (env.map (cutE 5))[i]? = some (.val d) := by
  rw [List.getElem?_map, e]
  exact congrArg some (cut_val hc)
theorem run_ev {zs : List D} {a b c : D} {A B : DA} {pat : List Bool} {ds xs ys : List D} {S : Sx} {n m : Nat} (ha : A S = some (xs, S)) (hb : B S = some (ys, S)) (h1 : xs.length = n) (h2 : ys.length = m) (hx : app2 xs (mergeP pat ds ys) = zs) (hs : S.st = TB) (h : runR zs = some (a, b, c)) :
    ∃ st, eSl (eCallM F_run n m pat ds A B) oNo (oSo (eC (.int 3))) S = some (.tup [a, b, c], ⟨S.env, st⟩) ∧ st.take 5 = TB ∧ 5 ≤ st.length := by
  obtain ⟨d, st, e, k1, k2⟩ := runR_ok h
  exact ⟨st, x_sl (x_callM ha hb h1 h2 hx hs e) x_oNo (x_oSo x_c) rfl, k1, k2⟩
theorem law_true (ns : List Int) (h : ns.length ≤ 63) : ∃ st', F_law [.lst (ns.map D.int)] ((["are_worths", "are_rooms", "are_shelves", "look_at_inputs", "has_numbers"] : List Str).map DO.tbl) = some (.bl true, st') := by
  have out : (∃ d st', F_law [.lst (ns.map D.int)] TB = some (d, st') ∧ d = .bl true) → ∃ st', F_law [.lst (ns.map D.int)] TB = some (.bl true, st') := by
    rintro ⟨d, st', e, rfl⟩
    exact ⟨st', e⟩
  refine out (fn_wpE rfl rfl ?_)
  have hl : gLen [.lst (ns.map D.int)] = some (.int ns.length) := by show some (D.int (ns.map D.int).length) = _; rw [List.length_map]
  have b1 := Bg.mx_or 1 (Bg.mn ns.length 6)
  have b2 := Bg.mn_or ns.length 6
  have b3 := Bg.mn_r ns.length 6
  refine wp_for (x_iR1 (x_cons (x_cb (x_cons x_c (x_cons (x_cb (x_cons (x_cb (x_cons (x_v rfl) x_nil) hl) (x_cons x_c x_nil)) gMin2) x_nil)) gMax2) x_nil) (by omega)) rfl ?_
  refine forF_wp (fun ds S => (∀ d, d ∈ ds → ∃ j : Nat, d = .int j ∧ j < 20) ∧ ∃ (s1 s2 s3 s4 s5 s6 s7 : Slot) (st : List DO), S = ⟨[.val (.lst (ns.map D.int)), s1, s2, s3, s4, s5, s6, s7, .un, .un, .un, .un], st⟩ ∧ TS st) ?_ ?_ _ _ ⟨?_, _, _, _, _, _, _, _, _, rfl, ?_⟩
  · rintro S ⟨_, s1, s2, s3, s4, s5, s6, s7, st, rfl, ht⟩
    have cf : compF [10] (gN 10) tY (eIso 5 (eSl (eCallM F_run 2 1 [true, true, true, false] [(.tup []), .non, (.tup [])] (aCons (eL (lDisp (aCons (eTup (aCons (eC (.str "set")) (aCons (eC (.int (0))) (aCons (eC (.int (1))) aNil)))) aNil))) (aCons (eCall F_l_contract [] (aCons (eC (.int (1))) aNil)) aNil)) (aCons (eV 10) aNil)) oNo (oSo (eC (.int (3)))))) ([1, 2].map D.int) ⟨[.val (.lst (ns.map D.int)), s1, s2, s3, s4, s5, s6, s7, .un, .un, .un, .un], st⟩ =
        some ([1, 2].map (fun m : Int => if m = 1 then D.tup [.str "over", .non, .int 1] else D.tup [.str "off", .non, .int 1]), ⟨[.val (.lst (ns.map D.int)), s1, s2, s3, s4, s5, s6, s7, .un, .un, .un, .un], st⟩) := by
      refine compF_all D.int _ [1, 2] fun p hp => ⟨⟨[.val (.lst (ns.map D.int)), s1, s2, s3, s4, s5, s6, s7, .un, .un, .val (.int p), .un], st⟩, rfl, ?_, rfl⟩
      have key : ∀ {a b c : D}, runR [row1, C1, .tup [], .non, .tup [], .int p] = some (a, b, c) → clo 5 (.tup [a, b, c]) = true → eIso 5 (eSl (eCallM F_run 2 1 [true, true, true, false] [(.tup []), .non, (.tup [])] (aCons (eL (lDisp (aCons (eTup (aCons (eC (.str "set")) (aCons (eC (.int (0))) (aCons (eC (.int (1))) aNil)))) aNil))) (aCons (eCall F_l_contract [] (aCons (eC (.int (1))) aNil)) aNil)) (aCons (eV 10) aNil)) oNo (oSo (eC (.int (3))))) ⟨[.val (.lst (ns.map D.int)), s1, s2, s3, s4, s5, s6, s7, .un, .un, .val (.int p), .un], st⟩ = some (.tup [a, b, c], ⟨[.val (.lst (ns.map D.int)), s1, s2, s3, s4, s5, s6, s7, .un, .un, .val (.int p), .un], st⟩) := by
        intro a b c hr hc
        obtain ⟨st', e, k1, k2⟩ := run_ev (n := 2) (m := 1) (pat := [true, true, true, false]) (ds := [(.tup []), .non, (.tup [])]) (zs := [row1, C1, .tup [], .non, .tup [], .int p]) (A := (aCons (eL (lDisp (aCons (eTup (aCons (eC (.str "set")) (aCons (eC (.int (0))) (aCons (eC (.int (1))) aNil)))) aNil))) (aCons (eCall F_l_contract [] (aCons (eC (.int (1))) aNil)) aNil))) (B := (aCons (eV 10) aNil)) (S := ⟨([.val (.lst (ns.map D.int)), s1, s2, s3, s4, s5, s6, s7, .un, .un, .val (.int p), .un] : List Slot).map (cutE 5), TB⟩) (x_cons (x_L (x_disp (x_cons (x_tup (x_cons x_c (x_cons x_c (x_cons x_c x_nil))) (Nat.le_of_ble_eq_true rfl)) x_nil) (Nat.le_of_ble_eq_true rfl))) (x_cons (x_call (x_cons x_c x_nil) rfl rfl con_ev) x_nil)) (x_cons (x_v (d := .int p) (at_cut clo_int rfl)) x_nil) rfl rfl rfl rfl hr
        exact x_isoT ht e hc k1 k2
      rcases List.mem_cons.mp hp with rfl | hp
      · exact key run1 (by decide +kernel)
      · obtain rfl := List.mem_singleton.mp hp
        exact key run2 (by decide +kernel)
    refine wp_set (x_L (x_lComp (x_iEL (x_tup (x_cons x_c (x_cons x_c x_nil)) (Nat.le_of_ble_eq_true rfl)) (.inr rfl)) (Nat.le_of_ble_eq_true rfl) rfl cf)) (Nat.le_of_ble_eq_true rfl) rfl ?_
    refine wp_if (p := false) (x_tE (x_op (x_v rfl) (x_L (x_disp (x_cons (x_tup (x_cons x_c (x_cons x_c (x_cons x_c x_nil))) (Nat.le_of_ble_eq_true rfl)) (x_cons (x_tup (x_cons x_c (x_cons x_c (x_cons x_c x_nil))) (Nat.le_of_ble_eq_true rfl)) x_nil)) (Nat.le_of_ble_eq_true rfl))) (by kernel_rfl))) rfl (ite_f (by decide) (wp_seq_nil ?_))
    have cg : compF [11] (gN 11) tY (eIso 5 (eSl (eCallM F_run 2 1 [false, true, true, true] [.non, (.tup []), (.int 1000)] (aCons (eL (lDisp (aCons (eTup (aCons (eC (.str "load")) (aCons (eC (.int (0))) (aCons (eC (.int (1))) (aCons (eV 11) aNil))))) (aCons (eTup (aCons (eC (.str "end")) aNil)) aNil)))) (aCons (eCall F_l_contract [] (aCons (eC (.int (1))) aNil)) aNil)) (aCons (eL (lDisp (aCons (eC (.int (4))) (aCons (eC (.int (5))) aNil)))) aNil)) oNo (oSo (eC (.int (3)))))) ([0, 1, 2].map D.int) ⟨[.val (.lst (ns.map D.int)), s1, s2, s3, s4, s5, s6, s7, .val (.lst ([1, 2].map (fun m : Int => if m = 1 then D.tup [.str "over", .non, .int 1] else D.tup [.str "off", .non, .int 1]))), .un, .un, .un], st⟩ =
        some ([0, 1, 2].map (fun m : Int => if m = 0 then D.tup [.str "end", .int 4, .int 2] else if m = 1 then D.tup [.str "end", .int 5, .int 2] else D.tup [.str "outside", .non, .int 1]), ⟨[.val (.lst (ns.map D.int)), s1, s2, s3, s4, s5, s6, s7, .val (.lst ([1, 2].map (fun m : Int => if m = 1 then D.tup [.str "over", .non, .int 1] else D.tup [.str "off", .non, .int 1]))), .un, .un, .un], st⟩) := by
      generalize D.lst ([1, 2].map (fun m : Int => if m = 1 then D.tup [.str "over", .non, .int 1] else D.tup [.str "off", .non, .int 1])) = bb
      refine compF_all D.int _ [0, 1, 2] fun p hp => ⟨⟨[.val (.lst (ns.map D.int)), s1, s2, s3, s4, s5, s6, s7, .val bb, .un, .un, .val (.int p)], st⟩, rfl, ?_, rfl⟩
      have key : ∀ {a b c : D}, runR [row2 p, C1, .lst [.int 4, .int 5], .non, .tup [], .int 1000] = some (a, b, c) → clo 5 (.tup [a, b, c]) = true → eIso 5 (eSl (eCallM F_run 2 1 [false, true, true, true] [.non, (.tup []), (.int 1000)] (aCons (eL (lDisp (aCons (eTup (aCons (eC (.str "load")) (aCons (eC (.int (0))) (aCons (eC (.int (1))) (aCons (eV 11) aNil))))) (aCons (eTup (aCons (eC (.str "end")) aNil)) aNil)))) (aCons (eCall F_l_contract [] (aCons (eC (.int (1))) aNil)) aNil)) (aCons (eL (lDisp (aCons (eC (.int (4))) (aCons (eC (.int (5))) aNil)))) aNil)) oNo (oSo (eC (.int (3))))) ⟨[.val (.lst (ns.map D.int)), s1, s2, s3, s4, s5, s6, s7, .val bb, .un, .un, .val (.int p)], st⟩ = some (.tup [a, b, c], ⟨[.val (.lst (ns.map D.int)), s1, s2, s3, s4, s5, s6, s7, .val bb, .un, .un, .val (.int p)], st⟩) := by
        intro a b c hr hc
        obtain ⟨st', e, k1, k2⟩ := run_ev (n := 2) (m := 1) (pat := [false, true, true, true]) (ds := [.non, (.tup []), (.int 1000)]) (zs := [row2 p, C1, .lst [.int 4, .int 5], .non, .tup [], .int 1000]) (A := (aCons (eL (lDisp (aCons (eTup (aCons (eC (.str "load")) (aCons (eC (.int (0))) (aCons (eC (.int (1))) (aCons (eV 11) aNil))))) (aCons (eTup (aCons (eC (.str "end")) aNil)) aNil)))) (aCons (eCall F_l_contract [] (aCons (eC (.int (1))) aNil)) aNil))) (B := (aCons (eL (lDisp (aCons (eC (.int (4))) (aCons (eC (.int (5))) aNil)))) aNil)) (S := ⟨([.val (.lst (ns.map D.int)), s1, s2, s3, s4, s5, s6, s7, .val bb, .un, .un, .val (.int p)] : List Slot).map (cutE 5), TB⟩) (x_cons (x_L (x_disp (x_cons (x_tup (x_cons x_c (x_cons x_c (x_cons x_c (x_cons (x_v (d := .int p) (at_cut clo_int rfl)) x_nil)))) (Nat.le_of_ble_eq_true rfl)) (x_cons (x_tup (x_cons x_c x_nil) (Nat.le_of_ble_eq_true rfl)) x_nil)) (Nat.le_of_ble_eq_true rfl))) (x_cons (x_call (x_cons x_c x_nil) rfl rfl con_ev) x_nil)) (x_cons (x_L (x_disp (x_cons x_c (x_cons x_c x_nil)) (Nat.le_of_ble_eq_true rfl))) x_nil) rfl rfl rfl rfl hr
        exact x_isoT ht e hc k1 k2
      rcases List.mem_cons.mp hp with rfl | hp
      · exact key run3 (by decide +kernel)
      rcases List.mem_cons.mp hp with rfl | hp
      · exact key run4 (by decide +kernel)
      · obtain rfl := List.mem_singleton.mp hp
        exact key run5 (by decide +kernel)
    refine wp_set (x_L (x_lComp (x_iR1 (x_cons x_c x_nil) (by omega)) (Nat.le_of_ble_eq_true rfl) rfl cg)) (Nat.le_of_ble_eq_true rfl) rfl ?_
    exact wp_ret (x_op (x_v rfl) (x_L (x_disp (x_cons (x_tup (x_cons x_c (x_cons x_c (x_cons x_c x_nil))) (Nat.le_of_ble_eq_true rfl)) (x_cons (x_tup (x_cons x_c (x_cons x_c (x_cons x_c x_nil))) (Nat.le_of_ble_eq_true rfl)) (x_cons (x_tup (x_cons x_c (x_cons x_c (x_cons x_c x_nil))) (Nat.le_of_ble_eq_true rfl)) x_nil))) (Nat.le_of_ble_eq_true rfl))) (show _ = some (D.bl true) from by kernel_rfl)) ⟨_, rfl, rfl⟩
  · rintro x xs S ⟨hd, s1, s2, s3, s4, s5, s6, s7, st, rfl, ht⟩
    obtain ⟨j, rfl, hj⟩ := hd x (List.mem_cons_self ..)
    have hd2 : ∀ d, d ∈ xs → ∃ j : Nat, d = .int j ∧ j < 20 := fun d hd' => hd d (List.mem_cons_of_mem _ hd')
    refine ⟨⟨[.val (.lst (ns.map D.int)), .val (.int j), s2, s3, s4, s5, s6, s7, .un, .un, .un, .un], st⟩, rfl, ?_⟩
    obtain ⟨p1, p2, ep⟩ := F_l_pool_ok (ns := ns) (k := (j : Int)) (st := st) (by omega) (by omega)
    have hp : Pool (st ++ [.lst [.int p1, .int p2]]) st.length := Pool.new
    have ht0 : TS (st ++ [.lst [.int p1, .int p2]]) := ht.more
    have h5 := ht.2
    generalize st ++ [DO.lst [.int p1, .int p2]] = st0 at ep hp ht0
    generalize st.length = p at ep hp h5
    refine wp_set (x_call (x_cons (x_v rfl) (x_cons (x_v rfl) x_nil)) rfl rfl ep) (Nat.le_of_ble_eq_true rfl) rfl ?_
    refine wp_set (S9 := ⟨[.val (.lst (ns.map D.int)), .val (.int j), .val (.obj p), .val (.lst [R0, R1, R2, R3]), s4, s5, s6, s7, .un, .un, .un, .un], st0⟩) (x_L (x_disp (x_cons (x_L (x_disp x_nil (Nat.le_of_ble_eq_true rfl))) (x_cons (x_L (x_disp (x_cons (x_tup (x_cons x_c (x_cons x_c (x_cons x_c x_nil))) (Nat.le_of_ble_eq_true rfl)) x_nil) (Nat.le_of_ble_eq_true rfl))) (x_cons (x_L (x_disp (x_cons (x_tup (x_cons x_c (x_cons x_c (x_cons x_c x_nil))) (Nat.le_of_ble_eq_true rfl)) (x_cons (x_tup (x_cons x_c (x_cons x_c x_nil)) (Nat.le_of_ble_eq_true rfl)) x_nil)) (Nat.le_of_ble_eq_true rfl))) (x_cons (x_L (x_disp (x_cons (x_tup (x_cons x_c (x_cons x_c (x_cons x_c x_nil))) (Nat.le_of_ble_eq_true rfl)) x_nil) (Nat.le_of_ble_eq_true rfl))) x_nil)))) (Nat.le_of_ble_eq_true rfl))) (Nat.le_of_ble_eq_true rfl) rfl ?_
    have bd := tk_bd (st := st0) (n := p) (m := 4) (by decide)
    have e1 := F_l_take_ok (m := 4) hp (by decide) (by decide)
    have ht1 := ht0.ts (m := 4) h5
    generalize tk st0 p 4 = k at e1 bd
    generalize ts st0 p 4 = st1 at e1 ht1
    obtain ⟨r, er, hr⟩ : ∃ r, gIx (.lst [R0, R1, R2, R3]) (.int k) = some r ∧ (r = R0 ∨ r = R1 ∨ r = R2 ∨ r = R3) := by
      have : k = 0 ∨ k = 1 ∨ k = 2 ∨ k = 3 := by omega
      rcases this with rfl | rfl | rfl | rfl
      · exact ⟨R0, rfl, .inl rfl⟩
      · exact ⟨R1, rfl, .inr (.inl rfl)⟩
      · exact ⟨R2, rfl, .inr (.inr (.inl rfl))⟩
      · exact ⟨R3, rfl, .inr (.inr (.inr rfl))⟩
    refine wp_set (x_op (x_v rfl) (x_call (x_cons (x_v rfl) (x_cons x_c x_nil)) rfl rfl e1) er) (Nat.le_of_ble_eq_true rfl) rfl ?_
    have cr := cutR hr
    refine wp_last (wp_for (x_iEL (x_isoT ht1 (x_op (x_call x_nil rfl rfl plain_ev) (x_call x_nil rfl rfl calls_ev) both_ev) clo_ev rfl (Nat.le_of_ble_eq_true rfl)) (.inl rfl)) rfl ?_)
    refine forF_wp (fun ds S => (∀ d, d ∈ ds → okP r d = true) ∧ ∃ (s5 s6 s7 : Slot), S = ⟨[.val (.lst (ns.map D.int)), .val (.int j), .val (.obj p), .val (.lst [R0, R1, R2, R3]), .val r, s5, s6, s7, .un, .un, .un, .un], st1⟩) ?_ ?_ _ _ ⟨fun d hd' => all_ev hr hd', _, _, _, rfl⟩
    · rintro S ⟨_, s5, s6, s7, rfl⟩
      exact wp_nil ⟨hd2, _, _, _, _, _, _, _, _, rfl, ht1⟩
    · rintro y ys S ⟨hy, s5, s6, s7, rfl⟩
      obtain ⟨a, b, c, st', rfl, ca, cb, cc, ev, k1, k2⟩ := okP_ok (hy y (List.mem_cons_self ..))
      have hy2 : ∀ d, d ∈ ys → okP r d = true := fun d hd' => hy d (List.mem_cons_of_mem _ hd')
      refine ⟨⟨[.val (.lst (ns.map D.int)), .val (.int j), .val (.obj p), .val (.lst [R0, R1, R2, R3]), .val r, .val a, .val b, .val c, .un, .un, .un, .un], st1⟩, rfl, ?_⟩
      refine wpl_if (wp_if (p := false) (x_not (p := true) (x_tE (x_isoT ht1 (x_call (x_cons (x_v (d := a) (at_cut ca rfl)) (x_cons (x_v (d := b) (at_cut cb rfl)) (x_cons (x_v (d := c) (at_cut cc rfl)) (x_cons (x_v (d := r) (at_cut cr rfl)) x_nil)))) rfl rfl ev) rfl k1 k2))) rfl (ite_f (by decide) (wp_seq_nil (wp_nil ?_))))
      exact ⟨hy2, _, _, _, rfl⟩
  · intro d hd'
    unfold rangeD at hd'
    obtain ⟨i, hi, rfl⟩ := List.mem_map.mp hd'
    have := List.mem_range.mp hi
    exact ⟨i, by rw [Int.zero_add], by omega⟩
  · exact ⟨rfl, by decide⟩
end
theorem all_mk {l : PySem.W.OpenLaw} {w : World} {K : PySem.W.Frag} {h : Heap} {mg : Str → Option Value} {fa : Addr} (X : K.In h) (G : h.Ns mainGlobals mg) (hfa : mg "law" = some (.ref fa))
    {ac_Machine : Addr} (y_Machine : PySem.W.nsIn K mainGlobals "Machine" = some (some (.ref ac_Machine))) (pg_Machine : PySem.W.plainGet K ac_Machine Str.empty = true) (cd_Machine : PySem.W.hasDictIn K ac_Machine = true) (po_Machine : PySem.W.plainOver K ac_Machine = true) (sa_Machine : PySem.W.findIn K (.ref ac_Machine) "__setattr__" = some (some (.builtin "object.__setattr__")))
    (mi_Machine : PySem.W.makesIn K ac_Machine = true) (kc_Machine : PySem.W.keepIn K (.ref ac_Machine) = true)
    (na_Machine_answered : PySem.W.findIn K (.ref ac_Machine) "answered" = some none)
    (na_Machine_answers : PySem.W.findIn K (.ref ac_Machine) "answers" = some none)
    (na_Machine_askings : PySem.W.findIn K (.ref ac_Machine) "askings" = some none)
    (na_Machine_at : PySem.W.findIn K (.ref ac_Machine) "at" = some none)
    (na_Machine_box_values : PySem.W.findIn K (.ref ac_Machine) "box_values" = some none)
    (na_Machine_cells : PySem.W.findIn K (.ref ac_Machine) "cells" = some none)
    (na_Machine_ending : PySem.W.findIn K (.ref ac_Machine) "ending" = some none)
    (na_Machine_history : PySem.W.findIn K (.ref ac_Machine) "history" = some none)
    (na_Machine_lent_rooms : PySem.W.findIn K (.ref ac_Machine) "lent_rooms" = some none)
    (na_Machine_machine : PySem.W.findIn K (.ref ac_Machine) "machine" = some none)
    (na_Machine_pile_values : PySem.W.findIn K (.ref ac_Machine) "pile_values" = some none)
    (na_Machine_rooms : PySem.W.findIn K (.ref ac_Machine) "rooms" = some none)
    (na_Machine_rows : PySem.W.findIn K (.ref ac_Machine) "rows" = some none)
    (na_Machine_rows_done : PySem.W.findIn K (.ref ac_Machine) "rows_done" = some none)
    (na_Machine_terms : PySem.W.findIn K (.ref ac_Machine) "terms" = some none)
    (na_Machine_written : PySem.W.findIn K (.ref ac_Machine) "written" = some none)
    {ac_Runner : Addr} (y_Runner : PySem.W.nsIn K mainGlobals "Runner" = some (some (.ref ac_Runner))) (pg_Runner : PySem.W.plainGet K ac_Runner Str.empty = true) (cd_Runner : PySem.W.hasDictIn K ac_Runner = true) (po_Runner : PySem.W.plainOver K ac_Runner = true) (sa_Runner : PySem.W.findIn K (.ref ac_Runner) "__setattr__" = some (some (.builtin "object.__setattr__")))
    (mi_Runner : PySem.W.makesIn K ac_Runner = true) (kc_Runner : PySem.W.keepIn K (.ref ac_Runner) = true)
    (na_Runner_answered : PySem.W.findIn K (.ref ac_Runner) "answered" = some none)
    (na_Runner_answers : PySem.W.findIn K (.ref ac_Runner) "answers" = some none)
    (na_Runner_askings : PySem.W.findIn K (.ref ac_Runner) "askings" = some none)
    (na_Runner_at : PySem.W.findIn K (.ref ac_Runner) "at" = some none)
    (na_Runner_box_values : PySem.W.findIn K (.ref ac_Runner) "box_values" = some none)
    (na_Runner_cells : PySem.W.findIn K (.ref ac_Runner) "cells" = some none)
    (na_Runner_ending : PySem.W.findIn K (.ref ac_Runner) "ending" = some none)
    (na_Runner_history : PySem.W.findIn K (.ref ac_Runner) "history" = some none)
    (na_Runner_lent_rooms : PySem.W.findIn K (.ref ac_Runner) "lent_rooms" = some none)
    (na_Runner_machine : PySem.W.findIn K (.ref ac_Runner) "machine" = some none)
    (na_Runner_pile_values : PySem.W.findIn K (.ref ac_Runner) "pile_values" = some none)
    (na_Runner_rooms : PySem.W.findIn K (.ref ac_Runner) "rooms" = some none)
    (na_Runner_rows : PySem.W.findIn K (.ref ac_Runner) "rows" = some none)
    (na_Runner_rows_done : PySem.W.findIn K (.ref ac_Runner) "rows_done" = some none)
    (na_Runner_terms : PySem.W.findIn K (.ref ac_Runner) "terms" = some none)
    (na_Runner_written : PySem.W.findIn K (.ref ac_Runner) "written" = some none)
    {f0 : Addr} {od0 an0 : Option Addr} {sl0 : Array (Option Value)} {oc0 kV0 dc0 pm0 cd0 ct0 : Value}
    (x0 : PySem.W.nsIn K mainGlobals "greatest" = some (some (.ref f0))) (l0 : K.lookup f0 = some ⟨oc0, od0, .func (PySem.W.fnOf "greatest" "greatest" (defArgs s_greatest) (defBody s_greatest) (defScope s_greatest) .none kV0 dc0 pm0 an0 cd0 ct0), sl0⟩) (c0 : PySem.W.codeIn K cd0 "greatest" = true) (k0 : PySem.W.keepIn K (.ref f0) = true)
    {f1 : Addr} {od1 an1 : Option Addr} {sl1 : Array (Option Value)} {oc1 kV1 dc1 pm1 cd1 ct1 : Value}
    (x1 : PySem.W.nsIn K mainGlobals "is_whole" = some (some (.ref f1))) (l1 : K.lookup f1 = some ⟨oc1, od1, .func (PySem.W.fnOf "is_whole" "is_whole" (defArgs s_is_whole) (defBody s_is_whole) (defScope s_is_whole) .none kV1 dc1 pm1 an1 cd1 ct1), sl1⟩) (c1 : PySem.W.codeIn K cd1 "is_whole" = true) (k1 : PySem.W.keepIn K (.ref f1) = true)
    {f2 : Addr} {od2 an2 : Option Addr} {sl2 : Array (Option Value)} {oc2  dc2 pm2 cd2 ct2 : Value} {D2 : Addr} {tk2_0 : Tok}
    (x2 : PySem.W.nsIn K mainGlobals "is_worth" = some (some (.ref f2))) (l2 : K.lookup f2 = some ⟨oc2, od2, .func (PySem.W.fnOf "is_worth" "is_worth" (defArgs s_is_worth) (defBody s_is_worth) (defScope s_is_worth) .none (.ref D2) dc2 pm2 an2 cd2 ct2), sl2⟩) (c2 : PySem.W.codeIn K cd2 "is_worth" = true) (k2 : PySem.W.keepIn K (.ref f2) = true)
    (w2_0 : PySem.W.nsIn K D2 "wide" = some (some (.int 16 tk2_0)))
    {f3 : Addr} {od3 an3 : Option Addr} {sl3 : Array (Option Value)} {oc3 kV3 dc3 pm3 cd3 ct3 : Value}
    (x3 : PySem.W.nsIn K mainGlobals "is_among" = some (some (.ref f3))) (l3 : K.lookup f3 = some ⟨oc3, od3, .func (PySem.W.fnOf "is_among" "is_among" (defArgs s_is_among) (defBody s_is_among) (defScope s_is_among) .none kV3 dc3 pm3 an3 cd3 ct3), sl3⟩) (c3 : PySem.W.codeIn K cd3 "is_among" = true) (k3 : PySem.W.keepIn K (.ref f3) = true)
    {f4 : Addr} {od4 an4 : Option Addr} {sl4 : Array (Option Value)} {oc4  dc4 pm4 cd4 ct4 : Value} {D4 : Addr} {tk4_0 : Tok}
    (x4 : PySem.W.nsIn K mainGlobals "signed" = some (some (.ref f4))) (l4 : K.lookup f4 = some ⟨oc4, od4, .func (PySem.W.fnOf "signed" "signed" (defArgs s_signed) (defBody s_signed) (defScope s_signed) .none (.ref D4) dc4 pm4 an4 cd4 ct4), sl4⟩) (c4 : PySem.W.codeIn K cd4 "signed" = true) (k4 : PySem.W.keepIn K (.ref f4) = true)
    (w4_0 : PySem.W.nsIn K D4 "wide" = some (some (.int 16 tk4_0)))
    {f5 : Addr} {od5 an5 : Option Addr} {sl5 : Array (Option Value)} {oc5 kV5 dc5 pm5 cd5 ct5 : Value}
    (x5 : PySem.W.nsIn K mainGlobals "moved_left" = some (some (.ref f5))) (l5 : K.lookup f5 = some ⟨oc5, od5, .func (PySem.W.fnOf "moved_left" "moved_left" (defArgs s_moved_left) (defBody s_moved_left) (defScope s_moved_left) .none kV5 dc5 pm5 an5 cd5 ct5), sl5⟩) (c5 : PySem.W.codeIn K cd5 "moved_left" = true) (k5 : PySem.W.keepIn K (.ref f5) = true)
    {f6 : Addr} {od6 an6 : Option Addr} {sl6 : Array (Option Value)} {oc6 kV6 dc6 pm6 cd6 ct6 : Value}
    (x6 : PySem.W.nsIn K mainGlobals "moved_right" = some (some (.ref f6))) (l6 : K.lookup f6 = some ⟨oc6, od6, .func (PySem.W.fnOf "moved_right" "moved_right" (defArgs s_moved_right) (defBody s_moved_right) (defScope s_moved_right) .none kV6 dc6 pm6 an6 cd6 ct6), sl6⟩) (c6 : PySem.W.codeIn K cd6 "moved_right" = true) (k6 : PySem.W.keepIn K (.ref f6) = true)
    {f7 : Addr} {od7 an7 : Option Addr} {sl7 : Array (Option Value)} {oc7  dc7 pm7 cd7 ct7 : Value} {D7 : Addr} {tk7_0 : Tok}
    (x7 : PySem.W.nsIn K mainGlobals "done" = some (some (.ref f7))) (l7 : K.lookup f7 = some ⟨oc7, od7, .func (PySem.W.fnOf "done" "done" (defArgs s_done) (defBody s_done) (defScope s_done) .none (.ref D7) dc7 pm7 an7 cd7 ct7), sl7⟩) (c7 : PySem.W.codeIn K cd7 "done" = true) (k7 : PySem.W.keepIn K (.ref f7) = true)
    (w7_0 : PySem.W.nsIn K D7 "wide" = some (some (.int 16 tk7_0)))
    {f8 : Addr} {od8 an8 : Option Addr} {sl8 : Array (Option Value)} {oc8  dc8 pm8 cd8 ct8 : Value} {D8 : Addr} {tk8_0 : Tok}
    (x8 : PySem.W.nsIn K mainGlobals "asked" = some (some (.ref f8))) (l8 : K.lookup f8 = some ⟨oc8, od8, .func (PySem.W.fnOf "asked" "asked" (defArgs s_asked) (defBody s_asked) (defScope s_asked) .none (.ref D8) dc8 pm8 an8 cd8 ct8), sl8⟩) (c8 : PySem.W.codeIn K cd8 "asked" = true) (k8 : PySem.W.keepIn K (.ref f8) = true)
    (w8_0 : PySem.W.nsIn K D8 "wide" = some (some (.int 16 tk8_0)))
    {f9 : Addr} {od9 an9 : Option Addr} {sl9 : Array (Option Value)} {oc9 kV9 dc9 pm9 cd9 ct9 : Value}
    (x9 : PySem.W.nsIn K mainGlobals "contrary" = some (some (.ref f9))) (l9 : K.lookup f9 = some ⟨oc9, od9, .func (PySem.W.fnOf "contrary" "contrary" (defArgs s_contrary) (defBody s_contrary) (defScope s_contrary) .none kV9 dc9 pm9 an9 cd9 ct9), sl9⟩) (c9 : PySem.W.codeIn K cd9 "contrary" = true) (k9 : PySem.W.keepIn K (.ref f9) = true)
    {f10 : Addr} {od10 an10 : Option Addr} {sl10 : Array (Option Value)} {oc10 kV10 dc10 pm10 cd10 ct10 : Value}
    (x10 : PySem.W.nsIn K mainGlobals "call_of" = some (some (.ref f10))) (l10 : K.lookup f10 = some ⟨oc10, od10, .func (PySem.W.fnOf "call_of" "call_of" (defArgs s_call_of) (defBody s_call_of) (defScope s_call_of) .none kV10 dc10 pm10 an10 cd10 ct10), sl10⟩) (c10 : PySem.W.codeIn K cd10 "call_of" = true) (k10 : PySem.W.keepIn K (.ref f10) = true)
    {f11 : Addr} {od11 an11 : Option Addr} {sl11 : Array (Option Value)} {oc11 kV11 dc11 pm11 cd11 ct11 : Value}
    (x11 : PySem.W.nsIn K mainGlobals "are_worths" = some (some (.ref f11))) (l11 : K.lookup f11 = some ⟨oc11, od11, .func (PySem.W.fnOf "are_worths" "are_worths" (defArgs s_are_worths) (defBody s_are_worths) (defScope s_are_worths) .none kV11 dc11 pm11 an11 cd11 ct11), sl11⟩) (c11 : PySem.W.codeIn K cd11 "are_worths" = true) (k11 : PySem.W.keepIn K (.ref f11) = true)
    {f12 : Addr} {od12 an12 : Option Addr} {sl12 : Array (Option Value)} {oc12 kV12 dc12 pm12 cd12 ct12 : Value}
    (x12 : PySem.W.nsIn K mainGlobals "is_room" = some (some (.ref f12))) (l12 : K.lookup f12 = some ⟨oc12, od12, .func (PySem.W.fnOf "is_room" "is_room" (defArgs s_is_room) (defBody s_is_room) (defScope s_is_room) .none kV12 dc12 pm12 an12 cd12 ct12), sl12⟩) (c12 : PySem.W.codeIn K cd12 "is_room" = true) (k12 : PySem.W.keepIn K (.ref f12) = true)
    {f13 : Addr} {od13 an13 : Option Addr} {sl13 : Array (Option Value)} {oc13 kV13 dc13 pm13 cd13 ct13 : Value}
    (x13 : PySem.W.nsIn K mainGlobals "are_rooms" = some (some (.ref f13))) (l13 : K.lookup f13 = some ⟨oc13, od13, .func (PySem.W.fnOf "are_rooms" "are_rooms" (defArgs s_are_rooms) (defBody s_are_rooms) (defScope s_are_rooms) .none kV13 dc13 pm13 an13 cd13 ct13), sl13⟩) (c13 : PySem.W.codeIn K cd13 "are_rooms" = true) (k13 : PySem.W.keepIn K (.ref f13) = true)
    {f14 : Addr} {od14 an14 : Option Addr} {sl14 : Array (Option Value)} {oc14 kV14 dc14 pm14 cd14 ct14 : Value}
    (x14 : PySem.W.nsIn K mainGlobals "are_shelves" = some (some (.ref f14))) (l14 : K.lookup f14 = some ⟨oc14, od14, .func (PySem.W.fnOf "are_shelves" "are_shelves" (defArgs s_are_shelves) (defBody s_are_shelves) (defScope s_are_shelves) .none kV14 dc14 pm14 an14 cd14 ct14), sl14⟩) (c14 : PySem.W.codeIn K cd14 "are_shelves" = true) (k14 : PySem.W.keepIn K (.ref f14) = true)
    {f15 : Addr} {od15 an15 : Option Addr} {sl15 : Array (Option Value)} {oc15 kV15 dc15 pm15 cd15 ct15 : Value}
    (x15 : PySem.W.nsIn K mainGlobals "look_at_inputs" = some (some (.ref f15))) (l15 : K.lookup f15 = some ⟨oc15, od15, .func (PySem.W.fnOf "look_at_inputs" "look_at_inputs" (defArgs s_look_at_inputs) (defBody s_look_at_inputs) (defScope s_look_at_inputs) .none kV15 dc15 pm15 an15 cd15 ct15), sl15⟩) (c15 : PySem.W.codeIn K cd15 "look_at_inputs" = true) (k15 : PySem.W.keepIn K (.ref f15) = true)
    {f16 : Addr} {od16 an16 : Option Addr} {sl16 : Array (Option Value)} {oc16 kV16 dc16 pm16 cd16 ct16 : Value}
    (x16 : PySem.W.nsIn K mainGlobals "copied_shelves" = some (some (.ref f16))) (l16 : K.lookup f16 = some ⟨oc16, od16, .func (PySem.W.fnOf "copied_shelves" "copied_shelves" (defArgs s_copied_shelves) (defBody s_copied_shelves) (defScope s_copied_shelves) .none kV16 dc16 pm16 an16 cd16 ct16), sl16⟩) (c16 : PySem.W.codeIn K cd16 "copied_shelves" = true) (k16 : PySem.W.keepIn K (.ref f16) = true)
    {f17 : Addr} {od17 an17 : Option Addr} {sl17 : Array (Option Value)} {oc17 kV17 dc17 pm17 cd17 ct17 : Value}
    (x17 : PySem.W.nsIn K mainGlobals "bare_shelves" = some (some (.ref f17))) (l17 : K.lookup f17 = some ⟨oc17, od17, .func (PySem.W.fnOf "bare_shelves" "bare_shelves" (defArgs s_bare_shelves) (defBody s_bare_shelves) (defScope s_bare_shelves) .none kV17 dc17 pm17 an17 cd17 ct17), sl17⟩) (c17 : PySem.W.codeIn K cd17 "bare_shelves" = true) (k17 : PySem.W.keepIn K (.ref f17) = true)
    {f18 : Addr} {od18 an18 : Option Addr} {sl18 : Array (Option Value)} {oc18 kV18 dc18 pm18 cd18 ct18 : Value}
    (x18 : PySem.W.nsIn K mainGlobals "moment_of" = some (some (.ref f18))) (l18 : K.lookup f18 = some ⟨oc18, od18, .func (PySem.W.fnOf "moment_of" "moment_of" (defArgs s_moment_of) (defBody s_moment_of) (defScope s_moment_of) .none kV18 dc18 pm18 an18 cd18 ct18), sl18⟩) (c18 : PySem.W.codeIn K cd18 "moment_of" = true) (k18 : PySem.W.keepIn K (.ref f18) = true)
    {f19 : Addr} {od19 an19 : Option Addr} {sl19 : Array (Option Value)} {oc19 kV19 dc19 pm19 cd19 ct19 : Value}
    (x19 : PySem.W.nsIn K mainGlobals "told_end" = some (some (.ref f19))) (l19 : K.lookup f19 = some ⟨oc19, od19, .func (PySem.W.fnOf "told_end" "told_end" (defArgs s_told_end) (defBody s_told_end) (defScope s_told_end) .none kV19 dc19 pm19 an19 cd19 ct19), sl19⟩) (c19 : PySem.W.codeIn K cd19 "told_end" = true) (k19 : PySem.W.keepIn K (.ref f19) = true)
    {f20 : Addr} {od20 an20 : Option Addr} {sl20 : Array (Option Value)} {oc20 kV20 dc20 pm20 cd20 ct20 : Value}
    (x20 : PySem.W.nsIn K mainGlobals "by_value" = some (some (.ref f20))) (l20 : K.lookup f20 = some ⟨oc20, od20, .func (PySem.W.fnOf "by_value" "by_value" (defArgs s_by_value) (defBody s_by_value) (defScope s_by_value) .none kV20 dc20 pm20 an20 cd20 ct20), sl20⟩) (c20 : PySem.W.codeIn K cd20 "by_value" = true) (k20 : PySem.W.keepIn K (.ref f20) = true)
    {f21 : Addr} {od21 an21 : Option Addr} {sl21 : Array (Option Value)} {oc21 kV21 dc21 pm21 cd21 ct21 : Value}
    (x21 : PySem.W.nsIn K mainGlobals "put_box" = some (some (.ref f21))) (l21 : K.lookup f21 = some ⟨oc21, od21, .func (PySem.W.fnOf "put_box" "put_box" (defArgs s_put_box) (defBody s_put_box) (defScope s_put_box) .none kV21 dc21 pm21 an21 cd21 ct21), sl21⟩) (c21 : PySem.W.codeIn K cd21 "put_box" = true) (k21 : PySem.W.keepIn K (.ref f21) = true)
    {f22 : Addr} {od22 an22 : Option Addr} {sl22 : Array (Option Value)} {oc22 kV22 dc22 pm22 cd22 ct22 : Value}
    (x22 : PySem.W.nsIn K mainGlobals "moved" = some (some (.ref f22))) (l22 : K.lookup f22 = some ⟨oc22, od22, .func (PySem.W.fnOf "moved" "moved" (defArgs s_moved) (defBody s_moved) (defScope s_moved) .none kV22 dc22 pm22 an22 cd22 ct22), sl22⟩) (c22 : PySem.W.codeIn K cd22 "moved" = true) (k22 : PySem.W.keepIn K (.ref f22) = true)
    {f23 : Addr} {od23 an23 : Option Addr} {sl23 : Array (Option Value)} {oc23 kV23 dc23 pm23 cd23 ct23 : Value}
    (x23 : PySem.W.nsIn K mainGlobals "room_of" = some (some (.ref f23))) (l23 : K.lookup f23 = some ⟨oc23, od23, .func (PySem.W.fnOf "room_of" "room_of" (defArgs s_room_of) (defBody s_room_of) (defScope s_room_of) .none kV23 dc23 pm23 an23 cd23 ct23), sl23⟩) (c23 : PySem.W.codeIn K cd23 "room_of" = true) (k23 : PySem.W.keepIn K (.ref f23) = true)
    {f24 : Addr} {od24 an24 : Option Addr} {sl24 : Array (Option Value)} {oc24 kV24 dc24 pm24 cd24 ct24 : Value}
    (x24 : PySem.W.nsIn K mainGlobals "size_of" = some (some (.ref f24))) (l24 : K.lookup f24 = some ⟨oc24, od24, .func (PySem.W.fnOf "size_of" "size_of" (defArgs s_size_of) (defBody s_size_of) (defScope s_size_of) .none kV24 dc24 pm24 an24 cd24 ct24), sl24⟩) (c24 : PySem.W.codeIn K cd24 "size_of" = true) (k24 : PySem.W.keepIn K (.ref f24) = true)
    {f25 : Addr} {od25 an25 : Option Addr} {sl25 : Array (Option Value)} {oc25 kV25 dc25 pm25 cd25 ct25 : Value}
    (x25 : PySem.W.nsIn K mainGlobals "cell_value" = some (some (.ref f25))) (l25 : K.lookup f25 = some ⟨oc25, od25, .func (PySem.W.fnOf "cell_value" "cell_value" (defArgs s_cell_value) (defBody s_cell_value) (defScope s_cell_value) .none kV25 dc25 pm25 an25 cd25 ct25), sl25⟩) (c25 : PySem.W.codeIn K cd25 "cell_value" = true) (k25 : PySem.W.keepIn K (.ref f25) = true)
    {f26 : Addr} {od26 an26 : Option Addr} {sl26 : Array (Option Value)} {oc26 kV26 dc26 pm26 cd26 ct26 : Value}
    (x26 : PySem.W.nsIn K mainGlobals "put_cell" = some (some (.ref f26))) (l26 : K.lookup f26 = some ⟨oc26, od26, .func (PySem.W.fnOf "put_cell" "put_cell" (defArgs s_put_cell) (defBody s_put_cell) (defScope s_put_cell) .none kV26 dc26 pm26 an26 cd26 ct26), sl26⟩) (c26 : PySem.W.codeIn K cd26 "put_cell" = true) (k26 : PySem.W.keepIn K (.ref f26) = true)
    {f27 : Addr} {od27 an27 : Option Addr} {sl27 : Array (Option Value)} {oc27 kV27 dc27 pm27 cd27 ct27 : Value}
    (x27 : PySem.W.nsIn K mainGlobals "do_move" = some (some (.ref f27))) (l27 : K.lookup f27 = some ⟨oc27, od27, .func (PySem.W.fnOf "do_move" "do_move" (defArgs s_do_move) (defBody s_do_move) (defScope s_do_move) .none kV27 dc27 pm27 an27 cd27 ct27), sl27⟩) (c27 : PySem.W.codeIn K cd27 "do_move" = true) (k27 : PySem.W.keepIn K (.ref f27) = true)
    {f28 : Addr} {od28 an28 : Option Addr} {sl28 : Array (Option Value)} {oc28 kV28 dc28 pm28 cd28 ct28 : Value}
    (x28 : PySem.W.nsIn K mainGlobals "deed_value" = some (some (.ref f28))) (l28 : K.lookup f28 = some ⟨oc28, od28, .func (PySem.W.fnOf "deed_value" "deed_value" (defArgs s_deed_value) (defBody s_deed_value) (defScope s_deed_value) .none kV28 dc28 pm28 an28 cd28 ct28), sl28⟩) (c28 : PySem.W.codeIn K cd28 "deed_value" = true) (k28 : PySem.W.keepIn K (.ref f28) = true)
    {f29 : Addr} {od29 an29 : Option Addr} {sl29 : Array (Option Value)} {oc29 kV29 dc29 pm29 cd29 ct29 : Value}
    (x29 : PySem.W.nsIn K mainGlobals "do_deed" = some (some (.ref f29))) (l29 : K.lookup f29 = some ⟨oc29, od29, .func (PySem.W.fnOf "do_deed" "do_deed" (defArgs s_do_deed) (defBody s_do_deed) (defScope s_do_deed) .none kV29 dc29 pm29 an29 cd29 ct29), sl29⟩) (c29 : PySem.W.codeIn K cd29 "do_deed" = true) (k29 : PySem.W.keepIn K (.ref f29) = true)
    {f30 : Addr} {od30 an30 : Option Addr} {sl30 : Array (Option Value)} {oc30 kV30 dc30 pm30 cd30 ct30 : Value}
    (x30 : PySem.W.nsIn K mainGlobals "ask_answer" = some (some (.ref f30))) (l30 : K.lookup f30 = some ⟨oc30, od30, .func (PySem.W.fnOf "ask_answer" "ask_answer" (defArgs s_ask_answer) (defBody s_ask_answer) (defScope s_ask_answer) .none kV30 dc30 pm30 an30 cd30 ct30), sl30⟩) (c30 : PySem.W.codeIn K cd30 "ask_answer" = true) (k30 : PySem.W.keepIn K (.ref f30) = true)
    {f31 : Addr} {od31 an31 : Option Addr} {sl31 : Array (Option Value)} {oc31 kV31 dc31 pm31 cd31 ct31 : Value}
    (x31 : PySem.W.nsIn K mainGlobals "do_jump" = some (some (.ref f31))) (l31 : K.lookup f31 = some ⟨oc31, od31, .func (PySem.W.fnOf "do_jump" "do_jump" (defArgs s_do_jump) (defBody s_do_jump) (defScope s_do_jump) .none kV31 dc31 pm31 an31 cd31 ct31), sl31⟩) (c31 : PySem.W.codeIn K cd31 "do_jump" = true) (k31 : PySem.W.keepIn K (.ref f31) = true)
    {f32 : Addr} {od32 an32 : Option Addr} {sl32 : Array (Option Value)} {oc32 kV32 dc32 pm32 cd32 ct32 : Value}
    (x32 : PySem.W.nsIn K mainGlobals "do_load" = some (some (.ref f32))) (l32 : K.lookup f32 = some ⟨oc32, od32, .func (PySem.W.fnOf "do_load" "do_load" (defArgs s_do_load) (defBody s_do_load) (defScope s_do_load) .none kV32 dc32 pm32 an32 cd32 ct32), sl32⟩) (c32 : PySem.W.codeIn K cd32 "do_load" = true) (k32 : PySem.W.keepIn K (.ref f32) = true)
    {f33 : Addr} {od33 an33 : Option Addr} {sl33 : Array (Option Value)} {oc33 kV33 dc33 pm33 cd33 ct33 : Value}
    (x33 : PySem.W.nsIn K mainGlobals "do_store" = some (some (.ref f33))) (l33 : K.lookup f33 = some ⟨oc33, od33, .func (PySem.W.fnOf "do_store" "do_store" (defArgs s_do_store) (defBody s_do_store) (defScope s_do_store) .none kV33 dc33 pm33 an33 cd33 ct33), sl33⟩) (c33 : PySem.W.codeIn K cd33 "do_store" = true) (k33 : PySem.W.keepIn K (.ref f33) = true)
    {f34 : Addr} {od34 an34 : Option Addr} {sl34 : Array (Option Value)} {oc34 kV34 dc34 pm34 cd34 ct34 : Value}
    (x34 : PySem.W.nsIn K mainGlobals "has_numbers" = some (some (.ref f34))) (l34 : K.lookup f34 = some ⟨oc34, od34, .func (PySem.W.fnOf "has_numbers" "has_numbers" (defArgs s_has_numbers) (defBody s_has_numbers) (defScope s_has_numbers) .none kV34 dc34 pm34 an34 cd34 ct34), sl34⟩) (c34 : PySem.W.codeIn K cd34 "has_numbers" = true) (k34 : PySem.W.keepIn K (.ref f34) = true)
    {f35 : Addr} {od35 an35 : Option Addr} {sl35 : Array (Option Value)} {oc35 kV35 dc35 pm35 cd35 ct35 : Value}
    (x35 : PySem.W.nsIn K mainGlobals "is_good_take" = some (some (.ref f35))) (l35 : K.lookup f35 = some ⟨oc35, od35, .func (PySem.W.fnOf "is_good_take" "is_good_take" (defArgs s_is_good_take) (defBody s_is_good_take) (defScope s_is_good_take) .none kV35 dc35 pm35 an35 cd35 ct35), sl35⟩) (c35 : PySem.W.codeIn K cd35 "is_good_take" = true) (k35 : PySem.W.keepIn K (.ref f35) = true)
    {f36 : Addr} {od36 an36 : Option Addr} {sl36 : Array (Option Value)} {oc36 kV36 dc36 pm36 cd36 ct36 : Value}
    (x36 : PySem.W.nsIn K mainGlobals "next_answer" = some (some (.ref f36))) (l36 : K.lookup f36 = some ⟨oc36, od36, .func (PySem.W.fnOf "next_answer" "next_answer" (defArgs s_next_answer) (defBody s_next_answer) (defScope s_next_answer) .none kV36 dc36 pm36 an36 cd36 ct36), sl36⟩) (c36 : PySem.W.codeIn K cd36 "next_answer" = true) (k36 : PySem.W.keepIn K (.ref f36) = true)
    {f37 : Addr} {od37 an37 : Option Addr} {sl37 : Array (Option Value)} {oc37 kV37 dc37 pm37 cd37 ct37 : Value}
    (x37 : PySem.W.nsIn K mainGlobals "lent_value" = some (some (.ref f37))) (l37 : K.lookup f37 = some ⟨oc37, od37, .func (PySem.W.fnOf "lent_value" "lent_value" (defArgs s_lent_value) (defBody s_lent_value) (defScope s_lent_value) .none kV37 dc37 pm37 an37 cd37 ct37), sl37⟩) (c37 : PySem.W.codeIn K cd37 "lent_value" = true) (k37 : PySem.W.keepIn K (.ref f37) = true)
    {f38 : Addr} {od38 an38 : Option Addr} {sl38 : Array (Option Value)} {oc38 kV38 dc38 pm38 cd38 ct38 : Value}
    (x38 : PySem.W.nsIn K mainGlobals "forget_asking" = some (some (.ref f38))) (l38 : K.lookup f38 = some ⟨oc38, od38, .func (PySem.W.fnOf "forget_asking" "forget_asking" (defArgs s_forget_asking) (defBody s_forget_asking) (defScope s_forget_asking) .none kV38 dc38 pm38 an38 cd38 ct38), sl38⟩) (c38 : PySem.W.codeIn K cd38 "forget_asking" = true) (k38 : PySem.W.keepIn K (.ref f38) = true)
    {f39 : Addr} {od39 an39 : Option Addr} {sl39 : Array (Option Value)} {oc39 kV39 dc39 pm39 cd39 ct39 : Value}
    (x39 : PySem.W.nsIn K mainGlobals "without_asking" = some (some (.ref f39))) (l39 : K.lookup f39 = some ⟨oc39, od39, .func (PySem.W.fnOf "without_asking" "without_asking" (defArgs s_without_asking) (defBody s_without_asking) (defScope s_without_asking) .none kV39 dc39 pm39 an39 cd39 ct39), sl39⟩) (c39 : PySem.W.codeIn K cd39 "without_asking" = true) (k39 : PySem.W.keepIn K (.ref f39) = true)
    {f40 : Addr} {od40 an40 : Option Addr} {sl40 : Array (Option Value)} {oc40 kV40 dc40 pm40 cd40 ct40 : Value}
    (x40 : PySem.W.nsIn K mainGlobals "given_value" = some (some (.ref f40))) (l40 : K.lookup f40 = some ⟨oc40, od40, .func (PySem.W.fnOf "given_value" "given_value" (defArgs s_given_value) (defBody s_given_value) (defScope s_given_value) .none kV40 dc40 pm40 an40 cd40 ct40), sl40⟩) (c40 : PySem.W.codeIn K cd40 "given_value" = true) (k40 : PySem.W.keepIn K (.ref f40) = true)
    {f41 : Addr} {od41 an41 : Option Addr} {sl41 : Array (Option Value)} {oc41 kV41 dc41 pm41 cd41 ct41 : Value}
    (x41 : PySem.W.nsIn K mainGlobals "do_call" = some (some (.ref f41))) (l41 : K.lookup f41 = some ⟨oc41, od41, .func (PySem.W.fnOf "do_call" "do_call" (defArgs s_do_call) (defBody s_do_call) (defScope s_do_call) .none kV41 dc41 pm41 an41 cd41 ct41), sl41⟩) (c41 : PySem.W.codeIn K cd41 "do_call" = true) (k41 : PySem.W.keepIn K (.ref f41) = true)
    {f42 : Addr} {od42 an42 : Option Addr} {sl42 : Array (Option Value)} {oc42 kV42 dc42 pm42 cd42 ct42 : Value}
    (x42 : PySem.W.nsIn K mainGlobals "do_end" = some (some (.ref f42))) (l42 : K.lookup f42 = some ⟨oc42, od42, .func (PySem.W.fnOf "do_end" "do_end" (defArgs s_do_end) (defBody s_do_end) (defScope s_do_end) .none kV42 dc42 pm42 an42 cd42 ct42), sl42⟩) (c42 : PySem.W.codeIn K cd42 "do_end" = true) (k42 : PySem.W.keepIn K (.ref f42) = true)
    {f43 : Addr} {od43 an43 : Option Addr} {sl43 : Array (Option Value)} {oc43 kV43 dc43 pm43 cd43 ct43 : Value}
    (x43 : PySem.W.nsIn K mainGlobals "do_row" = some (some (.ref f43))) (l43 : K.lookup f43 = some ⟨oc43, od43, .func (PySem.W.fnOf "do_row" "do_row" (defArgs s_do_row) (defBody s_do_row) (defScope s_do_row) .none kV43 dc43 pm43 an43 cd43 ct43), sl43⟩) (c43 : PySem.W.codeIn K cd43 "do_row" = true) (k43 : PySem.W.keepIn K (.ref f43) = true)
    {f44 : Addr} {od44 an44 : Option Addr} {sl44 : Array (Option Value)} {oc44 kV44 dc44 pm44 cd44 ct44 : Value}
    (x44 : PySem.W.nsIn K mainGlobals "do_step" = some (some (.ref f44))) (l44 : K.lookup f44 = some ⟨oc44, od44, .func (PySem.W.fnOf "do_step" "do_step" (defArgs s_do_step) (defBody s_do_step) (defScope s_do_step) .none kV44 dc44 pm44 an44 cd44 ct44), sl44⟩) (c44 : PySem.W.codeIn K cd44 "do_step" = true) (k44 : PySem.W.keepIn K (.ref f44) = true)
    {f45 : Addr} {od45 an45 : Option Addr} {sl45 : Array (Option Value)} {oc45  dc45 pm45 cd45 ct45 : Value} {D45 : Addr} {tk45_3 : Tok}
    (x45 : PySem.W.nsIn K mainGlobals "run" = some (some (.ref f45))) (l45 : K.lookup f45 = some ⟨oc45, od45, .func (PySem.W.fnOf "run" "run" (defArgs s_run) (defBody s_run) (defScope s_run) .none (.ref D45) dc45 pm45 an45 cd45 ct45), sl45⟩) (c45 : PySem.W.codeIn K cd45 "run" = true) (k45 : PySem.W.keepIn K (.ref f45) = true)
    {ad_run_given : Addr}
    (w45_0 : PySem.W.nsIn K D45 "given" = some (some (.ref ad_run_given)))
    {o_ad_run_given : Option Addr} {n_ad_run_given : Nat} {s_ad_run_given : Array (Option Value)} (u_ad_run_given : K.lookup ad_run_given = some ⟨.type "tuple", o_ad_run_given, .seq #[] n_ad_run_given, s_ad_run_given⟩)
    (w45_1 : PySem.W.nsIn K D45 "shelves" = some (some (.none)))
    {ad_run_answers : Addr}
    (w45_2 : PySem.W.nsIn K D45 "answers" = some (some (.ref ad_run_answers)))
    {o_ad_run_answers : Option Addr} {n_ad_run_answers : Nat} {s_ad_run_answers : Array (Option Value)} (u_ad_run_answers : K.lookup ad_run_answers = some ⟨.type "tuple", o_ad_run_answers, .seq #[] n_ad_run_answers, s_ad_run_answers⟩)
    (w45_3 : PySem.W.nsIn K D45 "most" = some (some (.int 1000 tk45_3)))
    {f46 : Addr} {od46 an46 : Option Addr} {sl46 : Array (Option Value)} {oc46 kV46 dc46 pm46 cd46 ct46 : Value}
    (x46 : PySem.W.nsIn K mainGlobals "_law_pool" = some (some (.ref f46))) (l46 : K.lookup f46 = some ⟨oc46, od46, .func (PySem.W.fnOf "_law_pool" "_law_pool" (defArgs s_l_pool) (defBody s_l_pool) (defScope s_l_pool) .none kV46 dc46 pm46 an46 cd46 ct46), sl46⟩) (c46 : PySem.W.codeIn K cd46 "_law_pool" = true) (k46 : PySem.W.keepIn K (.ref f46) = true)
    {f47 : Addr} {od47 an47 : Option Addr} {sl47 : Array (Option Value)} {oc47 kV47 dc47 pm47 cd47 ct47 : Value}
    (x47 : PySem.W.nsIn K mainGlobals "_law_take" = some (some (.ref f47))) (l47 : K.lookup f47 = some ⟨oc47, od47, .func (PySem.W.fnOf "_law_take" "_law_take" (defArgs s_l_take) (defBody s_l_take) (defScope s_l_take) .none kV47 dc47 pm47 an47 cd47 ct47), sl47⟩) (c47 : PySem.W.codeIn K cd47 "_law_take" = true) (k47 : PySem.W.keepIn K (.ref f47) = true)
    {f48 : Addr} {od48 an48 : Option Addr} {sl48 : Array (Option Value)} {oc48 kV48 dc48 pm48 cd48 ct48 : Value}
    (x48 : PySem.W.nsIn K mainGlobals "_law_contract" = some (some (.ref f48))) (l48 : K.lookup f48 = some ⟨oc48, od48, .func (PySem.W.fnOf "_law_contract" "_law_contract" (defArgs s_l_contract) (defBody s_l_contract) (defScope s_l_contract) .none kV48 dc48 pm48 an48 cd48 ct48), sl48⟩) (c48 : PySem.W.codeIn K cd48 "_law_contract" = true) (k48 : PySem.W.keepIn K (.ref f48) = true)
    {f49 : Addr} {od49 an49 : Option Addr} {sl49 : Array (Option Value)} {oc49 kV49 dc49 pm49 cd49 ct49 : Value}
    (x49 : PySem.W.nsIn K mainGlobals "_law_plain" = some (some (.ref f49))) (l49 : K.lookup f49 = some ⟨oc49, od49, .func (PySem.W.fnOf "_law_plain" "_law_plain" (defArgs s_l_plain) (defBody s_l_plain) (defScope s_l_plain) .none kV49 dc49 pm49 an49 cd49 ct49), sl49⟩) (c49 : PySem.W.codeIn K cd49 "_law_plain" = true) (k49 : PySem.W.keepIn K (.ref f49) = true)
    {f50 : Addr} {od50 an50 : Option Addr} {sl50 : Array (Option Value)} {oc50 kV50 dc50 pm50 cd50 ct50 : Value}
    (x50 : PySem.W.nsIn K mainGlobals "_law_calls" = some (some (.ref f50))) (l50 : K.lookup f50 = some ⟨oc50, od50, .func (PySem.W.fnOf "_law_calls" "_law_calls" (defArgs s_l_calls) (defBody s_l_calls) (defScope s_l_calls) .none kV50 dc50 pm50 an50 cd50 ct50), sl50⟩) (c50 : PySem.W.codeIn K cd50 "_law_calls" = true) (k50 : PySem.W.keepIn K (.ref f50) = true)
    {f51 : Addr} {od51 an51 : Option Addr} {sl51 : Array (Option Value)} {oc51 kV51 dc51 pm51 cd51 ct51 : Value}
    (x51 : PySem.W.nsIn K mainGlobals "_law_right" = some (some (.ref f51))) (l51 : K.lookup f51 = some ⟨oc51, od51, .func (PySem.W.fnOf "_law_right" "_law_right" (defArgs s_l_right) (defBody s_l_right) (defScope s_l_right) .none kV51 dc51 pm51 an51 cd51 ct51), sl51⟩) (c51 : PySem.W.codeIn K cd51 "_law_right" = true) (k51 : PySem.W.keepIn K (.ref f51) = true)
    {f52 : Addr} {od52 an52 : Option Addr} {sl52 : Array (Option Value)} {oc52 kV52 dc52 pm52 cd52 ct52 : Value}
    (x52 : PySem.W.findIn K (.ref ac_Machine) "__init__" = some (some (.ref f52))) (fn52 : PySem.W.isFn K (.ref f52) = true) (l52 : K.lookup f52 = some ⟨oc52, od52, .func (PySem.W.fnOf "__init__" "Machine.__init__" (defArgs s_Machine___init__) (defBody s_Machine___init__) (defScope s_Machine___init__) .none kV52 dc52 pm52 an52 cd52 ct52), sl52⟩) (c52 : PySem.W.codeIn K cd52 "Machine.__init__" = true) (k52 : PySem.W.keepIn K (.ref f52) = true)
    {f53 : Addr} {od53 an53 : Option Addr} {sl53 : Array (Option Value)} {oc53  dc53 pm53 cd53 ct53 : Value} {D53 : Addr} 
    (x53 : PySem.W.findIn K (.ref ac_Runner) "__init__" = some (some (.ref f53))) (fn53 : PySem.W.isFn K (.ref f53) = true) (l53 : K.lookup f53 = some ⟨oc53, od53, .func (PySem.W.fnOf "__init__" "Runner.__init__" (defArgs s_Runner___init__) (defBody s_Runner___init__) (defScope s_Runner___init__) .none (.ref D53) dc53 pm53 an53 cd53 ct53), sl53⟩) (c53 : PySem.W.codeIn K cd53 "Runner.__init__" = true) (k53 : PySem.W.keepIn K (.ref f53) = true)
    {ad_Runner___init___given : Addr}
    (w53_0 : PySem.W.nsIn K D53 "given" = some (some (.ref ad_Runner___init___given)))
    {o_ad_Runner___init___given : Option Addr} {n_ad_Runner___init___given : Nat} {s_ad_Runner___init___given : Array (Option Value)} (u_ad_Runner___init___given : K.lookup ad_Runner___init___given = some ⟨.type "tuple", o_ad_Runner___init___given, .seq #[] n_ad_Runner___init___given, s_ad_Runner___init___given⟩)
    (w53_1 : PySem.W.nsIn K D53 "shelves" = some (some (.none)))
    {ad_Runner___init___answers : Addr}
    (w53_2 : PySem.W.nsIn K D53 "answers" = some (some (.ref ad_Runner___init___answers)))
    {o_ad_Runner___init___answers : Option Addr} {n_ad_Runner___init___answers : Nat} {s_ad_Runner___init___answers : Array (Option Value)} (u_ad_Runner___init___answers : K.lookup ad_Runner___init___answers = some ⟨.type "tuple", o_ad_Runner___init___answers, .seq #[] n_ad_Runner___init___answers, s_ad_Runner___init___answers⟩)
    {f54 : Addr} {od54 an54 : Option Addr} {sl54 : Array (Option Value)} {oc54 kV54 dc54 pm54 cd54 ct54 : Value}
    (x54 : PySem.W.findIn K (.ref ac_Runner) "step" = some (some (.ref f54))) (fn54 : PySem.W.isFn K (.ref f54) = true) (l54 : K.lookup f54 = some ⟨oc54, od54, .func (PySem.W.fnOf "step" "Runner.step" (defArgs s_Runner_step) (defBody s_Runner_step) (defScope s_Runner_step) .none kV54 dc54 pm54 an54 cd54 ct54), sl54⟩) (c54 : PySem.W.codeIn K cd54 "Runner.step" = true) (k54 : PySem.W.keepIn K (.ref f54) = true)
    {f55 : Addr} {od55 an55 : Option Addr} {sl55 : Array (Option Value)} {oc55 kV55 dc55 pm55 cd55 ct55 : Value}
    (x55 : PySem.W.findIn K (.ref ac_Runner) "told" = some (some (.ref f55))) (fn55 : PySem.W.isFn K (.ref f55) = true) (l55 : K.lookup f55 = some ⟨oc55, od55, .func (PySem.W.fnOf "told" "Runner.told" (defArgs s_Runner_told) (defBody s_Runner_told) (defScope s_Runner_told) .none kV55 dc55 pm55 an55 cd55 ct55), sl55⟩) (c55 : PySem.W.codeIn K cd55 "Runner.told" = true) (k55 : PySem.W.keepIn K (.ref f55) = true)
    {f56 : Addr} {od56 an56 : Option Addr} {sl56 : Array (Option Value)} {oc56 kV56 dc56 pm56 cd56 ct56 : Value}
    (x56 : PySem.W.nsIn K mainGlobals "law" = some (some (.ref f56))) (l56 : K.lookup f56 = some ⟨oc56, od56, .func (PySem.W.fnOf "law" "law" (defArgs s_law) (defBody s_law) (defScope s_law) .none kV56 dc56 pm56 an56 cd56 ct56), sl56⟩) (c56 : PySem.W.codeIn K cd56 "law" = true) (k56 : PySem.W.keepIn K (.ref f56) = true)
    {ac_ASKS : Addr} (y_ASKS : PySem.W.nsIn K mainGlobals "ASKS" = some (some (.ref ac_ASKS)))
    {o_ASKS : Option Addr} {n_ASKS : Nat} {s_ASKS : Array (Option Value)} {k_ASKS_0 k_ASKS_1 k_ASKS_2 k_ASKS_3 k_ASKS_4 k_ASKS_5 k_ASKS_6 k_ASKS_7 k_ASKS_8 k_ASKS_9 k_ASKS_10 k_ASKS_11 : Tok} (u_ASKS : K.lookup ac_ASKS = some ⟨.type "tuple", o_ASKS, .seq #[.str "same" k_ASKS_0, .str "under" k_ASKS_1, .str "upto" k_ASKS_2, .str "below" k_ASKS_3, .str "least" k_ASKS_4, .str "bits" k_ASKS_5, .str "unlike" k_ASKS_6, .str "over" k_ASKS_7, .str "from" k_ASKS_8, .str "above" k_ASKS_9, .str "notbelow" k_ASKS_10, .str "nobits" k_ASKS_11] n_ASKS, s_ASKS⟩)
    {tc_BOXES : Tok} (y_BOXES : PySem.W.nsIn K mainGlobals "BOXES" = some (some (.int 6 tc_BOXES)))
    {ac_CONTRARIES : Addr} (y_CONTRARIES : PySem.W.nsIn K mainGlobals "CONTRARIES" = some (some (.ref ac_CONTRARIES)))
    {ac0_CONTRARIES ac1_CONTRARIES ac2_CONTRARIES ac3_CONTRARIES ac4_CONTRARIES ac5_CONTRARIES : Addr}
    {o_CONTRARIES : Option Addr} {n_CONTRARIES : Nat} {s_CONTRARIES : Array (Option Value)} (u_CONTRARIES : K.lookup ac_CONTRARIES = some ⟨.type "tuple", o_CONTRARIES, .seq #[.ref ac0_CONTRARIES, .ref ac1_CONTRARIES, .ref ac2_CONTRARIES, .ref ac3_CONTRARIES, .ref ac4_CONTRARIES, .ref ac5_CONTRARIES] n_CONTRARIES, s_CONTRARIES⟩)
    {o0_CONTRARIES : Option Addr} {n0_CONTRARIES : Nat} {s0_CONTRARIES : Array (Option Value)} {k0_CONTRARIES_0 k0_CONTRARIES_1 : Tok} (u0_CONTRARIES : K.lookup ac0_CONTRARIES = some ⟨.type "tuple", o0_CONTRARIES, .seq #[.str "same" k0_CONTRARIES_0, .str "unlike" k0_CONTRARIES_1] n0_CONTRARIES, s0_CONTRARIES⟩)
    {o1_CONTRARIES : Option Addr} {n1_CONTRARIES : Nat} {s1_CONTRARIES : Array (Option Value)} {k1_CONTRARIES_0 k1_CONTRARIES_1 : Tok} (u1_CONTRARIES : K.lookup ac1_CONTRARIES = some ⟨.type "tuple", o1_CONTRARIES, .seq #[.str "under" k1_CONTRARIES_0, .str "from" k1_CONTRARIES_1] n1_CONTRARIES, s1_CONTRARIES⟩)
    {o2_CONTRARIES : Option Addr} {n2_CONTRARIES : Nat} {s2_CONTRARIES : Array (Option Value)} {k2_CONTRARIES_0 k2_CONTRARIES_1 : Tok} (u2_CONTRARIES : K.lookup ac2_CONTRARIES = some ⟨.type "tuple", o2_CONTRARIES, .seq #[.str "upto" k2_CONTRARIES_0, .str "over" k2_CONTRARIES_1] n2_CONTRARIES, s2_CONTRARIES⟩)
    {o3_CONTRARIES : Option Addr} {n3_CONTRARIES : Nat} {s3_CONTRARIES : Array (Option Value)} {k3_CONTRARIES_0 k3_CONTRARIES_1 : Tok} (u3_CONTRARIES : K.lookup ac3_CONTRARIES = some ⟨.type "tuple", o3_CONTRARIES, .seq #[.str "below" k3_CONTRARIES_0, .str "notbelow" k3_CONTRARIES_1] n3_CONTRARIES, s3_CONTRARIES⟩)
    {o4_CONTRARIES : Option Addr} {n4_CONTRARIES : Nat} {s4_CONTRARIES : Array (Option Value)} {k4_CONTRARIES_0 k4_CONTRARIES_1 : Tok} (u4_CONTRARIES : K.lookup ac4_CONTRARIES = some ⟨.type "tuple", o4_CONTRARIES, .seq #[.str "least" k4_CONTRARIES_0, .str "above" k4_CONTRARIES_1] n4_CONTRARIES, s4_CONTRARIES⟩)
    {o5_CONTRARIES : Option Addr} {n5_CONTRARIES : Nat} {s5_CONTRARIES : Array (Option Value)} {k5_CONTRARIES_0 k5_CONTRARIES_1 : Tok} (u5_CONTRARIES : K.lookup ac5_CONTRARIES = some ⟨.type "tuple", o5_CONTRARIES, .seq #[.str "bits" k5_CONTRARIES_0, .str "nobits" k5_CONTRARIES_1] n5_CONTRARIES, s5_CONTRARIES⟩)
    {ac_DEEDS : Addr} (y_DEEDS : PySem.W.nsIn K mainGlobals "DEEDS" = some (some (.ref ac_DEEDS)))
    {o_DEEDS : Option Addr} {n_DEEDS : Nat} {s_DEEDS : Array (Option Value)} {k_DEEDS_0 k_DEEDS_1 k_DEEDS_2 k_DEEDS_3 k_DEEDS_4 k_DEEDS_5 k_DEEDS_6 k_DEEDS_7 : Tok} (u_DEEDS : K.lookup ac_DEEDS = some ⟨.type "tuple", o_DEEDS, .seq #[.str "plus" k_DEEDS_0, .str "minus" k_DEEDS_1, .str "times" k_DEEDS_2, .str "and" k_DEEDS_3, .str "or" k_DEEDS_4, .str "either" k_DEEDS_5, .str "left" k_DEEDS_6, .str "right" k_DEEDS_7] n_DEEDS, s_DEEDS⟩)
    {tc_MOST_CELLS : Tok} (y_MOST_CELLS : PySem.W.nsIn K mainGlobals "MOST_CELLS" = some (some (.int 16 tc_MOST_CELLS)))
    {tc_PILE : Tok} (y_PILE : PySem.W.nsIn K mainGlobals "PILE" = some (some (.int 8 tc_PILE)))
    {tc_WIDE : Tok} (y_WIDE : PySem.W.nsIn K mainGlobals "WIDE" = some (some (.int 16 tc_WIDE)))
    (z_abs : PySem.W.nsIn K mainGlobals "abs" = some none)
    (z_all : PySem.W.nsIn K mainGlobals "all" = some none)
    (z_bool : PySem.W.nsIn K mainGlobals "bool" = some none)
    (z_dict : PySem.W.nsIn K mainGlobals "dict" = some none)
    (z_enumerate : PySem.W.nsIn K mainGlobals "enumerate" = some none)
    (z_int : PySem.W.nsIn K mainGlobals "int" = some none)
    (z_isinstance : PySem.W.nsIn K mainGlobals "isinstance" = some none)
    (z_len : PySem.W.nsIn K mainGlobals "len" = some none)
    (z_list : PySem.W.nsIn K mainGlobals "list" = some none)
    (z_max : PySem.W.nsIn K mainGlobals "max" = some none)
    (z_min : PySem.W.nsIn K mainGlobals "min" = some none)
    (z_range : PySem.W.nsIn K mainGlobals "range" = some none)
    (z_str : PySem.W.nsIn K mainGlobals "str" = some none)
    (z_sum : PySem.W.nsIn K mainGlobals "sum" = some none)
    (z_tuple : PySem.W.nsIn K mainGlobals "tuple" = some none)
    {ac_NoCall : Addr} (y_NoCall : PySem.W.nsIn K mainGlobals "NoCall" = some (some (.ref ac_NoCall))) (cb_NoCall : PySem.W.subIn K (.ref ac_NoCall) (.type "BaseException") = some true) (cd_NoCall : PySem.W.hasDictIn K ac_NoCall = true) (ci_NoCall : PySem.W.isClsIn K ac_NoCall = true) (ct_NoCall : PySem.W.typeIn K (.ref ac_NoCall) = some (.type "type"))
    {ac_NoInput : Addr} (y_NoInput : PySem.W.nsIn K mainGlobals "NoInput" = some (some (.ref ac_NoInput))) (cb_NoInput : PySem.W.subIn K (.ref ac_NoInput) (.type "BaseException") = some true) (cd_NoInput : PySem.W.hasDictIn K ac_NoInput = true) (ci_NoInput : PySem.W.isClsIn K ac_NoInput = true) (ct_NoInput : PySem.W.typeIn K (.ref ac_NoInput) = some (.type "type"))
    {ac_NoWord : Addr} (y_NoWord : PySem.W.nsIn K mainGlobals "NoWord" = some (some (.ref ac_NoWord))) (cb_NoWord : PySem.W.subIn K (.ref ac_NoWord) (.type "BaseException") = some true) (cd_NoWord : PySem.W.hasDictIn K ac_NoWord = true) (ci_NoWord : PySem.W.isClsIn K ac_NoWord = true) (ct_NoWord : PySem.W.typeIn K (.ref ac_NoWord) = some (.type "type"))
    (ox_NoCall : PySem.W.excInitIn K ac_NoCall Dl.keyMro "LookupError.__new__" = true) (ov_NoCall : PySem.W.excOver K ac_NoCall Dl.keyMro = true) (sa_NoCall : PySem.W.findIn K (.ref ac_NoCall) "__setattr__" = some (some (.builtin "object.__setattr__"))) (rk_NoCall : PySem.W.keepIn K (.ref ac_NoCall) = true)
    {fi_NoCall : Addr} {odi_NoCall ani_NoCall : Option Addr} {sli_NoCall : Array (Option Value)} {oci_NoCall kvi_NoCall dci_NoCall pmi_NoCall cdi_NoCall cti_NoCall : Value}
    (ic_NoCall : PySem.W.findIn K (.ref ac_NoCall) "__init__" = some (some (.ref fi_NoCall))) (ti_NoCall : PySem.W.typeIn K (.ref fi_NoCall) = some (.type "function")) (li_NoCall : K.lookup fi_NoCall = some ⟨oci_NoCall, odi_NoCall, .func (PySem.W.fnOf "__init__" "NoCall.__init__" (defArgs si_NoCall) (defBody si_NoCall) (defScope si_NoCall) .none kvi_NoCall dci_NoCall pmi_NoCall ani_NoCall cdi_NoCall cti_NoCall), sli_NoCall⟩) (lc_NoCall : PySem.W.codeIn K cdi_NoCall "NoCall.__init__" = true) (lk_NoCall : PySem.W.keepIn K (.ref fi_NoCall) = true)
    (nf_NoCall_name : PySem.W.findIn K (.ref ac_NoCall) "name" = some none)
    (eg_NoCall : PySem.W.findIn K (.ref ac_NoCall) "__getattribute__" = some (some (.builtin "BaseException.__getattribute__"))) (ek_NoCall : PySem.W.findIn K (.ref ac_NoCall) "__getattr__" = some none) (ea_NoCall : PySem.W.findIn K (.ref ac_NoCall) "__class__" = some (some (.builtin "object.__class__"))) (en_NoCall : PySem.W.specialIn K (.builtin "object.__class__") "__get__" = some (some (.builtin "getset_descriptor.__get__"))) (et_NoCall : PySem.W.takesIn K (.builtin "object.__class__") = some true) (em_NoCall : PySem.W.mroIn K ac_NoCall (.type "object") = some true)
    (s_NoCall_NoCall : PySem.W.subIn K (.ref ac_NoCall) (.ref ac_NoCall) = some true)
    (s_NoCall_NoInput : PySem.W.subIn K (.ref ac_NoCall) (.ref ac_NoInput) = some false)
    (s_NoCall_NoWord : PySem.W.subIn K (.ref ac_NoCall) (.ref ac_NoWord) = some false)
    (ox_NoInput : PySem.W.excInitIn K ac_NoInput [.type "ValueError", .type "Exception", .type "BaseException", .type "object"] "ValueError.__new__" = true) (ov_NoInput : PySem.W.excOver K ac_NoInput [.type "ValueError", .type "Exception", .type "BaseException", .type "object"] = true) (sa_NoInput : PySem.W.findIn K (.ref ac_NoInput) "__setattr__" = some (some (.builtin "object.__setattr__"))) (rk_NoInput : PySem.W.keepIn K (.ref ac_NoInput) = true)
    {fi_NoInput : Addr} {odi_NoInput ani_NoInput : Option Addr} {sli_NoInput : Array (Option Value)} {oci_NoInput kvi_NoInput dci_NoInput pmi_NoInput cdi_NoInput cti_NoInput : Value}
    (ic_NoInput : PySem.W.findIn K (.ref ac_NoInput) "__init__" = some (some (.ref fi_NoInput))) (ti_NoInput : PySem.W.typeIn K (.ref fi_NoInput) = some (.type "function")) (li_NoInput : K.lookup fi_NoInput = some ⟨oci_NoInput, odi_NoInput, .func (PySem.W.fnOf "__init__" "NoInput.__init__" (defArgs si_NoInput) (defBody si_NoInput) (defScope si_NoInput) .none kvi_NoInput dci_NoInput pmi_NoInput ani_NoInput cdi_NoInput cti_NoInput), sli_NoInput⟩) (lc_NoInput : PySem.W.codeIn K cdi_NoInput "NoInput.__init__" = true) (lk_NoInput : PySem.W.keepIn K (.ref fi_NoInput) = true)
    (nf_NoInput_part : PySem.W.findIn K (.ref ac_NoInput) "part" = some none)
    (eg_NoInput : PySem.W.findIn K (.ref ac_NoInput) "__getattribute__" = some (some (.builtin "BaseException.__getattribute__"))) (ek_NoInput : PySem.W.findIn K (.ref ac_NoInput) "__getattr__" = some none) (ea_NoInput : PySem.W.findIn K (.ref ac_NoInput) "__class__" = some (some (.builtin "object.__class__"))) (en_NoInput : PySem.W.specialIn K (.builtin "object.__class__") "__get__" = some (some (.builtin "getset_descriptor.__get__"))) (et_NoInput : PySem.W.takesIn K (.builtin "object.__class__") = some true) (em_NoInput : PySem.W.mroIn K ac_NoInput (.type "object") = some true)
    (s_NoInput_NoCall : PySem.W.subIn K (.ref ac_NoInput) (.ref ac_NoCall) = some false)
    (s_NoInput_NoInput : PySem.W.subIn K (.ref ac_NoInput) (.ref ac_NoInput) = some true)
    (s_NoInput_NoWord : PySem.W.subIn K (.ref ac_NoInput) (.ref ac_NoWord) = some false)
    (rx_NoWord : PySem.W.excIn K ac_NoWord [.type "ValueError", .type "Exception", .type "BaseException", .type "object"] "ValueError.__new__" = true) (rk_NoWord : PySem.W.keepIn K (.ref ac_NoWord) = true)
    (eg_NoWord : PySem.W.findIn K (.ref ac_NoWord) "__getattribute__" = some (some (.builtin "BaseException.__getattribute__"))) (ek_NoWord : PySem.W.findIn K (.ref ac_NoWord) "__getattr__" = some none) (ea_NoWord : PySem.W.findIn K (.ref ac_NoWord) "__class__" = some (some (.builtin "object.__class__"))) (en_NoWord : PySem.W.specialIn K (.builtin "object.__class__") "__get__" = some (some (.builtin "getset_descriptor.__get__"))) (et_NoWord : PySem.W.takesIn K (.builtin "object.__class__") = some true) (em_NoWord : PySem.W.mroIn K ac_NoWord (.type "object") = some true)
    (s_NoWord_NoCall : PySem.W.subIn K (.ref ac_NoWord) (.ref ac_NoCall) = some false)
    (s_NoWord_NoInput : PySem.W.subIn K (.ref ac_NoWord) (.ref ac_NoInput) = some false)
    (s_NoWord_NoWord : PySem.W.subIn K (.ref ac_NoWord) (.ref ac_NoWord) = some true)
    : ∃ fd : FuncData, (∀ (s : Shared) (v : Value), BindsTo s fd ⟨[v], []⟩ [("_law_script", v)]) ∧ ∀ base : Heap, K.In base → base.Ns mainGlobals mg → (∀ nm : Str, nm ∈ (["are_worths", "are_rooms", "are_shelves", "look_at_inputs", "has_numbers"] : List Str) → TbOk K base mg nm) → Bg.FnG l.prog w K mg base CX0 16 fa fd ["_law_script"] (spD K F_law) := by
  have e := hfa.symm.trans (PySem.W.mg_of X G x56)
  cases e
  have F0 := fun_mk (st := s_greatest) l0 c0 k0
  have b0 := F0.binds (ps := ["wide"]) fun _ _ _ _ _ _ us hl => match us, hl with | [_], _ => rfl
  have F1 := fun_mk (st := s_is_whole) l1 c1 k1
  have b1 := F1.binds (ps := ["thing"]) fun _ _ _ _ _ _ us hl => match us, hl with | [_], _ => rfl
  have F2 := fun_mk (st := s_is_worth) l2 c2 k2
  have FD2 : FunD K "is_worth" "is_worth" (defArgs s_is_worth) (defBody s_is_worth) (defScope s_is_worth) [] [("wide", .int 16)] f2 _ := ⟨⟨_, _, _, _, _, _, _, _, _, _, rfl, l2, c2, .inl ⟨rfl, rfl⟩, .inr ⟨D2, rfl, fun q hq => by cases hq with | head => exact ⟨_, w2_0, _, rfl⟩ | tail _ z => cases z⟩⟩, k2⟩
  obtain ⟨d2, v2, b2⟩ := FD2.binds0 (ps := ["thing", "wide"]) 1 (fun z => by cases z) rfl (fun D doc pm an cdv ct us ks hu hk => match us, ks, hu, hk with | [_], [_], _, _ => ⟨_, _, _, _, _, _, rfl, rfl, rfl⟩)
  have kb2 := Bg.kbn_all (ps := ["thing", "wide"]) (ks := ["wide"]) (n := 1) F2 fun _ _ _ _ _ _ us ws hu hw => match us, ws, hu, hw with | [_], [_], _, _ => rfl
  have F3 := fun_mk (st := s_is_among) l3 c3 k3
  have b3 := F3.binds (ps := ["word", "words"]) fun _ _ _ _ _ _ us hl => match us, hl with | [_, _], _ => rfl
  have F4 := fun_mk (st := s_signed) l4 c4 k4
  have FD4 : FunD K "signed" "signed" (defArgs s_signed) (defBody s_signed) (defScope s_signed) [] [("wide", .int 16)] f4 _ := ⟨⟨_, _, _, _, _, _, _, _, _, _, rfl, l4, c4, .inl ⟨rfl, rfl⟩, .inr ⟨D4, rfl, fun q hq => by cases hq with | head => exact ⟨_, w4_0, _, rfl⟩ | tail _ z => cases z⟩⟩, k4⟩
  obtain ⟨d4, v4, b4⟩ := FD4.binds0 (ps := ["worth", "wide"]) 1 (fun z => by cases z) rfl (fun D doc pm an cdv ct us ks hu hk => match us, ks, hu, hk with | [_], [_], _, _ => ⟨_, _, _, _, _, _, rfl, rfl, rfl⟩)
  have kb4 := Bg.kbn_all (ps := ["worth", "wide"]) (ks := ["wide"]) (n := 1) F4 fun _ _ _ _ _ _ us ws hu hw => match us, ws, hu, hw with | [_], [_], _, _ => rfl
  have F5 := fun_mk (st := s_moved_left) l5 c5 k5
  have b5 := F5.binds (ps := ["worth", "places", "wide"]) fun _ _ _ _ _ _ us hl => match us, hl with | [_, _, _], _ => rfl
  have F6 := fun_mk (st := s_moved_right) l6 c6 k6
  have b6 := F6.binds (ps := ["worth", "places", "wide"]) fun _ _ _ _ _ _ us hl => match us, hl with | [_, _, _], _ => rfl
  have F7 := fun_mk (st := s_done) l7 c7 k7
  have FD7 : FunD K "done" "done" (defArgs s_done) (defBody s_done) (defScope s_done) [] [("wide", .int 16)] f7 _ := ⟨⟨_, _, _, _, _, _, _, _, _, _, rfl, l7, c7, .inl ⟨rfl, rfl⟩, .inr ⟨D7, rfl, fun q hq => by cases hq with | head => exact ⟨_, w7_0, _, rfl⟩ | tail _ z => cases z⟩⟩, k7⟩
  obtain ⟨d7, v7, b7⟩ := FD7.binds0 (ps := ["word", "one", "other", "wide"]) 3 (fun z => by cases z) rfl (fun D doc pm an cdv ct us ks hu hk => match us, ks, hu, hk with | [_, _, _], [_], _, _ => ⟨_, _, _, _, _, _, rfl, rfl, rfl⟩)
  have kb7 := Bg.kbn_all (ps := ["word", "one", "other", "wide"]) (ks := ["wide"]) (n := 3) F7 fun _ _ _ _ _ _ us ws hu hw => match us, ws, hu, hw with | [_, _, _], [_], _, _ => rfl
  have F8 := fun_mk (st := s_asked) l8 c8 k8
  have FD8 : FunD K "asked" "asked" (defArgs s_asked) (defBody s_asked) (defScope s_asked) [] [("wide", .int 16)] f8 _ := ⟨⟨_, _, _, _, _, _, _, _, _, _, rfl, l8, c8, .inl ⟨rfl, rfl⟩, .inr ⟨D8, rfl, fun q hq => by cases hq with | head => exact ⟨_, w8_0, _, rfl⟩ | tail _ z => cases z⟩⟩, k8⟩
  obtain ⟨d8, v8, b8⟩ := FD8.binds0 (ps := ["word", "one", "other", "wide"]) 3 (fun z => by cases z) rfl (fun D doc pm an cdv ct us ks hu hk => match us, ks, hu, hk with | [_, _, _], [_], _, _ => ⟨_, _, _, _, _, _, rfl, rfl, rfl⟩)
  have kb8 := Bg.kbn_all (ps := ["word", "one", "other", "wide"]) (ks := ["wide"]) (n := 3) F8 fun _ _ _ _ _ _ us ws hu hw => match us, ws, hu, hw with | [_, _, _], [_], _, _ => rfl
  have F9 := fun_mk (st := s_contrary) l9 c9 k9
  have b9 := F9.binds (ps := ["word"]) fun _ _ _ _ _ _ us hl => match us, hl with | [_], _ => rfl
  have F10 := fun_mk (st := s_call_of) l10 c10 k10
  have b10 := F10.binds (ps := ["contract", "name"]) fun _ _ _ _ _ _ us hl => match us, hl with | [_, _], _ => rfl
  have F11 := fun_mk (st := s_are_worths) l11 c11 k11
  have b11 := F11.binds (ps := ["things"]) fun _ _ _ _ _ _ us hl => match us, hl with | [_], _ => rfl
  have F12 := fun_mk (st := s_is_room) l12 c12 k12
  have b12 := F12.binds (ps := ["thing", "size"]) fun _ _ _ _ _ _ us hl => match us, hl with | [_, _], _ => rfl
  have F13 := fun_mk (st := s_are_rooms) l13 c13 k13
  have b13 := F13.binds (ps := ["thing", "size"]) fun _ _ _ _ _ _ us hl => match us, hl with | [_, _], _ => rfl
  have F14 := fun_mk (st := s_are_shelves) l14 c14 k14
  have b14 := F14.binds (ps := ["thing", "contract"]) fun _ _ _ _ _ _ us hl => match us, hl with | [_, _], _ => rfl
  have F15 := fun_mk (st := s_look_at_inputs) l15 c15 k15
  have b15 := F15.binds (ps := ["contract", "given", "shelves", "answers"]) fun _ _ _ _ _ _ us hl => match us, hl with | [_, _, _, _], _ => rfl
  have F16 := fun_mk (st := s_copied_shelves) l16 c16 k16
  have b16 := F16.binds (ps := ["shelves"]) fun _ _ _ _ _ _ us hl => match us, hl with | [_], _ => rfl
  have F17 := fun_mk (st := s_bare_shelves) l17 c17 k17
  have b17 := F17.binds (ps := ["contract"]) fun _ _ _ _ _ _ us hl => match us, hl with | [_], _ => rfl
  have F18 := fun_mk (st := s_moment_of) l18 c18 k18
  have b18 := F18.binds (ps := ["machine"]) fun _ _ _ _ _ _ us hl => match us, hl with | [_], _ => rfl
  have F19 := fun_mk (st := s_told_end) l19 c19 k19
  have b19 := F19.binds (ps := ["machine"]) fun _ _ _ _ _ _ us hl => match us, hl with | [_], _ => rfl
  have F20 := fun_mk (st := s_by_value) l20 c20 k20
  have b20 := F20.binds (ps := ["machine", "by"]) fun _ _ _ _ _ _ us hl => match us, hl with | [_, _], _ => rfl
  have F21 := fun_mk (st := s_put_box) l21 c21 k21
  have b21 := F21.binds (ps := ["machine", "box", "value"]) fun _ _ _ _ _ _ us hl => match us, hl with | [_, _, _], _ => rfl
  have F22 := fun_mk (st := s_moved) l22 c22 k22
  have b22 := F22.binds (ps := ["pointer", "many"]) fun _ _ _ _ _ _ us hl => match us, hl with | [_, _], _ => rfl
  have F23 := fun_mk (st := s_room_of) l23 c23 k23
  have b23 := F23.binds (ps := ["machine", "ask"]) fun _ _ _ _ _ _ us hl => match us, hl with | [_, _], _ => rfl
  have F24 := fun_mk (st := s_size_of) l24 c24 k24
  have b24 := F24.binds (ps := ["machine", "pointer"]) fun _ _ _ _ _ _ us hl => match us, hl with | [_, _], _ => rfl
  have F25 := fun_mk (st := s_cell_value) l25 c25 k25
  have b25 := F25.binds (ps := ["machine", "pointer"]) fun _ _ _ _ _ _ us hl => match us, hl with | [_, _], _ => rfl
  have F26 := fun_mk (st := s_put_cell) l26 c26 k26
  have b26 := F26.binds (ps := ["machine", "pointer", "value"]) fun _ _ _ _ _ _ us hl => match us, hl with | [_, _, _], _ => rfl
  have F27 := fun_mk (st := s_do_move) l27 c27 k27
  have b27 := F27.binds (ps := ["machine", "box", "other"]) fun _ _ _ _ _ _ us hl => match us, hl with | [_, _, _], _ => rfl
  have F28 := fun_mk (st := s_deed_value) l28 c28 k28
  have b28 := F28.binds (ps := ["word", "one", "other"]) fun _ _ _ _ _ _ us hl => match us, hl with | [_, _, _], _ => rfl
  have F29 := fun_mk (st := s_do_deed) l29 c29 k29
  have b29 := F29.binds (ps := ["machine", "word", "box", "by"]) fun _ _ _ _ _ _ us hl => match us, hl with | [_, _, _, _], _ => rfl
  have F30 := fun_mk (st := s_ask_answer) l30 c30 k30
  have b30 := F30.binds (ps := ["word", "one", "other"]) fun _ _ _ _ _ _ us hl => match us, hl with | [_, _, _], _ => rfl
  have F31 := fun_mk (st := s_do_jump) l31 c31 k31
  have b31 := F31.binds (ps := ["machine", "word", "box", "by", "to"]) fun _ _ _ _ _ _ us hl => match us, hl with | [_, _, _, _, _], _ => rfl
  have F32 := fun_mk (st := s_do_load) l32 c32 k32
  have b32 := F32.binds (ps := ["machine", "box", "other", "off"]) fun _ _ _ _ _ _ us hl => match us, hl with | [_, _, _, _], _ => rfl
  have F33 := fun_mk (st := s_do_store) l33 c33 k33
  have b33 := F33.binds (ps := ["machine", "box", "off", "by"]) fun _ _ _ _ _ _ us hl => match us, hl with | [_, _, _, _], _ => rfl
  have F34 := fun_mk (st := s_has_numbers) l34 c34 k34
  have b34 := F34.binds (ps := ["machine", "value", "many"]) fun _ _ _ _ _ _ us hl => match us, hl with | [_, _, _], _ => rfl
  have F35 := fun_mk (st := s_is_good_take) l35 c35 k35
  have b35 := F35.binds (ps := ["machine", "take", "value"]) fun _ _ _ _ _ _ us hl => match us, hl with | [_, _, _], _ => rfl
  have F36 := fun_mk (st := s_next_answer) l36 c36 k36
  have b36 := F36.binds (ps := ["machine"]) fun _ _ _ _ _ _ us hl => match us, hl with | [_], _ => rfl
  have F37 := fun_mk (st := s_lent_value) l37 c37 k37
  have b37 := F37.binds (ps := ["machine", "shelf", "key"]) fun _ _ _ _ _ _ us hl => match us, hl with | [_, _, _], _ => rfl
  have F38 := fun_mk (st := s_forget_asking) l38 c38 k38
  have b38 := F38.binds (ps := ["machine", "ask"]) fun _ _ _ _ _ _ us hl => match us, hl with | [_, _], _ => rfl
  have F39 := fun_mk (st := s_without_asking) l39 c39 k39
  have b39 := F39.binds (ps := ["values", "ask"]) fun _ _ _ _ _ _ us hl => match us, hl with | [_, _], _ => rfl
  have F40 := fun_mk (st := s_given_value) l40 c40 k40
  have b40 := F40.binds (ps := ["machine", "gives"]) fun _ _ _ _ _ _ us hl => match us, hl with | [_, _], _ => rfl
  have F41 := fun_mk (st := s_do_call) l41 c41 k41
  have b41 := F41.binds (ps := ["machine", "name"]) fun _ _ _ _ _ _ us hl => match us, hl with | [_, _], _ => rfl
  have F42 := fun_mk (st := s_do_end) l42 c42 k42
  have b42 := F42.binds (ps := ["machine"]) fun _ _ _ _ _ _ us hl => match us, hl with | [_], _ => rfl
  have F43 := fun_mk (st := s_do_row) l43 c43 k43
  have b43 := F43.binds (ps := ["machine", "row"]) fun _ _ _ _ _ _ us hl => match us, hl with | [_, _], _ => rfl
  have F44 := fun_mk (st := s_do_step) l44 c44 k44
  have b44 := F44.binds (ps := ["machine"]) fun _ _ _ _ _ _ us hl => match us, hl with | [_], _ => rfl
  have F45 := fun_mk (st := s_run) l45 c45 k45
  have FD45 : FunD K "run" "run" (defArgs s_run) (defBody s_run) (defScope s_run) [] [("given", .ref ad_run_given), ("shelves", .non), ("answers", .ref ad_run_answers), ("most", .int 1000)] f45 _ := ⟨⟨_, _, _, _, _, _, _, _, _, _, rfl, l45, c45, .inl ⟨rfl, rfl⟩, .inr ⟨D45, rfl, fun q hq => by rcases List.mem_cons.mp hq with rfl | hq; exact ⟨_, w45_0, rfl⟩; rcases List.mem_cons.mp hq with rfl | hq; exact ⟨_, w45_1, rfl⟩; rcases List.mem_cons.mp hq with rfl | hq; exact ⟨_, w45_2, rfl⟩; cases hq with | head => exact ⟨_, w45_3, _, rfl⟩ | tail _ z => cases z⟩⟩, k45⟩
  obtain ⟨d45, v45, b45⟩ := FD45.binds0 (ps := ["program", "contract", "given", "shelves", "answers", "most"]) 2 (fun z => by cases z) rfl (fun D doc pm an cdv ct us ks hu hk => match us, ks, hu, hk with | [_, _], [_, _, _, _], _, _ => ⟨_, _, _, _, _, _, rfl, rfl, ⟨_, _, _, _, _, _, rfl, rfl, ⟨_, _, _, _, _, _, rfl, rfl, ⟨_, _, _, _, _, _, rfl, rfl, rfl⟩⟩⟩⟩)
  obtain ⟨mv_run_given, mb_run_given⟩ := kbn_some (ps := ["program", "contract", "given", "shelves", "answers", "most"]) FD45 2 ["given"] [("shelves", .non), ("answers", .ref ad_run_answers), ("most", .int 1000)] [false, true, true, true] (fun z => by cases z) (fun q hq => by simp only [List.mem_cons, List.not_mem_nil, or_false] at hq ⊢; first | (subst hq; simp) | (rcases hq with rfl | rfl <;> simp) | (rcases hq with rfl | rfl | rfl <;> simp)) (fun D doc pm an cdv ct us mv ws h1 h2 h3 => match us, mv, ws, h1, h2, h3 with | [_, _], [_, _, _], [_], _, _, _ => ⟨_, _, _, _, _, _, rfl, rfl, ⟨_, _, _, _, _, _, rfl, rfl, ⟨_, _, _, _, _, _, rfl, rfl, rfl⟩⟩⟩)
  obtain ⟨mv_run_most, mb_run_most⟩ := kbn_some (ps := ["program", "contract", "given", "shelves", "answers", "most"]) FD45 2 ["most"] [("given", .ref ad_run_given), ("shelves", .non), ("answers", .ref ad_run_answers)] [true, true, true, false] (fun z => by cases z) (fun q hq => by simp only [List.mem_cons, List.not_mem_nil, or_false] at hq ⊢; first | (subst hq; simp) | (rcases hq with rfl | rfl <;> simp) | (rcases hq with rfl | rfl | rfl <;> simp)) (fun D doc pm an cdv ct us mv ws h1 h2 h3 => match us, mv, ws, h1, h2, h3 with | [_, _], [_, _, _], [_], _, _, _ => ⟨_, _, _, _, _, _, rfl, rfl, ⟨_, _, _, _, _, _, rfl, rfl, ⟨_, _, _, _, _, _, rfl, rfl, rfl⟩⟩⟩)
  have kb45 := Bg.kbn_all (ps := ["program", "contract", "given", "shelves", "answers", "most"]) (ks := ["given", "shelves", "answers", "most"]) (n := 2) F45 fun _ _ _ _ _ _ us ws hu hw => match us, ws, hu, hw with | [_, _], [_, _, _, _], _, _ => rfl
  have F46 := fun_mk (st := s_l_pool) l46 c46 k46
  have b46 := F46.binds (ps := ["_law_script", "_law_k"]) fun _ _ _ _ _ _ us hl => match us, hl with | [_, _], _ => rfl
  have F47 := fun_mk (st := s_l_take) l47 c47 k47
  have b47 := F47.binds (ps := ["_law_pool_here", "_law_many"]) fun _ _ _ _ _ _ us hl => match us, hl with | [_, _], _ => rfl
  have F48 := fun_mk (st := s_l_contract) l48 c48 k48
  have b48 := F48.binds (ps := ["_law_size"]) fun _ _ _ _ _ _ us hl => match us, hl with | [_], _ => rfl
  have F49 := fun_mk (st := s_l_plain) l49 c49 k49
  have b49 := F49.binds (ps := []) fun _ _ _ _ _ _ us hl => match us, hl with | [], _ => rfl
  have F50 := fun_mk (st := s_l_calls) l50 c50 k50
  have b50 := F50.binds (ps := []) fun _ _ _ _ _ _ us hl => match us, hl with | [], _ => rfl
  have F51 := fun_mk (st := s_l_right) l51 c51 k51
  have b51 := F51.binds (ps := ["_law_rows", "_law_word", "_law_steps", "_law_ahead"]) fun _ _ _ _ _ _ us hl => match us, hl with | [_, _, _, _], _ => rfl
  have F52 := fun_mk (st := s_Machine___init__) l52 c52 k52
  have b52 := F52.binds (ps := ["self", "program", "contract", "given", "shelves", "answers"]) fun _ _ _ _ _ _ us hl => match us, hl with | [_, _, _, _, _, _], _ => rfl
  have F53 := fun_mk (st := s_Runner___init__) l53 c53 k53
  have FD53 : FunD K "__init__" "Runner.__init__" (defArgs s_Runner___init__) (defBody s_Runner___init__) (defScope s_Runner___init__) [] [("given", .ref ad_Runner___init___given), ("shelves", .non), ("answers", .ref ad_Runner___init___answers)] f53 _ := ⟨⟨_, _, _, _, _, _, _, _, _, _, rfl, l53, c53, .inl ⟨rfl, rfl⟩, .inr ⟨D53, rfl, fun q hq => by rcases List.mem_cons.mp hq with rfl | hq; exact ⟨_, w53_0, rfl⟩; rcases List.mem_cons.mp hq with rfl | hq; exact ⟨_, w53_1, rfl⟩; cases hq with | head => exact ⟨_, w53_2, rfl⟩ | tail _ z => cases z⟩⟩, k53⟩
  obtain ⟨d53, v53, b53⟩ := FD53.binds0 (ps := ["self", "program", "contract", "given", "shelves", "answers"]) 3 (fun z => by cases z) rfl (fun D doc pm an cdv ct us ks hu hk => match us, ks, hu, hk with | [_, _, _], [_, _, _], _, _ => ⟨_, _, _, _, _, _, rfl, rfl, ⟨_, _, _, _, _, _, rfl, rfl, ⟨_, _, _, _, _, _, rfl, rfl, rfl⟩⟩⟩)
  have kb53 := Bg.kbn_all (ps := ["self", "program", "contract", "given", "shelves", "answers"]) (ks := ["given", "shelves", "answers"]) (n := 3) F53 fun _ _ _ _ _ _ us ws hu hw => match us, ws, hu, hw with | [_, _, _], [_, _, _], _, _ => rfl
  have F54 := fun_mk (st := s_Runner_step) l54 c54 k54
  have b54 := F54.binds (ps := ["self"]) fun _ _ _ _ _ _ us hl => match us, hl with | [_], _ => rfl
  have F55 := fun_mk (st := s_Runner_told) l55 c55 k55
  have b55 := F55.binds (ps := ["self"]) fun _ _ _ _ _ _ us hl => match us, hl with | [_], _ => rfl
  have F56 := fun_mk (st := s_law) l56 c56 k56
  have FI_NoCall := fun_mk (st := si_NoCall) li_NoCall lc_NoCall lk_NoCall
  have BI_NoCall := FI_NoCall.binds (ps := ["self", "name"]) fun _ _ _ _ _ _ us hl => match us, hl with | [_, _], _ => rfl
  have FI_NoInput := fun_mk (st := si_NoInput) li_NoInput lc_NoInput lk_NoInput
  have BI_NoInput := FI_NoInput.binds (ps := ["self", "part"]) fun _ _ _ _ _ _ us hl => match us, hl with | [_, _], _ => rfl
  have T : Txt w K mg := { a_greatest := f0, fd_greatest := _, F_greatest := F0, g_greatest := PySem.W.mg_of X G x0, b_greatest := b0, a_is_whole := f1, fd_is_whole := _, F_is_whole := F1, g_is_whole := PySem.W.mg_of X G x1, b_is_whole := b1, a_is_worth := f2, fd_is_worth := _, F_is_worth := F2, g_is_worth := PySem.W.mg_of X G x2, d_is_worth := d2, v_is_worth := v2, b_is_worth := b2, k_is_worth := kb2, a_is_among := f3, fd_is_among := _, F_is_among := F3, g_is_among := PySem.W.mg_of X G x3, b_is_among := b3, a_signed := f4, fd_signed := _, F_signed := F4, g_signed := PySem.W.mg_of X G x4, d_signed := d4, v_signed := v4, b_signed := b4, k_signed := kb4, a_moved_left := f5, fd_moved_left := _, F_moved_left := F5, g_moved_left := PySem.W.mg_of X G x5, b_moved_left := b5, a_moved_right := f6, fd_moved_right := _, F_moved_right := F6, g_moved_right := PySem.W.mg_of X G x6, b_moved_right := b6, a_done := f7, fd_done := _, F_done := F7, g_done := PySem.W.mg_of X G x7, d_done := d7, v_done := v7, b_done := b7, k_done := kb7, a_asked := f8, fd_asked := _, F_asked := F8, g_asked := PySem.W.mg_of X G x8, d_asked := d8, v_asked := v8, b_asked := b8, k_asked := kb8, a_contrary := f9, fd_contrary := _, F_contrary := F9, g_contrary := PySem.W.mg_of X G x9, b_contrary := b9, a_call_of := f10, fd_call_of := _, F_call_of := F10, g_call_of := PySem.W.mg_of X G x10, b_call_of := b10, a_are_worths := f11, fd_are_worths := _, F_are_worths := F11, g_are_worths := PySem.W.mg_of X G x11, c_are_worths := cdA_of F11 (rho_of x11), b_are_worths := b11, a_is_room := f12, fd_is_room := _, F_is_room := F12, g_is_room := PySem.W.mg_of X G x12, b_is_room := b12, a_are_rooms := f13, fd_are_rooms := _, F_are_rooms := F13, g_are_rooms := PySem.W.mg_of X G x13, c_are_rooms := cdA_of F13 (rho_of x13), b_are_rooms := b13, a_are_shelves := f14, fd_are_shelves := _, F_are_shelves := F14, g_are_shelves := PySem.W.mg_of X G x14, c_are_shelves := cdA_of F14 (rho_of x14), b_are_shelves := b14, a_look_at_inputs := f15, fd_look_at_inputs := _, F_look_at_inputs := F15, g_look_at_inputs := PySem.W.mg_of X G x15, c_look_at_inputs := cdA_of F15 (rho_of x15), b_look_at_inputs := b15, a_copied_shelves := f16, fd_copied_shelves := _, F_copied_shelves := F16, g_copied_shelves := PySem.W.mg_of X G x16, b_copied_shelves := b16, a_bare_shelves := f17, fd_bare_shelves := _, F_bare_shelves := F17, g_bare_shelves := PySem.W.mg_of X G x17, b_bare_shelves := b17, a_moment_of := f18, fd_moment_of := _, F_moment_of := F18, g_moment_of := PySem.W.mg_of X G x18, b_moment_of := b18, a_told_end := f19, fd_told_end := _, F_told_end := F19, g_told_end := PySem.W.mg_of X G x19, b_told_end := b19, a_by_value := f20, fd_by_value := _, F_by_value := F20, g_by_value := PySem.W.mg_of X G x20, b_by_value := b20, a_put_box := f21, fd_put_box := _, F_put_box := F21, g_put_box := PySem.W.mg_of X G x21, b_put_box := b21, a_moved := f22, fd_moved := _, F_moved := F22, g_moved := PySem.W.mg_of X G x22, b_moved := b22, a_room_of := f23, fd_room_of := _, F_room_of := F23, g_room_of := PySem.W.mg_of X G x23, b_room_of := b23, a_size_of := f24, fd_size_of := _, F_size_of := F24, g_size_of := PySem.W.mg_of X G x24, b_size_of := b24, a_cell_value := f25, fd_cell_value := _, F_cell_value := F25, g_cell_value := PySem.W.mg_of X G x25, b_cell_value := b25, a_put_cell := f26, fd_put_cell := _, F_put_cell := F26, g_put_cell := PySem.W.mg_of X G x26, b_put_cell := b26, a_do_move := f27, fd_do_move := _, F_do_move := F27, g_do_move := PySem.W.mg_of X G x27, b_do_move := b27, a_deed_value := f28, fd_deed_value := _, F_deed_value := F28, g_deed_value := PySem.W.mg_of X G x28, b_deed_value := b28, a_do_deed := f29, fd_do_deed := _, F_do_deed := F29, g_do_deed := PySem.W.mg_of X G x29, b_do_deed := b29, a_ask_answer := f30, fd_ask_answer := _, F_ask_answer := F30, g_ask_answer := PySem.W.mg_of X G x30, b_ask_answer := b30, a_do_jump := f31, fd_do_jump := _, F_do_jump := F31, g_do_jump := PySem.W.mg_of X G x31, b_do_jump := b31, a_do_load := f32, fd_do_load := _, F_do_load := F32, g_do_load := PySem.W.mg_of X G x32, b_do_load := b32, a_do_store := f33, fd_do_store := _, F_do_store := F33, g_do_store := PySem.W.mg_of X G x33, b_do_store := b33, a_has_numbers := f34, fd_has_numbers := _, F_has_numbers := F34, g_has_numbers := PySem.W.mg_of X G x34, c_has_numbers := cdA_of F34 (rho_of x34), b_has_numbers := b34, a_is_good_take := f35, fd_is_good_take := _, F_is_good_take := F35, g_is_good_take := PySem.W.mg_of X G x35, b_is_good_take := b35, a_next_answer := f36, fd_next_answer := _, F_next_answer := F36, g_next_answer := PySem.W.mg_of X G x36, b_next_answer := b36, a_lent_value := f37, fd_lent_value := _, F_lent_value := F37, g_lent_value := PySem.W.mg_of X G x37, b_lent_value := b37, a_forget_asking := f38, fd_forget_asking := _, F_forget_asking := F38, g_forget_asking := PySem.W.mg_of X G x38, b_forget_asking := b38, a_without_asking := f39, fd_without_asking := _, F_without_asking := F39, g_without_asking := PySem.W.mg_of X G x39, b_without_asking := b39, a_given_value := f40, fd_given_value := _, F_given_value := F40, g_given_value := PySem.W.mg_of X G x40, b_given_value := b40, a_do_call := f41, fd_do_call := _, F_do_call := F41, g_do_call := PySem.W.mg_of X G x41, b_do_call := b41, a_do_end := f42, fd_do_end := _, F_do_end := F42, g_do_end := PySem.W.mg_of X G x42, b_do_end := b42, a_do_row := f43, fd_do_row := _, F_do_row := F43, g_do_row := PySem.W.mg_of X G x43, b_do_row := b43, a_do_step := f44, fd_do_step := _, F_do_step := F44, g_do_step := PySem.W.mg_of X G x44, b_do_step := b44, a_run := f45, fd_run := _, F_run := F45, g_run := PySem.W.mg_of X G x45, ad_run_given := ad_run_given, ad_run_answers := ad_run_answers, qd_run_given := fun H => .inr ⟨_, _, _, u_ad_run_given, rfl, rfl, (show 0 ≤ sizeLine by decide), .nil⟩, qd_run_answers := fun H => .inr ⟨_, _, _, u_ad_run_answers, rfl, rfl, (show 0 ≤ sizeLine by decide), .nil⟩, d_run := d45, v_run := v45, b_run := b45, k_run := kb45, mv_run_given := mv_run_given, m_run_given := mb_run_given, mv_run_most := mv_run_most, m_run_most := mb_run_most, a_l_pool := f46, fd_l_pool := _, F_l_pool := F46, g_l_pool := PySem.W.mg_of X G x46, b_l_pool := b46, a_l_take := f47, fd_l_take := _, F_l_take := F47, g_l_take := PySem.W.mg_of X G x47, b_l_take := b47, a_l_contract := f48, fd_l_contract := _, F_l_contract := F48, g_l_contract := PySem.W.mg_of X G x48, b_l_contract := b48, a_l_plain := f49, fd_l_plain := _, F_l_plain := F49, g_l_plain := PySem.W.mg_of X G x49, b_l_plain := b49, a_l_calls := f50, fd_l_calls := _, F_l_calls := F50, g_l_calls := PySem.W.mg_of X G x50, b_l_calls := b50, a_l_right := f51, fd_l_right := _, F_l_right := F51, g_l_right := PySem.W.mg_of X G x51, b_l_right := b51, a_Machine___init__ := f52, fd_Machine___init__ := _, F_Machine___init__ := F52, me_Machine___init__ := by rw [rho_of y_Machine]; exact ⟨x52, fn52, k52⟩, b_Machine___init__ := b52, a_Runner___init__ := f53, fd_Runner___init__ := _, F_Runner___init__ := F53, me_Runner___init__ := by rw [rho_of y_Runner]; exact ⟨x53, fn53, k53⟩, ad_Runner___init___given := ad_Runner___init___given, ad_Runner___init___answers := ad_Runner___init___answers, qd_Runner___init___given := fun H => .inr ⟨_, _, _, u_ad_Runner___init___given, rfl, rfl, (show 0 ≤ sizeLine by decide), .nil⟩, qd_Runner___init___answers := fun H => .inr ⟨_, _, _, u_ad_Runner___init___answers, rfl, rfl, (show 0 ≤ sizeLine by decide), .nil⟩, d_Runner___init__ := d53, v_Runner___init__ := v53, b_Runner___init__ := b53, k_Runner___init__ := kb53, a_Runner_step := f54, fd_Runner_step := _, F_Runner_step := F54, me_Runner_step := by rw [rho_of y_Runner]; exact ⟨x54, fn54, k54⟩, b_Runner_step := b54, a_Runner_told := f55, fd_Runner_told := _, F_Runner_told := F55, me_Runner_told := by rw [rho_of y_Runner]; exact ⟨x55, fn55, k55⟩, b_Runner_told := b55, a_ASKS := ac_ASKS, g_ASKS := PySem.W.mg_of X G y_ASKS, q_ASKS := fun H => .inr ⟨_, _, _, u_ASKS, rfl, rfl, (show 12 ≤ sizeLine by decide), (.cons ⟨_, rfl⟩ (.cons ⟨_, rfl⟩ (.cons ⟨_, rfl⟩ (.cons ⟨_, rfl⟩ (.cons ⟨_, rfl⟩ (.cons ⟨_, rfl⟩ (.cons ⟨_, rfl⟩ (.cons ⟨_, rfl⟩ (.cons ⟨_, rfl⟩ (.cons ⟨_, rfl⟩ (.cons ⟨_, rfl⟩ (.cons ⟨_, rfl⟩ .nil))))))))))))⟩, t_BOXES := _, g_BOXES := PySem.W.mg_of X G y_BOXES, a_CONTRARIES := ac_CONTRARIES, g_CONTRARIES := PySem.W.mg_of X G y_CONTRARIES, a0_CONTRARIES := ac0_CONTRARIES, q0_CONTRARIES := fun H => .inr ⟨_, _, _, u0_CONTRARIES, rfl, rfl, (show 2 ≤ sizeLine by decide), (.cons ⟨_, rfl⟩ (.cons ⟨_, rfl⟩ .nil))⟩, a1_CONTRARIES := ac1_CONTRARIES, q1_CONTRARIES := fun H => .inr ⟨_, _, _, u1_CONTRARIES, rfl, rfl, (show 2 ≤ sizeLine by decide), (.cons ⟨_, rfl⟩ (.cons ⟨_, rfl⟩ .nil))⟩, a2_CONTRARIES := ac2_CONTRARIES, q2_CONTRARIES := fun H => .inr ⟨_, _, _, u2_CONTRARIES, rfl, rfl, (show 2 ≤ sizeLine by decide), (.cons ⟨_, rfl⟩ (.cons ⟨_, rfl⟩ .nil))⟩, a3_CONTRARIES := ac3_CONTRARIES, q3_CONTRARIES := fun H => .inr ⟨_, _, _, u3_CONTRARIES, rfl, rfl, (show 2 ≤ sizeLine by decide), (.cons ⟨_, rfl⟩ (.cons ⟨_, rfl⟩ .nil))⟩, a4_CONTRARIES := ac4_CONTRARIES, q4_CONTRARIES := fun H => .inr ⟨_, _, _, u4_CONTRARIES, rfl, rfl, (show 2 ≤ sizeLine by decide), (.cons ⟨_, rfl⟩ (.cons ⟨_, rfl⟩ .nil))⟩, a5_CONTRARIES := ac5_CONTRARIES, q5_CONTRARIES := fun H => .inr ⟨_, _, _, u5_CONTRARIES, rfl, rfl, (show 2 ≤ sizeLine by decide), (.cons ⟨_, rfl⟩ (.cons ⟨_, rfl⟩ .nil))⟩, q_CONTRARIES := fun H => .inr ⟨_, _, _, u_CONTRARIES, rfl, rfl, (show 6 ≤ sizeLine by decide), (.cons rfl (.cons rfl (.cons rfl (.cons rfl (.cons rfl (.cons rfl .nil))))))⟩, a_DEEDS := ac_DEEDS, g_DEEDS := PySem.W.mg_of X G y_DEEDS, q_DEEDS := fun H => .inr ⟨_, _, _, u_DEEDS, rfl, rfl, (show 8 ≤ sizeLine by decide), (.cons ⟨_, rfl⟩ (.cons ⟨_, rfl⟩ (.cons ⟨_, rfl⟩ (.cons ⟨_, rfl⟩ (.cons ⟨_, rfl⟩ (.cons ⟨_, rfl⟩ (.cons ⟨_, rfl⟩ (.cons ⟨_, rfl⟩ .nil))))))))⟩, t_MOST_CELLS := _, g_MOST_CELLS := PySem.W.mg_of X G y_MOST_CELLS, t_PILE := _, g_PILE := PySem.W.mg_of X G y_PILE, t_WIDE := _, g_WIDE := PySem.W.mg_of X G y_WIDE, b_abs := PySem.W.mg_none_of X G z_abs, b_all := PySem.W.mg_none_of X G z_all, b_bool := PySem.W.mg_none_of X G z_bool, b_dict := PySem.W.mg_none_of X G z_dict, b_enumerate := PySem.W.mg_none_of X G z_enumerate, b_int := PySem.W.mg_none_of X G z_int, b_isinstance := PySem.W.mg_none_of X G z_isinstance, b_len := PySem.W.mg_none_of X G z_len, b_list := PySem.W.mg_none_of X G z_list, b_max := PySem.W.mg_none_of X G z_max, b_min := PySem.W.mg_none_of X G z_min, b_range := PySem.W.mg_none_of X G z_range, b_str := PySem.W.mg_none_of X G z_str, b_sum := PySem.W.mg_none_of X G z_sum, b_tuple := PySem.W.mg_none_of X G z_tuple, a_NoCall := ac_NoCall, g_NoCall := PySem.W.mg_of X G y_NoCall, rho_NoCall := rho_of y_NoCall, i_NoCall := ⟨cb_NoCall, cd_NoCall, ci_NoCall, ct_NoCall⟩, a_NoInput := ac_NoInput, g_NoInput := PySem.W.mg_of X G y_NoInput, rho_NoInput := rho_of y_NoInput, i_NoInput := ⟨cb_NoInput, cd_NoInput, ci_NoInput, ct_NoInput⟩, a_NoWord := ac_NoWord, g_NoWord := PySem.W.mg_of X G y_NoWord, rho_NoWord := rho_of y_NoWord, i_NoWord := ⟨cb_NoWord, cd_NoWord, ci_NoWord, ct_NoWord⟩, g_Machine := (rho_of y_Machine).symm ▸ PySem.W.mg_of X G y_Machine, cl_Machine := by rw [rho_of y_Machine]; exact ⟨pg_Machine, cd_Machine, po_Machine, sa_Machine⟩, mk_Machine := by rw [rho_of y_Machine]; exact ⟨mi_Machine, x52, fn52, kc_Machine⟩, na_Machine_answered := by rw [rho_of y_Machine]; exact na_Machine_answered, na_Machine_answers := by rw [rho_of y_Machine]; exact na_Machine_answers, na_Machine_askings := by rw [rho_of y_Machine]; exact na_Machine_askings, na_Machine_at := by rw [rho_of y_Machine]; exact na_Machine_at, na_Machine_box_values := by rw [rho_of y_Machine]; exact na_Machine_box_values, na_Machine_cells := by rw [rho_of y_Machine]; exact na_Machine_cells, na_Machine_ending := by rw [rho_of y_Machine]; exact na_Machine_ending, na_Machine_history := by rw [rho_of y_Machine]; exact na_Machine_history, na_Machine_lent_rooms := by rw [rho_of y_Machine]; exact na_Machine_lent_rooms, na_Machine_machine := by rw [rho_of y_Machine]; exact na_Machine_machine, na_Machine_pile_values := by rw [rho_of y_Machine]; exact na_Machine_pile_values, na_Machine_rooms := by rw [rho_of y_Machine]; exact na_Machine_rooms, na_Machine_rows := by rw [rho_of y_Machine]; exact na_Machine_rows, na_Machine_rows_done := by rw [rho_of y_Machine]; exact na_Machine_rows_done, na_Machine_terms := by rw [rho_of y_Machine]; exact na_Machine_terms, na_Machine_written := by rw [rho_of y_Machine]; exact na_Machine_written, g_Runner := (rho_of y_Runner).symm ▸ PySem.W.mg_of X G y_Runner, cl_Runner := by rw [rho_of y_Runner]; exact ⟨pg_Runner, cd_Runner, po_Runner, sa_Runner⟩, mk_Runner := by rw [rho_of y_Runner]; exact ⟨mi_Runner, x53, fn53, kc_Runner⟩, na_Runner_answered := by rw [rho_of y_Runner]; exact na_Runner_answered, na_Runner_answers := by rw [rho_of y_Runner]; exact na_Runner_answers, na_Runner_askings := by rw [rho_of y_Runner]; exact na_Runner_askings, na_Runner_at := by rw [rho_of y_Runner]; exact na_Runner_at, na_Runner_box_values := by rw [rho_of y_Runner]; exact na_Runner_box_values, na_Runner_cells := by rw [rho_of y_Runner]; exact na_Runner_cells, na_Runner_ending := by rw [rho_of y_Runner]; exact na_Runner_ending, na_Runner_history := by rw [rho_of y_Runner]; exact na_Runner_history, na_Runner_lent_rooms := by rw [rho_of y_Runner]; exact na_Runner_lent_rooms, na_Runner_machine := by rw [rho_of y_Runner]; exact na_Runner_machine, na_Runner_pile_values := by rw [rho_of y_Runner]; exact na_Runner_pile_values, na_Runner_rooms := by rw [rho_of y_Runner]; exact na_Runner_rooms, na_Runner_rows := by rw [rho_of y_Runner]; exact na_Runner_rows, na_Runner_rows_done := by rw [rho_of y_Runner]; exact na_Runner_rows_done, na_Runner_terms := by rw [rho_of y_Runner]; exact na_Runner_terms, na_Runner_written := by rw [rho_of y_Runner]; exact na_Runner_written, o_NoCall := ⟨⟨_, _, _, _, _, _, PySem.F.excBase_LookupError, Dl.keyStore, by decide +kernel, ox_NoCall, ov_NoCall⟩, cd_NoCall, sa_NoCall, cb_NoCall, ct_NoCall, rk_NoCall⟩, e_NoCall := ⟨eg_NoCall, ek_NoCall, cb_NoCall, cd_NoCall, ea_NoCall, en_NoCall, et_NoCall, em_NoCall⟩, xf_NoCall := ⟨eg_NoCall, ek_NoCall, cb_NoCall, cd_NoCall⟩, fI_NoCall := fi_NoCall, fdI_NoCall := _, iC_NoCall := ic_NoCall, tI_NoCall := ti_NoCall, FI_NoCall := FI_NoCall, bI_NoCall := BI_NoCall, nf_NoCall_name := nf_NoCall_name, s_NoCall_NoCall := s_NoCall_NoCall, s_NoCall_NoInput := s_NoCall_NoInput, s_NoCall_NoWord := s_NoCall_NoWord, o_NoInput := ⟨⟨_, _, _, _, _, _, PySem.F.excBase_ValueError, PySem.F.store_ValueError, by decide +kernel, ox_NoInput, ov_NoInput⟩, cd_NoInput, sa_NoInput, cb_NoInput, ct_NoInput, rk_NoInput⟩, e_NoInput := ⟨eg_NoInput, ek_NoInput, cb_NoInput, cd_NoInput, ea_NoInput, en_NoInput, et_NoInput, em_NoInput⟩, xf_NoInput := ⟨eg_NoInput, ek_NoInput, cb_NoInput, cd_NoInput⟩, fI_NoInput := fi_NoInput, fdI_NoInput := _, iC_NoInput := ic_NoInput, tI_NoInput := ti_NoInput, FI_NoInput := FI_NoInput, bI_NoInput := BI_NoInput, nf_NoInput_part := nf_NoInput_part, s_NoInput_NoCall := s_NoInput_NoCall, s_NoInput_NoInput := s_NoInput_NoInput, s_NoInput_NoWord := s_NoInput_NoWord, r_NoWord := ⟨rx_NoWord, rk_NoWord, cb_NoWord, ct_NoWord, ⟨eg_NoWord, ek_NoWord, cb_NoWord, cd_NoWord, ea_NoWord, en_NoWord, et_NoWord, em_NoWord⟩, PySem.W.exm_ref cb_NoWord cd_NoWord ct_NoWord s_NoWord_NoWord⟩, s_NoWord_NoCall := s_NoWord_NoCall, s_NoWord_NoInput := s_NoWord_NoInput, s_NoWord_NoWord := s_NoWord_NoWord }
  exact ⟨_, fun s v => .of_eq rfl, fun base _ _ TB => ok_law T ⟨TB "are_worths" (by simp), TB "are_rooms" (by simp), TB "are_shelves" (by simp), TB "look_at_inputs" (by simp), TB "has_numbers" (by simp)⟩ F56⟩
end Law
open PySem PySem.W PyProof.Rows
set_option maxHeartbeats 0 in
theorem PySem.Challenge.cw_boundgate_k32_faults_one_by_one_holds : PySem.Challenge.rw_boundgate_k32_faults_one_by_one.Holds := by
  w_on; o_law; k_head; (case hw => w_witness2)
  k_fill
  refine Dl.walkGD (l := PySem.Challenge.rw_boundgate_k32_faults_one_by_one) (n := 63) (k := 16) (x := "_law_script") (F := Law.F_law) ["are_worths", "are_rooms", "are_shelves", "look_at_inputs", "has_numbers"] rfl (by decide) rfl ⟨rfl, by decide, by decide⟩ (fun w h Y => PySem.W.kIn_of Y) ?TB ?RE ?F (fun ns hl => Law.law_true ns hl) (fun _ _ _ _ h => h)
  case TB => exact fun w => by kernel_rfl
  case RE => first | kernel_rfl | rfl | decide +kernel
  case F =>
    intro w mg fa h KX G hmg
    refine' Law.all_mk KX G hmg ?y_Machine ?pg_Machine ?cd_Machine ?po_Machine ?sa_Machine ?mi_Machine ?kc_Machine ?na_Machine_answered ?na_Machine_answers ?na_Machine_askings ?na_Machine_at ?na_Machine_box_values ?na_Machine_cells ?na_Machine_ending ?na_Machine_history ?na_Machine_lent_rooms ?na_Machine_machine ?na_Machine_pile_values ?na_Machine_rooms ?na_Machine_rows ?na_Machine_rows_done ?na_Machine_terms ?na_Machine_written ?y_Runner ?pg_Runner ?cd_Runner ?po_Runner ?sa_Runner ?mi_Runner ?kc_Runner ?na_Runner_answered ?na_Runner_answers ?na_Runner_askings ?na_Runner_at ?na_Runner_box_values ?na_Runner_cells ?na_Runner_ending ?na_Runner_history ?na_Runner_lent_rooms ?na_Runner_machine ?na_Runner_pile_values ?na_Runner_rooms ?na_Runner_rows ?na_Runner_rows_done ?na_Runner_terms ?na_Runner_written ?x0 ?l0 ?c0 ?k0 ?x1 ?l1 ?c1 ?k1 ?x2 ?l2 ?c2 ?k2 ?w2_0 ?x3 ?l3 ?c3 ?k3 ?x4 ?l4 ?c4 ?k4 ?w4_0 ?x5 ?l5 ?c5 ?k5 ?x6 ?l6 ?c6 ?k6 ?x7 ?l7 ?c7 ?k7 ?w7_0 ?x8 ?l8 ?c8 ?k8 ?w8_0 ?x9 ?l9 ?c9 ?k9 ?x10 ?l10 ?c10 ?k10 ?x11 ?l11 ?c11 ?k11 ?x12 ?l12 ?c12 ?k12 ?x13 ?l13 ?c13 ?k13 ?x14 ?l14 ?c14 ?k14 ?x15 ?l15 ?c15 ?k15 ?x16 ?l16 ?c16 ?k16 ?x17 ?l17 ?c17 ?k17 ?x18 ?l18 ?c18 ?k18 ?x19 ?l19 ?c19 ?k19 ?x20 ?l20 ?c20 ?k20 ?x21 ?l21 ?c21 ?k21 ?x22 ?l22 ?c22 ?k22 ?x23 ?l23 ?c23 ?k23 ?x24 ?l24 ?c24 ?k24 ?x25 ?l25 ?c25 ?k25 ?x26 ?l26 ?c26 ?k26 ?x27 ?l27 ?c27 ?k27 ?x28 ?l28 ?c28 ?k28 ?x29 ?l29 ?c29 ?k29 ?x30 ?l30 ?c30 ?k30 ?x31 ?l31 ?c31 ?k31 ?x32 ?l32 ?c32 ?k32 ?x33 ?l33 ?c33 ?k33 ?x34 ?l34 ?c34 ?k34 ?x35 ?l35 ?c35 ?k35 ?x36 ?l36 ?c36 ?k36 ?x37 ?l37 ?c37 ?k37 ?x38 ?l38 ?c38 ?k38 ?x39 ?l39 ?c39 ?k39 ?x40 ?l40 ?c40 ?k40 ?x41 ?l41 ?c41 ?k41 ?x42 ?l42 ?c42 ?k42 ?x43 ?l43 ?c43 ?k43 ?x44 ?l44 ?c44 ?k44 ?x45 ?l45 ?c45 ?k45 ?w45_0 ?u_ad_run_given ?w45_1 ?w45_2 ?u_ad_run_answers ?w45_3 ?x46 ?l46 ?c46 ?k46 ?x47 ?l47 ?c47 ?k47 ?x48 ?l48 ?c48 ?k48 ?x49 ?l49 ?c49 ?k49 ?x50 ?l50 ?c50 ?k50 ?x51 ?l51 ?c51 ?k51 ?fn52 ?x52 ?l52 ?c52 ?k52 ?fn53 ?x53 ?l53 ?c53 ?k53 ?w53_0 ?u_ad_Runner___init___given ?w53_1 ?w53_2 ?u_ad_Runner___init___answers ?fn54 ?x54 ?l54 ?c54 ?k54 ?fn55 ?x55 ?l55 ?c55 ?k55 ?x56 ?l56 ?c56 ?k56 ?y_ASKS ?u_ASKS ?y_BOXES ?y_CONTRARIES ?u_CONTRARIES ?u0_CONTRARIES ?u1_CONTRARIES ?u2_CONTRARIES ?u3_CONTRARIES ?u4_CONTRARIES ?u5_CONTRARIES ?y_DEEDS ?u_DEEDS ?y_MOST_CELLS ?y_PILE ?y_WIDE ?z_abs ?z_all ?z_bool ?z_dict ?z_enumerate ?z_int ?z_isinstance ?z_len ?z_list ?z_max ?z_min ?z_range ?z_str ?z_sum ?z_tuple ?y_NoCall ?cb_NoCall ?cd_NoCall ?ci_NoCall ?ct_NoCall ?y_NoInput ?cb_NoInput ?cd_NoInput ?ci_NoInput ?ct_NoInput ?y_NoWord ?cb_NoWord ?cd_NoWord ?ci_NoWord ?ct_NoWord ?ox_NoCall ?ov_NoCall ?sa_NoCall ?rk_NoCall ?ic_NoCall ?ti_NoCall ?li_NoCall ?lc_NoCall ?lk_NoCall ?nf_NoCall_name ?eg_NoCall ?ek_NoCall ?ea_NoCall ?en_NoCall ?et_NoCall ?em_NoCall ?s_NoCall_NoCall ?s_NoCall_NoInput ?s_NoCall_NoWord ?ox_NoInput ?ov_NoInput ?sa_NoInput ?rk_NoInput ?ic_NoInput ?ti_NoInput ?li_NoInput ?lc_NoInput ?lk_NoInput ?nf_NoInput_part ?eg_NoInput ?ek_NoInput ?ea_NoInput ?en_NoInput ?et_NoInput ?em_NoInput ?s_NoInput_NoCall ?s_NoInput_NoInput ?s_NoInput_NoWord ?rx_NoWord ?rk_NoWord ?eg_NoWord ?ek_NoWord ?ea_NoWord ?en_NoWord ?et_NoWord ?em_NoWord ?s_NoWord_NoCall ?s_NoWord_NoInput ?s_NoWord_NoWord
    (case y_Machine => k_is); (case pg_Machine => k_is); (case cd_Machine => k_is); (case po_Machine => k_is); (case sa_Machine => k_is); (case mi_Machine => k_is); (case kc_Machine => k_is); (case na_Machine_answered => k_is); (case na_Machine_answers => k_is); (case na_Machine_askings => k_is); (case na_Machine_at => k_is); (case na_Machine_box_values => k_is); (case na_Machine_cells => k_is); (case na_Machine_ending => k_is); (case na_Machine_history => k_is); (case na_Machine_lent_rooms => k_is); (case na_Machine_machine => k_is); (case na_Machine_pile_values => k_is); (case na_Machine_rooms => k_is); (case na_Machine_rows => k_is); (case na_Machine_rows_done => k_is); (case na_Machine_terms => k_is); (case na_Machine_written => k_is); (case y_Runner => k_is); (case pg_Runner => k_is); (case cd_Runner => k_is); (case po_Runner => k_is); (case sa_Runner => k_is); (case mi_Runner => k_is); (case kc_Runner => k_is); (case na_Runner_answered => k_is); (case na_Runner_answers => k_is); (case na_Runner_askings => k_is); (case na_Runner_at => k_is); (case na_Runner_box_values => k_is); (case na_Runner_cells => k_is); (case na_Runner_ending => k_is); (case na_Runner_history => k_is); (case na_Runner_lent_rooms => k_is); (case na_Runner_machine => k_is); (case na_Runner_pile_values => k_is); (case na_Runner_rooms => k_is); (case na_Runner_rows => k_is); (case na_Runner_rows_done => k_is); (case na_Runner_terms => k_is); (case na_Runner_written => k_is); (case x0 => k_is); (case l0 => k_is); (case c0 => k_is); (case k0 => k_is); (case x1 => k_is); (case l1 => k_is); (case c1 => k_is); (case k1 => k_is); (case x2 => k_is); (case l2 => k_is); (case c2 => k_is); (case k2 => k_is); (case w2_0 => k_is); (case x3 => k_is); (case l3 => k_is); (case c3 => k_is); (case k3 => k_is); (case x4 => k_is); (case l4 => k_is); (case c4 => k_is); (case k4 => k_is); (case w4_0 => k_is); (case x5 => k_is); (case l5 => k_is); (case c5 => k_is); (case k5 => k_is); (case x6 => k_is); (case l6 => k_is); (case c6 => k_is); (case k6 => k_is); (case x7 => k_is); (case l7 => k_is); (case c7 => k_is); (case k7 => k_is); (case w7_0 => k_is); (case x8 => k_is); (case l8 => k_is); (case c8 => k_is); (case k8 => k_is); (case w8_0 => k_is); (case x9 => k_is); (case l9 => k_is); (case c9 => k_is); (case k9 => k_is); (case x10 => k_is); (case l10 => k_is); (case c10 => k_is); (case k10 => k_is); (case x11 => k_is); (case l11 => k_is); (case c11 => k_is); (case k11 => k_is); (case x12 => k_is); (case l12 => k_is); (case c12 => k_is); (case k12 => k_is); (case x13 => k_is); (case l13 => k_is); (case c13 => k_is); (case k13 => k_is); (case x14 => k_is); (case l14 => k_is); (case c14 => k_is); (case k14 => k_is); (case x15 => k_is); (case l15 => k_is); (case c15 => k_is); (case k15 => k_is); (case x16 => k_is); (case l16 => k_is); (case c16 => k_is); (case k16 => k_is); (case x17 => k_is); (case l17 => k_is); (case c17 => k_is); (case k17 => k_is); (case x18 => k_is); (case l18 => k_is); (case c18 => k_is); (case k18 => k_is); (case x19 => k_is); (case l19 => k_is); (case c19 => k_is); (case k19 => k_is); (case x20 => k_is); (case l20 => k_is); (case c20 => k_is); (case k20 => k_is); (case x21 => k_is); (case l21 => k_is); (case c21 => k_is); (case k21 => k_is); (case x22 => k_is); (case l22 => k_is); (case c22 => k_is); (case k22 => k_is); (case x23 => k_is); (case l23 => k_is); (case c23 => k_is); (case k23 => k_is); (case x24 => k_is); (case l24 => k_is); (case c24 => k_is); (case k24 => k_is); (case x25 => k_is); (case l25 => k_is); (case c25 => k_is); (case k25 => k_is); (case x26 => k_is); (case l26 => k_is); (case c26 => k_is); (case k26 => k_is); (case x27 => k_is); (case l27 => k_is); (case c27 => k_is); (case k27 => k_is); (case x28 => k_is); (case l28 => k_is); (case c28 => k_is); (case k28 => k_is); (case x29 => k_is); (case l29 => k_is); (case c29 => k_is); (case k29 => k_is); (case x30 => k_is); (case l30 => k_is); (case c30 => k_is); (case k30 => k_is); (case x31 => k_is); (case l31 => k_is); (case c31 => k_is); (case k31 => k_is); (case x32 => k_is); (case l32 => k_is); (case c32 => k_is); (case k32 => k_is); (case x33 => k_is); (case l33 => k_is); (case c33 => k_is); (case k33 => k_is); (case x34 => k_is); (case l34 => k_is); (case c34 => k_is); (case k34 => k_is); (case x35 => k_is); (case l35 => k_is); (case c35 => k_is); (case k35 => k_is); (case x36 => k_is); (case l36 => k_is); (case c36 => k_is); (case k36 => k_is); (case x37 => k_is); (case l37 => k_is); (case c37 => k_is); (case k37 => k_is); (case x38 => k_is); (case l38 => k_is); (case c38 => k_is); (case k38 => k_is); (case x39 => k_is); (case l39 => k_is); (case c39 => k_is); (case k39 => k_is); (case x40 => k_is); (case l40 => k_is); (case c40 => k_is); (case k40 => k_is); (case x41 => k_is); (case l41 => k_is); (case c41 => k_is); (case k41 => k_is); (case x42 => k_is); (case l42 => k_is); (case c42 => k_is); (case k42 => k_is); (case x43 => k_is); (case l43 => k_is); (case c43 => k_is); (case k43 => k_is); (case x44 => k_is); (case l44 => k_is); (case c44 => k_is); (case k44 => k_is); (case x45 => k_is); (case l45 => k_is); (case c45 => k_is); (case k45 => k_is); (case w45_0 => k_is); (case u_ad_run_given => k_is); (case w45_1 => k_is); (case w45_2 => k_is); (case u_ad_run_answers => k_is); (case w45_3 => k_is); (case x46 => k_is); (case l46 => k_is); (case c46 => k_is); (case k46 => k_is); (case x47 => k_is); (case l47 => k_is); (case c47 => k_is); (case k47 => k_is); (case x48 => k_is); (case l48 => k_is); (case c48 => k_is); (case k48 => k_is); (case x49 => k_is); (case l49 => k_is); (case c49 => k_is); (case k49 => k_is); (case x50 => k_is); (case l50 => k_is); (case c50 => k_is); (case k50 => k_is); (case x51 => k_is); (case l51 => k_is); (case c51 => k_is); (case k51 => k_is); (case fn52 => k_is); (case x52 => k_is); (case l52 => k_is); (case c52 => k_is); (case k52 => k_is); (case fn53 => k_is); (case x53 => k_is); (case l53 => k_is); (case c53 => k_is); (case k53 => k_is); (case w53_0 => k_is); (case u_ad_Runner___init___given => k_is); (case w53_1 => k_is); (case w53_2 => k_is); (case u_ad_Runner___init___answers => k_is); (case fn54 => k_is); (case x54 => k_is); (case l54 => k_is); (case c54 => k_is); (case k54 => k_is); (case fn55 => k_is); (case x55 => k_is); (case l55 => k_is); (case c55 => k_is); (case k55 => k_is); (case x56 => k_is); (case l56 => k_is); (case c56 => k_is); (case k56 => k_is); (case y_ASKS => k_is); (case u_ASKS => k_is); (case y_BOXES => k_is); (case y_CONTRARIES => k_is); (case u_CONTRARIES => k_is); (case u0_CONTRARIES => k_is); (case u1_CONTRARIES => k_is); (case u2_CONTRARIES => k_is); (case u3_CONTRARIES => k_is); (case u4_CONTRARIES => k_is); (case u5_CONTRARIES => k_is); (case y_DEEDS => k_is); (case u_DEEDS => k_is); (case y_MOST_CELLS => k_is); (case y_PILE => k_is); (case y_WIDE => k_is); (case z_abs => k_is); (case z_all => k_is); (case z_bool => k_is); (case z_dict => k_is); (case z_enumerate => k_is); (case z_int => k_is); (case z_isinstance => k_is); (case z_len => k_is); (case z_list => k_is); (case z_max => k_is); (case z_min => k_is); (case z_range => k_is); (case z_str => k_is); (case z_sum => k_is); (case z_tuple => k_is); (case y_NoCall => k_is); (case cb_NoCall => k_is); (case cd_NoCall => k_is); (case ci_NoCall => k_is); (case ct_NoCall => k_is); (case y_NoInput => k_is); (case cb_NoInput => k_is); (case cd_NoInput => k_is); (case ci_NoInput => k_is); (case ct_NoInput => k_is); (case y_NoWord => k_is); (case cb_NoWord => k_is); (case cd_NoWord => k_is); (case ci_NoWord => k_is); (case ct_NoWord => k_is); (case ox_NoCall => kx_is); (case ov_NoCall => kx_is); (case sa_NoCall => k_is); (case rk_NoCall => k_is); (case ic_NoCall => k_is); (case ti_NoCall => k_is); (case li_NoCall => k_is); (case lc_NoCall => k_is); (case lk_NoCall => k_is); (case nf_NoCall_name => k_is); (case eg_NoCall => k_is); (case ek_NoCall => k_is); (case ea_NoCall => k_is); (case en_NoCall => k_is); (case et_NoCall => k_is); (case em_NoCall => k_is); (case s_NoCall_NoCall => first | rfl | k_is); (case s_NoCall_NoInput => first | rfl | k_is); (case s_NoCall_NoWord => first | rfl | k_is); (case ox_NoInput => kx_is); (case ov_NoInput => kx_is); (case sa_NoInput => k_is); (case rk_NoInput => k_is); (case ic_NoInput => k_is); (case ti_NoInput => k_is); (case li_NoInput => k_is); (case lc_NoInput => k_is); (case lk_NoInput => k_is); (case nf_NoInput_part => k_is); (case eg_NoInput => k_is); (case ek_NoInput => k_is); (case ea_NoInput => k_is); (case en_NoInput => k_is); (case et_NoInput => k_is); (case em_NoInput => k_is); (case s_NoInput_NoCall => first | rfl | k_is); (case s_NoInput_NoInput => first | rfl | k_is); (case s_NoInput_NoWord => first | rfl | k_is); (case rx_NoWord => k_exc); (case rk_NoWord => k_is); (case eg_NoWord => k_is); (case ek_NoWord => k_is); (case ea_NoWord => k_is); (case en_NoWord => k_is); (case et_NoWord => k_is); (case em_NoWord => k_is); (case s_NoWord_NoCall => first | rfl | k_is); (case s_NoWord_NoInput => first | rfl | k_is); (case s_NoWord_NoWord => first | rfl | k_is)
