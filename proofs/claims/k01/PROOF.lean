import PyProof.Rows.All
import HandS.ForExc
import HandS.ForMost
import HandS.IsInst
import HandS.Style
import HandS.RaiseMore
import PyProof.ReprReads
import PyProof.ReprRoads
import HandS.ExcIs
import HandS.ExcField
import KE.KExcInit
import KE.KExcIs
import HandS.Wide
import HandS.Nested
import HandS.Lambda
import HandS.EndTab
import PySem.Challenge.RW_pullworks_k01_items_and_tests
set_option Elab.async false
set_option linter.all false
set_option maxRecDepth 100000
set_option maxHeartbeats 200000
/-! data of the drawn values, what is asked of their classes -/
namespace Pw
open PySem PySem.Spec PyProof.Rows L2
/-! ### data, with the empty dict -/
mutual
inductive Dv (K : PySem.W.Frag) (H : Hp) : V → PyData → Prop
  | non : Dv K H .non .none
  | bl (b : Bool) : Dv K H (.bl b) (.bool b)
  | int (i : Int) : Dv K H (.int i) (.int i)
  | str (x : Str) : Dv K H (.str x) (.str x)
  | lst {a : Addr} {xs : List V} {ds : List PyData} : H a = some (.lst xs) → xs.length ≤ 1000 → DvAll K H xs ds → Dv K H (.ref a) (.list ds)
  | tup {a : Addr} {xs : List V} {ds : List PyData} : H a = some (.tup xs) → xs.length ≤ 1000 → DvAll K H xs ds → Dv K H (.ref a) (.tuple ds)
  | dct {a : Addr} : H a = some (.dK []) → Dv K H (.ref a) (.dict [])
inductive DvAll (K : PySem.W.Frag) (H : Hp) : List V → List PyData → Prop
  | nil : DvAll K H [] []
  | cons {v : V} {vs : List V} {d : PyData} {ds : List PyData} : Dv K H v d → DvAll K H vs ds → DvAll K H (v :: vs) (d :: ds)
end
mutual
theorem Dv.same {K : PySem.W.Frag} {H H' : Hp} (e : Same H H') : ∀ {d : PyData} {v : V}, Dv K H v d → Dv K H' v d
  | .none, _, h => by cases h; exact .non
  | .bool _, _, h => by cases h; exact .bl _
  | .int _, _, h => by cases h; exact .int _
  | .str _, _, h => by cases h; exact .str _
  | .list ds, _, h => by
    cases h with
    | lst h1 hz h2 => exact .lst (e _ _ h1) hz (DvAll.same e h2)
  | .tuple ds, _, h => by
    cases h with
    | tup h1 hz h2 => exact .tup (e _ _ h1) hz (DvAll.same e h2)
  | .dict _, _, h => by
    cases h with
    | dct h1 => exact .dct (e _ _ h1)
theorem DvAll.same {K : PySem.W.Frag} {H H' : Hp} (e : Same H H') : ∀ {ds : List PyData} {vs : List V}, DvAll K H vs ds → DvAll K H' vs ds
  | [], _, h => by cases h; exact .nil
  | _ :: _, _, h => by
    cases h with
    | cons h1 h2 => exact .cons (Dv.same e h1) (DvAll.same e h2)
end
theorem DvAll.length {K : PySem.W.Frag} {H : Hp} : ∀ {ds : List PyData} {vs : List V}, DvAll K H vs ds → vs.length = ds.length
  | [], _, h => by cases h; rfl
  | _ :: _, _, h => by
    cases h with
    | cons h1 h2 =>
      rw [List.length_cons, List.length_cons, DvAll.length h2]
theorem DvAll.get {K : PySem.W.Frag} {H : Hp} : ∀ {ds : List PyData} {vs : List V} {i : Nat} {d : PyData}, DvAll K H vs ds → ds[i]? = some d → ∃ v, vs[i]? = some v ∧ Dv K H v d
  | [], _, _, _, h, e => by simp at e
  | _ :: _, _, 0, _, h, e => by
    cases h with
    | cons h1 h2 =>
      simp at e
      subst e
      exact ⟨_, rfl, h1⟩
  | _ :: _, _, i + 1, _, h, e => by
    cases h with
    | cons h1 h2 =>
      obtain ⟨v, e1, e2⟩ := DvAll.get (i := i) h2 (by simpa using e)
      exact ⟨v, by simpa using e1, e2⟩
theorem DvAll.getV {K : PySem.W.Frag} {H : Hp} : ∀ {ds : List PyData} {vs : List V} {i : Nat} {v : V}, DvAll K H vs ds → vs[i]? = some v → ∃ d, ds[i]? = some d ∧ Dv K H v d
  | _, [], _, _, h, e => by simp at e
  | _, _ :: _, 0, _, h, e => by
    cases h with
    | cons h1 h2 =>
      simp at e
      subst e
      exact ⟨_, rfl, h1⟩
  | _, _ :: _, i + 1, _, h, e => by
    cases h with
    | cons h1 h2 =>
      obtain ⟨v, e1, e2⟩ := DvAll.getV (i := i) h2 (by simpa using e)
      exact ⟨v, by simpa using e1, e2⟩
theorem DvAll.append {K : PySem.W.Frag} {H : Hp} : ∀ {ds es : List PyData} {vs ws : List V}, DvAll K H vs ds → DvAll K H ws es → DvAll K H (vs ++ ws) (ds ++ es)
  | [], _, _, _, h, q => by cases h; exact q
  | _ :: _, _, _, _, h, q => by
    cases h with
    | cons h1 h2 => exact .cons h1 (DvAll.append h2 q)
/-! ### the class of a datum -/
def tyName : PyData → String
  | .none => "NoneType"
  | .bool _ => "bool"
  | .int _ => "int"
  | .str _ => "str"
  | .list _ => "list"
  | .tuple _ => "tuple"
  | .dict _ => "dict"
theorem Dv.ty {K : PySem.W.Frag} {H : Hp} {v : V} {d : PyData} (h : Dv K H v d) : TyX K H v (.type (tyName d)) := by
  cases h with
  | non => exact .base .non
  | bl b => exact .base (.bl b)
  | int i => exact .base (.int i)
  | str x => exact .base (.str x)
  | lst e _ _ => exact .base (.lst e)
  | tup e _ _ => exact .base (.tup e)
  | dct e => exact .base (.dK e)
def isaB (T : String) (d : PyData) : Bool := (kitB (tyName d) T).getD false
def isInt : PyData → Bool
  | .int _ => true
  | _ => false
def isBool : PyData → Bool
  | .bool _ => true
  | _ => false
def isStr : PyData → Bool
  | .str _ => true
  | _ => false
def isTuple : PyData → Bool
  | .tuple _ => true
  | _ => false
def isList : PyData → Bool
  | .list _ => true
  | _ => false
def isIntB (d : PyData) : Bool := isInt d || isBool d
theorem isa_int (d : PyData) : kitB (tyName d) "int" = some (isIntB d) := by
  cases d
  · exact (by decide +kernel : kitB "NoneType" "int" = some false)
  · exact (by decide +kernel : kitB "bool" "int" = some true)
  · exact (by decide +kernel : kitB "int" "int" = some true)
  · exact (by decide +kernel : kitB "str" "int" = some false)
  · exact (by decide +kernel : kitB "list" "int" = some false)
  · exact (by decide +kernel : kitB "tuple" "int" = some false)
  · exact (by decide +kernel : kitB "dict" "int" = some false)
theorem isa_bool (d : PyData) : kitB (tyName d) "bool" = some (isBool d) := by
  cases d
  · exact (by decide +kernel : kitB "NoneType" "bool" = some false)
  · exact (by decide +kernel : kitB "bool" "bool" = some true)
  · exact (by decide +kernel : kitB "int" "bool" = some false)
  · exact (by decide +kernel : kitB "str" "bool" = some false)
  · exact (by decide +kernel : kitB "list" "bool" = some false)
  · exact (by decide +kernel : kitB "tuple" "bool" = some false)
  · exact (by decide +kernel : kitB "dict" "bool" = some false)
theorem isa_str (d : PyData) : kitB (tyName d) "str" = some (isStr d) := by
  cases d
  · exact (by decide +kernel : kitB "NoneType" "str" = some false)
  · exact (by decide +kernel : kitB "bool" "str" = some false)
  · exact (by decide +kernel : kitB "int" "str" = some false)
  · exact (by decide +kernel : kitB "str" "str" = some true)
  · exact (by decide +kernel : kitB "list" "str" = some false)
  · exact (by decide +kernel : kitB "tuple" "str" = some false)
  · exact (by decide +kernel : kitB "dict" "str" = some false)
theorem isa_tuple (d : PyData) : kitB (tyName d) "tuple" = some (isTuple d) := by
  cases d
  · exact (by decide +kernel : kitB "NoneType" "tuple" = some false)
  · exact (by decide +kernel : kitB "bool" "tuple" = some false)
  · exact (by decide +kernel : kitB "int" "tuple" = some false)
  · exact (by decide +kernel : kitB "str" "tuple" = some false)
  · exact (by decide +kernel : kitB "list" "tuple" = some false)
  · exact (by decide +kernel : kitB "tuple" "tuple" = some true)
  · exact (by decide +kernel : kitB "dict" "tuple" = some false)
theorem isa_list (d : PyData) : kitB (tyName d) "list" = some (isList d) := by
  cases d
  · exact (by decide +kernel : kitB "NoneType" "list" = some false)
  · exact (by decide +kernel : kitB "bool" "list" = some false)
  · exact (by decide +kernel : kitB "int" "list" = some false)
  · exact (by decide +kernel : kitB "str" "list" = some false)
  · exact (by decide +kernel : kitB "list" "list" = some true)
  · exact (by decide +kernel : kitB "tuple" "list" = some false)
  · exact (by decide +kernel : kitB "dict" "list" = some false)
/-- isinstance(x, T) of a datum -/
theorem isi_of {K : PySem.W.Frag} {H : Hp} {Q : VK} {v : V} {d : PyData} {T : String} {b : Bool} (h : Dv K H v d) (e : kitB (tyName d) T = some b) (q : Q (.bl b) H) : rIsi K [v, .ty T] H Q :=
  ⟨v, .ty T, _, _, b, rfl, .ty T, h.ty, kit_ty e, q⟩
/-! ### a def by its name: the promise goes with it -/
structure DefOk (P : Program) (w : World) (K : PySem.W.Frag) (mg : Str → Option Value) (base : Heap) (CX : CXT) (k : Nat) (x : Str) (ps : List Str) (sp : Sp) : Prop where
  ex : ∃ (f : Addr) (fd : FuncData), mg x = some (.ref f) ∧ PySem.W.keepIn K (.ref f) = true ∧ Binds K fd ps [] ∧ FnOk P w K mg base CX k f fd ps sp
theorem pe_def {X : Cx} {CX : CXT} {j k : Nat} {x : Str} {ps : List Str} {sp : Sp} {E : XK} {e : Expr} {es : List Expr} {p pos : Pos} {t : TA} (D : DefOk X.prog X.w X.K X.mg X.base CX j x ps sp) (hr : Room k X.A) (hx : Passes CX X E) (ha : PA X (e :: es) t) (hk : j ≤ k := by decide) (hg : Gl X x := by rfl)
    (hdb : (x == ("__debug__" : Str)) = false := by decide) (he : starEach (e :: es) X.env = (false, eval e X.env) :: starEach es X.env := by rfl) (hpl : (backTo pos (starEach es X.env)).any (·.1) = false := by rfl) :
    PE X (.Call (.Name x p) (e :: es) [] pos) (tCall sp [] E t) := by
  obtain ⟨f, fd, h1, h2, h3, h4⟩ := D.ex
  exact pe_call h4 (hr.mono hk) hg h1 h2 h3 .nil hx ha hdb he hpl
/-- the builtin isinstance -/
theorem pe_isi {X : Cx} {es : List Expr} {t : TA} {e : Expr} {p pos : Pos} (hm : X.mg "isinstance" = none) (ha : PA X (e :: es) t) (hg : Gl X "isinstance" := by rfl)
    (he : starEach (e :: es) X.env = (false, eval e X.env) :: starEach es X.env := by rfl) (hpl : (backTo pos (starEach es X.env)).any (·.1) = false := by rfl) :
    PE X (.Call (.Name "isinstance" p) (e :: es) [] pos) (tCB (rIsi X.K) t) :=
  pe_callB call_isi hg hm boot_isinstance ha (by decide) (by decide) he hpl
theorem same_upd {H : Hp} {p : Addr} {o : HO} (h : H p = none) : Same H (upd H p o) := fun b x e => by
  rw [upd_ne (ne_of_none e h)]
  exact e
end Pw
set_option maxHeartbeats 200000
/-! the program's own defs: what each hands back -/
namespace Pw
open PySem PySem.Spec PyProof.Rows L2
/-! ### the text -/
def topS (i : Nat) : Stmt := PySem.Challenge.pw_pullworks_k01_items_and_tests.main.body.getD i (.Pass ⟨0, 0, 0, 0⟩)
abbrev sInteger : Stmt := topS 5
abbrev sBetween : Stmt := topS 6
abbrev sParameter : Stmt := topS 7
abbrev sOneOf : Stmt := topS 9
abbrev sPasses : Stmt := topS 12
abbrev sHolds : Stmt := topS 13
abbrev sTest : Stmt := topS 14
abbrev sNegation : Stmt := topS 15
abbrev sPlain : Stmt := topS 16
abbrev sResidues : Stmt := topS 17
theorem scInteger : FnScope ["value"] ["value"] (defScope sInteger) := ⟨rfl, rfl, rfl, by decide +kernel, rfl, by decide +kernel, by decide +kernel⟩
theorem scBetween : FnScope ["value", "low", "high"] ["value", "low", "high"] (defScope sBetween) := ⟨rfl, rfl, rfl, by decide +kernel, rfl, by decide +kernel, by decide +kernel⟩
theorem scParameter : FnScope ["value"] ["value"] (defScope sParameter) := ⟨rfl, rfl, rfl, by decide +kernel, rfl, by decide +kernel, by decide +kernel⟩
theorem scOneOf : FnScope ["value", "words"] ["value", "words"] (defScope sOneOf) := ⟨rfl, rfl, rfl, by decide +kernel, rfl, by decide +kernel, by decide +kernel⟩
/-! ### a def of the text, by its name -/
structure Dfn (K : PySem.W.Frag) (mg : Str → Option Value) (x : Str) (st : Stmt) (ps : List Str) : Prop where
  ex : ∃ (f : Addr) (fd : FuncData), Fun K x x st f fd ∧ mg x = some (.ref f) ∧ Binds K fd ps []
theorem Dfn.ok {P : Program} {w : World} {K : PySem.W.Frag} {mg : Str → Option Value} {base : Heap} {CX : CXT} {k : Nat} {x : Str} {st : Stmt} {ps : List Str} {sp : Sp} (D : Dfn K mg x st ps)
    (h : ∀ f fd, Fun K x x st f fd → FnOk P w K mg base CX k f fd ps sp) : DefOk P w K mg base CX k x ps sp := by
  obtain ⟨f, fd, F, m, b⟩ := D.ex
  exact ⟨f, fd, m, F.kp, b, h f fd F⟩
/-- the built-ins that the program names are the built-ins -/
structure Blt (mg : Str → Option Value) : Prop where
  isi : mg "isinstance" = none
  int : mg "int" = none
  bool : mg "bool" = none
  str : mg "str" = none
  tuple : mg "tuple" = none
  list : mg "list" = none
  len : mg "len" = none
  all : mg "all" = none
  zip : mg "zip" = none
  range : mg "range" = none
  repr : mg "repr" = none
section
variable {P : Program} {w : World} {K : PySem.W.Frag} {mg : Str → Option Value} {base : Heap}
theorem pe_cls {X : Cx} {n : String} {p : Pos} (x : Str) (hm : X.mg x = none) (hg : Gl X x := by rfl) (hv : bootBuiltins x = some (.type n) := by decide +kernel) (hn : x ≠ "__name__" := by decide) (hdb : (x == ("__debug__" : Str)) = false := by decide) :
    PE X (.Name x p) (tC (.ty n)) := pe_bltn hg hm hv rfl hn hdb
theorem Qb {Q : VK} {H : Hp} {a b : Bool} (e : a = b) (q : Q (.bl b) H) : Q (.bl a) H := by
  rw [e]
  exact q
/-! ### is_integer -/
def spInteger (K : PySem.W.Frag) : Sp := fun vs H Q _ => ∃ x d, vs = [x] ∧ Dv K H x d ∧ Q (.bl (isInt d)) H
theorem fn_integer (B : Blt mg) (f : Addr) (fd : FuncData) (F : Fun K "is_integer" "is_integer" sInteger f fd) : FnOk P w K mg base CX0 1 f fd ["value"] (spInteger K) := by
  refine F.ok scInteger (fun vs H Q E h => ?_) (fun cdv A outer s H vs Q E hr h => ?_)
  · obtain ⟨x, d, rfl, _⟩ := h
    rfl
  · obtain ⟨x, d, rfl, hx, q⟩ := h
    refine ⟨_, pss_one (ps_ret (pe_and (pe_isi B.isi (pa_cons (pv 0) (pa_cons (pe_cls (n := "int") "int" B.int) pa_nil))) (pe_one (pe_not (pe_isi B.isi (pa_cons (pv 0) (pa_cons (pe_cls (n := "bool") "bool" B.bool) pa_nil))))))), ?_⟩
    refine ⟨x, rfl, _, _, _, _, _, rfl, .ty "int", hx.ty, kit_ty (isa_int d), _, rfl, ite2 (fun e => ?_) (fun e => ?_)⟩
    · refine ⟨x, rfl, _, _, _, _, _, rfl, .ty "bool", hx.ty, kit_ty (isa_bool d), _, rfl, ?_⟩
      have e2 : (!isBool d) = isInt d := by
        cases d <;> first | rfl | cases e
      exact Qb e2 q
    · have e2 : isInt d = false := by
        cases d <;> first | rfl | exact absurd rfl e
      rw [e2] at q
      exact q
theorem ok_integer (B : Blt mg) (D : Dfn K mg "is_integer" sInteger ["value"]) : DefOk P w K mg base CX0 1 "is_integer" ["value"] (spInteger K) := D.ok (fn_integer B)
/-! ### is_between -/
def between (d : PyData) (lo hi : Int) : Bool := match d with
  | .int i => decide (lo ≤ i) && decide (i ≤ hi)
  | _ => false
def spBetween (K : PySem.W.Frag) : Sp := fun vs H Q _ => ∃ x d lo hi, vs = [x, .int lo, .int hi] ∧ Dv K H x d ∧ Q (.bl (between d lo hi)) H
theorem ok_between (G : DefOk P w K mg base CX0 1 "is_integer" ["value"] (spInteger K)) (D : Dfn K mg "is_between" sBetween ["value", "low", "high"]) : DefOk P w K mg base CX0 2 "is_between" ["value", "low", "high"] (spBetween K) := D.ok fun f fd F => by
  refine F.ok scBetween (fun vs H Q E h => ?_) (fun cdv A outer s H vs Q E hr h => ?_)
  · obtain ⟨x, d, lo, hi, rfl, _⟩ := h
    rfl
  · obtain ⟨x, d, lo, hi, rfl, hx, q⟩ := h
    refine ⟨_, pss_one (ps_ret (pe_and (pe_def G hr pass0 (pa_cons (pv 0) pa_nil)) (pe_one (pe_chain op_le op_le (pv 1) (pv 0) (pv 2))))), ?_⟩
    refine ⟨x, rfl, x, d, rfl, hx, _, rfl, ite2 (fun e => ?_) (fun e => ?_)⟩
    · cases hx with
      | int i =>
        refine ⟨_, rfl, _, rfl, _, _, rfl, rfl, _, rfl, ite2 (fun e1 => ?_) (fun e1 => ?_)⟩
        · refine ⟨_, rfl, _, _, rfl, rfl, ?_⟩
          have z : decide (i ≤ hi) = between (.int i) lo hi := by
            show _ = (decide (lo ≤ i) && decide (i ≤ hi))
            rw [e1]
            rfl
          exact Qb z q
        · have z : false = between (.int i) lo hi := by
            show _ = (decide (lo ≤ i) && decide (i ≤ hi))
            rw [Bool.eq_false_iff.mpr e1]
            rfl
          exact Qb z q
      | _ => cases e
    · have z : between d lo hi = false := by
        cases d <;> first | rfl | exact absurd rfl e
      rw [z] at q
      exact q
/-! ### is_parameter -/
def isParam (d : PyData) : Bool := between d (-(10 ^ 30)) (10 ^ 30)
def spParameter (K : PySem.W.Frag) : Sp := fun vs H Q _ => ∃ x d, vs = [x] ∧ Dv K H x d ∧ Q (.bl (isParam d)) H
theorem ok_parameter (G : DefOk P w K mg base CX0 2 "is_between" ["value", "low", "high"] (spBetween K)) (D : Dfn K mg "is_parameter" sParameter ["value"]) : DefOk P w K mg base CX0 3 "is_parameter" ["value"] (spParameter K) := D.ok fun f fd F => by
  refine F.ok scParameter (fun vs H Q E h => ?_) (fun cdv A outer s H vs Q E hr h => ?_)
  · obtain ⟨x, d, rfl, _⟩ := h
    rfl
  · obtain ⟨x, d, rfl, hx, q⟩ := h
    refine ⟨_, pss_one (ps_ret (pe_def G hr pass0 (pa_cons (pv 0) (pa_cons (pe_un un_neg (pe_op op_pow pe_int pe_int)) (pa_cons (pe_op op_pow pe_int pe_int) pa_nil))))), ?_⟩
    exact ⟨x, rfl, _, _, rfl, rfl, ⟨by decide, by decide, by decide⟩, _, rfl, _, _, rfl, rfl, ⟨by decide, by decide, by decide⟩, x, d, _, _, rfl, hx, q⟩
/-! ### is_one_of -/
def oneOf (d : PyData) (ws : List Str) : Bool := match d with
  | .str s => decide (s ∈ ws)
  | _ => false
def spOneOf (K : PySem.W.Frag) : Sp := fun vs H Q _ => ∃ (x : V) (d : PyData) (wp : Addr) (ws : List Str), vs = [x, .ref wp] ∧ Dv K H x d ∧ SqT K H wp (ws.map V.str) ∧ Q (.bl (oneOf d ws)) H
theorem in_strs (s : Str) (ws : List Str) : inV (.str s) (ws.map V.str) = decide (s ∈ ws) := by
  unfold inV
  induction ws with
  | nil => rfl
  | cons a r ih =>
    rw [List.map_cons, List.any_cons, ih]
    show (a == s || decide (s ∈ r)) = decide (s ∈ a :: r)
    by_cases e : a = s
    · rw [beq_iff_eq.mpr e, e]
      simp
    · rw [beq_eq_false_iff_ne.mpr e]
      have e2 : ¬ s = a := fun z => e z.symm
      by_cases e3 : s ∈ r
      · simp [e3]
      · simp [e2, e3]
theorem flat_strs (ws : List Str) : (ws.map V.str).all flatV = true := by
  rw [List.all_eq_true]
  intro v hv
  obtain ⟨s, _, rfl⟩ := List.mem_map.mp hv
  rfl
theorem ok_oneOf (B : Blt mg) (D : Dfn K mg "is_one_of" sOneOf ["value", "words"]) : DefOk P w K mg base CX0 1 "is_one_of" ["value", "words"] (spOneOf K) := D.ok fun f fd F => by
  refine F.ok scOneOf (fun vs H Q E h => ?_) (fun cdv A outer s H vs Q E hr h => ?_)
  · obtain ⟨x, d, wp, ws, rfl, _⟩ := h
    rfl
  · obtain ⟨x, d, wp, ws, rfl, hx, hw, q⟩ := h
    refine ⟨_, pss_one (ps_ret (pe_and (pe_isi B.isi (pa_cons (pv 0) (pa_cons (pe_cls (n := "str") "str" B.str) pa_nil))) (pe_one (pe_cmpR op_in_seq (pv 0) (pv 1) (by rfl))))), ?_⟩
    refine ⟨x, rfl, _, _, _, _, _, rfl, .ty "str", hx.ty, kit_ty (isa_str d), _, rfl, ite2 (fun e => ?_) (fun e => ?_)⟩
    · cases hx with
      | str s =>
        refine ⟨_, rfl, _, rfl, wp, _, rfl, .inr hw, rfl, flat_strs ws, ?_⟩
        exact Qb (in_strs s ws) q
      | _ => cases e
    · have e2 : false = oneOf d ws := by
        cases d <;> first | rfl | exact absurd rfl e
      exact Qb e2 q
/-! ### is_negation -/
theorem scNegation : FnScope ["value"] ["value"] (defScope sNegation) := ⟨rfl, rfl, rfl, by decide +kernel, rfl, by decide +kernel, by decide +kernel⟩
def isNeg : PyData → Bool
  | .tuple [a, _] => oneOf a ["not"]
  | _ => false
def spNegation (K : PySem.W.Frag) : Sp := fun vs H Q _ => ∃ x d, vs = [x] ∧ Dv K H x d ∧ ∀ H', Same H H' → Q (.bl (isNeg d)) H'
theorem len2_iff {ds : List PyData} (h : ds.length = 2) : ∃ a b, ds = [a, b] := by
  match ds, h with
  | [a, b], _ => exact ⟨a, b, rfl⟩
theorem ok_negation (B : Blt mg) (G : DefOk P w K mg base CX0 1 "is_one_of" ["value", "words"] (spOneOf K)) (D : Dfn K mg "is_negation" sNegation ["value"]) : DefOk P w K mg base CX0 2 "is_negation" ["value"] (spNegation K) := D.ok fun f fd F => by
  refine F.ok scNegation (fun vs H Q E h => ?_) (fun cdv A outer s H vs Q E hr h => ?_)
  · obtain ⟨x, d, rfl, _⟩ := h
    rfl
  · obtain ⟨x, d, rfl, hx, q⟩ := h
    refine ⟨_, pss_one (ps_ret (pe_and (pe_isi B.isi (pa_cons (pv 0) (pa_cons (pe_cls (n := "tuple") "tuple" B.tuple) pa_nil)))
      (pe_and (pe_cmpR op_eq (pe_callB call_len_seq (by rfl) B.len PySem.boot_len (pa_cons (pv 0) pa_nil)) pe_int (nomark _))
        (pe_one (pe_def G hr pass0 (pa_cons (pe_ix ix_tup (pv 0) pe_int (fun _ _ => rfl)) (pa_cons (pe_tup (pa_cons pe_str pa_nil)) pa_nil))))))), ?_⟩
    refine ⟨x, rfl, _, _, _, _, _, rfl, .ty "tuple", hx.ty, kit_ty (isa_tuple d), _, rfl, ite2 (fun e => ?_) (fun e => ?_)⟩
    · cases hx with
      | @tup a xs ds ha hz hd =>
        have hl := hd.length
        refine ⟨.ref a, rfl, a, xs, rfl, .inr (SqT.of ha), rfl, _, rfl, ite2 (fun e1 => ?_) (fun e1 => ?_)⟩
        · have e2 : ds.length = 2 := by
            have z : (V.int xs.length) = V.int 2 := of_decide_eq_true e1
            injection z with z
            omega
          obtain ⟨d1, d2, rfl⟩ := len2_iff e2
          cases hd with
          | cons h1 h2 =>
            rename_i v1 vs1
            refine ⟨.ref a, rfl, a, _, _, _, rfl, rfl, SqT.of ha, atI_nat (j := 0) rfl, by show 1 ≤ sizeLine; decide, fun t ht => ?_⟩
            refine ⟨v1, d1, t, ["not"], rfl, h1.same (same_upd ht), SqT.of upd_same, ?_⟩
            exact q _ (same_upd ht)
        · have e2 : ds.length ≠ 2 := fun z => e1 (decide_eq_true (by rw [← hl] at z; rw [z] <;> rfl))
          have e3 : false = isNeg (.tuple ds) := by
            unfold isNeg
            split
            · rename_i h3
              injection h3 with h3
              subst h3
              exact absurd rfl e2
            · rfl
          exact Qb e3 (q _ (Same.refl _))
      | _ => cases e
    · have e2 : false = isNeg d := by
        cases d <;> first | rfl | exact absurd rfl e
      exact Qb e2 (q _ (Same.refl _))
end
end Pw
set_option maxHeartbeats 200000
/-! comprehensions over lists, and are_residues -/
namespace Pw
open PySem PySem.Spec PyProof.Rows L2
/-- [e for x in xs]: the items ys, one by one; what was tracked stays -/
theorem lc_map {K : PySem.W.Frag} {a : Addr} {xs ys : List V} {te : TE} {vs : List Nat} {j : Nat} {σ : L2.St} {H1 : Hp} {D : Addr} {Qd : Hp → Prop} (hS : SqL K H1 a xs) (nD : H1 D = none) (hl : ys.length = xs.length) (hz : xs.length < sizeLine)
    (hw : ∀ x, wipe ((wipe σ vs).set j (some x)) vs = wipe σ vs)
    (hs : ∀ (i : Nat) (x y : V) (H : Hp) (Q : VK), xs[i]? = some x → ys[i]? = some y → Same H1 H → (∀ H4, Same H H4 → Q y H4) → te ((wipe σ vs).set j (some x)) H Q)
    (hd : ∀ H, Same H1 H → H D = some (.lst ys) → Qd H) :
    ∃ W : Nat → Nat → Hp → Prop, (∃ m, W 0 m (upd H1 D (.lst []))) ∧ ∀ i m H, W i m H →
      ((Itl K a).stop i H ∧ Qd H) ∨ ((Itl K a).go i H ∧ ∃ Nx : Hp → Prop, (∀ H', Nx H' → ∃ m', m' < m ∧ W (i + 1) m' H') ∧ ∀ x H', (Itl K a).yld i H x H' → gName j x (wipe σ vs) H' fun σ2 H2 => wipe σ2 vs = wipe σ vs ∧ tYes σ2 H2 fun b H3 =>
        if b = true then te σ2 H3 fun y H4 => ∃ acc, H4 D = some (.lst acc) ∧ acc.length < sizeLine ∧ Nx (upd H4 D (.lst (acc ++ [y]))) else Nx H3) := by
  refine lc_list (K := K) (a := a) (xs := xs) (fun i H => Same H1 H ∧ H D = some (.lst (ys.take i))) ⟨same_upd nD, upd_same⟩ (fun i H hi p => p.1.seq hS) (fun i x H hx p => ?_) (fun H p => ?_)
  · obtain ⟨p1, p2⟩ := p
    refine ⟨hw x, ?_⟩
    show te _ _ _
    have hi : i < ys.length := by
      rw [hl]
      exact (List.getElem?_eq_some_iff.mp hx).1
    refine hs i x ys[i] H _ hx (List.getElem?_eq_getElem hi) p1 fun H4 s4 => ?_
    refine ⟨ys.take i, s4 _ _ p2, ?_, fun b o e => ?_, ?_⟩
    · rw [List.length_take]
      omega
    · rw [upd_ne (ne_of_none e nD)]
      exact s4 _ _ (p1 _ _ e)
    · rw [upd_same, List.take_add_one, List.getElem?_eq_getElem hi]
      rfl
  · obtain ⟨p1, p2⟩ := p
    rw [← hl, List.take_length] at p2
    exact hd H p1 p2
/-- [e for x, y in zip(xs, ys)] -/
theorem lc_zip {K : PySem.W.Frag} {a b : Addr} {xs xs' ys : List V} {te : TE} {vs : List Nat} {j j' : Nat} {σ : L2.St} {H1 : Hp} {D : Addr} {Qd : Hp → Prop} (hS : SqL K H1 a xs) (hS' : SqL K H1 b xs') (nD : H1 D = none) (hl : ys.length = min xs.length xs'.length) (hz : ys.length < sizeLine)
    (hw : ∀ x y, wipe (((wipe σ vs).set j (some x)).set j' (some y)) vs = wipe σ vs)
    (hs : ∀ (i : Nat) (x x' y : V) (H : Hp) (Q : VK), xs[i]? = some x → xs'[i]? = some x' → ys[i]? = some y → Same H1 H → (∀ H4, Same H H4 → Q y H4) → te (((wipe σ vs).set j (some x)).set j' (some x')) H Q)
    (hd : ∀ H, Same H1 H → H D = some (.lst ys) → Qd H) :
    ∃ W : Nat → Nat → Hp → Prop, (∃ m, W 0 m (upd H1 D (.lst []))) ∧ ∀ i m H, W i m H →
      ((Itz K a b).stop i H ∧ Qd H) ∨ ((Itz K a b).go i H ∧ ∃ Nx : Hp → Prop, (∀ H', Nx H' → ∃ m', m' < m ∧ W (i + 1) m' H') ∧ ∀ x H', (Itz K a b).yld i H x H' → gTup K 2 (gCons (gName j) (gCons (gName j') gNil)) x (wipe σ vs) H' fun σ2 H2 => wipe σ2 vs = wipe σ vs ∧ tYes σ2 H2 fun b H3 =>
        if b = true then te σ2 H3 fun y H4 => ∃ acc, H4 D = some (.lst acc) ∧ acc.length < sizeLine ∧ Nx (upd H4 D (.lst (acc ++ [y]))) else Nx H3) := by
  refine ⟨fun i m H => m = ys.length - i ∧ i ≤ ys.length ∧ Same H1 H ∧ H D = some (.lst (ys.take i)), ⟨ys.length, by simp, Nat.zero_le _, same_upd nD, upd_same⟩, ?_⟩
  rintro i m H ⟨rfl, hi, p1, p2⟩
  by_cases hlt : i < ys.length
  · have hx : i < xs.length := by omega
    have hy : i < xs'.length := by omega
    refine .inr ⟨⟨_, _, _, _, p1.seq hS, p1.seq hS', List.getElem?_eq_getElem hx, List.getElem?_eq_getElem hy⟩, fun H' => Same H1 H' ∧ H' D = some (.lst (ys.take (i + 1))), fun H' q => ⟨ys.length - (i + 1), by omega, rfl, hlt, q⟩, fun x H' y => ?_⟩
    obtain ⟨T, x1, x2, rfl, nT, rfl, f1, f2⟩ := y
    have e1 : x1 = xs[i] := Option.some.inj ((f1 _ (p1.seq hS)).symm.trans (List.getElem?_eq_getElem hx))
    have e2 : x2 = xs'[i] := Option.some.inj ((f2 _ (p1.seq hS')).symm.trans (List.getElem?_eq_getElem hy))
    subst e1 e2
    refine ⟨T, _, rfl, SqT.of upd_same, rfl, _, _, rfl, _, _, rfl, rfl, hw _ _, ?_⟩
    show te _ _ _
    have sT : Same H (upd H T (.tup [xs[i], xs'[i]])) := same_upd nT
    refine hs i _ _ ys[i] _ _ (List.getElem?_eq_getElem hx) (List.getElem?_eq_getElem hy) (List.getElem?_eq_getElem hlt) (p1.trans sT) fun H4 s4 => ?_
    refine ⟨ys.take i, s4 _ _ (sT _ _ p2), ?_, fun b o e => ?_, ?_⟩
    · rw [List.length_take]
      omega
    · rw [upd_ne (ne_of_none e nD)]
      exact s4 _ _ (sT _ _ (p1 _ _ e))
    · rw [upd_same, List.take_add_one, List.getElem?_eq_getElem hlt]
      rfl
  · have hie : i = ys.length := by omega
    subst hie
    rw [List.take_length] at p2
    refine .inl ⟨⟨_, _, p1.seq hS, p1.seq hS', ?_⟩, hd H p1 p2⟩
    omega
end Pw
set_option maxHeartbeats 200000
/-! are_residues, is_plain_test, is_test -/
namespace Pw
open PySem PySem.Spec PyProof.Rows L2
theorem scResidues : FnScope ["value", "modulus", "residue", "one", "other"] ["value", "modulus"] (defScope sResidues) := ⟨rfl, rfl, rfl, by decide +kernel, rfl, by decide +kernel, by decide +kernel⟩
/-- ascending, told of ints -/
def ascD : List PyData → Bool
  | .int a :: .int b :: r => decide (a < b) && ascD (.int b :: r)
  | _ => true
def residues (d : PyData) (m : Int) : Bool := match d with
  | .list ds => ds.all (fun e => between e 0 (m - 1)) && ascD ds
  | _ => false
theorem all_id (f : α → Bool) (ds : List α) : (ds.map f).all id = ds.all f := by
  induction ds with
  | nil => rfl
  | cons a r ih => rw [List.map_cons, List.all_cons, List.all_cons, ih]; rfl
/-- the pairs of neighbours -/
def ltPairs : List Int → List Bool
  | a :: b :: r => decide (a < b) :: ltPairs (b :: r)
  | _ => []
theorem ltPairs_len : ∀ ns : List Int, (ltPairs ns).length = ns.length - 1
  | [] => rfl
  | [_] => rfl
  | a :: b :: r => by
    show (ltPairs (b :: r)).length + 1 = _
    rw [ltPairs_len (b :: r)]
    simp
theorem ltPairs_get : ∀ (ns : List Int) (i : Nat) (x y : Int), ns[i]? = some x → ns[i + 1]? = some y → (ltPairs ns)[i]? = some (decide (x < y))
  | [], _, _, _, h, _ => by simp at h
  | [_], 0, _, _, _, h => by simp at h
  | [_], i + 1, _, _, h, _ => by simp at h
  | a :: b :: r, 0, x, y, h, h2 => by
    have e1 : a = x := Option.some.inj h
    have e2 : b = y := Option.some.inj h2
    rw [← e1, ← e2]
    rfl
  | a :: b :: r, i + 1, x, y, h, h2 => ltPairs_get (b :: r) i x y h h2
theorem ltPairs_all : ∀ ns : List Int, (ltPairs ns).all id = ascD (ns.map PyData.int)
  | [] => rfl
  | [_] => rfl
  | a :: b :: r => by
    show (decide (a < b) && (ltPairs (b :: r)).all id) = (decide (a < b) && ascD ((b :: r).map PyData.int))
    rw [ltPairs_all (b :: r)]
theorem ints_of {K : PySem.W.Frag} {H : Hp} {lo hi : Int} : ∀ {ds : List PyData} {vs : List V}, DvAll K H vs ds → ds.all (fun e => between e lo hi) = true → ∃ ns : List Int, ds = ns.map PyData.int ∧ vs = ns.map V.int
  | [], _, h, _ => by cases h; exact ⟨[], rfl, rfl⟩
  | d :: ds, _, h, e => by
    cases h with
    | cons h1 h2 =>
      rw [List.all_cons, Bool.and_eq_true] at e
      obtain ⟨ns, e1, e2⟩ := ints_of h2 e.2
      cases h1 with
      | int i => exact ⟨i :: ns, by rw [e1]; rfl, by rw [e2]; rfl⟩
      | _ => exact absurd e.1 Bool.false_ne_true
theorem cut1 (xs : List V) : cutV xs (some 1) none = xs.drop 1 := by
  unfold cutV
  rw [show HT.sIx xs.length 0 (some 1) = min 1 xs.length from HT.sIx_nat xs.length 0 1, HT.sIx_none]
  cases xs with
  | nil => rfl
  | cons x r =>
    rw [show min 1 (x :: r).length = 1 by
      rw [List.length_cons]
      omega]
    show (List.take ((x :: r).length - 1) r) = r
    rw [List.length_cons, Nat.add_sub_cancel]
    exact List.take_length
section
variable {P : Program} {w : World} {K : PySem.W.Frag} {mg : Str → Option Value} {base : Heap}
def spResidues (K : PySem.W.Frag) : Sp := fun vs H Q _ => ∃ (x : V) (d : PyData) (m : Int), vs = [x, .int m] ∧ Dv K H x d ∧ ∀ H', Same H H' → Q (.bl (residues d m)) H'
theorem ok_residues (B : Blt mg) (G : DefOk P w K mg base CX0 2 "is_between" ["value", "low", "high"] (spBetween K)) (D : Dfn K mg "are_residues" sResidues ["value", "modulus"]) : DefOk P w K mg base CX0 3 "are_residues" ["value", "modulus"] (spResidues K) := D.ok fun f fd F => by
  refine F.ok scResidues (fun vs H Q E h => ?_) (fun cdv A outer s H vs Q E hr h => ?_)
  · obtain ⟨x, d, m, rfl, _⟩ := h
    rfl
  · obtain ⟨x, d, m, rfl, hx, q⟩ := h
    refine ⟨_, pss_cons (ps_if (pt_not (pt_val (pe_isi B.isi (pa_cons (pv 0) (pa_cons (pe_cls (n := "list") "list" B.list) pa_nil))))) (pss_one (ps_ret pe_bl)) pss_nil)
      (pss_cons (ps_if (pt_not (pt_val (pe_callB (cr_all rfl) (by rfl) B.all (by decide +kernel) (pa_cons
          (pe_lc (own := [("residue", 2)]) (g := gName 2) (tt := tYes) rfl scResidues.nd (pi_list (pv 0)) (blkOk_by (N := ["value", "modulus", "residue", "one", "other"]) (sc := defScope sResidues) (by decide +kernel))
            (fun _ _ _ _ _ => pg_name (i := 2) scResidues.nd rfl (Or.inl rfl)) (fun _ _ _ _ _ => pts_nil)
            (fun _ _ _ _ _ => pe_def G hr pass0 (pa_cons (pv 2) (pa_cons pe_int (pa_cons (pe_op op_sub (pv 1) pe_int) pa_nil))))) pa_nil)))) (pss_one (ps_ret pe_bl)) pss_nil)
      (pss_one (ps_ret (pe_callB (cr_all rfl) (by rfl) B.all (by decide +kernel) (pa_cons
          (pe_lc (own := [("one", 3), ("other", 4)]) (g := gTup K 2 (gCons (gName 3) (gCons (gName 4) gNil))) (tt := tYes) rfl scResidues.nd (pi_zip (by rfl) B.zip (pa_cons (pv 0) (pa_cons (pe_slice sl_list (pv 0) (po_some pe_int) po_none) pa_nil))) (blkOk_by (N := ["value", "modulus", "residue", "one", "other"]) (sc := defScope sResidues) (by decide +kernel))
            (fun _ _ _ _ _ => pg_tup rfl (pgs_cons (pg_name (i := 3) scResidues.nd rfl (Or.inl rfl)) (pgs_cons (pg_name (i := 4) scResidues.nd rfl (Or.inl rfl)) pgs_nil))) (fun _ _ _ _ _ => pts_nil)
            (fun _ _ _ _ _ => pe_cmpR op_lt (pv 3) (pv 4) (nomark _))) pa_nil))))), ?_⟩
    refine ⟨x, rfl, _, _, _, _, _, rfl, .ty "list", hx.ty, kit_ty (isa_list d), _, rfl, ?_⟩
    cases hd : isList d with
    | false =>
      have z : residues d m = false := by
        cases d <;> first | rfl | cases hd
      rw [z] at q
      exact q _ (Same.refl _)
    | true =>
      cases hx with
      | @lst a xs ds ha hzz hds =>
        have hl := hds.length
        have hz : ds.length ≤ 1000 := by
          rw [← hl]
          exact hzz
        -- the first comprehension
        refine ⟨.ref a, rfl, a, rfl, ⟨_, SqL.of ha⟩, fun D1 nD1 => ?_⟩
        refine lc_map (ys := ds.map fun e => V.bl (between e 0 (m - 1))) (SqL.of ha) nD1 (by rw [List.length_map, hl]) (by rw [hl]; exact small1000 hz) (fun _ => rfl) (fun i v y H' Q' e1 e2 sm k => ?_) (fun H2 s2 eD => ?_)
        · obtain ⟨e, e3, e4⟩ := (hds.same sm).getV e1
          rw [List.getElem?_map, e3] at e2
          cases e2
          exact ⟨_, rfl, _, rfl, _, _, rfl, rfl, v, e, 0, m - 1, rfl, e4, k _ (Same.refl _)⟩
        · refine ⟨D1, ds.map fun e => between e 0 (m - 1), rfl, SqL.of (by rw [eD, List.map_map]; rfl), _, rfl, ?_⟩
          rw [all_id]
          cases ha1 : ds.all (fun e => between e 0 (m - 1)) with
          | false =>
            have z : residues (.list ds) m = false := by
              show (_ && _) = false
              rw [ha1]
              rfl
            rw [z] at q
            exact q _ s2
          | true =>
            obtain ⟨ns, rfl, rfl⟩ := ints_of hds ha1
            have ha2 := s2 _ _ ha
            rw [List.length_map] at hz
            refine ⟨.ref a, rfl, .ref a, rfl, _, rfl, a, _, rfl, SqL.of ha2, fun c nc => ?_⟩
            have sc := same_upd (o := HO.lst (cutV (ns.map V.int) (some 1) none)) nc
            have nca : a ≠ c := ne_of_none ha2 nc
            refine ⟨a, c, _, _, rfl, SqL.of (sc _ _ ha2), SqL.of upd_same, fun D2 nD2 => ?_⟩
            rw [cut1]
            have lz : (ltPairs ns).length = ns.length - 1 := ltPairs_len ns
            refine lc_zip (xs := ns.map V.int) (xs' := (ns.map V.int).drop 1) (ys := (ltPairs ns).map V.bl) (SqL.of (by rw [cut1] at sc; exact sc _ _ ha2)) (SqL.of upd_same) (by rw [cut1] at nD2; exact nD2)
              (by rw [List.length_map, List.length_drop, List.length_map, lz]; omega) (by rw [List.length_map, lz]; exact small1000 (by omega)) (fun _ _ => rfl) (fun i v v' y H' Q' e1 e2 e3 sm k => ?_) (fun H3 s3 eD3 => ?_)
            · rw [List.getElem?_map] at e1
              rw [List.getElem?_drop, List.getElem?_map] at e2
              obtain ⟨n1, g1, rfl⟩ := Option.map_eq_some_iff.mp e1
              obtain ⟨n2, g2, rfl⟩ := Option.map_eq_some_iff.mp e2
              rw [Nat.add_comm] at g2
              rw [List.getElem?_map, ltPairs_get ns i n1 n2 g1 g2] at e3
              cases e3
              exact ⟨_, rfl, _, rfl, _, _, rfl, rfl, k _ (Same.refl _)⟩
            · have z : residues (.list (ns.map PyData.int)) m = (ltPairs ns).all id := by
                show (_ && _) = _
                rw [ha1, ltPairs_all]
                rfl
              refine ⟨D2, ltPairs ns, rfl, SqL.of eD3, ?_⟩
              rw [← z]
              refine q _ ((s2.trans ?_).trans s3)
              rw [cut1] at sc
              exact sc
      | _ => cases hd
/-! ### is_plain_test -/
theorem scPlain : FnScope ["value"] ["value"] (defScope sPlain) := ⟨rfl, rfl, rfl, by decide +kernel, rfl, by decide +kernel, by decide +kernel⟩
def isPlain : PyData → Bool
  | .tuple [a, b] => oneOf a ["below", "from"] && isParam b
  | .tuple [a, .int m, c] => oneOf a ["mod"] && between (.int m) 1 100 && residues c m
  | _ => false
def spPlain (K : PySem.W.Frag) : Sp := fun vs H Q _ => ∃ (x : V) (d : PyData), vs = [x] ∧ Dv K H x d ∧ ∀ H', Same H H' → Q (.bl (isPlain d)) H'
theorem len3_iff {ds : List PyData} (h : ds.length = 3) : ∃ a b c, ds = [a, b, c] := by
  match ds, h with
  | [a, b, c], _ => exact ⟨a, b, c, rfl⟩
theorem int_len {n : Nat} {k : Nat} (h : decide (V.int (n : Int) = V.int (k : Int)) = true) : n = k := by
  have z := V.int.inj (of_decide_eq_true h)
  omega
theorem int_len_ne {n : Nat} {k : Nat} (h : ¬ decide (V.int (n : Int) = V.int (k : Int)) = true) : n ≠ k := fun z => h (decide_eq_true (by rw [z]))
theorem plain_other {ds : List PyData} (h2 : ds.length ≠ 2) (h3 : ds.length ≠ 3) : isPlain (.tuple ds) = false := by
  unfold isPlain
  split
  · rename_i e
    injection e with e
    subst e
    exact absurd rfl h2
  · rename_i e
    injection e with e
    subst e
    exact absurd rfl h3
  · rfl
theorem plain3 {a b c : PyData} (h : between b 1 100 = false) : isPlain (.tuple [a, b, c]) = false := by
  cases b with
  | int m =>
    show (_ && _ && _) = false
    rw [h]
    simp
  | _ => rfl
theorem ok_plain (B : Blt mg) (G1 : DefOk P w K mg base CX0 1 "is_one_of" ["value", "words"] (spOneOf K)) (G2 : DefOk P w K mg base CX0 3 "is_parameter" ["value"] (spParameter K)) (G3 : DefOk P w K mg base CX0 2 "is_between" ["value", "low", "high"] (spBetween K))
    (G4 : DefOk P w K mg base CX0 3 "are_residues" ["value", "modulus"] (spResidues K)) (D : Dfn K mg "is_plain_test" sPlain ["value"]) : DefOk P w K mg base CX0 4 "is_plain_test" ["value"] (spPlain K) := D.ok fun f fd F => by
  refine F.ok scPlain (fun vs H Q E h => ?_) (fun cdv A outer s H vs Q E hr h => ?_)
  · obtain ⟨x, d, rfl, _⟩ := h
    rfl
  · obtain ⟨x, d, rfl, hx, q⟩ := h
    refine ⟨_, pss_cons (ps_if (pt_not (pt_val (pe_isi B.isi (pa_cons (pv 0) (pa_cons (pe_cls (n := "tuple") "tuple" B.tuple) pa_nil))))) (pss_one (ps_ret pe_bl)) pss_nil)
      (pss_cons (ps_if (pt_cmpR op_eq (pe_callB call_len_seq (by rfl) B.len PySem.boot_len (pa_cons (pv 0) pa_nil)) pe_int (nomark _))
        (pss_one (ps_ret (pe_and (pe_def G1 hr pass0 (pa_cons (pe_ix ix_tup (pv 0) pe_int (fun _ _ => rfl)) (pa_cons (pe_tup (pa_cons pe_str (pa_cons pe_str pa_nil))) pa_nil)))
          (pe_one (pe_def G2 hr pass0 (pa_cons (pe_ix ix_tup (pv 0) pe_int (fun _ _ => rfl)) pa_nil)))))) pss_nil)
      (pss_cons (ps_if (pt_cmpR op_eq (pe_callB call_len_seq (by rfl) B.len PySem.boot_len (pa_cons (pv 0) pa_nil)) pe_int (nomark _))
        (pss_one (ps_ret (pe_and (pe_def G1 hr pass0 (pa_cons (pe_ix ix_tup (pv 0) pe_int (fun _ _ => rfl)) (pa_cons (pe_tup (pa_cons pe_str pa_nil)) pa_nil)))
          (pe_and (pe_def G3 hr pass0 (pa_cons (pe_ix ix_tup (pv 0) pe_int (fun _ _ => rfl)) (pa_cons pe_int (pa_cons pe_int pa_nil))))
            (pe_one (pe_def G4 hr pass0 (pa_cons (pe_ix ix_tup (pv 0) pe_int (fun _ _ => rfl)) (pa_cons (pe_ix ix_tup (pv 0) pe_int (fun _ _ => rfl)) pa_nil)))))))) pss_nil)
      (pss_one (ps_ret pe_bl)))), ?_⟩
    refine ⟨x, rfl, _, _, _, _, _, rfl, .ty "tuple", hx.ty, kit_ty (isa_tuple d), _, rfl, ?_⟩
    cases hd : isTuple d with
    | false =>
      have z : isPlain d = false := by
        cases d <;> first | rfl | cases hd
      rw [z] at q
      exact q _ (Same.refl _)
    | true =>
      cases hx with
      | @tup a xs ds ha hz hds =>
        have hl := hds.length
        refine ⟨.ref a, rfl, a, xs, rfl, .inr (SqT.of ha), rfl, _, rfl, ite2 (fun e => ?_) (fun e => ?_)⟩
        · have e2 : ds.length = 2 := hl.symm.trans (int_len e)
          obtain ⟨d1, d2, rfl⟩ := len2_iff e2
          cases hds with
          | cons h1 h2 =>
            cases h2 with
            | cons h2 h3 =>
              cases h3
              refine ⟨.ref a, rfl, a, _, _, _, rfl, rfl, SqT.of ha, atI_nat (j := 0) rfl, by show 2 ≤ sizeLine; decide, fun t ht => ?_⟩
              have s1 := same_upd (o := HO.tup [V.str "below", V.str "from"]) ht
              refine ⟨_, d1, t, ["below", "from"], rfl, h1.same s1, SqT.of upd_same, _, rfl, ite2 (fun e1 => ?_) (fun e1 => ?_)⟩
              · refine ⟨.ref a, rfl, a, _, _, _, rfl, rfl, SqT.of (s1 _ _ ha), atI_nat (j := 1) rfl, _, d2, rfl, h2.same s1, ?_⟩
                refine Qb ?_ (q _ s1)
                show _ = (_ && _)
                rw [e1]
                rfl
              · refine Qb ?_ (q _ s1)
                show _ = (_ && _)
                rw [Bool.eq_false_iff.mpr e1]
                rfl
        · have e2 : ds.length ≠ 2 := fun z => int_len_ne e (hl.trans z)
          refine ⟨.ref a, rfl, a, xs, rfl, .inr (SqT.of ha), rfl, _, rfl, ite2 (fun e => ?_) (fun e => ?_)⟩
          · have e3 : ds.length = 3 := hl.symm.trans (int_len e)
            obtain ⟨d1, d2, d3, rfl⟩ := len3_iff e3
            cases hds with
            | cons h1 h2 =>
              cases h2 with
              | cons h2 h3 =>
                cases h3 with
                | cons h3 h4 =>
                  cases h4
                  refine ⟨.ref a, rfl, a, _, _, _, rfl, rfl, SqT.of ha, atI_nat (j := 0) rfl, by show 1 ≤ sizeLine; decide, fun t ht => ?_⟩
                  have s1 := same_upd (o := HO.tup [V.str "mod"]) ht
                  refine ⟨_, d1, t, ["mod"], rfl, h1.same s1, SqT.of upd_same, _, rfl, ite2 (fun e1 => ?_) (fun e1 => ?_)⟩
                  · refine ⟨.ref a, rfl, a, _, _, _, rfl, rfl, SqT.of (s1 _ _ ha), atI_nat (j := 1) rfl, _, d2, 1, 100, rfl, h2.same s1, _, rfl, ite2 (fun e4 => ?_) (fun e4 => ?_)⟩
                    · cases h2 with
                      | int m =>
                        refine ⟨.ref a, rfl, a, _, _, _, rfl, rfl, SqT.of (s1 _ _ ha), atI_nat (j := 2) rfl, .ref a, rfl, a, _, _, _, rfl, rfl, SqT.of (s1 _ _ ha), atI_nat (j := 1) rfl, _, d3, m, rfl, h3.same s1, fun H' s2 => ?_⟩
                        refine Qb ?_ (q _ (s1.trans s2))
                        show _ = (_ && _ && _)
                        rw [e1, e4]
                        rfl
                      | _ => exact absurd e4 Bool.false_ne_true
                    · refine Qb ?_ (q _ s1)
                      exact (plain3 (Bool.eq_false_iff.mpr e4)).symm
                  · refine Qb ?_ (q _ s1)
                    cases d2 with
                    | int m =>
                      show _ = (_ && _ && _)
                      rw [Bool.eq_false_iff.mpr e1]
                      rfl
                    | _ => rfl
          · have e3 : ds.length ≠ 3 := fun z => int_len_ne e (hl.trans z)
            exact Qb (plain_other e2 e3).symm (q _ (Same.refl _))
      | _ => cases hd
end
end Pw
set_option maxHeartbeats 200000
/-! is_test, holds -/
namespace Pw
open PySem PySem.Spec PyProof.Rows L2
theorem scTest : FnScope ["value", "inner", "_"] ["value"] (defScope sTest) := ⟨rfl, rfl, rfl, by decide +kernel, rfl, by decide +kernel, by decide +kernel⟩
def unNot : Nat → PyData → PyData
  | 0, d => d
  | n + 1, .tuple [a, b] => if oneOf a ["not"] = true then unNot n b else .tuple [a, b]
  | _ + 1, d => d
def isTest (d : PyData) : Bool := isPlain (unNot 3 d)
theorem unNot_stop : ∀ (n : Nat) (d : PyData), isNeg d = false → unNot n d = d
  | 0, _, _ => rfl
  | n + 1, d, h => by
    unfold unNot
    split
    · rename_i e1 e2
      cases e2
    · rename_i a b e1
      have h' : oneOf a ["not"] = false := h
      rw [h', if_neg Bool.false_ne_true]
    · rfl
theorem isNeg_shape : ∀ {d : PyData}, isNeg d = true → ∃ a b, d = .tuple [a, b] ∧ oneOf a ["not"] = true := fun {d} h => by
  unfold isNeg at h
  split at h
  · exact ⟨_, _, rfl, h⟩
  · cases h
section
variable {P : Program} {w : World} {K : PySem.W.Frag} {mg : Str → Option Value} {base : Heap}
def spTest (K : PySem.W.Frag) : Sp := fun vs H Q _ => ∃ (x : V) (d : PyData), vs = [x] ∧ Dv K H x d ∧ ∀ H', Same H H' → Q (.bl (isTest d)) H'
theorem ok_test (B : Blt mg) {tm : Tok} (mN : mg "MOST_NOTS" = some (.int 3 tm)) (G1 : DefOk P w K mg base CX0 2 "is_negation" ["value"] (spNegation K)) (G2 : DefOk P w K mg base CX0 4 "is_plain_test" ["value"] (spPlain K))
    (D : Dfn K mg "is_test" sTest ["value"]) : DefOk P w K mg base CX0 5 "is_test" ["value"] (spTest K) := D.ok fun f fd F => by
  refine F.ok scTest (fun vs H Q E h => ?_) (fun cdv A outer s H vs Q E hr h => ?_)
  · obtain ⟨x, d, rfl, _⟩ := h
    rfl
  · obtain ⟨x, d, rfl, hx, q⟩ := h
    refine ⟨_, pss_cons (ps_set (i := 1) scTest.nd rfl (.inl rfl) (pv 0))
      (pss_cons (ps_for PassesOwn.never rfl (pi_range1 rfl B.range (pa_cons (pe_glob (v := .int 3) rfl mN ⟨_, rfl⟩) pa_nil)) (pg_name (i := 2) scTest.nd rfl (Or.inl rfl))
        (pss_cons (ps_if (pt_not (pt_val (pe_def G1 hr pass0 (pa_cons (pv 1) pa_nil)))) (pss_one ps_break) pss_nil)
        (pss_one (ps_set (i := 1) scTest.nd rfl (.inl rfl) (pe_ix ix_tup (pv 1) pe_int (fun _ _ => rfl))))))
      (pss_one (ps_ret (pe_def G2 hr pass0 (pa_cons (pv 1) pa_nil))))), ?_⟩
    refine ⟨x, rfl, 3, rfl, by decide, by decide, ?_⟩
    have fin : ∀ (y : V) (d' : PyData) (z : Option V) (H' : Hp), Same H H' → Dv K H' y d' → unNot 3 d = d' → ∃ v, ([some x, some y, z] : L2.St)[1]? = some (some v) ∧ spPlain K ([v] ++ []) H' Q E0 := fun y d' z H' sm hy e => by
      refine ⟨y, rfl, y, d', rfl, hy, fun H2 s2 => ?_⟩
      have e2 : isTest d = isPlain d' := by
        unfold isTest
        rw [e]
      rw [← e2]
      exact q _ (sm.trans s2)
    refine for_range (n := 3) (fun i σ H' => ∃ y d' z, σ = [some x, some y, z] ∧ Same H H' ∧ Dv K H' y d' ∧ unNot (3 - i) d' = unNot 3 d) ⟨x, d, none, rfl, Same.refl H, hx, rfl⟩ (fun i σ H' hi p => ?_) (fun σ H' p => ?_)
    · obtain ⟨y, d', z, rfl, sm, hy, e⟩ := p
      refine ⟨y, rfl, y, d', rfl, hy, fun H2 s2 => ⟨_, rfl, ?_⟩⟩
      cases hn : isNeg d' with
      | false =>
        rw [unNot_stop _ _ hn] at e
        exact fin y d' _ H2 (sm.trans s2) (hy.same s2) e.symm
      | true =>
        obtain ⟨a, b, rfl, ho⟩ := isNeg_shape hn
        cases hy with
        | @tup ad xs ds ha hz hds =>
          cases hds with
          | cons h1 h2 =>
            cases h2 with
            | cons h2 h3 =>
              cases h3
              rename_i v1 v2
              refine ⟨.ref ad, rfl, ad, _, _, v2, rfl, rfl, SqT.of (s2 _ _ ha), atI_nat (j := 1) rfl, v2, b, _, rfl, sm.trans s2, h2.same s2, ?_⟩
              rw [← e, show 3 - i = (3 - (i + 1)) + 1 by omega]
              show unNot (3 - (i + 1)) b = (if oneOf a ["not"] = true then unNot (3 - (i + 1)) b else .tuple [a, b])
              rw [if_pos ho]
    · obtain ⟨y, d', z, rfl, sm, hy, e⟩ := p
      exact fin y d' z H' sm hy e.symm
end
/-! ### tests as such -/
inductive Tst where
  | neg (t : Tst)
  | lt (v : Int)
  | ge (v : Int)
  | md (m : Int) (rs : List Int)
namespace Tst
def dat : Tst → PyData
  | neg t => .tuple [.str "not", t.dat]
  | lt v => .tuple [.str "below", .int v]
  | ge v => .tuple [.str "from", .int v]
  | md m rs => .tuple [.str "mod", .int m, .list (rs.map PyData.int)]
def holds : Tst → Int → Bool
  | neg t, i => !t.holds i
  | lt v, i => decide (i < v)
  | ge v, i => decide (i ≥ v)
  | md m rs, i => decide (i.fmod m ∈ rs)
def nots : Tst → Nat
  | neg t => t.nots + 1
  | _ => 0
def Ok : Tst → Prop
  | neg t => t.Ok
  | md m _ => m ≠ 0
  | _ => True
end Tst
theorem in_ints (k : Int) (ns : List Int) : inV (.int k) (ns.map V.int) = decide (k ∈ ns) := by
  unfold inV
  induction ns with
  | nil => rfl
  | cons a r ih =>
    rw [List.map_cons, List.any_cons, ih]
    show (a == k || decide (k ∈ r)) = decide (k ∈ a :: r)
    by_cases e : a = k
    · rw [beq_iff_eq.mpr e, e]
      simp
    · rw [beq_eq_false_iff_ne.mpr e]
      have e2 : ¬ k = a := fun z => e z.symm
      by_cases e3 : k ∈ r
      · simp [e3]
      · simp [e2, e3]
theorem flat_ints (ns : List Int) : (ns.map V.int).all flatV = true := by
  rw [List.all_eq_true]
  intro v hv
  obtain ⟨s, _, rfl⟩ := List.mem_map.mp hv
  rfl
theorem vals_ints {K : PySem.W.Frag} {H : Hp} : ∀ {ns : List Int} {vs : List V}, DvAll K H vs (ns.map PyData.int) → vs = ns.map V.int
  | [], _, h => by cases h; rfl
  | n :: ns, _, h => by
    cases h with
    | cons h1 h2 =>
      cases h1
      rw [vals_ints h2]
      rfl
theorem scHolds : FnScope ["test", "item", "word"] ["test", "item"] (defScope sHolds) := ⟨rfl, rfl, rfl, by decide +kernel, rfl, by decide +kernel, by decide +kernel⟩
section
variable {P : Program} {w : World} {K : PySem.W.Frag} {mg : Str → Option Value} {base : Heap}
def spHolds (K : PySem.W.Frag) (n : Nat) : Sp := fun vs H Q _ => ∃ (x : V) (t : Tst) (i : Int), vs = [x, .int i] ∧ Dv K H x t.dat ∧ t.Ok ∧ t.nots < n ∧ Q (.bl (t.holds i)) H
theorem ok_holds (D : Dfn K mg "holds" sHolds ["test", "item"]) : ∀ n : Nat, DefOk P w K mg base CX0 n "holds" ["test", "item"] (spHolds K n)
  | 0 => D.ok fun f fd F => ⟨fun vs H Q E h => (by obtain ⟨_, _, _, _, _, _, z, _⟩ := h; exact absurd z (Nat.not_lt_zero _)), fun A outer s H args us vs Q E hr e0 hb hv h => (by obtain ⟨_, _, _, _, _, _, z, _⟩ := h; exact absurd z (Nat.not_lt_zero _))⟩
  | n + 1 => by
    have G := ok_holds D n
    refine D.ok fun f fd F => ?_
    refine F.ok scHolds (fun vs H Q E h => ?_) (fun cdv A outer s H vs Q E hr h => ?_)
    · obtain ⟨x, t, i, rfl, _⟩ := h
      rfl
    · obtain ⟨x, t, i, rfl, hx, ok, hn, q⟩ := h
      refine ⟨_, pss_cons (ps_set (i := 2) scHolds.nd rfl (.inl rfl) (pe_ix ix_tup (pv 0) pe_int (fun _ _ => rfl)))
        (pss_cons (ps_if (pt_cmpR op_eq (pv 2) pe_str (nomark _)) (pss_one (ps_ret (pe_not (pe_def G hr pass0 (pa_cons (pe_ix ix_tup (pv 0) pe_int (fun _ _ => rfl)) (pa_cons (pv 1) pa_nil)) (Nat.le_refl _))))) pss_nil)
        (pss_cons (ps_if (pt_cmpR op_eq (pv 2) pe_str (nomark _)) (pss_one (ps_ret (pe_cmpR op_lt (pv 1) (pe_ix ix_tup (pv 0) pe_int (fun _ _ => rfl)) (nomark _)))) pss_nil)
        (pss_cons (ps_if (pt_cmpR op_eq (pv 2) pe_str (nomark _)) (pss_one (ps_ret (pe_cmpR op_ge (pv 1) (pe_ix ix_tup (pv 0) pe_int (fun _ _ => rfl)) (nomark _)))) pss_nil)
        (pss_one (ps_ret (pe_cmpR op_in_seq (pe_op op_modN (pv 1) (pe_ix ix_tup (pv 0) pe_int (fun _ _ => rfl))) (pe_ix ix_tup (pv 0) pe_int (fun _ _ => rfl)) (by rfl))))))), ?_⟩
      cases t with
      | neg t =>
        cases hx with
        | @tup a xs ds ha hz hds =>
          cases hds with
          | cons h1 h2 =>
            cases h1
            cases h2 with
            | cons h2 h3 =>
              cases h3
              refine ⟨.ref a, rfl, a, _, _, _, rfl, rfl, SqT.of ha, atI_nat (j := 0) rfl, _, rfl, rfl, _, rfl, ?_⟩
              refine ⟨.ref a, rfl, a, _, _, _, rfl, rfl, SqT.of ha, atI_nat (j := 1) rfl, _, rfl, _, t, i, rfl, h2, ok, Nat.lt_of_succ_lt_succ hn, _, rfl, q⟩
      | lt v =>
        cases hx with
        | @tup a xs ds ha hz hds =>
          cases hds with
          | cons h1 h2 =>
            cases h1
            cases h2 with
            | cons h2 h3 =>
              cases h3
              cases h2
              refine ⟨.ref a, rfl, a, _, _, _, rfl, rfl, SqT.of ha, atI_nat (j := 0) rfl, _, rfl, rfl, _, rfl, ?_⟩
              refine ⟨_, rfl, rfl, _, rfl, ?_⟩
              exact ⟨_, rfl, .ref a, rfl, a, _, _, _, rfl, rfl, SqT.of ha, atI_nat (j := 1) rfl, _, _, rfl, rfl, q⟩
      | ge v =>
        cases hx with
        | @tup a xs ds ha hz hds =>
          cases hds with
          | cons h1 h2 =>
            cases h1
            cases h2 with
            | cons h2 h3 =>
              cases h3
              cases h2
              refine ⟨.ref a, rfl, a, _, _, _, rfl, rfl, SqT.of ha, atI_nat (j := 0) rfl, _, rfl, rfl, _, rfl, ?_⟩
              refine ⟨_, rfl, rfl, _, rfl, ?_⟩
              refine ⟨_, rfl, rfl, _, rfl, ?_⟩
              exact ⟨_, rfl, .ref a, rfl, a, _, _, _, rfl, rfl, SqT.of ha, atI_nat (j := 1) rfl, _, _, rfl, rfl, q⟩
      | md m rs =>
        cases hx with
        | @tup a xs ds ha hz hds =>
          cases hds with
          | cons h1 h2 =>
            cases h1
            cases h2 with
            | cons h2 h3 =>
              cases h2
              cases h3 with
              | cons h3 h4 =>
                cases h4
                cases h3 with
                | @lst b ys es hb hy hes =>
                  have ey := vals_ints hes
                  subst ey
                  refine ⟨.ref a, rfl, a, _, _, _, rfl, rfl, SqT.of ha, atI_nat (j := 0) rfl, _, rfl, rfl, _, rfl, ?_⟩
                  refine ⟨_, rfl, rfl, _, rfl, ?_⟩
                  refine ⟨_, rfl, rfl, _, rfl, ?_⟩
                  refine ⟨_, rfl, .ref a, rfl, a, _, _, _, rfl, rfl, SqT.of ha, atI_nat (j := 1) rfl, i, m, rfl, rfl, ok, .ref a, rfl, a, _, _, _, rfl, rfl, SqT.of ha, atI_nat (j := 2) rfl, b, _, rfl, .inl (SqL.of hb), rfl, flat_ints rs, ?_⟩
                  exact Qb (in_ints _ _) q
end
end Pw
set_option maxHeartbeats 2000000
/-! own errors of one field over an own base over ArithmeticError -/
namespace PySem
namespace ErrX
open PySem.W PySem.Calls PyProof.Rows PySem.HandSPX Builtin Builtin.ObjectAttr
abbrev arTail : List Value := [.type "ArithmeticError", .type "Exception", .type "BaseException", .type "object"]
/-! ### the text of __init__ -/
def iA (fld : Str) (p1 p2 : Pos) : Arguments := { posonlyargs := [], args := [{ arg := "self", annotation := none, pos := p1 }, { arg := fld, annotation := none, pos := p2 }], vararg := none, kwonlyargs := [], kw_defaults := [], kwarg := none, defaults := [] }
def iB (fld : Str) (q1 q2 q3 q4 : Pos) : List Stmt := [.Assign [.Attribute (.Name "self" q1) fld q2] (.Name fld q3) q4]
def iS (fld : Str) : Scope := { kind := .function, names := [(PySem.Str.ofString "self", .local), (fld, .local)], isGenerator := false, isCoroutine := false, more := [] }
/-- what the written part says of an error class x with the field fld, at C, and of its __init__, at fI -/
structure ErrTxt (K : Frag) (mg : Str → Option Value) (x fld : Str) (C fI : Addr) : Prop where
  gC : mg x = some (.ref C)
  xI : excInitIn K C arTail "ArithmeticError.__new__" = true
  xO : excOver K C arTail = true
  sa : findIn K (.ref C) "__setattr__" = some (some (.builtin "object.__setattr__"))
  ga : findIn K (.ref C) "__getattribute__" = some (some (.builtin "BaseException.__getattribute__"))
  gg : findIn K (.ref C) "__getattr__" = some none
  noN : findIn K (.ref C) fld = some none
  iC : findIn K (.ref C) "__init__" = some (some (.ref fI))
  tC : typeIn K (.ref fI) = some (.type "function")
  kC : keepIn K (.ref C) = true
  exC : subIn K (.ref C) (.type "BaseException") = some true
  tyC : typeIn K (.ref C) = some (.type "type")
  hdC : hasDictIn K C = true
  fn : ∃ (qual : Str) (oc : Value) (od : Option Addr) (doc pm : Value) (an : Option Addr) (cdv ct : Value) (osl : Array (Option Value)) (p1 p2 q1 q2 q3 q4 : Pos),
    K.lookup fI = some ⟨oc, od, .func (fnOf "__init__" qual (iA fld p1 p2) (iB fld q1 q2 q3 q4) (iS fld) .none .none doc pm an cdv ct), osl⟩ ∧ codeIn K cdv qual = true
  bd : ∀ (qual : Str) (p1 p2 q1 q2 q3 q4 : Pos) (doc pm : Value) (an : Option Addr) (cdv ct u v : Value), bindArgs (fnOf "__init__" qual (iA fld p1 p2) (iB fld q1 q2 q3 q4) (iS fld) .none .none doc pm an cdv ct) ⟨[u, v], []⟩ = pure [(("self" : Str), u), (fld, v)]
  ns : fld ≠ "self"
  nd : (fld == ("__debug__" : Str)) = false
theorem one_size (v : Value) : [v].length ≤ sizeLine := by
  rw [sizeLine_eq]
  exact (by decide : 1 ≤ 16777216)
theorem ldC {M : Model} {s : Shared} {name : Str} {scope : Scope} {L a : Addr} {cd : Value} {m : Str → Option Value} {x : Str} {pos : Pos} {v : Value} {Q : Value → Shared → Prop} {A : Around} {E : Value → Shared → Prop} (hn : s.heap.Ns L m) (hv : m x = some v) (h : Q v s)
    (hk : scope.kind = .function) (hl : (envOfC name scope L a cd).kindOf x = some .local) (hd : (x == ("__debug__" : Str)) = false) :
    wpAny M A (eval (.Name x pos) (envOfC name scope L a cd)) Q E s := wpAny_Name (wpAny_loadName_local hk hl hn hv h) hd
/-- what __init__ leaves of a fresh exception at x -/
structure InitEnd (h h' : Heap) (fld : Str) (x C dx t1 : Addr) (v : Value) : Prop where
  keep : ∀ b o, b ≠ x → h.get? b = some o → h'.get? b = some o
  obj : h'.get? x = some { cls := .ref C, dict := some dx, data := .fields #[.ref t1, .none, .none, .none, .bool false, .none] }
  dbig : h.objs.size ≤ dx
  dne : dx ≠ x
  ns : h'.Ns1 dx (fun y => if y = fld then some v else none)
/-- a made one -/
structure OwnMade (h h' : Heap) (fld : Str) (e C d : Addr) (v : Value) : Prop where
  keep : ∀ b o, h.get? b = some o → h'.get? b = some o
  new : h.objs.size ≤ e
  obj : ∃ oe vs, h'.get? e = some oe ∧ oe.cls = .ref C ∧ oe.dict = some d ∧ oe.data = .fields vs ∧ vs[1]? = some .none
  dbig : h.objs.size ≤ d
  dne : d ≠ e
  ns : h'.Ns1 d (fun y => if y = fld then some v else none)
section
variable {prog : Program} {w : World} {A : Around} {E : Value → Shared → Prop} {R : Result → Shared → Prop} {s : Shared} {K : Frag} {mg : Str → Option Value} {x fld : Str} {C fI : Addr}
/-- the store of a first field -/
theorem store_first {name : Str} {tk : Tok} {v : Value} {a : Addr} {fv : Array Value} {hp : Heap} {g : Array GenState} {d : Drawn} {t : Nat} {os : OsState}
    (X : K.In hp) (hx : hp.get? a = some { cls := .ref C, data := .fields fv }) (hp' : excOver K C arTail = true) (hh : hasDictIn K C = true) (ha : findIn K (.ref C) name = some none)
    (hq : ∀ h' tk' dx, (∀ b o, b ≠ a → hp.get? b = some o → h'.get? b = some o) → hp.objs.size ≤ dx → dx ≠ a → h'.get? a = some { cls := .ref C, dict := some dx, data := .fields fv } →
      h'.Ns1 dx (fun y => if y = name then some v else none) → R (.ok (.ret .none)) ⟨h', g, d, tk', os⟩) :
    codeAny (model prog w) A (.call (.builtin "object.__setattr__") ⟨[.ref a, .str name tk, v], []⟩) R ⟨hp, g, d, t, os⟩ := by
  have hxs : a ≠ hp.objs.size := Nat.ne_of_lt (Heap.lt_size hx)
  have ht : takerIn K C name = some none := by
    unfold takerIn
    rw [ha]
    rfl
  refine osa_openX (ox := { cls := .ref C, data := .fields fv }) (od := none) (r := none) PySem.F.store_ArithmeticError X ⟨hx, rfl, rfl, trivial⟩ hp' ht fun b => ?_
  obtain ⟨cd, hc, hd'⟩ := any_some hh
  have hcls : Looks (model prog w) hp (classData C) cd := looks_clsIn X hc
  obtain ⟨nm, bs, mro, ns, qn, hd, sn, sb, ab, col, del⟩ := cd
  dsimp only at hd'
  subst hd'
  show wpAny _ _ (storeInOwnDict (.ref a) (.ref C) (.str name tk) name v b) _ _ _
  unfold storeInOwnDict ownDictForStores
  repeat (first | with_reducible refine store_in_new ?_ ?_ | with_reducible refine wpAny_loadPart_at hx ?_ | with_reducible refine hcls.at ?_ | wp_step)
  · exact ⟨_, #[], _, (Heap.get?_update_ne _ _ _ _ hxs.symm).trans (Heap.get?_push_at rfl rfl), rfl, fun e he => absurd he (by simp), fun _ => rfl⟩
  · intro h' tk' hn' hs
    have hx1 : (hp.push { cls := .type "dict", data := .dict #[] }).get? a = some { cls := .ref C, data := .fields fv } := Heap.get?_push_of_some _ hx
    refine hq h' tk' hp.objs.size (fun b o hb ho => ?_) (Nat.le_refl _) hxs.symm ?_ hn'
    · exact (hs.2 b (Nat.ne_of_lt (Heap.lt_size ho))).trans ((Heap.get?_update_ne _ _ _ _ hb).trans (Heap.get?_push_of_some _ ho))
    · exact (hs.2 a hxs).trans (Heap.get?_update_self _ hx1 rfl)
theorem cells_fld (fld self : Str) (p : Value × Value) (e : ¬ fld = self) : True := trivial
theorem err_init (T : ErrTxt K mg x fld C fI) {a t0 : Addr} {v : Value} (X : K.In s.heap) (hlim : s.heap.NoLimit) (hx : s.heap.get? a = some (excO C t0)) (hnx : K.lookup a = none) (hroom : A.depth < recursionLimit)
    (hq : ∀ h' tk dx, InitEnd s.heap h' fld a C dx t0 v → R (.ok (.ret .none)) { s with heap := h', toks := tk }) :
    codeAny (model prog w) A (.call (.ref fI) ⟨[.ref a, v], []⟩) R s := by
  obtain ⟨qual, oc, od, doc, pm, an, cdv, ct, osl, p1, p2, q1, q2, q3, q4, ho, hcd⟩ := T.fn
  have hns : (fld == ("self" : Str)) = false := beq_eq_false_iff_ne.mpr T.ns
  have hsn : (("self" : Str) == fld) = false := beq_eq_false_iff_ne.mpr (Ne.symm T.ns)
  have kSelf : (iS fld).names.lookup ("self" : Str) = some .local := by
    show List.lookup ("self" : Str) [(("self" : Str), NameKind.local), (fld, NameKind.local)] = _
    simp [List.lookup]
  have kFld : (iS fld).names.lookup fld = some .local := by
    show List.lookup fld [(("self" : Str), NameKind.local), (fld, NameKind.local)] = _
    simp [List.lookup, hns]
  have bnd := T.bd qual p1 p2 q1 q2 q3 q4 doc pm an cdv ct (.ref a) v
  refine Att.call_fn (binds := [(("self" : Str), .ref a), (fld, v)]) X hlim ho hcd hroom (BindsTo.of_eq bnd) (by simp only [List.all_cons, List.all_nil, kSelf, kFld]; rfl) (fun s1 IC => ?_) rfl rfl rfl
  obtain ⟨h1, tk1, rfl⟩ := IC.toInCall.same
  have k : ∀ b o, s.heap.get? b = some o → h1.get? b = some o := IC.toInCall.keep
  have hn := IC.toInCall.ns
  have X1 : K.In h1 := X.keeps k
  have hx1 := k _ _ hx
  have ks : (envOfC qual (iS fld) s.heap.objs.size fI cdv).kindOf ("self" : Str) = some .local := kSelf
  have kf : (envOfC qual (iS fld) s.heap.objs.size fI cdv).kindOf fld = some .local := kFld
  show wpAny _ _ (execs _ _) _ _ _
  refine wpAny_execs_cons (plainObj_wpAny_Assign_Attribute ?_)
  refine ldC (v := v) hn ?_ (ldC (v := .ref a) hn ?_ ?_ rfl ks (by decide)) rfl kf T.nd
  · simp [bindL, ks, kf, T.ns]
  · simp [bindL, ks, kf, Ne.symm T.ns]
  refine set_plain X1 (ox := excO C t0) (od := none) ⟨hx1, rfl, rfl, trivial⟩ T.sa ?_
  refine store_first X1 hx1 T.xO T.hdC T.noN (fun h3 tk3 dx k3 dn dne hx3 hn3 => ?_)
  show wpAny _ _ (execs _ _) _ _ _
  have z : s.heap.objs.size < h1.objs.size := hn.lt
  exact wpAny_execs_nil (hq h3 tk3 dx ⟨fun b o hb e => k3 b o hb (k b o e), hx3, Nat.le_of_lt (Nat.lt_of_lt_of_le z dn), dne, hn3⟩)
theorem err_made (T : ErrTxt K mg x fld C fI) {v : Value} (X : K.In s.heap) (hlim : s.heap.NoLimit) (hroom : A.depth + 1 < recursionLimit)
    (hq : ∀ h' tk e d, OwnMade s.heap h' fld e C d v → R (.ok (.ret (.ref e))) { s with heap := h', toks := tk }) :
    codeAny (model prog w) A (.call (.ref C) ⟨[v], []⟩) R s := by
  obtain ⟨nm, N, qn, bs, bm, hdct, sn, sub, ab, col, dd, k0, k1, k2, k3, k5, hC, hbm⟩ := excInit_of X T.xI
  obtain ⟨hp, g, dr, tk, os⟩ := s
  have k : ∀ b o, hp.get? b = some o → ((hp.push (kdv_tup [v])).push (excO C hp.objs.size)).get? b = some o := fun b o e => Heap.get?_push_of_some _ (Heap.get?_push_of_some _ e)
  have hget : ((hp.push (kdv_tup [v])).push (excO C hp.objs.size)).get? (hp.objs.size + 1) = some (excO C hp.objs.size) := by heap_get
  have hnx : K.lookup (hp.objs.size + 1) = none := by
    cases e : K.lookup (hp.objs.size + 1) with
    | none => rfl
    | some o =>
      have z : hp.get? (hp.objs.size + 1) = some o := X _ _ e
      exact absurd (Nat.lt_of_succ_lt (Heap.lt_size z)) (Nat.lt_irrefl _)
  refine call_own PySem.F.excBase_ArithmeticError hbm hC (looks_findIn X T.iC) (fun self => bind_fn X self T.tC) (one_size v) ?_
  refine err_init (s := ⟨(hp.push (kdv_tup [v])).push (excO C hp.objs.size), g, dr, tk, os⟩) T (X.keeps k) (hlim.keeps k) hget hnx ?_ fun h' tk' dx ⟨k', hx, dn, dne, hns⟩ => ?_
  · show A.depth + 1 < recursionLimit
    exact hroom
  · have old : ∀ b o, hp.get? b = some o → h'.get? b = some o := fun b o e => k' b o (Nat.ne_of_lt (Nat.lt_succ_of_lt (Heap.lt_size e))) (k b o e)
    have z : hp.objs.size + 1 + 1 ≤ dx := by
      first
        | (simpa only [Heap.size_push] using dn)
        | exact dn
        | (have q := dn; rw [Heap.size_push, Heap.size_push] at q; exact q)
    exact ⟨rfl, hq h' tk' (hp.objs.size + 1) dx ⟨old, Nat.le_succ _, ⟨_, _, hx, rfl, rfl, rfl, rfl⟩, Nat.le_trans (Nat.le_trans (Nat.le_succ _) (Nat.le_succ _)) z, dne, hns⟩⟩
end
end ErrX
end PySem
set_option maxHeartbeats 2000000
/-! raising such an error, reading its field, asking its class -/
namespace L2
open PySem PySem.Spec PyProof.Rows
theorem relO_fld {fld : Str} {v : V} {v' : Value} (r : RelV v v') (f : Str) : RelO (List.lookup f [(fld, v)]) (if f = fld then some v' else none) := by
  by_cases hw : f = fld
  · subst hw
    rw [if_pos rfl]
    have q : List.lookup f [(f, v)] = some v := by simp [List.lookup]
    rw [q]
    exact r
  · rw [if_neg hw]
    have qw : (f == fld) = false := by simpa using hw
    have q2 : List.lookup f [(fld, v)] = none := by simp [List.lookup, qw]
    rw [q2]
    trivial
section
variable {X : Cx} {C fI : Addr} {x fld : Str}
/-- X(e) -/
def tMkErr (C : Addr) (fld : Str) (ta : TA) : L2.St → Hp → XK → Prop := fun σ H Q => ta σ H fun vs H1 => ∃ v, vs = [v] ∧ ∀ d, H1 d = none → Q (.ref C) (some d) (upd H1 d (.xd [(fld, v)]))
theorem pmk_err {a : Expr} {ta : TA} {p pos : Pos} {k : Nat} (T : PySem.ErrX.ErrTxt X.K X.mg x fld C fI) (hr : Room k X.A) (ha : PA X [a] ta) (hg : Gl X x := by rfl) (hdb : (x == ("__debug__" : Str)) = false := by decide)
    (he : starEach (a :: []) X.env = (false, eval a X.env) :: starEach [] X.env := by rfl) (hpl : (backTo pos (starEach [] X.env)).any (·.1) = false := by rfl) :
    PMk X (.Call (.Name x p) [a] [] pos) (tMkErr C fld ta) := by
  intro pins s σ H Q I h
  refine wpAny_Call_Name_kw (ld_glob I hg T.gC ?_ hdb)
  refine PySem.W.callWith_K (h₀ := X.base) I.ok.mod.kin T.kC (thn (ha.run pos pins s σ H _ I h) fun us s1 hh => ?_) he hpl
  obtain ⟨vs, H1, I1, r1, v, ev, q1⟩ := hh
  subst ev
  refine ⟨I1.kIn, ?_⟩
  cases r1 with
  | cons rv rn =>
    rename_i v' us'
    cases rn
    show wpAny _ _ (call (.ref C) [v']) _ _ _
    have hlim := I1.nolimit
    obtain ⟨hp, g, dr, tk, os⟩ := s1
    refine wpAny_call (PySem.ErrX.err_made T I1.kIn hlim (by have := hr.dp; omega) fun h' tk' e d M => ?_)
    show MkP X pins σ Q (.ref e) ⟨h', g, dr, tk', os⟩
    obtain ⟨oe, fv, hoe, hc, hd, hdat, h1⟩ := M.obj
    have hns := M.ns
    obtain ⟨G', g1, g2⟩ := restrict h' fun b => decide (b ≠ e)
    have gk : ∀ b, b ≠ e → G'.get? b = h'.get? b := fun b hb => g1 b (decide_eq_true hb)
    have ge : G'.get? e = none := g2 e (by simp)
    have old : ∀ b o, hp.get? b = some o → G'.get? b = some o := fun b o q => (gk b (Nat.ne_of_lt (Nat.lt_of_lt_of_le (Heap.lt_size q) M.new))).trans (M.keep b o q)
    have ob : ObjOk X.prog X.w (upd H1 d (.xd [(fld, v)])) G' d (.xd [(fld, v)]) :=
      ⟨_, hns.at (fun o q => (gk d M.dne).trans q), fun f => relO_fld rv f⟩
    have J : Inv X pins σ (upd H1 d (.xd [(fld, v)])) ⟨G', g, dr, tk', os⟩ := I1.laid (t' := tk') old M.dbig ob
    refine ⟨e, oe, fv, ⟨G', g, dr, tk', os⟩, _, .ref C, some d, rfl, J, fun b o q => ?_, ge, hoe, ⟨hc, hd⟩, hdat, h1, ?_, rfl, I1.bare, raises_own T.exC T.tyC, q1 d (I1.hok.fresh M.dbig)⟩
    · by_cases hb : b = e
      · have q' : G'.get? b = some o := q
        rw [hb, ge] at q'; cases q'
      · exact (gk b hb).symm.trans q
    · rw [upd_ne (Ne.symm M.dne)]
      exact I1.hok.fresh M.new
/-- raise X(e) -/
def tRaiseErr (C : Addr) (fld : Str) (W : WX) (ta : TA) : TS := fun _ σ H => tMkErr C fld ta σ H fun cls d H' => W cls d σ H'
theorem ps_raiseErr {a : Expr} {ta : TA} {W : WX} {p pos pos2 : Pos} {k : Nat} (hc : X.calm = true) (T : PySem.ErrX.ErrTxt X.K X.mg x fld C fI) (hr : Room k X.A) (tk : Takes X W) (ha : PA X [a] ta) (hg : Gl X x := by rfl) (hdb : (x == ("__debug__" : Str)) = false := by decide)
    (he : starEach (a :: []) X.env = (false, eval a X.env) :: starEach [] X.env := by rfl) (hpl : (backTo pos (starEach [] X.env)).any (·.1) = false := by rfl) :
    PS X (.Raise (some (.Call (.Name x p) [a] [] pos)) none pos2) (tRaiseErr C fld W ta) := ps_raise hc tk (pmk_err T hr ha hg hdb he hpl)
/-- e.f, e the exception that the suite holds -/
def tErrFld (C : Addr) (fld : Str) (a : Addr) (cls : Value) (d : Option Addr) (te : TE) : TE := fun σ H Q => te σ H fun x H1 => x = .ref a ∧ cls = .ref C ∧ ∃ (dd : Addr) (v : V), d = some dd ∧ H1 dd = some (.xd [(fld, v)]) ∧ Q v H1
theorem pe_errFld {a : Addr} {oe : Obj} {cls : Value} {d : Option Addr} {pn : List (Addr × Obj)} {e : Expr} {te : TE} {pos : Pos} (T : PySem.ErrX.ErrTxt X.K X.mg x fld C fI) (hz : Zc cls d oe) (hf : ∃ vs, oe.data = .fields vs) (he : PE (X.suite a ((a, oe) :: pn)) e te)
    (hb : attributeBase e fld X.env (eval e X.env) = eval e X.env := by rfl) :
    PE (X.suite a ((a, oe) :: pn)) (.Attribute e fld pos) (tErrFld C fld a cls d te) := by
  refine ⟨fun pins s σ H Q I h => ?_⟩
  refine attr_of hb (thn (he.run pins s σ H _ I h) fun u s1 hh => ?_)
  obtain ⟨x, H1, I1, rx, ex, ec, dd, v, ed, ea, q⟩ := hh
  subst ex
  obtain rfl : u = Value.ref a := rx
  subst ec
  subst ed
  obtain ⟨ha, _⟩ := I1.pin (a, oe) (List.mem_append_left _ List.mem_cons_self)
  obtain ⟨vs, hd⟩ := hf
  have hx : ObjOk X.prog X.w H1 s1.heap dd (.xd [(fld, v)]) := I1.hok dd _ ea
  obtain ⟨mA, hns, hr⟩ := hx
  obtain ⟨od, ho, hl⟩ := lookIn_ns hns
  have l : List.lookup fld [(fld, v)] = some v := by simp [List.lookup]
  obtain ⟨u, hu, ru⟩ := RelO.some_of (v := v) (o := mA fld) (by rw [← l]; exact hr fld)
  have J : PySem.W.InstAt s1.heap a oe C (some od) := ⟨ha, hz.1, by unfold PySem.W.notCls; rw [hd] <;> rfl, by rw [hz.2]; exact ho⟩
  exact HandSPX.exc_get I1.kIn J T.ga T.gg T.exC (PySem.W.findObj_own T.hdC T.noN rfl (by rw [hl, hu])) (handed_of ru) ⟨v, H1, I1.tok _, ru, q⟩
/-- isinstance(e, c), e the exception that the suite holds, with its own dict -/
theorem call_isED {a : Addr} {cls : Value} {oe : Obj} {pn : List (Addr × Obj)} {d : Option Addr} (hz : Zc cls d oe) (hf : ∃ vs, oe.data = .fields vs) :
    CallR (X.suite a ((a, oe) :: pn)) (.builtin "isinstance") (fun xs H Q => ∃ (D : Addr) (c : V) (cv : Value) (b : Bool) (dd : Addr) (fs : List (Str × V)), cls = .ref D ∧ ExcC X.K D ∧ xs = [.ref a, c] ∧ (∀ u, RelV c u → u = cv) ∧ d = some dd ∧ H dd = some (.xd fs) ∧ PySem.W.kitOne X.K (.ref D) cv = some b ∧ Q (.bl b) H) := by
  intro pins s σ H xs us Q I r h
  obtain ⟨D, c, cv, b, dd, fs, rfl, E, rfl, hcv, rfl, ea, e, q⟩ := h
  cases r with
  | cons rx rr =>
    cases rr with
    | cons rt rr =>
      cases rr
      cases rx
      have ec := hcv _ rt
      subst ec
      obtain ⟨hget, _⟩ := I.pin (a, oe) (List.mem_append.mpr (.inl List.mem_cons_self))
      obtain ⟨vs, hv⟩ := hf
      have hx : ObjOk X.prog X.w H s.heap dd (.xd fs) := I.hok dd _ ea
      obtain ⟨mA, hns, hr⟩ := hx
      obtain ⟨od, ho, hl⟩ := lookIn_ns hns
      have J : PySem.W.InstAt s.heap a oe D (some od) := ⟨hget, hz.1, by unfold PySem.W.notCls; rw [hv] <;> rfl, by rw [hz.2]; exact ho⟩
      have hcl : (PySem.W.clsIn X.K D).isSome = true := by
        obtain ⟨cd, hc, _⟩ := PySem.W.any_some E.hd
        rw [hc]
        rfl
      exact PySem.W.kia_one (PySem.W.kitx_exc hcl E.hg E.hk E.hs E.ha E.hn E.ht E.hm) I.kIn J e (fun z => nomatch z) fun tk => ⟨.bl b, H, I.kept (t' := tk) fun _ _ z => z, rfl, q⟩
end
end L2
set_option maxHeartbeats 200000
/-! passes -/
namespace Pw
open PySem PySem.Spec PyProof.Rows L2
theorem scPasses : FnScope ["test", "item"] ["test", "item"] (defScope sPasses) := ⟨rfl, rfl, rfl, by decide +kernel, rfl, by decide +kernel, by decide +kernel⟩
/-- the two error classes -/
structure Errs (K : PySem.W.Frag) (mg : Str → Option Value) (CT fT CB fB : Addr) : Prop where
  t : PySem.ErrX.ErrTxt K mg "InvalidTest" "test" CT fT
  b : PySem.ErrX.ErrTxt K mg "InvalidBound" "part" CB fB
section
variable {P : Program} {w : World} {K : PySem.W.Frag} {mg : Str → Option Value} {base : Heap} {CT fT CB fB : Addr}
def spPasses (K : PySem.W.Frag) (CT CB : Addr) : Sp := fun vs H Q E => ∃ (x y : V) (d e : PyData), vs = [x, y] ∧ Dv K H x d ∧ Dv K H y e ∧
  (isTest d = false → ∀ (H' : Hp) (dd : Addr), Same H H' → H' dd = none → E (.ref CT) (some dd) (upd H' dd (.xd [("test", x)]))) ∧
  (isTest d = true → isInt e = false → ∀ (H' : Hp) (dd : Addr), Same H H' → H' dd = none → E (.ref CB) (some dd) (upd H' dd (.xd [("part", .str "item")]))) ∧
  (isTest d = true → isInt e = true → ∃ (t : Tst) (i : Int), d = t.dat ∧ e = .int i ∧ t.Ok ∧ t.nots < 4 ∧ ∀ H', Same H H' → Q (.bl (t.holds i)) H')
theorem fn_passes (R : Errs K mg CT fT CB fB) (G1 : DefOk P w K mg base CX0 5 "is_test" ["value"] (spTest K)) (G2 : DefOk P w K mg base CX0 1 "is_integer" ["value"] (spInteger K)) (G3 : DefOk P w K mg base CX0 4 "holds" ["test", "item"] (spHolds K 4))
    (f : Addr) (fd : FuncData) (F : Fun K "passes" "passes" sPasses f fd) : FnOk P w K mg base (L2.CX P w) 6 f fd ["test", "item"] (spPasses K CT CB) := by
  refine F.okX scPasses (fun vs H Q E h => ?_) (fun cdv A outer s H vs Q E hr h => ?_)
  · obtain ⟨x, y, d, e, rfl, _⟩ := h
    rfl
  · obtain ⟨x, y, d, e, rfl, hx, hy, h1, h2, h3⟩ := h
    refine ⟨_, pss_cons (ps_if (pt_not (pt_val (pe_def G1 hr pass0 (pa_cons (pv 0) pa_nil)))) (pss_one (ps_raiseErr (W := fun cls d _ H => E cls d H) rfl R.t hr (takes_of rfl rfl rfl rfl) (by exact (pa_cons (pv 0) pa_nil)))) pss_nil)
      (pss_cons (ps_if (pt_not (pt_val (pe_def G2 hr pass0 (pa_cons (pv 1) pa_nil)))) (pss_one (ps_raiseErr (W := fun cls d _ H => E cls d H) rfl R.b hr (takes_of rfl rfl rfl rfl) (by exact (pa_cons pe_str pa_nil)))) pss_nil)
      (pss_one (ps_ret (pe_def G3 hr pass0 (pa_cons (pv 0) (pa_cons (pv 1) pa_nil)))))), ?_⟩
    refine ⟨x, rfl, x, d, rfl, hx, fun H1 s1 => ⟨_, rfl, ?_⟩⟩
    cases ht : isTest d with
    | false =>
      exact ⟨x, rfl, x, rfl, fun dd hd => h1 ht H1 dd s1 hd⟩
    | true =>
      refine ⟨y, rfl, y, e, rfl, hy.same s1, _, rfl, ?_⟩
      cases hi : isInt e with
      | false =>
        exact ⟨_, rfl, fun dd hd => h2 ht hi H1 dd s1 hd⟩
      | true =>
        obtain ⟨t, i, rfl, rfl, ok, hn, q⟩ := h3 ht hi
        cases hy
        exact ⟨x, rfl, _, rfl, x, t, i, rfl, hx.same s1, ok, hn, q _ s1⟩
theorem ok_passes (R : Errs K mg CT fT CB fB) (G1 : DefOk P w K mg base CX0 5 "is_test" ["value"] (spTest K)) (G2 : DefOk P w K mg base CX0 1 "is_integer" ["value"] (spInteger K)) (G3 : DefOk P w K mg base CX0 4 "holds" ["test", "item"] (spHolds K 4))
    (D : Dfn K mg "passes" sPasses ["test", "item"]) : DefOk P w K mg base (L2.CX P w) 6 "passes" ["test", "item"] (spPasses K CT CB) := D.ok (fn_passes R G1 G2 G3)
end
end Pw
set_option maxHeartbeats 200000
/-! repr of data -/
namespace Pw
open PySem PySem.Spec PyProof.Rows L2
/-! ### how long a text is -/
mutual
def cost : PyData → Nat
  | .none => 5
  | .bool _ => 5
  | .int i => i.natAbs.log2 + 2
  | .str x => (reprText x).length
  | .list xs => costAll xs + 4
  | .tuple xs => costAll xs + 4
  | .dict kvs => (dictText (PyData.shownKv kvs)).length
def costAll : List PyData → Nat
  | [] => 0
  | x :: xs => cost x + 2 + costAll xs
end
theorem textFrom_le : ∀ (ts : List Str) (k : Nat) (acc : Str), (textFrom k acc ts).length ≤ acc.length + piled ts
  | [], k, acc => Nat.le_add_right _ _
  | t :: r, k, acc => by
    have ih := textFrom_le r (k + 1) (acc ++ (if k > 0 then ", " else "" : String) ++ t)
    have sep : ((if k > 0 then ", " else "" : String) : Str).length ≤ 2 := by
      split <;> decide +kernel
    rw [strLen_append, strLen_append] at ih
    rw [piled_cons]
    show (textFrom (k + 1) _ r).length ≤ _
    omega
theorem listText_le (ts : List Str) : (listText ts).length ≤ piled ts + 2 := by
  unfold listText
  rw [strLen_append]
  have h := textFrom_le ts 0 "["
  have e1 : (("[" : String) : Str).length = 1 := rfl
  have e2 : (("]" : String) : Str).length = 1 := rfl
  rw [e1] at h
  rw [e2]
  omega
theorem tupleText_le (ts : List Str) : (tupleText ts).length ≤ piled ts + 4 := by
  unfold tupleText
  rw [strLen_append, strLen_append]
  have e1 : (("(" : String) : Str).length = 1 := rfl
  have e2 : ((if ts.length == 1 then ",)" else ")" : String) : Str).length ≤ 2 := by
    split <;> decide +kernel
  rw [e1]
  by_cases h : ts = []
  · subst h
    have e3 : (Str.join ", " []).length = 0 := rfl
    rw [e3]
    omega
  · have := join_length_add ts h
    omega
mutual
theorem shown_le : ∀ d : PyData, d.shown.length ≤ cost d
  | .none => by decide +kernel
  | .bool b => by cases b <;> decide +kernel
  | .int i => by
    show (Str.ofString (toString i)).length ≤ i.natAbs.log2 + 2
    have h := int_text_length_le (a := i) (k := i.natAbs.log2 + 1) (Nat.succ_pos _) (Nat.lt_succ_self _)
    have e := PySem.ofString_length (toString i)
    rw [e]
    exact h
  | .str x => Nat.le_refl _
  | .list xs => by
    have h := shownAll_le xs
    have g := listText_le (PyData.shownAll xs)
    show (listText (PyData.shownAll xs)).length ≤ costAll xs + 4
    omega
  | .tuple xs => by
    have h := shownAll_le xs
    have g := tupleText_le (PyData.shownAll xs)
    show (tupleText (PyData.shownAll xs)).length ≤ costAll xs + 4
    omega
  | .dict kvs => Nat.le_refl _
theorem shownAll_le : ∀ xs : List PyData, piled (PyData.shownAll xs) ≤ costAll xs
  | [] => Nat.le_refl _
  | x :: xs => by
    have h1 := shown_le x
    have h2 := shownAll_le xs
    show piled (x.shown :: PyData.shownAll xs) ≤ cost x + 2 + costAll xs
    rw [piled_cons]
    omega
end
/-! ### its signs are signs -/
mutual
def okS : PyData → Bool
  | .none => true
  | .bool _ => true
  | .int _ => true
  | .str x => PyData.strOk (reprText x)
  | .list xs => okAll xs
  | .tuple xs => okAll xs
  | .dict kvs => kvs.isEmpty
def okAll : List PyData → Bool
  | [] => true
  | x :: xs => okS x && okAll xs
end
theorem ok_app {x y : Str} (h1 : PyData.strOk x = true) (h2 : PyData.strOk y = true) : PyData.strOk (x ++ y) = true := by
  unfold PyData.strOk at *
  show (x.cps ++ y.cps).all _ = true
  rw [Array.all_append, h1, h2]
  rfl
theorem ok_lit (s : String) : PyData.strOk (Str.ofString s) = true := by
  rw [Str.ofString_eq_toList]
  unfold PyData.strOk
  show (s.toList.map Char.toNat).toArray.all _ = true
  rw [List.all_toArray, List.all_map, List.all_eq_true]
  intro c _
  refine decide_eq_true ?_
  show c.val.toNat < 0x110000
  rcases c.valid with h | ⟨_, h⟩
  · exact Nat.lt_trans h (by decide)
  · exact h
theorem ok_from : ∀ (ts : List Str) (k : Nat) (acc : Str), PyData.strOk acc = true → (∀ t ∈ ts, PyData.strOk t = true) → PyData.strOk (textFrom k acc ts) = true
  | [], _, _, h, _ => h
  | t :: r, k, acc, h, hr => ok_from r (k + 1) _ (ok_app (ok_app h (ok_lit _)) (hr t List.mem_cons_self)) fun u hu => hr u (List.mem_cons_of_mem _ hu)
theorem ok_join : ∀ ts : List Str, (∀ t ∈ ts, PyData.strOk t = true) → PyData.strOk (Str.join ", " ts) = true
  | [], _ => by decide +kernel
  | [x], h => h x List.mem_cons_self
  | x :: y :: r, h => ok_app (ok_app (h x List.mem_cons_self) (ok_lit _)) (ok_join (y :: r) fun u hu => h u (List.mem_cons_of_mem _ hu))
mutual
theorem shown_ok : ∀ d : PyData, okS d = true → PyData.strOk d.shown = true
  | .none, _ => ok_lit _
  | .bool b, _ => by cases b <;> exact ok_lit _
  | .int i, _ => ok_lit _
  | .str x, h => h
  | .list xs, h => ok_app (ok_from _ _ _ (ok_lit _) (shownAll_ok xs h)) (ok_lit _)
  | .tuple xs, h => ok_app (ok_app (ok_lit _) (ok_join _ (shownAll_ok xs h))) (ok_lit _)
  | .dict [], _ => by decide +kernel
theorem shownAll_ok : ∀ xs : List PyData, okAll xs = true → ∀ t ∈ PyData.shownAll xs, PyData.strOk t = true
  | [], _, t, h => by cases h
  | x :: xs, h, t, ht => by
    have h' : (okS x && okAll xs) = true := h
    rw [Bool.and_eq_true] at h'
    have ht' : t ∈ x.shown :: PyData.shownAll xs := ht
    rcases List.mem_cons.mp ht' with e | e
    · rw [e]
      exact shown_ok x h'.1
    · exact shownAll_ok xs h'.2 t e
end
/-! ### the rule -/
mutual
theorem Dv.dp {K : PySem.W.Frag} {H : Hp} : ∀ {d : PyData} {v : V}, Dv K H v d → d.hasDict = false → Dp K H v d
  | .none, _, h, _ => by cases h; exact .non
  | .bool _, _, h, _ => by cases h; exact .bl _
  | .int _, _, h, _ => by cases h; exact .int _
  | .str _, _, h, _ => by cases h; exact .str _
  | .list ds, _, h, e => by
    cases h with
    | lst h1 hz h2 => exact .lst (SqL.of h1) (DvAll.dp h2 (by rw [PyData.hasDict] at e; exact e))
  | .tuple ds, _, h, e => by
    cases h with
    | tup h1 hz h2 => exact .tup (SqT.of h1) (DvAll.dp h2 (by rw [PyData.hasDict] at e; exact e))
  | .dict _, _, h, e => by
    rw [PyData.hasDict] at e
    cases e
theorem DvAll.dp {K : PySem.W.Frag} {H : Hp} : ∀ {ds : List PyData} {vs : List V}, DvAll K H vs ds → PyData.hasDictAll ds = false → DpAll K H vs ds
  | [], _, h, _ => by cases h; exact .nil
  | d :: ds, _, h, e => by
    cases h with
    | cons h1 h2 =>
      rw [PyData.hasDictAll, Bool.or_eq_false_iff] at e
      exact .cons (Dv.dp h1 e.1) (DvAll.dp h2 e.2)
end
/-- what may be told by repr here -/
structure Tells (d : PyData) : Prop where
  dct : d.hasDict = false ∨ d = .dict []
  showable : d.showable = true
  depth : d.depth ≤ 60
  cost : cost d ≤ 1000000
  oks : okS d = true
section
variable {X : Cx} {pins : List (Addr × Obj)} {σ : L2.St} {H : Hp} {s : Shared}
theorem Dv.reads (I : Inv X pins σ H s) {d : PyData} {v : V} {u : Value} (h : Dv X.K H v d) (r : L2.RelV v u) (t : d.hasDict = false ∨ d = .dict []) : ∃ as, Reads s.heap u d as ∧ (d.hasDict = true → sysModules ∉ as) := by
  rcases t with t | rfl
  · obtain ⟨as, q⟩ := Dp.reads I d v u (h.dp t) r
    exact ⟨as, q, fun z => by rw [t] at z; cases z⟩
  · cases h with
    | dct e =>
      cases r
      obtain ⟨_, ns, vs, kv, o, es, ep, e1, e2, e3, e4, e5, e6⟩ := (show ObjOk X.prog X.w H s.heap _ (.dK []) from I.hok _ _ e)
      cases kv
      have e7 : es.toList = [] := by
        cases hes : es.toList with
        | nil => rfl
        | cons x y =>
          rw [hes] at e5
          cases e5
      refine ⟨_, Reads.dict e1 e2.1 e3 (as := []) (bs := []) (kvs := []) (by rw [e7]; exact ReadsAll.nil) (by rw [e7]; exact ReadsAll.nil), fun _ hm => ?_⟩
      rw [List.append_nil, List.mem_singleton] at hm
      rw [hm] at ns
      simp at ns
theorem call_reprD (hg : X.A.guards = some []) (hu : X.A.units + 64 < cLine) : CallR X (.builtin "repr") (fun xs H Q => ∃ v d, xs = [v] ∧ Dv X.K H v d ∧ Tells d ∧ Q (.str d.shown) H) := by
  intro pins s σ H xs us Q I r h
  obtain ⟨v, d, rfl, hd, t, q⟩ := h
  obtain ⟨u, rfl, rv⟩ := vals1 r
  have sz : d.shown.length ≤ sizeLine := by
    have h1 := shown_le d
    have h2 := t.cost
    have h3 : (1000000 : Nat) ≤ sizeLine := by decide
    omega
  have fin : ∀ (h' : Heap) (u' : Tok) (tk : Nat), (∀ b o, s.heap.get? b = some o → h'.get? b = some o) → EP X pins σ Q (.str d.shown u') { s with heap := h', toks := tk } := fun h' u' tk keep => ⟨.str d.shown, H, I.kept keep, ⟨_, rfl⟩, q⟩
  have leaf : ∀ tk u', EP X pins σ Q (.str d.shown u') { s with toks := tk } := fun tk u' => fin s.heap u' tk fun _ _ e => e
  have ref : ∀ a, u = .ref a → wpAny (model X.prog X.w) X.A (call (.builtin "repr") [u]) (EP X pins σ Q) X.xe s := fun a e => by
    subst e
    obtain ⟨as, rd, hsm⟩ := hd.reads I rv t.dct
    exact repr_of_reads' rd t.showable hsm hg (by have := t.depth; omega) (fun _ _ e => e) (fun h' u' tk keep => fin h' u' tk keep) sz
  cases hd with
  | non =>
    cases rv
    exact PySem.P.repr_of_none (leaf _ _)
  | bl b =>
    cases rv
    refine PySem.P.repr_of_bool ?_
    cases b <;> exact leaf _ _
  | int i =>
    obtain ⟨tk, rfl⟩ := rv
    refine PySem.P.repr_of_int ?_ (leaf _ _)
    have := t.showable
    simpa [PyData.showable] using this
  | str x =>
    obtain ⟨tk, rfl⟩ := rv
    exact PySem.P.repr_of_str (leaf _ _) sz
  | lst _ _ _ => exact ref _ rv
  | tup _ _ _ => exact ref _ rv
  | dct _ => exact ref _ rv
end
end Pw
set_option maxHeartbeats 200000
/-! the law's own draws -/
namespace Pw
open PySem PySem.Spec PyProof.Rows L2
abbrev sSourceOf : Stmt := topS 19
abbrev sNext : Stmt := topS 20
abbrev sOne : Stmt := topS 21
abbrev sCellAt : Stmt := topS 22
/-- the heap without what stands at a -/
def hid (a : Addr) (H : Hp) : Hp := fun b => if b = a then none else H b
theorem hid_ne {a b : Addr} {H : Hp} (h : b ≠ a) : hid a H b = H b := if_neg h
theorem hid_of {a b : Addr} {H : Hp} {o : HO} (h : hid a H b = some o) : b ≠ a ∧ H b = some o := by
  unfold hid at h
  by_cases e : b = a
  · rw [if_pos e] at h
    cases h
  · rw [if_neg e] at h
    exact ⟨e, h⟩
theorem hid_same {a : Addr} {H : Hp} : Same (hid a H) H := fun b o h => (hid_of h).2
theorem hid_mono {a : Addr} {H H' : Hp} (e : Same (hid a H) H') : Same (hid a H) (hid a H') := fun b o h => by
  rw [hid_ne (hid_of h).1]
  exact e b o h
theorem Same.hid {a : Addr} {H H' : Hp} (e : Same H H') : Same (hid a H) (hid a H') := hid_mono (hid_same.trans e)
/-- a source at a, drawn from at most k times -/
def Src (H : Hp) (a : Addr) (k : Int) : Prop := ∃ A B C : Int, H a = some (.lst [.int A, .int B, .int C]) ∧ 0 ≤ B ∧ B < 2147483647 ∧ 0 ≤ C ∧ C ≤ k
theorem Src.same {H H' : Hp} {a : Addr} {k : Int} (s : Src H a k) (e : Same H H') : Src H' a k := by
  obtain ⟨A, B, C, h, r⟩ := s
  exact ⟨A, B, C, e _ _ h, r⟩
theorem Src.mono {H : Hp} {a : Addr} {k l : Int} (s : Src H a k) (e : k ≤ l) : Src H a l := by
  obtain ⟨A, B, C, h, h1, h2, h3, h4⟩ := s
  exact ⟨A, B, C, h, h1, h2, h3, by omega⟩
theorem scSourceOf : FnScope ["_law_cell"] ["_law_cell"] (defScope sSourceOf) := ⟨rfl, rfl, rfl, by decide +kernel, rfl, by decide +kernel, by decide +kernel⟩
theorem scNext : FnScope ["_law_source", "_law_many", "_law_found", "_law_prime", "_law_figure"] ["_law_source", "_law_many"] (defScope sNext) := ⟨rfl, rfl, rfl, by decide +kernel, rfl, by decide +kernel, by decide +kernel⟩
theorem scOne : FnScope ["_law_source", "_law_options"] ["_law_source", "_law_options"] (defScope sOne) := ⟨rfl, rfl, rfl, by decide +kernel, rfl, by decide +kernel, by decide +kernel⟩
theorem scCellAt : FnScope ["_law_script", "_law_k"] ["_law_script", "_law_k"] (defScope sCellAt) := ⟨rfl, rfl, rfl, by decide +kernel, rfl, by decide +kernel, by decide +kernel⟩
theorem fmod_in {i m : Int} (h : 0 < m) : 0 ≤ i.fmod m ∧ i.fmod m < m := ⟨Int.fmod_nonneg_of_pos i h, Int.fmod_lt_of_pos i h⟩
abbrev primes : List Int := [2147483647, 2147483629, 2147483587, 2147483579, 2147483563, 2147483549, 2147483543]
theorem prime_at {i : Int} (h0 : 0 ≤ i) (h1 : i < 7) : ∃ p : Int, atI (primes.map V.int) i = some (.int p) ∧ 0 < p ∧ p ≤ 2147483647 := by
  have e : i = 0 ∨ i = 1 ∨ i = 2 ∨ i = 3 ∨ i = 4 ∨ i = 5 ∨ i = 6 := by omega
  rcases e with rfl | rfl | rfl | rfl | rfl | rfl | rfl
  · exact ⟨_, atI_nat (j := 0) rfl, by decide, by decide⟩
  · exact ⟨_, atI_nat (j := 1) rfl, by decide, by decide⟩
  · exact ⟨_, atI_nat (j := 2) rfl, by decide, by decide⟩
  · exact ⟨_, atI_nat (j := 3) rfl, by decide, by decide⟩
  · exact ⟨_, atI_nat (j := 4) rfl, by decide, by decide⟩
  · exact ⟨_, atI_nat (j := 5) rfl, by decide, by decide⟩
  · exact ⟨_, atI_nat (j := 6) rfl, by decide, by decide⟩
theorem many_bits {m : Int} (h0 : 0 < m) (h1 : m ≤ 10 ^ 31) : m.natAbs < 2 ^ 200 := by
  have e : (10 : Int) ^ 31 < 2 ^ 200 := by decide
  have e2 : ((2 ^ 200 : Nat) : Int) = 2 ^ 200 := by norm_cast
  omega
section
variable {P : Program} {w : World} {K : PySem.W.Frag} {mg : Str → Option Value} {base : Heap}
/-! ### a new source -/
def spSourceOf : Sp := fun vs H Q _ => ∃ c : Int, vs = [.int c] ∧ ∀ p A, H p = none → Q (.ref p) (upd H p (.lst [.int A, .int (c.fmod 2147483647), .int 0]))
theorem ok_sourceOf (B : Blt mg) (D : Dfn K mg "_law_source_of" sSourceOf ["_law_cell"]) : DefOk P w K mg base CX0 1 "_law_source_of" ["_law_cell"] spSourceOf := D.ok fun f fd F => by
  refine F.ok scSourceOf (fun vs H Q E h => ?_) (fun cdv A outer s H vs Q E hr h => ?_)
  · obtain ⟨c, rfl, _⟩ := h
    rfl
  · obtain ⟨c, rfl, q⟩ := h
    refine ⟨_, pss_one (ps_ret (pe_lst (pa_cons (pe_op op_mul (pv 0) (pe_callTy call_int1 (by rfl) B.int boot_int (pa_cons (pe_cmpR op_ge (pv 0) (pe_op op_pow pe_int pe_int) (nomark _)) pa_nil)))
      (pa_cons (pe_op op_modN (pe_callTy call_int1 (by rfl) B.int boot_int (pa_cons (pv 0) pa_nil)) pe_int) (pa_cons pe_int pa_nil))))), ?_⟩
    refine ⟨_, rfl, _, rfl, _, _, rfl, rfl, ⟨by decide, by decide, by decide⟩, _, _, rfl, rfl, .inr ⟨_, rfl, ?_⟩⟩
    refine ⟨_, _, rfl, rfl, .inr ?_, _, rfl, .inl ⟨_, rfl, _, _, rfl, rfl, (by show (2147483647 : Int) ≠ 0; decide), ?_⟩⟩
    · split <;> exact ⟨by decide, by decide⟩
    · exact ⟨by show 3 ≤ sizeLine; decide, fun p hp => q p _ hp⟩
/-! ### a draw -/
def spNext : Sp := fun vs H Q _ => ∃ (a : Addr) (m k : Int), vs = [.ref a, .int m] ∧ Src H a k ∧ k < 1000000 ∧ 0 < m ∧ m ≤ 10 ^ 31 ∧
  ∀ r H', 0 ≤ r → r < m → Src H' a (k + 1) → Same (hid a H) H' → Q (.int r) H'
theorem ok_next (B : Blt mg) (D : Dfn K mg "_law_next" sNext ["_law_source", "_law_many"]) : DefOk P w K mg base CX0 1 "_law_next" ["_law_source", "_law_many"] spNext := D.ok fun f fd F => by
  refine F.ok scNext (fun vs H Q E h => ?_) (fun cdv A outer s H vs Q E hr h => ?_)
  · obtain ⟨a, m, k, rfl, _⟩ := h
    rfl
  · obtain ⟨a, m, k, rfl, ⟨A, B', C, ha, hB0, hB1, hC0, hC1⟩, hk, hm0, hm1, q⟩ := h
    have nd := scNext.nd
    refine ⟨_, pss_cons (ps_if (pt_cmpR op_gt (pe_ix ix_list (pv 0) pe_int (fun _ _ => rfl)) pe_int (nomark _))
        (pss_cons (ps_set (i := 2) nd rfl (.inl rfl) (pe_op op_modN (pe_callTy call_int1 (by rfl) B.int boot_int (pa_cons (pe_ix ix_list (pv 0) pe_int (fun _ _ => rfl)) pa_nil)) (pv 1)))
        (pss_cons (ps_asg (pe_op op_fdivW (pe_ix ix_list (pv 0) pe_int (fun _ _ => rfl)) (pv 1)) (pg_sub (pv 0) pe_int set_list))
        (pss_one (ps_ret (pv 2))))) pss_nil)
      (pss_cons (ps_asg (pe_op op_add (pe_ix ix_list (pv 0) pe_int (fun _ _ => rfl)) pe_int) (pg_sub (pv 0) pe_int set_list))
      (pss_cons (ps_set (i := 3) nd rfl (.inl rfl) (pe_ix ix_list (pe_lst (pa_cons pe_int (pa_cons pe_int (pa_cons pe_int (pa_cons pe_int (pa_cons pe_int (pa_cons pe_int (pa_cons pe_int pa_nil))))))))
        (pe_op op_modN (pe_callTy call_int1 (by rfl) B.int boot_int (pa_cons (pe_ix ix_list (pv 0) pe_int (fun _ _ => rfl)) pa_nil)) pe_int) (fun _ _ => rfl)))
      (pss_cons (ps_set (i := 4) nd rfl (.inl rfl) (pe_op op_modN (pe_callTy call_int1 (by rfl) B.int boot_int (pa_cons
        (pe_op op_pow (pe_op op_add (pe_op op_add (pe_ix ix_list (pv 0) pe_int (fun _ _ => rfl)) (pe_op op_mul pe_int (pe_ix ix_list (pv 0) pe_int (fun _ _ => rfl)))) pe_int) pe_int) pa_nil)) (pv 3)))
      (pss_cons (ps_set (i := 4) nd rfl (.inl rfl) (pe_op op_modN (pe_callTy call_int1 (by rfl) B.int boot_int (pa_cons
        (pe_op op_mul (pe_op op_add (pv 4) (pe_ix ix_list (pv 0) pe_int (fun _ _ => rfl))) (pe_op op_add (pe_op op_fdivN (pv 4) pe_int) pe_int)) pa_nil)) (pv 3)))
      (pss_one (ps_ret (pe_op op_modN (pe_callTy call_int1 (by rfl) B.int boot_int (pa_cons (pe_op op_fdivN (pv 4) pe_int) pa_nil)) (pv 1)))))))), ?_⟩
    refine ⟨.ref a, rfl, a, _, 0, .int A, rfl, rfl, SqL.of ha, atI_nat (j := 0) rfl, _, _, rfl, rfl, _, rfl, ite2 (fun e => ?_) (fun e => ?_)⟩
    · -- from the great number
      refine ⟨.ref a, rfl, a, _, 0, .int A, rfl, rfl, SqL.of ha, atI_nat (j := 0) rfl, .inl ⟨A, rfl, _, rfl, A, m, rfl, rfl, by omega, ?_⟩⟩
      refine ⟨.ref a, rfl, a, _, 0, .int A, rfl, rfl, SqL.of ha, atI_nat (j := 0) rfl, _, rfl, A, m, rfl, rfl, wide_div hm0 (many_bits hm0 hm1) (by decide) (by decide), ?_⟩
      refine ⟨.ref a, rfl, a, _, 0, 0, rfl, rfl, ha, rfl, _, rfl, ?_⟩
      have f := fmod_in (i := A) hm0
      refine q _ _ f.1 f.2 ⟨A / m, B', C, upd_same, hB0, hB1, hC0, by omega⟩ fun b o h => ?_
      rw [upd_ne (hid_of h).1]
      exact (hid_of h).2
    · -- a figure
      refine ⟨.ref a, rfl, a, _, 2, .int C, rfl, rfl, SqL.of ha, atI_nat (j := 2) rfl, C, 1, rfl, rfl, ?_⟩
      refine ⟨.ref a, rfl, a, _, 2, 2, rfl, rfl, ha, rfl, ?_⟩
      have ha2 : upd H a (.lst [.int A, .int B', .int (C + 1)]) a = some (.lst [.int A, .int B', .int (C + 1)]) := upd_same
      refine ⟨by show 7 ≤ sizeLine; decide, fun p np => ?_⟩
      have sp := same_upd (o := HO.lst (primes.map V.int)) np
      have ha3 := sp _ _ ha2
      have f7 := fmod_in (i := C + 1) (m := 7) (by decide)
      obtain ⟨pr, hp1, hp2, hp3⟩ := prime_at f7.1 f7.2
      refine ⟨.ref a, rfl, a, _, 2, .int (C + 1), rfl, rfl, SqL.of ha3, atI_nat (j := 2) rfl, .inl ⟨C + 1, rfl, C + 1, 7, rfl, rfl, (by show (7 : Int) ≠ 0; decide), ?_⟩⟩
      refine ⟨p, _, _, .int pr, rfl, rfl, SqL.of upd_same, hp1, ?_⟩
      -- the first figure
      refine ⟨.ref a, rfl, a, _, 1, .int B', rfl, rfl, SqL.of ha3, atI_nat (j := 1) rfl, .ref a, rfl, a, _, 2, .int (C + 1), rfl, rfl, SqL.of ha3, atI_nat (j := 2) rfl, 7919, C + 1, rfl, rfl, .inl ⟨by decide, by decide⟩, _, _, rfl, rfl, _, _, rfl, rfl, _, _, rfl, rfl, ⟨by decide, by decide, by omega⟩, .inl ⟨_, rfl, ?_⟩⟩
      refine ⟨_, rfl, _, _, rfl, rfl, by omega, ?_⟩
      have f1 := fmod_in (i := (B' + 7919 * (C + 1) + 1) ^ (5 : Int).toNat) hp2
      -- the second one
      refine ⟨_, rfl, .ref a, rfl, a, _, 2, .int (C + 1), rfl, rfl, SqL.of ha3, atI_nat (j := 2) rfl, _, _, rfl, rfl, _, rfl, _, _, rfl, rfl, ⟨by decide, by decide⟩, _, _, rfl, rfl, _, _, rfl, rfl, .inl ⟨by omega, by omega⟩, .inl ⟨_, rfl, ?_⟩⟩
      refine ⟨_, rfl, _, _, rfl, rfl, by omega, ?_⟩
      refine ⟨_, rfl, _, _, rfl, rfl, ⟨by decide, by decide⟩, .inl ⟨_, rfl, _, rfl, _, _, rfl, rfl, by omega, ?_⟩⟩
      have f := fmod_in (i := Int.fdiv (Int.fmod ((Int.fmod ((B' + 7919 * (C + 1) + 1) ^ (5 : Int).toNat) pr + (C + 1)) * (Int.fdiv (Int.fmod ((B' + 7919 * (C + 1) + 1) ^ (5 : Int).toNat) pr) 1009 + 69621)) pr) 7) hm0
      refine q _ _ f.1 f.2 ⟨A, B', C + 1, ha3, hB0, hB1, by omega, by omega⟩ fun b o h => ?_
      refine sp _ _ ?_
      rw [upd_ne (hid_of h).1]
      exact (hid_of h).2
/-! ### one of several -/
def spOne (K : PySem.W.Frag) : Sp := fun vs H Q _ => ∃ (a b : Addr) (k : Int) (xs : List V), vs = [.ref a, .ref b] ∧ Src H a k ∧ k < 1000000 ∧ hid a H b = some (.lst xs) ∧ 0 < xs.length ∧ xs.length ≤ 1000000 ∧
  ∀ (i : Nat) (v : V) H', xs[i]? = some v → Src H' a (k + 1) → Same (hid a H) H' → Q v H'
theorem ok_one (B : Blt mg) (G : DefOk P w K mg base CX0 1 "_law_next" ["_law_source", "_law_many"] spNext) (D : Dfn K mg "_law_one" sOne ["_law_source", "_law_options"]) : DefOk P w K mg base CX0 2 "_law_one" ["_law_source", "_law_options"] (spOne K) := D.ok fun f fd F => by
  refine F.ok scOne (fun vs H Q E h => ?_) (fun cdv A outer s H vs Q E hr h => ?_)
  · obtain ⟨a, b, k, xs, rfl, _⟩ := h
    rfl
  · obtain ⟨a, b, k, xs, rfl, src, hk, hb, h0, h1, q⟩ := h
    refine ⟨_, pss_one (ps_ret (pe_ix ix_list (pv 1) (pe_def G hr pass0 (pa_cons (pv 0) (pa_cons (pe_callB call_len_seq (by rfl) B.len PySem.boot_len (pa_cons (pv 1) pa_nil)) pa_nil))) (fun _ _ => rfl))), ?_⟩
    refine ⟨.ref b, rfl, .ref a, rfl, .ref b, rfl, b, xs, rfl, .inl (SqL.of (hid_of hb).2), a, xs.length, k, rfl, src, hk, by omega, ?_, fun r H' r0 r1 src' sm => ?_⟩
    · have e31 : (1000000 : Int) ≤ 10 ^ 31 := by decide
      omega
    · have hi : r.toNat < xs.length := by omega
      refine ⟨b, xs, r, xs[r.toNat], rfl, rfl, SqL.of (sm _ _ hb), ?_, q r.toNat _ H' (List.getElem?_eq_getElem hi) src' sm⟩
      have z := atI_nat (xs := xs) (j := r.toNat) (v := xs[r.toNat]) (List.getElem?_eq_getElem hi)
      rw [Int.toNat_of_nonneg r0] at z
      exact z
/-! ### a cell of the script -/
def spCellAt (K : PySem.W.Frag) : Sp := fun vs H Q _ => ∃ (a : Addr) (ns : List Int) (k : Nat), vs = [.ref a, .int k] ∧ SqL K H a (ns.map V.int) ∧ ∀ c : Int, Q (.int c) H
theorem ok_cellAt (B : Blt mg) (D : Dfn K mg "_law_cell_at" sCellAt ["_law_script", "_law_k"]) : DefOk P w K mg base CX0 1 "_law_cell_at" ["_law_script", "_law_k"] (spCellAt K) := D.ok fun f fd F => by
  refine F.ok scCellAt (fun vs H Q E h => ?_) (fun cdv A outer s H vs Q E hr h => ?_)
  · obtain ⟨a, ns, k, rfl, _⟩ := h
    rfl
  · obtain ⟨a, ns, k, rfl, hS, q⟩ := h
    refine ⟨_, pss_cons (ps_if (pt_cmpR op_lt (pv 1) (pe_callB call_len_seq (by rfl) B.len PySem.boot_len (pa_cons (pv 0) pa_nil)) (nomark _)) (pss_one (ps_ret (pe_ix ix_list (pv 0) (pv 1) (fun _ _ => rfl)))) pss_nil) (pss_one (ps_ret pe_int)), ?_⟩
    refine ⟨_, rfl, .ref a, rfl, a, _, rfl, .inl hS, _, _, rfl, rfl, _, rfl, ite2 (fun e => ?_) (fun e => ?_)⟩
    · have e1 : (k : Int) < ((ns.map V.int).length : Int) := of_decide_eq_true e
      rw [List.length_map] at e1
      have hk : k < ns.length := by omega
      exact ⟨.ref a, rfl, _, rfl, a, _, k, .int ns[k], rfl, rfl, hS, atI_nat (by rw [List.getElem?_map, List.getElem?_eq_getElem hk]; rfl), q _⟩
    · exact q 0
end
end Pw
set_option maxHeartbeats 2000000
/-! lambdas that are kept: made, let out of their def with the cells that they captured, called from a name -/
namespace Lm
open PySem PySem.Spec PyProof.Rows L2 LamX NdefX
/-- what a lambda is made of: its qualified name, parameters, body, scope, captured cells, code object -/
structure LF where
  qual : Str
  params : Arguments
  body : Expr
  scope : Scope
  cl : List (Str × Addr)
  c : Addr
/-- the object at f is that lambda -/
def LamO (f : Addr) (F : LF) : HO := .ext fun h => ∃ pm ctv : Value, h.get? f = some (PySem.W.kla_obj "<lambda>" F.qual F.params F.body F.scope F.cl pm F.c ctv)
/-- the cell at a holds v -/
def CellO (a : Addr) (v : V) : HO := .ext fun h => ∃ u, L2.RelV v u ∧ h.IsCell a (some u)
theorem lamO_ok {P : Program} {w : World} {H : Hp} {h : Heap} {f : Addr} {F : LF} {pm ctv : Value} (e : h.get? f = some (PySem.W.kla_obj "<lambda>" F.qual F.params F.body F.scope F.cl pm F.c ctv)) : ObjOk P w H h f (LamO f F) :=
  ⟨⟨pm, ctv, e⟩, ⟨_, e⟩, fun h1 h2 z st => by
    obtain ⟨p, c, z⟩ := z
    exact ⟨p, c, st _ z⟩⟩
theorem lamO_at {P : Program} {w : World} {H : Hp} {h : Heap} {f : Addr} {F : LF} (hok : HOk P w H h) (e : H f = some (LamO f F)) : ∃ pm ctv : Value, h.get? f = some (PySem.W.kla_obj "<lambda>" F.qual F.params F.body F.scope F.cl pm F.c ctv) := by
  obtain ⟨z, _, _⟩ := hok f _ e
  exact z
theorem cellO_ok {P : Program} {w : World} {H : Hp} {h : Heap} {a : Addr} {v : V} {u : Value} (r : L2.RelV v u) (e : h.IsCell a (some u)) : ObjOk P w H h a (CellO a v) :=
  ⟨⟨u, r, e⟩, (by
    obtain ⟨o, ho, _⟩ := e
    exact ⟨o, ho⟩), fun h1 h2 z st => by
    obtain ⟨u', r', o, ho, hd⟩ := z
    exact ⟨u', r', o, st _ ho, hd⟩⟩
theorem cellO_at {P : Program} {w : World} {H : Hp} {h : Heap} {a : Addr} {v : V} (hok : HOk P w H h) (e : H a = some (CellO a v)) : ∃ u, L2.RelV v u ∧ h.IsCell a (some u) := by
  obtain ⟨z, _, _⟩ := hok a _ e
  exact z
theorem lamO_tbl {f : Addr} {F : LF} (ps : Array Value) : LamO f F ≠ .tbl ps := fun z => by
  unfold LamO at z
  cases z
theorem cellO_tbl {a : Addr} {v : V} (ps : Array Value) : CellO a v ≠ .tbl ps := fun z => by
  unfold CellO at z
  cases z
theorem cellO_own {a x : Addr} {v : V} : CellO a v ≠ .own x := fun z => by
  unfold CellO at z
  cases z
theorem cellO_tup {a : Addr} {v : V} {xs : List V} : CellO a v ≠ .tup xs := fun z => by
  unfold CellO at z
  cases z
/-! ### one more thing is tracked -/
section
variable {P : Program} {w : World} {H H0 : Hp} {h h0 : Heap} {a : Addr} {o : HO} {fs ex : List Addr}
theorem hok_more (hok : HOk P w H h) (n : H a = none) (new : ObjOk P w (upd H a o) h a o) : HOk P w (upd H a o) h := fun b u e => by
  by_cases hb : b = a
  · rw [hb, upd_same] at e
    cases e
    rw [hb]
    exact new
  · rw [upd_ne hb] at e
    exact (hok b u e).stay (fun _ _ _ q => q) (fun c q => (upd_ne (ne_of_none q n)).trans q) fun c xs q => (upd_ne (ne_of_none q n)).trans q
theorem un_more (u : Un fs ex H0 H h0 h) (n : H a = none) (big : h0.objs.size ≤ a) : Un fs ex H0 (upd H a o) h0 h where
  keep := u.keep
  slot := u.slot
  there := u.there
  free := fun b ob q z hx => (upd_ne (Nat.ne_of_lt (Nat.lt_of_lt_of_le (Heap.lt_size q) big))).trans (u.free b ob q z hx)
  tups := fun b xs q => (upd_ne (ne_of_none (u.tups b xs q) n)).trans (u.tups b xs q)
  frzs := fun b ob x q => (upd_ne (ne_of_none (u.frzs b ob x q) n)).trans (u.frzs b ob x q)
  tbls := fun b ps q => by
    obtain ⟨m, e⟩ := u.tbls b ps q
    exact ⟨m, (upd_ne (ne_of_none e n)).trans e⟩
end
/-! ### the lambda is made -/
section
variable {X : Cx} {pins : List (Addr × Obj)} {σ : L2.St} {H : Hp} {s : Shared}
theorem inv_lam {F : LF} {t' : Nat} {pm ctv : Value} (I : Inv X pins σ H s) :
    Inv X pins σ (upd H s.heap.objs.size (LamO s.heap.objs.size F)) { s with heap := s.heap.push (PySem.W.kla_obj "<lambda>" F.qual F.params F.body F.scope F.cl pm F.c ctv), toks := t' } :=
  I.laid (a := s.heap.objs.size) (fun b u e => Heap.get?_push_of_some _ e) (Nat.le_refl _) (lamO_ok (Heap.get?_push_size _ rfl))
/-- the reading of a lambda that is kept -/
def tLamK (T : List (Addr × Str)) (mk : Addr → LF) : TE := fun _ H Q => Tabs T H ∧ ∀ (f c' : Addr) (H1 : Hp), ExtN H H1 → Tabs T H1 → (∀ b, H1 b = none → H b = none) → H f = none → H1 f = some (LamO f (mk c')) → H1 c' = some (CodeO c' (mk c').qual) → Q (.ref f) H1
theorem none_upd {H : Hp} {a b : Addr} {o : HO} (e : upd H a o b = none) : H b = none := by
  unfold upd at e
  by_cases hb : b = a
  · rw [if_pos hb] at e
    cases e
  · rw [if_neg hb] at e
    exact e
theorem pe_lamK {T : List (Addr × Str)} {c P : Addr} {params : Arguments} {body : Expr} {scope : Scope} {pos : Pos} (TB : TabB X.base X.mg c P) (hcode : X.env.code = .ref c) (hm : (P, X.env.qual ++ "<lambda>") ∈ T) (hu : ∀ p ∈ T, p.1 = P → p.2 = X.env.qual ++ "<lambda>")
    (hdef : defaultsOf params X.env = ([], [])) (hfree : ∀ y ∈ scope.names, y.2 = .free → X.env.scope.names.lookup y.1 = some .cell ∨ X.env.scope.names.lookup y.1 = some .free) :
    PE X (.Lambda params body scope pos) (tLamK T fun c' => ⟨X.env.qual ++ "<lambda>", params, body, scope, cloFrom X.env.cells scope.names [], c'⟩) := by
  refine ⟨fun pins s σ H Q I hh => ?_⟩
  obtain ⟨hT, hQ⟩ := hh
  have has : ∀ y ∈ scope.names, y.2 = .free → ∃ c, X.env.cells.lookup y.1 = some c := fun y hy e => (hfree y hy e).elim (fun z => I.ok.has _ (.inl z)) fun z => I.ok.has _ (.inr z)
  obtain ⟨ps, tabAt, trip, among⟩ := hT _ hm
  have blt : s.heap.BuiltinsAt X.mg P := TB.bm.keeps I.bk
  have tabObj : s.heap.get? P = some { cls := .none, data := .fields ps } := I.hok P _ tabAt
  refine PySem.W.kla_eval hdef ?_
  cases look : codeAmong pos ps.toList with
  | some cv =>
    obtain ⟨c', rfl, codeAt⟩ := among pos cv look
    refine PySem.W.kla_makeFunctionHit (mg := X.mg) (c := c) (P := P) (ps := ps) (closure_ok has) I.ok.glob (I.mod.glob.keeps I.bk) hcode (TB.code.keeps I.bk) tabObj trip look blt fun ctv hp tk keep size => ?_
    have J : Inv X pins σ H { s with heap := hp, toks := tk } := I.kept keep
    have fresh : H hp.objs.size = none := J.hok.fresh (Nat.le_refl _)
    refine ⟨.ref hp.objs.size, _, inv_lam (F := ⟨X.env.qual ++ "<lambda>", params, body, scope, cloFrom X.env.cells scope.names [], c'⟩) J, rfl, ?_⟩
    refine hQ hp.objs.size c' _ (fun b o e _ => (upd_ne (ne_of_none e fresh)).trans e) (hT.ext fun b o e => (upd_ne (ne_of_none e fresh)).trans e) (fun b e => none_upd e) fresh upd_same ((upd_ne (ne_of_none codeAt fresh)).trans codeAt)
  | none =>
    refine PySem.W.kla_makeFunction (mg := X.mg) (c := c) (P := P) (ps := ps) (closure_ok has) I.ok.glob (I.mod.glob.keeps I.bk) hcode (TB.code.keeps I.bk) tabObj trip look TB.gP blt fun c' ctv hp tk ext big less rec tab => ?_
    obtain ⟨c2, oc, vs, t, same, g1, g2, g3⟩ := rec
    cases same
    have cNew : H c' = none := I.hok.fresh big
    have J := inv_table (t' := tk) (more := #[rawInt pos.line, rawInt pos.col, .ref c']) (h' := hp) I tabAt (fun b o hb e => ext b o hb e) tab big ⟨oc, vs, t, g1, g2, g3⟩
    have fNew := J.hok.fresh (Nat.le_refl hp.objs.size)
    have fOld : H hp.objs.size = none := none_upd (none_upd fNew)
    have pc : P ≠ c' := ne_of_none tabAt cNew
    have kept1 : ∀ b o, H b = some o → b ≠ P → upd (upd H P (.tbl (ps ++ #[rawInt pos.line, rawInt pos.col, .ref c']))) c' (CodeO c' (X.env.qual ++ "<lambda>")) b = some o := fun b o e hb => by
      rw [upd_ne (ne_of_none e cNew), upd_ne hb]
      exact e
    have notP : ∀ b o, H b = some o → (∀ q, o ≠ .tbl q) → b ≠ P := fun b o e n z => by
      rw [z, tabAt] at e
      exact n ps (Option.some.inj e).symm
    refine ⟨.ref hp.objs.size, _, inv_lam (t' := tk) (F := ⟨X.env.qual ++ "<lambda>", params, body, scope, cloFrom X.env.cells scope.names [], c'⟩) J, rfl, ?_⟩
    refine hQ hp.objs.size c' _ (fun b o e n => ?_) (fun p hp' => ?_) (fun b e => none_upd (none_upd (none_upd e))) fOld upd_same ?_
    · have k1 := kept1 b o e (notP b o e n)
      exact (upd_ne (ne_of_none k1 fNew)).trans k1
    · by_cases hb : p.1 = P
      · refine TabS.ext (H := upd (upd H P (.tbl (ps ++ #[rawInt pos.line, rawInt pos.col, .ref c']))) c' (CodeO c' (X.env.qual ++ "<lambda>"))) ?_ fun b o e => (upd_ne (ne_of_none e fNew)).trans e
        rw [hb, hu p hp' hb]
        have list : (ps ++ #[rawInt pos.line, rawInt pos.col, .ref c']).toList = ps.toList ++ [rawInt pos.line, rawInt pos.col, .ref c'] := by simp
        refine ⟨ps ++ #[rawInt pos.line, rawInt pos.col, .ref c'], (upd_ne pc).trans upd_same, ?_, fun p2 cv2 h2 => ?_⟩
        · rw [list]
          exact PySem.TriplesOk_snoc _ _ _ _ trip
        · rw [list] at h2
          rcases among_app _ trip h2 with z | z
          · obtain ⟨c0, e1, e2⟩ := among p2 cv2 z
            exact ⟨c0, e1, kept1 _ _ e2 (notP _ _ e2 codeO_ne)⟩
          · exact ⟨c', z, upd_same⟩
      · obtain ⟨ps2, a1, a2, a3⟩ := hT p hp'
        have k1 := kept1 _ _ a1 hb
        refine ⟨ps2, (upd_ne (ne_of_none k1 fNew)).trans k1, a2, fun p2 cv2 h2 => ?_⟩
        obtain ⟨c0, e1, e2⟩ := a3 p2 cv2 h2
        have k2 := kept1 _ _ e2 (notP _ _ e2 codeO_ne)
        exact ⟨c0, e1, (upd_ne (ne_of_none k2 fNew)).trans k2⟩
    · exact (upd_ne (Nat.ne_of_lt less)).trans upd_same
end
end Lm
set_option maxHeartbeats 2000000
/-! a def whose cells outlive it; a call of a kept lambda -/
namespace Lm
open PySem PySem.Spec PyProof.Rows L2 LamX NdefX
/-! ### a body that hands back a value: what holds then of the slots, too -/
abbrev RK := L2.St → V → Hp → Prop
structure PR (X : Cx) (body : List Stmt) (t : RK → L2.St → Hp → Prop) : Prop where
  run : ∀ (pins : List (Addr × Obj)) (s : Shared) (σ : L2.St) (H : Hp) (R : RK), Inv X pins σ H s → t R σ H → wpAny (model X.prog X.w) X.A (execs body X.env) (fun fl s' => ∃ u v σ' H', fl = .ret u ∧ Inv X pins σ' H' s' ∧ L2.RelV v u ∧ R σ' v H') X.xe s
section
variable {X : Cx} {st : Stmt} {rest p : List Stmt} {c e : Expr} {t : TS} {tc : TT} {te : TE} {t1 t2 : RK → L2.St → Hp → Prop} {pos : Pos}
theorem pr_cons (h1 : PS X st t) (h2 : PR X rest t2) : PR X (st :: rest) (fun R σ H => t { nx := t2 R, rt := fun _ _ => False } σ H) := by
  refine ⟨fun pins s σ H R I h => wpAny_execs_cons (thn (h1.run pins s σ H _ I h) fun f s1 q => ?_)⟩
  cases f with
  | next =>
    obtain ⟨σ', H', I', q⟩ := q
    exact h2.run pins s1 σ' H' R I' q
  | ret v =>
    obtain ⟨_, _, _, _, _, q⟩ := q
    exact q.elim
  | brk =>
    obtain ⟨_, _, _, q⟩ := q
    exact q.elim
  | cont =>
    obtain ⟨_, _, _, q⟩ := q
    exact q.elim
theorem pr_ret (he : PE X e te) : PR X [.Return (some e) pos] (fun R σ H => te σ H (R σ)) := by
  refine ⟨fun pins s σ H R I h => wpAny_execs_cons (wpAny_Return_some (thn (he.run pins s σ H _ I h) fun u s1 q => ?_))⟩
  obtain ⟨v, H1, I1, r1, q1⟩ := q
  exact ⟨u, v, σ, H1, rfl, I1, r1, q1⟩
theorem pr_if (hc : PT X c tc) (ha : PR X p t1) (hr : PR X rest t2) : PR X (.If c p [] pos :: rest) (fun R σ H => tc σ H fun b H1 => if b = true then t1 R σ H1 else t2 R σ H1) := by
  refine ⟨fun pins s σ H R I h => wpAny_execs_cons (wpAny_If (thn (hc.run pins s σ H _ I h) fun d s1 q => ?_))⟩
  obtain ⟨H1, I1, q1⟩ := q
  cases d with
  | true =>
    refine thn (ha.run pins s1 σ H1 R I1 q1) fun f s2 q2 => ?_
    obtain ⟨u, v, σ', H', rfl, q3⟩ := q2
    exact ⟨u, v, σ', H', rfl, q3⟩
  | false =>
    exact wpAny_execs_nil (hr.run pins s1 σ H1 R I1 q1)
end
/-! ### the cells are let out -/
/-- the cells of these names (each with its slot) are known from now on -/
def Outs (X : Cx) (σ : L2.St) : List (Nat × Str) → Hp → (Hp → Prop) → Prop
  | [], H, k => k H
  | (i, y) :: r, H, k => ∃ v, σ[i]? = some (some v) ∧ X.N[i]? = some y ∧ X.env.scope.names.lookup y = some .cell ∧ y ∉ r.map (·.2) ∧ ∀ a, X.env.cells.lookup y = some a → H a = none → Outs X σ r (upd H a (CellO a v)) k
theorem outs_of {X : Cx} {σ : L2.St} {h : Heap} {k : Hp → Prop} {fs : List Addr} (ok : X.Ok) (cab : ∀ x c, X.env.cells.lookup x = some c → X.s_0.heap.objs.size ≤ c)
    (loc : ∃ m, h.Ns X.env.locals m ∧ ∀ (i : Nat) (x : Str) (v : V), X.N[i]? = some x → σ[i]? = some (some v) → Vis X.env.scope x → ∃ u, L2.RelV v u ∧ Look X.env h m x u) :
    ∀ (l : List (Nat × Str)) (H : Hp), HOk X.prog X.w H h → Un fs [] X.H_0 H X.s_0.heap h → (∀ p ∈ l, ∀ a, X.env.cells.lookup p.2 = some a → H a = none) → Outs X σ l H k → ∃ H', HOk X.prog X.w H' h ∧ Un fs [] X.H_0 H' X.s_0.heap h ∧ k H'
  | [], H, hok, un, _, q => ⟨H, hok, un, q⟩
  | (i, y) :: r, H, hok, un, hn, q => by
    obtain ⟨v, e1, e2, e3, e4, q⟩ := q
    obtain ⟨a, ea⟩ := ok.has y (.inl e3)
    have na := hn (i, y) List.mem_cons_self a ea
    obtain ⟨m, ns, look⟩ := loc
    obtain ⟨u, r1, l1⟩ := look i y v e2 e1 (.inr (.inl e3))
    have ic : h.IsCell a (some u) := by
      rcases l1 with ⟨z, _⟩ | ⟨_, a', ha', z⟩
      · have z' : X.env.scope.names.lookup y = some .local := z
        rw [e3] at z'
        cases z'
      · rw [ea] at ha'
        cases ha'
        exact z
    refine outs_of ok cab ⟨m, ns, look⟩ r _ (hok_more hok na (cellO_ok r1 ic)) (un_more un na (cab y a ea)) (fun p hp b eb => ?_) (q a ea na)
    by_cases hb : b = a
    · have ey : p.2 = y := ok.inj p.2 y a (by rw [← hb]; exact eb) ea
      exact absurd (ey ▸ List.mem_map_of_mem (f := (·.2)) hp) e4
    · rw [upd_ne hb]
      exact hn p (List.mem_cons_of_mem _ hp) b eb
/-- THE RULE of a def whose cells outlive it -/
theorem fn_out {CX : CXT} {P : Program} {w : World} {K : PySem.W.Frag} {mg : Str → Option Value} {base : Heap} {k : Nat} {f : Addr} {x qual : Str} {st : Stmt} {fd : FuncData} {N ps : List Str} {sp : Sp} (F : Fun K x qual st f fd) (S : FnScope N ps (defScope st))
    (len : ∀ vs H Q E, sp vs H Q E → vs.length = ps.length)
    (hbody : ∀ (cdv : Value) (A : Around) (outer : List Env) (s : Shared) (H : Hp) (vs : List V) (Q : VK) (E : XK), PySem.W.codeIn K cdv qual = true → K.lookup f = some ((K.lookup f).getD default) → fd.code = cdv → Room k (A.deeper (envOfC qual (defScope st) s.heap.objs.size f cdv)) → sp vs H Q E →
      ∃ t, PR (cxOf CX P w K mg base N qual (defScope st) f cdv A outer s H E) (defBody st) t ∧ t (fun σ v H' => ∃ l, Outs (cxOf CX P w K mg base N qual (defScope st) f cdv A outer s H E) σ l H' fun H'' => Q v H'') (start N vs) H) : FnOk P w K mg base CX (k + 1) f fd ps sp := by
  obtain ⟨oc, od, kV, doc, pm, an, cdv, ct, osl, rfl, lk, hcd⟩ := F.ex
  refine ⟨len, fun A outer s H args us vs Q E hr e0 hb r hsp => ?_⟩
  have KX : K.In s.heap := e0.mod.kin.keeps fun b o e => (e0.bs b o e).1
  have lim : s.heap.NoLimit := e0.mod.nolimit.keeps fun b o e => (e0.bs b o e).1
  refine codeAny_call_function hr.depth (KX _ _ lk) rfl S.co S.gen rfl (PySem.W.codeRec_of KX hcd) (hb _ _ _ _ ?_)
  refine wpAny_newFunctionEnv_cells S.kind (fun y hy => ?_) fun env he s1 inCall => ?_
  · obtain ⟨n, v⟩ := y
    rcases S.par n (List.of_mem_zip hy).1 with q | q
    · exact .inl q
    · exact .inr ⟨q, PySem.W.cellsFrom_some _ _ _ (.inl q)⟩
  · subst he
    refine ⟨lim.keeps inCall.toInCall.keep, codeAny_func ?_⟩
    obtain ⟨t, ht, hq⟩ := hbody cdv A outer s H vs Q E hcd (by rw [lk]; rfl) rfl (hr.deeper _) hsp
    have I : Inv (cxOf CX P w K mg base N qual (defScope st) f cdv A outer s H E) [] (start N vs) H s1 := inv_start S hr.hd e0 (len _ _ _ _ hsp) r inCall
    refine wpAny_mono (ht.run [] s1 (start N vs) H _ I hq) (fun fl s' q => ?_) fun e s' q => q
    obtain ⟨u, v, σ', H', rfl, J, rv, l, out⟩ := q
    obtain ⟨H2, ok2, un2, q2⟩ := outs_of J.ok (fun y c e => J.ok.cab y c rfl e) J.loc l H' J.hok J.base (fun p _ a ea => J.freeC p.2 a ea) out
    exact ⟨v, H2, J.os, J.bare, un2, ok2, rv, q2⟩
end Lm
set_option maxHeartbeats 2000000
namespace Lm
open PySem PySem.Spec PyProof.Rows L2 LamX NdefX
/-! ### the call of a kept lambda -/
/-- the same, as the layer's own words for a def within a def have it -/
def LF.nf (F : LF) : NF := ⟨"<lambda>", F.qual, F.params, [], F.scope, F.cl, F.c⟩
/-- the captured names fr hold ws, in cells that are known -/
structure Kept (H : Hp) (F : LF) (fr : List Str) (ws : List V) : Prop where
  len : ws.length = fr.length
  only : ∀ p ∈ F.cl, p.1 ∈ fr ∧ F.cl.lookup p.1 = some p.2
  inj : ∀ x y c, F.cl.lookup x = some c → F.cl.lookup y = some c → x = y
  at_ : ∀ (i : Nat) (y : Str), fr[i]? = some y → ∃ a v, F.cl.lookup y = some a ∧ ws[i]? = some v ∧ H a = some (CellO a v)
theorem Kept.cell {H : Hp} {F : LF} {fr : List Str} {ws : List V} (k : Kept H F fr ws) {a : Addr} (h : a ∈ F.cl.map (·.2)) : ∃ v, H a = some (CellO a v) := by
  obtain ⟨p, hp, rfl⟩ := List.mem_map.mp h
  obtain ⟨h1, h2⟩ := k.only p hp
  obtain ⟨i, hi⟩ := List.mem_iff_getElem?.mp h1
  obtain ⟨b, v, e1, e2, e3⟩ := k.at_ i p.1 hi
  rw [h2] at e1
  cases e1
  exact ⟨v, e3⟩
theorem Kept.mem {H : Hp} {F : LF} {fr : List Str} {ws : List V} (k : Kept H F fr ws) {y : Str} {a : Addr} (h : F.cl.lookup y = some a) : a ∈ F.cl.map (·.2) :=
  List.mem_map.mpr ⟨(y, a), PySem.mem_of_lookup h, rfl⟩
theorem Kept.same {H H' : Hp} {F : LF} {fr : List Str} {ws : List V} (k : Kept H F fr ws) (e : Same H H') : Kept H' F fr ws :=
  ⟨k.len, k.only, k.inj, fun i y h => by
    obtain ⟨a, v, e1, e2, e3⟩ := k.at_ i y h
    exact ⟨a, v, e1, e2, e _ _ e3⟩⟩
/-- the heap without these -/
def without (l : List Addr) (H : Hp) : Hp := fun b => if b ∈ l then none else H b
theorem without_in {l : List Addr} {H : Hp} {b : Addr} (h : b ∈ l) : without l H b = none := if_pos h
theorem without_out {l : List Addr} {H : Hp} {b : Addr} (h : b ∉ l) : without l H b = H b := if_neg h
theorem without_of {l : List Addr} {H : Hp} {b : Addr} {o : HO} (h : without l H b = some o) : b ∉ l ∧ H b = some o := by
  by_cases e : b ∈ l
  · rw [without_in e] at h
    cases h
  · rw [without_out e] at h
    exact ⟨e, h⟩
theorem lam_call {CX : CXT} {P : Program} {w : World} {K : PySem.W.Frag} {mg : Str → Option Value} {base : Heap} {k : Nat} {f : Addr} {F : LF} {N ps fr : List Str} {ws vs : List V} {us : List Value} {A : Around} {outer : List Env} {s : Shared} {H : Hp} {Q : VK} {E : XK} {b : Bool}
    (S : NScope N ps fr F.scope) (hb : ∀ pm ctv : Value, bindArgs (PySem.W.kla_fn "<lambda>" F.qual F.params F.body F.scope F.cl pm (.ref F.c) ctv) ⟨us, []⟩ = pure (ps.zip us)) (kp : Kept H F fr ws) (hf : H f = some (LamO f F)) (hc : H F.c = some (CodeO F.c F.qual))
    (e0 : Env0 P w K mg base A outer s H) (hr : Room (k + 1) A) (r : Vals vs us) (hl : vs.length = ps.length)
    (hbody : ∃ te, PE (ncx CX0 P w K mg base N F.nf f A outer s (without (F.cl.map (·.2)) H) E0) F.body te ∧ te (startF N vs (ws.map some)) (without (F.cl.map (·.2)) H) (fun v H' => v = .bl b ∧ H' = without (F.cl.map (·.2)) H)) (q : Q (.bl b) H) :
    codeAny (model P w) A (.call (.ref f) ⟨us, []⟩) (CR CX outer P w H s Q E) s := by
  have lim : s.heap.NoLimit := e0.mod.nolimit.keeps fun b o e => (e0.bs b o e).1
  obtain ⟨pm, ctv, obj⟩ := lamO_at e0.hok hf
  have offFrames : ∀ a, a ∈ F.cl.map (·.2) → a ∉ frs outer := fun a h z => by
    obtain ⟨v, e⟩ := kp.cell h
    rw [e0.frf a z] at e
    cases e
  have hok2 : HOk P w (without (F.cl.map (·.2)) H) s.heap := fun a o e => by
    have e1 := (without_of e).2
    refine (e0.hok a o e1).stay (fun _ _ _ z => z) (fun c z => ?_) fun c xs z => ?_
    · rw [without_out]
      · exact z
      · intro hm
        obtain ⟨v, e2⟩ := kp.cell hm
        rw [z] at e2
        exact cellO_own (Option.some.inj e2).symm
    · rw [without_out]
      · exact z
      · intro hm
        obtain ⟨v, e2⟩ := kp.cell hm
        rw [z] at e2
        exact cellO_tup (Option.some.inj e2).symm
  have wn : ∀ a, H a = none → without (F.cl.map (·.2)) H a = none := fun a e => by
    by_cases h : a ∈ F.cl.map (·.2)
    · exact without_in h
    · rw [without_out h]
      exact e
  have e2 : Env0 P w K mg base A outer s (without (F.cl.map (·.2)) H) := ⟨e0.frames, e0.mod, fun a o e => ⟨(e0.bs a o e).1, wn a (e0.bs a o e).2⟩, e0.bsz, e0.funs, fun a h => wn a (e0.frf a h), hok2, e0.bare⟩
  have C : CellsAt F.cl fr (ws.map some) s.heap (without (F.cl.map (·.2)) H) := by
    refine ⟨by rw [List.length_map]; exact kp.len, fun y c e => ?_, kp.inj, fun i y e => ?_⟩
    · have hm := kp.mem e
      obtain ⟨v, ev⟩ := kp.cell hm
      obtain ⟨u, _, ic⟩ := cellO_at e0.hok ev
      exact ⟨without_in hm, some u, ic⟩
    · obtain ⟨a, v, g1, g2, g3⟩ := kp.at_ i y e
      refine ⟨a, g1, fun v' ev' => ?_⟩
      rw [List.getElem?_map, g2] at ev'
      cases ev'
      exact cellO_at e0.hok g3
  have cRec : s.heap.CodeRec (.ref F.c) F.qual := by
    obtain ⟨⟨oc, vs', t, g1, g2, g3⟩, _, _⟩ := e0.hok _ _ hc
    exact ⟨F.c, oc, vs', t, rfl, g1, g2, g3⟩
  refine PySem.W.kla_callFunE hr.depth obj rfl S.co S.gen rfl cRec ?_
  rw [hb pm ctv]
  refine wpAny_pure (wpAny_newFunctionEnv S.nocell (fun y hy => ?_) (fun h1 ns sb => ⟨lim.fresh _ sb, ?_⟩) S.kind)
  · obtain ⟨n, v⟩ := y
    exact S.par n (List.of_mem_zip hy).1
  · have kept : ∀ b o, s.heap.get? b = some o → h1.get? b = some o := fun b o e => sb.extBut b o (Nat.ne_of_lt (Heap.lt_size e)) (Heap.get?_push_of_some _ e)
    obtain ⟨te, pe, rd⟩ := hbody
    have I : Inv (ncx CX0 P w K mg base N F.nf f A outer s (without (F.cl.map (·.2)) H) E0) [] (startF N vs (ws.map some)) (without (F.cl.map (·.2)) H) { s with heap := h1, toks := s.toks + (ps.zip us).length } := inv_startN (F := F.nf) S hr.hd e2 hl r C ns kept
    refine PySem.W.kla_codeExpr (wpAny_mono (pe.run [] _ _ _ _ I rd) (fun u s' out => ?_) fun e s' x => wpAny_mono x (fun _ _ z => z.elim) fun _ _ z => z.elim)
    obtain ⟨v, H', J, rv, ev, eH⟩ := out
    subst ev eH
    have un : Un (frs outer) [] (without (F.cl.map (·.2)) H) (without (F.cl.map (·.2)) H) s.heap s'.heap := J.base
    refine ⟨.bl b, H, J.os, J.bare, ⟨fun a o e n h1 h2 => un.keep a o e (wn a n) h1 h2, fun a o e n h1 h2 => un.slot a o e (wn a n) h1 h2, fun a o e n _ => n, un.there, fun a xs e => e, fun a o x e => e, fun a ps e => ⟨#[], by rw [e]; simp⟩⟩, fun a o e => ?_, rv, q⟩
    by_cases hm : a ∈ F.cl.map (·.2)
    · obtain ⟨v, ev⟩ := kp.cell hm
      obtain ⟨u2, r2, oc, ho, hd⟩ := cellO_at e0.hok ev
      rw [ev] at e
      cases e
      exact cellO_ok r2 ⟨oc, un.keep a oc ho (without_in hm) (offFrames a hm) (by simp), hd⟩
    · have e3 : without (F.cl.map (·.2)) H a = some o := by
        rw [without_out hm]
        exact e
      exact (J.hok a o e3).stay (fun _ _ _ z => z) (fun c z => (without_of z).2) fun c xs z => (without_of z).2
end Lm
set_option maxHeartbeats 2000000
namespace Lm
open PySem PySem.Spec PyProof.Rows L2 LamX NdefX
/-- f, called with an int, tells g of it and leaves all as it was -/
structure Clo (P : Program) (w : World) (K : PySem.W.Frag) (mg : Str → Option Value) (base : Heap) (k : Nat) (H : Hp) (f : Addr) (g : Int → Bool) : Prop where
  fn : ∃ F, H f = some (LamO f F)
  run : ∀ (H' : Hp), Same H H' → ∀ (n : Int) (u : Value) (A : Around) (outer : List Env) (s : Shared) (Q : VK) (E : XK) (CX : CXT), L2.RelV (.int n) u → Room k A → Env0 P w K mg base A outer s H' → Q (.bl (g n)) H' →
    codeAny (model P w) A (.call (.ref f) ⟨[u], []⟩) (CR CX outer P w H' s Q E) s
theorem Clo.same {P : Program} {w : World} {K : PySem.W.Frag} {mg : Str → Option Value} {base : Heap} {k : Nat} {H H' : Hp} {f : Addr} {g : Int → Bool} (c : Clo P w K mg base k H f g) (e : Same H H') : Clo P w K mg base k H' f g :=
  ⟨(by
    obtain ⟨F, h⟩ := c.fn
    exact ⟨F, e _ _ h⟩), fun H2 e2 => c.run H2 (e.trans e2)⟩
theorem fnAt_lam {P : Program} {w : World} {H : Hp} {h : Heap} {f : Addr} {F : LF} (hok : HOk P w H h) (e : H f = some (LamO f F)) : PySem.W.FnAt f h := by
  obtain ⟨pm, ctv, o⟩ := lamO_at hok e
  exact ⟨_, _, _, _, o⟩
/-- f(n), f a name that holds such a lambda -/
def tClo (P : Program) (w : World) (K : PySem.W.Frag) (mg : Str → Option Value) (base : Heap) (k : Nat) (i : Nat) (t : TA) : TE := fun σ H Q => ∃ (f : Addr) (g : Int → Bool), σ[i]? = some (some (.ref f)) ∧ Clo P w K mg base k H f g ∧ t σ H fun vs H1 => ∃ n : Int, vs = [.int n] ∧ Same H H1 ∧ Q (.bl (g n)) H1
theorem pe_clo {X : Cx} {k j i : Nat} {x : Str} {e : Expr} {t : TA} {p pos : Pos} (hr : Room j X.A) (hk : k ≤ j) (hN : X.N[i]? = some x) (hv : Vis X.env.scope x) (ha : PA X [e] t) (hd : (x == ("__debug__" : Str)) = false := by decide) (hcd : (x == ("__classdict__" : Str)) = false := by decide)
    (he : starEach [e] X.env = (false, eval e X.env) :: starEach [] X.env := by rfl) (hpl : (backTo pos (starEach [] X.env)).any (·.1) = false := by rfl) :
    PE X (.Call (.Name x p) [e] [] pos) (tClo X.prog X.w X.K X.mg X.base k i t) := by
  refine ⟨fun pins s σ H Q I hh => ?_⟩
  obtain ⟨f, g, hs, clo, ht⟩ := hh
  obtain ⟨F, hF⟩ := clo.fn
  refine wpAny_Call_Name_kw (thn ((pe_var (pos := p) hN hv hd hcd).run pins s σ H (fun v H1 => v = .ref f ∧ H1 = H) I ⟨.ref f, hs, rfl, rfl⟩) fun u s1 q => ?_)
  obtain ⟨v, H1, I1, r1, ev, eH⟩ := q
  subst ev eH
  cases (show u = Value.ref f from r1)
  refine PySem.W.callWith_F (first := []) (fnAt_lam I1.hok hF) (thn (ha.run pos pins s1 σ H1 _ I1 ht) fun us s2 q => ?_) he hpl
  obtain ⟨vs, H2, I2, r, n, ev, sm, q⟩ := q
  subst ev
  refine ⟨fnAt_lam I2.hok (sm _ _ hF), ?_⟩
  cases r with
  | cons ru rr =>
    cases rr
    rename_i u1
    show wpAny _ _ (call (.ref f) [u1]) _ _ _
    refine wpAny_call (codeAny_mono (clo.run H2 sm n u1 X.A X.stack s2 Q (fun _ _ _ => False) CX0 ru (hr.mono hk) I2.env0 q) fun res s' out => ?_)
    cases res with
    | error e => exact out.elim
    | ok fl =>
      cases fl with
      | ret u => exact I2.after out
      | next => exact False.elim out
      | brk => exact False.elim out
      | cont => exact False.elim out
end Lm
set_option maxHeartbeats 2000000
namespace Lm
open PySem PySem.Spec PyProof.Rows L2 LamX NdefX
theorem clo_of {P : Program} {w : World} {K : PySem.W.Frag} {mg : Str → Option Value} {base : Heap} {k : Nat} {F : LF} {f : Addr} {H : Hp} {N fr : List Str} {x : Str} {ws : List V} {g : Int → Bool} (S : NScope N [x] fr F.scope)
    (hb : ∀ pm ctv u : Value, bindArgs (PySem.W.kla_fn "<lambda>" F.qual F.params F.body F.scope F.cl pm (.ref F.c) ctv) ⟨[u], []⟩ = pure [(x, u)]) (kp : Kept H F fr ws) (hf : H f = some (LamO f F)) (hc : H F.c = some (CodeO F.c F.qual))
    (hbody : ∀ (H' : Hp), Same H H' → Kept H' F fr ws → ∀ (n : Int) (A : Around) (outer : List Env) (s : Shared), Room k (A.deeper (envF F.nf f s.heap.objs.size)) → ∃ te, PE (ncx CX0 P w K mg base N F.nf f A outer s (without (F.cl.map (·.2)) H') E0) F.body te ∧
      te (startF N [.int n] (ws.map some)) (without (F.cl.map (·.2)) H') (fun v H2 => v = .bl (g n) ∧ H2 = without (F.cl.map (·.2)) H')) : Clo P w K mg base (k + 1) H f g :=
  ⟨⟨F, hf⟩, fun H' sm n u A outer s Q E CX ru hr e0 q => lam_call (ps := [x]) (vs := [.int n]) S (fun pm ctv => hb pm ctv u) (kp.same sm) (sm _ _ hf) (sm _ _ hc) e0 hr (.cons ru .nil) rfl (hbody H' sm (kp.same sm) n A outer s (hr.deeper _)) q⟩
theorem kept_of {X : Cx} {H : Hp} {qual : Str} {params : Arguments} {body : Expr} {scope : Scope} {c' : Addr} {fr : List Str} {ws : List V}
    (only : ∀ y, (y, NameKind.free) ∈ scope.names → y ∈ fr) (hfr : ∀ y ∈ fr, (y, NameKind.free) ∈ scope.names) (len : ws.length = fr.length)
    (inj : ∀ x ∈ fr, ∀ y ∈ fr, ∀ c, X.env.cells.lookup x = some c → X.env.cells.lookup y = some c → x = y)
    (at_ : ∀ (i : Nat) (y : Str), fr[i]? = some y → ∃ v a, ws[i]? = some v ∧ X.env.cells.lookup y = some a ∧ H a = some (CellO a v)) : Kept H ⟨qual, params, body, scope, cloFrom X.env.cells scope.names [], c'⟩ fr ws := by
  have has : ∀ y ∈ scope.names, y.2 = .free → ∃ c, X.env.cells.lookup y.1 = some c := fun y hy e => by
    obtain ⟨n, z⟩ := y
    cases e
    obtain ⟨i, hi⟩ := List.mem_iff_getElem?.mp (only n hy)
    obtain ⟨v, a, _, ea, _⟩ := at_ i n hi
    exact ⟨a, ea⟩
  have memf : ∀ y c, (cloFrom X.env.cells scope.names []).lookup y = some c → y ∈ fr := fun y c e => by
    rcases cloFrom_mem (PySem.mem_of_lookup e) with z | ⟨h1, _⟩
    · cases z
    · exact only y h1
  refine ⟨len, fun p hp => ?_, fun x y c e1 e2 => inj x (memf x c e1) y (memf y c e2) c (clo_cm has e1) (clo_cm has e2), fun i y e => ?_⟩
  · obtain ⟨n, a⟩ := p
    rcases cloFrom_mem hp with z | ⟨h1, h2⟩
    · cases z
    · obtain ⟨a1, e1⟩ := has _ h1 rfl
      have e1' : X.env.cells.lookup n = some a1 := e1
      rw [e1', Option.getD_some] at h2
      subst h2
      exact ⟨only n h1, clo_has has h1 e1'⟩
  · obtain ⟨v, a, e1, e2, e3⟩ := at_ i y e
    exact ⟨a, v, clo_has has (hfr y (List.mem_of_getElem? e)) e2, e1, e3⟩
theorem without_at {H : Hp} {F : LF} {fr : List Str} {ws : List V} {b : Addr} {o : HO} (kp : Kept H F fr ws) (h : H b = some o) (n : ∀ v, o ≠ CellO b v) : without (F.cl.map (·.2)) H b = some o := by
  rw [without_out]
  · exact h
  · intro hm
    obtain ⟨v, e⟩ := kp.cell hm
    rw [h] at e
    exact n v (Option.some.inj e)
theorem cellO_lst {a : Addr} {v : V} {xs : List V} : HO.lst xs ≠ CellO a v := fun z => by
  unfold CellO at z
  cases z
theorem free_only {names : List (Str × NameKind)} {fr : List Str} (h : (names.all fun y => !decide (y.2 = .free) || decide (y.1 ∈ fr)) = true) : ∀ y, (y, NameKind.free) ∈ names → y ∈ fr := fun y hy => by
  rw [List.all_eq_true] at h
  have z := h _ hy
  simpa using z
end Lm
namespace Pw
open PySem PySem.Spec PyProof.Rows L2 LamX NdefX Lm
abbrev sLawPlain : Stmt := topS 23
theorem scLawPlain : FnScope ["_law_source", "_law_way", "_law_modulus", "_law_rests", "_law_bound", "_law_k"] ["_law_source"] (defScope sLawPlain) := ⟨rfl, rfl, rfl, by decide +kernel, rfl, by decide +kernel, by decide +kernel⟩
/-- tables stay where all but the source stays -/
theorem tabs_hid {T : List (Addr × Str)} {a : Addr} {xs : List V} {H H' : Hp} (t : Tabs T H) (ha : H a = some (.lst xs)) (e : Same (hid a H) H') : Tabs T H' := fun p hp => by
  obtain ⟨ps, h1, h2, h3⟩ := t p hp
  have ne : ∀ b o, H b = some o → o ≠ .lst xs → b ≠ a := fun b o q n z => by
    rw [z, ha] at q
    exact n (Option.some.inj q).symm
  have go : ∀ b o, H b = some o → o ≠ .lst xs → H' b = some o := fun b o q n => e b o (by
    rw [hid_ne (ne b o q n)]
    exact q)
  refine ⟨ps, go _ _ h1 (fun z => by cases z), h2, fun pos cv hc => ?_⟩
  obtain ⟨c, e1, e2⟩ := h3 pos cv hc
  exact ⟨c, e1, go _ _ e2 (fun z => by
    unfold CodeO at z
    cases z)⟩
/-- the heap without the source at a and without tables of code -/
def hidT (a : Addr) (H : Hp) : Hp := fun b => if b = a then none else match H b with
  | some (.tbl _) => none
  | o => o
theorem hidT_of {a b : Addr} {H : Hp} {o : HO} (h : hidT a H b = some o) : b ≠ a ∧ H b = some o ∧ ∀ ps, o ≠ .tbl ps := by
  unfold hidT at h
  by_cases e : b = a
  · rw [if_pos e] at h
    cases h
  · rw [if_neg e] at h
    split at h
    · cases h
    · rename_i q n
      refine ⟨e, h, fun ps z => ?_⟩
      rw [z] at h
      exact n ps h
theorem hidT_at {a b : Addr} {H : Hp} {o : HO} (n : b ≠ a) (h : H b = some o) (t : ∀ ps, o ≠ .tbl ps) : hidT a H b = some o := by
  unfold hidT
  rw [if_neg n]
  split
  · rename_i ps q
    rw [h] at q
    exact absurd (Option.some.inj q) (t ps)
  · exact h
theorem hidT_le {a : Addr} {H : Hp} : Same (hidT a H) (hid a H) := fun b o h => by
  obtain ⟨h1, h2, _⟩ := hidT_of h
  rw [hid_ne h1]
  exact h2
theorem hidT_mono {a : Addr} {H H' : Hp} (e : Same (hidT a H) H') : Same (hidT a H) (hidT a H') := fun b o h => by
  obtain ⟨h1, h2, h3⟩ := hidT_of h
  exact hidT_at h1 (e b o h) h3
theorem hidT_same {a : Addr} {H : Hp} : Same (hidT a H) H := fun b o h => (hidT_of h).2.1
section
variable {P : Program} {w : World} {K : PySem.W.Frag} {mg : Str → Option Value} {base : Heap}
/-- the tests that are drawn -/
structure Drawn1 (t : Tst) : Prop where
  ok : t.Ok
  nots : t.nots = 0
  plain : isPlain t.dat = true
  dct : t.dat.hasDict = false
  shw : t.dat.showable = true
  dep : t.dat.depth ≤ 5
  cst : cost t.dat ≤ 100000
  oks : okS t.dat = true
def spLawPlain (P : Program) (w : World) (K : PySem.W.Frag) (mg : Str → Option Value) (base : Heap) (T : List (Addr × Str)) : Sp := fun vs H Q _ => ∃ (a : Addr) (k : Int), vs = [.ref a] ∧ Src H a k ∧ 0 ≤ k ∧ k < 900000 ∧ Tabs T H ∧
  ∀ (p x f : Addr) (bound : Int) (t : Tst) (H' : Hp), H' p = some (.tup [.ref x, .int bound, .ref f]) → Dv K (hidT a H') (.ref x) t.dat → Drawn1 t → -(10 ^ 30) ≤ bound → bound ≤ 10 ^ 30 → Clo P w K mg base 1 (hidT a H') f t.holds → Src H' a (k + 200) → Same (hidT a H) H' → Tabs T H' → Q (.ref p) H'
theorem two_of {x y v : V} {i : Nat} (h : [x, y][i]? = some v) : v = x ∨ v = y := by
  match i, h with
  | 0, h => exact .inl (Option.some.inj h).symm
  | 1, h => exact .inr (Option.some.inj h).symm
theorem log2_lt_of {z : Int} {k : Nat} (h : z.natAbs < 2 ^ k) (hk : 0 < k) : z.natAbs.log2 < k := by
  by_cases h0 : z.natAbs = 0
  · rw [h0]
    exact hk
  · exact (Nat.log2_lt h0).mpr h
theorem ints_dct : ∀ rs : List Int, PyData.hasDictAll (rs.map PyData.int) = false
  | [] => by rw [List.map_nil, PyData.hasDictAll]
  | z :: rs => by
    rw [List.map_cons, PyData.hasDictAll, PyData.hasDict, ints_dct rs]
    rfl
theorem ints_shw : ∀ {rs : List Int}, (∀ z ∈ rs, 0 ≤ z ∧ z < 100) → PyData.showableAll (rs.map PyData.int) = true
  | [], _ => by rw [List.map_nil, PyData.showableAll]
  | z :: rs, h => by
    rw [List.map_cons, PyData.showableAll, PyData.showable, ints_shw (fun y hy => h y (List.mem_cons_of_mem _ hy))]
    have hz := h z List.mem_cons_self
    have h1 : z.natAbs < 2 ^ 7 := by
      have : (2 : Nat) ^ 7 = 128 := rfl
      omega
    have h2 := log2_lt_of h1 (by decide)
    rw [decide_eq_true (show z.natAbs.log2 < 1920 by omega)]
    rfl
theorem ints_dep : ∀ rs : List Int, PyData.depthAll (rs.map PyData.int) ≤ 1
  | [] => by
    rw [List.map_nil, PyData.depthAll]
    exact Nat.zero_le _
  | z :: rs => by
    have ih := ints_dep rs
    rw [List.map_cons, PyData.depthAll, PyData.depth]
    omega
theorem ints_cst : ∀ {rs : List Int}, (∀ z ∈ rs, 0 ≤ z ∧ z < 100) → costAll (rs.map PyData.int) ≤ 11 * rs.length
  | [], _ => by
    rw [List.map_nil, costAll]
    exact Nat.zero_le _
  | z :: rs, h => by
    have ih := ints_cst (fun y hy => h y (List.mem_cons_of_mem _ hy))
    have hz := h z List.mem_cons_self
    have h1 : z.natAbs < 2 ^ 7 := by
      have : (2 : Nat) ^ 7 = 128 := rfl
      omega
    have h2 := log2_lt_of h1 (by decide)
    rw [List.map_cons, costAll, cost, List.length_cons]
    omega
theorem ints_oks : ∀ rs : List Int, okAll (rs.map PyData.int) = true
  | [] => by rw [List.map_nil, okAll]
  | z :: rs => by
    rw [List.map_cons, okAll, okS, ints_oks rs]
    rfl
theorem plain_md {m : Int} {rs : List Int} (h1 : 1 ≤ m) (h2 : m ≤ 100) (hr : ∀ z ∈ rs, 0 ≤ z ∧ z < m) (ha : ascD (rs.map PyData.int) = true) (hl : rs.length ≤ 100) : Drawn1 (.md m rs) := by
  have hr2 : ∀ z ∈ rs, 0 ≤ z ∧ z < 100 := fun z hz => by
    have := hr z hz
    omega
  have bm : m.natAbs.log2 < 7 := log2_lt_of (by have : (2 : Nat) ^ 7 = 128 := rfl
                                                omega) (by decide)
  refine ⟨by show m ≠ 0; omega, rfl, ?_, ?_, ?_, ?_, ?_, ?_⟩
  rotate_left
  · show PyData.hasDict (.tuple [.str "mod", .int m, .list (rs.map PyData.int)]) = false
    simp only [PyData.hasDict, PyData.hasDictAll, ints_dct]
    rfl
  · show PyData.showable (.tuple [.str "mod", .int m, .list (rs.map PyData.int)]) = true
    simp only [PyData.showable, PyData.showableAll, ints_shw hr2, decide_eq_true (show m.natAbs.log2 < 1920 by omega)]
    rfl
  · have := ints_dep rs
    show PyData.depth (.tuple [.str "mod", .int m, .list (rs.map PyData.int)]) ≤ 5
    simp only [PyData.depth, PyData.depthAll]
    omega
  · have := ints_cst hr2
    have e : (reprText "mod").length = 5 := by decide +kernel
    show cost (.tuple [.str "mod", .int m, .list (rs.map PyData.int)]) ≤ 100000
    simp only [cost, costAll, e]
    omega
  · have e : PyData.strOk (reprText "mod") = true := by decide +kernel
    show okS (.tuple [.str "mod", .int m, .list (rs.map PyData.int)]) = true
    simp only [okS, okAll, ints_oks, e]
    rfl
  show (oneOf (.str "mod") ["mod"] && between (.int m) 1 100 && ((rs.map PyData.int).all (fun e => between e 0 (m - 1)) && ascD (rs.map PyData.int))) = true
  rw [ha]
  have e1 : oneOf (.str "mod") ["mod"] = true := by decide
  have e2 : between (.int m) 1 100 = true := by
    show (decide (1 ≤ m) && decide (m ≤ 100)) = true
    simp [h1, h2]
  have e3 : (rs.map PyData.int).all (fun e => between e 0 (m - 1)) = true := by
    rw [List.all_eq_true]
    intro d hd
    obtain ⟨z, hz, rfl⟩ := List.mem_map.mp hd
    have := hr z hz
    show (decide (0 ≤ z) && decide (z ≤ m - 1)) = true
    have q1 : 0 ≤ z := this.1
    have q2 : z ≤ m - 1 := by omega
    simp [q1, q2]
  rw [e1, e2, e3]
  rfl
theorem plain_lt {v : Int} (h1 : -(10 ^ 30) ≤ v) (h2 : v ≤ 10 ^ 30) : Drawn1 (.lt v) := by
  have b100 : v.natAbs.log2 < 100 := log2_lt_of (by
    have e : (10 : Int) ^ 30 < 2 ^ 100 := by decide
    have e2 : ((2 ^ 100 : Nat) : Int) = 2 ^ 100 := by norm_cast
    omega) (by decide)
  refine ⟨trivial, rfl, ?_, ?_, ?_, ?_, ?_, ?_⟩
  rotate_left
  · show PyData.hasDict (.tuple [.str "below", .int v]) = false
    simp only [PyData.hasDict, PyData.hasDictAll]
    rfl
  · show PyData.showable (.tuple [.str "below", .int v]) = true
    simp only [PyData.showable, PyData.showableAll, decide_eq_true (show v.natAbs.log2 < 1920 by omega)]
    rfl
  · show PyData.depth (.tuple [.str "below", .int v]) ≤ 5
    simp only [PyData.depth, PyData.depthAll]
    omega
  · have e : (reprText "below").length ≤ 10 := by decide +kernel
    show cost (.tuple [.str "below", .int v]) ≤ 100000
    simp only [cost, costAll]
    omega
  · have e : PyData.strOk (reprText "below") = true := by decide +kernel
    show okS (.tuple [.str "below", .int v]) = true
    simp only [okS, okAll, e]
    rfl
  show (oneOf (.str "below") ["below", "from"] && (decide (-(10 ^ 30) ≤ v) && decide (v ≤ 10 ^ 30))) = true
  rw [decide_eq_true h1, decide_eq_true h2]
  decide
theorem plain_ge {v : Int} (h1 : -(10 ^ 30) ≤ v) (h2 : v ≤ 10 ^ 30) : Drawn1 (.ge v) := by
  have b100 : v.natAbs.log2 < 100 := log2_lt_of (by
    have e : (10 : Int) ^ 30 < 2 ^ 100 := by decide
    have e2 : ((2 ^ 100 : Nat) : Int) = 2 ^ 100 := by norm_cast
    omega) (by decide)
  refine ⟨trivial, rfl, ?_, ?_, ?_, ?_, ?_, ?_⟩
  rotate_left
  · show PyData.hasDict (.tuple [.str "from", .int v]) = false
    simp only [PyData.hasDict, PyData.hasDictAll]
    rfl
  · show PyData.showable (.tuple [.str "from", .int v]) = true
    simp only [PyData.showable, PyData.showableAll, decide_eq_true (show v.natAbs.log2 < 1920 by omega)]
    rfl
  · show PyData.depth (.tuple [.str "from", .int v]) ≤ 5
    simp only [PyData.depth, PyData.depthAll]
    omega
  · have e : (reprText "from").length ≤ 10 := by decide +kernel
    show cost (.tuple [.str "from", .int v]) ≤ 100000
    simp only [cost, costAll]
    omega
  · have e : PyData.strOk (reprText "from") = true := by decide +kernel
    show okS (.tuple [.str "from", .int v]) = true
    simp only [okS, okAll, e]
    rfl
  show (oneOf (.str "from") ["below", "from"] && (decide (-(10 ^ 30) ≤ v) && decide (v ≤ 10 ^ 30))) = true
  rw [decide_eq_true h1, decide_eq_true h2]
  decide
/-- ascending, one more behind -/
theorem asc_snoc : ∀ (rs : List Int) (z : Int), ascD (rs.map PyData.int) = true → (∀ y ∈ rs, y < z) → ascD ((rs ++ [z]).map PyData.int) = true
  | [], _, _, _ => rfl
  | [a], z, _, h => by
    show (decide (a < z) && true) = true
    rw [decide_eq_true (h a (by simp))]
    rfl
  | a :: b :: r, z, e, h => by
    have e' : (decide (a < b) && ascD ((b :: r).map PyData.int)) = true := e
    rw [Bool.and_eq_true] at e'
    show (decide (a < b) && ascD (((b :: r) ++ [z]).map PyData.int)) = true
    rw [e'.1, asc_snoc (b :: r) z e'.2 (fun y hy => h y (List.mem_cons_of_mem _ hy))]
    rfl
theorem dv_ints {H : Hp} : ∀ ns : List Int, DvAll K H (ns.map V.int) (ns.map PyData.int)
  | [] => .nil
  | n :: ns => .cons (.int n) (dv_ints ns)
theorem outs1 {H : Hp} {p c1 : Addr} {o : HO} {v1 : V} (np : H p = none) (n1 : upd H p o c1 = none) : ∃ H6, upd (upd H p o) c1 (CellO c1 v1) = H6 ∧ Same H H6 ∧ H6 p = some o ∧ H6 c1 = some (CellO c1 v1) ∧ (∀ b q, H b = some q → b ≠ c1) := by
  have e1 : ∀ b q, H b = some q → upd H p o b = some q := fun b q e => (upd_ne (ne_of_none e np)).trans e
  exact ⟨_, rfl, fun b q e => (upd_ne (ne_of_none (e1 b q e) n1)).trans (e1 b q e), (upd_ne (ne_of_none upd_same n1)).trans upd_same, upd_same, fun b q e => ne_of_none (e1 b q e) n1⟩
theorem outs2 {H : Hp} {p c1 c2 : Addr} {o : HO} {v1 v2 : V} (np : H p = none) (n1 : upd H p o c1 = none) (n2 : upd (upd H p o) c1 (CellO c1 v1) c2 = none) :
    ∃ H6, upd (upd (upd H p o) c1 (CellO c1 v1)) c2 (CellO c2 v2) = H6 ∧ Same H H6 ∧ H6 p = some o ∧ H6 c1 = some (CellO c1 v1) ∧ H6 c2 = some (CellO c2 v2) ∧ c1 ≠ c2 ∧ (∀ b q, H b = some q → b ≠ c1 ∧ b ≠ c2) := by
  obtain ⟨H5, e5, s5, p5, q5, d5⟩ := outs1 (v1 := v1) np n1
  rw [e5] at n2
  rw [e5]
  exact ⟨_, rfl, fun b q e => (upd_ne (ne_of_none (s5 b q e) n2)).trans (s5 b q e), (upd_ne (ne_of_none p5 n2)).trans p5, (upd_ne (ne_of_none q5 n2)).trans q5, upd_same, ne_of_none q5 n2, fun b q e => ⟨d5 b q e, ne_of_none (s5 b q e) n2⟩⟩
theorem lt10 : (10 : Int) ^ 30 ≤ 10 ^ 31 := by decide
theorem ok_lawPlain {T : List (Addr × Str)} (B : Blt mg) (GN : DefOk P w K mg base CX0 1 "_law_next" ["_law_source", "_law_many"] spNext) (GO : DefOk P w K mg base CX0 2 "_law_one" ["_law_source", "_law_options"] (spOne K))
    {cP PP : Addr} (TB : TabB base mg cP PP) (hm : (PP, ("_law_plain.<locals>.<lambda>" : Str)) ∈ T) (hu : ∀ p ∈ T, p.1 = PP → p.2 = ("_law_plain.<locals>.<lambda>" : Str))
    (D : Dfn K mg "_law_plain" sLawPlain ["_law_source"]) (hcode : ∀ f fd, mg "_law_plain" = some (.ref f) → K.lookup f = some ((K.lookup f).getD default) → ((K.lookup f).getD default).data = .func fd → fd.code = .ref cP) :
    DefOk P w K mg base CX0 3 "_law_plain" ["_law_source"] (spLawPlain P w K mg base T) := by
  obtain ⟨f0, fd, F, m, b⟩ := D.ex
  refine ⟨f0, fd, m, F.kp, b, ?_⟩
  have nd := scLawPlain.nd
  have code : fd.code = .ref cP := by
    obtain ⟨oc, od, kV, doc, pm, an, cdv, ct, osl, e1, lk, _⟩ := F.ex
    exact hcode f0 fd m (by rw [lk]; rfl) (by rw [lk]; rfl)
  refine fn_out F scLawPlain (fun vs H Q E h => ?_) (fun cdv A outer s H vs Q E hcd hlk hfd hr h => ?_)
  · obtain ⟨a, k, rfl, _⟩ := h
    rfl
  · obtain ⟨a, k, rfl, src, hk0, hk, tabs, q⟩ := h
    rw [code] at hfd
    subst hfd
    refine ⟨_, pr_cons (ps_set (i := 1) nd rfl (.inl rfl) (pe_def GN hr pass0 (pa_cons (pv 0) (pa_cons pe_int pa_nil))))
      (pr_if (pt_cmpR op_eq (pv 1) pe_int (nomark _))
        (pr_cons (ps_set (i := 2) nd rfl (.inr rfl) (pe_op op_add pe_int (pe_def GN hr pass0 (pa_cons (pv 0) (pa_cons (pe_def GO hr pass0 (pa_cons (pv 0) (pa_cons (pe_lst (pa_cons pe_int (pa_cons pe_int pa_nil))) pa_nil))) pa_nil)))))
        (pr_cons (ps_set (i := 3) nd rfl (.inr rfl) (pe_lc (own := [("_law_k", 5)]) (g := gName 5) (tt := tTest (tOp rEq (tCall spNext [] E0 (tCons (tVar 0) (tCons (tC (.int 2)) tNil))) (tC (.int 0)))) rfl nd
            (pi_range1 rfl B.range (pa_cons (pv 2) pa_nil)) (blkOk_by (N := ["_law_source", "_law_way", "_law_modulus", "_law_rests", "_law_bound", "_law_k"]) (sc := defScope sLawPlain) (by decide +kernel))
            (fun _ _ _ _ _ => pg_name (i := 5) nd rfl (Or.inl rfl)) (fun _ _ _ _ _ => pts_one (pt_cmpR op_eq (pe_def GN hr pass0 (pa_cons (pv 0) (pa_cons pe_int pa_nil))) pe_int (nomark _))) (fun _ _ _ _ _ => pv 5)))
        (pr_ret (pe_tup (pa_cons (pe_tup (pa_cons pe_str (pa_cons (pv 2) (pa_cons (pv 3) pa_nil)))) (pa_cons pe_int (pa_cons (pe_lamK (T := T) TB rfl hm hu rfl (by exact ndef_free (sc := defScope sLawPlain) (fr := ["_law_modulus", "_law_rests"]) (by decide +kernel))) pa_nil)))))))
      (pr_cons (ps_set (i := 4) nd rfl (.inr rfl) (pe_op op_mul (pe_def GN hr pass0 (pa_cons (pv 0) (pa_cons (pe_def GO hr pass0 (pa_cons (pv 0) (pa_cons (pe_lst (pa_cons pe_int (pa_cons (pe_op op_pow pe_int pe_int) pa_nil))) pa_nil))) pa_nil)))
          (pe_def GO hr pass0 (pa_cons (pv 0) (pa_cons (pe_lst (pa_cons pe_int (pa_cons (pe_un un_neg pe_int) pa_nil))) pa_nil)))))
      (pr_if (pt_cmpR op_eq (pv 1) pe_int (nomark _))
        (pr_ret (pe_tup (pa_cons (pe_tup (pa_cons pe_str (pa_cons (pv 4) pa_nil))) (pa_cons (pv 4) (pa_cons (pe_lamK (T := T) TB rfl hm hu rfl (by exact ndef_free (sc := defScope sLawPlain) (fr := ["_law_bound"]) (by decide +kernel))) pa_nil)))))
        (pr_ret (pe_tup (pa_cons (pe_tup (pa_cons pe_str (pa_cons (pv 4) pa_nil))) (pa_cons (pv 4) (pa_cons (pe_lamK (T := T) TB rfl hm hu rfl (by exact ndef_free (sc := defScope sLawPlain) (fr := ["_law_bound"]) (by decide +kernel))) pa_nil)))))))), ?_⟩
    -- the way
    refine ⟨_, rfl, a, 3, k, rfl, src, by omega, by decide, by decide, fun way H1 w0 w1 src1 m1 => ?_⟩
    have aT := src
    obtain ⟨A0, B0, C0, ha0, _⟩ := aT
    have t1 : Tabs T H1 := tabs_hid tabs ha0 m1
    refine ⟨_, rfl, rfl, _, rfl, ite2 (fun e => ?_) (fun e => ?_)⟩
    · -- a modulus
      refine ⟨_, rfl, _, rfl, by show 2 ≤ sizeLine; decide, fun l nl => ?_⟩
      have sl := same_upd (o := HO.lst [V.int 5, V.int 100]) nl
      have src2 := src1.same sl
      obtain ⟨A1, B1, C1, ha1, _⟩ := id src1
      have la : l ≠ a := fun z => by
        rw [z, ha1] at nl
        cases nl
      refine ⟨a, l, k + 1, _, rfl, src2, by omega, (hid_ne la).trans upd_same, by decide, by decide, fun i v H2 hv src3 m2 => ?_⟩
      have hmm : ∃ mm : Int, v = .int mm ∧ 0 < mm ∧ mm ≤ 100 := by
        rcases two_of hv with rfl | rfl
        · exact ⟨5, rfl, by decide, by decide⟩
        · exact ⟨100, rfl, by decide, by decide⟩
      obtain ⟨mm, rfl, mm0, mm1⟩ := hmm
      have e31 : (100 : Int) ≤ 10 ^ 31 := by decide
      refine ⟨a, mm, k + 1 + 1, rfl, src3, by omega, mm0, by omega, fun r H3 r0 r1 src4 m3 => ?_⟩
      refine ⟨_, _, rfl, rfl, ?_⟩
      have m03 : Same (hid a H) H3 := (hid_mono m1).trans ((Same.hid sl).trans ((hid_mono m2).trans m3))
      have t3 : Tabs T H3 := tabs_hid tabs ha0 m03
      -- the residues
      refine ⟨_, rfl, 1 + r, rfl, by omega, by omega, fun D3 nD => ?_⟩
      obtain ⟨A3, B3, C3, ha3, _⟩ := id src4
      have Da : D3 ≠ a := fun z => by
        rw [z, ha3] at nD
        cases nD
      refine lc_range (lo := 0) (n := (1 + r).toNat) (fun i H' => ∃ acc : List Int, H' D3 = some (.lst (acc.map V.int)) ∧ acc.length ≤ i ∧ (∀ z ∈ acc, 0 ≤ z ∧ z < i) ∧ ascD (acc.map PyData.int) = true ∧ Src H' a (k + 3 + i) ∧ Same (hid a H3) H')
        ⟨[], upd_same, Nat.le_refl _, (fun z hz => absurd hz (by simp)), rfl, (src4.same (same_upd nD)).mono (by omega), hid_same.trans (same_upd nD)⟩ (fun i H' hi p => ?_) (fun H' p => ?_)
      · obtain ⟨acc, p1, p2, p3, p4, p5, p6⟩ := p
        refine ⟨rfl, _, rfl, a, 2, _, rfl, p5, by omega, by decide, by decide, fun r' H4 _ _ src5 m5 => ?_⟩
        have q1 : H4 D3 = some (.lst (acc.map V.int)) := m5 _ _ ((hid_ne Da).trans p1)
        have q6 : Same (hid a H3) H4 := (hid_mono p6).trans m5
        have q5 : Src H4 a (k + 3 + ((i + 1 : Nat) : Int)) := src5.mono (by omega)
        refine ⟨rfl, _, rfl, ?_⟩
        by_cases e0 : decide (V.int r' = V.int 0) = true
        · refine (if_pos e0).mpr ?_
          refine ⟨_, rfl, acc.map V.int, q1, by rw [List.length_map]; exact small1000 (by omega), acc ++ [0 + (i : Int)], ?_, by simp; omega, fun z hz => ?_, asc_snoc acc _ p4 (fun y hy => by have := (p3 y hy).2; omega), ?_, fun b o e => ?_⟩
          · rw [upd_same, List.map_append]
            rfl
          · rcases List.mem_append.mp hz with h | h
            · have := p3 z h
              omega
            · have e1 : z = 0 + (i : Int) := by simpa using h
              omega
          · obtain ⟨A5, B5, C5, e5, r5⟩ := q5
            exact ⟨A5, B5, C5, (upd_ne (Ne.symm Da)).trans e5, r5⟩
          · rw [upd_ne (ne_of_none (hid_of e).2 nD)]
            exact q6 b o e
        · refine (if_neg e0).mpr ?_
          exact ⟨acc, q1, by omega, fun z hz => by have := p3 z hz; omega, p4, q5, q6⟩
      · obtain ⟨rs, p1, p2, p3, p4, p5, p6⟩ := p
        have rb : ∀ z ∈ rs, 0 ≤ z ∧ z < 1 + r := fun z hz => by
          have := p3 z hz
          omega
        have dr := plain_md (m := 1 + r) (by omega) (by omega) rb p4 (by omega)
        have lrs : rs.length ≤ 1000 := by omega
        refine ⟨_, rfl, _, rfl, by show 3 ≤ sizeLine; decide, fun x nx => ?_⟩
        have sx := same_upd (o := HO.tup [V.str "mod", V.int (1 + r), V.ref D3]) nx
        have m0x : Same (hid a H) (upd H' x (HO.tup [V.str "mod", V.int (1 + r), V.ref D3])) := (hid_mono m03).trans (p6.trans sx)
        refine ⟨tabs_hid tabs ha0 m0x, fun f c' H5 ext tabs5 nn nf atf atc => ⟨by show 3 ≤ sizeLine; decide, fun p np => ?_⟩⟩
        refine ⟨[(2, "_law_modulus"), (3, "_law_rests")], .int (1 + r), rfl, rfl, rfl, by decide, fun c1 hc1 n1 => ⟨.ref D3, rfl, rfl, rfl, by decide, fun c2 hc2 n2 => ?_⟩⟩
        obtain ⟨H6, e6, s6, p6', g1, g2, c12, away⟩ := outs2 (v2 := V.ref D3) np n1 n2
        show Q (.ref p) (upd (upd _ c1 _) c2 _)
        rw [e6]
        have lift : ∀ b o, upd H' x (HO.tup [V.str "mod", V.int (1 + r), V.ref D3]) b = some o → (∀ ps, o ≠ .tbl ps) → H6 b = some o := fun b o e n => s6 b o (ext b o e n)
        obtain ⟨A5, B5, C5, ha5, r5⟩ := id p5
        have ha4 := sx _ _ ha5
        have aH5 := ext a _ ha4 (fun _ z => by cases z)
        have ha6 := lift a _ ha4 (fun _ z => by cases z)
        have hx6 := lift x _ upd_same (fun _ z => by cases z)
        have hD6 := lift D3 _ (sx _ _ p1) (fun _ z => by cases z)
        have hf6 := s6 f _ atf
        have hc6 := s6 c' _ atc
        have xa : x ≠ a := (ne_of_none ha5 nx).symm
        have fa : f ≠ a := (ne_of_none ha4 nf).symm
        have ca : c' ≠ a := fun z => by
          rw [z, ha6] at hc6
          have z2 := Option.some.inj hc6
          unfold CodeO at z2
          cases z2
        have c1a : c1 ≠ a := (away a _ aH5).1.symm
        have c2a : c2 ≠ a := (away a _ aH5).2.symm
        refine q p x f 0 (.md (1 + r) rs) H6 p6' ?_ dr (by decide) (by decide) ?_ ?_ ?_ ?_
        · exact .tup (hidT_at xa hx6 (fun _ z => by cases z)) (by show 3 ≤ 1000; decide) (.cons (.str _) (.cons (.int _) (.cons (.lst (hidT_at Da hD6 (fun _ z => by cases z)) (by rw [List.length_map]; exact lrs) (dv_ints rs)) .nil)))
        · refine clo_of (k := 0) (N := ["_law_number", "_law_modulus", "_law_rests"]) (fr := ["_law_modulus", "_law_rests"]) (ws := [.int (1 + r), .ref D3]) (x := "_law_number") ?S ?hb ?kp (hidT_at fa hf6 lamO_tbl) (hidT_at ca hc6 codeO_ne) (fun Hx sm kp n A' outer' s' hr' => ?_)
          case S =>
            refine nscope_by ?_
            dsimp only
            decide +kernel
          case hb => exact fun _ _ _ => rfl
          case kp =>
            refine kept_of (X := cxOf CX0 P w K mg base ["_law_source", "_law_way", "_law_modulus", "_law_rests", "_law_bound", "_law_k"] "_law_plain" (defScope sLawPlain) f0 (.ref cP) A outer s H E) (free_only ?_) ?_ rfl ?inj ?slots
            · dsimp only
              decide +kernel
            · dsimp only
              decide +kernel
            case inj =>
              intro y1 h1 y2 h2 c e1 e2
              simp only [List.mem_cons, List.not_mem_nil, or_false] at h1 h2
              rcases h1 with rfl | rfl <;> rcases h2 with rfl | rfl
              · rfl
              · exact absurd (Option.some.inj ((hc1.symm.trans e1).trans (hc2.symm.trans e2).symm)) c12
              · exact absurd (Option.some.inj ((hc1.symm.trans e2).trans (hc2.symm.trans e1).symm)) c12
              · rfl
            case slots =>
              intro i y e
              match i, e with
              | 0, e =>
                cases e
                exact ⟨_, c1, rfl, hc1, hidT_at c1a g1 cellO_tbl⟩
              | 1, e =>
                cases e
                exact ⟨_, c2, rfl, hc2, hidT_at c2a g2 cellO_tbl⟩
          have hDx : Hx D3 = some (.lst (rs.map V.int)) := sm _ _ (hidT_at Da hD6 (fun _ z => by cases z))
          refine ⟨_, pe_cmpR op_in_seq (pe_op op_modN (pe_callTy call_int1 (by rfl) B.int boot_int (pa_cons (pv 0) pa_nil)) (pv 1)) (pv 2) (by rfl), ?_⟩
          refine ⟨_, rfl, .inl ⟨n, rfl, _, rfl, n, 1 + r, rfl, rfl, by omega, _, rfl, D3, _, rfl, .inl (SqL.of (without_at kp hDx fun v => cellO_lst)), rfl, flat_ints rs, ?_, rfl⟩⟩
          exact congrArg V.bl (in_ints _ _)
        · exact ⟨A5, B5, C5, ha6, r5.1, r5.2.1, r5.2.2.1, by omega⟩
        · intro b o e
          obtain ⟨h1, h2, h3⟩ := hidT_of e
          exact lift b o (m0x b o ((hid_ne h1).trans h2)) h3
        · refine tabs5.ext fun b o e => s6 b o e
    · -- a bound
      refine ⟨_, rfl, _, rfl, _, _, rfl, rfl, ⟨by decide, by decide, by decide⟩, by show 2 ≤ sizeLine; decide, fun l nl => ?_⟩
      have sl := same_upd (o := HO.lst [V.int 9, V.int (10 ^ (30 : Int).toNat)]) nl
      have src2 := src1.same sl
      obtain ⟨A1, B1, C1, ha1, _⟩ := id src1
      have la : l ≠ a := (ne_of_none ha1 nl).symm
      refine ⟨a, l, k + 1, _, rfl, src2, by omega, (hid_ne la).trans upd_same, by decide, by decide, fun i v H2 hv src3 m2 => ?_⟩
      have hmm : ∃ mm : Int, v = .int mm ∧ 0 < mm ∧ mm ≤ 10 ^ 30 := by
        rcases two_of hv with rfl | rfl
        · exact ⟨9, rfl, by decide, by decide⟩
        · exact ⟨10 ^ (30 : Int).toNat, rfl, by decide, by decide⟩
      obtain ⟨mm, rfl, mm0, mm1⟩ := hmm
      have e31 : (10 : Int) ^ 30 ≤ 10 ^ 31 := by decide
      refine ⟨a, mm, k + 1 + 1, rfl, src3, by omega, mm0, by omega, fun r H3 r0 r1 src4 m3 => ?_⟩
      refine ⟨_, rfl, _, rfl, by show 2 ≤ sizeLine; decide, fun l2 nl2 => ?_⟩
      have sl2 := same_upd (o := HO.lst [V.int 1, V.int (-1)]) nl2
      obtain ⟨A3, B3, C3, ha3, _⟩ := id src4
      have la2 : l2 ≠ a := (ne_of_none ha3 nl2).symm
      refine ⟨a, l2, k + 1 + 1 + 1, _, rfl, src4.same sl2, by omega, (hid_ne la2).trans upd_same, by decide, by decide, fun i2 v2 H5 hv2 src6 m5 => ?_⟩
      have hsg : ∃ sg : Int, v2 = .int sg ∧ (sg = 1 ∨ sg = -1) := by
        rcases two_of hv2 with rfl | rfl
        · exact ⟨1, rfl, .inl rfl⟩
        · exact ⟨-1, rfl, .inr rfl⟩
      obtain ⟨sg, rfl, hsg⟩ := hsg
      refine ⟨_, _, rfl, rfl, .inr (by rcases hsg with rfl | rfl <;> exact ⟨by decide, by decide⟩), ?_⟩
      have m05 : Same (hid a H) H5 := (hid_mono m1).trans ((Same.hid sl).trans ((hid_mono m2).trans ((hid_mono m3).trans ((Same.hid sl2).trans m5))))
      have bds : -(10 ^ 30) ≤ r * sg ∧ r * sg ≤ 10 ^ 30 := by
        rcases hsg with rfl | rfl <;> omega
      obtain ⟨bd1, bd2⟩ := bds
      refine ⟨_, rfl, rfl, _, rfl, ite2 (fun e2 => ?_) (fun e2 => ?_)⟩
      · have : True := trivial
        refine ⟨_, rfl, by show 2 ≤ sizeLine; decide, fun x nx => ?_⟩
        have sx := same_upd (o := HO.tup [V.str "below", V.int (r * sg)]) nx
        have m0x : Same (hid a H) (upd H5 x (HO.tup [V.str "below", V.int (r * sg)])) := m05.trans sx
        refine ⟨_, rfl, tabs_hid tabs ha0 m0x, fun f c' H7 ext tabs5 nn nf atf atc => ⟨by show 3 ≤ sizeLine; decide, fun p np => ?_⟩⟩
        refine ⟨[(4, "_law_bound")], .int (r * sg), rfl, rfl, rfl, by decide, fun c1 hc1 n1 => ?_⟩
        obtain ⟨H6, e6, s6, p6', g1, away⟩ := outs1 (v1 := V.int (r * sg)) np n1
        show Q (.ref p) (upd _ c1 _)
        rw [e6]
        have lift : ∀ b o, upd H5 x (HO.tup [V.str "below", V.int (r * sg)]) b = some o → (∀ ps, o ≠ .tbl ps) → H6 b = some o := fun b o e n => s6 b o (ext b o e n)
        obtain ⟨A5, B5, C5, ha5, r5⟩ := id src6
        have ha4 := sx _ _ ha5
        have aH5 := ext a _ ha4 (fun _ z => by cases z)
        have ha6 := lift a _ ha4 (fun _ z => by cases z)
        have hx6 := lift x _ upd_same (fun _ z => by cases z)
        have hf6 := s6 f _ atf
        have hc6 := s6 c' _ atc
        have xa : x ≠ a := (ne_of_none ha5 nx).symm
        have fa : f ≠ a := (ne_of_none ha4 nf).symm
        have ca : c' ≠ a := fun z => by
          rw [z, ha6] at hc6
          have z2 := Option.some.inj hc6
          unfold CodeO at z2
          cases z2
        have c1a : c1 ≠ a := (away a _ aH5).symm
        refine q p x f (r * sg) (.lt (r * sg)) H6 p6' ?_ (plain_lt bd1 bd2) bd1 bd2 ?_ ?_ ?_ ?_
        · exact .tup (hidT_at xa hx6 (fun _ z => by cases z)) (by show 2 ≤ 1000; decide) (.cons (.str _) (.cons (.int _) .nil))
        · refine clo_of (k := 0) (N := ["_law_number", "_law_bound"]) (fr := ["_law_bound"]) (ws := [.int (r * sg)]) (x := "_law_number") ?S ?hb ?kp (hidT_at fa hf6 lamO_tbl) (hidT_at ca hc6 codeO_ne) (fun Hx sm kp n A' outer' s' hr' => ?_)
          case S =>
            refine nscope_by ?_
            dsimp only
            decide +kernel
          case hb => exact fun _ _ _ => rfl
          case kp =>
            refine kept_of (X := cxOf CX0 P w K mg base ["_law_source", "_law_way", "_law_modulus", "_law_rests", "_law_bound", "_law_k"] "_law_plain" (defScope sLawPlain) f0 (.ref cP) A outer s H E) (free_only ?_) ?_ rfl ?inj ?slots
            · dsimp only
              decide +kernel
            · dsimp only
              decide +kernel
            case inj =>
              intro y1 h1 y2 h2 c e1 e2
              simp only [List.mem_cons, List.not_mem_nil, or_false] at h1 h2
              rw [h1, h2]
            case slots =>
              intro i y e
              match i, e with
              | 0, e =>
                cases e
                exact ⟨_, c1, rfl, hc1, hidT_at c1a g1 cellO_tbl⟩
          exact ⟨_, pe_cmpR op_lt (pv 0) (pv 1) (nomark _), _, rfl, _, rfl, _, _, rfl, rfl, rfl, rfl⟩
        · exact ⟨A5, B5, C5, ha6, r5.1, r5.2.1, r5.2.2.1, by omega⟩
        · intro b o e
          obtain ⟨h1, h2, h3⟩ := hidT_of e
          exact lift b o (m0x b o ((hid_ne h1).trans h2)) h3
        · refine tabs5.ext fun b o e => s6 b o e
      · have : True := trivial
        refine ⟨_, rfl, by show 2 ≤ sizeLine; decide, fun x nx => ?_⟩
        have sx := same_upd (o := HO.tup [V.str "from", V.int (r * sg)]) nx
        have m0x : Same (hid a H) (upd H5 x (HO.tup [V.str "from", V.int (r * sg)])) := m05.trans sx
        refine ⟨_, rfl, tabs_hid tabs ha0 m0x, fun f c' H7 ext tabs5 nn nf atf atc => ⟨by show 3 ≤ sizeLine; decide, fun p np => ?_⟩⟩
        refine ⟨[(4, "_law_bound")], .int (r * sg), rfl, rfl, rfl, by decide, fun c1 hc1 n1 => ?_⟩
        obtain ⟨H6, e6, s6, p6', g1, away⟩ := outs1 (v1 := V.int (r * sg)) np n1
        show Q (.ref p) (upd _ c1 _)
        rw [e6]
        have lift : ∀ b o, upd H5 x (HO.tup [V.str "from", V.int (r * sg)]) b = some o → (∀ ps, o ≠ .tbl ps) → H6 b = some o := fun b o e n => s6 b o (ext b o e n)
        obtain ⟨A5, B5, C5, ha5, r5⟩ := id src6
        have ha4 := sx _ _ ha5
        have aH5 := ext a _ ha4 (fun _ z => by cases z)
        have ha6 := lift a _ ha4 (fun _ z => by cases z)
        have hx6 := lift x _ upd_same (fun _ z => by cases z)
        have hf6 := s6 f _ atf
        have hc6 := s6 c' _ atc
        have xa : x ≠ a := (ne_of_none ha5 nx).symm
        have fa : f ≠ a := (ne_of_none ha4 nf).symm
        have ca : c' ≠ a := fun z => by
          rw [z, ha6] at hc6
          have z2 := Option.some.inj hc6
          unfold CodeO at z2
          cases z2
        have c1a : c1 ≠ a := (away a _ aH5).symm
        refine q p x f (r * sg) (.ge (r * sg)) H6 p6' ?_ (plain_ge bd1 bd2) bd1 bd2 ?_ ?_ ?_ ?_
        · exact .tup (hidT_at xa hx6 (fun _ z => by cases z)) (by show 2 ≤ 1000; decide) (.cons (.str _) (.cons (.int _) .nil))
        · refine clo_of (k := 0) (N := ["_law_number", "_law_bound"]) (fr := ["_law_bound"]) (ws := [.int (r * sg)]) (x := "_law_number") ?S ?hb ?kp (hidT_at fa hf6 lamO_tbl) (hidT_at ca hc6 codeO_ne) (fun Hx sm kp n A' outer' s' hr' => ?_)
          case S =>
            refine nscope_by ?_
            dsimp only
            decide +kernel
          case hb => exact fun _ _ _ => rfl
          case kp =>
            refine kept_of (X := cxOf CX0 P w K mg base ["_law_source", "_law_way", "_law_modulus", "_law_rests", "_law_bound", "_law_k"] "_law_plain" (defScope sLawPlain) f0 (.ref cP) A outer s H E) (free_only ?_) ?_ rfl ?inj ?slots
            · dsimp only
              decide +kernel
            · dsimp only
              decide +kernel
            case inj =>
              intro y1 h1 y2 h2 c e1 e2
              simp only [List.mem_cons, List.not_mem_nil, or_false] at h1 h2
              rw [h1, h2]
            case slots =>
              intro i y e
              match i, e with
              | 0, e =>
                cases e
                exact ⟨_, c1, rfl, hc1, hidT_at c1a g1 cellO_tbl⟩
          exact ⟨_, pe_cmpR op_ge (pv 0) (pv 1) (nomark _), _, rfl, _, rfl, _, _, rfl, rfl, rfl, rfl⟩
        · exact ⟨A5, B5, C5, ha6, r5.1, r5.2.1, r5.2.2.1, by omega⟩
        · intro b o e
          obtain ⟨h1, h2, h3⟩ := hidT_of e
          exact lift b o (m0x b o ((hid_ne h1).trans h2)) h3
        · refine tabs5.ext fun b o e => s6 b o e
end
end Pw
set_option maxHeartbeats 2000000
/-! _law_raised: what a call raises -/
namespace Pw
open PySem PySem.Spec PyProof.Rows L2 LamX
abbrev sRaised : Stmt := topS 24
theorem scRaised : FnScope ["_law_call", "_law_found", "e", "_law_marks"] ["_law_call"] (defScope sRaised) := ⟨rfl, rfl, rfl, by decide +kernel, rfl, by decide +kernel, by decide +kernel⟩
/-- what the text says of the error classes, further -/
structure Errs2 (K : PySem.W.Frag) (mg : Str → Option Value) (CP CT fT CB fB : Addr) : Prop extends Errs K mg CT fT CB fB where
  gP : mg "PullError" = some (.ref CP)
  eT : ExcC K CT
  eB : ExcC K CB
  kTT : PySem.W.kitOne K (.ref CT) (.ref CT) = some true
  kTB : PySem.W.kitOne K (.ref CT) (.ref CB) = some false
  kBT : PySem.W.kitOne K (.ref CB) (.ref CT) = some false
  kBB : PySem.W.kitOne K (.ref CB) (.ref CB) = some true
  xT : PySem.W.exmOne K (.ref CT) (.ref CP) = some true
  xB : PySem.W.exmOne K (.ref CB) (.ref CP) = some true
/-- what is told of an error -/
def TRaised (K : PySem.W.Frag) (CT CB : Addr) : (XK → Hp → VK → Prop) → Hp → VK → Prop := fun tl H Q =>
  ∀ p0, H p0 = none → ∀ Nm : VK, tl (fun cls dd H' =>
      (cls = .ref CT ∧ ∃ d v data, dd = some d ∧ H' d = some (.xd [("test", v)]) ∧ Dv K H' v data ∧ Tells data ∧ ∀ p H'', Same H' H'' → H'' p = some (.tup [.str "test", .str data.shown]) → Q (.ref p) H'') ∨
      (cls = .ref CB ∧ ∃ d v, dd = some d ∧ H' d = some (.xd [("part", v)]) ∧ ∀ p H'', Same H' H'' → H'' p = some (.tup [.str "bound", v]) → Q (.ref p) H''))
    (upd H p0 (.tup [.str "another", .non])) Nm
theorem op_eqDs {Y : Cx} {a : Addr} {pn : List (Addr × Obj)} (hu : Y.A.units + 64 < cLine) : OpR (Y.suite a pn) (compareOp .Eq) (rEqD Y.K) := op_eqD (X := Y.suite a pn) hu
theorem call_reprDs {Y : Cx} {a : Addr} {pn : List (Addr × Obj)} (hg : Y.A.guards = some []) (hu : Y.A.units + 64 < cLine) : CallR (Y.suite a pn) (.builtin "repr") (fun xs H Q => ∃ v d, xs = [v] ∧ Dv Y.K H v d ∧ Tells d ∧ Q (.str d.shown) H) := call_reprD (X := Y.suite a pn) hg hu
/-- the slots are as many as the names -/
theorem pss_len {Y : Cx} {body : List Stmt} {t : TS} {n : Nat} (hn : Y.N.length = n) (h : PSs Y body t) : PSs Y body (fun D σ H => σ.length = n → t D σ H) := ⟨fun pins s σ H D I q => h.run pins s σ H D I (q (I.len.trans hn))⟩
theorem four {σ : L2.St} (h : σ.length = 4) : ∃ a b c d, σ = [a, b, c, d] := by
  match σ, h with
  | [a, b, c, d], _ => exact ⟨a, b, c, d, rfl⟩
section
variable {X : Cx} {CP CT fT CB fB : Addr}
theorem raised_gives (hg : X.A.guards = some []) (hu : X.A.units + 70 < cLine) (B : Blt X.mg) (R : Errs2 X.K X.mg CP CT fT CB fB) {g : Addr} {cdg : Value} {q : Str} :
    GivesTo X ["_law_call", "_law_found", "e", "_law_marks"] "_law_raised" (defScope sRaised) g cdg (defBody sRaised) "_law_call" q (TRaised X.K CT CB) := by
  intro f c' s H Q tl act hc h
  have nd := scRaised.nd
  have hgl : Gl (cxOf C8.CX0 X.prog X.w X.K X.mg X.base ["_law_call", "_law_found", "e", "_law_marks"] "_law_raised" (defScope sRaised) g cdg X.A X.stack s H C8.E0).nox "PullError" := by rfl
  have hu64 : (X.A.deeper (envOfC "_law_raised" (defScope sRaised) s.heap.objs.size g cdg)).units + 64 < cLine := by
    show X.A.units + 3 + 64 < cLine
    omega
  have hg1 : (X.A.deeper (envOfC "_law_raised" (defScope sRaised) s.heap.objs.size g cdg)).guards = some [] := by
    first | exact hg | (show X.A.guards = some []; exact hg) | simp [Around.deeper, hg]
  refine ⟨_, pss_cons (ps_set (i := 1) nd rfl (.inl rfl) (pe_tup (pa_cons pe_str (pa_cons pe_non pa_nil))))
    (pss_cons (ps_try_as (i := 2) (c := .ref CP) (Wout := fun _ _ _ _ => False)
        (tb := fun W D σ H => ∃ Ech : XK, (∀ cls d σ' H', Ech cls d H' → W cls d σ' H') ∧ σ[0]? = some (some (.ref f)) ∧ H c' = some (CodeO c' q) ∧ tl Ech H (fun _ H' => D.nx (σ.set 1 (some .non)) H'))
        rfl rfl nd rfl rfl ⟨hgl, by decide, .inl R.gP⟩ L2.takes0 (fun W pn xe tk _ => ?body)
        (fun a oe cls d pn hz hf => pss_len (n := 4) rfl (pss_cons (ps_set (i := 3) nd rfl (.inl rfl) (pe_lst (pa_cons (pe_callB (call_isED hz hf) (by rfl) B.isi boot_isinstance (pa_cons (pv 2) (pa_cons (pe_glob (v := .ref CT) rfl R.t.gC rfl) pa_nil)))
            (pa_cons (pe_callB (call_isED hz hf) (by rfl) B.isi boot_isinstance (pa_cons (pv 2) (pa_cons (pe_glob (v := .ref CB) rfl R.b.gC rfl) pa_nil))) pa_nil))))
          (pss_cons (ps_if (pt_cmpR (op_eqDs hu64) (pv 3) (pe_lst (pa_cons pe_bl (pa_cons pe_bl pa_nil))) (nomark _))
            (pss_one (ps_set (i := 1) nd rfl (.inl rfl) (pe_tup (pa_cons pe_str (pa_cons (pe_callB (call_reprDs hg1 hu64) (by rfl) B.repr boot_repr (pa_cons (pe_errFld R.t hz hf (pv 2)) pa_nil)) pa_nil))))) pss_nil)
          (pss_one (ps_if (pt_cmpR (op_eqDs hu64) (pv 3) (pe_lst (pa_cons pe_bl (pa_cons pe_bl pa_nil))) (nomark _))
            (pss_one (ps_set (i := 1) nd rfl (.inl rfl) (pe_tup (pa_cons pe_str (pa_cons (pe_errFld R.b hz hf (pv 2)) pa_nil))))) pss_nil))))))
      (pss_one (ps_ret (pv 1)))), ?_⟩
  case body =>
    refine ⟨fun pins s' σ H' D I h' => ?_⟩
    obtain ⟨Ech, hW, h1, h2, h3⟩ := h'
    exact (pss_cons (ps_expr (act W pn xe Ech _ _ tk hW)) (pss_one (ps_set (i := 1) nd rfl (.inl rfl) pe_non))).run pins s' σ H' D I ⟨h1, h2, h3⟩
  · refine ⟨by show 2 ≤ sizeLine; decide, fun p0 np0 => ?_⟩
    have s0 := same_upd (o := HO.tup [V.str "another", V.non]) np0
    refine ⟨_, fun cls dd σ' H' he => ?_, rfl, s0 _ _ hc, h p0 np0 _⟩
    rcases he with ⟨rfl, d, v, data, rfl, hd, hv, ht, k⟩ | ⟨rfl, d, v, rfl, hd, k⟩
    · refine ⟨true, R.xT, fun _ a na len => ?_, fun z => Bool.noConfusion z⟩
      rw [List.length_set] at len
      obtain ⟨x0, x1, x2, x3, rfl⟩ := four len
      refine ⟨.ref a, rfl, CT, .ref CT, .ref CT, true, d, _, rfl, R.eT, rfl, fun u r => r, rfl, hd, R.kTT, .ref a, rfl, CT, .ref CB, .ref CB, false, d, _, rfl, R.eT, rfl, fun u r => r, rfl, hd, R.kTB, by show 2 ≤ sizeLine; decide, fun l nl => ?_⟩
      have s1 := same_upd (o := HO.lst [V.bl true, V.bl false]) nl
      refine ⟨.ref l, rfl, by show 2 ≤ sizeLine; decide, fun l2 nl2 => ?_⟩
      have s2 := same_upd (o := HO.lst [V.bl true, V.bl false]) nl2
      have h1 : SqL X.K (upd (upd H' l (.lst [.bl true, .bl false])) l2 (.lst [.bl true, .bl false])) l [.bl true, .bl false] := SqL.of (s2 _ _ upd_same)
      refine ⟨.list [.bool true, .bool false], .list [.bool true, .bool false], .lst h1 (.cons (.bl _) (.cons (.bl _) .nil)), .lst (SqL.of upd_same) (.cons (.bl _) (.cons (.bl _) .nil)), by decide, by decide, _, rfl, ?_⟩
      rw [show PyData.eqv (.list [.bool true, .bool false]) (.list [.bool true, .bool false]) = true by decide]
      have hd2 := s2 _ _ (s1 _ _ hd)
      refine ⟨.ref a, rfl, rfl, rfl, d, v, rfl, hd2, v, data, rfl, hv.same (s1.trans s2), ht, by show 2 ≤ sizeLine; decide, fun p np => ?_⟩
      have s3 := same_upd (o := HO.tup [V.str "test", V.str data.shown]) np
      refine ⟨.ref l, rfl, by show 2 ≤ sizeLine; decide, fun l3 nl3 => ?_⟩
      have s4 := same_upd (o := HO.lst [V.bl false, V.bl true]) nl3
      refine ⟨.list [.bool true, .bool false], .list [.bool false, .bool true], .lst (SqL.of (s4 _ _ (s3 _ _ (s2 _ _ upd_same)))) (.cons (.bl _) (.cons (.bl _) .nil)), .lst (SqL.of upd_same) (.cons (.bl _) (.cons (.bl _) .nil)), by decide, by decide, _, rfl, ?_⟩
      rw [show PyData.eqv (.list [.bool true, .bool false]) (.list [.bool false, .bool true]) = false by decide]
      refine ⟨.ref p, rfl, k p _ (s1.trans (s2.trans (s3.trans s4))) (s4 _ _ upd_same)⟩
    · refine ⟨true, R.xB, fun _ a na len => ?_, fun z => Bool.noConfusion z⟩
      rw [List.length_set] at len
      obtain ⟨x0, x1, x2, x3, rfl⟩ := four len
      refine ⟨.ref a, rfl, CB, .ref CT, .ref CT, false, d, _, rfl, R.eB, rfl, fun u r => r, rfl, hd, R.kBT, .ref a, rfl, CB, .ref CB, .ref CB, true, d, _, rfl, R.eB, rfl, fun u r => r, rfl, hd, R.kBB, by show 2 ≤ sizeLine; decide, fun l nl => ?_⟩
      have s1 := same_upd (o := HO.lst [V.bl false, V.bl true]) nl
      refine ⟨.ref l, rfl, by show 2 ≤ sizeLine; decide, fun l2 nl2 => ?_⟩
      have s2 := same_upd (o := HO.lst [V.bl true, V.bl false]) nl2
      refine ⟨.list [.bool false, .bool true], .list [.bool true, .bool false], .lst (SqL.of (s2 _ _ upd_same)) (.cons (.bl _) (.cons (.bl _) .nil)), .lst (SqL.of upd_same) (.cons (.bl _) (.cons (.bl _) .nil)), by decide, by decide, _, rfl, ?_⟩
      rw [show PyData.eqv (.list [.bool false, .bool true]) (.list [.bool true, .bool false]) = false by decide]
      refine ⟨.ref l, rfl, by show 2 ≤ sizeLine; decide, fun l3 nl3 => ?_⟩
      have s4 := same_upd (o := HO.lst [V.bl false, V.bl true]) nl3
      refine ⟨.list [.bool false, .bool true], .list [.bool false, .bool true], .lst (SqL.of (s4 _ _ (s2 _ _ upd_same))) (.cons (.bl _) (.cons (.bl _) .nil)), .lst (SqL.of upd_same) (.cons (.bl _) (.cons (.bl _) .nil)), by decide, by decide, _, rfl, ?_⟩
      rw [show PyData.eqv (.list [.bool false, .bool true]) (.list [.bool false, .bool true]) = true by decide]
      have hd3 := s4 _ _ (s2 _ _ (s1 _ _ hd))
      refine ⟨.ref a, rfl, rfl, rfl, d, v, rfl, hd3, by show 2 ≤ sizeLine; decide, fun p np => ?_⟩
      have s3 := same_upd (o := HO.tup [V.str "bound", v]) np
      refine ⟨.ref p, rfl, k p _ (s1.trans (s2.trans (s4.trans s3))) upd_same⟩
end
end Pw
set_option maxHeartbeats 2000000
/-! what the law's own body wants -/
namespace Pw
open PySem PySem.Spec PyProof.Rows L2 LamX
/-! ### displays of data, read beside the source at p -/
section
variable {K : PySem.W.Frag} {p : Addr} {Hc : Hp} {σ : L2.St}
def EvD (K : PySem.W.Frag) (p : Addr) (Hc : Hp) (σ : L2.St) (te : TE) (d : PyData) : Prop := ∀ (H : Hp) (Q : VK), (∃ xs, H p = some (.lst xs)) → Same (hidT p Hc) H → (∀ v H', Same H H' → Dv K (hidT p H') v d → Q v H') → te σ H Q
def EvA (K : PySem.W.Frag) (p : Addr) (Hc : Hp) (σ : L2.St) (ta : TA) (ds : List PyData) : Prop := ∀ (H : Hp) (Q : List V → Hp → Prop), (∃ xs, H p = some (.lst xs)) → Same (hidT p Hc) H → (∀ vs H', Same H H' → DvAll K (hidT p H') vs ds → Q vs H') → ta σ H Q
theorem ev_non : EvD K p Hc σ (tC .non) .none := fun H Q _ _ q => q _ _ (Same.refl _) .non
theorem ev_bl {b : Bool} : EvD K p Hc σ (tC (.bl b)) (.bool b) := fun H Q _ _ q => q _ _ (Same.refl _) (.bl _)
theorem ev_int {i : Int} : EvD K p Hc σ (tC (.int i)) (.int i) := fun H Q _ _ q => q _ _ (Same.refl _) (.int _)
theorem ev_str {x : Str} : EvD K p Hc σ (tC (.str x)) (.str x) := fun H Q _ _ q => q _ _ (Same.refl _) (.str _)
theorem ev_neg {i : Int} : EvD K p Hc σ (tUn (rU fun i => .int (-i)) (tC (.int i))) (.int (-i)) := fun H Q _ _ q => ⟨i, rfl, q _ _ (Same.refl _) (.int _)⟩
theorem ev_var {i : Nat} {v : V} {d : PyData} (hs : σ[i]? = some (some v)) (hd : Dv K (hidT p Hc) v d) : EvD K p Hc σ (tVar i) d := fun H Q _ sm q => ⟨v, hs, q v H (Same.refl _) (hd.same (hidT_mono sm))⟩
theorem eva_nil : EvA K p Hc σ tNil [] := fun H Q _ _ q => q _ _ (Same.refl _) .nil
theorem eva_cons {te : TE} {ta : TA} {d : PyData} {ds : List PyData} (h1 : EvD K p Hc σ te d) (h2 : EvA K p Hc σ ta ds) : EvA K p Hc σ (tCons te ta) (d :: ds) := fun H Q hp sm q => by
  refine h1 H _ hp sm fun v H1 s1 d1 => ?_
  obtain ⟨xs, hx⟩ := hp
  refine h2 H1 _ ⟨xs, s1 _ _ hx⟩ (sm.trans s1) fun vs H2 s2 d2 => q _ H2 (s1.trans s2) (.cons (d1.same ?_) d2)
  exact hidT_mono (hidT_same.trans s2)
theorem ev_tup {ta : TA} {ds : List PyData} (h : EvA K p Hc σ ta ds) (hz : ds.length ≤ 1000 := by exact Nat.le_of_ble_eq_true rfl) : EvD K p Hc σ (tTup ta) (.tuple ds) := fun H Q hp sm q => by
  refine h H _ hp sm fun vs H1 s1 d1 => ?_
  have hl := d1.length
  obtain ⟨xs, hx⟩ := hp
  refine ⟨by rw [hl]; exact Nat.le_of_lt (small1000 hz), fun t nt => q _ _ (s1.trans (same_upd nt)) ?_⟩
  have tp : t ≠ p := (ne_of_none (s1 _ _ hx) nt).symm
  exact .tup (hidT_at tp upd_same (fun _ z => by cases z)) (by rw [hl]; exact hz) (d1.same (hidT_mono (hidT_same.trans (same_upd nt))))
theorem ev_lst {ta : TA} {ds : List PyData} (h : EvA K p Hc σ ta ds) (hz : ds.length ≤ 1000 := by exact Nat.le_of_ble_eq_true rfl) : EvD K p Hc σ (tLst ta) (.list ds) := fun H Q hp sm q => by
  refine h H _ hp sm fun vs H1 s1 d1 => ?_
  have hl := d1.length
  obtain ⟨xs, hx⟩ := hp
  refine ⟨by rw [hl]; exact Nat.le_of_lt (small1000 hz), fun t nt => q _ _ (s1.trans (same_upd nt)) ?_⟩
  have tp : t ≠ p := (ne_of_none (s1 _ _ hx) nt).symm
  exact .lst (hidT_at tp upd_same (fun _ z => by cases z)) (by rw [hl]; exact hz) (d1.same (hidT_mono (hidT_same.trans (same_upd nt))))
theorem ev_dict : EvD K p Hc σ tDNewK (.dict []) := fun H Q hp sm q t nt => by
  obtain ⟨xs, hx⟩ := hp
  have tp : t ≠ p := (ne_of_none hx nt).symm
  exact q _ _ (same_upd nt) (.dct (hidT_at tp upd_same (fun _ z => by cases z)))
end
/-! ### a call by keywords alone -/
structure DefKw (P : Program) (w : World) (K : PySem.W.Frag) (mg : Str → Option Value) (base : Heap) (CX : CXT) (k : Nat) (x : Str) (ps ks : List Str) (g : {α : Type} → List α → List α) (sp : Sp) : Prop where
  ex : ∃ (f : Addr) (fd : FuncData), mg x = some (.ref f) ∧ PySem.W.keepIn K (.ref f) = true ∧ (∀ (s : Shared) (us : List Value), us.length = ks.length → BindsTo s fd ⟨[], ks.zip us⟩ (ps.zip (g us))) ∧ (∀ {vs : List V} {us : List Value}, Vals vs us → Vals (g vs) (g us)) ∧ (∀ us : List Value, us.length = ks.length → (g us).length = ps.length) ∧ FnOk P w K mg base CX k f fd ps sp
def tKw (sp : Sp) (n : Nat) (g : {α : Type} → List α → List α) (E : XK) (tk : TA) : TE := fun σ H Q => tk σ H fun zs H1 => zs.length = n ∧ sp (g zs) H1 Q E
theorem pe_kw {X : Cx} {CX : CXT} {j k : Nat} {x : Str} {ps ks : List Str} {g : {α : Type} → List α → List α} {sp : Sp} {E : XK} {kws : List Keyword} {p pos : Pos} {tk : TA} (D : DefKw X.prog X.w X.K X.mg X.base CX j x ps ks g sp) (hr : Room k X.A) (hx : Passes CX X E) (hkw : PK X kws tk) (hk : j ≤ k := by decide) (hg : Gl X x := by rfl)
    (hall : (backToKw pos (keywordEach kws X.env)).all (·.1.isSome) = true := by rfl) (hks : (backToKw pos (keywordEach kws X.env)).filterMap (·.1) = ks := by rfl) (hdb : (x == ("__debug__" : Str)) = false := by decide)
    (hpl : ((backTo pos (starEach [] X.env)).any (·.1) || (backToKw pos (keywordEach kws X.env)).any (·.1.isNone)) = false := by rfl) :
    PE X (.Call (.Name x p) [] kws pos) (tKw sp ks.length g E tk) := by
  obtain ⟨f, fd, gf, kp, bd, rel, lg, F⟩ := D.ex
  refine ⟨fun pins s σ H Q I h => wpAny_Call_Name_kw (ld_glob I hg gf ?_ hdb)⟩
  refine PySem.W.callWith_KW0 (h₀ := X.base) I.ok.mod.kin kp hall (thn (hkw.run pos pins s σ H _ I h) fun us s2 q => ?_) hpl
  obtain ⟨zs, H2, I2, r, len, q⟩ := q
  refine ⟨I2.kIn, ?_⟩
  rw [hks]
  have lu : us.length = ks.length := by
    rw [← r.length]
    exact len
  show wpAny _ _ (call (.ref f) [] (ks.zip us)) _ _ _
  refine wpAny_call (codeAny_mono (F.run X.A X.stack s2 H2 ⟨[], ks.zip us⟩ (g us) (g zs) Q E (hr.mono hk) I2.env0 (bd s2 us lu) (rel r) q) fun res s' out => ?_)
  cases res with
  | error e => exact hx pins σ H2 s2 e s' I2 out
  | ok fl =>
    cases fl with
    | ret u => exact I2.after out
    | next => exact False.elim out
    | brk => exact False.elim out
    | cont => exact False.elim out
/-! ### tests with some "not" ahead -/
def negN : Nat → Tst → Tst
  | 0, t => t
  | n + 1, t => .neg (negN n t)
theorem negN_ok {t : Tst} (h : t.Ok) : ∀ n, (negN n t).Ok
  | 0 => h
  | n + 1 => negN_ok h n
theorem negN_nots {t : Tst} (h : t.nots = 0) : ∀ n, (negN n t).nots = n
  | 0 => h
  | n + 1 => by
    show (negN n t).nots + 1 = n + 1
    rw [negN_nots h n]
theorem negN_holds (t : Tst) (i : Int) : ∀ n : Nat, (negN n t).holds i = (t.holds i != decide (n % 2 = 1))
  | 0 => by
    show t.holds i = _
    simp
  | n + 1 => by
    show (!(negN n t).holds i) = _
    rw [negN_holds t i n]
    by_cases h : n % 2 = 1
    · have h2 : ¬ (n + 1) % 2 = 1 := by omega
      rw [decide_eq_true h, decide_eq_false h2]
      cases t.holds i <;> rfl
    · have h2 : (n + 1) % 2 = 1 := by omega
      rw [decide_eq_false h, decide_eq_true h2]
      cases t.holds i <;> rfl
theorem plain_notNeg : ∀ {t : Tst}, t.nots = 0 → isNeg t.dat = false
  | .neg t, h => by cases h
  | .lt _, _ => by rfl
  | .ge _, _ => by rfl
  | .md _ _, _ => by rfl
theorem unNot_neg {t : Tst} (h : t.nots = 0) : ∀ (n m : Nat), n ≤ m → unNot m (negN n t).dat = t.dat
  | 0, m, _ => unNot_stop m t.dat (plain_notNeg h)
  | n + 1, 0, hn => absurd hn (Nat.not_succ_le_zero n)
  | n + 1, m + 1, hn => by
    show (if oneOf (.str "not") ["not"] = true then unNot m (negN n t).dat else _) = _
    rw [if_pos (by decide)]
    exact unNot_neg h n m (Nat.le_of_succ_le_succ hn)
theorem negN_test {t : Tst} (h : Drawn1 t) {n : Nat} (hn : n ≤ 3) : isTest (negN n t).dat = true := by
  unfold isTest
  rw [unNot_neg h.nots n 3 hn]
  exact h.plain
end Pw
set_option maxHeartbeats 2000000
/-! the law's written values -/
namespace Pw
open PySem PySem.Spec PyProof.Rows L2 LamX
theorem negN_dct {t : Tst} (h : t.dat.hasDict = false) : ∀ n, (negN n t).dat.hasDict = false
  | 0 => h
  | n + 1 => by
    show PyData.hasDict (.tuple [.str "not", (negN n t).dat]) = false
    simp only [PyData.hasDict, PyData.hasDictAll, negN_dct h n]
    rfl
theorem negN_shw {t : Tst} (h : t.dat.showable = true) : ∀ n, (negN n t).dat.showable = true
  | 0 => h
  | n + 1 => by
    show PyData.showable (.tuple [.str "not", (negN n t).dat]) = true
    simp only [PyData.showable, PyData.showableAll, negN_shw h n]
    rfl
theorem negN_dep {t : Tst} (h : t.dat.depth ≤ 5) : ∀ n, (negN n t).dat.depth ≤ 5 + n
  | 0 => h
  | n + 1 => by
    have ih := negN_dep h n
    show PyData.depth (.tuple [.str "not", (negN n t).dat]) ≤ 5 + (n + 1)
    simp only [PyData.depth, PyData.depthAll]
    omega
theorem negN_cst {t : Tst} (h : cost t.dat ≤ 100000) : ∀ n, cost (negN n t).dat ≤ 100000 + 20 * n
  | 0 => h
  | n + 1 => by
    have ih := negN_cst h n
    have e : (reprText "not").length = 5 := by decide +kernel
    show cost (.tuple [.str "not", (negN n t).dat]) ≤ 100000 + 20 * (n + 1)
    simp only [cost, costAll, e]
    omega
theorem negN_oks {t : Tst} (h : okS t.dat = true) : ∀ n, okS (negN n t).dat = true
  | 0 => h
  | n + 1 => by
    have e : PyData.strOk (reprText "not") = true := by decide +kernel
    show okS (.tuple [.str "not", (negN n t).dat]) = true
    simp only [okS, okAll, negN_oks h n, e]
    rfl
theorem negN_tells {t : Tst} (h : Drawn1 t) {n : Nat} (hn : n ≤ 10) : Tells (negN n t).dat := by
  have h1 := negN_dep h.dep n
  have h2 := negN_cst h.cst n
  exact ⟨.inl (negN_dct h.dct n), negN_shw h.shw n, by omega, by omega, negN_oks h.oks n⟩
/-- the values that are no tests -/
def odds (t : Tst) : List PyData :=
  [.none, .str "below", .tuple [.str "below"], .list [.str "below", .int 3], .tuple [.str "below", .bool true], .tuple [.str "below", .str "3"]] ++
  [.tuple [.str "below", .int (10 ^ (30 : Int).toNat + 1)], .tuple [.str "above", .int 3]] ++
  [.tuple [.str "mod", .int 3], .tuple [.str "mod", .int 0, .list []], .tuple [.str "mod", .int 101, .list [.int 0]], .tuple [.str "mod", .int 3, .list [.int 3]], .tuple [.str "mod", .int 3, .list [.int 1, .int 0]]] ++
  [.tuple [.str "mod", .int 3, .list [.int 1, .int 1]]] ++
  [.tuple [.str "mod", .int 3, .tuple [.int 0, .int 1]], .tuple [.str "mod", .int 3, .list [.bool true]], .tuple [.str "mod", .bool true, .list [.int 0]], .tuple [.str "not", .none]] ++
  [.tuple [.str "not", .int 3], .tuple [.str "from", .none]] ++
  [(negN 4 t).dat, .tuple [.str "below", .int 3, .int 4], .tuple [.list [.str "below"], .int 3], .dict [], .int 5] ++
  [.tuple [.str "mod", .int 3, .list [.int (-1)]]]
def fine (d : PyData) : Bool := decide (d.hasDict = false) && d.showable && decide (d.depth ≤ 60) && decide (cost d ≤ 1000000) && okS d
theorem fine_tells {d : PyData} (h : fine d = true) : Tells d := by
  unfold fine at h
  simp only [Bool.and_eq_true, decide_eq_true_eq] at h
  exact ⟨.inl h.1.1.1.1, h.1.1.1.2, h.1.1.2, h.1.2, h.2⟩
theorem dict_tells : Tells (.dict []) := ⟨.inr rfl, by decide +kernel, by decide +kernel, by decide +kernel, by decide +kernel⟩
theorem four_not {t : Tst} : isTest (negN 4 t).dat = false := rfl
theorem odd_bad {t : Tst} (h : Drawn1 t) : ∀ d ∈ odds t, isTest d = false ∧ Tells d := fun d hd => by
  unfold odds at hd
  simp only [List.cons_append, List.nil_append, List.mem_cons, List.not_mem_nil, or_false] at hd
  rcases hd with rfl | rfl | rfl | rfl | rfl | rfl | rfl | rfl | rfl | rfl | rfl | rfl | rfl | rfl | rfl | rfl | rfl | rfl | rfl | rfl | rfl | rfl | rfl | rfl | rfl | rfl
  all_goals first
    | exact ⟨by decide +kernel, fine_tells (by decide +kernel)⟩
    | exact ⟨four_not, negN_tells h (by decide)⟩
    | exact ⟨by decide +kernel, dict_tells⟩
/-- the things that are no integers -/
def things : List PyData := [.none, .str "3", .bool true, .list [.int 3], .dict [], .tuple [.int 3]]
theorem thing_bad : ∀ d ∈ things, isInt d = false := fun d hd => by
  unfold things at hd
  simp only [List.mem_cons, List.not_mem_nil, or_false] at hd
  rcases hd with rfl | rfl | rfl | rfl | rfl | rfl <;> rfl
end Pw
set_option maxHeartbeats 4000000
/-! the law's list of values that are no tests, read -/
namespace Pw
open PySem PySem.Spec PyProof.Rows L2 LamX NdefX
/-- a list of data grows by a display -/
theorem ev_more {K : PySem.W.Frag} {p l : Addr} {Hc : Hp} {σ : L2.St} {te : TE} {i : Nat} {vs : List V} {ds es : List PyData} (hp : ∃ xs, Hc p = some (.lst xs)) (cur : σ[i]? = some (some (.ref l))) (hl : hidT p Hc l = some (.lst vs)) (dl : DvAll K (hidT p Hc) vs ds) (h : EvD K p Hc σ te (.list es)) (hz : ds.length + es.length ≤ 1000)
    {Q : VK} (q : ∀ (l' : Addr) (vs' : List V) (H' : Hp), Same Hc H' → hidT p H' l' = some (.lst vs') → DvAll K (hidT p H') vs' (ds ++ es) → Q (.ref l') H') : tOp rCat (tVar i) te σ Hc Q := by
  refine ⟨_, cur, h Hc _ hp hidT_same fun v H1 s1 d1 => ?_⟩
  cases d1 with
  | @lst b ws _ hb hz2 dw =>
    have e1 := dl.length
    have e2 := dw.length
    refine ⟨l, b, vs, ws, rfl, rfl, s1 _ _ (hidT_of hl).2.1, (hidT_of hb).2.1, ?_, fun l' n' => ?_⟩
    · rw [e1, e2]
      exact Nat.le_of_lt (small1000 hz)
    · obtain ⟨xs, hx⟩ := hp
      have n2 : l' ≠ p := (ne_of_none (s1 _ _ hx) n').symm
      have s2 := same_upd (o := HO.lst (vs ++ ws)) n'
      refine q l' _ _ (s1.trans s2) (hidT_at n2 upd_same (fun _ z => by cases z)) ((dl.same (hidT_mono (hidT_same.trans (s1.trans s2)))).append (dw.same (hidT_mono (hidT_same.trans s2))))
theorem seq_of {t u : TS} {D : Ends} {σ : L2.St} {H : Hp} (h : t { D with nx := u D } σ H) : tSeq t u D σ H := h
theorem asg_of {te : TE} {g : TG} {D : Ends} {σ : L2.St} {H : Hp} (h : te σ H fun x H1 => g x σ H1 D.nx) : tAsg te g D σ H := h
theorem src_lst {H : Hp} {a : Addr} {k : Int} (s : Src H a k) : ∃ xs, H a = some (.lst xs) := by
  obtain ⟨A, B, C, h, _⟩ := s
  exact ⟨_, h⟩
theorem odd_0 {K : PySem.W.Frag} {p x : Addr} {t : Tst} {H : Hp} {u : TS} {D : Ends} {o0 o1 o2 o4 o5 o6 o7 o8 o9 o10 o11 o12 o13 o14 o15 o16 o17 o18 : Option V} (hp : ∃ xs, H p = some (.lst xs)) (hx : Dv K (hidT p H) (.ref x) t.dat)
    (k : ∀ (l : Addr) (vs : List V) (H' : Hp), Same H H' → hidT p H' l = some (.lst vs) → DvAll K (hidT p H') vs ([.none, .str "below", .tuple [.str "below"], .list [.str "below", .int 3], .tuple [.str "below", .bool true], .tuple [.str "below", .str "3"]] : List PyData) → u D [o0, o1, o2, some (.ref x), o4, o5, o6, o7, o8, o9, o10, o11, o12, o13, some (.ref l), o15, o16, o17, o18] H') : tSeq (tAsg (tLst (tCons (tC .non) (tCons (tC (.str "below")) (tCons (tTup (tCons (tC (.str "below")) tNil)) (tCons (tLst (tCons (tC (.str "below")) (tCons (tC (.int 3)) tNil))) (tCons (tTup (tCons (tC (.str "below")) (tCons (tC (.bl true)) tNil))) (tCons (tTup (tCons (tC (.str "below")) (tCons (tC (.str "3")) tNil))) tNil))))))) (gName 14)) u D [o0, o1, o2, some (.ref x), o4, o5, o6, o7, o8, o9, o10, o11, o12, o13, o14, o15, o16, o17, o18] H :=
  seq_of (asg_of ((ev_lst (K := K) (eva_cons ev_non (eva_cons ev_str (eva_cons (ev_tup (eva_cons ev_str eva_nil)) (eva_cons (ev_lst (eva_cons ev_str (eva_cons ev_int eva_nil))) (eva_cons (ev_tup (eva_cons ev_str (eva_cons ev_bl eva_nil))) (eva_cons (ev_tup (eva_cons ev_str (eva_cons ev_str eva_nil))) eva_nil))))))) H _ hp hidT_same fun v H' s d => by
    cases d with
    | @lst l vs _ h z d => exact k l vs H' s h d))
theorem odd_1 {K : PySem.W.Frag} {p x l0 : Addr} {t : Tst} {H : Hp} {u : TS} {D : Ends} {vs0 : List V} {ds : List PyData} {o0 o1 o2 o4 o5 o6 o7 o8 o9 o10 o11 o12 o13 o15 o16 o17 o18 : Option V} (hp : ∃ xs, H p = some (.lst xs)) (hx : Dv K (hidT p H) (.ref x) t.dat) (h0 : hidT p H l0 = some (.lst vs0)) (d0 : DvAll K (hidT p H) vs0 ds) (hz : ds.length ≤ 900)
    (k : ∀ (l : Addr) (vs : List V) (H' : Hp), Same H H' → hidT p H' l = some (.lst vs) → DvAll K (hidT p H') vs (ds ++ ([.tuple [.str "below", .int (10 ^ (30 : Int).toNat + 1)], .tuple [.str "above", .int 3]] : List PyData)) → u D [o0, o1, o2, some (.ref x), o4, o5, o6, o7, o8, o9, o10, o11, o12, o13, some (.ref l), o15, o16, o17, o18] H') : tSeq (tAsg (tOp rCat (tVar 14) (tLst (tCons (tTup (tCons (tC (.str "below")) (tCons (tOp (rI0 fun i j => V.int (i + j)) (tOp (rI CPow fun i j => V.int (i ^ j.toNat)) (tC (.int 10)) (tC (.int 30))) (tC (.int 1))) tNil))) (tCons (tTup (tCons (tC (.str "above")) (tCons (tC (.int 3)) tNil))) tNil)))) (gName 14)) u D [o0, o1, o2, some (.ref x), o4, o5, o6, o7, o8, o9, o10, o11, o12, o13, some (.ref l0), o15, o16, o17, o18] H :=
  seq_of (asg_of (ev_more (i := 14) hp rfl h0 d0 (ev_lst (eva_cons (ev_tup (eva_cons ev_str (eva_cons (fun H Q _ _ q => ⟨_, _, rfl, rfl, ⟨by decide, by decide, by decide⟩, _, _, rfl, rfl, q _ _ (Same.refl _) (.int _)⟩) eva_nil))) (eva_cons (ev_tup (eva_cons ev_str (eva_cons ev_int eva_nil))) eva_nil))) (Nat.le_trans (Nat.add_le_add_right hz _) (Nat.le_of_ble_eq_true rfl)) fun l vs H' s h d => k l vs H' s h d))
theorem odd_2 {K : PySem.W.Frag} {p x l0 : Addr} {t : Tst} {H : Hp} {u : TS} {D : Ends} {vs0 : List V} {ds : List PyData} {o0 o1 o2 o4 o5 o6 o7 o8 o9 o10 o11 o12 o13 o15 o16 o17 o18 : Option V} (hp : ∃ xs, H p = some (.lst xs)) (hx : Dv K (hidT p H) (.ref x) t.dat) (h0 : hidT p H l0 = some (.lst vs0)) (d0 : DvAll K (hidT p H) vs0 ds) (hz : ds.length ≤ 900)
    (k : ∀ (l : Addr) (vs : List V) (H' : Hp), Same H H' → hidT p H' l = some (.lst vs) → DvAll K (hidT p H') vs (ds ++ ([.tuple [.str "mod", .int 3], .tuple [.str "mod", .int 0, .list []], .tuple [.str "mod", .int 101, .list [.int 0]], .tuple [.str "mod", .int 3, .list [.int 3]], .tuple [.str "mod", .int 3, .list [.int 1, .int 0]]] : List PyData)) → u D [o0, o1, o2, some (.ref x), o4, o5, o6, o7, o8, o9, o10, o11, o12, o13, some (.ref l), o15, o16, o17, o18] H') : tSeq (tAsg (tOp rCat (tVar 14) (tLst (tCons (tTup (tCons (tC (.str "mod")) (tCons (tC (.int 3)) tNil))) (tCons (tTup (tCons (tC (.str "mod")) (tCons (tC (.int 0)) (tCons (tLst tNil) tNil)))) (tCons (tTup (tCons (tC (.str "mod")) (tCons (tC (.int 101)) (tCons (tLst (tCons (tC (.int 0)) tNil)) tNil)))) (tCons (tTup (tCons (tC (.str "mod")) (tCons (tC (.int 3)) (tCons (tLst (tCons (tC (.int 3)) tNil)) tNil)))) (tCons (tTup (tCons (tC (.str "mod")) (tCons (tC (.int 3)) (tCons (tLst (tCons (tC (.int 1)) (tCons (tC (.int 0)) tNil))) tNil)))) tNil))))))) (gName 14)) u D [o0, o1, o2, some (.ref x), o4, o5, o6, o7, o8, o9, o10, o11, o12, o13, some (.ref l0), o15, o16, o17, o18] H :=
  seq_of (asg_of (ev_more (i := 14) hp rfl h0 d0 (ev_lst (eva_cons (ev_tup (eva_cons ev_str (eva_cons ev_int eva_nil))) (eva_cons (ev_tup (eva_cons ev_str (eva_cons ev_int (eva_cons (ev_lst eva_nil) eva_nil)))) (eva_cons (ev_tup (eva_cons ev_str (eva_cons ev_int (eva_cons (ev_lst (eva_cons ev_int eva_nil)) eva_nil)))) (eva_cons (ev_tup (eva_cons ev_str (eva_cons ev_int (eva_cons (ev_lst (eva_cons ev_int eva_nil)) eva_nil)))) (eva_cons (ev_tup (eva_cons ev_str (eva_cons ev_int (eva_cons (ev_lst (eva_cons ev_int (eva_cons ev_int eva_nil))) eva_nil)))) eva_nil)))))) (Nat.le_trans (Nat.add_le_add_right hz _) (Nat.le_of_ble_eq_true rfl)) fun l vs H' s h d => k l vs H' s h d))
theorem odd_3 {K : PySem.W.Frag} {p x l0 : Addr} {t : Tst} {H : Hp} {u : TS} {D : Ends} {vs0 : List V} {ds : List PyData} {o0 o1 o2 o4 o5 o6 o7 o8 o9 o10 o11 o12 o13 o15 o16 o17 o18 : Option V} (hp : ∃ xs, H p = some (.lst xs)) (hx : Dv K (hidT p H) (.ref x) t.dat) (h0 : hidT p H l0 = some (.lst vs0)) (d0 : DvAll K (hidT p H) vs0 ds) (hz : ds.length ≤ 900)
    (k : ∀ (l : Addr) (vs : List V) (H' : Hp), Same H H' → hidT p H' l = some (.lst vs) → DvAll K (hidT p H') vs (ds ++ ([.tuple [.str "mod", .int 3, .list [.int 1, .int 1]]] : List PyData)) → u D [o0, o1, o2, some (.ref x), o4, o5, o6, o7, o8, o9, o10, o11, o12, o13, some (.ref l), o15, o16, o17, o18] H') : tSeq (tAsg (tOp rCat (tVar 14) (tLst (tCons (tTup (tCons (tC (.str "mod")) (tCons (tC (.int 3)) (tCons (tLst (tCons (tC (.int 1)) (tCons (tC (.int 1)) tNil))) tNil)))) tNil))) (gName 14)) u D [o0, o1, o2, some (.ref x), o4, o5, o6, o7, o8, o9, o10, o11, o12, o13, some (.ref l0), o15, o16, o17, o18] H :=
  seq_of (asg_of (ev_more (i := 14) hp rfl h0 d0 (ev_lst (eva_cons (ev_tup (eva_cons ev_str (eva_cons ev_int (eva_cons (ev_lst (eva_cons ev_int (eva_cons ev_int eva_nil))) eva_nil)))) eva_nil)) (Nat.le_trans (Nat.add_le_add_right hz _) (Nat.le_of_ble_eq_true rfl)) fun l vs H' s h d => k l vs H' s h d))
theorem odd_4 {K : PySem.W.Frag} {p x l0 : Addr} {t : Tst} {H : Hp} {u : TS} {D : Ends} {vs0 : List V} {ds : List PyData} {o0 o1 o2 o4 o5 o6 o7 o8 o9 o10 o11 o12 o13 o15 o16 o17 o18 : Option V} (hp : ∃ xs, H p = some (.lst xs)) (hx : Dv K (hidT p H) (.ref x) t.dat) (h0 : hidT p H l0 = some (.lst vs0)) (d0 : DvAll K (hidT p H) vs0 ds) (hz : ds.length ≤ 900)
    (k : ∀ (l : Addr) (vs : List V) (H' : Hp), Same H H' → hidT p H' l = some (.lst vs) → DvAll K (hidT p H') vs (ds ++ ([.tuple [.str "mod", .int 3, .tuple [.int 0, .int 1]], .tuple [.str "mod", .int 3, .list [.bool true]], .tuple [.str "mod", .bool true, .list [.int 0]], .tuple [.str "not", .none]] : List PyData)) → u D [o0, o1, o2, some (.ref x), o4, o5, o6, o7, o8, o9, o10, o11, o12, o13, some (.ref l), o15, o16, o17, o18] H') : tSeq (tAsg (tOp rCat (tVar 14) (tLst (tCons (tTup (tCons (tC (.str "mod")) (tCons (tC (.int 3)) (tCons (tTup (tCons (tC (.int 0)) (tCons (tC (.int 1)) tNil))) tNil)))) (tCons (tTup (tCons (tC (.str "mod")) (tCons (tC (.int 3)) (tCons (tLst (tCons (tC (.bl true)) tNil)) tNil)))) (tCons (tTup (tCons (tC (.str "mod")) (tCons (tC (.bl true)) (tCons (tLst (tCons (tC (.int 0)) tNil)) tNil)))) (tCons (tTup (tCons (tC (.str "not")) (tCons (tC .non) tNil))) tNil)))))) (gName 14)) u D [o0, o1, o2, some (.ref x), o4, o5, o6, o7, o8, o9, o10, o11, o12, o13, some (.ref l0), o15, o16, o17, o18] H :=
  seq_of (asg_of (ev_more (i := 14) hp rfl h0 d0 (ev_lst (eva_cons (ev_tup (eva_cons ev_str (eva_cons ev_int (eva_cons (ev_tup (eva_cons ev_int (eva_cons ev_int eva_nil))) eva_nil)))) (eva_cons (ev_tup (eva_cons ev_str (eva_cons ev_int (eva_cons (ev_lst (eva_cons ev_bl eva_nil)) eva_nil)))) (eva_cons (ev_tup (eva_cons ev_str (eva_cons ev_bl (eva_cons (ev_lst (eva_cons ev_int eva_nil)) eva_nil)))) (eva_cons (ev_tup (eva_cons ev_str (eva_cons ev_non eva_nil))) eva_nil))))) (Nat.le_trans (Nat.add_le_add_right hz _) (Nat.le_of_ble_eq_true rfl)) fun l vs H' s h d => k l vs H' s h d))
theorem odd_5 {K : PySem.W.Frag} {p x l0 : Addr} {t : Tst} {H : Hp} {u : TS} {D : Ends} {vs0 : List V} {ds : List PyData} {o0 o1 o2 o4 o5 o6 o7 o8 o9 o10 o11 o12 o13 o15 o16 o17 o18 : Option V} (hp : ∃ xs, H p = some (.lst xs)) (hx : Dv K (hidT p H) (.ref x) t.dat) (h0 : hidT p H l0 = some (.lst vs0)) (d0 : DvAll K (hidT p H) vs0 ds) (hz : ds.length ≤ 900)
    (k : ∀ (l : Addr) (vs : List V) (H' : Hp), Same H H' → hidT p H' l = some (.lst vs) → DvAll K (hidT p H') vs (ds ++ ([.tuple [.str "not", .int 3], .tuple [.str "from", .none]] : List PyData)) → u D [o0, o1, o2, some (.ref x), o4, o5, o6, o7, o8, o9, o10, o11, o12, o13, some (.ref l), o15, o16, o17, o18] H') : tSeq (tAsg (tOp rCat (tVar 14) (tLst (tCons (tTup (tCons (tC (.str "not")) (tCons (tC (.int 3)) tNil))) (tCons (tTup (tCons (tC (.str "from")) (tCons (tC .non) tNil))) tNil)))) (gName 14)) u D [o0, o1, o2, some (.ref x), o4, o5, o6, o7, o8, o9, o10, o11, o12, o13, some (.ref l0), o15, o16, o17, o18] H :=
  seq_of (asg_of (ev_more (i := 14) hp rfl h0 d0 (ev_lst (eva_cons (ev_tup (eva_cons ev_str (eva_cons ev_int eva_nil))) (eva_cons (ev_tup (eva_cons ev_str (eva_cons ev_non eva_nil))) eva_nil))) (Nat.le_trans (Nat.add_le_add_right hz _) (Nat.le_of_ble_eq_true rfl)) fun l vs H' s h d => k l vs H' s h d))
theorem odd_6 {K : PySem.W.Frag} {p x l0 : Addr} {t : Tst} {H : Hp} {u : TS} {D : Ends} {vs0 : List V} {ds : List PyData} {o0 o1 o2 o4 o5 o6 o7 o8 o9 o10 o11 o12 o13 o15 o16 o17 o18 : Option V} (hp : ∃ xs, H p = some (.lst xs)) (hx : Dv K (hidT p H) (.ref x) t.dat) (h0 : hidT p H l0 = some (.lst vs0)) (d0 : DvAll K (hidT p H) vs0 ds) (hz : ds.length ≤ 900)
    (k : ∀ (l : Addr) (vs : List V) (H' : Hp), Same H H' → hidT p H' l = some (.lst vs) → DvAll K (hidT p H') vs (ds ++ ([(negN 4 t).dat, .tuple [.str "below", .int 3, .int 4], .tuple [.list [.str "below"], .int 3], .dict [], .int 5] : List PyData)) → u D [o0, o1, o2, some (.ref x), o4, o5, o6, o7, o8, o9, o10, o11, o12, o13, some (.ref l), o15, o16, o17, o18] H') : tSeq (tAsg (tOp rCat (tVar 14) (tLst (tCons (tTup (tCons (tC (.str "not")) (tCons (tTup (tCons (tC (.str "not")) (tCons (tTup (tCons (tC (.str "not")) (tCons (tTup (tCons (tC (.str "not")) (tCons (tVar 3) tNil))) tNil))) tNil))) tNil))) (tCons (tTup (tCons (tC (.str "below")) (tCons (tC (.int 3)) (tCons (tC (.int 4)) tNil)))) (tCons (tTup (tCons (tLst (tCons (tC (.str "below")) tNil)) (tCons (tC (.int 3)) tNil))) (tCons tDNewK (tCons (tC (.int 5)) tNil))))))) (gName 14)) u D [o0, o1, o2, some (.ref x), o4, o5, o6, o7, o8, o9, o10, o11, o12, o13, some (.ref l0), o15, o16, o17, o18] H :=
  seq_of (asg_of (ev_more (i := 14) hp rfl h0 d0 (ev_lst (eva_cons (ev_tup (eva_cons ev_str (eva_cons (ev_tup (eva_cons ev_str (eva_cons (ev_tup (eva_cons ev_str (eva_cons (ev_tup (eva_cons ev_str (eva_cons (ev_var rfl hx) eva_nil))) eva_nil))) eva_nil))) eva_nil))) (eva_cons (ev_tup (eva_cons ev_str (eva_cons ev_int (eva_cons ev_int eva_nil)))) (eva_cons (ev_tup (eva_cons (ev_lst (eva_cons ev_str eva_nil)) (eva_cons ev_int eva_nil))) (eva_cons ev_dict (eva_cons ev_int eva_nil)))))) (Nat.le_trans (Nat.add_le_add_right hz _) (Nat.le_of_ble_eq_true rfl)) fun l vs H' s h d => k l vs H' s h d))
theorem odd_7 {K : PySem.W.Frag} {p x l0 : Addr} {t : Tst} {H : Hp} {u : TS} {D : Ends} {vs0 : List V} {ds : List PyData} {o0 o1 o2 o4 o5 o6 o7 o8 o9 o10 o11 o12 o13 o15 o16 o17 o18 : Option V} (hp : ∃ xs, H p = some (.lst xs)) (hx : Dv K (hidT p H) (.ref x) t.dat) (h0 : hidT p H l0 = some (.lst vs0)) (d0 : DvAll K (hidT p H) vs0 ds) (hz : ds.length ≤ 900)
    (k : ∀ (l : Addr) (vs : List V) (H' : Hp), Same H H' → hidT p H' l = some (.lst vs) → DvAll K (hidT p H') vs (ds ++ ([.tuple [.str "mod", .int 3, .list [.int (-1)]]] : List PyData)) → u D [o0, o1, o2, some (.ref x), o4, o5, o6, o7, o8, o9, o10, o11, o12, o13, some (.ref l), o15, o16, o17, o18] H') : tSeq (tAsg (tOp rCat (tVar 14) (tLst (tCons (tTup (tCons (tC (.str "mod")) (tCons (tC (.int 3)) (tCons (tLst (tCons (tUn (rU fun i => V.int (-i)) (tC (.int 1))) tNil)) tNil)))) tNil))) (gName 14)) u D [o0, o1, o2, some (.ref x), o4, o5, o6, o7, o8, o9, o10, o11, o12, o13, some (.ref l0), o15, o16, o17, o18] H :=
  seq_of (asg_of (ev_more (i := 14) hp rfl h0 d0 (ev_lst (eva_cons (ev_tup (eva_cons ev_str (eva_cons ev_int (eva_cons (ev_lst (eva_cons ev_neg eva_nil)) eva_nil)))) eva_nil)) (Nat.le_trans (Nat.add_le_add_right hz _) (Nat.le_of_ble_eq_true rfl)) fun l vs H' s h d => k l vs H' s h d))
theorem odd_read {K : PySem.W.Frag} {p x : Addr} {t : Tst} {H : Hp} {u : TS} {D : Ends} {o0 o1 o2 o4 o5 o6 o7 o8 o9 o10 o11 o12 o13 o14 o15 o16 o17 o18 : Option V} (hp : ∃ xs, H p = some (.lst xs)) (hx : Dv K (hidT p H) (.ref x) t.dat)
    (k : ∀ (l : Addr) (vs : List V) (H' : Hp), Same H H' → hidT p H' l = some (.lst vs) → DvAll K (hidT p H') vs (odds t) → u D [o0, o1, o2, some (.ref x), o4, o5, o6, o7, o8, o9, o10, o11, o12, o13, some (.ref l), o15, o16, o17, o18] H') : (tSeq (tAsg (tLst (tCons (tC .non) (tCons (tC (.str "below")) (tCons (tTup (tCons (tC (.str "below")) tNil)) (tCons (tLst (tCons (tC (.str "below")) (tCons (tC (.int 3)) tNil))) (tCons (tTup (tCons (tC (.str "below")) (tCons (tC (.bl true)) tNil))) (tCons (tTup (tCons (tC (.str "below")) (tCons (tC (.str "3")) tNil))) tNil))))))) (gName 14)) (tSeq (tAsg (tOp rCat (tVar 14) (tLst (tCons (tTup (tCons (tC (.str "below")) (tCons (tOp (rI0 fun i j => V.int (i + j)) (tOp (rI CPow fun i j => V.int (i ^ j.toNat)) (tC (.int 10)) (tC (.int 30))) (tC (.int 1))) tNil))) (tCons (tTup (tCons (tC (.str "above")) (tCons (tC (.int 3)) tNil))) tNil)))) (gName 14)) (tSeq (tAsg (tOp rCat (tVar 14) (tLst (tCons (tTup (tCons (tC (.str "mod")) (tCons (tC (.int 3)) tNil))) (tCons (tTup (tCons (tC (.str "mod")) (tCons (tC (.int 0)) (tCons (tLst tNil) tNil)))) (tCons (tTup (tCons (tC (.str "mod")) (tCons (tC (.int 101)) (tCons (tLst (tCons (tC (.int 0)) tNil)) tNil)))) (tCons (tTup (tCons (tC (.str "mod")) (tCons (tC (.int 3)) (tCons (tLst (tCons (tC (.int 3)) tNil)) tNil)))) (tCons (tTup (tCons (tC (.str "mod")) (tCons (tC (.int 3)) (tCons (tLst (tCons (tC (.int 1)) (tCons (tC (.int 0)) tNil))) tNil)))) tNil))))))) (gName 14)) (tSeq (tAsg (tOp rCat (tVar 14) (tLst (tCons (tTup (tCons (tC (.str "mod")) (tCons (tC (.int 3)) (tCons (tLst (tCons (tC (.int 1)) (tCons (tC (.int 1)) tNil))) tNil)))) tNil))) (gName 14)) (tSeq (tAsg (tOp rCat (tVar 14) (tLst (tCons (tTup (tCons (tC (.str "mod")) (tCons (tC (.int 3)) (tCons (tTup (tCons (tC (.int 0)) (tCons (tC (.int 1)) tNil))) tNil)))) (tCons (tTup (tCons (tC (.str "mod")) (tCons (tC (.int 3)) (tCons (tLst (tCons (tC (.bl true)) tNil)) tNil)))) (tCons (tTup (tCons (tC (.str "mod")) (tCons (tC (.bl true)) (tCons (tLst (tCons (tC (.int 0)) tNil)) tNil)))) (tCons (tTup (tCons (tC (.str "not")) (tCons (tC .non) tNil))) tNil)))))) (gName 14)) (tSeq (tAsg (tOp rCat (tVar 14) (tLst (tCons (tTup (tCons (tC (.str "not")) (tCons (tC (.int 3)) tNil))) (tCons (tTup (tCons (tC (.str "from")) (tCons (tC .non) tNil))) tNil)))) (gName 14)) (tSeq (tAsg (tOp rCat (tVar 14) (tLst (tCons (tTup (tCons (tC (.str "not")) (tCons (tTup (tCons (tC (.str "not")) (tCons (tTup (tCons (tC (.str "not")) (tCons (tTup (tCons (tC (.str "not")) (tCons (tVar 3) tNil))) tNil))) tNil))) tNil))) (tCons (tTup (tCons (tC (.str "below")) (tCons (tC (.int 3)) (tCons (tC (.int 4)) tNil)))) (tCons (tTup (tCons (tLst (tCons (tC (.str "below")) tNil)) (tCons (tC (.int 3)) tNil))) (tCons tDNewK (tCons (tC (.int 5)) tNil))))))) (gName 14)) (tSeq (tAsg (tOp rCat (tVar 14) (tLst (tCons (tTup (tCons (tC (.str "mod")) (tCons (tC (.int 3)) (tCons (tLst (tCons (tUn (rU fun i => V.int (-i)) (tC (.int 1))) tNil)) tNil)))) tNil))) (gName 14)) u)))))))) D [o0, o1, o2, some (.ref x), o4, o5, o6, o7, o8, o9, o10, o11, o12, o13, o14, o15, o16, o17, o18] H := by
  obtain ⟨xs, hx0⟩ := hp
  refine odd_0 ⟨xs, hx0⟩ hx fun l0 vs0 H0 s0 h0 d0 => ?_
  have x0 := hx.same (hidT_mono (hidT_same.trans s0))
  refine odd_1 ⟨xs, s0 _ _ hx0⟩ x0 h0 d0 (Nat.le_of_ble_eq_true rfl) fun l1 vs1 H1 q1 h1 d1 => ?_
  have s1 := s0.trans q1
  have x1 := hx.same (hidT_mono (hidT_same.trans s1))
  refine odd_2 ⟨xs, s1 _ _ hx0⟩ x1 h1 d1 (Nat.le_of_ble_eq_true rfl) fun l2 vs2 H2 q2 h2 d2 => ?_
  have s2 := s1.trans q2
  have x2 := hx.same (hidT_mono (hidT_same.trans s2))
  refine odd_3 ⟨xs, s2 _ _ hx0⟩ x2 h2 d2 (Nat.le_of_ble_eq_true rfl) fun l3 vs3 H3 q3 h3 d3 => ?_
  have s3 := s2.trans q3
  have x3 := hx.same (hidT_mono (hidT_same.trans s3))
  refine odd_4 ⟨xs, s3 _ _ hx0⟩ x3 h3 d3 (Nat.le_of_ble_eq_true rfl) fun l4 vs4 H4 q4 h4 d4 => ?_
  have s4 := s3.trans q4
  have x4 := hx.same (hidT_mono (hidT_same.trans s4))
  refine odd_5 ⟨xs, s4 _ _ hx0⟩ x4 h4 d4 (Nat.le_of_ble_eq_true rfl) fun l5 vs5 H5 q5 h5 d5 => ?_
  have s5 := s4.trans q5
  have x5 := hx.same (hidT_mono (hidT_same.trans s5))
  refine odd_6 ⟨xs, s5 _ _ hx0⟩ x5 h5 d5 (Nat.le_of_ble_eq_true rfl) fun l6 vs6 H6 q6 h6 d6 => ?_
  have s6 := s5.trans q6
  have x6 := hx.same (hidT_mono (hidT_same.trans s6))
  refine odd_7 ⟨xs, s6 _ _ hx0⟩ x6 h6 d6 (Nat.le_of_ble_eq_true rfl) fun l7 vs7 H7 q7 h7 d7 => ?_
  have s7 := s6.trans q7
  have x7 := hx.same (hidT_mono (hidT_same.trans s7))
  exact k l7 vs7 H7 s7 h7 d7
end Pw
set_option maxHeartbeats 4000000
/-! the law's own body -/
namespace Pw
open PySem PySem.Spec PyProof.Rows L2 LamX NdefX
abbrev sLaw : Stmt := topS 25
abbrev lawN : List Str := ["_law_script", "_law_cell", "_law_source", "_law_plain_here", "_law_bound", "_law_good", "_law_nots", "_law_asked", "_law_k", "_law_some", "_law_number", "_law_due", "_law_kept", "_law_told", "_law_odd", "_law_value_here", "_law_thing", "_law_marks", "_law_one_here"]
theorem scLaw : FnScope lawN ["_law_script"] (defScope sLaw) := ⟨rfl, rfl, rfl, by decide +kernel, rfl, by decide +kernel, by decide +kernel⟩
/-- all that the law's body calls -/
structure Calls1 (P : Program) (w : World) (K : PySem.W.Frag) (mg : Str → Option Value) (base : Heap) (T : List (Addr × Str)) (CP CT fT CB fB : Addr) : Prop where
  B : Blt mg
  R : Errs2 K mg CP CT fT CB fB
  GI : DefOk P w K mg base CX0 1 "is_integer" ["value"] (spInteger K)
  GIk : DefKw P w K mg base CX0 1 "is_integer" ["value"] ["value"] (fun l => l) (spInteger K)
  GP : DefOk P w K mg base (L2.CX P w) 6 "passes" ["test", "item"] (spPasses K CT CB)
  GPk : DefKw P w K mg base (L2.CX P w) 6 "passes" ["test", "item"] ["item", "test"] (fun l => l.reverse) (spPasses K CT CB)
  GS : DefOk P w K mg base CX0 1 "_law_source_of" ["_law_cell"] spSourceOf
  GN : DefOk P w K mg base CX0 1 "_law_next" ["_law_source", "_law_many"] spNext
  GO : DefOk P w K mg base CX0 2 "_law_one" ["_law_source", "_law_options"] (spOne K)
  GC : DefOk P w K mg base CX0 1 "_law_cell_at" ["_law_script", "_law_k"] (spCellAt K)
  GL : DefOk P w K mg base CX0 3 "_law_plain" ["_law_source"] (spLawPlain P w K mg base T)
  DR : Dfn K mg "_law_raised" sRaised ["_law_call"]
section
variable {P : Program} {w : World} {K : PySem.W.Frag} {mg : Str → Option Value} {base : Heap} {T : List (Addr × Str)} {CP CT fT CB fB : Addr}
theorem pe_raises {X : Cx} {k : Nat} {cL PL : Addr} {params : Arguments} {body : Expr} {scope : Scope} {t : XK → TE} {p lpos pos : Pos} (C : Calls1 X.prog X.w X.K X.mg X.base T CP CT fT CB fB) (hg : X.A.guards = some []) (TB : TabB X.base X.mg cL PL) (hcode : X.env.code = .ref cL)
    (hmT : (PL, X.env.qual ++ "<lambda>") ∈ T) (hu : ∀ p ∈ T, p.1 = PL → p.2 = X.env.qual ++ "<lambda>") (hr : Room (k + 2) X.A) (L : LamS X.env.scope scope) (hdef : defaultsOf params X.env = ([], []))
    (hbind : ∀ (q : Str) (cl : List (Str × Addr)) (pm cv ctv : Value), bindArgs (PySem.W.kla_fn "<lambda>" q params body scope cl pm cv ctv) ⟨[], []⟩ = pure [])
    (hbody : ∀ (A : Around) (outer : List Env) (s : Shared) (H : Hp) (E : XK) (f c' : Addr), Room k (A.deeper (lamEnv X scope s.heap.objs.size f c')) → PE (lamCx X A outer s H E scope f c') body (t E)) (hgl : Gl X "_law_raised" := by rfl) :
    PE X (.Call (.Name "_law_raised" p) [.Lambda params body scope lpos] [] pos) (tLam T (TRaised X.K CT CB) t) := by
  obtain ⟨f, fd, F, m, b⟩ := C.DR.ex
  obtain ⟨oc, od, kV, doc, pm, an, cdv, ct, osl, rfl, lk, hcd⟩ := F.ex
  exact pe_lamcall (k := k) hgl m F.kp lk hcd b scRaised rfl (.inl rfl) (raised_gives hg (by have := hr.un; omega) C.B C.R) TB hcode hmT hu hr L hdef hbind hbody
theorem cells_are (c : Int) (ns : List Int) : ∃ ms : List Int, [V.int c] ++ cutV (ns.map V.int) (some 1) (some 8) = ms.map V.int ∧ ms.length ≤ ns.length + 1 := by
  refine ⟨c :: ((ns.drop (HT.sIx (ns.map V.int).length 0 (some 1))).take (HT.sIx (ns.map V.int).length (ns.map V.int).length (some 8) - HT.sIx (ns.map V.int).length 0 (some 1))), ?_, ?_⟩
  · unfold cutV
    rw [List.map_cons, List.map_take, List.map_drop]
    rfl
  · rw [List.length_cons, List.length_take, List.length_drop]
    omega
theorem slots19 {σ : L2.St} (h : σ.length = 18) : ∃ s1 s2 s3 s4 s5 s6 s7 s8 s9 s10 s11 s12 s13 s14 s15 s16 s17 s18, σ = [s1, s2, s3, s4, s5, s6, s7, s8, s9, s10, s11, s12, s13, s14, s15, s16, s17, s18] := by
  match σ, h with
  | [s1, s2, s3, s4, s5, s6, s7, s8, s9, s10, s11, s12, s13, s14, s15, s16, s17, s18], _ => exact ⟨s1, s2, s3, s4, s5, s6, s7, s8, s9, s10, s11, s12, s13, s14, s15, s16, s17, s18, rfl⟩
theorem due_is (a : Bool) (n : Nat) : (!decide (V.bl a = V.bl (decide (V.int (Int.fmod (n : Int) 2) = V.int 1)))) = (a != decide (n % 2 = 1)) := by
  have e : decide (V.int (Int.fmod (n : Int) 2) = V.int 1) = decide (n % 2 = 1) := by
    have e1 : Int.fmod (n : Int) 2 = ((n % 2 : Nat) : Int) := by
      rw [Int.fmod_eq_emod_of_nonneg _ (by decide)]
      omega
    rw [e1]
    by_cases h : n % 2 = 1
    · rw [h]
      rfl
    · rw [decide_eq_false h]
      refine decide_eq_false fun z => h ?_
      have := V.int.inj z
      omega
  rw [e]
  cases a <;> cases decide (n % 2 = 1) <;> rfl
theorem tells_bb (a b : Bool) : Tells (.list [.bool a, .bool b]) := by
  cases a <;> cases b <;> exact fine_tells (by decide +kernel)
theorem ifF {c : Bool} {A B : Prop} (hc : c = false) (h : B) : if c = true then A else B := by
  rw [hc, if_neg Bool.false_ne_true]
  exact h
theorem strNe {x y : Str} (e : x = y) : (!decide (V.str x = V.str y)) = false := by
  rw [e, decide_eq_true rfl]
  rfl
theorem eqv_pair (a b : Str) : PyData.eqv (.tuple [.str a, .str b]) (.tuple [.str a, .str b]) = true := by
  simp only [PyData.eqv, PyData.eqvAll, beq_self_eq_true, Bool.and_self, Bool.and_true]
theorem shaped_pair {a b : Str} (ha : PyData.strOk a = true) (hb : PyData.strOk b = true) : SeqAt.shaped (.tuple [.str a, .str b]) = true := by
  have h1 : PyData.canLay0 (.tuple [.str a, .str b]) = true := by
    simp only [PyData.canLay0, PyData.canLayAll0, ha, hb]
    rfl
  have h2 : PyData.depth (.tuple [.str a, .str b]) ≤ 64 := by
    simp only [PyData.depth, PyData.depthAll]
    omega
  unfold SeqAt.shaped
  rw [h1, decide_eq_true h2]
  rfl
theorem things_read {K : PySem.W.Frag} {p : Addr} {H : Hp} {σ : L2.St} : EvD K p H σ (tLst (tCons (tC .non) (tCons (tC (.str "3")) (tCons (tC (.bl true)) (tCons (tLst (tCons (tC (.int 3)) tNil)) (tCons tDNewK (tCons (tTup (tCons (tC (.int 3)) tNil)) tNil))))))) (.list things) :=
  ev_lst (eva_cons ev_non (eva_cons ev_str (eva_cons ev_bl (eva_cons (ev_lst (eva_cons ev_int eva_nil)) (eva_cons ev_dict (eva_cons (ev_tup (eva_cons ev_int eva_nil)) eva_nil))))))
theorem name_of {i : Nat} {v : V} {σ : L2.St} {H : Hp} {Q : L2.St → Hp → Prop} (h : Q (σ.set i (some v)) H) : gName i v σ H Q := h
theorem seqasg_of {te : TE} {g : TG} {u : TS} {D : Ends} {σ : L2.St} {H : Hp} (h : te σ H fun x H1 => g x σ H1 (u D)) : tSeq (tAsg te g) u D σ H := h
def kinds10 : List PyData := [.int 7, .int (-3), .int (10 ^ (40 : Int).toNat), .bool true, .bool false, .none, .str "1", .list [.int 1], .dict [], .tuple [.int 1]]
theorem kinds_read {K : PySem.W.Frag} {p : Addr} {H : Hp} {σ : L2.St} : EvD K p H σ (tLst (tCons (tC (.int 7)) (tCons (tUn (rU fun i => V.int (-i)) (tC (.int 3))) (tCons (tOp (rI CPow fun i j => V.int (i ^ j.toNat)) (tC (.int 10)) (tC (.int 40))) (tCons (tC (.bl true)) (tCons (tC (.bl false)) (tCons (tC .non) (tCons (tC (.str "1")) (tCons (tLst (tCons (tC (.int 1)) tNil)) (tCons tDNewK (tCons (tTup (tCons (tC (.int 1)) tNil)) tNil))))))))))) (.list kinds10) :=
  ev_lst (eva_cons ev_int (eva_cons ev_neg (eva_cons (fun H Q _ _ q => ⟨_, _, rfl, rfl, ⟨by decide, by decide, by decide⟩, q _ _ (Same.refl _) (.int _)⟩) (eva_cons ev_bl (eva_cons ev_bl (eva_cons ev_non (eva_cons ev_str (eva_cons (ev_lst (eva_cons ev_int eva_nil)) (eva_cons ev_dict (eva_cons (ev_tup (eva_cons ev_int eva_nil)) eva_nil))))))))))
theorem mod_read {K : PySem.W.Frag} {p : Addr} {H : Hp} {σ : L2.St} {m : Int} : EvD K p H σ (tTup (tCons (tC (.str "mod")) (tCons (tC (.int m)) (tCons (tLst tNil) tNil)))) (Tst.md m []).dat :=
  ev_tup (eva_cons ev_str (eva_cons ev_int (eva_cons (ev_lst eva_nil) eva_nil)))
theorem not_read {K : PySem.W.Frag} {p : Addr} {H : Hp} {σ : L2.St} {m : Int} : EvD K p H σ (tTup (tCons (tC (.str "not")) (tCons (tTup (tCons (tC (.str "mod")) (tCons (tC (.int m)) (tCons (tLst tNil) tNil)))) tNil))) (Tst.neg (Tst.md m [])).dat :=
  ev_tup (eva_cons ev_str (eva_cons mod_read eva_nil))
theorem last_of {sp : Sp} {a1 b1 a2 b2 : TE} {D : Ends} {σ : L2.St} {H : Hp}
    (h : a1 σ H fun x H1 => b1 σ H1 fun y H2 => sp [x, y] H2 (fun r H3 => ∃ p q : Bool, r = .bl p ∧ V.bl false = .bl q ∧ ∃ c, V.bl (decide (p = q)) = .bl c ∧
      if c = true then (a2 σ H3 fun x H1 => b2 σ H1 fun y H2 => sp [x, y] H2 (fun r H3 => ∃ p q : Bool, r = .bl p ∧ V.bl true = .bl q ∧ D.rt (.bl (decide (p = q))) H3) E0) else D.rt (.bl false) H3) E0) :
    tRet (tAndV (tOp rIsB (tCall sp [] E0 (tCons a1 (tCons b1 tNil))) (tC (.bl false))) (tOp rIsB (tCall sp [] E0 (tCons a2 (tCons b2 tNil))) (tC (.bl true)))) D σ H := h
theorem next_of {D : Ends} {σ : L2.St} {H : Hp} (h : D.nx σ H) : tNext D σ H := h
theorem args2_of {ta tb : TE} {σ : L2.St} {H : Hp} {Q : List V → Hp → Prop} (h : ta σ H fun x H1 => tb σ H1 fun y H2 => Q [x, y] H2) : tCons ta (tCons tb tNil) σ H Q := h
theorem call_of {sp : Sp} {E : XK} {t : TA} {σ : L2.St} {H : Hp} {Q : VK} (h : t σ H fun vs H1 => sp (vs ++ []) H1 Q E) : tCall sp [] E t σ H Q := h
def spLaw (K : PySem.W.Frag) (T : List (Addr × Str)) : Sp := fun vs H Q _ => ∃ (a : Addr) (ns : List Int), vs = [.ref a] ∧ SqL K H a (ns.map V.int) ∧ ns.length ≤ 63 ∧ Tabs T H ∧ ∀ H', Q (.bl true) H'
theorem law_body (C : Calls1 P w K mg base T CP CT fT CB fB) {cL PL f : Addr} (TB : TabB base mg cL PL) (hmL : (PL, ("law.<locals>.<lambda>" : Str)) ∈ T) (huL : ∀ p ∈ T, p.1 = PL → p.2 = ("law.<locals>.<lambda>" : Str))
    {A : Around} {outer : List Env} {s : Shared} {H : Hp} {vs : List V} {Q : VK} {E : XK} (hgd : (A.deeper (envOfC "law" (defScope sLaw) s.heap.objs.size f (.ref cL))).guards = some []) (hr : Room 8 (A.deeper (envOfC "law" (defScope sLaw) s.heap.objs.size f (.ref cL)))) (h : spLaw K T vs H Q E) :
    ∃ t, PSs (cxOf CX0 P w K mg base lawN "law" (defScope sLaw) f (.ref cL) A outer s H E).nox (defBody sLaw) t ∧ t { nx := fun _ H' => Q .non H', rt := Q } (L2.start lawN vs) H := by
  obtain ⟨a, ns, rfl, hS, hlen, tabs, q⟩ := h
  have nd := scLaw.nd
  have hxP : Passes (L2.CX P w) (cxOf CX0 P w K mg base lawN "law" (defScope sLaw) f (.ref cL) A outer s H E).nox E0 := passes_call L2.takes0 fun _ _ _ _ h => h
  refine ⟨_, pss_cons (ps_for PassesOwn.never rfl (pi_list (pe_op op_cat (pe_lst (pa_cons (pe_def C.GC hr pass0 (pa_cons (pv 0) (pa_cons pe_int pa_nil))) pa_nil)) (pe_slice sl_list (pv 0) (po_some pe_int) (po_some pe_int)))) (pg_name (i := 1) nd rfl (Or.inl rfl)) (pss_cons (ps_set (i := 2) nd rfl (.inl rfl) (pe_def C.GS hr pass0 (pa_cons (pv 1) pa_nil)))
      (pss_cons (ps_asg (pe_def C.GL hr pass0 (pa_cons (pv 2) pa_nil)) (pg_tup rfl (pgs_cons (pg_name (i := 3) nd rfl (Or.inl rfl)) (pgs_cons (pg_name (i := 4) nd rfl (Or.inl rfl)) (pgs_cons (pg_name (i := 5) nd rfl (Or.inl rfl)) pgs_nil)))))
      (pss_cons (ps_set (i := 6) nd rfl (.inl rfl) (pe_def C.GN hr pass0 (pa_cons (pv 2) (pa_cons pe_int pa_nil))))
      (pss_cons (ps_set (i := 7) nd rfl (.inr rfl) (pv 3))
      (pss_cons (ps_for PassesOwn.never rfl (pi_range1 rfl C.B.range (pa_cons (pv 6) pa_nil)) (pg_name (i := 8) nd rfl (Or.inl rfl)) (pss_one (ps_set (i := 7) nd rfl (.inr rfl) (pe_tup (pa_cons pe_str (pa_cons (pv 7) pa_nil))))))
      (pss_cons (ps_set (i := 9) nd rfl (.inl rfl) (pe_lst (pa_cons (pv 4) (pa_cons (pe_op op_sub (pv 4) pe_int) (pa_cons (pe_op op_add (pv 4) pe_int) (pa_cons (pe_op op_sub pe_int (pv 4)) (pa_cons (pe_op op_sub (pe_def C.GN hr pass0 (pa_cons (pv 2) (pa_cons pe_int pa_nil))) pe_int) pa_nil)))))))
      (pss_cons (ps_set (i := 9) nd rfl (.inl rfl) (pe_op op_cat (pv 9) (pe_lst (pa_cons (pe_def C.GN hr pass0 (pa_cons (pv 2) (pa_cons (pe_op op_pow pe_int pe_int) pa_nil))) pa_nil))))
      (pss_cons (ps_for PassesOwn.never rfl (pi_list (pv 9)) (pg_name (i := 10) nd rfl (Or.inl rfl)) (pss_cons (ps_set (i := 11) nd rfl (.inl rfl) (pe_cmpR op_ne (Lm.pe_clo (k := 1) (i := 5) hr (by decide) rfl (.inl rfl) (pa_cons (pv 10) pa_nil)) (pe_cmpR op_eq (pe_op op_modN (pe_callTy call_int1 (by rfl) C.B.int boot_int (pa_cons (pv 6) pa_nil)) pe_int) pe_int (nomark _)) (nomark _)))
      (pss_cons (ps_set (i := 12) nd rfl (.inl rfl) (pe_callB (call_reprD hgd hr.units) (by rfl) C.B.repr boot_repr (pa_cons (pv 7) pa_nil)))
      (pss_cons (ps_set (i := 13) nd rfl (.inl rfl) (pe_lst (pa_cons (pe_def C.GP hr hxP (pa_cons (pv 7) (pa_cons (pv 10) pa_nil))) (pa_cons (pe_kw C.GPk hr hxP (pk_cons (pv 10) (pk_cons (pv 7) pk_nil))) pa_nil))))
      (pss_cons (ps_if (pt_cmpR op_ne (pe_callB (call_reprD hgd hr.units) (by rfl) C.B.repr boot_repr (pa_cons (pv 13) pa_nil)) (pe_callB (call_reprD hgd hr.units) (by rfl) C.B.repr boot_repr (pa_cons (pe_lst (pa_cons (pv 11) (pa_cons (pv 11) pa_nil))) pa_nil)) (nomark _)) (pss_one (ps_ret pe_bl)) pss_nil)
      (pss_one (ps_if (pt_cmpR op_ne (pe_callB (call_reprD hgd hr.units) (by rfl) C.B.repr boot_repr (pa_cons (pv 7) pa_nil)) (pv 12) (nomark _)) (pss_one (ps_ret pe_bl)) pss_nil)))))))
      (pss_cons (ps_set (i := 14) nd rfl (.inl rfl) (pe_lst (pa_cons pe_non (pa_cons pe_str (pa_cons (pe_tup (pa_cons pe_str pa_nil)) (pa_cons (pe_lst (pa_cons pe_str (pa_cons pe_int pa_nil))) (pa_cons (pe_tup (pa_cons pe_str (pa_cons pe_bl pa_nil))) (pa_cons (pe_tup (pa_cons pe_str (pa_cons pe_str pa_nil))) pa_nil))))))))
      (pss_cons (ps_set (i := 14) nd rfl (.inl rfl) (pe_op op_cat (pv 14) (pe_lst (pa_cons (pe_tup (pa_cons pe_str (pa_cons (pe_op op_add (pe_op op_pow pe_int pe_int) pe_int) pa_nil))) (pa_cons (pe_tup (pa_cons pe_str (pa_cons pe_int pa_nil))) pa_nil)))))
      (pss_cons (ps_set (i := 14) nd rfl (.inl rfl) (pe_op op_cat (pv 14) (pe_lst (pa_cons (pe_tup (pa_cons pe_str (pa_cons pe_int pa_nil))) (pa_cons (pe_tup (pa_cons pe_str (pa_cons pe_int (pa_cons (pe_lst pa_nil) pa_nil)))) (pa_cons (pe_tup (pa_cons pe_str (pa_cons pe_int (pa_cons (pe_lst (pa_cons pe_int pa_nil)) pa_nil)))) (pa_cons (pe_tup (pa_cons pe_str (pa_cons pe_int (pa_cons (pe_lst (pa_cons pe_int pa_nil)) pa_nil)))) (pa_cons (pe_tup (pa_cons pe_str (pa_cons pe_int (pa_cons (pe_lst (pa_cons pe_int (pa_cons pe_int pa_nil))) pa_nil)))) pa_nil))))))))
      (pss_cons (ps_set (i := 14) nd rfl (.inl rfl) (pe_op op_cat (pv 14) (pe_lst (pa_cons (pe_tup (pa_cons pe_str (pa_cons pe_int (pa_cons (pe_lst (pa_cons pe_int (pa_cons pe_int pa_nil))) pa_nil)))) pa_nil))))
      (pss_cons (ps_set (i := 14) nd rfl (.inl rfl) (pe_op op_cat (pv 14) (pe_lst (pa_cons (pe_tup (pa_cons pe_str (pa_cons pe_int (pa_cons (pe_tup (pa_cons pe_int (pa_cons pe_int pa_nil))) pa_nil)))) (pa_cons (pe_tup (pa_cons pe_str (pa_cons pe_int (pa_cons (pe_lst (pa_cons pe_bl pa_nil)) pa_nil)))) (pa_cons (pe_tup (pa_cons pe_str (pa_cons pe_bl (pa_cons (pe_lst (pa_cons pe_int pa_nil)) pa_nil)))) (pa_cons (pe_tup (pa_cons pe_str (pa_cons pe_non pa_nil))) pa_nil)))))))
      (pss_cons (ps_set (i := 14) nd rfl (.inl rfl) (pe_op op_cat (pv 14) (pe_lst (pa_cons (pe_tup (pa_cons pe_str (pa_cons pe_int pa_nil))) (pa_cons (pe_tup (pa_cons pe_str (pa_cons pe_non pa_nil))) pa_nil)))))
      (pss_cons (ps_set (i := 14) nd rfl (.inl rfl) (pe_op op_cat (pv 14) (pe_lst (pa_cons (pe_tup (pa_cons pe_str (pa_cons (pe_tup (pa_cons pe_str (pa_cons (pe_tup (pa_cons pe_str (pa_cons (pe_tup (pa_cons pe_str (pa_cons (pv 3) pa_nil))) pa_nil))) pa_nil))) pa_nil))) (pa_cons (pe_tup (pa_cons pe_str (pa_cons pe_int (pa_cons pe_int pa_nil)))) (pa_cons (pe_tup (pa_cons (pe_lst (pa_cons pe_str pa_nil)) (pa_cons pe_int pa_nil))) (pa_cons pe_dnewK (pa_cons pe_int pa_nil))))))))
      (pss_cons (ps_set (i := 14) nd rfl (.inl rfl) (pe_op op_cat (pv 14) (pe_lst (pa_cons (pe_tup (pa_cons pe_str (pa_cons pe_int (pa_cons (pe_lst (pa_cons (pe_un un_neg pe_int) pa_nil)) pa_nil)))) pa_nil))))
      (pss_cons (ps_set (i := 15) nd rfl (.inr rfl) (pe_def C.GO hr pass0 (pa_cons (pv 2) (pa_cons (pv 14) pa_nil))))
      (pss_cons (ps_set (i := 16) nd rfl (.inr rfl) (pe_def C.GO hr pass0 (pa_cons (pv 2) (pa_cons (pe_lst (pa_cons pe_non (pa_cons pe_str (pa_cons pe_bl (pa_cons (pe_lst (pa_cons pe_int pa_nil)) (pa_cons pe_dnewK (pa_cons (pe_tup (pa_cons pe_int pa_nil)) pa_nil))))))) pa_nil))))
      (pss_cons (ps_if (pt_cmpR (op_neD hr.units) (pe_raises (k := 6) C hgd TB rfl hmL huL hr (lamS_by (sc := defScope sLaw) (by decide +kernel)) rfl (fun _ _ _ _ _ => rfl) (fun A2 o2 s2 H2 E2 f2 c2 hr2 => pe_def C.GP hr2 (passes_call (takes_of rfl rfl rfl rfl) fun _ _ _ _ h => h) (pa_cons (pv 15) (pa_cons (pv 16) pa_nil)))) (pe_tup (pa_cons pe_str (pa_cons (pe_callB (call_reprD hgd hr.units) (by rfl) C.B.repr boot_repr (pa_cons (pv 15) pa_nil)) pa_nil))) (nomark _)) (pss_one (ps_ret pe_bl)) pss_nil)
      (pss_one (ps_if (pt_cmpR (op_neD hr.units) (pe_raises (k := 6) C hgd TB rfl hmL huL hr (lamS_by (sc := defScope sLaw) (by decide +kernel)) rfl (fun _ _ _ _ _ => rfl) (fun A2 o2 s2 H2 E2 f2 c2 hr2 => pe_def C.GP hr2 (passes_call (takes_of rfl rfl rfl rfl) fun _ _ _ _ h => h) (pa_cons (pv 7) (pa_cons (pv 16) pa_nil)))) (pe_tup (pa_cons pe_str (pa_cons pe_str pa_nil))) (nomark _)) (pss_one (ps_ret pe_bl)) pss_nil))))))))))))))))))))))
    (pss_cons (ps_setLc (i := 17) (own := [("_law_one_here", 18)]) (g := gName 18) (tt := tYes) (by rfl) nd rfl rfl (sw_true rfl rfl rfl (by decide +kernel)) (pi_list (pe_lst (pa_cons pe_int (pa_cons (pe_un un_neg pe_int) (pa_cons (pe_op op_pow pe_int pe_int) (pa_cons pe_bl (pa_cons pe_bl (pa_cons pe_non (pa_cons pe_str (pa_cons (pe_lst (pa_cons pe_int pa_nil)) (pa_cons pe_dnewK (pa_cons (pe_tup (pa_cons pe_int pa_nil)) pa_nil)))))))))))) (blkOk_by (N := lawN) (sc := defScope sLaw) (by decide +kernel)) (fun _ _ _ _ _ => pg_name (i := 18) nd rfl (Or.inl rfl)) (fun _ _ _ _ _ => pts_nil) (fun _ _ _ _ _ => pe_def C.GI hr pass0 (pa_cons (pv 18) pa_nil)))
    (pss_cons (ps_if (PW.pt (pw_or (pt_cmpR (op_neD hr.units) (pv 17) (pe_op op_cat (pe_lst (pa_cons pe_bl (pa_cons pe_bl (pa_cons pe_bl pa_nil)))) (pe_op op_rep (pe_lst (pa_cons pe_bl pa_nil)) pe_int)) (nomark _)) (pw_or1 (pt_cmpR op_notBl (pe_kw C.GIk hr pass0 (pk_cons pe_int pk_nil)) pe_bl (nomark _))))) (pss_one (ps_ret pe_bl)) pss_nil)
    (pss_one (ps_ret (pe_and (pe_cmpR op_isBl (pe_def C.GP hr hxP (pa_cons (pe_tup (pa_cons pe_str (pa_cons pe_int (pa_cons (pe_lst pa_nil) pa_nil)))) (pa_cons pe_int pa_nil))) pe_bl (nomark _)) (pe_one (pe_cmpR op_isBl (pe_def C.GP hr hxP (pa_cons (pe_tup (pa_cons pe_str (pa_cons (pe_tup (pa_cons pe_str (pa_cons pe_int (pa_cons (pe_lst pa_nil) pa_nil)))) pa_nil))) (pa_cons (pe_op op_pow pe_int pe_int) pa_nil))) pe_bl (nomark _)))))))), ?_⟩
  -- the cells
  refine ⟨_, rfl, a, ns, 0, rfl, hS, fun c => ⟨by show 1 ≤ sizeLine; decide, fun l1 n1 => ?_⟩⟩
  have sl1 := same_upd (o := HO.lst [V.int c]) n1
  refine ⟨.ref a, rfl, 1, rfl, 8, rfl, a, _, rfl, sl1.seq hS, fun l2 n2 => ?_⟩
  have sl2 := same_upd (o := HO.lst (cutV (ns.map V.int) (some 1) (some 8))) n2
  obtain ⟨ms, ems, lms⟩ := cells_are c ns
  refine ⟨l1, l2, _, _, rfl, rfl, sl2 _ _ upd_same, upd_same, ?_, fun L nL => ?_⟩
  · have h1 : ([V.int c] ++ cutV (ns.map V.int) (some 1) (some 8)).length = ms.length := by rw [ems, List.length_map]
    rw [List.length_append] at h1
    rw [h1]
    exact Nat.le_of_lt (small1000 (by omega))
  have sL := same_upd (o := HO.lst ([V.int c] ++ cutV (ns.map V.int) (some 1) (some 8))) nL
  have tabs3 := tabs.ext fun b o e => sL b o (sl2 b o (sl1 b o e))
  refine ⟨L, rfl, ⟨_, SqL.of upd_same⟩, for_list (K := K) (a := L) (xs := ms.map V.int) (fun i σ H' => (∃ tl, σ = some (.ref a) :: tl ∧ tl.length = 18) ∧ H' L = some (.lst (ms.map V.int)) ∧ Tabs T H')
    ⟨⟨_, rfl, rfl⟩, by rw [upd_same, ems], tabs3⟩ (fun i σ H' _ p => SqL.of p.2.1) ?_ ?_⟩
  · -- one turn
    rintro i x σ H' hx ⟨⟨tl, rfl, len⟩, hL, tb⟩
    obtain ⟨s1, s2, s3, s4, s5, s6, s7, s8, s9, s10, s11, s12, s13, s14, s15, s16, s17, s18, rfl⟩ := slots19 len
    rw [List.getElem?_map] at hx
    obtain ⟨z, _, rfl⟩ := Option.map_eq_some_iff.mp hx
    clear hx
    -- a source
    refine ⟨_, rfl, z, rfl, fun p A0 np => ?_⟩
    have sp := same_upd (o := HO.lst [V.int A0, V.int (z.fmod 2147483647), V.int 0]) np
    have f0 := fmod_in (i := z) (m := 2147483647) (by decide)
    have src0 : Src (upd H' p (.lst [.int A0, .int (z.fmod 2147483647), .int 0])) p 0 := ⟨A0, _, 0, upd_same, f0.1, f0.2, Int.le_refl _, Int.le_refl _⟩
    have Lp : L ≠ p := ne_of_none hL np
    have hL1 := sp _ _ hL
    have tb1 : Tabs T _ := tb.ext fun b o e => sp b o e
    generalize upd H' p (.lst [.int A0, .int (z.fmod 2147483647), .int 0]) = H1 at src0 hL1 tb1 ⊢
    clear sp
    -- a test
    refine ⟨_, rfl, p, 0, rfl, src0, by decide, by decide, tb1, fun p2 x fg bound t H2 h2 dv dr bd1 bd2 clo src2 sm2 tb2 => ?_⟩
    refine ⟨p2, _, rfl, SqT.of h2, rfl, _, _, rfl, _, _, rfl, _, _, rfl, rfl, ?_⟩
    have hL2 : H2 L = _ := sm2 _ _ (hidT_at Lp hL1 (fun _ z => by cases z))
    clear h2 sm2 src0 tb1 hL1 H1
    refine ⟨_, rfl, p, 4, 200, rfl, src2, by decide, by decide, by decide, fun nots H3 q0 q1 src3 sm3 => ?_⟩
    obtain ⟨A2, B2, C2, hp2, _⟩ := id src2
    have tb3 := tabs_hid tb2 hp2 sm3
    have hL3 : H3 L = _ := sm3 _ _ ((hid_ne Lp).trans hL2)
    have m3 : Same (hidT p H2) (hidT p H3) := hidT_mono (hidT_le.trans sm3)
    have dv3 := dv.same m3
    have clo3 := clo.same m3
    clear sm3 hp2 tb2 hL2 m3 dv clo src2 H2
    -- some "not" ahead
    refine ⟨_, rfl, ?_⟩
    refine ⟨_, rfl, nots, rfl, by omega, by omega, ?_⟩
    refine for_range (lo := 0) (n := nots.toNat) (fun j σ H' => ∃ (y : Addr) (e8 : Option V), σ = [some (.ref a), some (.int z), some (.ref p), some (.ref x), some (.int bound), some (.ref fg), some (.int nots), some (.ref y), e8, s9, s10, s11, s12, s13, s14, s15, s16, s17, s18] ∧ Dv K (hidT p H') (.ref y) (negN j t).dat ∧ Same H3 H')
      ⟨x, _, rfl, dv3, Same.refl _⟩ ?_ ?_
    · rintro j σ H' hj ⟨y, e8, rfl, dy, sm⟩
      refine ⟨_, rfl, by show 2 ≤ sizeLine; decide, fun y2 ny => ?_⟩
      have sy := same_upd (o := HO.tup [V.str "not", V.ref y]) ny
      obtain ⟨A3, B3, C3, hp3, _⟩ := id src3
      have yp : y2 ≠ p := (ne_of_none (sm _ _ hp3) ny).symm
      exact ⟨y2, _, rfl, .tup (hidT_at yp upd_same (fun _ z => by cases z)) (by show 2 ≤ 1000; decide) (.cons (.str _) (.cons (dy.same (hidT_mono (hidT_same.trans sy))) .nil)), sm.trans sy⟩
    · rintro σ H4 ⟨y, e8, rfl, dy, sm⟩
      have src4 := src3.same sm
      have hL4 := sm _ _ hL3
      have tb4 := tb3.ext sm
      have clo4 := clo3.same (hidT_mono (hidT_same.trans sm))
      have dx4 := dv3.same (hidT_mono (hidT_same.trans sm))
      have hn3 : nots.toNat ≤ 3 := by omega
      have enots : ((nots.toNat : Nat) : Int) = nots := Int.toNat_of_nonneg q0
      generalize nots.toNat = nn at dy hn3 enots
      subst enots
      clear clo3 dv3 tb3 hL3 src3 sm H3
      -- the numbers
      refine ⟨_, rfl, _, rfl, _, _, rfl, rfl, _, rfl, _, _, rfl, rfl, _, rfl, _, _, rfl, rfl, _, rfl, p, 200, 200 + 1, rfl, src4, by decide, by decide, by decide, fun r1 H5 _ _ src5 sm5 => ?_⟩
      refine ⟨_, _, rfl, rfl, by show 5 ≤ sizeLine; decide, fun l5 n5 => ?_⟩
      obtain ⟨A4, B4, C4, hp4, _⟩ := id src4
      have s5 := same_upd (o := HO.lst [V.int bound, V.int (bound - 1), V.int (bound + 1), V.int (0 - bound), V.int (r1 - 100)]) n5
      have m45 : Same (hid p H4) (upd H5 l5 (HO.lst [V.int bound, V.int (bound - 1), V.int (bound + 1), V.int (0 - bound), V.int (r1 - 100)])) := sm5.trans s5
      have l5p : l5 ≠ p := by
        obtain ⟨A5, B5, C5, hp5, _⟩ := id src5
        exact (ne_of_none hp5 n5).symm
      refine ⟨_, rfl, _, rfl, _, _, rfl, rfl, ⟨by decide, by decide, by decide⟩, p, 10 ^ (30 : Int).toNat, 200 + 1 + 1, rfl, src5.same s5, by decide, by decide, by decide, fun r2 H6 _ _ src6 sm6 => ?_⟩
      have hl6 := sm6 _ _ ((hid_ne l5p).trans (upd_same (H := H5) (a := l5)))
      have m46 : Same (hid p H4) H6 := (hid_mono m45).trans sm6
      refine ⟨by show 1 ≤ sizeLine; decide, fun l6 n6 => ?_⟩
      have s6 := same_upd (o := HO.lst [V.int r2]) n6
      refine ⟨l5, l6, _, _, rfl, rfl, s6 _ _ hl6, upd_same, by show 6 ≤ sizeLine; decide, fun M nM => ?_⟩
      have sM := same_upd (o := HO.lst (([bound, bound - 1, bound + 1, 0 - bound, r1 - 100, r2] : List Int).map V.int)) nM
      have m47 : Same (hid p H4) (upd (upd H6 l6 (HO.lst [V.int r2])) M (HO.lst (([bound, bound - 1, bound + 1, 0 - bound, r1 - 100, r2] : List Int).map V.int))) := m46.trans (s6.trans sM)
      have src7 := (src6.same s6).same sM
      have hM7 : (upd (upd H6 l6 (HO.lst [V.int r2])) M (HO.lst (([bound, bound - 1, bound + 1, 0 - bound, r1 - 100, r2] : List Int).map V.int))) M = some (.lst (([bound, bound - 1, bound + 1, 0 - bound, r1 - 100, r2] : List Int).map V.int)) := upd_same
      obtain ⟨nums, enums, lnums⟩ : ∃ nums : List Int, [bound, bound - 1, bound + 1, 0 - bound, r1 - 100, r2] = nums ∧ nums.length = 6 := ⟨_, rfl, rfl⟩
      rw [enums] at m47 src7 hM7
      obtain ⟨H7, e7⟩ : ∃ H7, upd (upd H6 l6 (HO.lst [V.int r2])) M (HO.lst (nums.map V.int)) = H7 := ⟨_, rfl⟩
      rw [e7] at m47 src7 hM7
      have tb7 := tabs_hid tb4 hp4 m47
      have hL7 := m47 _ _ ((hid_ne Lp).trans hL4)
      have m47' : Same (hidT p H4) (hidT p H7) := hidT_mono (hidT_le.trans m47)
      have dy7 := dy.same m47'
      have dx7 := dx4.same m47'
      have clo7 := clo4.same m47'
      have start7 : Same H7 (upd (upd H6 l6 (HO.lst [V.int r2])) M (HO.lst ([V.int bound, V.int (bound - 1), V.int (bound + 1), V.int (0 - bound), V.int (r1 - 100)] ++ [V.int r2]))) := by
        rw [← e7, ← enums]
        exact Same.refl _
      refine ⟨_, rfl, M, rfl, ⟨_, SqL.of upd_same⟩, for_list (K := K) (a := M) (xs := nums.map V.int) (fun j σ H' => (∃ e10 e11 e12 e13, σ = [some (.ref a), some (.int z), some (.ref p), some (.ref x), some (.int bound), some (.ref fg), some (.int nn), some (.ref y), e8, some (.ref M), e10, e11, e12, e13, s14, s15, s16, s17, s18]) ∧ Same H7 H')
        ⟨⟨_, _, _, _, rfl⟩, start7⟩ (fun j σ H' _ p => SqL.of (p.2 _ _ hM7)) ?_ ?_⟩
      · rintro j v σ H' hj ⟨⟨e10, e11, e12, e13, rfl⟩, sm⟩
        rw [List.getElem?_map] at hj
        obtain ⟨n, _, rfl⟩ := Option.map_eq_some_iff.mp hj
        have dyH := dy7.same (hidT_same.trans sm)
        have cloH := clo7.same (hidT_same.trans sm)
        have due := (negN_holds t n nn).trans (due_is (t.holds n) nn).symm
        refine ⟨fg, _, rfl, cloH, _, rfl, n, rfl, Same.refl _, _, rfl, .inl ⟨_, rfl, _, _, rfl, rfl, (by show (2 : Int) ≠ 0; decide), rfl, rfl, ?_⟩⟩
        refine ⟨_, rfl, _, _, rfl, dyH, negN_tells dr (by omega), ?_⟩
        have tst := negN_test dr hn3
        have nots4 : (negN nn t).nots < 4 := by
          rw [negN_nots dr.nots nn]
          omega
        refine ⟨_, rfl, _, rfl, _, _, _, .int n, rfl, dyH, .int n, fun e => absurd (tst.symm.trans e) (by decide), fun _ e => Bool.noConfusion (show true = false from e), fun _ _ => ⟨negN nn t, n, rfl, rfl, negN_ok dr.ok nn, nots4, fun H8 s8 => ?_⟩⟩
        refine ⟨_, rfl, _, rfl, rfl, _, _, _, .int n, rfl, dyH.same s8, .int n, fun e => absurd (tst.symm.trans e) (by decide), fun _ e => Bool.noConfusion (show true = false from e), fun _ _ => ⟨negN nn t, n, rfl, rfl, negN_ok dr.ok nn, nots4, fun H9 s9 => ⟨by show 2 ≤ sizeLine; decide, fun l9 n9 => ?_⟩⟩⟩
        have u9 := same_upd (o := HO.lst [V.bl ((negN nn t).holds n), V.bl ((negN nn t).holds n)]) n9
        refine ⟨_, rfl, _, .list [.bool ((negN nn t).holds n), .bool ((negN nn t).holds n)], rfl, .lst upd_same (by show 2 ≤ 1000; decide) (.cons (.bl _) (.cons (.bl _) .nil)), tells_bb _ _, _, rfl, _, rfl, by show 2 ≤ sizeLine; decide, fun l10 n10 => ?_⟩
        refine ⟨_, .list [.bool _, .bool _], rfl, .lst upd_same (by show 2 ≤ 1000; decide) (.cons (.bl _) (.cons (.bl _) .nil)), tells_bb _ _, rfl, _, rfl, ifF (strNe (congrArg (fun b => PyData.shown (.list [.bool b, .bool b])) due)) ?_⟩
        have u10 := same_upd (o := HO.lst [V.bl (!decide (V.bl (t.holds n) = V.bl (decide (V.int (Int.fmod (nn : Int) 2) = V.int 1)))), V.bl (!decide (V.bl (t.holds n) = V.bl (decide (V.int (Int.fmod (nn : Int) 2) = V.int 1))))]) n10
        have sm2 := s8.trans (s9.trans (u9.trans u10))
        refine ⟨_, rfl, _, _, rfl, dyH.same sm2, negN_tells dr (by omega), _, rfl, rfl, _, rfl, ifF (strNe rfl) ?_⟩
        exact ⟨⟨_, _, _, _, rfl⟩, sm.trans sm2⟩
      · rintro σ H8 ⟨⟨e10, e11, e12, e13, rfl⟩, sm⟩
        have src8 := src7.same sm
        have tb8 := tb7.ext sm
        have hL8 := sm _ _ hL7
        have m78 : Same (hidT p H7) (hidT p H8) := hidT_mono (hidT_same.trans sm)
        have dy8 := dy7.same m78
        have dx8 := dx7.same m78
        clear start7 e7 clo7 m47' m47 tb7 hL7 sm hM7 src7 m78 sM nM s6 n6 m46 sm6 hl6 src6 n5 s5 m45 src5 sm5 hp4 tb4 hL4 src4 dy7 dx7 clo4 dx4 dy
        -- the values that are no tests
        refine odd_read (src_lst src8) dx8 fun l9 vs9 H9 s9 h9 d9 => ?_
        have src9 := src8.same s9
        have tb9 := tb8.ext s9
        have hL9 := s9 _ _ hL8
        have dy9 := dy8.same (hidT_mono (hidT_same.trans s9))
        clear dy8 dx8 hL8 tb8 src8
        have len9 : vs9.length = 26 := d9.length
        refine seq_of (asg_of ⟨_, rfl, _, rfl, p, l9, 200 + 1 + 1 + 1, vs9, rfl, src9, by decide, hidT_le _ _ h9, by omega, by omega, fun iv v H10 hv src10 sm10 => ?_⟩)
        obtain ⟨d, hd, dd9⟩ := d9.getV hv
        obtain ⟨bad, tells⟩ := odd_bad dr d (List.mem_of_getElem? hd)
        obtain ⟨A9, B9, C9, hp9, _⟩ := id src9
        have tb10 := tabs_hid tb9 hp9 sm10
        have hL10 := sm10 _ _ ((hid_ne Lp).trans hL9)
        have m10 : Same (hidT p H9) (hidT p H10) := hidT_mono (hidT_le.trans sm10)
        have dy10 := dy9.same m10
        have dd10 := dd9.same m10
        clear m10 sm10 hp9 hd dd9 hv dy9 hL9 tb9 src9 d9 h9
        -- something that is no integer
        refine name_of ?_
        dsimp only
        refine seqasg_of ?_
        refine call_of ?_
        refine args2_of ⟨_, rfl, ?_⟩
        refine things_read (K := K) (p := p) H10 _ (src_lst src10) hidT_same fun vl H11 s11 d11 => ?_
        cases d11 with
        | @lst l11 vs11 _ h11 z11 d11 =>
          have len11 : vs11.length = 6 := d11.length
          refine ⟨p, l11, 200 + 1 + 1 + 1 + 1, vs11, rfl, src10.same s11, by decide, hidT_le _ _ h11, by omega, by omega, fun ith th H12 hth src12 sm12 => ?_⟩
          obtain ⟨e, he, de11⟩ := d11.getV hth
          have noInt := thing_bad e (List.mem_of_getElem? he)
          obtain ⟨A11, B11, C11, hp11, _⟩ := id (src10.same s11)
          have tb12 := tabs_hid (tb10.ext s11) hp11 sm12
          have hL12 := sm12 _ _ ((hid_ne Lp).trans (s11 _ _ hL10))
          have m12 : Same (hidT p H11) (hidT p H12) := hidT_mono (hidT_le.trans sm12)
          have s11' : Same (hidT p H10) (hidT p H11) := hidT_mono (hidT_same.trans s11)
          have dy12 := (dy10.same s11').same m12
          have dd12 := (dd10.same s11').same m12
          have de12 := de11.same m12
          clear s11' m12 sm12 hp11 he de11 hth dd10 dy10 hL10 tb10 d11 h11 s11 src10
          -- the first call that raises
          obtain ⟨A12, B12, C12, hp12, _⟩ := id src12
          refine seq_of ⟨tb12, fun H13 ext13 tb13 p0 np0 Nm => ?_⟩
          have s13 := same_upd (o := HO.tup [V.str "another", V.non]) np0
          have up13 : Same (hidT p H12) (upd H13 p0 (HO.tup [V.str "another", V.non])) := fun b o h => s13 b o (ext13 b o (hidT_of h).2.1 (hidT_of h).2.2)
          refine ⟨_, rfl, _, rfl, v, th, d, e, rfl, dd12.same up13, de12.same up13, fun _ H14 q14 s14 n14 => .inl ⟨rfl, q14, v, d, rfl, upd_same, (dd12.same up13).same (s14.trans (same_upd n14)), tells, fun p15 H15 s15 h15 => ?_⟩, fun z => absurd (bad.symm.trans z) (by decide), fun z => absurd (bad.symm.trans z) (by decide)⟩
          have up15 : Same (upd H13 p0 (HO.tup [V.str "another", V.non])) H15 := s14.trans ((same_upd n14).trans s15)
          refine ⟨_, rfl, v, d, rfl, (dd12.same up13).same up15, tells, by show 2 ≤ sizeLine; decide, fun p16 n16 => ?_⟩
          have s16 := same_upd (o := HO.tup [V.str "test", V.str d.shown]) n16
          refine ⟨.tuple [.str "test", .str d.shown], .tuple [.str "test", .str d.shown], .tup (SqT.of (s16 _ _ h15)) (.cons (.str _) (.cons (.str _) .nil)), .tup (SqT.of upd_same) (.cons (.str _) (.cons (.str _) .nil)), shaped_pair (ok_lit _) (shown_ok d tells.oks), shaped_pair (ok_lit _) (shown_ok d tells.oks), _, rfl, ifF (by rw [eqv_pair]; rfl) ?_⟩
          have up16 : Same H13 (upd H15 p16 (HO.tup [V.str "test", V.str d.shown])) := s13.trans (up15.trans s16)
          have lift16 : Same (hidT p H12) (upd H15 p16 (HO.tup [V.str "test", V.str d.shown])) := up13.trans (up15.trans s16)
          have tb16 := tb13.ext up16
          have hL16 := lift16 _ _ (hidT_at Lp hL12 (fun _ z => by cases z))
          have dy16 := dy12.same (hidT_mono lift16)
          have de16 := de12.same (hidT_mono lift16)
          generalize upd H15 p16 (HO.tup [V.str "test", V.str d.shown]) = H16 at tb16 hL16 dy16 de16 ⊢
          clear lift16 up16 s16 up15 up13 s13 n16 h15 s15 n14 s14 np0 ext13 tb13 hp12
          -- the second one
          have tst := negN_test dr hn3
          refine ⟨tb16, fun H17 ext17 tb17 p0 np0 Nm => ?_⟩
          have s17 := same_upd (o := HO.tup [V.str "another", V.non]) np0
          have up17 : Same (hidT p H16) (upd H17 p0 (HO.tup [V.str "another", V.non])) := fun b o h => s17 b o (ext17 b o (hidT_of h).2.1 (hidT_of h).2.2)
          refine ⟨_, rfl, _, rfl, .ref y, th, _, e, rfl, dy16.same up17, de16.same up17, fun z => absurd (tst.symm.trans z) (by decide), fun _ _ H18 q18 s18 n18 => .inr ⟨rfl, q18, .str "item", rfl, upd_same, fun p19 H19 s19 h19 => ?_⟩, fun _ z => absurd (noInt.symm.trans z) (by decide)⟩
          have up19 : Same (upd H17 p0 (HO.tup [V.str "another", V.non])) H19 := s18.trans ((same_upd n18).trans s19)
          refine ⟨by show 2 ≤ sizeLine; decide, fun p20 n20 => ?_⟩
          have s20 := same_upd (o := HO.tup [V.str "bound", V.str "item"]) n20
          refine ⟨.tuple [.str "bound", .str "item"], .tuple [.str "bound", .str "item"], .tup (SqT.of (s20 _ _ h19)) (.cons (.str _) (.cons (.str _) .nil)), .tup (SqT.of upd_same) (.cons (.str _) (.cons (.str _) .nil)), shaped_pair (ok_lit _) (ok_lit _), shaped_pair (ok_lit _) (ok_lit _), _, rfl, ifF (by rw [eqv_pair]; rfl) ?_⟩
          have up20 : Same H17 (upd H19 p20 (HO.tup [V.str "bound", V.str "item"])) := s17.trans (up19.trans s20)
          have lift20 : Same (hidT p H16) (upd H19 p20 (HO.tup [V.str "bound", V.str "item"])) := up17.trans (up19.trans s20)
          exact ⟨⟨_, rfl, rfl⟩, lift20 _ _ (hidT_at Lp hL16 (fun _ z => by cases z)), tb17.ext up20⟩
  · -- behind the loop
    rintro σ H' ⟨⟨tl, rfl, len⟩, hL, tb⟩
    obtain ⟨s1, s2, s3, s4, s5, s6, s7, s8, s9, s10, s11, s12, s13, s14, s15, s16, s17, s18, rfl⟩ := slots19 len
    dsimp only
    refine seqasg_of ?_
    unfold tLc iList
    refine kinds_read (K := K) (p := L) H' _ ⟨_, hL⟩ hidT_same fun v H1 s1' d1 => ?_
    cases d1 with
    | @lst l1 vs1 _ h1 z1 d1 =>
      have len1 : vs1.length = 10 := d1.length
      have hL1 := s1' _ _ hL
      have h1' := (hidT_of h1).2.1
      refine ⟨l1, rfl, ⟨_, SqL.of h1'⟩, fun D nD => ?_⟩
      refine lc_map (ys := kinds10.map fun d => V.bl (isInt d)) (SqL.of h1') nD (by rw [len1]; rfl) (by rw [len1]; exact small1000 (by decide)) (fun _ => rfl) (fun i x y H2 Q' e1 e2 sm k => ?_) (fun H2 s2' eD => ?_)
      · obtain ⟨d, e3, e4⟩ := (d1.same (hidT_same.trans sm)).getV e1
        rw [List.getElem?_map, e3] at e2
        cases e2
        exact ⟨_, rfl, x, d, rfl, e4, k _ (Same.refl _)⟩
      · refine ⟨_, rfl, by show 3 ≤ sizeLine; decide, fun l2 n2 => ?_⟩
        have u2 := same_upd (o := HO.lst [V.bl true, V.bl true, V.bl true]) n2
        refine ⟨by show 1 ≤ sizeLine; decide, fun l3 n3 => ?_⟩
        have u3 := same_upd (o := HO.lst [V.bl false]) n3
        refine ⟨l3, 7, _, rfl, rfl, upd_same, by decide, by decide, by show 1 * 7 ≤ sizeLine; decide, fun l4 n4 => ?_⟩
        have u4 := same_upd (o := HO.lst (List.replicate (7 : Int).toNat [V.bl false]).flatten) n4
        refine ⟨l2, l4, _, _, rfl, rfl, u4 _ _ (u3 _ _ upd_same), upd_same, by show 10 ≤ sizeLine; decide, fun l5 n5 => ?_⟩
        have u5 := same_upd (o := HO.lst ([V.bl true, V.bl true, V.bl true] ++ (List.replicate (7 : Int).toNat [V.bl false]).flatten)) n5
        refine ⟨.list [.bool true, .bool true, .bool true, .bool false, .bool false, .bool false, .bool false, .bool false, .bool false, .bool false], .list [.bool true, .bool true, .bool true, .bool false, .bool false, .bool false, .bool false, .bool false, .bool false, .bool false],
          .lst (SqL.of (u5 _ _ (u4 _ _ (u3 _ _ (u2 _ _ eD))))) (.cons (.bl _) (.cons (.bl _) (.cons (.bl _) (.cons (.bl _) (.cons (.bl _) (.cons (.bl _) (.cons (.bl _) (.cons (.bl _) (.cons (.bl _) (.cons (.bl _) .nil)))))))))),
          .lst (SqL.of upd_same) (.cons (.bl _) (.cons (.bl _) (.cons (.bl _) (.cons (.bl _) (.cons (.bl _) (.cons (.bl _) (.cons (.bl _) (.cons (.bl _) (.cons (.bl _) (.cons (.bl _) .nil)))))))))), by decide +kernel, by decide +kernel, _, rfl, ifF (by decide +kernel) ?_⟩
        refine ⟨rfl, _, .int 5, rfl, .int 5, _, _, rfl, rfl, _, rfl, ifF (by decide +kernel) ?_⟩
        refine next_of ?_
        dsimp only
        refine last_of ?_
        have hL2 := u5 _ _ (u4 _ _ (u3 _ _ (u2 _ _ (s2' _ _ hL1))))
        refine mod_read (K := K) (p := L) _ _ ⟨_, hL2⟩ hidT_same fun v6 H6 s6' d6 => ?_
        refine ⟨v6, .int 5, _, .int 5, rfl, d6.same hidT_same, .int 5, fun e => Bool.noConfusion (show true = false from e), fun _ e => Bool.noConfusion (show true = false from e), fun _ _ => ⟨.md 100 [], 5, rfl, rfl, (by show (100 : Int) ≠ 0; decide), by decide, fun H7 s7' => ⟨false, false, rfl, rfl, true, rfl, ?_⟩⟩⟩
        refine (if_pos rfl).mpr ?_
        refine not_read (K := K) (p := L) H7 _ ⟨_, s7' _ _ (s6' _ _ hL2)⟩ hidT_same fun v8 H8 s8' d8 => ?_
        refine ⟨_, _, rfl, rfl, ⟨by decide, by decide, by decide⟩, v8, .int (10 ^ (30 : Int).toNat), _, .int (10 ^ (30 : Int).toNat), rfl, d8.same hidT_same, .int _, fun e => Bool.noConfusion (show true = false from e), fun _ e => Bool.noConfusion (show true = false from e), fun _ _ => ⟨.neg (.md 1 []), 10 ^ (30 : Int).toNat, rfl, rfl, (by show (1 : Int) ≠ 0; decide), by decide, fun H9 s9' => ⟨true, true, rfl, rfl, ?_⟩⟩⟩
        exact q _
end
end Pw
set_option maxHeartbeats 2000000
/-! the law's call at the very place where it is made: nothing is being told by repr there -/
namespace Rn
open PySem PySem.Spec PyProof.Rows L2 LamX
abbrev listObj (us : List Value) : Obj := { cls := .type "list", data := .seq us.toArray }
abbrev tabObj0 : Obj := { cls := .none, data := .fields #[] }
/-- what is known at the entry: the script, where it is none of the module's own objects, and the tables -/
def first (K : PySem.W.Frag) (a : Addr) (us : List Value) (zs : List Int) (tabs : List Addr) : Hp := fun b =>
  if b = a then (if (K.lookup a).isNone = true then some (.frz (listObj us) (.lst (zs.map V.int))) else none) else if b ∈ tabs then some (.tbl #[]) else none
section
variable {K : PySem.W.Frag} {a : Addr} {us : List Value} {zs : List Int} {tabs : List Addr} {h : Heap}
theorem first_tab (na : a ∉ tabs) {b : Addr} (hb : b ∈ tabs) : first K a us zs tabs b = some (.tbl #[]) := by
  have ne : b ≠ a := fun z => na (z ▸ hb)
  unfold first
  rw [if_neg ne, if_pos hb]
theorem first_off {b : Addr} (h1 : b ≠ a) (h2 : b ∉ tabs) : first K a us zs tabs b = none := by
  unfold first
  rw [if_neg h1, if_neg h2]
theorem first_own (e : K.lookup a = none) : first K a us zs tabs a = some (.frz (listObj us) (.lst (zs.map V.int))) := by
  unfold first
  rw [if_pos rfl, e]
  rfl
theorem first_top {o : Obj} (e : K.lookup a = some o) : first K a us zs tabs a = none := by
  unfold first
  rw [if_pos rfl, e]
  rfl
/-- where something is known it is the script or a table -/
theorem first_known {b : Addr} {u : HO} (e : first K a us zs tabs b = some u) : (b = a ∧ K.lookup a = none ∧ u = .frz (listObj us) (.lst (zs.map V.int))) ∨ (b ≠ a ∧ b ∈ tabs ∧ u = .tbl #[]) := by
  by_cases hb : b = a
  · subst hb
    cases hk : K.lookup b with
    | none =>
      rw [first_own hk] at e
      exact .inl ⟨rfl, rfl, (Option.some.inj e).symm⟩
    | some o =>
      rw [first_top hk] at e
      cases e
  · by_cases ht : b ∈ tabs
    · unfold first at e
      rw [if_neg hb, if_pos ht] at e
      exact .inr ⟨hb, ht, (Option.some.inj e).symm⟩
    · rw [first_off hb ht] at e
      cases e
end
theorem law_run {P : Program} {w : World} {K : PySem.W.Frag} {mg mb : Str → Option Value} {fa a : Addr} {cs : List (Addr × Addr)} {s : Shared} {us : List Value} {zs : List Int}
    (top : K.In s.heap) (glob : s.heap.Ns mainGlobals mg) (blt : s.heap.Ns builtinsNs mb) (same : ∀ x : Str, x ≠ "__name__" → mb x = bootBuiltins x) (free : s.heap.NoLimit) (gens : s.gens = #[])
    (tabAt : ∀ p ∈ cs, s.heap.get? p.2 = some tabObj0) (tabOff : ∀ p ∈ cs, K.lookup p.2 = none) (code : ∀ p ∈ cs, PySem.W.CodeHd s.heap p.1 p.2)
    (main : ∃ (bm : Addr) (ob : Obj), mg "__builtins__" = some (.ref bm) ∧ bm ≠ builtinsNs ∧ s.heap.get? bm = some ob ∧ ob.cls = .type "module" ∧ ob.dict = some builtinsNs ∧ ob.data = .plain)
    (script : s.heap.get? a = some (listObj us)) (scriptInts : IntsAre us zs) (short : zs.length ≤ sizeLine)
    (F : ∀ base : Heap, K.In base → base.Ns mainGlobals mg → (∀ p ∈ cs, TabB base mg p.1 p.2) → ∀ H : Hp, (∀ p ∈ cs, H p.2 = some (.tbl #[])) → SqL K H a (zs.map V.int) → Env0 P w K mg base callerA [] s H →
      codeAny (model P w) callerA (.call (.ref fa) ⟨[.ref a], []⟩) (CR CX0 [] P w H s (fun v _ => v = .bl true) E0) s) :
    codeAny (model P w) callerA (.call (.ref fa) ⟨[.ref a], []⟩) (fun r s' => r = .ok (.ret (.bool true)) ∧ OldK s.heap s'.heap ∧ s'.os = s.os ∧ AllBare s'.gens) s := by
  have rel := L2.vals_ints scriptInts
  have isTab : ∀ b ∈ cs.map (·.2), s.heap.get? b = some tabObj0 := fun b hb => by
    obtain ⟨p, hp, rfl⟩ := List.mem_map.mp hb
    exact tabAt p hp
  have aOff : a ∉ cs.map (·.2) := fun z => by
    have e := script.symm.trans (isTab a z)
    have d := congrArg Obj.data (Option.some.inj e)
    cases d
  obtain ⟨H, eH⟩ : ∃ H, first K a us zs (cs.map (·.2)) = H := ⟨_, rfl⟩
  have known : ∀ {b u}, H b = some u → (b = a ∧ K.lookup a = none ∧ u = .frz (listObj us) (.lst (zs.map V.int))) ∨ (b ≠ a ∧ b ∈ cs.map (·.2) ∧ u = .tbl #[]) := fun e => first_known (by rw [eH]; exact e)
  have tabH : ∀ p ∈ cs, H p.2 = some (.tbl #[]) := fun p hp => by
    rw [← eH]
    exact first_tab aOff (List.mem_map_of_mem (f := (·.2)) hp)
  -- an object that is no list and no empty table is not known
  have other : ∀ {b o}, s.heap.get? b = some o → (∀ xs n, o.data ≠ .seq xs n) → o.data ≠ .fields #[] → H b = none := fun {b o} e n1 n2 => by
    cases q : H b with
    | none => rfl
    | some u =>
      rcases known q with ⟨rfl, _, _⟩ | ⟨_, hb, _⟩
      · rw [script] at e
        cases e
        exact absurd rfl (n1 _ _)
      · rw [isTab b hb] at e
        cases e
        exact absurd rfl n2
  have dictOff : ∀ {b o es ep}, s.heap.get? b = some o → o.data = .dict es ep → H b = none := fun e d => other e (fun xs n z => by rw [d] at z; cases z) fun z => by rw [d] at z; cases z
  have stays : ∀ {b o}, s.heap.get? b = some o → H b = none → (L2.hidT s.heap H).get? b = some o := fun e n => hidT_get e n
  have ns : ∀ {b m}, s.heap.Ns b m → (L2.hidT s.heap H).Ns b m := fun h => by
    obtain ⟨o, es, ep, e, d, r⟩ := h
    exact ⟨o, es, ep, stays e (dictOff e d), d, r⟩
  have kin : K.In (L2.hidT s.heap H) := fun b o e => stays (top b o e) (by
    cases q : H b with
    | none => rfl
    | some u =>
      rcases known q with ⟨rfl, hk, _⟩ | ⟨_, hb, _⟩
      · rw [hk] at e
        cases e
      · obtain ⟨p, hp, rfl⟩ := List.mem_map.mp hb
        rw [tabOff p hp] at e
        cases e)
  have mod : L2.Mod K mg (L2.hidT s.heap H) := ⟨kin, ns glob, ⟨mb, ns blt, same⟩, by
    obtain ⟨mc, n1, n2⟩ := free
    exact ⟨mc, ns n1, n2⟩⟩
  have hok : HOk P w H s.heap := fun b u e => by
    rcases known e with ⟨rfl, _, rfl⟩ | ⟨_, hb, rfl⟩
    · exact ⟨script, by rw [List.length_map]; exact short, us, _, rel, script⟩
    · exact isTab b hb
  have seq : SqL K H a (zs.map V.int) := by
    cases hk : K.lookup a with
    | none =>
      refine .inl (.inr ⟨listObj us, ?_⟩)
      rw [← eH]
      exact first_own hk
    | some o =>
      have e := (top a o hk).symm.trans script
      cases e
      exact .inr ⟨_, us.toArray, _, hk, rfl, rfl, rfl, by rw [List.size_toArray, scriptInts.length]; exact short, by simpa using rel⟩
  have tb : ∀ p ∈ cs, TabB (L2.hidT s.heap H) mg p.1 p.2 := fun p hp => by
    have tp := tabAt p hp
    have notDict : ∀ {b m}, s.heap.Ns b m → b ≠ p.2 := fun h z => by
      obtain ⟨o, es, ep, e, d, _⟩ := h
      rw [z, tp] at e
      cases e
      cases d
    refine ⟨?_, ?_, notDict glob⟩
    · obtain ⟨o, vs, c1, c2, c3, c4, c5, c6, c7, e1, r1, r2, r3, rest⟩ := code p hp
      refine ⟨o, vs, c1, c2, c3, c4, c5, c6, c7, stays e1 (other e1 (fun xs n z => ?_) fun z => ?_), r1, r2, r3, rest⟩
      · exact nomatch r2.symm.trans z
      · have ev := r2.symm.trans z
        injection ev with ev
        rw [ev] at r3
        simp at r3
    · obtain ⟨bm, ob, g1, g2, g3, g4, g5, g6⟩ := main
      have plain : H bm = none := other g3 (fun xs n z => nomatch g6.symm.trans z) fun z => nomatch g6.symm.trans z
      refine ⟨bm, ob, g1, g2, fun z => ?_, fun z => ?_, stays g3 plain, g4, g5, g6⟩
      · obtain ⟨o, es, ep, e, d, _⟩ := id glob
        rw [z, e] at g3
        cases g3
        exact nomatch d.symm.trans g6
      · rw [z, tp] at g3
        cases g3
        cases g6
  have env : Env0 P w K mg (L2.hidT s.heap H) callerA [] s H := ⟨rfl, mod, fun b o e => of_hidT e, Nat.le_of_eq (hidT_size _ _), trivial, fun b hb => (List.not_mem_nil hb).elim, hok, .of_eq gens⟩
  refine codeAny_mono (F _ kin (ns glob) tb H tabH seq env) fun r s' out => ?_
  match r, out with
  | .ok (.ret u), out =>
    obtain ⟨v, H', os, bare, un, hok', rv, rfl⟩ := out
    cases (show u = Value.bool true from rv)
    have keeps : ∀ b o, b ∉ cs.map (·.2) → s.heap.get? b = some o → s'.heap.get? b = some o := fun b o nb e => by
      cases q : H b with
      | none => exact un.keep b o e q (fun z => (List.not_mem_nil z).elim) (fun z => (List.not_mem_nil z).elim)
      | some u =>
        rcases known q with ⟨rfl, _, rfl⟩ | ⟨_, hb, _⟩
        · have later := (hok' b _ (un.frzs b _ _ q)).1
          rw [script] at e
          cases e
          exact later
        · exact absurd hb nb
    have grown : ∀ p ∈ cs, ∃ more : Array Value, s'.heap.get? p.2 = some { cls := .none, data := .fields more } := fun p hp => by
      obtain ⟨more, e⟩ := un.tbls p.2 #[] (tabH p hp)
      exact ⟨_, hok' p.2 _ e⟩
    refine ⟨rfl, ⟨fun b o e => ?_, fun b o e => ?_⟩, os, bare⟩ <;> by_cases hb : b ∈ cs.map (·.2)
    · obtain ⟨p, hp, rfl⟩ := List.mem_map.mp hb
      obtain ⟨more, hm⟩ := grown p hp
      rw [tabAt p hp] at e
      cases e
      exact .inr (.inl ⟨((code p hp).tab (tabAt p hp)).isCodeTable, rfl, #[], more, rfl, by rw [Array.empty_append]; exact hm⟩)
    · exact .inl (keeps b o hb e)
    · obtain ⟨p, hp, rfl⟩ := List.mem_map.mp hb
      obtain ⟨more, hm⟩ := grown p hp
      exact ⟨_, hm⟩
    · exact ⟨o, keeps b o hb e⟩
  | .error e, out => exact (show False from out).elim
  | .ok .next, out => exact (show False from out).elim
  | .ok .brk, out => exact (show False from out).elim
  | .ok .cont, out => exact (show False from out).elim
end Rn
namespace Rn
open PySem PySem.Spec PyProof.Rows L2 LamX
/-- the table of the def at f is empty, its code object is laid as it should -/
def Empty (K : PySem.W.Frag) (f : Addr) (h : Heap) : Prop := ∀ (c T : Addr) (o : Obj) (fd : FuncData) (cl : Value) (dd : Option Addr) (vs : Array Value) (sl : Array (Option Value)),
  K.lookup f = some o → o.data = .func fd → fd.code = .ref c → K.lookup c = some ⟨cl, dd, .fields vs, sl⟩ → vs[11]? = some (.ref T) → h.get? T = some tabObj0 ∧ PySem.W.CodeHd h c T
theorem walk_run {l : PySem.W.OpenLaw} {n : Nat} {q : Program} {loose : List Str} {XP : (Str → Option Value) → Heap → Prop} {YP : World → Heap → Prop} {d : DefRec} {K : Params → PySem.W.Frag} {names : List Str}
    (most : l.most = some n) (small : n ≤ sizeLine) (noDef : d.params.defaults = []) (recs : ∀ x ∈ names, ((recsOf q).any fun e => e.name == x) = true) (kin : ∀ (w : World) (h : Heap), YP w h → (K w.params).In h)
    (F : ∀ (w : World) (mg : Str → Option Value) (fa : Addr) (h : Heap), YP w h → (K w.params).In h → h.Ns mainGlobals mg → mg d.name = some (.ref fa) → (∀ x ∈ names, ∀ f, mg x = some (.ref f) → Empty (K w.params) f h) →
      ∃ cs : List (Addr × Addr), (∀ p ∈ cs, h.get? p.2 = some tabObj0) ∧ (∀ p ∈ cs, (K w.params).lookup p.2 = none) ∧ (∀ p ∈ cs, PySem.W.CodeHd h p.1 p.2) ∧
        ∀ (base : Heap), (K w.params).In base → base.Ns mainGlobals mg → (∀ p ∈ cs, TabB base mg p.1 p.2) → ∀ (s : Shared) (H : Hp) (a : Addr) (zs : List Int), zs.length ≤ n → (∀ p ∈ cs, H p.2 = some (.tbl #[])) → SqL (K w.params) H a (zs.map V.int) → Env0 l.prog w (K w.params) mg base callerA [] s H →
          codeAny (model l.prog w) callerA (.call (.ref fa) ⟨[.ref a], []⟩) (CR CX0 [] l.prog w H s (fun v _ => v = .bl true) E0) s) :
    PySem.W.WalkO q loose XP YP l.row.toRowW d [] (fun f vs => PySem.call f vs) := by
  refine Att.attach_callB most noDef fun w s0 s mg mb fa o pm cd doc a us zs G Y ho hd hcd hmg obj scriptInts len bits gens => ?_
  have top := kin w _ Y
  have empty : ∀ x ∈ names, ∀ f, mg x = some (.ref f) → Empty (K w.params) f s.heap := fun x hx f hf c T o1 fd cl dd vs sl k1 k2 k3 k4 k5 => by
    obtain ⟨r, hr, same⟩ := List.any_eq_true.mp (recs x hx)
    obtain ⟨f2, o2, fd2, c2, T2, g1, g2, g3, g4, g5, g6⟩ := G.T.tab r hr
    rw [beq_iff_eq.mp same, hf] at g1
    cases g1
    cases (top _ _ k1).symm.trans g2
    cases k2.symm.trans g3
    cases k3.symm.trans g4
    have hd := PySem.W.CodeHd.of g5 g6
    obtain ⟨⟨oc, vc, e1, _, e3, e4⟩, tab⟩ := g6
    cases (top _ _ k4).symm.trans e1
    cases e3
    cases k5.symm.trans e4
    exact ⟨tab, hd⟩
  obtain ⟨cs, t1, t2, t3, run⟩ := F w mg fa _ Y top G.T.g hmg empty
  exact law_run top G.T.g G.T.b G.T.builtins G.T.nolimit gens t1 t2 t3 G.T.bmain obj scriptInts (Nat.le_trans len small) fun base k1 k2 k3 H k4 k5 e => run base k1 k2 k3 s H a zs len k4 k5 e
end Rn
set_option maxHeartbeats 4000000
/-! the end: what the top has written -/
namespace Pw
open PySem PySem.Spec PyProof.Rows L2 LamX NdefX
theorem vals_reverse : ∀ {vs : List V} {us : List Value}, Vals vs us → Vals vs.reverse us.reverse := fun {vs us} h => by
  induction h with
  | nil => exact .nil
  | cons r _ ih =>
    rw [List.reverse_cons, List.reverse_cons]
    exact ih.append (.cons r .nil)
theorem all_mk {P : Program} {w : World} {K : PySem.W.Frag} {h : Heap} {mg : Str → Option Value} {fa : Addr} {n : Nat} (X : K.In h) (G : h.Ns mainGlobals mg) (hfa : mg "law" = some (.ref fa)) (emp : ∀ x ∈ (["law", "_law_plain"] : List Str), ∀ f, mg x = some (.ref f) → Rn.Empty K f h)
    {oc0 kV0 dc0 pm0 cd0 ct0 : Value} {od0 an0 : Option Addr} {sl0 : Array (Option Value)} {f0 : Addr}
    {oc1 kV1 dc1 pm1 cd1 ct1 : Value} {od1 an1 : Option Addr} {sl1 : Array (Option Value)} {f1 : Addr}
    {oc2 kV2 dc2 pm2 cd2 ct2 : Value} {od2 an2 : Option Addr} {sl2 : Array (Option Value)} {f2 : Addr}
    {oc3 kV3 dc3 pm3 cd3 ct3 : Value} {od3 an3 : Option Addr} {sl3 : Array (Option Value)} {f3 : Addr}
    {oc4 kV4 dc4 pm4 cd4 ct4 : Value} {od4 an4 : Option Addr} {sl4 : Array (Option Value)} {f4 : Addr}
    {oc5 kV5 dc5 pm5 cd5 ct5 : Value} {od5 an5 : Option Addr} {sl5 : Array (Option Value)} {f5 : Addr}
    {oc6 kV6 dc6 pm6 cd6 ct6 : Value} {od6 an6 : Option Addr} {sl6 : Array (Option Value)} {f6 : Addr}
    {oc7 kV7 dc7 pm7 cd7 ct7 : Value} {od7 an7 : Option Addr} {sl7 : Array (Option Value)} {f7 : Addr}
    {oc8 kV8 dc8 pm8 cd8 ct8 : Value} {od8 an8 : Option Addr} {sl8 : Array (Option Value)} {f8 : Addr}
    {oc9 kV9 dc9 pm9 cd9 ct9 : Value} {od9 an9 : Option Addr} {sl9 : Array (Option Value)} {f9 : Addr}
    {oc10 kV10 dc10 pm10 cd10 ct10 : Value} {od10 an10 : Option Addr} {sl10 : Array (Option Value)} {f10 : Addr}
    {oc11 kV11 dc11 pm11 cd11 ct11 : Value} {od11 an11 : Option Addr} {sl11 : Array (Option Value)} {f11 : Addr}
    {oc12 kV12 dc12 pm12 cd12 ct12 : Value} {od12 an12 : Option Addr} {sl12 : Array (Option Value)} {f12 : Addr}
    {oc13 kV13 dc13 pm13 cd13 ct13 : Value} {od13 an13 : Option Addr} {sl13 : Array (Option Value)} {f13 : Addr}
    {oc14 kV14 dc14 pm14 cd14 ct14 : Value} {od14 an14 : Option Addr} {sl14 : Array (Option Value)} {f14 : Addr}
    {oc15 kV15 dc15 pm15 cd15 ct15 : Value} {od15 an15 : Option Addr} {sl15 : Array (Option Value)} {f15 : Addr}
    {oc16 kV16 dc16 pm16 cd16 ct16 : Value} {od16 an16 : Option Addr} {sl16 : Array (Option Value)} {f16 : Addr}
    {tm : Tok}
    {CP CT fT CB fB : Addr}
    {ocT dcT pmT cdT ctT : Value} {odT anT : Option Addr} {slT : Array (Option Value)}
    {ocB dcB pmB cdB ctB : Value} {odB anB : Option Addr} {slB : Array (Option Value)}
    {cL PL cP PP : Addr} {clL clP : Value} {ddL ddP : Option Addr} {vsL vsP : Array Value} {csL csP : Array (Option Value)}
    (a0 : PySem.W.nsIn K mainGlobals "is_integer" = some (some (.ref f0)))
    (l0 : K.lookup f0 = some ⟨oc0, od0, .func (PySem.W.fnOf "is_integer" "is_integer" (defArgs sInteger) (defBody sInteger) (defScope sInteger) .none kV0 dc0 pm0 an0 cd0 ct0), sl0⟩)
    (c0 : PySem.W.codeIn K cd0 "is_integer" = true)
    (k0 : PySem.W.keepIn K (.ref f0) = true)
    (a1 : PySem.W.nsIn K mainGlobals "is_between" = some (some (.ref f1)))
    (l1 : K.lookup f1 = some ⟨oc1, od1, .func (PySem.W.fnOf "is_between" "is_between" (defArgs sBetween) (defBody sBetween) (defScope sBetween) .none kV1 dc1 pm1 an1 cd1 ct1), sl1⟩)
    (c1 : PySem.W.codeIn K cd1 "is_between" = true)
    (k1 : PySem.W.keepIn K (.ref f1) = true)
    (a2 : PySem.W.nsIn K mainGlobals "is_parameter" = some (some (.ref f2)))
    (l2 : K.lookup f2 = some ⟨oc2, od2, .func (PySem.W.fnOf "is_parameter" "is_parameter" (defArgs sParameter) (defBody sParameter) (defScope sParameter) .none kV2 dc2 pm2 an2 cd2 ct2), sl2⟩)
    (c2 : PySem.W.codeIn K cd2 "is_parameter" = true)
    (k2 : PySem.W.keepIn K (.ref f2) = true)
    (a3 : PySem.W.nsIn K mainGlobals "is_one_of" = some (some (.ref f3)))
    (l3 : K.lookup f3 = some ⟨oc3, od3, .func (PySem.W.fnOf "is_one_of" "is_one_of" (defArgs sOneOf) (defBody sOneOf) (defScope sOneOf) .none kV3 dc3 pm3 an3 cd3 ct3), sl3⟩)
    (c3 : PySem.W.codeIn K cd3 "is_one_of" = true)
    (k3 : PySem.W.keepIn K (.ref f3) = true)
    (a4 : PySem.W.nsIn K mainGlobals "passes" = some (some (.ref f4)))
    (l4 : K.lookup f4 = some ⟨oc4, od4, .func (PySem.W.fnOf "passes" "passes" (defArgs sPasses) (defBody sPasses) (defScope sPasses) .none kV4 dc4 pm4 an4 cd4 ct4), sl4⟩)
    (c4 : PySem.W.codeIn K cd4 "passes" = true)
    (k4 : PySem.W.keepIn K (.ref f4) = true)
    (a5 : PySem.W.nsIn K mainGlobals "holds" = some (some (.ref f5)))
    (l5 : K.lookup f5 = some ⟨oc5, od5, .func (PySem.W.fnOf "holds" "holds" (defArgs sHolds) (defBody sHolds) (defScope sHolds) .none kV5 dc5 pm5 an5 cd5 ct5), sl5⟩)
    (c5 : PySem.W.codeIn K cd5 "holds" = true)
    (k5 : PySem.W.keepIn K (.ref f5) = true)
    (a6 : PySem.W.nsIn K mainGlobals "is_test" = some (some (.ref f6)))
    (l6 : K.lookup f6 = some ⟨oc6, od6, .func (PySem.W.fnOf "is_test" "is_test" (defArgs sTest) (defBody sTest) (defScope sTest) .none kV6 dc6 pm6 an6 cd6 ct6), sl6⟩)
    (c6 : PySem.W.codeIn K cd6 "is_test" = true)
    (k6 : PySem.W.keepIn K (.ref f6) = true)
    (a7 : PySem.W.nsIn K mainGlobals "is_negation" = some (some (.ref f7)))
    (l7 : K.lookup f7 = some ⟨oc7, od7, .func (PySem.W.fnOf "is_negation" "is_negation" (defArgs sNegation) (defBody sNegation) (defScope sNegation) .none kV7 dc7 pm7 an7 cd7 ct7), sl7⟩)
    (c7 : PySem.W.codeIn K cd7 "is_negation" = true)
    (k7 : PySem.W.keepIn K (.ref f7) = true)
    (a8 : PySem.W.nsIn K mainGlobals "is_plain_test" = some (some (.ref f8)))
    (l8 : K.lookup f8 = some ⟨oc8, od8, .func (PySem.W.fnOf "is_plain_test" "is_plain_test" (defArgs sPlain) (defBody sPlain) (defScope sPlain) .none kV8 dc8 pm8 an8 cd8 ct8), sl8⟩)
    (c8 : PySem.W.codeIn K cd8 "is_plain_test" = true)
    (k8 : PySem.W.keepIn K (.ref f8) = true)
    (a9 : PySem.W.nsIn K mainGlobals "are_residues" = some (some (.ref f9)))
    (l9 : K.lookup f9 = some ⟨oc9, od9, .func (PySem.W.fnOf "are_residues" "are_residues" (defArgs sResidues) (defBody sResidues) (defScope sResidues) .none kV9 dc9 pm9 an9 cd9 ct9), sl9⟩)
    (c9 : PySem.W.codeIn K cd9 "are_residues" = true)
    (k9 : PySem.W.keepIn K (.ref f9) = true)
    (a10 : PySem.W.nsIn K mainGlobals "_law_source_of" = some (some (.ref f10)))
    (l10 : K.lookup f10 = some ⟨oc10, od10, .func (PySem.W.fnOf "_law_source_of" "_law_source_of" (defArgs sSourceOf) (defBody sSourceOf) (defScope sSourceOf) .none kV10 dc10 pm10 an10 cd10 ct10), sl10⟩)
    (c10 : PySem.W.codeIn K cd10 "_law_source_of" = true)
    (k10 : PySem.W.keepIn K (.ref f10) = true)
    (a11 : PySem.W.nsIn K mainGlobals "_law_next" = some (some (.ref f11)))
    (l11 : K.lookup f11 = some ⟨oc11, od11, .func (PySem.W.fnOf "_law_next" "_law_next" (defArgs sNext) (defBody sNext) (defScope sNext) .none kV11 dc11 pm11 an11 cd11 ct11), sl11⟩)
    (c11 : PySem.W.codeIn K cd11 "_law_next" = true)
    (k11 : PySem.W.keepIn K (.ref f11) = true)
    (a12 : PySem.W.nsIn K mainGlobals "_law_one" = some (some (.ref f12)))
    (l12 : K.lookup f12 = some ⟨oc12, od12, .func (PySem.W.fnOf "_law_one" "_law_one" (defArgs sOne) (defBody sOne) (defScope sOne) .none kV12 dc12 pm12 an12 cd12 ct12), sl12⟩)
    (c12 : PySem.W.codeIn K cd12 "_law_one" = true)
    (k12 : PySem.W.keepIn K (.ref f12) = true)
    (a13 : PySem.W.nsIn K mainGlobals "_law_cell_at" = some (some (.ref f13)))
    (l13 : K.lookup f13 = some ⟨oc13, od13, .func (PySem.W.fnOf "_law_cell_at" "_law_cell_at" (defArgs sCellAt) (defBody sCellAt) (defScope sCellAt) .none kV13 dc13 pm13 an13 cd13 ct13), sl13⟩)
    (c13 : PySem.W.codeIn K cd13 "_law_cell_at" = true)
    (k13 : PySem.W.keepIn K (.ref f13) = true)
    (a14 : PySem.W.nsIn K mainGlobals "_law_plain" = some (some (.ref f14)))
    (l14 : K.lookup f14 = some ⟨oc14, od14, .func (PySem.W.fnOf "_law_plain" "_law_plain" (defArgs sLawPlain) (defBody sLawPlain) (defScope sLawPlain) .none kV14 dc14 pm14 an14 cd14 ct14), sl14⟩)
    (c14 : PySem.W.codeIn K cd14 "_law_plain" = true)
    (k14 : PySem.W.keepIn K (.ref f14) = true)
    (a15 : PySem.W.nsIn K mainGlobals "_law_raised" = some (some (.ref f15)))
    (l15 : K.lookup f15 = some ⟨oc15, od15, .func (PySem.W.fnOf "_law_raised" "_law_raised" (defArgs sRaised) (defBody sRaised) (defScope sRaised) .none kV15 dc15 pm15 an15 cd15 ct15), sl15⟩)
    (c15 : PySem.W.codeIn K cd15 "_law_raised" = true)
    (k15 : PySem.W.keepIn K (.ref f15) = true)
    (a16 : PySem.W.nsIn K mainGlobals "law" = some (some (.ref f16)))
    (l16 : K.lookup f16 = some ⟨oc16, od16, .func (PySem.W.fnOf "law" "law" (defArgs sLaw) (defBody sLaw) (defScope sLaw) .none kV16 dc16 pm16 an16 cd16 ct16), sl16⟩)
    (c16 : PySem.W.codeIn K cd16 "law" = true)
    (k16 : PySem.W.keepIn K (.ref f16) = true)
    (b_isinstance : PySem.W.nsIn K mainGlobals "isinstance" = some none)
    (b_int : PySem.W.nsIn K mainGlobals "int" = some none)
    (b_bool : PySem.W.nsIn K mainGlobals "bool" = some none)
    (b_str : PySem.W.nsIn K mainGlobals "str" = some none)
    (b_tuple : PySem.W.nsIn K mainGlobals "tuple" = some none)
    (b_list : PySem.W.nsIn K mainGlobals "list" = some none)
    (b_len : PySem.W.nsIn K mainGlobals "len" = some none)
    (b_all : PySem.W.nsIn K mainGlobals "all" = some none)
    (b_zip : PySem.W.nsIn K mainGlobals "zip" = some none)
    (b_range : PySem.W.nsIn K mainGlobals "range" = some none)
    (b_repr : PySem.W.nsIn K mainGlobals "repr" = some none)
    (mn : PySem.W.nsIn K mainGlobals "MOST_NOTS" = some (some (.int 3 tm)))
    (gP : PySem.W.nsIn K mainGlobals "PullError" = some (some (.ref CP)))
    (eT_g : PySem.W.nsIn K mainGlobals "InvalidTest" = some (some (.ref CT)))
    (eT_xI : PySem.W.excInitIn K CT PySem.ErrX.arTail "ArithmeticError.__new__" = true)
    (eT_xO : PySem.W.excOver K CT PySem.ErrX.arTail = true)
    (eT_sa : PySem.W.findIn K (.ref CT) "__setattr__" = some (some (.builtin "object.__setattr__")))
    (eT_ga : PySem.W.findIn K (.ref CT) "__getattribute__" = some (some (.builtin "BaseException.__getattribute__")))
    (eT_gg : PySem.W.findIn K (.ref CT) "__getattr__" = some none)
    (eT_nN : PySem.W.findIn K (.ref CT) "test" = some none)
    (eT_iC : PySem.W.findIn K (.ref CT) "__init__" = some (some (.ref fT)))
    (eT_tC : PySem.W.typeIn K (.ref fT) = some (.type "function"))
    (eT_kC : PySem.W.keepIn K (.ref CT) = true)
    (eT_eC : PySem.W.subIn K (.ref CT) (.type "BaseException") = some true)
    (eT_ty : PySem.W.typeIn K (.ref CT) = some (.type "type"))
    (eT_hd : PySem.W.hasDictIn K CT = true)
    (eT_l : K.lookup fT = some ⟨ocT, odT, .func (PySem.W.fnOf "__init__" "InvalidTest.__init__" (PySem.ErrX.iA "test" ⟨6, 17, 6, 21⟩ ⟨6, 23, 6, 27⟩) (PySem.ErrX.iB "test" ⟨7, 8, 7, 12⟩ ⟨7, 8, 7, 17⟩ ⟨7, 20, 7, 24⟩ ⟨7, 8, 7, 24⟩) (PySem.ErrX.iS "test") .none .none dcT pmT anT cdT ctT), slT⟩)
    (eT_c : PySem.W.codeIn K cdT "InvalidTest.__init__" = true)
    (eT_ha : PySem.W.findIn K (.ref CT) "__class__" = some (some (.builtin "object.__class__")))
    (eT_hm : PySem.W.mroIn K CT (.type "object") = some true)
    (eT_sP : PySem.W.subIn K (.ref CT) (.ref CP) = some true)
    (eB_g : PySem.W.nsIn K mainGlobals "InvalidBound" = some (some (.ref CB)))
    (eB_xI : PySem.W.excInitIn K CB PySem.ErrX.arTail "ArithmeticError.__new__" = true)
    (eB_xO : PySem.W.excOver K CB PySem.ErrX.arTail = true)
    (eB_sa : PySem.W.findIn K (.ref CB) "__setattr__" = some (some (.builtin "object.__setattr__")))
    (eB_ga : PySem.W.findIn K (.ref CB) "__getattribute__" = some (some (.builtin "BaseException.__getattribute__")))
    (eB_gg : PySem.W.findIn K (.ref CB) "__getattr__" = some none)
    (eB_nN : PySem.W.findIn K (.ref CB) "part" = some none)
    (eB_iC : PySem.W.findIn K (.ref CB) "__init__" = some (some (.ref fB)))
    (eB_tC : PySem.W.typeIn K (.ref fB) = some (.type "function"))
    (eB_kC : PySem.W.keepIn K (.ref CB) = true)
    (eB_eC : PySem.W.subIn K (.ref CB) (.type "BaseException") = some true)
    (eB_ty : PySem.W.typeIn K (.ref CB) = some (.type "type"))
    (eB_hd : PySem.W.hasDictIn K CB = true)
    (eB_l : K.lookup fB = some ⟨ocB, odB, .func (PySem.W.fnOf "__init__" "InvalidBound.__init__" (PySem.ErrX.iA "part" ⟨10, 17, 10, 21⟩ ⟨10, 23, 10, 27⟩) (PySem.ErrX.iB "part" ⟨11, 8, 11, 12⟩ ⟨11, 8, 11, 17⟩ ⟨11, 20, 11, 24⟩ ⟨11, 8, 11, 24⟩) (PySem.ErrX.iS "part") .none .none dcB pmB anB cdB ctB), slB⟩)
    (eB_c : PySem.W.codeIn K cdB "InvalidBound.__init__" = true)
    (eB_ha : PySem.W.findIn K (.ref CB) "__class__" = some (some (.builtin "object.__class__")))
    (eB_hm : PySem.W.mroIn K CB (.type "object") = some true)
    (eB_sP : PySem.W.subIn K (.ref CB) (.ref CP) = some true)
    (hn : PySem.W.specialIn K (.builtin "object.__class__") "__get__" = some (some (.builtin "getset_descriptor.__get__")))
    (ht : PySem.W.takesIn K (.builtin "object.__class__") = some true)
    (p_e : PySem.W.subIn K (.ref CP) (.type "BaseException") = some true)
    (p_h : PySem.W.hasDictIn K CP = true)
    (p_t : PySem.W.typeIn K (.ref CP) = some (.type "type"))
    (kTT : PySem.W.kitOne K (.ref CT) (.ref CT) = some true)
    (kTB : PySem.W.kitOne K (.ref CT) (.ref CB) = some false)
    (kBT : PySem.W.kitOne K (.ref CB) (.ref CT) = some false)
    (kBB : PySem.W.kitOne K (.ref CB) (.ref CB) = some true)
    (tL_c : cd16 = .ref cL)
    (tL_l : K.lookup cL = some ⟨clL, ddL, .fields vsL, csL⟩)
    (tL_v : vsL[11]? = some (.ref PL))
    (tL_n : K.lookup PL = none)
    (tP_c : cd14 = .ref cP)
    (tP_l : K.lookup cP = some ⟨clP, ddP, .fields vsP, csP⟩)
    (tP_v : vsP[11]? = some (.ref PP))
    (tP_n : K.lookup PP = none)
    (tne : PL ≠ PP) (hn63 : n ≤ 63) :
    ∃ cs : List (Addr × Addr), (∀ p ∈ cs, h.get? p.2 = some Rn.tabObj0) ∧ (∀ p ∈ cs, K.lookup p.2 = none) ∧ (∀ p ∈ cs, PySem.W.CodeHd h p.1 p.2) ∧
      ∀ (base : Heap), K.In base → base.Ns mainGlobals mg → (∀ p ∈ cs, TabB base mg p.1 p.2) → ∀ (s : Shared) (H : Hp) (a : Addr) (zs : List Int), zs.length ≤ n → (∀ p ∈ cs, H p.2 = some (.tbl #[])) → SqL K H a (zs.map V.int) → Env0 P w K mg base callerA [] s H →
        codeAny (model P w) callerA (.call (.ref fa) ⟨[.ref a], []⟩) (CR CX0 [] P w H s (fun v _ => v = .bl true) E0) s := by
  have F0 := fun_mk (st := sInteger) l0 c0 k0
  have D0 : Dfn K mg "is_integer" sInteger ["value"] := ⟨_, _, F0, PySem.W.mg_of X G a0, F0.binds (ps := ["value"]) fun _ _ _ _ _ _ us hl => match us, hl with | [_], _ => rfl⟩
  have F1 := fun_mk (st := sBetween) l1 c1 k1
  have D1 : Dfn K mg "is_between" sBetween ["value", "low", "high"] := ⟨_, _, F1, PySem.W.mg_of X G a1, F1.binds (ps := ["value", "low", "high"]) fun _ _ _ _ _ _ us hl => match us, hl with | [_, _, _], _ => rfl⟩
  have F2 := fun_mk (st := sParameter) l2 c2 k2
  have D2 : Dfn K mg "is_parameter" sParameter ["value"] := ⟨_, _, F2, PySem.W.mg_of X G a2, F2.binds (ps := ["value"]) fun _ _ _ _ _ _ us hl => match us, hl with | [_], _ => rfl⟩
  have F3 := fun_mk (st := sOneOf) l3 c3 k3
  have D3 : Dfn K mg "is_one_of" sOneOf ["value", "words"] := ⟨_, _, F3, PySem.W.mg_of X G a3, F3.binds (ps := ["value", "words"]) fun _ _ _ _ _ _ us hl => match us, hl with | [_, _], _ => rfl⟩
  have F4 := fun_mk (st := sPasses) l4 c4 k4
  have D4 : Dfn K mg "passes" sPasses ["test", "item"] := ⟨_, _, F4, PySem.W.mg_of X G a4, F4.binds (ps := ["test", "item"]) fun _ _ _ _ _ _ us hl => match us, hl with | [_, _], _ => rfl⟩
  have F5 := fun_mk (st := sHolds) l5 c5 k5
  have D5 : Dfn K mg "holds" sHolds ["test", "item"] := ⟨_, _, F5, PySem.W.mg_of X G a5, F5.binds (ps := ["test", "item"]) fun _ _ _ _ _ _ us hl => match us, hl with | [_, _], _ => rfl⟩
  have F6 := fun_mk (st := sTest) l6 c6 k6
  have D6 : Dfn K mg "is_test" sTest ["value"] := ⟨_, _, F6, PySem.W.mg_of X G a6, F6.binds (ps := ["value"]) fun _ _ _ _ _ _ us hl => match us, hl with | [_], _ => rfl⟩
  have F7 := fun_mk (st := sNegation) l7 c7 k7
  have D7 : Dfn K mg "is_negation" sNegation ["value"] := ⟨_, _, F7, PySem.W.mg_of X G a7, F7.binds (ps := ["value"]) fun _ _ _ _ _ _ us hl => match us, hl with | [_], _ => rfl⟩
  have F8 := fun_mk (st := sPlain) l8 c8 k8
  have D8 : Dfn K mg "is_plain_test" sPlain ["value"] := ⟨_, _, F8, PySem.W.mg_of X G a8, F8.binds (ps := ["value"]) fun _ _ _ _ _ _ us hl => match us, hl with | [_], _ => rfl⟩
  have F9 := fun_mk (st := sResidues) l9 c9 k9
  have D9 : Dfn K mg "are_residues" sResidues ["value", "modulus"] := ⟨_, _, F9, PySem.W.mg_of X G a9, F9.binds (ps := ["value", "modulus"]) fun _ _ _ _ _ _ us hl => match us, hl with | [_, _], _ => rfl⟩
  have F10 := fun_mk (st := sSourceOf) l10 c10 k10
  have D10 : Dfn K mg "_law_source_of" sSourceOf ["_law_cell"] := ⟨_, _, F10, PySem.W.mg_of X G a10, F10.binds (ps := ["_law_cell"]) fun _ _ _ _ _ _ us hl => match us, hl with | [_], _ => rfl⟩
  have F11 := fun_mk (st := sNext) l11 c11 k11
  have D11 : Dfn K mg "_law_next" sNext ["_law_source", "_law_many"] := ⟨_, _, F11, PySem.W.mg_of X G a11, F11.binds (ps := ["_law_source", "_law_many"]) fun _ _ _ _ _ _ us hl => match us, hl with | [_, _], _ => rfl⟩
  have F12 := fun_mk (st := sOne) l12 c12 k12
  have D12 : Dfn K mg "_law_one" sOne ["_law_source", "_law_options"] := ⟨_, _, F12, PySem.W.mg_of X G a12, F12.binds (ps := ["_law_source", "_law_options"]) fun _ _ _ _ _ _ us hl => match us, hl with | [_, _], _ => rfl⟩
  have F13 := fun_mk (st := sCellAt) l13 c13 k13
  have D13 : Dfn K mg "_law_cell_at" sCellAt ["_law_script", "_law_k"] := ⟨_, _, F13, PySem.W.mg_of X G a13, F13.binds (ps := ["_law_script", "_law_k"]) fun _ _ _ _ _ _ us hl => match us, hl with | [_, _], _ => rfl⟩
  have F14 := fun_mk (st := sLawPlain) l14 c14 k14
  have D14 : Dfn K mg "_law_plain" sLawPlain ["_law_source"] := ⟨_, _, F14, PySem.W.mg_of X G a14, F14.binds (ps := ["_law_source"]) fun _ _ _ _ _ _ us hl => match us, hl with | [_], _ => rfl⟩
  have F15 := fun_mk (st := sRaised) l15 c15 k15
  have D15 : Dfn K mg "_law_raised" sRaised ["_law_call"] := ⟨_, _, F15, PySem.W.mg_of X G a15, F15.binds (ps := ["_law_call"]) fun _ _ _ _ _ _ us hl => match us, hl with | [_], _ => rfl⟩
  have F16 := fun_mk (st := sLaw) l16 c16 k16
  have B : Blt mg := ⟨PySem.W.mg_none_of X G b_isinstance, PySem.W.mg_none_of X G b_int, PySem.W.mg_none_of X G b_bool, PySem.W.mg_none_of X G b_str, PySem.W.mg_none_of X G b_tuple, PySem.W.mg_none_of X G b_list, PySem.W.mg_none_of X G b_len, PySem.W.mg_none_of X G b_all, PySem.W.mg_none_of X G b_zip, PySem.W.mg_none_of X G b_range, PySem.W.mg_none_of X G b_repr⟩
  have RT : PySem.ErrX.ErrTxt K mg "InvalidTest" "test" CT fT := { gC := PySem.W.mg_of X G eT_g, xI := eT_xI, xO := eT_xO, sa := eT_sa, ga := eT_ga, gg := eT_gg, noN := eT_nN, iC := eT_iC, tC := eT_tC, kC := eT_kC, exC := eT_eC, tyC := eT_ty, hdC := eT_hd, fn := ⟨_, _, _, _, _, _, _, _, _, _, _, _, _, _, _, eT_l, eT_c⟩, bd := fun _ _ _ _ _ _ _ _ _ _ _ _ _ _ => rfl, ns := by decide, nd := by decide }
  have RB : PySem.ErrX.ErrTxt K mg "InvalidBound" "part" CB fB := { gC := PySem.W.mg_of X G eB_g, xI := eB_xI, xO := eB_xO, sa := eB_sa, ga := eB_ga, gg := eB_gg, noN := eB_nN, iC := eB_iC, tC := eB_tC, kC := eB_kC, exC := eB_eC, tyC := eB_ty, hdC := eB_hd, fn := ⟨_, _, _, _, _, _, _, _, _, _, _, _, _, _, _, eB_l, eB_c⟩, bd := fun _ _ _ _ _ _ _ _ _ _ _ _ _ _ => rfl, ns := by decide, nd := by decide }
  have R : Errs2 K mg CP CT fT CB fB := { t := RT, b := RB, gP := PySem.W.mg_of X G gP, eT := ⟨eT_ga, eT_gg, eT_eC, eT_hd, eT_ha, hn, ht, eT_hm⟩, eB := ⟨eB_ga, eB_gg, eB_eC, eB_hd, eB_ha, hn, ht, eB_hm⟩, kTT := kTT, kTB := kTB, kBT := kBT, kBB := kBB, xT := PySem.W.exm_ref p_e p_h p_t eT_sP, xB := PySem.W.exm_ref p_e p_h p_t eB_sP }
  cases hfa.symm.trans (PySem.W.mg_of X G a16)
  subst tL_c tP_c
  have gL := emp "law" (by decide) _ hfa cL PL _ _ _ _ _ _ l16 rfl rfl tL_l tL_v
  have gPl := emp "_law_plain" (by decide) _ (PySem.W.mg_of X G a14) cP PP _ _ _ _ _ _ l14 rfl rfl tP_l tP_v
  refine ⟨[(cL, PL), (cP, PP)], ?_, ?_, ?_, fun base kb nb tbs s H a zs len tabs seq e0 => ?_⟩
  · intro p hp
    simp only [List.mem_cons, List.not_mem_nil, or_false] at hp
    rcases hp with rfl | rfl
    · exact gL.1
    · exact gPl.1
  · intro p hp
    simp only [List.mem_cons, List.not_mem_nil, or_false] at hp
    rcases hp with rfl | rfl
    · exact tL_n
    · exact tP_n
  · intro p hp
    simp only [List.mem_cons, List.not_mem_nil, or_false] at hp
    rcases hp with rfl | rfl
    · exact gL.2
    · exact gPl.2
  · obtain ⟨T, eT⟩ : ∃ T : List (Addr × Str), [(PL, ("law.<locals>.<lambda>" : Str)), (PP, ("_law_plain.<locals>.<lambda>" : Str))] = T := ⟨_, rfl⟩
    have GI : DefOk P w K mg base CX0 1 "is_integer" ["value"] (spInteger K) := ok_integer B D0
    have GB : DefOk P w K mg base CX0 2 "is_between" ["value", "low", "high"] (spBetween K) := ok_between GI D1
    have GPa : DefOk P w K mg base CX0 3 "is_parameter" ["value"] (spParameter K) := ok_parameter GB D2
    have GO1 : DefOk P w K mg base CX0 1 "is_one_of" ["value", "words"] (spOneOf K) := ok_oneOf B D3
    have GNg : DefOk P w K mg base CX0 2 "is_negation" ["value"] (spNegation K) := ok_negation B GO1 D7
    have GRs : DefOk P w K mg base CX0 3 "are_residues" ["value", "modulus"] (spResidues K) := ok_residues B GB D9
    have GPn : DefOk P w K mg base CX0 4 "is_plain_test" ["value"] (spPlain K) := ok_plain B GO1 GPa GB GRs D8
    have GT : DefOk P w K mg base CX0 5 "is_test" ["value"] (spTest K) := ok_test B (PySem.W.mg_of X G mn) GNg GPn D6
    have GH : DefOk P w K mg base CX0 4 "holds" ["test", "item"] (spHolds K 4) := ok_holds D5 4
    have GP : DefOk P w K mg base (L2.CX P w) 6 "passes" ["test", "item"] (spPasses K CT CB) := ok_passes R.toErrs GT GI GH D4
    have GS : DefOk P w K mg base CX0 1 "_law_source_of" ["_law_cell"] spSourceOf := ok_sourceOf B D10
    have GN : DefOk P w K mg base CX0 1 "_law_next" ["_law_source", "_law_many"] spNext := ok_next B D11
    have GO : DefOk P w K mg base CX0 2 "_law_one" ["_law_source", "_law_options"] (spOne K) := ok_one B GN D12
    have GC : DefOk P w K mg base CX0 1 "_law_cell_at" ["_law_script", "_law_k"] (spCellAt K) := ok_cellAt B D13
    have uniq1 : ∀ p ∈ T, p.1 = PP → p.2 = ("_law_plain.<locals>.<lambda>" : Str) := by
      intro p hp e
      rw [← eT] at hp
      simp only [List.mem_cons, List.not_mem_nil, or_false] at hp
      rcases hp with rfl | rfl
      · exact absurd e tne
      · rfl
    have uniq2 : ∀ p ∈ T, p.1 = PL → p.2 = ("law.<locals>.<lambda>" : Str) := by
      intro p hp e
      rw [← eT] at hp
      simp only [List.mem_cons, List.not_mem_nil, or_false] at hp
      rcases hp with rfl | rfl
      · rfl
      · exact absurd e.symm tne
    have tbP : TabB base mg cP PP := tbs (cP, PP) (by simp)
    have tbL : TabB base mg cL PL := tbs (cL, PL) (by simp)
    have GL : DefOk P w K mg base CX0 3 "_law_plain" ["_law_source"] (spLawPlain P w K mg base T) := ok_lawPlain B GN GO tbP (by rw [← eT]; simp) uniq1 D14 (fun f fd m e1 e2 => by
      cases m.symm.trans (PySem.W.mg_of X G a14)
      rw [l14] at e2
      cases e2
      rfl)
    have C : Calls1 P w K mg base T CP CT fT CB fB := {
      B := B, R := R, GI := GI, GP := GP, GS := GS, GN := GN, GO := GO, GC := GC, GL := GL, DR := D15
      GIk := ⟨_, _, PySem.W.mg_of X G a0, F0.kp, fun _ us hl => match us, hl with | [_], _ => .of_eq rfl, fun h => h, fun us hl => hl, fn_integer B _ _ F0⟩
      GPk := ⟨_, _, PySem.W.mg_of X G a4, F4.kp, fun _ us hl => match us, hl with | [_, _], _ => .of_eq rfl, vals_reverse, fun us hl => by rw [List.length_reverse]; exact hl, fn_passes R.toErrs GT GI GH _ _ F4⟩ }
    have tabsT : Tabs T H := by
      intro p hp
      rw [← eT] at hp
      simp only [List.mem_cons, List.not_mem_nil, or_false] at hp
      rcases hp with rfl | rfl
      · exact TabS.nil (tabs (cL, PL) (by simp))
      · exact TabS.nil (tabs (cP, PP) (by simp))
    refine run_ofS (k := 8) (N := lawN) (ps := ["_law_script"]) (us := [.ref a]) (vs := [.ref a]) l16 c16 scLaw ⟨rfl, by decide, by decide⟩ e0 (.of_eq rfl) (.cons rfl .nil) rfl fun hr => ?_
    obtain ⟨t, ht, hq⟩ := law_body (E := E0) C tbL (by rw [← eT]; simp) uniq2 rfl hr (Q := fun v _ => v = .bl true) ⟨a, zs, rfl, seq, Nat.le_trans len hn63, tabsT, fun _ => rfl⟩
    exact ⟨t, ht.nox, hq⟩
end Pw
open PySem PySem.W PyProof.Rows
set_option maxRecDepth 100000 in
set_option maxHeartbeats 0 in
theorem PySem.Challenge.cw_pullworks_k01_items_and_tests_holds : PySem.Challenge.rw_pullworks_k01_items_and_tests.Holds := by
  w_on; o_law; k_head; (case hw => w_witness2)
  k_fill
  refine Rn.walk_run (l := PySem.Challenge.rw_pullworks_k01_items_and_tests) (n := 63) (names := ["law", "_law_plain"]) rfl (by decide) rfl (by decide +kernel) (fun w h Y => by first | exact PySem.W.km_in_of Y | exact PySem.W.kIn_of Y) ?F
  case F =>
    intro w mg fa h Y KX G hmg emp
    refine' Pw.all_mk KX G hmg emp ?a0 ?l0 ?c0 ?k0 ?a1 ?l1 ?c1 ?k1 ?a2 ?l2 ?c2 ?k2 ?a3 ?l3 ?c3 ?k3 ?a4 ?l4 ?c4 ?k4 ?a5 ?l5 ?c5 ?k5 ?a6 ?l6 ?c6 ?k6 ?a7 ?l7 ?c7 ?k7 ?a8 ?l8 ?c8 ?k8 ?a9 ?l9 ?c9 ?k9 ?a10 ?l10 ?c10 ?k10 ?a11 ?l11 ?c11 ?k11 ?a12 ?l12 ?c12 ?k12 ?a13 ?l13 ?c13 ?k13 ?a14 ?l14 ?c14 ?k14 ?a15 ?l15 ?c15 ?k15 ?a16 ?l16 ?c16 ?k16 ?b_isinstance ?b_int ?b_bool ?b_str ?b_tuple ?b_list ?b_len ?b_all ?b_zip ?b_range ?b_repr ?mn ?gP ?eT_g ?eT_xI ?eT_xO ?eT_sa ?eT_ga ?eT_gg ?eT_nN ?eT_iC ?eT_tC ?eT_kC ?eT_eC ?eT_ty ?eT_hd ?eT_l ?eT_c ?eT_ha ?eT_hm ?eT_sP ?eB_g ?eB_xI ?eB_xO ?eB_sa ?eB_ga ?eB_gg ?eB_nN ?eB_iC ?eB_tC ?eB_kC ?eB_eC ?eB_ty ?eB_hd ?eB_l ?eB_c ?eB_ha ?eB_hm ?eB_sP ?hn ?ht ?p_e ?p_h ?p_t ?kTT ?kTB ?kBT ?kBB ?tL_c ?tL_l ?tL_v ?tL_n ?tP_c ?tP_l ?tP_v ?tP_n ?tne (Nat.le_refl _)
    (case a0 => first | k_is | rfl)
    (case l0 => first | k_is | rfl)
    (case c0 => first | k_is | rfl)
    (case k0 => first | k_is | rfl)
    (case a1 => first | k_is | rfl)
    (case l1 => first | k_is | rfl)
    (case c1 => first | k_is | rfl)
    (case k1 => first | k_is | rfl)
    (case a2 => first | k_is | rfl)
    (case l2 => first | k_is | rfl)
    (case c2 => first | k_is | rfl)
    (case k2 => first | k_is | rfl)
    (case a3 => first | k_is | rfl)
    (case l3 => first | k_is | rfl)
    (case c3 => first | k_is | rfl)
    (case k3 => first | k_is | rfl)
    (case a4 => first | k_is | rfl)
    (case l4 => first | k_is | rfl)
    (case c4 => first | k_is | rfl)
    (case k4 => first | k_is | rfl)
    (case a5 => first | k_is | rfl)
    (case l5 => first | k_is | rfl)
    (case c5 => first | k_is | rfl)
    (case k5 => first | k_is | rfl)
    (case a6 => first | k_is | rfl)
    (case l6 => first | k_is | rfl)
    (case c6 => first | k_is | rfl)
    (case k6 => first | k_is | rfl)
    (case a7 => first | k_is | rfl)
    (case l7 => first | k_is | rfl)
    (case c7 => first | k_is | rfl)
    (case k7 => first | k_is | rfl)
    (case a8 => first | k_is | rfl)
    (case l8 => first | k_is | rfl)
    (case c8 => first | k_is | rfl)
    (case k8 => first | k_is | rfl)
    (case a9 => first | k_is | rfl)
    (case l9 => first | k_is | rfl)
    (case c9 => first | k_is | rfl)
    (case k9 => first | k_is | rfl)
    (case a10 => first | k_is | rfl)
    (case l10 => first | k_is | rfl)
    (case c10 => first | k_is | rfl)
    (case k10 => first | k_is | rfl)
    (case a11 => first | k_is | rfl)
    (case l11 => first | k_is | rfl)
    (case c11 => first | k_is | rfl)
    (case k11 => first | k_is | rfl)
    (case a12 => first | k_is | rfl)
    (case l12 => first | k_is | rfl)
    (case c12 => first | k_is | rfl)
    (case k12 => first | k_is | rfl)
    (case a13 => first | k_is | rfl)
    (case l13 => first | k_is | rfl)
    (case c13 => first | k_is | rfl)
    (case k13 => first | k_is | rfl)
    (case a14 => first | k_is | rfl)
    (case l14 => first | k_is | rfl)
    (case c14 => first | k_is | rfl)
    (case k14 => first | k_is | rfl)
    (case a15 => first | k_is | rfl)
    (case l15 => first | k_is | rfl)
    (case c15 => first | k_is | rfl)
    (case k15 => first | k_is | rfl)
    (case a16 => first | k_is | rfl)
    (case l16 => first | k_is | rfl)
    (case c16 => first | k_is | rfl)
    (case k16 => first | k_is | rfl)
    (case b_isinstance => first | k_is | rfl)
    (case b_int => first | k_is | rfl)
    (case b_bool => first | k_is | rfl)
    (case b_str => first | k_is | rfl)
    (case b_tuple => first | k_is | rfl)
    (case b_list => first | k_is | rfl)
    (case b_len => first | k_is | rfl)
    (case b_all => first | k_is | rfl)
    (case b_zip => first | k_is | rfl)
    (case b_range => first | k_is | rfl)
    (case b_repr => first | k_is | rfl)
    (case mn => first | k_is | rfl)
    (case gP => first | k_is | rfl)
    (case eT_g => first | k_is | rfl)
    (case eT_xI => first | k_is | kx_is | rfl | decide +kernel)
    (case eT_xO => first | k_is | kx_is | rfl | decide +kernel)
    (case eT_sa => first | k_is | rfl)
    (case eT_ga => first | k_is | rfl)
    (case eT_gg => first | k_is | rfl)
    (case eT_nN => first | k_is | rfl)
    (case eT_iC => first | k_is | rfl)
    (case eT_tC => first | k_is | rfl)
    (case eT_kC => first | k_is | rfl)
    (case eT_eC => first | k_is | rfl)
    (case eT_ty => first | k_is | rfl)
    (case eT_hd => first | k_is | rfl)
    (case eT_l => first | k_is | rfl)
    (case eT_c => first | k_is | rfl)
    (case eT_ha => first | k_is | rfl)
    (case eT_hm => first | k_is | rfl)
    (case eT_sP => first | k_is | rfl)
    (case eB_g => first | k_is | rfl)
    (case eB_xI => first | k_is | kx_is | rfl | decide +kernel)
    (case eB_xO => first | k_is | kx_is | rfl | decide +kernel)
    (case eB_sa => first | k_is | rfl)
    (case eB_ga => first | k_is | rfl)
    (case eB_gg => first | k_is | rfl)
    (case eB_nN => first | k_is | rfl)
    (case eB_iC => first | k_is | rfl)
    (case eB_tC => first | k_is | rfl)
    (case eB_kC => first | k_is | rfl)
    (case eB_eC => first | k_is | rfl)
    (case eB_ty => first | k_is | rfl)
    (case eB_hd => first | k_is | rfl)
    (case eB_l => first | k_is | rfl)
    (case eB_c => first | k_is | rfl)
    (case eB_ha => first | k_is | rfl)
    (case eB_hm => first | k_is | rfl)
    (case eB_sP => first | k_is | rfl)
    (case hn => first | k_is | rfl)
    (case ht => first | k_is | rfl)
    (case p_e => first | k_is | rfl)
    (case p_h => first | k_is | rfl)
    (case p_t => first | k_is | rfl)
    (case kTT => first | k_is | rfl | decide +kernel)
    (case kTB => first | k_is | rfl | decide +kernel)
    (case kBT => first | k_is | rfl | decide +kernel)
    (case kBB => first | k_is | rfl | decide +kernel)
    (case tL_c => rfl)
    (case tL_l => first | k_is | rfl)
    (case tL_v => rfl)
    (case tL_n => first | k_is | rfl)
    (case tP_c => rfl)
    (case tP_l => first | k_is | rfl)
    (case tP_v => rfl)
    (case tP_n => first | k_is | rfl)
    (case tne => decide)
