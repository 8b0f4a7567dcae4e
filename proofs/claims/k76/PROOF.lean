import PyProof.Rows.All
import HandS.ForExc
import HandS.ForMost
import HandS.IsInst
import HandS.Style
import HandS.RaiseMore
import PyProof.ReprReads
import PyProof.ReprRoads
import HandS.Walk
import HandS.More
import HandS.Zip
import HandS.SetFor
import HandS.ExcIs
import HandS.ExcField
import KE.KExcInit
import KE.KExcIs
import HandS.Conv
import HandS.DictComp
import HandS.SortKw
import KE.KMinKey
import HandS.Wide
import HandS.OwnEq
import OpenK.AllK
import HandS.Strs
import HandS.TryMany
import HandS.Lambda
import PyProof.ListStr
import HandS.EndTab
import HandS.HeadHook3
import PySem.Challenge.RW_pullworks_k76_invalid_names_for_nets
set_option Elab.async false
set_option linter.all false
set_option maxRecDepth 100000
set_option maxHeartbeats 200000
/-! data of the drawn values, what is asked of their classes -/
namespace Pw
open PySem PySem.Spec PyProof.Rows L2
/-! ### data, with the empty dict -/
mutual
inductive Dv (K : PySem.W.Frag) (H : Hp) : V → PyData → Prop
  | non : Dv K H .non .none
  | bl (b : Bool) : Dv K H (.bl b) (.bool b)
  | int (i : Int) : Dv K H (.int i) (.int i)
  | str (x : Str) : Dv K H (.str x) (.str x)
  | lst {a : Addr} {xs : List V} {ds : List PyData} : H a = some (.lst xs) → xs.length ≤ 1000 → DvAll K H xs ds → Dv K H (.ref a) (.list ds)
  | tup {a : Addr} {xs : List V} {ds : List PyData} : H a = some (.tup xs) → xs.length ≤ 1000 → DvAll K H xs ds → Dv K H (.ref a) (.tuple ds)
  | dct {a : Addr} : H a = some (.dK []) → Dv K H (.ref a) (.dict [])
inductive DvAll (K : PySem.W.Frag) (H : Hp) : List V → List PyData → Prop
  | nil : DvAll K H [] []
  | cons {v : V} {vs : List V} {d : PyData} {ds : List PyData} : Dv K H v d → DvAll K H vs ds → DvAll K H (v :: vs) (d :: ds)
end
mutual
theorem Dv.same {K : PySem.W.Frag} {H H' : Hp} (e : Same H H') : ∀ {d : PyData} {v : V}, Dv K H v d → Dv K H' v d
  | .none, _, h => by cases h; exact .non
  | .bool _, _, h => by cases h; exact .bl _
  | .int _, _, h => by cases h; exact .int _
  | .str _, _, h => by cases h; exact .str _
  | .list ds, _, h => by
    cases h with
    | lst h1 hz h2 => exact .lst (e _ _ h1) hz (DvAll.same e h2)
  | .tuple ds, _, h => by
    cases h with
    | tup h1 hz h2 => exact .tup (e _ _ h1) hz (DvAll.same e h2)
  | .dict _, _, h => by
    cases h with
    | dct h1 => exact .dct (e _ _ h1)
theorem DvAll.same {K : PySem.W.Frag} {H H' : Hp} (e : Same H H') : ∀ {ds : List PyData} {vs : List V}, DvAll K H vs ds → DvAll K H' vs ds
  | [], _, h => by cases h; exact .nil
  | _ :: _, _, h => by
    cases h with
    | cons h1 h2 => exact .cons (Dv.same e h1) (DvAll.same e h2)
end
theorem DvAll.length {K : PySem.W.Frag} {H : Hp} : ∀ {ds : List PyData} {vs : List V}, DvAll K H vs ds → vs.length = ds.length
  | [], _, h => by cases h; rfl
  | _ :: _, _, h => by
    cases h with
    | cons h1 h2 =>
      rw [List.length_cons, List.length_cons, DvAll.length h2]
theorem DvAll.get {K : PySem.W.Frag} {H : Hp} : ∀ {ds : List PyData} {vs : List V} {i : Nat} {d : PyData}, DvAll K H vs ds → ds[i]? = some d → ∃ v, vs[i]? = some v ∧ Dv K H v d
  | [], _, _, _, h, e => by simp at e
  | _ :: _, _, 0, _, h, e => by
    cases h with
    | cons h1 h2 =>
      simp at e
      subst e
      exact ⟨_, rfl, h1⟩
  | _ :: _, _, i + 1, _, h, e => by
    cases h with
    | cons h1 h2 =>
      obtain ⟨v, e1, e2⟩ := DvAll.get (i := i) h2 (by simpa using e)
      exact ⟨v, by simpa using e1, e2⟩
theorem DvAll.getV {K : PySem.W.Frag} {H : Hp} : ∀ {ds : List PyData} {vs : List V} {i : Nat} {v : V}, DvAll K H vs ds → vs[i]? = some v → ∃ d, ds[i]? = some d ∧ Dv K H v d
  | _, [], _, _, h, e => by simp at e
  | _, _ :: _, 0, _, h, e => by
    cases h with
    | cons h1 h2 =>
      simp at e
      subst e
      exact ⟨_, rfl, h1⟩
  | _, _ :: _, i + 1, _, h, e => by
    cases h with
    | cons h1 h2 =>
      obtain ⟨v, e1, e2⟩ := DvAll.getV (i := i) h2 (by simpa using e)
      exact ⟨v, by simpa using e1, e2⟩
theorem DvAll.append {K : PySem.W.Frag} {H : Hp} : ∀ {ds es : List PyData} {vs ws : List V}, DvAll K H vs ds → DvAll K H ws es → DvAll K H (vs ++ ws) (ds ++ es)
  | [], _, _, _, h, q => by cases h; exact q
  | _ :: _, _, _, _, h, q => by
    cases h with
    | cons h1 h2 => exact .cons h1 (DvAll.append h2 q)
/-! ### the class of a datum -/
def tyName : PyData → String
  | .none => "NoneType"
  | .bool _ => "bool"
  | .int _ => "int"
  | .str _ => "str"
  | .list _ => "list"
  | .tuple _ => "tuple"
  | .dict _ => "dict"
theorem Dv.ty {K : PySem.W.Frag} {H : Hp} {v : V} {d : PyData} (h : Dv K H v d) : TyX K H v (.type (tyName d)) := by
  cases h with
  | non => exact .base .non
  | bl b => exact .base (.bl b)
  | int i => exact .base (.int i)
  | str x => exact .base (.str x)
  | lst e _ _ => exact .base (.lst e)
  | tup e _ _ => exact .base (.tup e)
  | dct e => exact .base (.dK e)
def isaB (T : String) (d : PyData) : Bool := (kitB (tyName d) T).getD false
def isInt : PyData → Bool
  | .int _ => true
  | _ => false
def isBool : PyData → Bool
  | .bool _ => true
  | _ => false
def isStr : PyData → Bool
  | .str _ => true
  | _ => false
def isTuple : PyData → Bool
  | .tuple _ => true
  | _ => false
def isList : PyData → Bool
  | .list _ => true
  | _ => false
def isIntB (d : PyData) : Bool := isInt d || isBool d
theorem isa_int (d : PyData) : kitB (tyName d) "int" = some (isIntB d) := by
  cases d
  · exact (by decide +kernel : kitB "NoneType" "int" = some false)
  · exact (by decide +kernel : kitB "bool" "int" = some true)
  · exact (by decide +kernel : kitB "int" "int" = some true)
  · exact (by decide +kernel : kitB "str" "int" = some false)
  · exact (by decide +kernel : kitB "list" "int" = some false)
  · exact (by decide +kernel : kitB "tuple" "int" = some false)
  · exact (by decide +kernel : kitB "dict" "int" = some false)
theorem isa_bool (d : PyData) : kitB (tyName d) "bool" = some (isBool d) := by
  cases d
  · exact (by decide +kernel : kitB "NoneType" "bool" = some false)
  · exact (by decide +kernel : kitB "bool" "bool" = some true)
  · exact (by decide +kernel : kitB "int" "bool" = some false)
  · exact (by decide +kernel : kitB "str" "bool" = some false)
  · exact (by decide +kernel : kitB "list" "bool" = some false)
  · exact (by decide +kernel : kitB "tuple" "bool" = some false)
  · exact (by decide +kernel : kitB "dict" "bool" = some false)
theorem isa_str (d : PyData) : kitB (tyName d) "str" = some (isStr d) := by
  cases d
  · exact (by decide +kernel : kitB "NoneType" "str" = some false)
  · exact (by decide +kernel : kitB "bool" "str" = some false)
  · exact (by decide +kernel : kitB "int" "str" = some false)
  · exact (by decide +kernel : kitB "str" "str" = some true)
  · exact (by decide +kernel : kitB "list" "str" = some false)
  · exact (by decide +kernel : kitB "tuple" "str" = some false)
  · exact (by decide +kernel : kitB "dict" "str" = some false)
theorem isa_tuple (d : PyData) : kitB (tyName d) "tuple" = some (isTuple d) := by
  cases d
  · exact (by decide +kernel : kitB "NoneType" "tuple" = some false)
  · exact (by decide +kernel : kitB "bool" "tuple" = some false)
  · exact (by decide +kernel : kitB "int" "tuple" = some false)
  · exact (by decide +kernel : kitB "str" "tuple" = some false)
  · exact (by decide +kernel : kitB "list" "tuple" = some false)
  · exact (by decide +kernel : kitB "tuple" "tuple" = some true)
  · exact (by decide +kernel : kitB "dict" "tuple" = some false)
theorem isa_list (d : PyData) : kitB (tyName d) "list" = some (isList d) := by
  cases d
  · exact (by decide +kernel : kitB "NoneType" "list" = some false)
  · exact (by decide +kernel : kitB "bool" "list" = some false)
  · exact (by decide +kernel : kitB "int" "list" = some false)
  · exact (by decide +kernel : kitB "str" "list" = some false)
  · exact (by decide +kernel : kitB "list" "list" = some true)
  · exact (by decide +kernel : kitB "tuple" "list" = some false)
  · exact (by decide +kernel : kitB "dict" "list" = some false)
/-- isinstance(x, T) of a datum -/
theorem isi_of {K : PySem.W.Frag} {H : Hp} {Q : VK} {v : V} {d : PyData} {T : String} {b : Bool} (h : Dv K H v d) (e : kitB (tyName d) T = some b) (q : Q (.bl b) H) : rIsi K [v, .ty T] H Q :=
  ⟨v, .ty T, _, _, b, rfl, .ty T, h.ty, kit_ty e, q⟩
/-! ### a def by its name: the promise goes with it -/
structure DefOk (P : Program) (w : World) (K : PySem.W.Frag) (mg : Str → Option Value) (base : Heap) (CX : CXT) (k : Nat) (x : Str) (ps : List Str) (sp : Sp) : Prop where
  ex : ∃ (f : Addr) (fd : FuncData), mg x = some (.ref f) ∧ PySem.W.keepIn K (.ref f) = true ∧ Binds K fd ps [] ∧ FnOk P w K mg base CX k f fd ps sp
theorem pe_def {X : Cx} {CX : CXT} {j k : Nat} {x : Str} {ps : List Str} {sp : Sp} {E : XK} {e : Expr} {es : List Expr} {p pos : Pos} {t : TA} (D : DefOk X.prog X.w X.K X.mg X.base CX j x ps sp) (hr : Room k X.A) (hx : Passes CX X E) (ha : PA X (e :: es) t) (hk : j ≤ k := by decide) (hg : Gl X x := by rfl)
    (hdb : (x == ("__debug__" : Str)) = false := by decide) (he : starEach (e :: es) X.env = (false, eval e X.env) :: starEach es X.env := by rfl) (hpl : (backTo pos (starEach es X.env)).any (·.1) = false := by rfl) :
    PE X (.Call (.Name x p) (e :: es) [] pos) (tCall sp [] E t) := by
  obtain ⟨f, fd, h1, h2, h3, h4⟩ := D.ex
  exact pe_call h4 (hr.mono hk) hg h1 h2 h3 .nil hx ha hdb he hpl
/-- the builtin isinstance -/
theorem pe_isi {X : Cx} {es : List Expr} {t : TA} {e : Expr} {p pos : Pos} (hm : X.mg "isinstance" = none) (ha : PA X (e :: es) t) (hg : Gl X "isinstance" := by rfl)
    (he : starEach (e :: es) X.env = (false, eval e X.env) :: starEach es X.env := by rfl) (hpl : (backTo pos (starEach es X.env)).any (·.1) = false := by rfl) :
    PE X (.Call (.Name "isinstance" p) (e :: es) [] pos) (tCB (rIsi X.K) t) :=
  pe_callB call_isi hg hm boot_isinstance ha (by decide) (by decide) he hpl
theorem same_upd {H : Hp} {p : Addr} {o : HO} (h : H p = none) : Same H (upd H p o) := fun b x e => by
  rw [upd_ne (ne_of_none e h)]
  exact e
end Pw
set_option maxHeartbeats 200000
/-! the program's own defs: what each hands back -/
namespace Pw
open PySem PySem.Spec PyProof.Rows L2
/-! ### the text -/
def topS (i : Nat) : Stmt := PySem.Challenge.pw_pullworks_k76_invalid_names_for_nets.main.body.getD i (.Pass ⟨0, 0, 0, 0⟩)
abbrev sInteger : Stmt := topS 7
abbrev sBetween : Stmt := topS 8
abbrev sParameter : Stmt := topS 9
abbrev sOneOf : Stmt := topS 13
-- not here: sPasses
-- not here: sHolds
abbrev sTest : Stmt := topS 16
abbrev sNegation : Stmt := topS 17
abbrev sPlain : Stmt := topS 18
abbrev sResidues : Stmt := topS 19
theorem scInteger : FnScope ["value"] ["value"] (defScope sInteger) := ⟨rfl, rfl, rfl, by decide +kernel, rfl, by decide +kernel, by decide +kernel⟩
theorem scBetween : FnScope ["value", "low", "high"] ["value", "low", "high"] (defScope sBetween) := ⟨rfl, rfl, rfl, by decide +kernel, rfl, by decide +kernel, by decide +kernel⟩
theorem scParameter : FnScope ["value"] ["value"] (defScope sParameter) := ⟨rfl, rfl, rfl, by decide +kernel, rfl, by decide +kernel, by decide +kernel⟩
theorem scOneOf : FnScope ["value", "words"] ["value", "words"] (defScope sOneOf) := ⟨rfl, rfl, rfl, by decide +kernel, rfl, by decide +kernel, by decide +kernel⟩
/-! ### a def of the text, by its name -/
structure Dfn (K : PySem.W.Frag) (mg : Str → Option Value) (x : Str) (st : Stmt) (ps : List Str) : Prop where
  ex : ∃ (f : Addr) (fd : FuncData), Fun K x x st f fd ∧ mg x = some (.ref f) ∧ Binds K fd ps []
theorem Dfn.ok {P : Program} {w : World} {K : PySem.W.Frag} {mg : Str → Option Value} {base : Heap} {CX : CXT} {k : Nat} {x : Str} {st : Stmt} {ps : List Str} {sp : Sp} (D : Dfn K mg x st ps)
    (h : ∀ f fd, Fun K x x st f fd → FnOk P w K mg base CX k f fd ps sp) : DefOk P w K mg base CX k x ps sp := by
  obtain ⟨f, fd, F, m, b⟩ := D.ex
  exact ⟨f, fd, m, F.kp, b, h f fd F⟩
/-- the built-ins that the program names are the built-ins -/
structure Blt (mg : Str → Option Value) : Prop where
  isi : mg "isinstance" = none
  int : mg "int" = none
  bool : mg "bool" = none
  str : mg "str" = none
  tuple : mg "tuple" = none
  list : mg "list" = none
  len : mg "len" = none
  all : mg "all" = none
  zip : mg "zip" = none
  range : mg "range" = none
  repr : mg "repr" = none
section
variable {P : Program} {w : World} {K : PySem.W.Frag} {mg : Str → Option Value} {base : Heap}
theorem pe_cls {X : Cx} {n : String} {p : Pos} (x : Str) (hm : X.mg x = none) (hg : Gl X x := by rfl) (hv : bootBuiltins x = some (.type n) := by decide +kernel) (hn : x ≠ "__name__" := by decide) (hdb : (x == ("__debug__" : Str)) = false := by decide) :
    PE X (.Name x p) (tC (.ty n)) := pe_bltn hg hm hv rfl hn hdb
theorem Qb {Q : VK} {H : Hp} {a b : Bool} (e : a = b) (q : Q (.bl b) H) : Q (.bl a) H := by
  rw [e]
  exact q
/-! ### is_integer -/
def spInteger (K : PySem.W.Frag) : Sp := fun vs H Q _ => ∃ x d, vs = [x] ∧ Dv K H x d ∧ Q (.bl (isInt d)) H
theorem fn_integer (B : Blt mg) (f : Addr) (fd : FuncData) (F : Fun K "is_integer" "is_integer" sInteger f fd) : FnOk P w K mg base CX0 1 f fd ["value"] (spInteger K) := by
  refine F.ok scInteger (fun vs H Q E h => ?_) (fun cdv A outer s H vs Q E hr h => ?_)
  · obtain ⟨x, d, rfl, _⟩ := h
    rfl
  · obtain ⟨x, d, rfl, hx, q⟩ := h
    refine ⟨_, pss_one (ps_ret (pe_and (pe_isi B.isi (pa_cons (pv 0) (pa_cons (pe_cls (n := "int") "int" B.int) pa_nil))) (pe_one (pe_not (pe_isi B.isi (pa_cons (pv 0) (pa_cons (pe_cls (n := "bool") "bool" B.bool) pa_nil))))))), ?_⟩
    refine ⟨x, rfl, _, _, _, _, _, rfl, .ty "int", hx.ty, kit_ty (isa_int d), _, rfl, ite2 (fun e => ?_) (fun e => ?_)⟩
    · refine ⟨x, rfl, _, _, _, _, _, rfl, .ty "bool", hx.ty, kit_ty (isa_bool d), _, rfl, ?_⟩
      have e2 : (!isBool d) = isInt d := by
        cases d <;> first | rfl | cases e
      exact Qb e2 q
    · have e2 : isInt d = false := by
        cases d <;> first | rfl | exact absurd rfl e
      rw [e2] at q
      exact q
theorem ok_integer (B : Blt mg) (D : Dfn K mg "is_integer" sInteger ["value"]) : DefOk P w K mg base CX0 1 "is_integer" ["value"] (spInteger K) := D.ok (fn_integer B)
/-! ### is_between -/
def between (d : PyData) (lo hi : Int) : Bool := match d with
  | .int i => decide (lo ≤ i) && decide (i ≤ hi)
  | _ => false
def spBetween (K : PySem.W.Frag) : Sp := fun vs H Q _ => ∃ x d lo hi, vs = [x, .int lo, .int hi] ∧ Dv K H x d ∧ Q (.bl (between d lo hi)) H
theorem ok_between (G : DefOk P w K mg base CX0 1 "is_integer" ["value"] (spInteger K)) (D : Dfn K mg "is_between" sBetween ["value", "low", "high"]) : DefOk P w K mg base CX0 2 "is_between" ["value", "low", "high"] (spBetween K) := D.ok fun f fd F => by
  refine F.ok scBetween (fun vs H Q E h => ?_) (fun cdv A outer s H vs Q E hr h => ?_)
  · obtain ⟨x, d, lo, hi, rfl, _⟩ := h
    rfl
  · obtain ⟨x, d, lo, hi, rfl, hx, q⟩ := h
    refine ⟨_, pss_one (ps_ret (pe_and (pe_def G hr pass0 (pa_cons (pv 0) pa_nil)) (pe_one (pe_chain op_le op_le (pv 1) (pv 0) (pv 2))))), ?_⟩
    refine ⟨x, rfl, x, d, rfl, hx, _, rfl, ite2 (fun e => ?_) (fun e => ?_)⟩
    · cases hx with
      | int i =>
        refine ⟨_, rfl, _, rfl, _, _, rfl, rfl, _, rfl, ite2 (fun e1 => ?_) (fun e1 => ?_)⟩
        · refine ⟨_, rfl, _, _, rfl, rfl, ?_⟩
          have z : decide (i ≤ hi) = between (.int i) lo hi := by
            show _ = (decide (lo ≤ i) && decide (i ≤ hi))
            rw [e1]
            rfl
          exact Qb z q
        · have z : false = between (.int i) lo hi := by
            show _ = (decide (lo ≤ i) && decide (i ≤ hi))
            rw [Bool.eq_false_iff.mpr e1]
            rfl
          exact Qb z q
      | _ => cases e
    · have z : between d lo hi = false := by
        cases d <;> first | rfl | exact absurd rfl e
      rw [z] at q
      exact q
/-! ### is_parameter -/
def isParam (d : PyData) : Bool := between d (-(10 ^ 30)) (10 ^ 30)
def spParameter (K : PySem.W.Frag) : Sp := fun vs H Q _ => ∃ x d, vs = [x] ∧ Dv K H x d ∧ Q (.bl (isParam d)) H
theorem ok_parameter (G : DefOk P w K mg base CX0 2 "is_between" ["value", "low", "high"] (spBetween K)) (D : Dfn K mg "is_parameter" sParameter ["value"]) : DefOk P w K mg base CX0 3 "is_parameter" ["value"] (spParameter K) := D.ok fun f fd F => by
  refine F.ok scParameter (fun vs H Q E h => ?_) (fun cdv A outer s H vs Q E hr h => ?_)
  · obtain ⟨x, d, rfl, _⟩ := h
    rfl
  · obtain ⟨x, d, rfl, hx, q⟩ := h
    refine ⟨_, pss_one (ps_ret (pe_def G hr pass0 (pa_cons (pv 0) (pa_cons (pe_un un_neg (pe_op op_pow pe_int pe_int)) (pa_cons (pe_op op_pow pe_int pe_int) pa_nil))))), ?_⟩
    exact ⟨x, rfl, _, _, rfl, rfl, ⟨by decide, by decide, by decide⟩, _, rfl, _, _, rfl, rfl, ⟨by decide, by decide, by decide⟩, x, d, _, _, rfl, hx, q⟩
/-! ### is_one_of -/
def oneOf (d : PyData) (ws : List Str) : Bool := match d with
  | .str s => decide (s ∈ ws)
  | _ => false
def spOneOf (K : PySem.W.Frag) : Sp := fun vs H Q _ => ∃ (x : V) (d : PyData) (wp : Addr) (ws : List Str), vs = [x, .ref wp] ∧ Dv K H x d ∧ SqT K H wp (ws.map V.str) ∧ Q (.bl (oneOf d ws)) H
theorem in_strs (s : Str) (ws : List Str) : inV (.str s) (ws.map V.str) = decide (s ∈ ws) := by
  unfold inV
  induction ws with
  | nil => rfl
  | cons a r ih =>
    rw [List.map_cons, List.any_cons, ih]
    show (a == s || decide (s ∈ r)) = decide (s ∈ a :: r)
    by_cases e : a = s
    · rw [beq_iff_eq.mpr e, e]
      simp
    · rw [beq_eq_false_iff_ne.mpr e]
      have e2 : ¬ s = a := fun z => e z.symm
      by_cases e3 : s ∈ r
      · simp [e3]
      · simp [e2, e3]
theorem flat_strs (ws : List Str) : (ws.map V.str).all flatV = true := by
  rw [List.all_eq_true]
  intro v hv
  obtain ⟨s, _, rfl⟩ := List.mem_map.mp hv
  rfl
theorem ok_oneOf (B : Blt mg) (D : Dfn K mg "is_one_of" sOneOf ["value", "words"]) : DefOk P w K mg base CX0 1 "is_one_of" ["value", "words"] (spOneOf K) := D.ok fun f fd F => by
  refine F.ok scOneOf (fun vs H Q E h => ?_) (fun cdv A outer s H vs Q E hr h => ?_)
  · obtain ⟨x, d, wp, ws, rfl, _⟩ := h
    rfl
  · obtain ⟨x, d, wp, ws, rfl, hx, hw, q⟩ := h
    refine ⟨_, pss_one (ps_ret (pe_and (pe_isi B.isi (pa_cons (pv 0) (pa_cons (pe_cls (n := "str") "str" B.str) pa_nil))) (pe_one (pe_cmpR op_in_seq (pv 0) (pv 1) (by rfl))))), ?_⟩
    refine ⟨x, rfl, _, _, _, _, _, rfl, .ty "str", hx.ty, kit_ty (isa_str d), _, rfl, ite2 (fun e => ?_) (fun e => ?_)⟩
    · cases hx with
      | str s =>
        refine ⟨_, rfl, _, rfl, wp, _, rfl, .inr hw, rfl, flat_strs ws, ?_⟩
        exact Qb (in_strs s ws) q
      | _ => cases e
    · have e2 : false = oneOf d ws := by
        cases d <;> first | rfl | exact absurd rfl e
      exact Qb e2 q
/-! ### is_negation -/
theorem scNegation : FnScope ["value"] ["value"] (defScope sNegation) := ⟨rfl, rfl, rfl, by decide +kernel, rfl, by decide +kernel, by decide +kernel⟩
def isNeg : PyData → Bool
  | .tuple [a, _] => oneOf a ["not"]
  | _ => false
def spNegation (K : PySem.W.Frag) : Sp := fun vs H Q _ => ∃ x d, vs = [x] ∧ Dv K H x d ∧ ∀ H', Same H H' → Q (.bl (isNeg d)) H'
theorem len2_iff {ds : List PyData} (h : ds.length = 2) : ∃ a b, ds = [a, b] := by
  match ds, h with
  | [a, b], _ => exact ⟨a, b, rfl⟩
theorem ok_negation (B : Blt mg) (G : DefOk P w K mg base CX0 1 "is_one_of" ["value", "words"] (spOneOf K)) (D : Dfn K mg "is_negation" sNegation ["value"]) : DefOk P w K mg base CX0 2 "is_negation" ["value"] (spNegation K) := D.ok fun f fd F => by
  refine F.ok scNegation (fun vs H Q E h => ?_) (fun cdv A outer s H vs Q E hr h => ?_)
  · obtain ⟨x, d, rfl, _⟩ := h
    rfl
  · obtain ⟨x, d, rfl, hx, q⟩ := h
    refine ⟨_, pss_one (ps_ret (pe_and (pe_isi B.isi (pa_cons (pv 0) (pa_cons (pe_cls (n := "tuple") "tuple" B.tuple) pa_nil)))
      (pe_and (pe_cmpR op_eq (pe_callB call_len_seq (by rfl) B.len PySem.boot_len (pa_cons (pv 0) pa_nil)) pe_int (nomark _))
        (pe_one (pe_def G hr pass0 (pa_cons (pe_ix ix_tup (pv 0) pe_int (fun _ _ => rfl)) (pa_cons (pe_tup (pa_cons pe_str pa_nil)) pa_nil))))))), ?_⟩
    refine ⟨x, rfl, _, _, _, _, _, rfl, .ty "tuple", hx.ty, kit_ty (isa_tuple d), _, rfl, ite2 (fun e => ?_) (fun e => ?_)⟩
    · cases hx with
      | @tup a xs ds ha hz hd =>
        have hl := hd.length
        refine ⟨.ref a, rfl, a, xs, rfl, .inr (SqT.of ha), rfl, _, rfl, ite2 (fun e1 => ?_) (fun e1 => ?_)⟩
        · have e2 : ds.length = 2 := by
            have z : (V.int xs.length) = V.int 2 := of_decide_eq_true e1
            injection z with z
            omega
          obtain ⟨d1, d2, rfl⟩ := len2_iff e2
          cases hd with
          | cons h1 h2 =>
            rename_i v1 vs1
            refine ⟨.ref a, rfl, a, _, _, _, rfl, rfl, SqT.of ha, atI_nat (j := 0) rfl, by show 1 ≤ sizeLine; decide, fun t ht => ?_⟩
            refine ⟨v1, d1, t, ["not"], rfl, h1.same (same_upd ht), SqT.of upd_same, ?_⟩
            exact q _ (same_upd ht)
        · have e2 : ds.length ≠ 2 := fun z => e1 (decide_eq_true (by rw [← hl] at z; rw [z] <;> rfl))
          have e3 : false = isNeg (.tuple ds) := by
            unfold isNeg
            split
            · rename_i h3
              injection h3 with h3
              subst h3
              exact absurd rfl e2
            · rfl
          exact Qb e3 (q _ (Same.refl _))
      | _ => cases e
    · have e2 : false = isNeg d := by
        cases d <;> first | rfl | exact absurd rfl e
      exact Qb e2 (q _ (Same.refl _))
end
end Pw
set_option maxHeartbeats 200000
/-! comprehensions over lists, and are_residues -/
namespace Pw
open PySem PySem.Spec PyProof.Rows L2
/-- [e for x in xs]: the items ys, one by one; what was tracked stays -/
theorem lc_map {K : PySem.W.Frag} {a : Addr} {xs ys : List V} {te : TE} {vs : List Nat} {j : Nat} {σ : L2.St} {H1 : Hp} {D : Addr} {Qd : Hp → Prop} (hS : SqL K H1 a xs) (nD : H1 D = none) (hl : ys.length = xs.length) (hz : xs.length < sizeLine)
    (hw : ∀ x, wipe ((wipe σ vs).set j (some x)) vs = wipe σ vs)
    (hs : ∀ (i : Nat) (x y : V) (H : Hp) (Q : VK), xs[i]? = some x → ys[i]? = some y → Same H1 H → (∀ H4, Same H H4 → Q y H4) → te ((wipe σ vs).set j (some x)) H Q)
    (hd : ∀ H, Same H1 H → H D = some (.lst ys) → Qd H) :
    ∃ W : Nat → Nat → Hp → Prop, (∃ m, W 0 m (upd H1 D (.lst []))) ∧ ∀ i m H, W i m H →
      ((Itl K a).stop i H ∧ Qd H) ∨ ((Itl K a).go i H ∧ ∃ Nx : Hp → Prop, (∀ H', Nx H' → ∃ m', m' < m ∧ W (i + 1) m' H') ∧ ∀ x H', (Itl K a).yld i H x H' → gName j x (wipe σ vs) H' fun σ2 H2 => wipe σ2 vs = wipe σ vs ∧ tYes σ2 H2 fun b H3 =>
        if b = true then te σ2 H3 fun y H4 => ∃ acc, H4 D = some (.lst acc) ∧ acc.length < sizeLine ∧ Nx (upd H4 D (.lst (acc ++ [y]))) else Nx H3) := by
  refine lc_list (K := K) (a := a) (xs := xs) (fun i H => Same H1 H ∧ H D = some (.lst (ys.take i))) ⟨same_upd nD, upd_same⟩ (fun i H hi p => p.1.seq hS) (fun i x H hx p => ?_) (fun H p => ?_)
  · obtain ⟨p1, p2⟩ := p
    refine ⟨hw x, ?_⟩
    show te _ _ _
    have hi : i < ys.length := by
      rw [hl]
      exact (List.getElem?_eq_some_iff.mp hx).1
    refine hs i x ys[i] H _ hx (List.getElem?_eq_getElem hi) p1 fun H4 s4 => ?_
    refine ⟨ys.take i, s4 _ _ p2, ?_, fun b o e => ?_, ?_⟩
    · rw [List.length_take]
      omega
    · rw [upd_ne (ne_of_none e nD)]
      exact s4 _ _ (p1 _ _ e)
    · rw [upd_same, List.take_add_one, List.getElem?_eq_getElem hi]
      rfl
  · obtain ⟨p1, p2⟩ := p
    rw [← hl, List.take_length] at p2
    exact hd H p1 p2
/-- [e for x, y in zip(xs, ys)] -/
theorem lc_zip {K : PySem.W.Frag} {a b : Addr} {xs xs' ys : List V} {te : TE} {vs : List Nat} {j j' : Nat} {σ : L2.St} {H1 : Hp} {D : Addr} {Qd : Hp → Prop} (hS : SqL K H1 a xs) (hS' : SqL K H1 b xs') (nD : H1 D = none) (hl : ys.length = min xs.length xs'.length) (hz : ys.length < sizeLine)
    (hw : ∀ x y, wipe (((wipe σ vs).set j (some x)).set j' (some y)) vs = wipe σ vs)
    (hs : ∀ (i : Nat) (x x' y : V) (H : Hp) (Q : VK), xs[i]? = some x → xs'[i]? = some x' → ys[i]? = some y → Same H1 H → (∀ H4, Same H H4 → Q y H4) → te (((wipe σ vs).set j (some x)).set j' (some x')) H Q)
    (hd : ∀ H, Same H1 H → H D = some (.lst ys) → Qd H) :
    ∃ W : Nat → Nat → Hp → Prop, (∃ m, W 0 m (upd H1 D (.lst []))) ∧ ∀ i m H, W i m H →
      ((Itz K a b).stop i H ∧ Qd H) ∨ ((Itz K a b).go i H ∧ ∃ Nx : Hp → Prop, (∀ H', Nx H' → ∃ m', m' < m ∧ W (i + 1) m' H') ∧ ∀ x H', (Itz K a b).yld i H x H' → gTup K 2 (gCons (gName j) (gCons (gName j') gNil)) x (wipe σ vs) H' fun σ2 H2 => wipe σ2 vs = wipe σ vs ∧ tYes σ2 H2 fun b H3 =>
        if b = true then te σ2 H3 fun y H4 => ∃ acc, H4 D = some (.lst acc) ∧ acc.length < sizeLine ∧ Nx (upd H4 D (.lst (acc ++ [y]))) else Nx H3) := by
  refine ⟨fun i m H => m = ys.length - i ∧ i ≤ ys.length ∧ Same H1 H ∧ H D = some (.lst (ys.take i)), ⟨ys.length, by simp, Nat.zero_le _, same_upd nD, upd_same⟩, ?_⟩
  rintro i m H ⟨rfl, hi, p1, p2⟩
  by_cases hlt : i < ys.length
  · have hx : i < xs.length := by omega
    have hy : i < xs'.length := by omega
    refine .inr ⟨⟨_, _, _, _, p1.seq hS, p1.seq hS', List.getElem?_eq_getElem hx, List.getElem?_eq_getElem hy⟩, fun H' => Same H1 H' ∧ H' D = some (.lst (ys.take (i + 1))), fun H' q => ⟨ys.length - (i + 1), by omega, rfl, hlt, q⟩, fun x H' y => ?_⟩
    obtain ⟨T, x1, x2, rfl, nT, rfl, f1, f2⟩ := y
    have e1 : x1 = xs[i] := Option.some.inj ((f1 _ (p1.seq hS)).symm.trans (List.getElem?_eq_getElem hx))
    have e2 : x2 = xs'[i] := Option.some.inj ((f2 _ (p1.seq hS')).symm.trans (List.getElem?_eq_getElem hy))
    subst e1 e2
    refine ⟨T, _, rfl, SqT.of upd_same, rfl, _, _, rfl, _, _, rfl, rfl, hw _ _, ?_⟩
    show te _ _ _
    have sT : Same H (upd H T (.tup [xs[i], xs'[i]])) := same_upd nT
    refine hs i _ _ ys[i] _ _ (List.getElem?_eq_getElem hx) (List.getElem?_eq_getElem hy) (List.getElem?_eq_getElem hlt) (p1.trans sT) fun H4 s4 => ?_
    refine ⟨ys.take i, s4 _ _ (sT _ _ p2), ?_, fun b o e => ?_, ?_⟩
    · rw [List.length_take]
      omega
    · rw [upd_ne (ne_of_none e nD)]
      exact s4 _ _ (sT _ _ (p1 _ _ e))
    · rw [upd_same, List.take_add_one, List.getElem?_eq_getElem hlt]
      rfl
  · have hie : i = ys.length := by omega
    subst hie
    rw [List.take_length] at p2
    refine .inl ⟨⟨_, _, p1.seq hS, p1.seq hS', ?_⟩, hd H p1 p2⟩
    omega
end Pw
set_option maxHeartbeats 200000
/-! are_residues, is_plain_test, is_test -/
namespace Pw
open PySem PySem.Spec PyProof.Rows L2
theorem scResidues : FnScope ["value", "modulus", "residue", "one", "other"] ["value", "modulus"] (defScope sResidues) := ⟨rfl, rfl, rfl, by decide +kernel, rfl, by decide +kernel, by decide +kernel⟩
/-- ascending, told of ints -/
def ascD : List PyData → Bool
  | .int a :: .int b :: r => decide (a < b) && ascD (.int b :: r)
  | _ => true
def residues (d : PyData) (m : Int) : Bool := match d with
  | .list ds => ds.all (fun e => between e 0 (m - 1)) && ascD ds
  | _ => false
theorem all_id (f : α → Bool) (ds : List α) : (ds.map f).all id = ds.all f := by
  induction ds with
  | nil => rfl
  | cons a r ih => rw [List.map_cons, List.all_cons, List.all_cons, ih]; rfl
/-- the pairs of neighbours -/
def ltPairs : List Int → List Bool
  | a :: b :: r => decide (a < b) :: ltPairs (b :: r)
  | _ => []
theorem ltPairs_len : ∀ ns : List Int, (ltPairs ns).length = ns.length - 1
  | [] => rfl
  | [_] => rfl
  | a :: b :: r => by
    show (ltPairs (b :: r)).length + 1 = _
    rw [ltPairs_len (b :: r)]
    simp
theorem ltPairs_get : ∀ (ns : List Int) (i : Nat) (x y : Int), ns[i]? = some x → ns[i + 1]? = some y → (ltPairs ns)[i]? = some (decide (x < y))
  | [], _, _, _, h, _ => by simp at h
  | [_], 0, _, _, _, h => by simp at h
  | [_], i + 1, _, _, h, _ => by simp at h
  | a :: b :: r, 0, x, y, h, h2 => by
    have e1 : a = x := Option.some.inj h
    have e2 : b = y := Option.some.inj h2
    rw [← e1, ← e2]
    rfl
  | a :: b :: r, i + 1, x, y, h, h2 => ltPairs_get (b :: r) i x y h h2
theorem ltPairs_all : ∀ ns : List Int, (ltPairs ns).all id = ascD (ns.map PyData.int)
  | [] => rfl
  | [_] => rfl
  | a :: b :: r => by
    show (decide (a < b) && (ltPairs (b :: r)).all id) = (decide (a < b) && ascD ((b :: r).map PyData.int))
    rw [ltPairs_all (b :: r)]
theorem ints_of {K : PySem.W.Frag} {H : Hp} {lo hi : Int} : ∀ {ds : List PyData} {vs : List V}, DvAll K H vs ds → ds.all (fun e => between e lo hi) = true → ∃ ns : List Int, ds = ns.map PyData.int ∧ vs = ns.map V.int
  | [], _, h, _ => by cases h; exact ⟨[], rfl, rfl⟩
  | d :: ds, _, h, e => by
    cases h with
    | cons h1 h2 =>
      rw [List.all_cons, Bool.and_eq_true] at e
      obtain ⟨ns, e1, e2⟩ := ints_of h2 e.2
      cases h1 with
      | int i => exact ⟨i :: ns, by rw [e1]; rfl, by rw [e2]; rfl⟩
      | _ => exact absurd e.1 Bool.false_ne_true
theorem cut1 (xs : List V) : cutV xs (some 1) none = xs.drop 1 := by
  unfold cutV
  rw [show HT.sIx xs.length 0 (some 1) = min 1 xs.length from HT.sIx_nat xs.length 0 1, HT.sIx_none]
  cases xs with
  | nil => rfl
  | cons x r =>
    rw [show min 1 (x :: r).length = 1 by
      rw [List.length_cons]
      omega]
    show (List.take ((x :: r).length - 1) r) = r
    rw [List.length_cons, Nat.add_sub_cancel]
    exact List.take_length
section
variable {P : Program} {w : World} {K : PySem.W.Frag} {mg : Str → Option Value} {base : Heap}
def spResidues (K : PySem.W.Frag) : Sp := fun vs H Q _ => ∃ (x : V) (d : PyData) (m : Int), vs = [x, .int m] ∧ Dv K H x d ∧ ∀ H', Same H H' → Q (.bl (residues d m)) H'
theorem ok_residues (B : Blt mg) (G : DefOk P w K mg base CX0 2 "is_between" ["value", "low", "high"] (spBetween K)) (D : Dfn K mg "are_residues" sResidues ["value", "modulus"]) : DefOk P w K mg base CX0 3 "are_residues" ["value", "modulus"] (spResidues K) := D.ok fun f fd F => by
  refine F.ok scResidues (fun vs H Q E h => ?_) (fun cdv A outer s H vs Q E hr h => ?_)
  · obtain ⟨x, d, m, rfl, _⟩ := h
    rfl
  · obtain ⟨x, d, m, rfl, hx, q⟩ := h
    refine ⟨_, pss_cons (ps_if (pt_not (pt_val (pe_isi B.isi (pa_cons (pv 0) (pa_cons (pe_cls (n := "list") "list" B.list) pa_nil))))) (pss_one (ps_ret pe_bl)) pss_nil)
      (pss_cons (ps_if (pt_not (pt_val (pe_callB (cr_all rfl) (by rfl) B.all (by decide +kernel) (pa_cons
          (pe_lc (own := [("residue", 2)]) (g := gName 2) (tt := tYes) rfl scResidues.nd (pi_list (pv 0)) (blkOk_by (N := ["value", "modulus", "residue", "one", "other"]) (sc := defScope sResidues) (by decide +kernel))
            (fun _ _ _ _ _ => pg_name (i := 2) scResidues.nd rfl (Or.inl rfl)) (fun _ _ _ _ _ => pts_nil)
            (fun _ _ _ _ _ => pe_def G hr pass0 (pa_cons (pv 2) (pa_cons pe_int (pa_cons (pe_op op_sub (pv 1) pe_int) pa_nil))))) pa_nil)))) (pss_one (ps_ret pe_bl)) pss_nil)
      (pss_one (ps_ret (pe_callB (cr_all rfl) (by rfl) B.all (by decide +kernel) (pa_cons
          (pe_lc (own := [("one", 3), ("other", 4)]) (g := gTup K 2 (gCons (gName 3) (gCons (gName 4) gNil))) (tt := tYes) rfl scResidues.nd (pi_zip (by rfl) B.zip (pa_cons (pv 0) (pa_cons (pe_slice sl_list (pv 0) (po_some pe_int) po_none) pa_nil))) (blkOk_by (N := ["value", "modulus", "residue", "one", "other"]) (sc := defScope sResidues) (by decide +kernel))
            (fun _ _ _ _ _ => pg_tup rfl (pgs_cons (pg_name (i := 3) scResidues.nd rfl (Or.inl rfl)) (pgs_cons (pg_name (i := 4) scResidues.nd rfl (Or.inl rfl)) pgs_nil))) (fun _ _ _ _ _ => pts_nil)
            (fun _ _ _ _ _ => pe_cmpR op_lt (pv 3) (pv 4) (nomark _))) pa_nil))))), ?_⟩
    refine ⟨x, rfl, _, _, _, _, _, rfl, .ty "list", hx.ty, kit_ty (isa_list d), _, rfl, ?_⟩
    cases hd : isList d with
    | false =>
      have z : residues d m = false := by
        cases d <;> first | rfl | cases hd
      rw [z] at q
      exact q _ (Same.refl _)
    | true =>
      cases hx with
      | @lst a xs ds ha hzz hds =>
        have hl := hds.length
        have hz : ds.length ≤ 1000 := by
          rw [← hl]
          exact hzz
        -- the first comprehension
        refine ⟨.ref a, rfl, a, rfl, ⟨_, SqL.of ha⟩, fun D1 nD1 => ?_⟩
        refine lc_map (ys := ds.map fun e => V.bl (between e 0 (m - 1))) (SqL.of ha) nD1 (by rw [List.length_map, hl]) (by rw [hl]; exact small1000 hz) (fun _ => rfl) (fun i v y H' Q' e1 e2 sm k => ?_) (fun H2 s2 eD => ?_)
        · obtain ⟨e, e3, e4⟩ := (hds.same sm).getV e1
          rw [List.getElem?_map, e3] at e2
          cases e2
          exact ⟨_, rfl, _, rfl, _, _, rfl, rfl, v, e, 0, m - 1, rfl, e4, k _ (Same.refl _)⟩
        · refine ⟨D1, ds.map fun e => between e 0 (m - 1), rfl, SqL.of (by rw [eD, List.map_map]; rfl), _, rfl, ?_⟩
          rw [all_id]
          cases ha1 : ds.all (fun e => between e 0 (m - 1)) with
          | false =>
            have z : residues (.list ds) m = false := by
              show (_ && _) = false
              rw [ha1]
              rfl
            rw [z] at q
            exact q _ s2
          | true =>
            obtain ⟨ns, rfl, rfl⟩ := ints_of hds ha1
            have ha2 := s2 _ _ ha
            rw [List.length_map] at hz
            refine ⟨.ref a, rfl, .ref a, rfl, _, rfl, a, _, rfl, SqL.of ha2, fun c nc => ?_⟩
            have sc := same_upd (o := HO.lst (cutV (ns.map V.int) (some 1) none)) nc
            have nca : a ≠ c := ne_of_none ha2 nc
            refine ⟨a, c, _, _, rfl, SqL.of (sc _ _ ha2), SqL.of upd_same, fun D2 nD2 => ?_⟩
            rw [cut1]
            have lz : (ltPairs ns).length = ns.length - 1 := ltPairs_len ns
            refine lc_zip (xs := ns.map V.int) (xs' := (ns.map V.int).drop 1) (ys := (ltPairs ns).map V.bl) (SqL.of (by rw [cut1] at sc; exact sc _ _ ha2)) (SqL.of upd_same) (by rw [cut1] at nD2; exact nD2)
              (by rw [List.length_map, List.length_drop, List.length_map, lz]; omega) (by rw [List.length_map, lz]; exact small1000 (by omega)) (fun _ _ => rfl) (fun i v v' y H' Q' e1 e2 e3 sm k => ?_) (fun H3 s3 eD3 => ?_)
            · rw [List.getElem?_map] at e1
              rw [List.getElem?_drop, List.getElem?_map] at e2
              obtain ⟨n1, g1, rfl⟩ := Option.map_eq_some_iff.mp e1
              obtain ⟨n2, g2, rfl⟩ := Option.map_eq_some_iff.mp e2
              rw [Nat.add_comm] at g2
              rw [List.getElem?_map, ltPairs_get ns i n1 n2 g1 g2] at e3
              cases e3
              exact ⟨_, rfl, _, rfl, _, _, rfl, rfl, k _ (Same.refl _)⟩
            · have z : residues (.list (ns.map PyData.int)) m = (ltPairs ns).all id := by
                show (_ && _) = _
                rw [ha1, ltPairs_all]
                rfl
              refine ⟨D2, ltPairs ns, rfl, SqL.of eD3, ?_⟩
              rw [← z]
              refine q _ ((s2.trans ?_).trans s3)
              rw [cut1] at sc
              exact sc
      | _ => cases hd
/-! ### is_plain_test -/
theorem scPlain : FnScope ["value"] ["value"] (defScope sPlain) := ⟨rfl, rfl, rfl, by decide +kernel, rfl, by decide +kernel, by decide +kernel⟩
def isPlain : PyData → Bool
  | .tuple [a, b] => oneOf a ["below", "from"] && isParam b
  | .tuple [a, .int m, c] => oneOf a ["mod"] && between (.int m) 1 100 && residues c m
  | _ => false
def spPlain (K : PySem.W.Frag) : Sp := fun vs H Q _ => ∃ (x : V) (d : PyData), vs = [x] ∧ Dv K H x d ∧ ∀ H', Same H H' → Q (.bl (isPlain d)) H'
theorem len3_iff {ds : List PyData} (h : ds.length = 3) : ∃ a b c, ds = [a, b, c] := by
  match ds, h with
  | [a, b, c], _ => exact ⟨a, b, c, rfl⟩
theorem int_len {n : Nat} {k : Nat} (h : decide (V.int (n : Int) = V.int (k : Int)) = true) : n = k := by
  have z := V.int.inj (of_decide_eq_true h)
  omega
theorem int_len_ne {n : Nat} {k : Nat} (h : ¬ decide (V.int (n : Int) = V.int (k : Int)) = true) : n ≠ k := fun z => h (decide_eq_true (by rw [z]))
theorem plain_other {ds : List PyData} (h2 : ds.length ≠ 2) (h3 : ds.length ≠ 3) : isPlain (.tuple ds) = false := by
  unfold isPlain
  split
  · rename_i e
    injection e with e
    subst e
    exact absurd rfl h2
  · rename_i e
    injection e with e
    subst e
    exact absurd rfl h3
  · rfl
theorem plain3 {a b c : PyData} (h : between b 1 100 = false) : isPlain (.tuple [a, b, c]) = false := by
  cases b with
  | int m =>
    show (_ && _ && _) = false
    rw [h]
    simp
  | _ => rfl
theorem ok_plain (B : Blt mg) (G1 : DefOk P w K mg base CX0 1 "is_one_of" ["value", "words"] (spOneOf K)) (G2 : DefOk P w K mg base CX0 3 "is_parameter" ["value"] (spParameter K)) (G3 : DefOk P w K mg base CX0 2 "is_between" ["value", "low", "high"] (spBetween K))
    (G4 : DefOk P w K mg base CX0 3 "are_residues" ["value", "modulus"] (spResidues K)) (D : Dfn K mg "is_plain_test" sPlain ["value"]) : DefOk P w K mg base CX0 4 "is_plain_test" ["value"] (spPlain K) := D.ok fun f fd F => by
  refine F.ok scPlain (fun vs H Q E h => ?_) (fun cdv A outer s H vs Q E hr h => ?_)
  · obtain ⟨x, d, rfl, _⟩ := h
    rfl
  · obtain ⟨x, d, rfl, hx, q⟩ := h
    refine ⟨_, pss_cons (ps_if (pt_not (pt_val (pe_isi B.isi (pa_cons (pv 0) (pa_cons (pe_cls (n := "tuple") "tuple" B.tuple) pa_nil))))) (pss_one (ps_ret pe_bl)) pss_nil)
      (pss_cons (ps_if (pt_cmpR op_eq (pe_callB call_len_seq (by rfl) B.len PySem.boot_len (pa_cons (pv 0) pa_nil)) pe_int (nomark _))
        (pss_one (ps_ret (pe_and (pe_def G1 hr pass0 (pa_cons (pe_ix ix_tup (pv 0) pe_int (fun _ _ => rfl)) (pa_cons (pe_tup (pa_cons pe_str (pa_cons pe_str pa_nil))) pa_nil)))
          (pe_one (pe_def G2 hr pass0 (pa_cons (pe_ix ix_tup (pv 0) pe_int (fun _ _ => rfl)) pa_nil)))))) pss_nil)
      (pss_cons (ps_if (pt_cmpR op_eq (pe_callB call_len_seq (by rfl) B.len PySem.boot_len (pa_cons (pv 0) pa_nil)) pe_int (nomark _))
        (pss_one (ps_ret (pe_and (pe_def G1 hr pass0 (pa_cons (pe_ix ix_tup (pv 0) pe_int (fun _ _ => rfl)) (pa_cons (pe_tup (pa_cons pe_str pa_nil)) pa_nil)))
          (pe_and (pe_def G3 hr pass0 (pa_cons (pe_ix ix_tup (pv 0) pe_int (fun _ _ => rfl)) (pa_cons pe_int (pa_cons pe_int pa_nil))))
            (pe_one (pe_def G4 hr pass0 (pa_cons (pe_ix ix_tup (pv 0) pe_int (fun _ _ => rfl)) (pa_cons (pe_ix ix_tup (pv 0) pe_int (fun _ _ => rfl)) pa_nil)))))))) pss_nil)
      (pss_one (ps_ret pe_bl)))), ?_⟩
    refine ⟨x, rfl, _, _, _, _, _, rfl, .ty "tuple", hx.ty, kit_ty (isa_tuple d), _, rfl, ?_⟩
    cases hd : isTuple d with
    | false =>
      have z : isPlain d = false := by
        cases d <;> first | rfl | cases hd
      rw [z] at q
      exact q _ (Same.refl _)
    | true =>
      cases hx with
      | @tup a xs ds ha hz hds =>
        have hl := hds.length
        refine ⟨.ref a, rfl, a, xs, rfl, .inr (SqT.of ha), rfl, _, rfl, ite2 (fun e => ?_) (fun e => ?_)⟩
        · have e2 : ds.length = 2 := hl.symm.trans (int_len e)
          obtain ⟨d1, d2, rfl⟩ := len2_iff e2
          cases hds with
          | cons h1 h2 =>
            cases h2 with
            | cons h2 h3 =>
              cases h3
              refine ⟨.ref a, rfl, a, _, _, _, rfl, rfl, SqT.of ha, atI_nat (j := 0) rfl, by show 2 ≤ sizeLine; decide, fun t ht => ?_⟩
              have s1 := same_upd (o := HO.tup [V.str "below", V.str "from"]) ht
              refine ⟨_, d1, t, ["below", "from"], rfl, h1.same s1, SqT.of upd_same, _, rfl, ite2 (fun e1 => ?_) (fun e1 => ?_)⟩
              · refine ⟨.ref a, rfl, a, _, _, _, rfl, rfl, SqT.of (s1 _ _ ha), atI_nat (j := 1) rfl, _, d2, rfl, h2.same s1, ?_⟩
                refine Qb ?_ (q _ s1)
                show _ = (_ && _)
                rw [e1]
                rfl
              · refine Qb ?_ (q _ s1)
                show _ = (_ && _)
                rw [Bool.eq_false_iff.mpr e1]
                rfl
        · have e2 : ds.length ≠ 2 := fun z => int_len_ne e (hl.trans z)
          refine ⟨.ref a, rfl, a, xs, rfl, .inr (SqT.of ha), rfl, _, rfl, ite2 (fun e => ?_) (fun e => ?_)⟩
          · have e3 : ds.length = 3 := hl.symm.trans (int_len e)
            obtain ⟨d1, d2, d3, rfl⟩ := len3_iff e3
            cases hds with
            | cons h1 h2 =>
              cases h2 with
              | cons h2 h3 =>
                cases h3 with
                | cons h3 h4 =>
                  cases h4
                  refine ⟨.ref a, rfl, a, _, _, _, rfl, rfl, SqT.of ha, atI_nat (j := 0) rfl, by show 1 ≤ sizeLine; decide, fun t ht => ?_⟩
                  have s1 := same_upd (o := HO.tup [V.str "mod"]) ht
                  refine ⟨_, d1, t, ["mod"], rfl, h1.same s1, SqT.of upd_same, _, rfl, ite2 (fun e1 => ?_) (fun e1 => ?_)⟩
                  · refine ⟨.ref a, rfl, a, _, _, _, rfl, rfl, SqT.of (s1 _ _ ha), atI_nat (j := 1) rfl, _, d2, 1, 100, rfl, h2.same s1, _, rfl, ite2 (fun e4 => ?_) (fun e4 => ?_)⟩
                    · cases h2 with
                      | int m =>
                        refine ⟨.ref a, rfl, a, _, _, _, rfl, rfl, SqT.of (s1 _ _ ha), atI_nat (j := 2) rfl, .ref a, rfl, a, _, _, _, rfl, rfl, SqT.of (s1 _ _ ha), atI_nat (j := 1) rfl, _, d3, m, rfl, h3.same s1, fun H' s2 => ?_⟩
                        refine Qb ?_ (q _ (s1.trans s2))
                        show _ = (_ && _ && _)
                        rw [e1, e4]
                        rfl
                      | _ => exact absurd e4 Bool.false_ne_true
                    · refine Qb ?_ (q _ s1)
                      exact (plain3 (Bool.eq_false_iff.mpr e4)).symm
                  · refine Qb ?_ (q _ s1)
                    cases d2 with
                    | int m =>
                      show _ = (_ && _ && _)
                      rw [Bool.eq_false_iff.mpr e1]
                      rfl
                    | _ => rfl
          · have e3 : ds.length ≠ 3 := fun z => int_len_ne e (hl.trans z)
            exact Qb (plain_other e2 e3).symm (q _ (Same.refl _))
      | _ => cases hd
end
end Pw
set_option maxHeartbeats 200000
/-! is_test, holds -/
namespace Pw
open PySem PySem.Spec PyProof.Rows L2
theorem scTest : FnScope ["value", "inner", "_"] ["value"] (defScope sTest) := ⟨rfl, rfl, rfl, by decide +kernel, rfl, by decide +kernel, by decide +kernel⟩
def unNot : Nat → PyData → PyData
  | 0, d => d
  | n + 1, .tuple [a, b] => if oneOf a ["not"] = true then unNot n b else .tuple [a, b]
  | _ + 1, d => d
def isTest (d : PyData) : Bool := isPlain (unNot 3 d)
theorem unNot_stop : ∀ (n : Nat) (d : PyData), isNeg d = false → unNot n d = d
  | 0, _, _ => rfl
  | n + 1, d, h => by
    unfold unNot
    split
    · rename_i e1 e2
      cases e2
    · rename_i a b e1
      have h' : oneOf a ["not"] = false := h
      rw [h', if_neg Bool.false_ne_true]
    · rfl
theorem isNeg_shape : ∀ {d : PyData}, isNeg d = true → ∃ a b, d = .tuple [a, b] ∧ oneOf a ["not"] = true := fun {d} h => by
  unfold isNeg at h
  split at h
  · exact ⟨_, _, rfl, h⟩
  · cases h
section
variable {P : Program} {w : World} {K : PySem.W.Frag} {mg : Str → Option Value} {base : Heap}
def spTest (K : PySem.W.Frag) : Sp := fun vs H Q _ => ∃ (x : V) (d : PyData), vs = [x] ∧ Dv K H x d ∧ ∀ H', Same H H' → Q (.bl (isTest d)) H'
theorem ok_test (B : Blt mg) {tm : Tok} (mN : mg "MOST_NOTS" = some (.int 3 tm)) (G1 : DefOk P w K mg base CX0 2 "is_negation" ["value"] (spNegation K)) (G2 : DefOk P w K mg base CX0 4 "is_plain_test" ["value"] (spPlain K))
    (D : Dfn K mg "is_test" sTest ["value"]) : DefOk P w K mg base CX0 5 "is_test" ["value"] (spTest K) := D.ok fun f fd F => by
  refine F.ok scTest (fun vs H Q E h => ?_) (fun cdv A outer s H vs Q E hr h => ?_)
  · obtain ⟨x, d, rfl, _⟩ := h
    rfl
  · obtain ⟨x, d, rfl, hx, q⟩ := h
    refine ⟨_, pss_cons (ps_set (i := 1) scTest.nd rfl (.inl rfl) (pv 0))
      (pss_cons (ps_for PassesOwn.never rfl (pi_range1 rfl B.range (pa_cons (pe_glob (v := .int 3) rfl mN ⟨_, rfl⟩) pa_nil)) (pg_name (i := 2) scTest.nd rfl (Or.inl rfl))
        (pss_cons (ps_if (pt_not (pt_val (pe_def G1 hr pass0 (pa_cons (pv 1) pa_nil)))) (pss_one ps_break) pss_nil)
        (pss_one (ps_set (i := 1) scTest.nd rfl (.inl rfl) (pe_ix ix_tup (pv 1) pe_int (fun _ _ => rfl))))))
      (pss_one (ps_ret (pe_def G2 hr pass0 (pa_cons (pv 1) pa_nil))))), ?_⟩
    refine ⟨x, rfl, 3, rfl, by decide, by decide, ?_⟩
    have fin : ∀ (y : V) (d' : PyData) (z : Option V) (H' : Hp), Same H H' → Dv K H' y d' → unNot 3 d = d' → ∃ v, ([some x, some y, z] : L2.St)[1]? = some (some v) ∧ spPlain K ([v] ++ []) H' Q E0 := fun y d' z H' sm hy e => by
      refine ⟨y, rfl, y, d', rfl, hy, fun H2 s2 => ?_⟩
      have e2 : isTest d = isPlain d' := by
        unfold isTest
        rw [e]
      rw [← e2]
      exact q _ (sm.trans s2)
    refine for_range (n := 3) (fun i σ H' => ∃ y d' z, σ = [some x, some y, z] ∧ Same H H' ∧ Dv K H' y d' ∧ unNot (3 - i) d' = unNot 3 d) ⟨x, d, none, rfl, Same.refl H, hx, rfl⟩ (fun i σ H' hi p => ?_) (fun σ H' p => ?_)
    · obtain ⟨y, d', z, rfl, sm, hy, e⟩ := p
      refine ⟨y, rfl, y, d', rfl, hy, fun H2 s2 => ⟨_, rfl, ?_⟩⟩
      cases hn : isNeg d' with
      | false =>
        rw [unNot_stop _ _ hn] at e
        exact fin y d' _ H2 (sm.trans s2) (hy.same s2) e.symm
      | true =>
        obtain ⟨a, b, rfl, ho⟩ := isNeg_shape hn
        cases hy with
        | @tup ad xs ds ha hz hds =>
          cases hds with
          | cons h1 h2 =>
            cases h2 with
            | cons h2 h3 =>
              cases h3
              rename_i v1 v2
              refine ⟨.ref ad, rfl, ad, _, _, v2, rfl, rfl, SqT.of (s2 _ _ ha), atI_nat (j := 1) rfl, v2, b, _, rfl, sm.trans s2, h2.same s2, ?_⟩
              rw [← e, show 3 - i = (3 - (i + 1)) + 1 by omega]
              show unNot (3 - (i + 1)) b = (if oneOf a ["not"] = true then unNot (3 - (i + 1)) b else .tuple [a, b])
              rw [if_pos ho]
    · obtain ⟨y, d', z, rfl, sm, hy, e⟩ := p
      exact fin y d' z H' sm hy e.symm
end
/-! ### tests as such -/
inductive Tst where
  | neg (t : Tst)
  | lt (v : Int)
  | ge (v : Int)
  | md (m : Int) (rs : List Int)
namespace Tst
def dat : Tst → PyData
  | neg t => .tuple [.str "not", t.dat]
  | lt v => .tuple [.str "below", .int v]
  | ge v => .tuple [.str "from", .int v]
  | md m rs => .tuple [.str "mod", .int m, .list (rs.map PyData.int)]
def holds : Tst → Int → Bool
  | neg t, i => !t.holds i
  | lt v, i => decide (i < v)
  | ge v, i => decide (i ≥ v)
  | md m rs, i => decide (i.fmod m ∈ rs)
def nots : Tst → Nat
  | neg t => t.nots + 1
  | _ => 0
def Ok : Tst → Prop
  | neg t => t.Ok
  | md m _ => m ≠ 0
  | _ => True
end Tst
theorem in_ints (k : Int) (ns : List Int) : inV (.int k) (ns.map V.int) = decide (k ∈ ns) := by
  unfold inV
  induction ns with
  | nil => rfl
  | cons a r ih =>
    rw [List.map_cons, List.any_cons, ih]
    show (a == k || decide (k ∈ r)) = decide (k ∈ a :: r)
    by_cases e : a = k
    · rw [beq_iff_eq.mpr e, e]
      simp
    · rw [beq_eq_false_iff_ne.mpr e]
      have e2 : ¬ k = a := fun z => e z.symm
      by_cases e3 : k ∈ r
      · simp [e3]
      · simp [e2, e3]
theorem flat_ints (ns : List Int) : (ns.map V.int).all flatV = true := by
  rw [List.all_eq_true]
  intro v hv
  obtain ⟨s, _, rfl⟩ := List.mem_map.mp hv
  rfl
theorem vals_ints {K : PySem.W.Frag} {H : Hp} : ∀ {ns : List Int} {vs : List V}, DvAll K H vs (ns.map PyData.int) → vs = ns.map V.int
  | [], _, h => by cases h; rfl
  | n :: ns, _, h => by
    cases h with
    | cons h1 h2 =>
      cases h1
      rw [vals_ints h2]
      rfl
end Pw
set_option maxHeartbeats 200000
/-! words, parts of a node -/
namespace Pw
open PySem PySem.Spec PyProof.Rows L2
/-! ### comprehensions, some items left out -/
theorem lc_filtW {J : It} {n : Nat} {G : Hp → Prop} {Y : Nat → Hp → V → Hp → Prop} (w : Walk J n G Y) {g : TG} {tt : TT} {te : TE} {vs : List Nat} {σ : L2.St} {H1 : Hp} {D : Addr} {Qd : Hp → Prop} (f : Nat → Option V) (nD : H1 D = none) (hz : n < sizeLine)
    (hG : ∀ H, Same H1 H → G H)
    (hs : ∀ i x H H' (Q : VK) (N : Hp → Prop), i < n → Same H1 H → Y i H x H' → (∀ y H4, f i = some y → Same H H4 → Q y H4) → (∀ H4, f i = none → Same H H4 → N H4) →
      g x (wipe σ vs) H' fun σ2 H2 => wipe σ2 vs = wipe σ vs ∧ tt σ2 H2 fun b H3 => if b = true then te σ2 H3 Q else N H3)
    (hd : ∀ H, Same H1 H → H D = some (.lst ((List.range n).filterMap f)) → Qd H) :
    ∃ W : Nat → Nat → Hp → Prop, (∃ m, W 0 m (upd H1 D (.lst []))) ∧ ∀ i m H, W i m H →
      (J.stop i H ∧ Qd H) ∨ (J.go i H ∧ ∃ Nx : Hp → Prop, (∀ H', Nx H' → ∃ m', m' < m ∧ W (i + 1) m' H') ∧ ∀ x H', J.yld i H x H' → g x (wipe σ vs) H' fun σ2 H2 => wipe σ2 vs = wipe σ vs ∧ tt σ2 H2 fun b H3 =>
        if b = true then te σ2 H3 fun y H4 => ∃ acc, H4 D = some (.lst acc) ∧ acc.length < sizeLine ∧ Nx (upd H4 D (.lst (acc ++ [y]))) else Nx H3) := by
  refine lc_it w (fun i H => Same H1 H ∧ H D = some (.lst ((List.range i).filterMap f))) ⟨same_upd nD, upd_same⟩ (fun i H _ p => hG H p.1) (fun i x H H' hi p y => ?_) (fun H p => hd H p.1 p.2)
  obtain ⟨p1, p2⟩ := p
  refine hs i x H H' _ _ hi p1 y (fun y H4 fy s4 => ?_) (fun H4 fy s4 => ?_)
  · refine ⟨_, s4 _ _ p2, Nat.lt_of_le_of_lt (List.length_filterMap_le _ _) (by rw [List.length_range]; omega), fun b o e => ?_, ?_⟩
    · rw [upd_ne (ne_of_none e nD)]
      exact s4 _ _ (p1 _ _ e)
    · rw [upd_same, List.range_succ, List.filterMap_append]
      simp only [List.filterMap_cons, fy, List.filterMap_nil]
  · refine ⟨p1.trans s4, ?_⟩
    rw [List.range_succ, List.filterMap_append]
    simp only [List.filterMap_cons, fy, List.filterMap_nil, List.append_nil]
    exact s4 _ _ p2
theorem range_get {α : Type} : ∀ (ys : List α), (List.range ys.length).filterMap (fun i => ys[i]?) = ys := fun ys => by
  induction ys with
  | nil => rfl
  | cons a r ih =>
    rw [List.length_cons, List.range_succ_eq_map, List.filterMap_cons]
    simp only [List.getElem?_cons_zero, List.filterMap_map, Function.comp_def, List.getElem?_cons_succ, ih]
theorem lc_mapW {J : It} {n : Nat} {G : Hp → Prop} {Y : Nat → Hp → V → Hp → Prop} (w : Walk J n G Y) {g : TG} {te : TE} {vs : List Nat} {σ : L2.St} {H1 : Hp} {D : Addr} {Qd : Hp → Prop} {ys : List V} (nD : H1 D = none) (hl : ys.length = n) (hz : n < sizeLine)
    (hG : ∀ H, Same H1 H → G H)
    (hs : ∀ i x y H H' (Q : VK), i < n → ys[i]? = some y → Same H1 H → Y i H x H' → (∀ H4, Same H H4 → Q y H4) → g x (wipe σ vs) H' fun σ2 H2 => wipe σ2 vs = wipe σ vs ∧ te σ2 H2 Q)
    (hd : ∀ H, Same H1 H → H D = some (.lst ys) → Qd H) :
    ∃ W : Nat → Nat → Hp → Prop, (∃ m, W 0 m (upd H1 D (.lst []))) ∧ ∀ i m H, W i m H →
      (J.stop i H ∧ Qd H) ∨ (J.go i H ∧ ∃ Nx : Hp → Prop, (∀ H', Nx H' → ∃ m', m' < m ∧ W (i + 1) m' H') ∧ ∀ x H', J.yld i H x H' → g x (wipe σ vs) H' fun σ2 H2 => wipe σ2 vs = wipe σ vs ∧ tYes σ2 H2 fun b H3 =>
        if b = true then te σ2 H3 fun y H4 => ∃ acc, H4 D = some (.lst acc) ∧ acc.length < sizeLine ∧ Nx (upd H4 D (.lst (acc ++ [y]))) else Nx H3) := by
  refine lc_filtW w (fun i => ys[i]?) nD hz hG (fun i x H H' Q N hi sm y h1 h2 => ?_) (fun H s e => hd H s (by rw [e, ← hl, range_get]))
  have hi' : i < ys.length := by omega
  exact hs i x ys[i] H H' Q hi (List.getElem?_eq_getElem hi') sm y fun H4 s4 => h1 _ _ (List.getElem?_eq_getElem hi') s4
/-! ### is_name -/
abbrev sName : Stmt := topS 12
theorem scName : FnScope ["value", "letter"] ["value"] (defScope sName) := ⟨rfl, rfl, rfl, by decide +kernel, rfl, by decide +kernel, by decide +kernel⟩
def aToZ (c : Nat) : Bool := decide (97 ≤ c) && decide (c ≤ 122)
def isName : PyData → Bool
  | .str s => decide (1 ≤ s.length) && decide (s.length ≤ 12) && s.cps.toList.all aToZ
  | _ => false
theorem one_lt (c d : Nat) : decide ((⟨#[c]⟩ : Str).cps.toList < (⟨#[d]⟩ : Str).cps.toList) = decide (c < d) := by
  show decide ([c] < [d]) = _
  by_cases h : c < d
  · rw [decide_eq_true h, decide_eq_true]
    exact List.Lex.rel h
  · rw [decide_eq_false h, decide_eq_false]
    intro z
    cases z with
    | rel h2 => exact h h2
    | cons h2 => cases h2
theorem cps_a : ("a" : Str) = ⟨#[97]⟩ := by decide +kernel
theorem cps_z : ("z" : Str) = ⟨#[122]⟩ := by decide +kernel
theorem lo_a (c : Nat) : (!decide ((⟨#[c]⟩ : Str).cps.toList < ("a" : Str).cps.toList)) = decide (97 ≤ c) := by
  rw [cps_a, one_lt]
  by_cases h : c < 97
  · rw [decide_eq_true h, decide_eq_false (by omega)]
    rfl
  · rw [decide_eq_false h, decide_eq_true (by omega)]
    rfl
theorem hi_z (c : Nat) : (!decide (("z" : Str).cps.toList < (⟨#[c]⟩ : Str).cps.toList)) = decide (c ≤ 122) := by
  rw [cps_z, one_lt]
  by_cases h : 122 < c
  · rw [decide_eq_true h, decide_eq_false (by omega)]
    rfl
  · rw [decide_eq_false h, decide_eq_true (by omega)]
    rfl
section
variable {P : Program} {w : World} {K : PySem.W.Frag} {mg : Str → Option Value} {base : Heap}
def spName (K : PySem.W.Frag) : Sp := fun vs H Q _ => ∃ x d, vs = [x] ∧ Dv K H x d ∧ (∀ z, d = .str z → z.length ≤ 1000) ∧ ∀ H', Same H H' → Q (.bl (isName d)) H'
theorem get_letters (z : Str) : ∀ (i : Nat) (y : V), (z.cps.toList.map fun c => V.bl (aToZ c))[i]? = some y → ∀ c, z.cps[i]? = some c → y = .bl (aToZ c) := fun i y h c hc => by
  rw [List.getElem?_map, Array.getElem?_toList, hc] at h
  cases h
  rfl
theorem ok_name (B : Blt mg) (D : Dfn K mg "is_name" sName ["value"]) : DefOk P w K mg base CX0 1 "is_name" ["value"] (spName K) := D.ok fun f fd F => by
  refine F.ok scName (fun vs H Q E h => ?_) (fun cdv A outer s H vs Q E hr h => ?_)
  · obtain ⟨x, d, rfl, _⟩ := h
    rfl
  · obtain ⟨x, d, rfl, hx, hz, q⟩ := h
    refine ⟨_, pss_cons (ps_if (PW.pt (pw_or (pt_not (pt_val (pe_isi B.isi (pa_cons (pv 0) (pa_cons (pe_cls (n := "str") "str" B.str) pa_nil)))))
        (pw_or1 (pt_not (pt_chain op_le op_le pe_int (pe_callB call_len_str (by rfl) B.len PySem.boot_len (pa_cons (pv 0) pa_nil)) pe_int))))) (pss_one (ps_ret pe_bl)) pss_nil)
      (pss_one (ps_ret (pe_callB (cr_all rfl) (by rfl) B.all (by decide +kernel) (pa_cons
          (pe_lc (own := [("letter", 1)]) (g := gName 1) (tt := tYes) rfl scName.nd (pi_str (pv 0)) (blkOk_by (N := ["value", "letter"]) (sc := defScope sName) (by decide +kernel))
            (fun _ _ _ _ _ => pg_name (i := 1) scName.nd rfl (Or.inl rfl)) (fun _ _ _ _ _ => pts_nil)
            (fun _ _ _ _ _ => pe_chain op_le_str op_le_str pe_str (pv 1) pe_str)) pa_nil)))), ?_⟩
    refine ⟨x, rfl, _, _, _, _, _, rfl, .ty "str", hx.ty, kit_ty (isa_str d), _, rfl, ?_⟩
    cases hd : isStr d with
    | false =>
      have z : isName d = false := by
        cases d <;> first | rfl | cases hd
      rw [z] at q
      exact q _ (Same.refl _)
    | true =>
      cases hx with
      | str z =>
        have hzz := hz z rfl
        refine ⟨_, rfl, _, rfl, Nat.le_trans hzz (by decide), _, _, rfl, rfl, _, rfl, ite2 (fun e1 => ?_) (fun e1 => ?_)⟩
        · refine ⟨_, _, rfl, rfl, _, rfl, ?_⟩
          cases e2 : decide ((z.length : Int) ≤ 12) with
          | false =>
            have z1 : isName (.str z) = false := by
              have z2 : decide (z.length ≤ 12) = false := decide_eq_false (by have := of_decide_eq_false e2; omega)
              show (_ && _ && _) = false
              rw [z2, Bool.and_false, Bool.false_and]
            rw [z1] at q
            exact q _ (Same.refl _)
          | true =>
            have z0 : decide (1 ≤ z.length) = true := decide_eq_true (by have := of_decide_eq_true e1; omega)
            have z2 : decide (z.length ≤ 12) = true := decide_eq_true (by have := of_decide_eq_true e2; omega)
            refine ⟨.str z, rfl, z, rfl, fun D1 nD1 => ?_⟩
            refine lc_mapW (ys := z.cps.toList.map fun c => V.bl (aToZ c)) walk_str nD1 (by rw [List.length_map, Array.length_toList]) (Nat.lt_of_le_of_lt hzz (by decide)) (fun _ _ => trivial) (fun i v y H' H'' Q' hi e3 sm yv k => ?_) (fun H2 s2 eD => ?_)
            · obtain ⟨rfl, c, hc, rfl⟩ := yv
              obtain rfl := get_letters z i y e3 c hc
              refine ⟨rfl, _, rfl, _, _, rfl, rfl, _, rfl, ?_⟩
              rw [lo_a]
              cases e5 : decide (97 ≤ c) with
              | false =>
                have z5 : aToZ c = false := by
                  show (_ && _) = false
                  rw [e5, Bool.false_and]
                rw [z5] at k
                exact k _ (Same.refl _)
              | true =>
                have z5 : aToZ c = decide (c ≤ 122) := by
                  show (_ && _) = _
                  rw [e5, Bool.true_and]
                rw [z5] at k
                refine ⟨_, _, rfl, rfl, ?_⟩
                rw [hi_z]
                exact k _ (Same.refl _)
            · refine ⟨D1, z.cps.toList.map aToZ, rfl, SqL.of (by rw [eD, List.map_map]; rfl), ?_⟩
              rw [all_id]
              have z3 : isName (.str z) = z.cps.toList.all aToZ := by
                show (_ && _ && _) = _
                rw [z0, z2]
                rfl
              rw [z3] at q
              exact q _ s2
        · have z1 : isName (.str z) = false := by
            have z2 : decide (1 ≤ z.length) = false := decide_eq_false (by intro z3; exact e1 (decide_eq_true (by omega)))
            show (_ && _ && _) = false
            rw [z2, Bool.false_and, Bool.false_and]
          rw [z1] at q
          exact ⟨_, rfl, q _ (Same.refl _)⟩
      | _ => cases hd
end
end Pw
set_option maxHeartbeats 200000
/-! lists of integers, products, the modulus of a test -/
namespace Pw
open PySem PySem.Spec PyProof.Rows L2
abbrev sIntegers : Stmt := topS 35
abbrev sProduct : Stmt := topS 53
abbrev sPower : Stmt := topS 10
abbrev sModulus : Stmt := topS 20
theorem scIntegers : FnScope ["value", "least", "most", "part"] ["value", "least", "most"] (defScope sIntegers) := ⟨rfl, rfl, rfl, by decide +kernel, rfl, by decide +kernel, by decide +kernel⟩
theorem scProduct : FnScope ["numbers", "result", "number"] ["numbers"] (defScope sProduct) := ⟨rfl, rfl, rfl, by decide +kernel, rfl, by decide +kernel, by decide +kernel⟩
theorem scPower : FnScope ["base", "exponent", "result", "_"] ["base", "exponent"] (defScope sPower) := ⟨rfl, rfl, rfl, by decide +kernel, rfl, by decide +kernel, by decide +kernel⟩
theorem scModulus : FnScope ["test"] ["test"] (defScope sModulus) := ⟨rfl, rfl, rfl, by decide +kernel, rfl, by decide +kernel, by decide +kernel⟩
def areInts (d : PyData) (lo hi : Int) : Bool := match d with
  | .list ds => decide (lo ≤ ds.length) && decide ((ds.length : Int) ≤ hi) && ds.all isParam
  | _ => false
section
variable {P : Program} {w : World} {K : PySem.W.Frag} {mg : Str → Option Value} {base : Heap}
/-! ### are_integers -/
def spInts (K : PySem.W.Frag) : Sp := fun vs H Q _ => ∃ x d lo hi, vs = [x, .int lo, .int hi] ∧ Dv K H x d ∧ ∀ H', Same H H' → Q (.bl (areInts d lo hi)) H'
theorem ok_integers (B : Blt mg) (G : DefOk P w K mg base CX0 3 "is_parameter" ["value"] (spParameter K)) (D : Dfn K mg "are_integers" sIntegers ["value", "least", "most"]) : DefOk P w K mg base CX0 4 "are_integers" ["value", "least", "most"] (spInts K) := D.ok fun f fd F => by
  refine F.ok scIntegers (fun vs H Q E h => ?_) (fun cdv A outer s H vs Q E hr h => ?_)
  · obtain ⟨x, d, lo, hi, rfl, _⟩ := h
    rfl
  · obtain ⟨x, d, lo, hi, rfl, hx, q⟩ := h
    refine ⟨_, pss_cons (ps_if (PW.pt (pw_or (pt_not (pt_val (pe_isi B.isi (pa_cons (pv 0) (pa_cons (pe_cls (n := "list") "list" B.list) pa_nil)))))
        (pw_or1 (pt_not (pt_chain op_le op_le (pv 1) (pe_callB call_len_seq (by rfl) B.len PySem.boot_len (pa_cons (pv 0) pa_nil)) (pv 2)))))) (pss_one (ps_ret pe_bl)) pss_nil)
      (pss_one (ps_ret (pe_callB (cr_all rfl) (by rfl) B.all (by decide +kernel) (pa_cons
          (pe_lc (own := [("part", 3)]) (g := gName 3) (tt := tYes) rfl scIntegers.nd (pi_list (pv 0)) (blkOk_by (N := ["value", "least", "most", "part"]) (sc := defScope sIntegers) (by decide +kernel))
            (fun _ _ _ _ _ => pg_name (i := 3) scIntegers.nd rfl (Or.inl rfl)) (fun _ _ _ _ _ => pts_nil)
            (fun _ _ _ _ _ => pe_def G hr pass0 (pa_cons (pv 3) pa_nil))) pa_nil)))), ?_⟩
    refine ⟨x, rfl, _, _, _, _, _, rfl, .ty "list", hx.ty, kit_ty (isa_list d), _, rfl, ?_⟩
    cases hd : isList d with
    | false =>
      have z : areInts d lo hi = false := by
        cases d <;> first | rfl | cases hd
      rw [z] at q
      exact q _ (Same.refl _)
    | true =>
      cases hx with
      | @lst a xs ds ha hzz hds =>
        have hl := hds.length
        refine ⟨_, rfl, .ref a, rfl, a, xs, rfl, .inl (SqL.of ha), _, _, rfl, rfl, _, rfl, ite2 (fun e1 => ?_) (fun e1 => ?_)⟩
        · refine ⟨_, rfl, _, _, rfl, rfl, _, rfl, ?_⟩
          cases e2 : decide ((xs.length : Int) ≤ hi) with
          | false =>
            have z1 : areInts (.list ds) lo hi = false := by
              show (_ && _ && _) = false
              rw [← hl, e2, Bool.and_false, Bool.false_and]
            rw [z1] at q
            exact q _ (Same.refl _)
          | true =>
            refine ⟨.ref a, rfl, a, rfl, ⟨_, SqL.of ha⟩, fun D1 nD1 => ?_⟩
            refine lc_mapW (ys := ds.map fun e => V.bl (isParam e)) walk_list nD1 (by rw [List.length_map, hl]) (Nat.lt_of_le_of_lt hzz (by decide)) (fun H s => SqL.of (s _ _ ha)) (fun i v y H' H'' Q' hi e3 sm yv k => ?_) (fun H2 s2 eD => ?_)
            · obtain ⟨rfl, hv⟩ := yv
              obtain ⟨e, e4, e5⟩ := (hds.same sm).getV hv
              rw [List.getElem?_map, e4] at e3
              cases e3
              exact ⟨rfl, v, rfl, v, e, rfl, e5, k _ (Same.refl _)⟩
            · refine ⟨D1, ds.map isParam, rfl, SqL.of (by rw [eD, List.map_map]; rfl), ?_⟩
              rw [all_id]
              have z3 : areInts (.list ds) lo hi = ds.all isParam := by
                show (_ && _ && _) = _
                rw [← hl, e1, e2]
                rfl
              rw [z3] at q
              exact q _ s2
        · have z1 : areInts (.list ds) lo hi = false := by
            show (_ && _ && _) = false
            rw [← hl, Bool.eq_false_iff.mpr e1, Bool.false_and, Bool.false_and]
          rw [z1] at q
          exact ⟨_, rfl, q _ (Same.refl _)⟩
      | _ => cases hd
/-! ### product_of -/
def prodI (ns : List Int) : Int := ns.foldl (fun a b => a * b) 1
def spProd (K : PySem.W.Frag) : Sp := fun vs H Q _ => ∃ (a : Addr) (ns : List Int), vs = [.ref a] ∧ SqL K H a (ns.map V.int) ∧ (∀ n ∈ ns, -(2 ^ 64) < n ∧ n < 2 ^ 64) ∧ Q (.int (prodI ns)) H
theorem ok_product (D : Dfn K mg "product_of" sProduct ["numbers"]) : DefOk P w K mg base CX0 1 "product_of" ["numbers"] (spProd K) := D.ok fun f fd F => by
  refine F.ok scProduct (fun vs H Q E h => ?_) (fun cdv A outer s H vs Q E hr h => ?_)
  · obtain ⟨a, ns, rfl, _⟩ := h
    rfl
  · obtain ⟨a, ns, rfl, ha, hb, q⟩ := h
    refine ⟨_, pss_cons (ps_set (i := 1) scProduct.nd rfl (.inl rfl) pe_int)
      (pss_cons (ps_for PassesOwn.never rfl (pi_list (pv 0)) (pg_name (i := 2) scProduct.nd rfl (Or.inl rfl)) (pss_one (ps_set (i := 1) scProduct.nd rfl (.inl rfl) (pe_op op_mul (pv 1) (pv 2)))))
      (pss_one (ps_ret (pv 1)))), ?_⟩
    refine ⟨_, rfl, a, rfl, ⟨_, ha⟩, ?_⟩
    refine for_it walk_list (fun i σ H' => ∃ z, σ = [some (.ref a), some (.int (prodI (ns.take i))), z] ∧ H' = H) ⟨none, rfl, rfl⟩ (fun i σ H' hi p => by obtain ⟨z, rfl, rfl⟩ := p; exact ha) (fun i x σ H' H'' hi p y => ?_) (fun σ H' p => ?_)
    · obtain ⟨z, rfl, rfl⟩ := p
      obtain ⟨rfl, hv⟩ := y
      rw [List.getElem?_map] at hv
      obtain ⟨n, hn, rfl⟩ := Option.map_eq_some_iff.mp hv
      refine ⟨_, rfl, _, rfl, _, _, rfl, rfl, .inr (hb n (List.mem_of_getElem? hn)), some (.int n), ?_, rfl⟩
      rw [List.take_add_one, hn]
      show _ = [_, some (V.int (prodI (ns.take i ++ [n]))), _]
      unfold prodI
      rw [List.foldl_append]
      rfl
    · obtain ⟨z, rfl, rfl⟩ := p
      refine ⟨_, rfl, ?_⟩
      rw [List.length_map, List.take_length]
      exact q
/-! ### power -/
def powI (b : Int) : Nat → Int
  | 0 => 1
  | n + 1 => powI b n * b
def spPower (K : PySem.W.Frag) : Sp := fun vs H Q _ => ∃ (b e : Int), vs = [.int b, .int e] ∧ 0 ≤ e ∧ e < 2 ^ 62 ∧ -(2 ^ 64) < b ∧ b < 2 ^ 64 ∧ Q (.int (powI b e.toNat)) H
theorem ok_power (B : Blt mg) (D : Dfn K mg "power" sPower ["base", "exponent"]) : DefOk P w K mg base CX0 1 "power" ["base", "exponent"] (spPower K) := D.ok fun f fd F => by
  refine F.ok scPower (fun vs H Q E h => ?_) (fun cdv A outer s H vs Q E hr h => ?_)
  · obtain ⟨b, e, rfl, _⟩ := h
    rfl
  · obtain ⟨b, e, rfl, h0, h1, h2, h3, q⟩ := h
    refine ⟨_, pss_cons (ps_set (i := 2) scPower.nd rfl (.inl rfl) pe_int)
      (pss_cons (ps_for PassesOwn.never rfl (pi_range1 rfl B.range (pa_cons (pv 1) pa_nil)) (pg_name (i := 3) scPower.nd rfl (Or.inl rfl)) (pss_one (ps_set (i := 2) scPower.nd rfl (.inl rfl) (pe_op op_mul (pv 2) (pv 0)))))
      (pss_one (ps_ret (pv 2)))), ?_⟩
    refine ⟨_, rfl, e, rfl, by omega, h1, ?_⟩
    refine for_range (n := e.toNat) (fun i σ H' => ∃ z, σ = [some (.int b), some (.int e), some (.int (powI b i)), z] ∧ H' = H) ⟨none, rfl, rfl⟩ (fun i σ H' hi p => ?_) (fun σ H' p => ?_)
    · obtain ⟨z, rfl, rfl⟩ := p
      exact ⟨_, rfl, _, rfl, _, _, rfl, rfl, .inr ⟨h2, h3⟩, _, rfl, rfl⟩
    · obtain ⟨z, rfl, rfl⟩ := p
      exact ⟨_, rfl, q⟩
/-! ### modulus_of -/
def modOf : Tst → Int
  | .neg t => modOf t
  | .md m _ => m
  | _ => 1
def spModulus (K : PySem.W.Frag) (n : Nat) : Sp := fun vs H Q _ => ∃ (x : V) (t : Tst), vs = [x] ∧ Dv K H x t.dat ∧ t.nots < n ∧ Q (.int (modOf t)) H
theorem ok_modulus (D : Dfn K mg "modulus_of" sModulus ["test"]) : ∀ n : Nat, DefOk P w K mg base CX0 n "modulus_of" ["test"] (spModulus K n)
  | 0 => D.ok fun f fd F => ⟨fun vs H Q E h => (by obtain ⟨_, _, _, _, z, _⟩ := h; exact absurd z (Nat.not_lt_zero _)), fun A outer s H args us vs Q E hr e0 hb hv h => (by obtain ⟨_, _, _, _, z, _⟩ := h; exact absurd z (Nat.not_lt_zero _))⟩
  | n + 1 => by
    have G := ok_modulus D n
    refine D.ok fun f fd F => ?_
    refine F.ok scModulus (fun vs H Q E h => ?_) (fun cdv A outer s H vs Q E hr h => ?_)
    · obtain ⟨x, t, rfl, _⟩ := h
      rfl
    · obtain ⟨x, t, rfl, hx, hn, q⟩ := h
      refine ⟨_, pss_cons (ps_if (pt_cmpR op_eq (pe_ix ix_tup (pv 0) pe_int (fun _ _ => rfl)) pe_str (nomark _)) (pss_one (ps_ret (pe_def G hr pass0 (pa_cons (pe_ix ix_tup (pv 0) pe_int (fun _ _ => rfl)) pa_nil) (Nat.le_refl _)))) pss_nil)
        (pss_cons (ps_if (pt_cmpR op_eq (pe_ix ix_tup (pv 0) pe_int (fun _ _ => rfl)) pe_str (nomark _)) (pss_one (ps_ret (pe_ix ix_tup (pv 0) pe_int (fun _ _ => rfl)))) pss_nil)
        (pss_one (ps_ret pe_int))), ?_⟩
      cases t with
      | neg t =>
        cases hx with
        | @tup a xs ds ha hz hds =>
          cases hds with
          | cons h1 h2 =>
            cases h1
            cases h2 with
            | cons h2 h3 =>
              cases h3
              refine ⟨.ref a, rfl, a, _, _, _, rfl, rfl, SqT.of ha, atI_nat (j := 0) rfl, rfl, _, rfl, ?_⟩
              exact ⟨.ref a, rfl, a, _, _, _, rfl, rfl, SqT.of ha, atI_nat (j := 1) rfl, _, t, rfl, h2, Nat.lt_of_succ_lt_succ hn, q⟩
      | lt v =>
        cases hx with
        | @tup a xs ds ha hz hds =>
          cases hds with
          | cons h1 h2 =>
            cases h1
            refine ⟨.ref a, rfl, a, _, _, _, rfl, rfl, SqT.of ha, atI_nat (j := 0) rfl, rfl, _, rfl, ?_⟩
            exact ⟨.ref a, rfl, a, _, _, _, rfl, rfl, SqT.of ha, atI_nat (j := 0) rfl, rfl, _, rfl, q⟩
      | ge v =>
        cases hx with
        | @tup a xs ds ha hz hds =>
          cases hds with
          | cons h1 h2 =>
            cases h1
            refine ⟨.ref a, rfl, a, _, _, _, rfl, rfl, SqT.of ha, atI_nat (j := 0) rfl, rfl, _, rfl, ?_⟩
            exact ⟨.ref a, rfl, a, _, _, _, rfl, rfl, SqT.of ha, atI_nat (j := 0) rfl, rfl, _, rfl, q⟩
      | md m rs =>
        cases hx with
        | @tup a xs ds ha hz hds =>
          cases hds with
          | cons h1 h2 =>
            cases h1
            cases h2 with
            | cons h2 h3 =>
              cases h2
              refine ⟨.ref a, rfl, a, _, _, _, rfl, rfl, SqT.of ha, atI_nat (j := 0) rfl, rfl, _, rfl, ?_⟩
              refine ⟨.ref a, rfl, a, _, _, _, rfl, rfl, SqT.of ha, atI_nat (j := 0) rfl, rfl, _, rfl, ?_⟩
              exact ⟨.ref a, rfl, a, _, _, _, rfl, rfl, SqT.of ha, atI_nat (j := 1) rfl, q⟩
end
end Pw
set_option maxHeartbeats 200000
/-! tables of the module; kinds, sorts, inputs -/
namespace Pw
open PySem PySem.Spec PyProof.Rows L2
/-! ### a table of the module: words to tuples -/
def TupK (K : PySem.W.Frag) (p : Addr) (xs : List V) : Prop :=
  ∃ (o : Obj) (its : Array Value) (n : Nat), K.lookup p = some o ∧ o.cls = .type "tuple" ∧ o.data = .seq its n ∧ its.size ≤ sizeLine ∧ Vals xs its.toList
theorem TupK.seq {K : PySem.W.Frag} {p : Addr} {xs : List V} (h : TupK K p xs) (H : Hp) : SqT K H p xs := .inr h
structure KTab (K : PySem.W.Frag) (w : World) (d : Addr) (T : Str → Option (List V)) : Prop where
  dict : ∃ es n, KDict K w d es n
  no : ∀ z, T z = none → PySem.W.nsIn K d z = some none
  yes : ∀ z xs, T z = some xs → ∃ p, PySem.W.nsIn K d z = some (some (.ref p)) ∧ TupK K p xs
section
variable {X : Cx} {d : Addr} {T : Str → Option (List V)}
theorem op_inTab (D : KTab X.K X.w d T) : OpR X (compareOp .In) (fun x y H Q => ∃ z, x = .str z ∧ y = .ref d ∧ Q (.bl (T z).isSome) H) := by
  obtain ⟨es, n, D'⟩ := D.dict
  intro pins s σ H x y u v Q I rx ry h
  obtain ⟨z, rfl, rfl, q⟩ := h
  refine op_in_kd D' pins s σ H _ _ u v Q I rx ry ?_
  cases e : T z with
  | none =>
    rw [e] at q
    exact ⟨z, none, rfl, rfl, D.no z e, q⟩
  | some xs =>
    rw [e] at q
    obtain ⟨p, e1, _⟩ := D.yes z xs e
    exact ⟨z, _, rfl, rfl, e1, q⟩
theorem ix_tab (D : KTab X.K X.w d T) : IxR X (fun x y H Q => ∃ z xs, x = .ref d ∧ y = .str z ∧ T z = some xs ∧ ∀ p, TupK X.K p xs → Q (.ref p) H) := by
  obtain ⟨es, n, D'⟩ := D.dict
  intro value slice pins s σ H x y v u Q I rx ry h hs
  obtain ⟨z, xs, rfl, rfl, e, q⟩ := h
  obtain ⟨p, e1, e2⟩ := D.yes z xs e
  exact ix_kdict value slice pins s σ H _ _ v u Q I rx ry ⟨d, z, .ref p, rfl, rfl, ⟨es, n, .ref p, D'.at_, D'.lit, e1, rfl⟩, q p e2⟩ hs
end
/-! ### the tables as the program writes them -/
def ranges : List (Str × Int × Int) := [("integer", -(10 ^ 30), 10 ^ 30), ("from 0", 0, 10 ^ 30), ("from 1", 1, 10 ^ 30), ("1 to 50", 1, 50), ("0 to 20", 0, 20)]
def lengths : List (Str × Int × Int) := [("integers", 0, 100), ("some integers", 1, 100)]
def choices : List (Str × List Str) := [("batch how", ["first", "last", "many", "sum"]), ("batch rest", ["give", "lose"]), ("calm word", ["stop", "skip"]), ("zip how", ["first", "last", "sum"])]
def kindsL : List (Str × List Str) := [("count", ["integer", "integer"]), ("span", ["integer", "integer", "from 0"]), ("ring", ["some integers"]), ("row", ["integers"]), ("scale", ["integer", "integer"]), ("table", ["some integers"]), ("keep", ["test"]), ("until", ["test"]), ("after", ["test"]), ("take", ["from 0"]), ("drop", ["from 0"]), ("step", ["from 1"]), ("batch", ["from 1", "batch how", "batch rest"]), ("pairs", []), ("heads", []), ("lengths", []), ("stutter", ["1 to 50"]), ("ahead", ["0 to 20"]), ("fault", ["from 0", "name"]), ("dying", []), ("calm", ["calm word"]), ("closing", ["name"]), ("split", []), ("chain", []), ("zip", ["zip how"]), ("longest", ["integer", "zip how"]), ("turns", []), ("choose", [])]
def twoT (l : List (Str × Int × Int)) (z : Str) : Option (List V) := (l.lookup z).map fun r => [.int r.1, .int r.2]
def wordT (l : List (Str × List Str)) (z : Str) : Option (List V) := (l.lookup z).map fun ws => ws.map V.str
abbrev sKind : Stmt := topS 32
abbrev sSort : Stmt := topS 34
theorem scKind : FnScope ["value"] ["value"] (defScope sKind) := ⟨rfl, rfl, rfl, by decide +kernel, rfl, by decide +kernel, by decide +kernel⟩
theorem scSort : FnScope ["sort", "value", "low", "high", "least", "most"] ["sort", "value"] (defScope sSort) := ⟨rfl, rfl, rfl, by decide +kernel, rfl, by decide +kernel, by decide +kernel⟩
def isKind : PyData → Bool
  | .str z => (kindsL.lookup z).isSome
  | _ => false
def ofSort (z : Str) (d : PyData) : Bool := match ranges.lookup z with
  | some r => between d r.1 r.2
  | none => match lengths.lookup z with
    | some r => areInts d r.1 r.2
    | none => match choices.lookup z with
      | some ws => oneOf d ws
      | none => if z = "test" then isTest d else isName d
section
variable {P : Program} {w : World} {K : PySem.W.Frag} {mg : Str → Option Value} {base : Heap} {dP dR dL dC : Addr}
/-- where the module keeps its tables -/
structure Tables (K : PySem.W.Frag) (w : World) (mg : Str → Option Value) (dP dR dL dC : Addr) : Prop where
  gP : mg "PARAMETERS" = some (.ref dP)
  gR : mg "RANGES" = some (.ref dR)
  gL : mg "LENGTHS" = some (.ref dL)
  gC : mg "CHOICES" = some (.ref dC)
  tP : KTab K w dP (wordT kindsL)
  tR : KTab K w dR (twoT ranges)
  tL : KTab K w dL (twoT lengths)
  tC : KTab K w dC (wordT choices)
/-! ### is_kind -/
def spKind (K : PySem.W.Frag) : Sp := fun vs H Q _ => ∃ x d, vs = [x] ∧ Dv K H x d ∧ Q (.bl (isKind d)) H
theorem ok_kind (B : Blt mg) (T : Tables K w mg dP dR dL dC) (D : Dfn K mg "is_kind" sKind ["value"]) : DefOk P w K mg base CX0 1 "is_kind" ["value"] (spKind K) := D.ok fun f fd F => by
  refine F.ok scKind (fun vs H Q E h => ?_) (fun cdv A outer s H vs Q E hr h => ?_)
  · obtain ⟨x, d, rfl, _⟩ := h
    rfl
  · obtain ⟨x, d, rfl, hx, q⟩ := h
    refine ⟨_, pss_one (ps_ret (pe_and (pe_isi B.isi (pa_cons (pv 0) (pa_cons (pe_cls (n := "str") "str" B.str) pa_nil))) (pe_one (pe_cmpR (op_inTab T.tP) (pv 0) (pe_glob (v := .ref dP) rfl T.gP rfl) (by rfl))))), ?_⟩
    refine ⟨x, rfl, _, _, _, _, _, rfl, .ty "str", hx.ty, kit_ty (isa_str d), _, rfl, ite2 (fun e => ?_) (fun e => ?_)⟩
    · cases hx with
      | str s =>
        refine ⟨_, rfl, s, rfl, rfl, ?_⟩
        refine Qb ?_ q
        show (Option.map _ _).isSome = (List.lookup s kindsL).isSome
        rw [Option.isSome_map]
      | _ => cases e
    · have e2 : false = isKind d := by
        cases d <;> first | rfl | exact absurd rfl e
      exact Qb e2 q
/-! ### is_of_sort -/
def spSort (K : PySem.W.Frag) : Sp := fun vs H Q _ => ∃ z x d, vs = [.str z, x] ∧ Dv K H x d ∧ (∀ s, d = .str s → s.length ≤ 1000) ∧ ∀ H', Same H H' → Q (.bl (ofSort z d)) H'
theorem ok_sort (B : Blt mg) (T : Tables K w mg dP dR dL dC) (G1 : DefOk P w K mg base CX0 2 "is_between" ["value", "low", "high"] (spBetween K)) (G2 : DefOk P w K mg base CX0 4 "are_integers" ["value", "least", "most"] (spInts K)) (G3 : DefOk P w K mg base CX0 1 "is_one_of" ["value", "words"] (spOneOf K))
    (G4 : DefOk P w K mg base CX0 5 "is_test" ["value"] (spTest K)) (G5 : DefOk P w K mg base CX0 1 "is_name" ["value"] (spName K))
    (D : Dfn K mg "is_of_sort" sSort ["sort", "value"]) : DefOk P w K mg base CX0 6 "is_of_sort" ["sort", "value"] (spSort K) := D.ok fun f fd F => by
  refine F.ok scSort (fun vs H Q E h => ?_) (fun cdv A outer s H vs Q E hr h => ?_)
  · obtain ⟨z, x, d, rfl, _⟩ := h
    rfl
  · obtain ⟨z, x, d, rfl, hx, hs, q⟩ := h
    have nd := scSort.nd
    refine ⟨_, pss_cons (ps_if (pt_cmpR (op_inTab T.tR) (pv 0) (pe_glob (v := .ref dR) rfl T.gR rfl) (by rfl))
        (pss_cons (ps_asg (pe_ix (ix_tab T.tR) (pe_glob (v := .ref dR) rfl T.gR rfl) (pv 0) (fun _ _ => rfl)) (pg_tup rfl (pgs_cons (pg_name (i := 2) nd rfl (Or.inl rfl)) (pgs_cons (pg_name (i := 3) nd rfl (Or.inl rfl)) pgs_nil))))
          (pss_one (ps_ret (pe_def G1 hr pass0 (pa_cons (pv 1) (pa_cons (pv 2) (pa_cons (pv 3) pa_nil))))))) pss_nil)
      (pss_cons (ps_if (pt_cmpR (op_inTab T.tL) (pv 0) (pe_glob (v := .ref dL) rfl T.gL rfl) (by rfl))
        (pss_cons (ps_asg (pe_ix (ix_tab T.tL) (pe_glob (v := .ref dL) rfl T.gL rfl) (pv 0) (fun _ _ => rfl)) (pg_tup rfl (pgs_cons (pg_name (i := 4) nd rfl (Or.inl rfl)) (pgs_cons (pg_name (i := 5) nd rfl (Or.inl rfl)) pgs_nil))))
          (pss_one (ps_ret (pe_def G2 hr pass0 (pa_cons (pv 1) (pa_cons (pv 4) (pa_cons (pv 5) pa_nil))))))) pss_nil)
      (pss_cons (ps_if (pt_cmpR (op_inTab T.tC) (pv 0) (pe_glob (v := .ref dC) rfl T.gC rfl) (by rfl))
        (pss_one (ps_ret (pe_def G3 hr pass0 (pa_cons (pv 1) (pa_cons (pe_ix (ix_tab T.tC) (pe_glob (v := .ref dC) rfl T.gC rfl) (pv 0) (fun _ _ => rfl)) pa_nil))))) pss_nil)
      (pss_cons (ps_if (pt_cmpR op_eq (pv 0) pe_str (nomark _)) (pss_one (ps_ret (pe_def G4 hr pass0 (pa_cons (pv 1) pa_nil)))) pss_nil)
      (pss_one (ps_ret (pe_def G5 hr pass0 (pa_cons (pv 1) pa_nil))))))), ?_⟩
    refine ⟨_, rfl, z, rfl, rfl, _, rfl, ?_⟩
    cases e1 : ranges.lookup z with
    | some r =>
      have t1 : twoT ranges z = some [.int r.1, .int r.2] := by
        unfold twoT
        rw [e1]
        rfl
      have o : ofSort z d = between d r.1 r.2 := by
        unfold ofSort
        rw [e1]
      rw [t1]
      rw [o] at q
      refine ⟨_, rfl, z, _, rfl, rfl, t1, fun p tp => ?_⟩
      refine ⟨p, _, rfl, tp.seq H, rfl, _, _, rfl, _, _, rfl, rfl, ?_⟩
      exact ⟨x, rfl, _, rfl, _, rfl, x, d, r.1, r.2, rfl, hx, q _ (Same.refl _)⟩
    | none =>
      have t1 : twoT ranges z = none := by
        unfold twoT
        rw [e1]
        rfl
      rw [t1]
      refine ⟨_, rfl, z, rfl, rfl, _, rfl, ?_⟩
      cases e2 : lengths.lookup z with
      | some r =>
        have t2 : twoT lengths z = some [.int r.1, .int r.2] := by
          unfold twoT
          rw [e2]
          rfl
        have o : ofSort z d = areInts d r.1 r.2 := by
          unfold ofSort
          rw [e1]
          dsimp only
          rw [e2]
        rw [t2]
        rw [o] at q
        refine ⟨_, rfl, z, _, rfl, rfl, t2, fun p tp => ?_⟩
        refine ⟨p, _, rfl, tp.seq H, rfl, _, _, rfl, _, _, rfl, rfl, ?_⟩
        exact ⟨x, rfl, _, rfl, _, rfl, x, d, r.1, r.2, rfl, hx, q⟩
      | none =>
        have t2 : twoT lengths z = none := by
          unfold twoT
          rw [e2]
          rfl
        rw [t2]
        refine ⟨_, rfl, z, rfl, rfl, _, rfl, ?_⟩
        cases e3 : choices.lookup z with
        | some ws =>
          have t3 : wordT choices z = some (ws.map V.str) := by
            unfold wordT
            rw [e3]
            rfl
          have o : ofSort z d = oneOf d ws := by
            unfold ofSort
            rw [e1]
            dsimp only
            rw [e2]
            dsimp only
            rw [e3]
          rw [t3]
          rw [o] at q
          exact ⟨x, rfl, _, rfl, z, _, rfl, rfl, t3, fun p tp => ⟨x, d, p, ws, rfl, hx, tp.seq H, q _ (Same.refl _)⟩⟩
        | none =>
          have t3 : wordT choices z = none := by
            unfold wordT
            rw [e3]
            rfl
          have o : ofSort z d = if z = "test" then isTest d else isName d := by
            unfold ofSort
            rw [e1]
            dsimp only
            rw [e2]
            dsimp only
            rw [e3]
          rw [t3]
          rw [o] at q
          refine ⟨_, rfl, rfl, _, rfl, ite2 (fun e4 => ?_) (fun e4 => ?_)⟩
          · have e5 : z = "test" := by
              have z1 : V.str z = V.str "test" := of_decide_eq_true e4
              injection z1
            rw [if_pos e5] at q
            exact ⟨x, rfl, x, d, rfl, hx, q⟩
          · have e5 : ¬ z = "test" := fun z1 => e4 (decide_eq_true (congrArg V.str z1))
            rw [if_neg e5] at q
            exact ⟨x, rfl, x, d, rfl, hx, hs, q⟩
end
end Pw
set_option maxHeartbeats 200000
/-! inputs and parameters of a node -/
namespace Pw
open PySem PySem.Spec PyProof.Rows L2
abbrev sInRange : Stmt := topS 37
abbrev sInputs : Stmt := topS 36
abbrev sParams : Stmt := topS 33
abbrev sNode : Stmt := topS 31
theorem scInRange : FnScope ["kind"] ["kind"] (defScope sInRange) := ⟨rfl, rfl, rfl, by decide +kernel, rfl, by decide +kernel, by decide +kernel⟩
theorem scInputs : FnScope ["kind", "value", "least", "most", "part"] ["kind", "value"] (defScope sInputs) := ⟨rfl, rfl, rfl, by decide +kernel, rfl, by decide +kernel, by decide +kernel⟩
theorem scParams : FnScope ["kind", "value", "sorts", "sort", "part"] ["kind", "value"] (defScope sParams) := ⟨rfl, rfl, rfl, by decide +kernel, rfl, by decide +kernel, by decide +kernel⟩
theorem scNode : FnScope ["value", "name", "kind", "parameters", "inputs"] ["value"] (defScope sNode) := ⟨rfl, rfl, rfl, by decide +kernel, rfl, by decide +kernel, by decide +kernel⟩
/-! ### texts that are not too long -/
mutual
def smB : PyData → Bool
  | .str s => decide (s.length ≤ 1000)
  | .list ds => smAll ds
  | .tuple ds => smAll ds
  | _ => true
def smAll : List PyData → Bool
  | [] => true
  | d :: ds => smB d && smAll ds
end
theorem sm_mem : ∀ {ds : List PyData}, smAll ds = true → ∀ d ∈ ds, smB d = true
  | d :: ds, h, e, he => by
    have h' : (smB d && smAll ds) = true := by
      rw [← h, smAll]
    rw [Bool.and_eq_true] at h'
    cases he with
    | head => exact h'.1
    | tail _ t => exact sm_mem h'.2 e t
theorem sm_str {s : Str} (h : smB (.str s) = true) : s.length ≤ 1000 := of_decide_eq_true (by rw [← h, smB])
theorem sm_word {d : PyData} (h : smB d = true) : ∀ s, d = .str s → s.length ≤ 1000 := fun s e => by
  subst e
  exact sm_str h
def sources : List Str := ["count", "span", "ring", "row"]
def joins : List Str := ["chain", "zip", "longest", "turns", "choose"]
def inRange (z : Str) : Int × Int := if z ∈ sources then (0, 0) else if z = "choose" then (2, 10) else if z ∈ joins then (1, 10) else (1, 1)
def areInputs (z : Str) (d : PyData) : Bool := match d with
  | .list ds => decide ((inRange z).1 ≤ ds.length) && decide ((ds.length : Int) ≤ (inRange z).2) && ds.all isName
  | _ => false
section
variable {P : Program} {w : World} {K : PySem.W.Frag} {mg : Str → Option Value} {base : Heap} {pS pJ : Addr}
structure Words (K : PySem.W.Frag) (mg : Str → Option Value) (pS pJ : Addr) : Prop where
  gS : mg "SOURCES" = some (.ref pS)
  gJ : mg "JOINS" = some (.ref pJ)
  gI : ∃ t, mg "MOST_INPUTS" = some (.int 10 t)
  tS : TupK K pS (sources.map V.str)
  tJ : TupK K pJ (joins.map V.str)
/-! ### input_range -/
def spInRange (K : PySem.W.Frag) : Sp := fun vs H Q _ => ∃ z, vs = [.str z] ∧ ∀ p, H p = none → Q (.ref p) (upd H p (.tup [.int (inRange z).1, .int (inRange z).2]))
theorem ok_inRange (W : Words K mg pS pJ) (D : Dfn K mg "input_range" sInRange ["kind"]) : DefOk P w K mg base CX0 1 "input_range" ["kind"] (spInRange K) := D.ok fun f fd F => by
  obtain ⟨ti, gI⟩ := W.gI
  refine F.ok scInRange (fun vs H Q E h => ?_) (fun cdv A outer s H vs Q E hr h => ?_)
  · obtain ⟨z, rfl, _⟩ := h
    rfl
  · obtain ⟨z, rfl, q⟩ := h
    refine ⟨_, pss_cons (ps_if (pt_cmpR op_in_seq (pv 0) (pe_glob (v := .ref pS) rfl W.gS rfl) (by rfl)) (pss_one (ps_ret (pe_tup (pa_cons pe_int (pa_cons pe_int pa_nil))))) pss_nil)
      (pss_cons (ps_if (pt_cmpR op_eq (pv 0) pe_str (nomark _)) (pss_one (ps_ret (pe_tup (pa_cons pe_int (pa_cons (pe_glob (v := .int 10) rfl gI ⟨_, rfl⟩) pa_nil))))) pss_nil)
      (pss_cons (ps_if (pt_cmpR op_in_seq (pv 0) (pe_glob (v := .ref pJ) rfl W.gJ rfl) (by rfl)) (pss_one (ps_ret (pe_tup (pa_cons pe_int (pa_cons (pe_glob (v := .int 10) rfl gI ⟨_, rfl⟩) pa_nil))))) pss_nil)
      (pss_one (ps_ret (pe_tup (pa_cons pe_int (pa_cons pe_int pa_nil))))))), ?_⟩
    refine ⟨_, rfl, pS, _, rfl, .inr (W.tS.seq H), rfl, flat_strs _, _, rfl, ite2 (fun e => ?_) (fun e => ?_)⟩
    · have e1 : z ∈ sources := of_decide_eq_true ((in_strs z sources).symm.trans e)
      have o : inRange z = (0, 0) := by
        unfold inRange
        rw [if_pos e1]
      rw [o] at q
      exact ⟨by decide, q⟩
    · have e1 : ¬ z ∈ sources := fun m => e ((in_strs z sources).trans (decide_eq_true m))
      refine ⟨_, rfl, rfl, _, rfl, ite2 (fun e2 => ?_) (fun e2 => ?_)⟩
      · have e3 : z = "choose" := by
          have z1 : V.str z = V.str "choose" := of_decide_eq_true e2
          injection z1
        have o : inRange z = (2, 10) := by
          unfold inRange
          rw [if_neg e1, if_pos e3]
        rw [o] at q
        exact ⟨by decide, q⟩
      · have e3 : ¬ z = "choose" := fun z1 => e2 (decide_eq_true (congrArg V.str z1))
        refine ⟨_, rfl, pJ, _, rfl, .inr (W.tJ.seq H), rfl, flat_strs _, _, rfl, ite2 (fun e4 => ?_) (fun e4 => ?_)⟩
        · have e5 : z ∈ joins := of_decide_eq_true ((in_strs z joins).symm.trans e4)
          have o : inRange z = (1, 10) := by
            unfold inRange
            rw [if_neg e1, if_neg e3, if_pos e5]
          rw [o] at q
          exact ⟨by decide, q⟩
        · have e5 : ¬ z ∈ joins := fun m => e4 ((in_strs z joins).trans (decide_eq_true m))
          have o : inRange z = (1, 1) := by
            unfold inRange
            rw [if_neg e1, if_neg e3, if_neg e5]
          rw [o] at q
          exact ⟨by decide, q⟩
/-! ### are_inputs -/
def spInputs (K : PySem.W.Frag) : Sp := fun vs H Q _ => ∃ z x d, vs = [.str z, x] ∧ Dv K H x d ∧ smB d = true ∧ ∀ H', Same H H' → Q (.bl (areInputs z d)) H'
theorem ok_inputs (B : Blt mg) (G1 : DefOk P w K mg base CX0 1 "input_range" ["kind"] (spInRange K)) (G2 : DefOk P w K mg base CX0 1 "is_name" ["value"] (spName K)) (D : Dfn K mg "are_inputs" sInputs ["kind", "value"]) : DefOk P w K mg base CX0 2 "are_inputs" ["kind", "value"] (spInputs K) := D.ok fun f fd F => by
  refine F.ok scInputs (fun vs H Q E h => ?_) (fun cdv A outer s H vs Q E hr h => ?_)
  · obtain ⟨z, x, d, rfl, _⟩ := h
    rfl
  · obtain ⟨z, x, d, rfl, hx, hs, q⟩ := h
    have nd := scInputs.nd
    refine ⟨_, pss_cons (ps_asg (pe_def G1 hr pass0 (pa_cons (pv 0) pa_nil)) (pg_tup rfl (pgs_cons (pg_name (i := 2) nd rfl (Or.inl rfl)) (pgs_cons (pg_name (i := 3) nd rfl (Or.inl rfl)) pgs_nil))))
      (pss_cons (ps_if (PW.pt (pw_or (pt_not (pt_val (pe_isi B.isi (pa_cons (pv 1) (pa_cons (pe_cls (n := "list") "list" B.list) pa_nil)))))
        (pw_or1 (pt_not (pt_chain op_le op_le (pv 2) (pe_callB call_len_seq (by rfl) B.len PySem.boot_len (pa_cons (pv 1) pa_nil)) (pv 3)))))) (pss_one (ps_ret pe_bl)) pss_nil)
      (pss_one (ps_ret (pe_callB (cr_all rfl) (by rfl) B.all (by decide +kernel) (pa_cons
          (pe_lc (own := [("part", 4)]) (g := gName 4) (tt := tYes) rfl nd (pi_list (pv 1)) (blkOk_by (N := ["kind", "value", "least", "most", "part"]) (sc := defScope sInputs) (by decide +kernel))
            (fun _ _ _ _ _ => pg_name (i := 4) nd rfl (Or.inl rfl)) (fun _ _ _ _ _ => pts_nil)
            (fun _ _ _ _ _ => pe_def G2 hr pass0 (pa_cons (pv 4) pa_nil))) pa_nil))))), ?_⟩
    refine ⟨_, rfl, z, rfl, fun T nT => ?_⟩
    have sT : Same H (upd H T (.tup [.int (inRange z).1, .int (inRange z).2])) := same_upd nT
    refine ⟨T, _, rfl, SqT.of upd_same, rfl, _, _, rfl, _, _, rfl, rfl, ?_⟩
    have hx' := hx.same sT
    refine ⟨x, rfl, _, _, _, _, _, rfl, .ty "list", hx'.ty, kit_ty (isa_list d), _, rfl, ?_⟩
    cases hd : isList d with
    | false =>
      have z : areInputs z d = false := by
        cases d <;> first | rfl | cases hd
      rw [z] at q
      exact q _ sT
    | true =>
      cases hx' with
      | @lst a xs ds ha hzz hds =>
        have hl := hds.length
        refine ⟨_, rfl, .ref a, rfl, a, xs, rfl, .inl (SqL.of ha), _, _, rfl, rfl, _, rfl, ite2 (fun e1 => ?_) (fun e1 => ?_)⟩
        · refine ⟨_, rfl, _, _, rfl, rfl, _, rfl, ?_⟩
          cases e2 : decide ((xs.length : Int) ≤ (inRange z).2) with
          | false =>
            have z1 : areInputs z (.list ds) = false := by
              show (_ && _ && _) = false
              rw [← hl, e2, Bool.and_false, Bool.false_and]
            rw [z1] at q
            exact q _ sT
          | true =>
            refine ⟨.ref a, rfl, a, rfl, ⟨_, SqL.of ha⟩, fun D1 nD1 => ?_⟩
            refine lc_mapW (ys := ds.map fun e => V.bl (isName e)) walk_list nD1 (by rw [List.length_map, hl]) (Nat.lt_of_le_of_lt hzz (by decide)) (fun H s => SqL.of (s _ _ ha)) (fun i v y H' H'' Q' hi e3 sm yv k => ?_) (fun H2 s2 eD => ?_)
            · obtain ⟨rfl, hv⟩ := yv
              obtain ⟨e, e4, e5⟩ := (hds.same sm).getV hv
              rw [List.getElem?_map, e4] at e3
              cases e3
              have sme : smB e = true := sm_mem (ds := ds) (by rw [← hs, smB]) e (List.mem_of_getElem? e4)
              exact ⟨rfl, v, rfl, v, e, rfl, e5, sm_word sme, k⟩
            · refine ⟨D1, ds.map isName, rfl, SqL.of (by rw [eD, List.map_map]; rfl), ?_⟩
              rw [all_id]
              have z3 : areInputs z (.list ds) = ds.all isName := by
                show (_ && _ && _) = _
                rw [← hl, e1, e2]
                rfl
              rw [z3] at q
              exact q _ (sT.trans s2)
        · have z1 : areInputs z (.list ds) = false := by
            show (_ && _ && _) = false
            rw [← hl, Bool.eq_false_iff.mpr e1, Bool.false_and, Bool.false_and]
          rw [z1] at q
          exact ⟨_, rfl, q _ sT⟩
      | _ => cases hd
end
end Pw
set_option maxHeartbeats 200000
/-! parameters of a node; a node -/
namespace Pw
open PySem PySem.Spec PyProof.Rows L2 RZ
theorem walk_zipT {K : PySem.W.Frag} {a b : Addr} {xs ys : List V} {n : Nat} (hn : n = min xs.length ys.length) : Walk (ItzT K a b) n (fun H => SqT K H a xs ∧ SqT K H b ys) (YPair (fun i => xs[i]?) (fun i => ys[i]?)) := by
  subst hn
  refine ⟨fun i H hi q => ?_, fun H q => ⟨xs, ys, q.1, q.2, by omega⟩, fun i H v H' hi q y => ?_⟩
  · have e1 : i < xs.length := by omega
    have e2 : i < ys.length := by omega
    exact ⟨xs, ys, xs[i], ys[i], q.1, q.2, List.getElem?_eq_getElem e1, List.getElem?_eq_getElem e2⟩
  · obtain ⟨T, u, v', rfl, nT, rfl, f1, f2⟩ := y
    exact ⟨T, u, v', rfl, nT, rfl, f1 xs q.1, f2 ys q.2⟩
def batchOk (z : Str) (ds : List PyData) : Bool := !decide (z = "batch") || (match ds with
  | .int n :: .str s :: _ => !decide (s = "sum") || decide (n ≤ 50)
  | _ => true)
def fits (ws : List Str) (ds : List PyData) : Bool := (ws.zip ds).all fun p => ofSort p.1 p.2
def areParams (z : Str) (d : PyData) : Bool := match kindsL.lookup z, d with
  | some ws, .tuple ds => decide (ds.length = ws.length) && (fits ws ds && batchOk z ds)
  | _, _ => false
theorem int_of {d : PyData} {lo hi : Int} (h : between d lo hi = true) : ∃ n, d = .int n := by
  cases d <;> first | exact ⟨_, rfl⟩ | cases h
theorem str_of {d : PyData} {ws : List Str} (h : oneOf d ws = true) : ∃ s, d = .str s := by
  cases d <;> first | exact ⟨_, rfl⟩ | cases h
theorem batch_shape {ds : List PyData} (hl : ds.length = 3) (h : fits ["from 1", "batch how", "batch rest"] ds = true) : ∃ n s e, ds = [.int n, .str s, e] := by
  match ds, hl with
  | [a, b, c], _ =>
    have h' : (ofSort "from 1" a && (ofSort "batch how" b && (ofSort "batch rest" c && true))) = true := h
    rw [Bool.and_eq_true, Bool.and_eq_true] at h'
    obtain ⟨h1, h2, _⟩ := h'
    obtain ⟨n, rfl⟩ := int_of (d := a) (lo := 1) (hi := 10 ^ 30) h1
    obtain ⟨s, rfl⟩ := str_of (d := b) (ws := ["first", "last", "many", "sum"]) h2
    exact ⟨n, s, c, rfl⟩
section
variable {P : Program} {w : World} {K : PySem.W.Frag} {mg : Str → Option Value} {base : Heap} {dP dR dL dC : Addr}
def spParams (K : PySem.W.Frag) : Sp := fun vs H Q _ => ∃ z x d ws, vs = [.str z, x] ∧ Dv K H x d ∧ smB d = true ∧ kindsL.lookup z = some ws ∧ ∀ H', Same H H' → Q (.bl (areParams z d)) H'
theorem ok_params (B : Blt mg) (T : Tables K w mg dP dR dL dC) {tm : Tok} (gM : mg "MOST_SUMMED" = some (.int 50 tm)) (G : DefOk P w K mg base CX0 6 "is_of_sort" ["sort", "value"] (spSort K))
    (D : Dfn K mg "are_parameters" sParams ["kind", "value"]) : DefOk P w K mg base CX0 7 "are_parameters" ["kind", "value"] (spParams K) := D.ok fun f fd F => by
  refine F.ok scParams (fun vs H Q E h => ?_) (fun cdv A outer s H vs Q E hr h => ?_)
  · obtain ⟨z, x, d, ws, rfl, _⟩ := h
    rfl
  · obtain ⟨z, x, d, ws, rfl, hx, hs, hk, q⟩ := h
    have nd := scParams.nd
    have t1 : wordT kindsL z = some (ws.map V.str) := by
      unfold wordT
      rw [hk]
      rfl
    refine ⟨_, pss_cons (ps_set (i := 2) nd rfl (.inl rfl) (pe_ix (ix_tab T.tP) (pe_glob (v := .ref dP) rfl T.gP rfl) (pv 0) (fun _ _ => rfl)))
      (pss_cons (ps_if (PW.pt (pw_or (pt_not (pt_val (pe_isi B.isi (pa_cons (pv 1) (pa_cons (pe_cls (n := "tuple") "tuple" B.tuple) pa_nil)))))
        (pw_or1 (pt_cmpR op_ne (pe_callB call_len_seq (by rfl) B.len PySem.boot_len (pa_cons (pv 1) pa_nil)) (pe_callB call_len_seq (by rfl) B.len PySem.boot_len (pa_cons (pv 2) pa_nil)) (nomark _))))) (pss_one (ps_ret pe_bl)) pss_nil)
      (pss_cons (ps_if (pt_not (pt_val (pe_callB (cr_all rfl) (by rfl) B.all (by decide +kernel) (pa_cons
          (pe_lc (own := [("sort", 3), ("part", 4)]) (g := gTup K 2 (gCons (gName 3) (gCons (gName 4) gNil))) (tt := tYes) rfl nd (pi_zipA (by rfl) B.zip (pa_cons (pv 2) (pa_cons (pv 1) pa_nil))) (blkOk_by (N := ["kind", "value", "sorts", "sort", "part"]) (sc := defScope sParams) (by decide +kernel))
            (fun _ _ _ _ _ => pg_tup rfl (pgs_cons (pg_name (i := 3) nd rfl (Or.inl rfl)) (pgs_cons (pg_name (i := 4) nd rfl (Or.inl rfl)) pgs_nil))) (fun _ _ _ _ _ => pts_nil)
            (fun _ _ _ _ _ => pe_def G hr pass0 (pa_cons (pv 3) (pa_cons (pv 4) pa_nil)))) pa_nil)))) (pss_one (ps_ret pe_bl)) pss_nil)
      (pss_one (ps_ret (pe_or (pe_cmpR op_ne (pv 0) pe_str (nomark _)) (pe_or (pe_cmpR op_ne (pe_ix ix_tup (pv 1) pe_int (fun _ _ => rfl)) pe_str (nomark _)) (pe_one (pe_cmpR op_le (pe_ix ix_tup (pv 1) pe_int (fun _ _ => rfl)) (pe_glob (v := .int 50) rfl gM ⟨_, rfl⟩) (nomark _))))))))), ?_⟩
    refine ⟨_, rfl, z, _, rfl, rfl, t1, fun p tp => ?_⟩
    refine ⟨x, rfl, _, _, _, _, _, rfl, .ty "tuple", hx.ty, kit_ty (isa_tuple d), _, rfl, ?_⟩
    cases hd : isTuple d with
    | false =>
      have z : areParams z d = false := by
        unfold areParams
        rw [hk]
        cases d <;> first | rfl | cases hd
      rw [z] at q
      exact q _ (Same.refl _)
    | true =>
      cases hx with
      | @tup a xs ds ha hzz hds =>
        have hl := hds.length
        refine ⟨.ref a, rfl, a, xs, rfl, .inr (SqT.of ha), .ref p, rfl, p, _, rfl, .inr (tp.seq H), rfl, _, rfl, ?_⟩
        have hap : areParams z (.tuple ds) = (decide (ds.length = ws.length) && (fits ws ds && batchOk z ds)) := by
          unfold areParams
          rw [hk]
        refine ite2 (fun e1 => ?_) (fun e1 => ?_)
        · have ne : ¬ ds.length = ws.length := fun e2 => by
            have e3 : V.int (xs.length : Nat) = V.int ((ws.map V.str).length : Nat) := by
              rw [hl, e2, List.length_map]
            rw [decide_eq_true e3] at e1
            cases e1
          rw [hap, decide_eq_false ne] at q
          exact q _ (Same.refl _)
        · have le : ds.length = ws.length := by
            have e3 : V.int (xs.length : Nat) = V.int ((ws.map V.str).length : Nat) := by
              by_cases e4 : V.int (xs.length : Nat) = V.int ((ws.map V.str).length : Nat)
              · exact e4
              · rw [decide_eq_false e4] at e1
                exact absurd rfl e1
            injection e3 with e3
            rw [List.length_map] at e3
            omega
          rw [hap, decide_eq_true le, Bool.true_and] at q
          refine ⟨.ref p, rfl, .ref a, rfl, p, a, _, _, rfl, .inr ⟨tp.seq H, SqT.of ha, fun D1 nD1 => ?_⟩⟩
          refine lc_mapW (n := ws.length) (ys := (ws.zip ds).map fun e => V.bl (ofSort e.1 e.2)) (walk_zipT (xs := ws.map V.str) (ys := xs) (by rw [List.length_map]; omega)) nD1 (by rw [List.length_map, List.length_zip]; omega) (Nat.lt_of_le_of_lt (by omega : ws.length ≤ 1000) (by decide)) (fun H s => ⟨tp.seq H, SqT.of (s _ _ ha)⟩) (fun i v y H' H'' Q' hi e3 sm yv k => ?_) (fun H2 s2 eD => ?_)
          · obtain ⟨T', x1, x2, rfl, nT, rfl, f1, f2⟩ := yv
            obtain ⟨e, e4, e5⟩ := (hds.same sm).getV f2
            have hi' : i < ws.length := hi
            have f3 : ws[i]? = some ws[i] := List.getElem?_eq_getElem hi'
            have f1 : (ws.map V.str)[i]? = some x1 := f1
            rw [List.getElem?_map, f3] at f1
            cases f1
            have f4 : (ws.zip ds)[i]? = some (ws[i], e) := by
              rw [List.getElem?_zip_eq_some]
              exact ⟨f3, e4⟩
            rw [List.getElem?_map, f4] at e3
            cases e3
            have sT := same_upd (o := .tup [V.str ws[i], x2]) nT
            have sme : smB e = true := sm_mem (ds := ds) (by rw [← hs, smB]) e (List.mem_of_getElem? e4)
            refine ⟨T', _, rfl, SqT.of upd_same, rfl, _, _, rfl, _, _, rfl, rfl, rfl, ?_⟩
            exact ⟨_, rfl, _, rfl, ws[i], x2, e, rfl, e5.same sT, sm_word sme, fun H4 s4 => k _ (sT.trans s4)⟩
          · refine ⟨D1, (ws.zip ds).map fun e => ofSort e.1 e.2, rfl, SqL.of (by rw [eD, List.map_map]; rfl), _, rfl, ?_⟩
            rw [all_id]
            show ite ((!fits ws ds) = true) _ _
            cases hf : fits ws ds with
            | false =>
              rw [hf, Bool.false_and] at q
              exact q _ s2
            | true =>
              rw [hf, Bool.true_and] at q
              refine ⟨_, rfl, rfl, _, rfl, ite2 (fun e5 => ?_) (fun e5 => ?_)⟩
              · have o : batchOk z ds = true := by
                  have e6 : ¬ z = "batch" := fun e7 => by
                    rw [decide_eq_true (congrArg V.str e7)] at e5
                    cases e5
                  unfold batchOk
                  rw [decide_eq_false e6]
                  rfl
                rw [o] at q
                exact q _ s2
              · have e6 : z = "batch" := by
                  by_cases e7 : V.str z = V.str "batch"
                  · injection e7
                  · rw [decide_eq_false e7] at e5
                    exact absurd rfl e5
                subst e6
                have ew : ws = [("from 1" : Str), ("batch how" : Str), ("batch rest" : Str)] := by
                  have e7 : List.lookup ("batch" : Str) kindsL = some [("from 1" : Str), ("batch how" : Str), ("batch rest" : Str)] := by decide +kernel
                  exact Option.some.inj (hk.symm.trans e7)
                subst ew
                obtain ⟨n, t, e, rfl⟩ := batch_shape le hf
                cases hds with
                | cons h1 hds =>
                  cases h1
                  cases hds with
                  | cons h2 hds =>
                    cases h2
                    have ha2 := s2 _ _ ha
                    have o : batchOk "batch" [.int n, .str t, e] = (!decide (t = "sum") || decide (n ≤ 50)) := rfl
                    rw [o] at q
                    refine ⟨.ref a, rfl, a, _, _, _, rfl, rfl, SqT.of ha2, atI_nat (j := 1) rfl, rfl, _, rfl, ite2 (fun e7 => ?_) (fun e7 => ?_)⟩
                    · have e8 : ¬ t = "sum" := fun e9 => by
                        rw [decide_eq_true (congrArg V.str e9)] at e7
                        cases e7
                      rw [decide_eq_false e8] at q
                      exact q _ s2
                    · have e8 : t = "sum" := by
                        by_cases e9 : V.str t = V.str "sum"
                        · injection e9
                        · rw [decide_eq_false e9] at e7
                          exact absurd rfl e7
                      rw [decide_eq_true e8] at q
                      exact ⟨.ref a, rfl, a, _, _, _, rfl, rfl, SqT.of ha2, atI_nat (j := 0) rfl, _, _, rfl, rfl, q _ s2⟩
      | _ => cases hd
/-! ### is_node -/
def ofKind (p i : PyData) : PyData → Bool
  | .str z => (kindsL.lookup z).isSome && (areParams z p && areInputs z i)
  | _ => false
def isNode : PyData → Bool
  | .tuple [n, k, p, i] => isName n && ofKind p i k
  | _ => false
def spNode (K : PySem.W.Frag) : Sp := fun vs H Q _ => ∃ x d, vs = [x] ∧ Dv K H x d ∧ smB d = true ∧ ∀ H', Same H H' → Q (.bl (isNode d)) H'
theorem ok_node (B : Blt mg) (G1 : DefOk P w K mg base CX0 1 "is_name" ["value"] (spName K)) (G2 : DefOk P w K mg base CX0 1 "is_kind" ["value"] (spKind K)) (G3 : DefOk P w K mg base CX0 7 "are_parameters" ["kind", "value"] (spParams K)) (G4 : DefOk P w K mg base CX0 2 "are_inputs" ["kind", "value"] (spInputs K))
    (D : Dfn K mg "is_node" sNode ["value"]) : DefOk P w K mg base CX0 8 "is_node" ["value"] (spNode K) := D.ok fun f fd F => by
  refine F.ok scNode (fun vs H Q E h => ?_) (fun cdv A outer s H vs Q E hr h => ?_)
  · obtain ⟨x, d, rfl, _⟩ := h
    rfl
  · obtain ⟨x, d, rfl, hx, hs, q⟩ := h
    have nd := scNode.nd
    refine ⟨_, pss_cons (ps_if (PW.pt (pw_or (pt_not (pt_val (pe_isi B.isi (pa_cons (pv 0) (pa_cons (pe_cls (n := "tuple") "tuple" B.tuple) pa_nil)))))
        (pw_or1 (pt_cmpR op_ne (pe_callB call_len_seq (by rfl) B.len PySem.boot_len (pa_cons (pv 0) pa_nil)) pe_int (nomark _))))) (pss_one (ps_ret pe_bl)) pss_nil)
      (pss_cons (ps_asg (pv 0) (pg_tup rfl (pgs_cons (pg_name (i := 1) nd rfl (Or.inl rfl)) (pgs_cons (pg_name (i := 2) nd rfl (Or.inl rfl)) (pgs_cons (pg_name (i := 3) nd rfl (Or.inl rfl)) (pgs_cons (pg_name (i := 4) nd rfl (Or.inl rfl)) pgs_nil))))))
      (pss_cons (ps_if (PW.pt (pw_or (pt_not (pt_val (pe_def G1 hr pass0 (pa_cons (pv 1) pa_nil)))) (pw_or1 (pt_not (pt_val (pe_def G2 hr pass0 (pa_cons (pv 2) pa_nil))))))) (pss_one (ps_ret pe_bl)) pss_nil)
      (pss_one (ps_ret (pe_and (pe_def G3 hr pass0 (pa_cons (pv 2) (pa_cons (pv 3) pa_nil))) (pe_one (pe_def G4 hr pass0 (pa_cons (pv 2) (pa_cons (pv 4) pa_nil))))))))), ?_⟩
    refine ⟨x, rfl, _, _, _, _, _, rfl, .ty "tuple", hx.ty, kit_ty (isa_tuple d), _, rfl, ?_⟩
    cases hd : isTuple d with
    | false =>
      have z : isNode d = false := by
        cases d <;> first | rfl | cases hd
      rw [z] at q
      exact q _ (Same.refl _)
    | true =>
      cases hx with
      | @tup a xs ds ha hzz hds =>
        have hl := hds.length
        refine ⟨.ref a, rfl, a, xs, rfl, .inr (SqT.of ha), rfl, _, rfl, ite2 (fun e1 => ?_) (fun e1 => ?_)⟩
        · have ne : ¬ ds.length = 4 := fun e2 => by
            have e3 : V.int (xs.length : Nat) = V.int 4 := by
              rw [hl, e2]
              rfl
            rw [decide_eq_true e3] at e1
            cases e1
          have o : isNode (.tuple ds) = false := by
            unfold isNode
            split
            · rename_i n k p i e
              injection e with e
              subst e
              exact absurd rfl ne
            · rfl
          rw [o] at q
          exact q _ (Same.refl _)
        · have le : ds.length = 4 := by
            have e3 : V.int (xs.length : Nat) = V.int 4 := by
              by_cases e4 : V.int (xs.length : Nat) = V.int 4
              · exact e4
              · rw [decide_eq_false e4] at e1
                exact absurd rfl e1
            injection e3 with e3
            omega
          match ds, le with
          | [d1, d2, d3, d4], _ =>
            have hm := fun d hd => sm_mem (ds := [d1, d2, d3, d4]) (by rw [← hs, smB]) d hd
            match xs, hds with
            | [x1, x2, x3, x4], .cons h1 (.cons h2 (.cons h3 (.cons h4 .nil))) =>
              refine ⟨_, rfl, a, _, rfl, SqT.of ha, rfl, _, _, rfl, _, _, rfl, _, _, rfl, _, _, rfl, rfl, ?_⟩
              refine ⟨x1, rfl, x1, d1, rfl, h1, sm_word (hm d1 (by simp)), fun H1 s1 => ⟨_, rfl, ?_⟩⟩
              cases e2 : isName d1 with
              | false =>
                have o : isNode (.tuple [d1, d2, d3, d4]) = false := by
                  show (isName d1 && _) = false
                  rw [e2, Bool.false_and]
                rw [o] at q
                exact q _ s1
              | true =>
                refine ⟨x2, rfl, x2, d2, rfl, h2.same s1, _, rfl, ?_⟩
                have o : isNode (.tuple [d1, d2, d3, d4]) = ofKind d3 d4 d2 := by
                  show (isName d1 && _) = _
                  rw [e2, Bool.true_and]
                rw [o] at q
                cases e3 : isKind d2 with
                | false =>
                  have o2 : ofKind d3 d4 d2 = false := by
                    cases d2 with
                    | str z =>
                      show (_ && _) = false
                      rw [show (kindsL.lookup z).isSome = false from e3, Bool.false_and]
                    | _ => rfl
                  rw [o2] at q
                  exact q _ s1
                | true =>
                  cases h2 with
                  | str z =>
                    obtain ⟨ws, hk⟩ := Option.isSome_iff_exists.mp (show (kindsL.lookup z).isSome = true from e3)
                    have o2 : ofKind d3 d4 (.str z) = (areParams z d3 && areInputs z d4) := by
                      show (_ && _) = _
                      rw [show (kindsL.lookup z).isSome = true from e3, Bool.true_and]
                    have q : ∀ H', Same H H' → Q (.bl (areParams z d3 && areInputs z d4)) H' := fun H' s' => by
                      rw [← o2]
                      exact q H' s'
                    refine ⟨_, rfl, x3, rfl, z, x3, d3, ws, rfl, h3.same s1, hm d3 (by simp), hk, fun H2 s2 => ⟨_, rfl, ite2 (fun e4 => ?_) (fun e4 => ?_)⟩⟩
                    · rw [e4, Bool.true_and] at q
                      exact ⟨_, rfl, x4, rfl, z, x4, d4, rfl, (h4.same s1).same s2, hm d4 (by simp), fun H3 s3 => q _ (s1.trans (s2.trans s3))⟩
                    · rw [Bool.eq_false_iff.mpr e4, Bool.false_and] at q
                      exact q _ (s1.trans s2)
                  | _ => cases e3
      | _ => cases hd
end
end Pw
set_option maxHeartbeats 2000000
/-! how often a word stands in a list of words -/
namespace Pw
open PySem PySem.Spec PyProof.Rows L2
def eqS (k : Str) (v : Value) : Bool := match v with
  | .str x _ => x == k
  | _ => false
theorem eqS_gives {k : Str} {t : Tok} : ∀ {zs : List Str} {us : List Value}, Vals (zs.map V.str) us → ∀ y ∈ us, MeetsSeq.EqGives y (.str k t) (eqS k y)
  | [], us, h, y, hy => by
    cases h
    cases hy
  | z :: zs, us, h, y, hy => by
    cases h with
    | cons h1 h2 =>
      rcases List.mem_cons.mp hy with e | e
      · obtain ⟨t', e1⟩ := h1
        rw [e, e1]
        exact PyProof.Rows.eqGives_str z k t' t
      · exact eqS_gives h2 y e
theorem eqS_count {k : Str} : ∀ {zs : List Str} {us : List Value}, Vals (zs.map V.str) us → us.countP (eqS k) = zs.count k
  | [], us, h => by
    cases h
    rfl
  | z :: zs, us, h => by
    cases h with
    | cons h1 h2 =>
      obtain ⟨t', e1⟩ := h1
      rw [List.countP_cons, List.count_cons, eqS_count h2, e1]
      rfl
def rCntS (K : PySem.W.Frag) : V → List V → Hp → VK → Prop := fun x xs H Q => ∃ (p : Addr) (zs : List Str) (k : Str), x = .ref p ∧ xs = [.str k] ∧ SqL K H p (zs.map V.str) ∧ Q (.int (zs.count k : Nat)) H
theorem mt_scount {X : Cx} : MtR X "list.count" (rCntS X.K) := by
  intro pins s σ H x xs v us Q I rx rxs h
  obtain ⟨p, zs, k, rfl, rfl, hs, q⟩ := h
  obtain rfl : v = Value.ref p := rx
  obtain ⟨u, rfl, t, rfl⟩ := rxs.one
  obtain ⟨its, rv, ⟨⟨cls, dd, data, sl⟩, n, ho, hc, hdn, hd⟩, hlen⟩ := I.list hs
  dsimp only at hc hd
  subst hc hd
  have ec : its.toArray.toList.countP (eqS k) = zs.count k := eqS_count rv
  refine call_meets PySem.F.slot_list_count ⟨_, ho, rfl⟩ PySem.F.entry_list_count (PySem.F.args_list_count_2 _ _)
    (SeqAt.list_countAt p its.toArray n dd sl (.str k t) (eqS k)) ⟨ho, fun y hy => (eqS_gives rv y (by simpa using hy)).at _ _, .int (zs.count k : Nat), H, I.tok _, ⟨s.toks, ?_⟩, q⟩
  rw [← ec]
end Pw
set_option maxHeartbeats 200000
/-! which inputs a node may read -/
namespace Pw
open PySem PySem.Spec PyProof.Rows L2
abbrev sMay : Stmt := topS 48
theorem scMay : FnScope ["inputs", "kinds", "uses", "name", "most"] ["inputs", "kinds", "uses"] (defScope sMay) := ⟨rfl, rfl, rfl, by decide +kernel, rfl, by decide +kernel, by decide +kernel⟩
/-- a dict of words to words, of words to numbers -/
def kwO (ks : List (Str × Str)) : HO := .dK (ks.map fun p => (.inr p.1, V.str p.2))
def kiO (us : List (Str × Int)) : HO := .dK (us.map fun p => (.inr p.1, V.int p.2))
theorem valV_words {α : Type} (g : α → V) (z : Str) : ∀ ks : List (Str × α), valV (ks.map fun p => ((.inr p.1 : Key), g p.2)) (.inr z) = (ks.lookup z).map g
  | [] => rfl
  | p :: r => by
    rw [List.map_cons]
    by_cases e : p.1 = z
    · rw [valV_pos (p := ((.inr p.1 : Key), g p.2)) (congrArg Sum.inr e)]
      obtain ⟨a, b⟩ := p
      dsimp only at e
      subst e
      rw [List.lookup_cons, beq_self_eq_true]
      rfl
    · rw [valV_neg (p := ((.inr p.1 : Key), g p.2)) (fun z' => e (Sum.inr.inj z')), valV_words g z r]
      obtain ⟨a, b⟩ := p
      have e2 : (z == a) = false := beq_eq_false_iff_ne.mpr fun q => e q.symm
      rw [List.lookup_cons, e2]
def usesOf (us : List (Str × Int)) (z : Str) : Int := (us.lookup z).getD 0
def mostOf (k : Str) : Int := if k = "split" then 5 else 1
def mayOne (ns : List Str) (ks : List (Str × Str)) (us : List (Str × Int)) (z : Str) : Bool := match ks.lookup z with
  | none => false
  | some k => decide (usesOf us z + (ns.count z : Nat) ≤ mostOf k)
def mayRead (ns : List Str) (ks : List (Str × Str)) (us : List (Str × Int)) : Bool := ns.all (mayOne ns ks us)
theorem ifC {c : Bool} {a b m : V} {σ : L2.St} {H : Hp} {Q : VK} (e : (if c = true then a else b) = m) (h : Q m H) : if c = true then tC a σ H Q else tC b σ H Q := by
  subst e
  cases c <;> exact h
section
variable {P : Program} {w : World} {K : PySem.W.Frag} {mg : Str → Option Value} {base : Heap}
def spMay (K : PySem.W.Frag) : Sp := fun vs H Q _ => ∃ (i k u : Addr) (ns : List Str) (ks : List (Str × Str)) (us : List (Str × Int)), vs = [.ref i, .ref k, .ref u] ∧ SqL K H i (ns.map V.str) ∧ H k = some (kwO ks) ∧ H u = some (kiO us) ∧ Q (.bl (mayRead ns ks us)) H
theorem ok_may {tm : Tok} (gM : mg "MOST_PORTS" = some (.int 5 tm)) (D : Dfn K mg "may_read" sMay ["inputs", "kinds", "uses"]) : DefOk P w K mg base CX0 1 "may_read" ["inputs", "kinds", "uses"] (spMay K) := D.ok fun f fd F => by
  refine F.ok scMay (fun vs H Q E h => ?_) (fun cdv A outer s H vs Q E hr h => ?_)
  · obtain ⟨i, k, u, ns, ks, us, rfl, _⟩ := h
    rfl
  · obtain ⟨i, k, u, ns, ks, us, rfl, hi, hk, hu, q⟩ := h
    have nd := scMay.nd
    refine ⟨_, pss_cons (ps_for PassesOwn.never rfl (pi_list (pv 0)) (pg_name (i := 3) nd rfl (Or.inl rfl))
        (pss_cons (ps_if (pt_cmp (pc_dnotin (Nat.lt_of_le_of_lt (Nat.add_le_add_left (by decide : 1 ≤ 64) _) hr.units) (pv 3) (pv 1)) (by rfl)) (pss_one (ps_ret pe_bl)) pss_nil)
        (pss_cons (ps_set (i := 4) nd rfl (.inl rfl) (pe_ifExp (pt_cmpR op_eq (pe_dget (Nat.lt_of_le_of_lt (Nat.add_le_add_left (by decide : 1 ≤ 64) _) hr.units) (pv 1) (pv 3) (fun _ _ => rfl)) pe_str (nomark _)) (pe_glob (v := .int 5) rfl gM ⟨_, rfl⟩) pe_int))
        (pss_one (ps_if (pt_cmpR op_gt (pe_op op_add (pe_dget2 (Nat.lt_of_le_of_lt (Nat.add_le_add_left (by decide : 1 ≤ 64) _) hr.units) (pv 2) (pv 3) pe_int ⟨rfl, rfl, rfl, rfl⟩)
          (pe_bm PySem.F.plainAttrs_list PySem.F.slot_list_count PySem.F.type_list_count mt_scount (pv 0) (pa_cons (pv 3) pa_nil))) (pv 4) (nomark _)) (pss_one (ps_ret pe_bl)) pss_nil)))))
      (pss_one (ps_ret pe_bl)), ?_⟩
    refine ⟨_, rfl, i, rfl, ⟨_, hi⟩, ?_⟩
    have stop : ∀ z ∈ ns, mayOne ns ks us z = false → mayRead ns ks us = false := fun z hz e => by
      unfold mayRead
      rw [List.all_eq_false]
      exact ⟨z, hz, by rw [e]; exact Bool.false_ne_true⟩
    refine for_it walk_list (fun j σ H' => ∃ z1 z2, σ = [some (.ref i), some (.ref k), some (.ref u), z1, z2] ∧ H' = H ∧ (ns.take j).all (mayOne ns ks us) = true) ⟨none, none, rfl, rfl, rfl⟩
      (fun j σ H' hj p => by obtain ⟨_, _, _, rfl, _⟩ := p; exact hi) (fun j x σ H' H'' hj p y => ?_) (fun σ H' p => ?_)
    · obtain ⟨z1, z2, rfl, rfl, ok⟩ := p
      obtain ⟨rfl, hv⟩ := y
      rw [List.getElem?_map] at hv
      obtain ⟨n, hn, rfl⟩ := Option.map_eq_some_iff.mp hv
      have mem := List.mem_of_getElem? hn
      have gk : DGet H'' k (.str n) ((ks.lookup n).map V.str) := by
        have := DGet.k (k := .inr n) hk
        rwa [valV_words] at this
      have gu : DGet H'' u (.str n) ((us.lookup n).map V.int) := by
        have := DGet.k (k := .inr n) hu
        rwa [valV_words] at this
      refine ⟨_, rfl, _, rfl, k, _, rfl, gk, _, rfl, ?_⟩
      cases e : ks.lookup n with
      | none =>
        have z := stop n mem (by unfold mayOne; rw [e])
        rw [z] at q
        exact q
      | some kd =>
        rw [e] at gk
        have one : mayOne ns ks us n = decide (usesOf us n + (ns.count n : Nat) ≤ mostOf kd) := by
          unfold mayOne
          rw [e]
        have em : (if decide (V.str kd = V.str "split") = true then V.int 5 else V.int 1) = V.int (mostOf kd) := by
          unfold mostOf
          by_cases e1 : kd = "split"
          · rw [if_pos e1, decide_eq_true (congrArg V.str e1)]
            rfl
          · rw [if_neg e1, decide_eq_false (fun e2 => e1 (V.str.inj e2))]
            rfl
        refine ⟨_, rfl, _, rfl, k, _, rfl, gk, rfl, _, rfl, ifC em ?_⟩
        have eu : ((us.lookup n).map V.int).getD (V.int 0) = V.int (usesOf us n) := by
          unfold usesOf
          cases us.lookup n <;> rfl
        refine ⟨_, rfl, u, rfl, .inl ⟨_, .inl hu⟩, _, rfl, _, gu, ?_⟩
        rw [eu]
        refine ⟨_, rfl, .inl ⟨rfl, _, hi⟩, _, rfl, i, ns, n, rfl, rfl, hi, _, _, rfl, rfl, _, rfl, _, _, rfl, rfl, _, rfl, ?_⟩
        refine ite2 (fun e1 => ?_) (fun e1 => ?_)
        · have z := stop n mem (by
            rw [one]
            have := of_decide_eq_true e1
            exact decide_eq_false (by omega))
          rw [z] at q
          exact q
        · refine ⟨_, _, rfl, rfl, ?_⟩
          rw [List.take_add_one, hn]
          show (ns.take j ++ [n]).all _ = true
          rw [List.all_append, ok, List.all_cons, one, List.all_nil, Bool.and_true, Bool.true_and]
          have : ¬ mostOf kd < usesOf us n + (ns.count n : Nat) := fun z => e1 (decide_eq_true z)
          exact decide_eq_true (by omega)
    · obtain ⟨z1, z2, rfl, rfl, ok⟩ := p
      have o : mayRead ns ks us = true := by
        rw [List.length_map, List.take_length] at ok
        exact ok
      rw [o] at q
      exact q
end
end Pw
set_option maxHeartbeats 2000000
/-! own errors of one field over an own base over ArithmeticError -/
namespace PySem
namespace ErrX
open PySem.W PySem.Calls PyProof.Rows PySem.HandSPX Builtin Builtin.ObjectAttr
abbrev arTail : List Value := [.type "ArithmeticError", .type "Exception", .type "BaseException", .type "object"]
/-! ### the text of __init__ -/
def iA (fld : Str) (p1 p2 : Pos) : Arguments := { posonlyargs := [], args := [{ arg := "self", annotation := none, pos := p1 }, { arg := fld, annotation := none, pos := p2 }], vararg := none, kwonlyargs := [], kw_defaults := [], kwarg := none, defaults := [] }
def iB (fld : Str) (q1 q2 q3 q4 : Pos) : List Stmt := [.Assign [.Attribute (.Name "self" q1) fld q2] (.Name fld q3) q4]
def iS (fld : Str) : Scope := { kind := .function, names := [(PySem.Str.ofString "self", .local), (fld, .local)], isGenerator := false, isCoroutine := false, more := [] }
/-- what the written part says of an error class x with the field fld, at C, and of its __init__, at fI -/
structure ErrTxt (K : Frag) (mg : Str → Option Value) (x fld : Str) (C fI : Addr) : Prop where
  gC : mg x = some (.ref C)
  xI : excInitIn K C arTail "ArithmeticError.__new__" = true
  xO : excOver K C arTail = true
  sa : findIn K (.ref C) "__setattr__" = some (some (.builtin "object.__setattr__"))
  ga : findIn K (.ref C) "__getattribute__" = some (some (.builtin "BaseException.__getattribute__"))
  gg : findIn K (.ref C) "__getattr__" = some none
  noN : findIn K (.ref C) fld = some none
  iC : findIn K (.ref C) "__init__" = some (some (.ref fI))
  tC : typeIn K (.ref fI) = some (.type "function")
  kC : keepIn K (.ref C) = true
  exC : subIn K (.ref C) (.type "BaseException") = some true
  tyC : typeIn K (.ref C) = some (.type "type")
  hdC : hasDictIn K C = true
  fn : ∃ (qual : Str) (oc : Value) (od : Option Addr) (doc pm : Value) (an : Option Addr) (cdv ct : Value) (osl : Array (Option Value)) (p1 p2 q1 q2 q3 q4 : Pos),
    K.lookup fI = some ⟨oc, od, .func (fnOf "__init__" qual (iA fld p1 p2) (iB fld q1 q2 q3 q4) (iS fld) .none .none doc pm an cdv ct), osl⟩ ∧ codeIn K cdv qual = true
  bd : ∀ (qual : Str) (p1 p2 q1 q2 q3 q4 : Pos) (doc pm : Value) (an : Option Addr) (cdv ct u v : Value), bindArgs (fnOf "__init__" qual (iA fld p1 p2) (iB fld q1 q2 q3 q4) (iS fld) .none .none doc pm an cdv ct) ⟨[u, v], []⟩ = pure [(("self" : Str), u), (fld, v)]
  ns : fld ≠ "self"
  nd : (fld == ("__debug__" : Str)) = false
theorem one_size (v : Value) : [v].length ≤ sizeLine := by
  rw [sizeLine_eq]
  exact (by decide : 1 ≤ 16777216)
theorem ldC {M : Model} {s : Shared} {name : Str} {scope : Scope} {L a : Addr} {cd : Value} {m : Str → Option Value} {x : Str} {pos : Pos} {v : Value} {Q : Value → Shared → Prop} {A : Around} {E : Value → Shared → Prop} (hn : s.heap.Ns L m) (hv : m x = some v) (h : Q v s)
    (hk : scope.kind = .function) (hl : (envOfC name scope L a cd).kindOf x = some .local) (hd : (x == ("__debug__" : Str)) = false) :
    wpAny M A (eval (.Name x pos) (envOfC name scope L a cd)) Q E s := wpAny_Name (wpAny_loadName_local hk hl hn hv h) hd
/-- what __init__ leaves of a fresh exception at x -/
structure InitEnd (h h' : Heap) (fld : Str) (x C dx t1 : Addr) (v : Value) : Prop where
  keep : ∀ b o, b ≠ x → h.get? b = some o → h'.get? b = some o
  obj : h'.get? x = some { cls := .ref C, dict := some dx, data := .fields #[.ref t1, .none, .none, .none, .bool false, .none] }
  dbig : h.objs.size ≤ dx
  dne : dx ≠ x
  ns : h'.Ns1 dx (fun y => if y = fld then some v else none)
/-- a made one -/
structure OwnMade (h h' : Heap) (fld : Str) (e C d : Addr) (v : Value) : Prop where
  keep : ∀ b o, h.get? b = some o → h'.get? b = some o
  new : h.objs.size ≤ e
  obj : ∃ oe vs, h'.get? e = some oe ∧ oe.cls = .ref C ∧ oe.dict = some d ∧ oe.data = .fields vs ∧ vs[1]? = some .none
  dbig : h.objs.size ≤ d
  dne : d ≠ e
  ns : h'.Ns1 d (fun y => if y = fld then some v else none)
section
variable {prog : Program} {w : World} {A : Around} {E : Value → Shared → Prop} {R : Result → Shared → Prop} {s : Shared} {K : Frag} {mg : Str → Option Value} {x fld : Str} {C fI : Addr}
/-- the store of a first field -/
theorem store_first {name : Str} {tk : Tok} {v : Value} {a : Addr} {fv : Array Value} {hp : Heap} {g : Array GenState} {d : Drawn} {t : Nat} {os : OsState}
    (X : K.In hp) (hx : hp.get? a = some { cls := .ref C, data := .fields fv }) (hp' : excOver K C arTail = true) (hh : hasDictIn K C = true) (ha : findIn K (.ref C) name = some none)
    (hq : ∀ h' tk' dx, (∀ b o, b ≠ a → hp.get? b = some o → h'.get? b = some o) → hp.objs.size ≤ dx → dx ≠ a → h'.get? a = some { cls := .ref C, dict := some dx, data := .fields fv } →
      h'.Ns1 dx (fun y => if y = name then some v else none) → R (.ok (.ret .none)) ⟨h', g, d, tk', os⟩) :
    codeAny (model prog w) A (.call (.builtin "object.__setattr__") ⟨[.ref a, .str name tk, v], []⟩) R ⟨hp, g, d, t, os⟩ := by
  have hxs : a ≠ hp.objs.size := Nat.ne_of_lt (Heap.lt_size hx)
  have ht : takerIn K C name = some none := by
    unfold takerIn
    rw [ha]
    rfl
  refine osa_openX (ox := { cls := .ref C, data := .fields fv }) (od := none) (r := none) PySem.F.store_ArithmeticError X ⟨hx, rfl, rfl, trivial⟩ hp' ht fun b => ?_
  obtain ⟨cd, hc, hd'⟩ := any_some hh
  have hcls : Looks (model prog w) hp (classData C) cd := looks_clsIn X hc
  obtain ⟨nm, bs, mro, ns, qn, hd, sn, sb, ab, col, del⟩ := cd
  dsimp only at hd'
  subst hd'
  show wpAny _ _ (storeInOwnDict (.ref a) (.ref C) (.str name tk) name v b) _ _ _
  unfold storeInOwnDict ownDictForStores
  repeat (first | with_reducible refine store_in_new ?_ ?_ | with_reducible refine wpAny_loadPart_at hx ?_ | with_reducible refine hcls.at ?_ | wp_step)
  · exact ⟨_, #[], _, (Heap.get?_update_ne _ _ _ _ hxs.symm).trans (Heap.get?_push_at rfl rfl), rfl, fun e he => absurd he (by simp), fun _ => rfl⟩
  · intro h' tk' hn' hs
    have hx1 : (hp.push { cls := .type "dict", data := .dict #[] }).get? a = some { cls := .ref C, data := .fields fv } := Heap.get?_push_of_some _ hx
    refine hq h' tk' hp.objs.size (fun b o hb ho => ?_) (Nat.le_refl _) hxs.symm ?_ hn'
    · exact (hs.2 b (Nat.ne_of_lt (Heap.lt_size ho))).trans ((Heap.get?_update_ne _ _ _ _ hb).trans (Heap.get?_push_of_some _ ho))
    · exact (hs.2 a hxs).trans (Heap.get?_update_self _ hx1 rfl)
theorem cells_fld (fld self : Str) (p : Value × Value) (e : ¬ fld = self) : True := trivial
theorem err_init (T : ErrTxt K mg x fld C fI) {a t0 : Addr} {v : Value} (X : K.In s.heap) (hlim : s.heap.NoLimit) (hx : s.heap.get? a = some (excO C t0)) (hnx : K.lookup a = none) (hroom : A.depth < recursionLimit)
    (hq : ∀ h' tk dx, InitEnd s.heap h' fld a C dx t0 v → R (.ok (.ret .none)) { s with heap := h', toks := tk }) :
    codeAny (model prog w) A (.call (.ref fI) ⟨[.ref a, v], []⟩) R s := by
  obtain ⟨qual, oc, od, doc, pm, an, cdv, ct, osl, p1, p2, q1, q2, q3, q4, ho, hcd⟩ := T.fn
  have hns : (fld == ("self" : Str)) = false := beq_eq_false_iff_ne.mpr T.ns
  have hsn : (("self" : Str) == fld) = false := beq_eq_false_iff_ne.mpr (Ne.symm T.ns)
  have kSelf : (iS fld).names.lookup ("self" : Str) = some .local := by
    show List.lookup ("self" : Str) [(("self" : Str), NameKind.local), (fld, NameKind.local)] = _
    simp [List.lookup]
  have kFld : (iS fld).names.lookup fld = some .local := by
    show List.lookup fld [(("self" : Str), NameKind.local), (fld, NameKind.local)] = _
    simp [List.lookup, hns]
  have bnd := T.bd qual p1 p2 q1 q2 q3 q4 doc pm an cdv ct (.ref a) v
  refine Att.call_fn (binds := [(("self" : Str), .ref a), (fld, v)]) X hlim ho hcd hroom (BindsTo.of_eq bnd) (by simp only [List.all_cons, List.all_nil, kSelf, kFld]; rfl) (fun s1 IC => ?_) rfl rfl rfl
  obtain ⟨h1, tk1, rfl⟩ := IC.toInCall.same
  have k : ∀ b o, s.heap.get? b = some o → h1.get? b = some o := IC.toInCall.keep
  have hn := IC.toInCall.ns
  have X1 : K.In h1 := X.keeps k
  have hx1 := k _ _ hx
  have ks : (envOfC qual (iS fld) s.heap.objs.size fI cdv).kindOf ("self" : Str) = some .local := kSelf
  have kf : (envOfC qual (iS fld) s.heap.objs.size fI cdv).kindOf fld = some .local := kFld
  show wpAny _ _ (execs _ _) _ _ _
  refine wpAny_execs_cons (plainObj_wpAny_Assign_Attribute ?_)
  refine ldC (v := v) hn ?_ (ldC (v := .ref a) hn ?_ ?_ rfl ks (by decide)) rfl kf T.nd
  · simp [bindL, ks, kf, T.ns]
  · simp [bindL, ks, kf, Ne.symm T.ns]
  refine set_plain X1 (ox := excO C t0) (od := none) ⟨hx1, rfl, rfl, trivial⟩ T.sa ?_
  refine store_first X1 hx1 T.xO T.hdC T.noN (fun h3 tk3 dx k3 dn dne hx3 hn3 => ?_)
  show wpAny _ _ (execs _ _) _ _ _
  have z : s.heap.objs.size < h1.objs.size := hn.lt
  exact wpAny_execs_nil (hq h3 tk3 dx ⟨fun b o hb e => k3 b o hb (k b o e), hx3, Nat.le_of_lt (Nat.lt_of_lt_of_le z dn), dne, hn3⟩)
theorem err_made (T : ErrTxt K mg x fld C fI) {v : Value} (X : K.In s.heap) (hlim : s.heap.NoLimit) (hroom : A.depth + 1 < recursionLimit)
    (hq : ∀ h' tk e d, OwnMade s.heap h' fld e C d v → R (.ok (.ret (.ref e))) { s with heap := h', toks := tk }) :
    codeAny (model prog w) A (.call (.ref C) ⟨[v], []⟩) R s := by
  obtain ⟨nm, N, qn, bs, bm, hdct, sn, sub, ab, col, dd, k0, k1, k2, k3, k5, hC, hbm⟩ := excInit_of X T.xI
  obtain ⟨hp, g, dr, tk, os⟩ := s
  have k : ∀ b o, hp.get? b = some o → ((hp.push (kdv_tup [v])).push (excO C hp.objs.size)).get? b = some o := fun b o e => Heap.get?_push_of_some _ (Heap.get?_push_of_some _ e)
  have hget : ((hp.push (kdv_tup [v])).push (excO C hp.objs.size)).get? (hp.objs.size + 1) = some (excO C hp.objs.size) := by heap_get
  have hnx : K.lookup (hp.objs.size + 1) = none := by
    cases e : K.lookup (hp.objs.size + 1) with
    | none => rfl
    | some o =>
      have z : hp.get? (hp.objs.size + 1) = some o := X _ _ e
      exact absurd (Nat.lt_of_succ_lt (Heap.lt_size z)) (Nat.lt_irrefl _)
  refine call_own PySem.F.excBase_ArithmeticError hbm hC (looks_findIn X T.iC) (fun self => bind_fn X self T.tC) (one_size v) ?_
  refine err_init (s := ⟨(hp.push (kdv_tup [v])).push (excO C hp.objs.size), g, dr, tk, os⟩) T (X.keeps k) (hlim.keeps k) hget hnx ?_ fun h' tk' dx ⟨k', hx, dn, dne, hns⟩ => ?_
  · show A.depth + 1 < recursionLimit
    exact hroom
  · have old : ∀ b o, hp.get? b = some o → h'.get? b = some o := fun b o e => k' b o (Nat.ne_of_lt (Nat.lt_succ_of_lt (Heap.lt_size e))) (k b o e)
    have z : hp.objs.size + 1 + 1 ≤ dx := by
      first
        | (simpa only [Heap.size_push] using dn)
        | exact dn
        | (have q := dn; rw [Heap.size_push, Heap.size_push] at q; exact q)
    exact ⟨rfl, hq h' tk' (hp.objs.size + 1) dx ⟨old, Nat.le_succ _, ⟨_, _, hx, rfl, rfl, rfl, rfl⟩, Nat.le_trans (Nat.le_trans (Nat.le_succ _) (Nat.le_succ _)) z, dne, hns⟩⟩
end
end ErrX
end PySem
set_option maxHeartbeats 2000000
/-! raising such an error, reading its field, asking its class -/
namespace L2
open PySem PySem.Spec PyProof.Rows
theorem relO_fld {fld : Str} {v : V} {v' : Value} (r : RelV v v') (f : Str) : RelO (List.lookup f [(fld, v)]) (if f = fld then some v' else none) := by
  by_cases hw : f = fld
  · subst hw
    rw [if_pos rfl]
    have q : List.lookup f [(f, v)] = some v := by simp [List.lookup]
    rw [q]
    exact r
  · rw [if_neg hw]
    have qw : (f == fld) = false := by simpa using hw
    have q2 : List.lookup f [(fld, v)] = none := by simp [List.lookup, qw]
    rw [q2]
    trivial
section
variable {X : Cx} {C fI : Addr} {x fld : Str}
/-- X(e) -/
def tMkErr (C : Addr) (fld : Str) (ta : TA) : L2.St → Hp → XK → Prop := fun σ H Q => ta σ H fun vs H1 => ∃ v, vs = [v] ∧ ∀ d, H1 d = none → Q (.ref C) (some d) (upd H1 d (.xd [(fld, v)]))
theorem pmk_err {a : Expr} {ta : TA} {p pos : Pos} {k : Nat} (T : PySem.ErrX.ErrTxt X.K X.mg x fld C fI) (hr : Room k X.A) (ha : PA X [a] ta) (hg : Gl X x := by rfl) (hdb : (x == ("__debug__" : Str)) = false := by decide)
    (he : starEach (a :: []) X.env = (false, eval a X.env) :: starEach [] X.env := by rfl) (hpl : (backTo pos (starEach [] X.env)).any (·.1) = false := by rfl) :
    PMk X (.Call (.Name x p) [a] [] pos) (tMkErr C fld ta) := by
  intro pins s σ H Q I h
  refine wpAny_Call_Name_kw (ld_glob I hg T.gC ?_ hdb)
  refine PySem.W.callWith_K (h₀ := X.base) I.ok.mod.kin T.kC (thn (ha.run pos pins s σ H _ I h) fun us s1 hh => ?_) he hpl
  obtain ⟨vs, H1, I1, r1, v, ev, q1⟩ := hh
  subst ev
  refine ⟨I1.kIn, ?_⟩
  cases r1 with
  | cons rv rn =>
    rename_i v' us'
    cases rn
    show wpAny _ _ (call (.ref C) [v']) _ _ _
    have hlim := I1.nolimit
    obtain ⟨hp, g, dr, tk, os⟩ := s1
    refine wpAny_call (PySem.ErrX.err_made T I1.kIn hlim (by have := hr.dp; omega) fun h' tk' e d M => ?_)
    show MkP X pins σ Q (.ref e) ⟨h', g, dr, tk', os⟩
    obtain ⟨oe, fv, hoe, hc, hd, hdat, h1⟩ := M.obj
    have hns := M.ns
    obtain ⟨G', g1, g2⟩ := restrict h' fun b => decide (b ≠ e)
    have gk : ∀ b, b ≠ e → G'.get? b = h'.get? b := fun b hb => g1 b (decide_eq_true hb)
    have ge : G'.get? e = none := g2 e (by simp)
    have old : ∀ b o, hp.get? b = some o → G'.get? b = some o := fun b o q => (gk b (Nat.ne_of_lt (Nat.lt_of_lt_of_le (Heap.lt_size q) M.new))).trans (M.keep b o q)
    have ob : ObjOk X.prog X.w (upd H1 d (.xd [(fld, v)])) G' d (.xd [(fld, v)]) :=
      ⟨_, hns.at (fun o q => (gk d M.dne).trans q), fun f => relO_fld rv f⟩
    have J : Inv X pins σ (upd H1 d (.xd [(fld, v)])) ⟨G', g, dr, tk', os⟩ := I1.laid (t' := tk') old M.dbig ob
    refine ⟨e, oe, fv, ⟨G', g, dr, tk', os⟩, _, .ref C, some d, rfl, J, fun b o q => ?_, ge, hoe, ⟨hc, hd⟩, hdat, h1, ?_, rfl, I1.bare, raises_own T.exC T.tyC, q1 d (I1.hok.fresh M.dbig)⟩
    · by_cases hb : b = e
      · have q' : G'.get? b = some o := q
        rw [hb, ge] at q'; cases q'
      · exact (gk b hb).symm.trans q
    · rw [upd_ne (Ne.symm M.dne)]
      exact I1.hok.fresh M.new
/-- raise X(e) -/
def tRaiseErr (C : Addr) (fld : Str) (W : WX) (ta : TA) : TS := fun _ σ H => tMkErr C fld ta σ H fun cls d H' => W cls d σ H'
theorem ps_raiseErr {a : Expr} {ta : TA} {W : WX} {p pos pos2 : Pos} {k : Nat} (hc : X.calm = true) (T : PySem.ErrX.ErrTxt X.K X.mg x fld C fI) (hr : Room k X.A) (tk : Takes X W) (ha : PA X [a] ta) (hg : Gl X x := by rfl) (hdb : (x == ("__debug__" : Str)) = false := by decide)
    (he : starEach (a :: []) X.env = (false, eval a X.env) :: starEach [] X.env := by rfl) (hpl : (backTo pos (starEach [] X.env)).any (·.1) = false := by rfl) :
    PS X (.Raise (some (.Call (.Name x p) [a] [] pos)) none pos2) (tRaiseErr C fld W ta) := ps_raise hc tk (pmk_err T hr ha hg hdb he hpl)
/-- e.f, e the exception that the suite holds -/
def tErrFld (C : Addr) (fld : Str) (a : Addr) (cls : Value) (d : Option Addr) (te : TE) : TE := fun σ H Q => te σ H fun x H1 => x = .ref a ∧ cls = .ref C ∧ ∃ (dd : Addr) (v : V), d = some dd ∧ H1 dd = some (.xd [(fld, v)]) ∧ Q v H1
theorem pe_errFld {a : Addr} {oe : Obj} {cls : Value} {d : Option Addr} {pn : List (Addr × Obj)} {e : Expr} {te : TE} {pos : Pos} (T : PySem.ErrX.ErrTxt X.K X.mg x fld C fI) (hz : Zc cls d oe) (hf : ∃ vs, oe.data = .fields vs) (he : PE (X.suite a ((a, oe) :: pn)) e te)
    (hb : attributeBase e fld X.env (eval e X.env) = eval e X.env := by rfl) :
    PE (X.suite a ((a, oe) :: pn)) (.Attribute e fld pos) (tErrFld C fld a cls d te) := by
  refine ⟨fun pins s σ H Q I h => ?_⟩
  refine attr_of hb (thn (he.run pins s σ H _ I h) fun u s1 hh => ?_)
  obtain ⟨x, H1, I1, rx, ex, ec, dd, v, ed, ea, q⟩ := hh
  subst ex
  obtain rfl : u = Value.ref a := rx
  subst ec
  subst ed
  obtain ⟨ha, _⟩ := I1.pin (a, oe) (List.mem_append_left _ List.mem_cons_self)
  obtain ⟨vs, hd⟩ := hf
  have hx : ObjOk X.prog X.w H1 s1.heap dd (.xd [(fld, v)]) := I1.hok dd _ ea
  obtain ⟨mA, hns, hr⟩ := hx
  obtain ⟨od, ho, hl⟩ := lookIn_ns hns
  have l : List.lookup fld [(fld, v)] = some v := by simp [List.lookup]
  obtain ⟨u, hu, ru⟩ := RelO.some_of (v := v) (o := mA fld) (by rw [← l]; exact hr fld)
  have J : PySem.W.InstAt s1.heap a oe C (some od) := ⟨ha, hz.1, by unfold PySem.W.notCls; rw [hd] <;> rfl, by rw [hz.2]; exact ho⟩
  exact HandSPX.exc_get I1.kIn J T.ga T.gg T.exC (PySem.W.findObj_own T.hdC T.noN rfl (by rw [hl, hu])) (handed_of ru) ⟨v, H1, I1.tok _, ru, q⟩
/-- isinstance(e, c), e the exception that the suite holds, with its own dict -/
theorem call_isED {a : Addr} {cls : Value} {oe : Obj} {pn : List (Addr × Obj)} {d : Option Addr} (hz : Zc cls d oe) (hf : ∃ vs, oe.data = .fields vs) :
    CallR (X.suite a ((a, oe) :: pn)) (.builtin "isinstance") (fun xs H Q => ∃ (D : Addr) (c : V) (cv : Value) (b : Bool) (dd : Addr) (fs : List (Str × V)), cls = .ref D ∧ ExcC X.K D ∧ xs = [.ref a, c] ∧ (∀ u, RelV c u → u = cv) ∧ d = some dd ∧ H dd = some (.xd fs) ∧ PySem.W.kitOne X.K (.ref D) cv = some b ∧ Q (.bl b) H) := by
  intro pins s σ H xs us Q I r h
  obtain ⟨D, c, cv, b, dd, fs, rfl, E, rfl, hcv, rfl, ea, e, q⟩ := h
  cases r with
  | cons rx rr =>
    cases rr with
    | cons rt rr =>
      cases rr
      cases rx
      have ec := hcv _ rt
      subst ec
      obtain ⟨hget, _⟩ := I.pin (a, oe) (List.mem_append.mpr (.inl List.mem_cons_self))
      obtain ⟨vs, hv⟩ := hf
      have hx : ObjOk X.prog X.w H s.heap dd (.xd fs) := I.hok dd _ ea
      obtain ⟨mA, hns, hr⟩ := hx
      obtain ⟨od, ho, hl⟩ := lookIn_ns hns
      have J : PySem.W.InstAt s.heap a oe D (some od) := ⟨hget, hz.1, by unfold PySem.W.notCls; rw [hv] <;> rfl, by rw [hz.2]; exact ho⟩
      have hcl : (PySem.W.clsIn X.K D).isSome = true := by
        obtain ⟨cd, hc, _⟩ := PySem.W.any_some E.hd
        rw [hc]
        rfl
      exact PySem.W.kia_one (PySem.W.kitx_exc hcl E.hg E.hk E.hs E.ha E.hn E.ht E.hm) I.kIn J e (fun z => nomatch z) fun tk => ⟨.bl b, H, I.kept (t' := tk) fun _ _ z => z, rfl, q⟩
end
end L2
set_option maxHeartbeats 1000000
/-! check_nodes: over data -/
namespace Pw
open PySem PySem.Spec PyProof.Rows L2
abbrev sCheck : Stmt := topS 47
theorem scCheck : FnScope ["nodes", "kinds", "uses", "at", "node", "name"] ["nodes"] (defScope sCheck) := ⟨rfl, rfl, rfl, by decide +kernel, rfl, by decide +kernel, by decide +kernel⟩
def wordsOf : List PyData → List Str
  | .str s :: r => s :: wordsOf r
  | _ => []
theorem wordsOf_map : ∀ zs : List Str, wordsOf (zs.map PyData.str) = zs
  | [] => rfl
  | z :: r => by
    show z :: wordsOf (r.map PyData.str) = _
    rw [wordsOf_map r]
def putU (us : List (Str × Int)) (z : Str) (v : Int) : List (Str × Int) := if (us.any fun p => decide (p.1 = z)) = true then us.map (fun p => if p.1 = z then (p.1, v) else p) else us ++ [(z, v)]
theorem putU_len (us : List (Str × Int)) (z : Str) (v : Int) : (putU us z v).length ≤ us.length + 1 := by
  unfold putU
  split
  · rw [List.length_map]
    omega
  · rw [List.length_append]
    exact Nat.le_refl _
theorem putK_words (us : List (Str × Int)) (z : Str) (v : Int) : putK (us.map fun p => ((.inr p.1 : Key), V.int p.2)) (.inr z) (.int v) = (putU us z v).map fun p => ((.inr p.1 : Key), V.int p.2) := by
  have e : ((us.map fun p => ((.inr p.1 : Key), V.int p.2)).any fun kv => decide (kv.1 = (.inr z : Key))) = us.any fun p => decide (p.1 = z) := by
    rw [List.any_map]
    congr 1
    funext p
    show decide ((Sum.inr p.1 : Key) = .inr z) = _
    by_cases h : p.1 = z
    · rw [decide_eq_true h, decide_eq_true (congrArg Sum.inr h)]
    · rw [decide_eq_false h, decide_eq_false (fun q => h (Sum.inr.inj q))]
  unfold putK putU
  rw [e]
  split
  · rw [List.map_map, List.map_map]
    apply List.map_congr_left
    intro p _
    show (if (Sum.inr p.1 : Key) = .inr z then ((.inr p.1 : Key), V.int v) else (.inr p.1, V.int p.2)) = _
    by_cases h : p.1 = z
    · rw [if_pos (congrArg Sum.inr h)]
      show _ = ((Sum.inr (if p.1 = z then (p.1, v) else p).1 : Key), V.int (if p.1 = z then (p.1, v) else p).2)
      rw [if_pos h]
    · rw [if_neg (fun q => h (Sum.inr.inj q))]
      show _ = ((Sum.inr (if p.1 = z then (p.1, v) else p).1 : Key), V.int (if p.1 = z then (p.1, v) else p).2)
      rw [if_neg h]
  · rw [List.map_append]
    rfl
def useAll (us : List (Str × Int)) (ns : List Str) : List (Str × Int) := ns.foldl (fun us z => putU us z (usesOf us z + 1)) us
theorem useAll_len : ∀ (ns : List Str) (us : List (Str × Int)), (useAll us ns).length ≤ us.length + ns.length
  | [], us => Nat.le_refl _
  | z :: r, us => by
    have h1 := useAll_len r (putU us z (usesOf us z + 1))
    have h2 := putU_len us z (usesOf us z + 1)
    rw [List.length_cons]
    show (useAll (putU us z (usesOf us z + 1)) r).length ≤ _
    omega
def step (ks : List (Str × Str)) (us : List (Str × Int)) (d : PyData) : Option (Str × Str × List Str) := match d with
  | .tuple [.str a, .str k, _, .list is] => if (isNode d && (ks.lookup a).isNone && mayRead (wordsOf is) ks us) = true then some (a, k, wordsOf is) else none
  | _ => none
def unusedSplit (ks : List (Str × Str)) (us : List (Str × Int)) : Bool := ks.any fun p => decide (ks.lookup p.1 = some "split") && (us.lookup p.1).isNone
theorem lookup_mem {α : Type} : ∀ {ks : List (Str × α)} {p : Str × α}, p ∈ ks → ∃ v, ks.lookup p.1 = some v
  | (a, b) :: r, p, h => by
    rw [List.lookup_cons]
    cases e : p.1 == a with
    | true => exact ⟨b, rfl⟩
    | false =>
      cases h with
      | head => exact absurd e (by rw [beq_self_eq_true]; exact fun z => by cases z)
      | tail _ t => exact lookup_mem t
def checkFrom : Nat → List (Str × Str) → List (Str × Int) → List PyData → Option Int
  | _, ks, us, [] => if unusedSplit ks us = true then some (-1) else none
  | n, ks, us, d :: ds => match step ks us d with
    | some r => checkFrom (n + 1) (ks ++ [(r.1, r.2.1)]) (useAll us r.2.2) ds
    | none => some (n : Nat)
def checkNodes : PyData → Option Int
  | .list ds => if (decide ((1 : Int) ≤ ds.length) && decide ((ds.length : Int) ≤ 30)) = true then checkFrom 0 [] [] ds else some (-1)
  | _ => some (-1)
theorem names_words : ∀ {ds : List PyData}, ds.all isName = true → ∃ zs : List Str, ds = zs.map PyData.str
  | [], _ => ⟨[], rfl⟩
  | d :: ds, h => by
    rw [List.all_cons, Bool.and_eq_true] at h
    obtain ⟨zs, e⟩ := names_words h.2
    cases d with
    | str s => exact ⟨s :: zs, by rw [e]; rfl⟩
    | _ => exact absurd h.1 Bool.false_ne_true
theorem node_shape {d : PyData} (h : isNode d = true) : ∃ (a k : Str) (p : PyData) (zs : List Str), d = .tuple [.str a, .str k, p, .list (zs.map PyData.str)] ∧ zs.length ≤ 10 := by
  unfold isNode at h
  split at h
  · rename_i n k p i
    rw [Bool.and_eq_true] at h
    obtain ⟨h1, h2⟩ := h
    cases n with
    | str a =>
      cases k with
      | str k =>
        have h3 : ((kindsL.lookup k).isSome && (areParams k p && areInputs k i)) = true := h2
        rw [Bool.and_eq_true, Bool.and_eq_true] at h3
        have h4 := h3.2.2
        cases i with
        | list is =>
          have h5 : (decide ((inRange k).1 ≤ is.length) && decide ((is.length : Int) ≤ (inRange k).2) && is.all isName) = true := h4
          rw [Bool.and_eq_true, Bool.and_eq_true] at h5
          obtain ⟨zs, e⟩ := names_words h5.2
          refine ⟨a, k, p, zs, by rw [e], ?_⟩
          have h6 := of_decide_eq_true h5.1.2
          have h7 : (inRange k).2 ≤ 10 := by
            unfold inRange
            split
            · decide
            · split
              · decide
              · split <;> decide
          rw [e, List.length_map] at h6
          omega
        | _ => exact absurd h4 Bool.false_ne_true
      | _ => exact absurd h2 Bool.false_ne_true
    | _ => exact absurd h1 Bool.false_ne_true
  · cases h
theorem step_no {ks : List (Str × Str)} {us : List (Str × Int)} {d : PyData} (h : isNode d = false) : step ks us d = none := by
  unfold step
  split
  · rw [if_neg]
    intro q
    rw [Bool.and_eq_true, Bool.and_eq_true, h] at q
    exact absurd q.1.1 Bool.false_ne_true
  · rfl
theorem step_at {ks : List (Str × Str)} {us : List (Str × Int)} {a k : Str} {p : PyData} {zs : List Str} (h : isNode (.tuple [.str a, .str k, p, .list (zs.map PyData.str)]) = true) :
    step ks us (.tuple [.str a, .str k, p, .list (zs.map PyData.str)]) = if ((ks.lookup a).isNone && mayRead zs ks us) = true then some (a, k, zs) else none := by
  unfold step
  dsimp only
  rw [h, wordsOf_map, Bool.true_and]
end Pw
set_option maxHeartbeats 2000000
/-! check_nodes -/
namespace Pw
open PySem PySem.Spec PyProof.Rows L2
theorem vals_words {K : PySem.W.Frag} {H : Hp} : ∀ {zs : List Str} {vs : List V}, DvAll K H vs (zs.map PyData.str) → vs = zs.map V.str
  | [], _, h => by cases h; rfl
  | z :: zs, _, h => by
    cases h with
    | cons h1 h2 =>
      cases h1
      rw [vals_words h2]
      rfl
theorem same_new {H H' : Hp} {a : Addr} {o : HO} (s : Same H H') (n : H a = none) : Same H (upd H' a o) := fun b x e => by
  rw [upd_ne (ne_of_none e n)]
  exact s b x e
section
variable {P : Program} {w : World} {K : PySem.W.Frag} {mg : Str → Option Value} {base : Heap} {CN fN : Addr}
def spCheck (K : PySem.W.Frag) (CN : Addr) : Sp := fun vs H Q E => ∃ x d, vs = [x] ∧ Dv K H x d ∧ smB d = true ∧
  (checkNodes d = none → ∀ H', Same H H' → Q .non H') ∧
  ∀ n, checkNodes d = some n → ∀ (H' : Hp) (dd : Addr), Same H H' → H' dd = none → E (.ref CN) (some dd) (upd H' dd (.xd [("at", .int n)]))
theorem ok_check (B : Blt mg) (bE : mg "enumerate" = none) (R : PySem.ErrX.ErrTxt K mg "InvalidNet" "at" CN fN) {tm : Tok} (gM : mg "MOST_NODES" = some (.int 30 tm)) (G1 : DefOk P w K mg base CX0 8 "is_node" ["value"] (spNode K)) (G2 : DefOk P w K mg base CX0 1 "may_read" ["inputs", "kinds", "uses"] (spMay K))
    (D : Dfn K mg "check_nodes" sCheck ["nodes"]) : DefOk P w K mg base (L2.CX P w) 9 "check_nodes" ["nodes"] (spCheck K CN) := D.ok fun f fd F => by
  refine F.okX scCheck (fun vs H Q E h => ?_) (fun cdv A outer s H vs Q E hr h => ?_)
  · obtain ⟨x, d, rfl, _⟩ := h
    rfl
  · obtain ⟨x, d, rfl, hx, hs, q, qe⟩ := h
    have nd := scCheck.nd
    refine ⟨_, pss_cons (ps_if (PW.pt (pw_or (pt_not (pt_val (pe_isi B.isi (pa_cons (pv 0) (pa_cons (pe_cls (n := "list") "list" B.list) pa_nil)))))
        (pw_or1 (pt_not (pt_chain op_le op_le pe_int (pe_callB call_len_seq (by rfl) B.len PySem.boot_len (pa_cons (pv 0) pa_nil)) (pe_glob (v := .int 30) rfl gM ⟨_, rfl⟩))))))
        (pss_one (ps_raiseErr (W := fun cls d _ H => E cls d H) rfl R hr (takes_of rfl rfl rfl rfl) (by exact (pa_cons (pe_un un_neg pe_int) pa_nil)))) pss_nil)
      (pss_cons (ps_set (i := 1) nd rfl (.inl rfl) pe_dnewK)
      (pss_cons (ps_set (i := 2) nd rfl (.inl rfl) pe_dnewK)
      (pss_cons (ps_for (passes_of rfl) rfl (pi_enum (by rfl) bE (pa_cons (pv 0) pa_nil)) (pg_tup rfl (pgs_cons (pg_name (i := 3) nd rfl (Or.inl rfl)) (pgs_cons (pg_name (i := 4) nd rfl (Or.inl rfl)) pgs_nil)))
        (pss_cons (ps_if (PW.pt (pw_or (pt_not (pt_val (pe_def G1 hr pass0 (pa_cons (pv 4) pa_nil))))
            (pw_or (pt_cmp (pc_din (Nat.lt_of_le_of_lt (Nat.add_le_add_left (by decide : 1 ≤ 64) _) hr.units) (pe_ix ix_tup (pv 4) pe_int (fun _ _ => rfl)) (pv 1)) (by rfl))
            (pw_or1 (pt_not (pt_val (pe_def G2 hr pass0 (pa_cons (pe_ix ix_tup (pv 4) pe_int (fun _ _ => rfl)) (pa_cons (pv 1) (pa_cons (pv 2) pa_nil))))))))))
          (pss_one (ps_raiseErr (W := fun cls d _ H => E cls d H) rfl R hr (takes_of rfl rfl rfl rfl) (by exact (pa_cons (pv 3) pa_nil)))) pss_nil)
        (pss_cons (ps_dput (Nat.lt_of_le_of_lt (Nat.add_le_add_left (by decide : 1 ≤ 64) _) hr.units) (pv 1) (pe_ix ix_tup (pv 4) pe_int (fun _ _ => rfl)) (pe_ix ix_tup (pv 4) pe_int (fun _ _ => rfl)) (by rfl))
        (pss_one (ps_for (passes_of rfl) rfl (pi_list (pe_ix ix_tup (pv 4) pe_int (fun _ _ => rfl))) (pg_name (i := 5) nd rfl (Or.inl rfl))
          (pss_one (ps_dput (Nat.lt_of_le_of_lt (Nat.add_le_add_left (by decide : 1 ≤ 64) _) hr.units) (pv 2) (pv 5) (pe_op op_add (pe_dget2 (Nat.lt_of_le_of_lt (Nat.add_le_add_left (by decide : 1 ≤ 64) _) hr.units) (pv 2) (pv 5) pe_int ⟨rfl, rfl, rfl, rfl⟩) pe_int) (by rfl))))))))
      (pss_one (ps_lock (ps_for (passes_of rfl) rfl (pi_keys (pv 1)) (pg_name (i := 5) nd rfl (Or.inl rfl))
        (pss_one (ps_if (PW.pt (pw_and (pt_cmpR op_eq (pe_dget (Nat.lt_of_le_of_lt (Nat.add_le_add_left (by decide : 1 ≤ 64) _) hr.units) (pv 1) (pv 5) (fun _ _ => rfl)) pe_str (nomark _))
            (pw_and1 (pt_cmp (pc_dnotin (Nat.lt_of_le_of_lt (Nat.add_le_add_left (by decide : 1 ≤ 64) _) hr.units) (pv 5) (pv 2)) (by rfl)))))
          (pss_one (ps_raiseErr (W := fun cls d _ H => E cls d H) rfl R hr (takes_of rfl rfl rfl rfl) (by exact (pa_cons (pe_un un_neg pe_int) pa_nil)))) pss_nil)))))))), ?_⟩
    refine ⟨x, rfl, _, _, _, _, _, rfl, .ty "list", hx.ty, kit_ty (isa_list d), _, rfl, ?_⟩
    cases hd : isList d with
    | false =>
      have z : checkNodes d = some (-1) := by
        cases d <;> first | rfl | cases hd
      exact ⟨_, rfl, _, rfl, fun dd nd' => qe _ z H dd (Same.refl _) nd'⟩
    | true =>
      cases hx with
      | @lst a xs ds ha hzz hds =>
        have hl := hds.length
        refine ⟨.ref a, rfl, a, xs, rfl, .inl (SqL.of ha), _, _, rfl, rfl, _, rfl, ite2 (fun e1 => ?_) (fun e1 => ?_)⟩
        · refine ⟨_, _, rfl, rfl, _, rfl, ?_⟩
          cases e2 : decide ((xs.length : Int) ≤ 30) with
          | false =>
            have z1 : checkNodes (.list ds) = some (-1) := by
              show (if (_ && _) = true then _ else _) = _
              rw [← hl, e2, Bool.and_false, if_neg Bool.false_ne_true]
            exact ⟨_, rfl, _, rfl, fun dd nd' => qe _ z1 H dd (Same.refl _) nd'⟩
          | true =>
            have z1 : checkNodes (.list ds) = checkFrom 0 [] [] ds := by
              show (if (_ && _) = true then _ else _) = _
              rw [← hl, e1, e2, Bool.true_and, if_pos rfl]
            rw [z1] at q qe
            have l30 : xs.length ≤ 30 := by
              have := of_decide_eq_true e2
              omega
            refine fun kA nK => ?_
            refine fun uA nU => ?_
            have nKu : kA ≠ uA := fun e => by
              rw [e, upd_same] at nU
              cases nU
            have nU' : H uA = none := by
              rwa [upd_ne (fun e => nKu e.symm)] at nU
            refine ⟨.ref a, rfl, a, xs, rfl, SqL.of (same_new (same_new (Same.refl _) nK) nU' a _ ha), ?_⟩
            refine for_it (walk_enum (xs := xs)) (fun j σ H' => ∃ ks us z3 z4 z5, σ = [some (.ref a), some (.ref kA), some (.ref uA), z3, z4, z5] ∧ Same H H' ∧ H' kA = some (kwO ks) ∧ H' uA = some (kiO us) ∧ ks.length ≤ j ∧ us.length ≤ 10 * j ∧ checkFrom j ks us (ds.drop j) = checkFrom 0 [] [] ds)
              ⟨[], [], none, none, none, rfl, same_new (same_new (Same.refl _) nK) nU', by rw [upd_ne nKu, upd_same]; rfl, by rw [upd_same]; rfl, Nat.zero_le _, Nat.zero_le _, rfl⟩
              (fun j σ H' hj p => by obtain ⟨_, _, _, _, _, _, sm, _⟩ := p; exact SqL.of (sm _ _ ha)) (fun j x σ H' H'' hj p y => ?_) (fun σ H' p => ?_)
            · obtain ⟨ks, us, z3, z4, z5, rfl, sm, hk, hu, lk, lu, ck⟩ := p
              obtain ⟨T, x1, v, rfl, nT, rfl, f1, f2⟩ := y
              cases f1
              have f2 : xs[j]? = some v := f2
              obtain ⟨e, f3, hv⟩ := (hds.same sm).getV f2
              have sT := same_upd (o := .tup [V.int (j : Nat), v]) nT
              have dj : ds.drop j = e :: ds.drop (j + 1) := by
                have lt : j < ds.length := (List.getElem?_eq_some_iff.mp f3).1
                rw [List.drop_eq_getElem_cons lt]
                rw [(List.getElem?_eq_some_iff.mp f3).2]
              rw [dj] at ck
              have sme : smB e = true := sm_mem (ds := ds) (by rw [← hs, smB]) e (List.mem_of_getElem? f3)
              have bad : step ks us e = none → checkFrom 0 [] [] ds = some (j : Nat) := fun z => by
                rw [← ck]
                show (match step ks us e with | some r => _ | none => _) = _
                rw [z]
                rfl
              refine ⟨T, _, rfl, SqT.of upd_same, rfl, _, _, rfl, _, _, rfl, rfl, ?_⟩
              refine ⟨v, rfl, v, e, rfl, hv.same sT, sme, fun H1 s1 => ⟨_, rfl, ?_⟩⟩
              have s2 : Same H H1 := sm.trans (sT.trans s1)
              cases e3 : isNode e with
              | false => exact ⟨_, rfl, _, rfl, fun dd nd' => qe _ (bad (step_no e3)) H1 dd s2 nd'⟩
              | true =>
                obtain ⟨na, kd, pr, zs, rfl, lz⟩ := node_shape e3
                have sa := step_at (ks := ks) (us := us) e3
                have hv1 := hv.same (sT.trans s1)
                cases hv1 with
                | @tup b ys es hb hyz hes =>
                  match ys, hes with
                  | [y1, y2, y3, y4], .cons h1 (.cons h2 (.cons h3 (.cons h4 .nil))) =>
                    cases h1
                    cases h2
                    cases h4 with
                    | @lst l ws es2 hl4 hlz hes2 =>
                      have ew : ws = zs.map V.str := vals_words hes2
                      subst ew
                      have hk1 : H1 kA = some (kwO ks) := s1 _ _ (sT _ _ hk)
                      have hu1 : H1 uA = some (kiO us) := s1 _ _ (sT _ _ hu)
                      have gk : DGet H1 kA (.str na) ((ks.lookup na).map V.str) := by
                        have := DGet.k (k := .inr na) hk1
                        rwa [valV_words] at this
                      refine ⟨.ref b, rfl, b, _, _, _, rfl, rfl, SqT.of hb, atI_nat (j := 0) rfl, _, rfl, kA, _, rfl, gk, _, rfl, ?_⟩
                      cases e4 : ks.lookup na with
                      | some k0 =>
                        have z : step ks us (.tuple [.str na, .str kd, pr, .list (zs.map PyData.str)]) = none := by
                          rw [sa, e4]
                          rfl
                        exact ⟨_, rfl, _, rfl, fun dd nd' => qe _ (bad z) H1 dd s2 nd'⟩
                      | none =>
                        refine ⟨.ref b, rfl, b, _, _, _, rfl, rfl, SqT.of hb, atI_nat (j := 3) rfl, _, rfl, _, rfl, l, kA, uA, zs, ks, us, rfl, SqL.of hl4, hk1, hu1, _, rfl, ?_⟩
                        cases e5 : mayRead zs ks us with
                        | false =>
                          have z : step ks us (.tuple [.str na, .str kd, pr, .list (zs.map PyData.str)]) = none := by
                            rw [sa, e5, Bool.and_false]
                            rfl
                          exact ⟨_, rfl, _, rfl, fun dd nd' => qe _ (bad z) H1 dd s2 nd'⟩
                        | true =>
                          have z : step ks us (.tuple [.str na, .str kd, pr, .list (zs.map PyData.str)]) = some (na, kd, zs) := by
                            rw [sa, e4, e5]
                            rfl
                          have ck2 : checkFrom (j + 1) (ks ++ [(na, kd)]) (useAll us zs) (ds.drop (j + 1)) = checkFrom 0 [] [] ds := by
                            rw [← ck]
                            show _ = (match step ks us _ with | some r => _ | none => _)
                            rw [z]
                          have nb : b ≠ kA := fun q => by
                            rw [q, hk1] at hb
                            cases hb
                          have nl : l ≠ kA := fun q => by
                            rw [q, hk1] at hl4
                            cases hl4
                          have nlu : l ≠ uA := fun q => by
                            rw [q, hu1] at hl4
                            cases hl4
                          have hput : HO.dK (putK (ks.map fun p => ((.inr p.1 : Key), V.str p.2)) (.inr na) (.str kd)) = kwO (ks ++ [(na, kd)]) := by
                            rw [putK_new _ (by rw [valV_words, e4]; rfl)]
                            show _ = HO.dK ((ks ++ [(na, kd)]).map _)
                            rw [List.map_append]
                            rfl
                          refine ⟨.ref b, rfl, b, _, _, _, rfl, rfl, SqT.of hb, atI_nat (j := 1) rfl, _, rfl, .ref b, rfl, b, _, _, _, rfl, rfl, SqT.of hb, atI_nat (j := 0) rfl, kA, _, rfl, .inl ⟨_, .inr na, hk1, rfl, (by rw [List.length_map]; exact Nat.lt_of_le_of_lt (by omega : ks.length ≤ 1000) (by decide)), rfl⟩, ?_⟩
                          rw [hput]
                          have s3 : Same H (upd H1 kA (kwO (ks ++ [(na, kd)]))) := same_new s2 nK
                          have hb3 : upd H1 kA (kwO (ks ++ [(na, kd)])) b = some (.tup [.str na, .str kd, y3, .ref l]) := by
                            rw [upd_ne nb]
                            exact hb
                          have hl3 : upd H1 kA (kwO (ks ++ [(na, kd)])) l = some (.lst (zs.map V.str)) := by
                            rw [upd_ne nl]
                            exact hl4
                          refine ⟨.ref b, rfl, b, _, _, _, rfl, rfl, SqT.of hb3, atI_nat (j := 3) rfl, l, rfl, ⟨_, SqL.of hl3⟩, ?_⟩
                          refine for_it (walk_list (xs := zs.map V.str)) (fun i σ H3 => ∃ z6, σ = [some (.ref a), some (.ref kA), some (.ref uA), some (.int (j : Nat)), some (.ref b), z6] ∧ Same H H3 ∧ H3 kA = some (kwO (ks ++ [(na, kd)])) ∧ H3 uA = some (kiO (useAll us (zs.take i))) ∧ H3 l = some (.lst (zs.map V.str)))
                            ⟨z5, rfl, s3, upd_same, by rw [upd_ne (fun q => nKu q.symm)]; exact hu1, hl3⟩ (fun i σ H3 hi p => by obtain ⟨_, _, _, _, _, hq⟩ := p; exact SqL.of hq) (fun i x σ H3 H4 hi p y => ?_) (fun σ H3 p => ?_)
                          · obtain ⟨z6, rfl, s4, k4, u4, l4⟩ := p
                            obtain ⟨rfl, f5⟩ := y
                            rw [List.getElem?_map] at f5
                            obtain ⟨n, f6, rfl⟩ := Option.map_eq_some_iff.mp f5
                            have gu : DGet H4 uA (.str n) (((useAll us (zs.take i)).lookup n).map V.int) := by
                              have := DGet.k (k := .inr n) u4
                              rwa [valV_words] at this
                            have eu : (((useAll us (zs.take i)).lookup n).map V.int).getD (V.int 0) = V.int (usesOf (useAll us (zs.take i)) n) := by
                              unfold usesOf
                              cases (useAll us (zs.take i)).lookup n <;> rfl
                            refine ⟨_, rfl, uA, rfl, .inl ⟨_, .inl u4⟩, _, rfl, _, gu, ?_⟩
                            rw [eu]
                            have ll : (useAll us (zs.take i)).length ≤ 1000 := by
                              have h1 := useAll_len (zs.take i) us
                              have h2 : (zs.take i).length ≤ zs.length := by
                                rw [List.length_take]
                                omega
                              omega
                            refine ⟨_, _, rfl, rfl, _, rfl, _, rfl, uA, _, rfl, .inl ⟨_, .inr n, u4, rfl, (by rw [List.length_map]; exact Nat.lt_of_le_of_lt ll (by decide)), rfl⟩, ?_⟩
                            rw [putK_words]
                            refine ⟨_, rfl, same_new s4 nU', by rw [upd_ne nKu]; exact k4, ?_, by rw [upd_ne nlu]; exact l4⟩
                            rw [upd_same, List.take_add_one, f6]
                            show _ = some (kiO (useAll us (zs.take i ++ [n])))
                            unfold useAll
                            rw [List.foldl_append]
                            rfl
                          · obtain ⟨z6, rfl, s4, k4, u4, l4⟩ := p
                            rw [List.length_map, List.take_length] at u4
                            refine ⟨ks ++ [(na, kd)], useAll us zs, _, _, _, rfl, s4, k4, u4, ?_, ?_, ck2⟩
                            · rw [List.length_append]
                              show ks.length + 1 ≤ j + 1
                              omega
                            · have h1 := useAll_len zs us
                              omega
            · obtain ⟨ks, us, z3, z4, z5, rfl, sm, hk, hu, lk, lu, ck⟩ := p
              have ck : (if unusedSplit ks us = true then some (-1) else none) = checkFrom 0 [] [] ds := by
                rw [← ck, hl, List.drop_length]
                rfl
              have bad : ∀ p ∈ ks, (decide (ks.lookup p.1 = some "split") && (us.lookup p.1).isNone) = true → checkFrom 0 [] [] ds = some (-1) := fun p hp z => by
                have z2 : unusedSplit ks us = true := List.any_eq_true.mpr ⟨p, hp, z⟩
                rw [← ck, if_pos z2]
              refine ⟨kA, kwO ks, hk, trivial, fun od => ?_⟩
              have s2 : Same H (upd H' kA (.frz od (kwO ks))) := same_new sm nK
              have hkf : upd H' kA (.frz od (kwO ks)) kA = some (.frz od (.dK (ks.map fun p => ((.inr p.1 : Key), V.str p.2)))) := upd_same
              have huf : upd H' kA (.frz od (kwO ks)) uA = some (kiO us) := by
                rw [upd_ne (fun q => nKu q.symm)]
                exact hu
              refine ⟨_, rfl, kA, od, rfl, .inl ⟨_, hkf, ?_⟩⟩
              refine for_it (walk_keys (o := od) (d := kA) (kvs := ks.map fun p => ((.inr p.1 : Key), V.str p.2))) (fun i σ H3 => ∃ z6, σ = [some (.ref a), some (.ref kA), some (.ref uA), z3, z4, z6] ∧ H3 = upd H' kA (.frz od (kwO ks)) ∧ (ks.take i).any (fun p => decide (ks.lookup p.1 = some "split") && (us.lookup p.1).isNone) = false)
                ⟨z5, rfl, rfl, rfl⟩ (fun i σ H3 hi p => by obtain ⟨_, _, rfl, _⟩ := p; exact hkf) (fun i x σ H3 H4 hi p y => ?_) (fun σ H3 p => ?_)
              · obtain ⟨z6, rfl, rfl, ok⟩ := p
                obtain ⟨rfl, k0, v0, f1, rfl⟩ := y
                rw [List.getElem?_map] at f1
                obtain ⟨p, f2, f3⟩ := Option.map_eq_some_iff.mp f1
                cases f3
                have mem := List.mem_of_getElem? f2
                obtain ⟨kd, e1⟩ := lookup_mem mem
                have gk : DGet (upd H' kA (.frz od (kwO ks))) kA (.str p.1) (some (.str kd)) := .inl ⟨_, .inr p.1, .inr ⟨od, hkf⟩, rfl, by rw [valV_words, e1]; rfl⟩
                have gu : DGet (upd H' kA (.frz od (kwO ks))) uA (.str p.1) ((us.lookup p.1).map V.int) := by
                  have := DGet.k (k := .inr p.1) huf
                  rwa [valV_words] at this
                have go : (decide (ks.lookup p.1 = some "split") && (us.lookup p.1).isNone) = false → (ks.take (i + 1)).any (fun p => decide (ks.lookup p.1 = some "split") && (us.lookup p.1).isNone) = false := fun z => by
                  rw [List.take_add_one, f2]
                  show (ks.take i ++ [p]).any _ = false
                  rw [List.any_append, ok, List.any_cons, z]
                  rfl
                refine ⟨_, rfl, _, rfl, kA, _, rfl, gk, rfl, _, rfl, ite2 (fun e2 => ?_) (fun e2 => ?_)⟩
                · have e3 : kd = "split" := by
                    have z : V.str kd = V.str "split" := of_decide_eq_true e2
                    injection z
                  rw [e3] at e1
                  refine ⟨_, rfl, _, rfl, uA, _, rfl, gu, _, rfl, ?_⟩
                  cases e4 : us.lookup p.1 with
                  | none => exact ⟨_, rfl, _, rfl, fun dd nd' => qe _ (bad p mem (by rw [e1, e4]; decide)) _ dd s2 nd'⟩
                  | some n => exact ⟨_, rfl, rfl, go (by rw [e4]; exact Bool.and_false _)⟩
                · refine ⟨_, rfl, rfl, go ?_⟩
                  have e3 : ¬ ks.lookup p.1 = some "split" := fun z => by
                    rw [e1] at z
                    cases z
                    exact e2 (decide_eq_true rfl)
                  rw [decide_eq_false e3, Bool.false_and]
              · obtain ⟨z6, rfl, rfl, ok⟩ := p
                rw [List.length_map, List.take_length] at ok
                have z2 : unusedSplit ks us = false := ok
                rw [z2, if_neg Bool.false_ne_true] at ck
                exact ⟨hkf, q ck.symm _ (same_new s2 nK)⟩
        · have z1 : checkNodes (.list ds) = some (-1) := by
            show (if (_ && _) = true then _ else _) = _
            rw [← hl, Bool.eq_false_iff.mpr e1, Bool.false_and, if_neg Bool.false_ne_true]
          exact ⟨_, rfl, _, rfl, _, rfl, fun dd nd' => qe _ z1 H dd (Same.refl _) nd'⟩
      | _ => cases hd
end
end Pw
set_option maxHeartbeats 1000000
/-! copied -/
namespace Pw
open PySem PySem.Spec PyProof.Rows L2
abbrev sCopied : Stmt := topS 46
theorem scCopied : FnScope ["value", "part"] ["value"] (defScope sCopied) := ⟨rfl, rfl, rfl, by decide +kernel, rfl, by decide +kernel, by decide +kernel⟩
/-- what is new in H' -/
def newOf (H H' : Hp) : Hp := fun b => match H b with
  | none => H' b
  | some _ => none
theorem newOf_at {H H' : Hp} {b : Addr} {o : HO} (h : H b = none) (h' : H' b = some o) : newOf H H' b = some o := by
  unfold newOf
  rw [h]
  exact h'
theorem newOf_same {H H' : Hp} : Same (newOf H H') H' := fun b x e => by
  unfold newOf at e
  cases h : H b with
  | none =>
    rw [h] at e
    exact e
  | some o =>
    rw [h] at e
    cases e
theorem newOf_mono {H H1 H2 H3 : Hp} (s1 : Same H H1) (s2 : Same H2 H3) : Same (newOf H1 H2) (newOf H H3) := fun b x e => by
  have e2 := newOf_same b x e
  unfold newOf at e ⊢
  cases h : H b with
  | none => exact s2 b x e2
  | some o =>
    rw [s1 b o h] at e
    cases e
def dpB : Nat → PyData → Bool
  | 0, _ => false
  | n + 1, .list ds => ds.all (dpB n)
  | n + 1, .tuple ds => ds.all (dpB n)
  | _ + 1, .none => true
  | _ + 1, .bool _ => true
  | _ + 1, .int _ => true
  | _ + 1, .str _ => true
  | _ + 1, _ => false
theorem DvAll.snoc {K : PySem.W.Frag} {H : Hp} {y : V} {d : PyData} (hy : Dv K H y d) : ∀ {ys : List V} {ds : List PyData}, DvAll K H ys ds → DvAll K H (ys ++ [y]) (ds ++ [d])
  | [], _, h => by
    cases h
    exact .cons hy .nil
  | _ :: _, _, h => by
    cases h with
    | cons h1 h2 => exact .cons h1 (DvAll.snoc hy h2)
theorem lc_data {K : PySem.W.Frag} {J : It} {n : Nat} {G : Hp → Prop} {xs : List V} (w : Walk J n G (YAt xs)) {te : TE} {vs : List Nat} {j : Nat} {σ : L2.St} {H1 : Hp} {D : Addr} {Qd : Hp → Prop} {ds : List PyData} (hds : DvAll K H1 xs ds) (hn : xs.length = n) (hz : n < sizeLine) (nD : H1 D = none)
    (hG : ∀ H, Same H1 H → G H) (hw : ∀ x, wipe ((wipe σ vs).set j (some x)) vs = wipe σ vs)
    (hs : ∀ (i : Nat) (v : V) (d : PyData) (H : Hp) (Q : VK), ds[i]? = some d → Same H1 H → Dv K H v d → (∀ y H4, Same H H4 → Dv K (newOf H H4) y d → Q y H4) → te ((wipe σ vs).set j (some v)) H Q)
    (hd : ∀ (H : Hp) (ys : List V), Same H1 H → H D = some (.lst ys) → DvAll K (newOf (upd H1 D (.lst [])) H) ys ds → Qd H) :
    ∃ W : Nat → Nat → Hp → Prop, (∃ m, W 0 m (upd H1 D (.lst []))) ∧ ∀ i m H, W i m H →
      (J.stop i H ∧ Qd H) ∨ (J.go i H ∧ ∃ Nx : Hp → Prop, (∀ H', Nx H' → ∃ m', m' < m ∧ W (i + 1) m' H') ∧ ∀ x H', J.yld i H x H' → gName j x (wipe σ vs) H' fun σ2 H2 => wipe σ2 vs = wipe σ vs ∧ tYes σ2 H2 fun b H3 =>
        if b = true then te σ2 H3 fun y H4 => ∃ acc, H4 D = some (.lst acc) ∧ acc.length < sizeLine ∧ Nx (upd H4 D (.lst (acc ++ [y]))) else Nx H3) := by
  have hl := hds.length
  refine lc_it w (fun i H => Same H1 H ∧ ∃ ys, H D = some (.lst ys) ∧ DvAll K (newOf (upd H1 D (.lst [])) H) ys (ds.take i)) ⟨same_upd nD, [], upd_same, .nil⟩ (fun i H _ p => hG H p.1) (fun i x H H' hi p y => ?_) (fun H p => ?_)
  · obtain ⟨sm, ys, eD, hys⟩ := p
    obtain ⟨rfl, hx⟩ := y
    obtain ⟨d, e1, e2⟩ := (hds.same sm).getV hx
    refine ⟨hw x, ?_⟩
    show te _ _ _
    refine hs i x d H' _ e1 sm e2 fun y H4 s4 hy => ⟨ys, s4 _ _ eD, ?_, fun b o e => ?_, ys ++ [y], upd_same, ?_⟩
    · rw [hys.length, List.length_take]
      omega
    · rw [upd_ne (ne_of_none e nD)]
      exact s4 _ _ (sm _ _ e)
    · rw [List.take_add_one, e1]
      refine DvAll.snoc (hy.same fun b o e => ?_) (hys.same fun b o e => ?_)
      · have e3 := newOf_same b o e
        have nb : H' b = none := by
          unfold newOf at e
          cases h : H' b with
          | none => rfl
          | some z =>
            rw [h] at e
            cases e
        have bD : b ≠ D := fun q => by
          rw [q, eD] at nb
          cases nb
        refine newOf_at ?_ (by rw [upd_ne bD]; exact e3)
        rw [upd_ne bD]
        cases h : H1 b with
        | none => rfl
        | some z =>
          rw [sm b z h] at nb
          cases nb
      · have e3 := newOf_same b o e
        have nb : upd H1 D (.lst []) b = none := by
          unfold newOf at e
          cases h : upd H1 D (.lst []) b with
          | none => rfl
          | some z =>
            rw [h] at e
            cases e
        have bD : b ≠ D := fun q => by
          rw [q, upd_same] at nb
          cases nb
        exact newOf_at nb (by rw [upd_ne bD]; exact s4 _ _ e3)
  · obtain ⟨sm, ys, eD, hys⟩ := p
    rw [List.take_of_length_le (by omega)] at hys
    exact hd H ys sm eD hys
theorem newOf_drop {H H' : Hp} {D : Addr} {o : HO} (nD : H D = none) : Same (newOf (upd H D o) H') (newOf H H') := fun b x e => by
  have e2 := newOf_same b x e
  have nb : upd H D o b = none := by
    unfold newOf at e
    cases h : upd H D o b with
    | none => rfl
    | some z =>
      rw [h] at e
      cases e
  have bD : b ≠ D := fun q => by
    rw [q, upd_same] at nb
    cases nb
  rw [upd_ne bD] at nb
  exact newOf_at nb e2
section
variable {P : Program} {w : World} {K : PySem.W.Frag} {mg : Str → Option Value} {base : Heap}
def spCopied (K : PySem.W.Frag) (n : Nat) : Sp := fun vs H Q _ => ∃ x d, vs = [x] ∧ Dv K H x d ∧ dpB n d = true ∧ ∀ y H', Same H H' → Dv K (newOf H H') y d → Q y H'
theorem ok_copied (B : Blt mg) (D : Dfn K mg "copied" sCopied ["value"]) : ∀ n : Nat, DefOk P w K mg base CX0 n "copied" ["value"] (spCopied K n)
  | 0 => D.ok fun f fd F => ⟨fun vs H Q E h => (by obtain ⟨_, _, _, _, z, _⟩ := h; cases z), fun A outer s H args us vs Q E hr e0 hb hv h => (by obtain ⟨_, _, _, _, z, _⟩ := h; cases z)⟩
  | n + 1 => by
    have G := ok_copied B D n
    refine D.ok fun f fd F => ?_
    refine F.ok scCopied (fun vs H Q E h => ?_) (fun cdv A outer s H vs Q E hr h => ?_)
    · obtain ⟨x, d, rfl, _⟩ := h
      rfl
    · obtain ⟨x, d, rfl, hx, hn, q⟩ := h
      have nd := scCopied.nd
      refine ⟨_, pss_cons (ps_if (pt_val (pe_isi B.isi (pa_cons (pv 0) (pa_cons (pe_cls (n := "list") "list" B.list) pa_nil))))
          (pss_one (ps_ret (pe_lc (own := [("part", 1)]) (g := gName 1) (tt := tYes) rfl nd (pi_list (pv 0)) (blkOk_by (N := ["value", "part"]) (sc := defScope sCopied) (by decide +kernel))
            (fun _ _ _ _ _ => pg_name (i := 1) nd rfl (Or.inl rfl)) (fun _ _ _ _ _ => pts_nil)
            (fun _ _ _ _ _ => pe_def G hr pass0 (pa_cons (pv 1) pa_nil) (Nat.le_refl _))))) pss_nil)
        (pss_cons (ps_if (pt_val (pe_isi B.isi (pa_cons (pv 0) (pa_cons (pe_cls (n := "tuple") "tuple" B.tuple) pa_nil))))
          (pss_one (ps_ret (pe_tupleOf (by rfl) B.tuple (pe_lc (own := [("part", 1)]) (g := gName 1) (tt := tYes) rfl nd (pi_tup (pv 0)) (blkOk_by (N := ["value", "part"]) (sc := defScope sCopied) (by decide +kernel))
            (fun _ _ _ _ _ => pg_name (i := 1) nd rfl (Or.inl rfl)) (fun _ _ _ _ _ => pts_nil)
            (fun _ _ _ _ _ => pe_def G hr pass0 (pa_cons (pv 1) pa_nil) (Nat.le_refl _)))))) pss_nil)
        (pss_one (ps_ret (pv 0)))), ?_⟩
      refine ⟨x, rfl, _, _, _, _, _, rfl, .ty "list", hx.ty, kit_ty (isa_list d), _, rfl, ite2 (fun e1 => ?_) (fun e1 => ?_)⟩
      · cases hx with
        | @lst a xs ds ha hzz hds =>
          have hn2 : ∀ e ∈ ds, dpB n e = true := fun e he => List.all_eq_true.mp (show ds.all (dpB n) = true from hn) e he
          refine ⟨.ref a, rfl, a, rfl, ⟨_, SqL.of ha⟩, fun D1 nD1 => ?_⟩
          refine lc_data walk_list hds rfl (Nat.lt_of_le_of_lt hzz (by decide)) nD1 (fun H' s' => SqL.of (s' _ _ ha)) (fun _ => rfl) (fun i v e H' Q' he sm hv k => ?_) (fun H' ys s' eD hys => ?_)
          · exact ⟨v, rfl, v, e, rfl, hv, hn2 e (List.mem_of_getElem? he), k⟩
          · refine q _ _ s' (.lst (newOf_at nD1 eD) ?_ (hys.same (newOf_drop nD1)))
            rw [hys.length, ← hds.length]
            exact hzz
        | _ => cases e1
      · refine ⟨x, rfl, _, _, _, _, _, rfl, .ty "tuple", hx.ty, kit_ty (isa_tuple d), _, rfl, ite2 (fun e2 => ?_) (fun e2 => ?_)⟩
        · cases hx with
          | @tup a xs ds ha hzz hds =>
            have hn2 : ∀ e ∈ ds, dpB n e = true := fun e he => List.all_eq_true.mp (show ds.all (dpB n) = true from hn) e he
            refine ⟨.ref a, rfl, a, rfl, ⟨_, SqT.of ha⟩, fun D1 nD1 => ?_⟩
            refine lc_data walk_tup hds rfl (Nat.lt_of_le_of_lt hzz (by decide)) nD1 (fun H' s' => SqT.of (s' _ _ ha)) (fun _ => rfl) (fun i v e H' Q' he sm hv k => ?_) (fun H' ys s' eD hys => ?_)
            · exact ⟨v, rfl, v, e, rfl, hv, hn2 e (List.mem_of_getElem? he), k⟩
            · refine .inl ⟨D1, ys, rfl, SqL.of eD, fun T nT => ?_⟩
              have nT0 : H T = none := by
                cases h : H T with
                | none => rfl
                | some z =>
                  rw [s' T z h] at nT
                  cases nT
              refine q _ _ (same_new s' nT0) (.tup (newOf_at nT0 upd_same) ?_ (hys.same fun b o e => ?_))
              · rw [hys.length, ← hds.length]
                exact hzz
              · have e3 := newOf_drop nD1 b o e
                have e4 := newOf_same b o e
                have bT : b ≠ T := fun q' => by
                  rw [q', nT] at e4
                  cases e4
                have nb : H b = none := by
                  unfold newOf at e3
                  cases h : H b with
                  | none => rfl
                  | some z =>
                    rw [h] at e3
                    cases e3
                exact newOf_at nb (by rw [upd_ne bT]; exact e4)
          | _ => cases e2
        · refine ⟨x, rfl, q _ _ (Same.refl _) ?_⟩
          cases hx with
          | non => exact .non
          | bl b => exact .bl b
          | int i => exact .int i
          | str z => exact .str z
          | lst => exact absurd rfl e1
          | tup => exact absurd rfl e2
          | dct => cases hn
end
end Pw
set_option maxHeartbeats 1000000
/-! a value that is a test is the data of one -/
namespace Pw
open PySem PySem.Spec PyProof.Rows L2
theorem one_word {d : PyData} {ws : List Str} (h : oneOf d ws = true) : ∃ s, d = .str s ∧ s ∈ ws := by
  cases d with
  | str s => exact ⟨s, rfl, of_decide_eq_true h⟩
  | _ => cases h
theorem ints_data : ∀ {ds : List PyData} {lo hi : Int}, ds.all (fun e => between e lo hi) = true → ∃ ns : List Int, ds = ns.map PyData.int
  | [], _, _, _ => ⟨[], rfl⟩
  | d :: ds, lo, hi, h => by
    rw [List.all_cons, Bool.and_eq_true] at h
    obtain ⟨ns, e⟩ := ints_data h.2
    obtain ⟨n, rfl⟩ := int_of h.1
    exact ⟨n :: ns, by rw [e]; rfl⟩
theorem plain_shape {d : PyData} (h : isPlain d = true) : ∃ t : Tst, d = t.dat ∧ t.nots = 0 ∧ 1 ≤ modOf t ∧ modOf t ≤ 100 := by
  unfold isPlain at h
  split at h
  · rename_i a b
    rw [Bool.and_eq_true] at h
    obtain ⟨s, rfl, m⟩ := one_word h.1
    obtain ⟨n, rfl⟩ := int_of (d := b) (lo := -(10 ^ 30)) (hi := 10 ^ 30) h.2
    rcases List.mem_cons.mp m with rfl | m
    · exact ⟨.lt n, rfl, rfl, Int.le_refl _, (by decide : (1 : Int) ≤ 100)⟩
    · obtain rfl := List.mem_singleton.mp m
      exact ⟨.ge n, rfl, rfl, Int.le_refl _, (by decide : (1 : Int) ≤ 100)⟩
  · rename_i a m c
    rw [Bool.and_eq_true, Bool.and_eq_true] at h
    obtain ⟨⟨h1, h2⟩, h3⟩ := h
    obtain ⟨s, rfl, ms⟩ := one_word h1
    obtain rfl := List.mem_singleton.mp ms
    have hb : (decide (1 ≤ m) && decide (m ≤ 100)) = true := h2
    rw [Bool.and_eq_true] at hb
    cases c with
    | list ds =>
      have h4 : (ds.all (fun e => between e 0 (m - 1)) && ascD ds) = true := h3
      rw [Bool.and_eq_true] at h4
      obtain ⟨ns, rfl⟩ := ints_data h4.1
      exact ⟨.md m ns, rfl, rfl, of_decide_eq_true hb.1, of_decide_eq_true hb.2⟩
    | _ => cases h3
  · cases h
theorem unNot_shape : ∀ (n : Nat) {d : PyData} {t : Tst}, unNot n d = t.dat → t.nots = 0 → ∃ u : Tst, d = u.dat ∧ u.nots ≤ n ∧ modOf u = modOf t
  | 0, d, t, h, z => ⟨t, h, by omega, rfl⟩
  | n + 1, d, t, h, z => by
    unfold unNot at h
    split at h
    · rename_i e1 e2
      cases e2
    · rename_i n' a b e
      cases e
      by_cases ho : oneOf a ["not"] = true
      · rw [if_pos ho] at h
        obtain ⟨u, rfl, hu, hm⟩ := unNot_shape n h z
        obtain ⟨s, rfl, ms⟩ := one_word ho
        obtain rfl := List.mem_singleton.mp ms
        exact ⟨.neg u, rfl, by show u.nots + 1 ≤ _; omega, hm⟩
      · rw [if_neg ho] at h
        exact ⟨t, h, by omega, rfl⟩
    · exact ⟨t, h, by omega, rfl⟩
theorem test_shape {d : PyData} (h : isTest d = true) : ∃ t : Tst, d = t.dat ∧ t.nots < 4 ∧ 1 ≤ modOf t ∧ modOf t ≤ 100 := by
  obtain ⟨t, e, z, h1, h2⟩ := plain_shape h
  obtain ⟨u, e2, hu, hm⟩ := unNot_shape 3 e z
  exact ⟨u, e2, by omega, by omega, by omega⟩
end Pw
set_option maxHeartbeats 1000000
/-! own_weight -/
namespace Pw
open PySem PySem.Spec PyProof.Rows L2
abbrev sOwn : Stmt := topS 38
theorem scOwn : FnScope ["node", "_", "kind", "parameters", "inputs"] ["node"] (defScope sOwn) := ⟨rfl, rfl, rfl, by decide +kernel, rfl, by decide +kernel, by decide +kernel⟩
def modD : Nat → PyData → Int
  | n + 1, .tuple [a, t] => if oneOf a ["not"] = true then modD n t else 1
  | _, .tuple [_, .int m, _] => m
  | _, _ => 1
theorem modD_dat : ∀ (n : Nat) (t : Tst), t.nots < n → modD n t.dat = modOf t
  | 0, t, h => absurd h (Nat.not_lt_zero _)
  | n + 1, .neg t, h => modD_dat n t (Nat.lt_of_succ_lt_succ h)
  | n + 1, .lt v, _ => by
    show (if oneOf (.str "below") ["not"] = true then _ else (1 : Int)) = 1
    rw [if_neg (by decide +kernel)]
  | n + 1, .ge v, _ => by
    show (if oneOf (.str "from") ["not"] = true then _ else (1 : Int)) = 1
    rw [if_neg (by decide +kernel)]
  | n + 1, .md m rs, _ => rfl
def ownOf (k : Str) (ps is : List PyData) : Int :=
  if k ∈ [("ring" : Str), "table"] then (match ps with
    | [.list xs] => xs.length
    | _ => 1)
  else if k ∈ [("keep" : Str), "until", "after"] then (match ps with
    | [t] => modD 4 t
    | _ => 1)
  else if k = "stutter" then (match ps with
    | [.int n] => n
    | _ => 1)
  else if k = "batch" then (match ps with
    | [.int n, .str s, _] => if s = "sum" then n else 1
    | _ => 1)
  else if k = "turns" then is.length
  else if k = "choose" then (is.length : Int) - 1
  else 1
def ownW : PyData → Int
  | .tuple [_, .str k, .tuple ps, .list is] => ownOf k ps is
  | _ => 1
/-- what the parameters of a node are -/
theorem params_shape {d : PyData} (h : isNode d = true) : ∃ (a k : Str) (ps : List PyData) (zs : List Str) (ws : List Str), d = .tuple [.str a, .str k, .tuple ps, .list (zs.map PyData.str)] ∧ zs.length ≤ 10 ∧ kindsL.lookup k = some ws ∧ ps.length = ws.length ∧ fits ws ps = true := by
  obtain ⟨a, k, p, zs, rfl, lz⟩ := node_shape h
  have h1 : (isName (.str a) && ((kindsL.lookup k).isSome && (areParams k p && areInputs k (.list (zs.map PyData.str))))) = true := h
  rw [Bool.and_eq_true, Bool.and_eq_true, Bool.and_eq_true] at h1
  obtain ⟨_, h2, h3, _⟩ := h1
  obtain ⟨ws, hk⟩ := Option.isSome_iff_exists.mp h2
  unfold areParams at h3
  rw [hk] at h3
  cases p with
  | tuple ps =>
    have h4 : (decide (ps.length = ws.length) && (fits ws ps && batchOk k ps)) = true := h3
    rw [Bool.and_eq_true, Bool.and_eq_true] at h4
    exact ⟨a, k, ps, zs, ws, rfl, lz, hk, of_decide_eq_true h4.1, h4.2.1⟩
  | _ => exact absurd h3 Bool.false_ne_true
theorem fit_one {w : Str} {ps : List PyData} (hl : ps.length = 1) (h : fits [w] ps = true) : ∃ p, ps = [p] ∧ ofSort w p = true := by
  match ps, hl with
  | [p], _ =>
    have h' : (ofSort w p && true) = true := h
    rw [Bool.and_true] at h'
    exact ⟨p, rfl, h'⟩
theorem ring_shape {k : Str} {ps : List PyData} {ws : List Str} (hm : k ∈ [("ring" : Str), "table"]) (hk : kindsL.lookup k = some ws) (hl : ps.length = ws.length) (hf : fits ws ps = true) : ∃ xs, ps = [.list xs] := by
  have e : ws = [("some integers" : Str)] := by
    rcases List.mem_cons.mp hm with rfl | hm
    · exact Option.some.inj (hk.symm.trans (by decide +kernel))
    · obtain rfl := List.mem_singleton.mp hm
      exact Option.some.inj (hk.symm.trans (by decide +kernel))
  subst e
  obtain ⟨p, rfl, h⟩ := fit_one hl hf
  have h2 : areInts p 1 100 = true := h
  cases p with
  | list xs => exact ⟨xs, rfl⟩
  | _ => cases h2
theorem keep_shape {k : Str} {ps : List PyData} {ws : List Str} (hm : k ∈ [("keep" : Str), "until", "after"]) (hk : kindsL.lookup k = some ws) (hl : ps.length = ws.length) (hf : fits ws ps = true) : ∃ t : Tst, ps = [t.dat] ∧ t.nots < 4 := by
  have e : ws = [("test" : Str)] := by
    rcases List.mem_cons.mp hm with rfl | hm
    · exact Option.some.inj (hk.symm.trans (by decide +kernel))
    · rcases List.mem_cons.mp hm with rfl | hm
      · exact Option.some.inj (hk.symm.trans (by decide +kernel))
      · obtain rfl := List.mem_singleton.mp hm
        exact Option.some.inj (hk.symm.trans (by decide +kernel))
  subst e
  obtain ⟨p, rfl, h⟩ := fit_one hl hf
  obtain ⟨t, rfl, hn, _⟩ := test_shape (d := p) h
  exact ⟨t, rfl, hn⟩
end Pw
set_option maxHeartbeats 1000000
/-! own_weight: its contract -/
namespace Pw
open PySem PySem.Spec PyProof.Rows L2
section
variable {P : Program} {w : World} {K : PySem.W.Frag} {mg : Str → Option Value} {base : Heap}
def spOwn (K : PySem.W.Frag) : Sp := fun vs H Q _ => ∃ x d, vs = [x] ∧ Dv K H x d ∧ isNode d = true ∧ ∀ H', Same H H' → Q (.int (ownW d)) H'
theorem ok_own (B : Blt mg) (G : DefOk P w K mg base CX0 4 "modulus_of" ["test"] (spModulus K 4)) (D : Dfn K mg "own_weight" sOwn ["node"]) : DefOk P w K mg base CX0 5 "own_weight" ["node"] (spOwn K) := D.ok fun f fd F => by
  refine F.ok scOwn (fun vs H Q E h => ?_) (fun cdv A outer s H vs Q E hr h => ?_)
  · obtain ⟨x, d, rfl, _⟩ := h
    rfl
  · obtain ⟨x, d, rfl, hx, hn, q⟩ := h
    have nd := scOwn.nd
    refine ⟨_, pss_cons (ps_asg (pv 0) (pg_tup rfl (pgs_cons (pg_name (i := 1) nd rfl (Or.inl rfl)) (pgs_cons (pg_name (i := 2) nd rfl (Or.inl rfl)) (pgs_cons (pg_name (i := 3) nd rfl (Or.inl rfl)) (pgs_cons (pg_name (i := 4) nd rfl (Or.inl rfl)) pgs_nil))))))
      (pss_cons (ps_if (pt_cmpR op_in_seq (pv 2) (pe_tup (pa_cons pe_str (pa_cons pe_str pa_nil))) (by rfl)) (pss_one (ps_ret (pe_callB call_len_seq (by rfl) B.len PySem.boot_len (pa_cons (pe_ix ix_tup (pv 3) pe_int (fun _ _ => rfl)) pa_nil)))) pss_nil)
      (pss_cons (ps_if (pt_cmpR op_in_seq (pv 2) (pe_tup (pa_cons pe_str (pa_cons pe_str (pa_cons pe_str pa_nil)))) (by rfl)) (pss_one (ps_ret (pe_def G hr pass0 (pa_cons (pe_ix ix_tup (pv 3) pe_int (fun _ _ => rfl)) pa_nil)))) pss_nil)
      (pss_cons (ps_if (pt_cmpR op_eq (pv 2) pe_str (nomark _)) (pss_one (ps_ret (pe_ix ix_tup (pv 3) pe_int (fun _ _ => rfl)))) pss_nil)
      (pss_cons (ps_if (PW.pt (pw_and (pt_cmpR op_eq (pv 2) pe_str (nomark _)) (pw_and1 (pt_cmpR op_eq (pe_ix ix_tup (pv 3) pe_int (fun _ _ => rfl)) pe_str (nomark _))))) (pss_one (ps_ret (pe_ix ix_tup (pv 3) pe_int (fun _ _ => rfl)))) pss_nil)
      (pss_cons (ps_if (pt_cmpR op_eq (pv 2) pe_str (nomark _)) (pss_one (ps_ret (pe_callB call_len_seq (by rfl) B.len PySem.boot_len (pa_cons (pv 4) pa_nil)))) pss_nil)
      (pss_cons (ps_if (pt_cmpR op_eq (pv 2) pe_str (nomark _)) (pss_one (ps_ret (pe_op op_sub (pe_callB call_len_seq (by rfl) B.len PySem.boot_len (pa_cons (pv 4) pa_nil)) pe_int))) pss_nil)
      (pss_one (ps_ret pe_int)))))))), ?_⟩
    obtain ⟨a, k, ps, zs, ws, rfl, lz, hk, hl, hf⟩ := params_shape hn
    have q : ∀ H', Same H H' → Q (.int (ownOf k ps (zs.map PyData.str))) H' := q
    cases hx with
    | @tup b ys es hb hyz hes =>
      match ys, hes with
      | [y1, y2, y3, y4], .cons h1 (.cons h2 (.cons h3 (.cons h4 .nil))) =>
        cases h2
        cases h3 with
        | @tup c xs es3 hc hcz hps =>
          cases h4 with
          | @lst l vs4 es4 hl4 hlz hes4 =>
            refine ⟨_, rfl, b, _, rfl, SqT.of hb, rfl, _, _, rfl, _, _, rfl, _, _, rfl, _, _, rfl, rfl, ?_⟩
            refine ⟨_, rfl, by decide, fun T1 n1 => ?_⟩
            have s1 : Same H (upd H T1 (.tup [.str "ring", .str "table"])) := same_upd n1
            refine ⟨T1, [.str "ring", .str "table"], rfl, .inr (SqT.of upd_same), rfl, rfl, _, rfl, ite2 (fun e1 => ?_) (fun e1 => ?_)⟩
            · have m1 : k ∈ [("ring" : Str), "table"] := of_decide_eq_true ((in_strs k [("ring" : Str), "table"]).symm.trans e1)
              obtain ⟨ds, rfl⟩ := ring_shape m1 hk hl hf
              have o : ownOf k [.list ds] (zs.map PyData.str) = ds.length := by
                unfold ownOf
                rw [if_pos m1]
              rw [o] at q
              match xs, hps with
              | [p1], .cons g1 .nil =>
                cases g1 with
                | @lst m1 vs5 es5 hm hmz hvs5 =>
                  rw [← hvs5.length] at q
                  exact ⟨_, rfl, c, _, _, _, rfl, rfl, SqT.of (s1 _ _ hc), atI_nat (j := 0) rfl, m1, _, rfl, .inl (SqL.of (s1 _ _ hm)), q _ s1⟩
            · have m1 : ¬ k ∈ [("ring" : Str), "table"] := fun m => e1 ((in_strs k [("ring" : Str), "table"]).trans (decide_eq_true m))
              refine ⟨_, rfl, by decide, fun T2 n2 => ?_⟩
              have s2 : Same H (upd (upd H T1 (.tup [.str "ring", .str "table"])) T2 (.tup [.str "keep", .str "until", .str "after"])) := s1.trans (same_upd n2)
              refine ⟨T2, [.str "keep", .str "until", .str "after"], rfl, .inr (SqT.of upd_same), rfl, rfl, _, rfl, ite2 (fun e2 => ?_) (fun e2 => ?_)⟩
              · have m2 : k ∈ [("keep" : Str), "until", "after"] := of_decide_eq_true ((in_strs k [("keep" : Str), "until", "after"]).symm.trans e2)
                obtain ⟨t, rfl, ht⟩ := keep_shape m2 hk hl hf
                have o : ownOf k [t.dat] (zs.map PyData.str) = modOf t := by
                  unfold ownOf
                  rw [if_neg m1, if_pos m2]
                  exact modD_dat 4 t ht
                rw [o] at q
                match xs, hps with
                | [p1], .cons g1 .nil => exact ⟨_, rfl, c, _, _, _, rfl, rfl, SqT.of (s2 _ _ hc), atI_nat (j := 0) rfl, p1, t, rfl, g1.same s2, ht, q _ s2⟩
              · have m2 : ¬ k ∈ [("keep" : Str), "until", "after"] := fun m => e2 ((in_strs k [("keep" : Str), "until", "after"]).trans (decide_eq_true m))
                have eqw : ∀ z : Str, decide (V.str k = V.str z) = decide (k = z) := fun z => by
                  by_cases h : k = z
                  · rw [decide_eq_true h, decide_eq_true (congrArg V.str h)]
                  · rw [decide_eq_false h, decide_eq_false (fun y => h (V.str.inj y))]
                refine ⟨_, rfl, rfl, _, rfl, ite2 (fun e3 => ?_) (fun e3 => ?_)⟩
                · have m3 : k = "stutter" := of_decide_eq_true ((eqw _).symm.trans e3)
                  subst m3
                  have e : ws = [("1 to 50" : Str)] := Option.some.inj (hk.symm.trans (by decide +kernel))
                  subst e
                  obtain ⟨p, rfl, hp⟩ := fit_one hl hf
                  obtain ⟨n, rfl⟩ := int_of (d := p) (lo := 1) (hi := 50) hp
                  have o : ownOf "stutter" [.int n] (zs.map PyData.str) = n := by
                    unfold ownOf
                    rw [if_neg m1, if_neg m2, if_pos rfl]
                  rw [o] at q
                  match xs, hps with
                  | [p1], .cons g1 .nil =>
                    cases g1
                    exact ⟨_, rfl, c, _, _, _, rfl, rfl, SqT.of (s2 _ _ hc), atI_nat (j := 0) rfl, q _ s2⟩
                · have m3 : ¬ k = "stutter" := fun z => e3 ((eqw _).trans (decide_eq_true z))
                  refine ⟨_, rfl, rfl, _, rfl, ite2 (fun e4 => ?_) (fun e4 => ?_)⟩
                  · have m4 : k = "batch" := of_decide_eq_true ((eqw _).symm.trans e4)
                    subst m4
                    have e : ws = [("from 1" : Str), "batch how", "batch rest"] := Option.some.inj (hk.symm.trans (by decide +kernel))
                    subst e
                    obtain ⟨n, t, e, rfl⟩ := batch_shape hl hf
                    have o : ownOf "batch" [.int n, .str t, e] (zs.map PyData.str) = if t = "sum" then n else 1 := by
                      unfold ownOf
                      rw [if_neg m1, if_neg m2, if_neg m3, if_pos rfl]
                    rw [o] at q
                    match xs, hps with
                    | [p1, p2, p3], .cons g1 (.cons g2 (.cons g3 .nil)) =>
                      cases g1
                      cases g2
                      refine ⟨_, rfl, c, _, _, _, rfl, rfl, SqT.of (s2 _ _ hc), atI_nat (j := 1) rfl, rfl, _, rfl, ?_⟩
                      by_cases e5 : t = "sum"
                      · rw [if_pos e5] at q
                        rw [decide_eq_true (congrArg V.str e5)]
                        exact ⟨_, rfl, c, _, _, _, rfl, rfl, SqT.of (s2 _ _ hc), atI_nat (j := 0) rfl, q _ s2⟩
                      · rw [if_neg e5] at q
                        rw [decide_eq_false (fun y => e5 (V.str.inj y))]
                        exact ⟨_, rfl, rfl, _, rfl, _, rfl, rfl, _, rfl, q _ s2⟩
                  · have m4 : ¬ k = "batch" := fun z => e4 ((eqw _).trans (decide_eq_true z))
                    have lv : vs4.length = zs.length := by
                      rw [hes4.length, List.length_map]
                    refine ⟨_, rfl, rfl, _, rfl, ite2 (fun e5 => ?_) (fun e5 => ?_)⟩
                    · have m5 : k = "turns" := of_decide_eq_true ((eqw _).symm.trans e5)
                      have o : ownOf k ps (zs.map PyData.str) = vs4.length := by
                        unfold ownOf
                        rw [if_neg m1, if_neg m2, if_neg m3, if_neg m4, if_pos m5, List.length_map, lv]
                      rw [o] at q
                      exact ⟨_, rfl, l, _, rfl, .inl (SqL.of (s2 _ _ hl4)), q _ s2⟩
                    · have m5 : ¬ k = "turns" := fun z => e5 ((eqw _).trans (decide_eq_true z))
                      refine ⟨_, rfl, rfl, _, rfl, ite2 (fun e6 => ?_) (fun e6 => ?_)⟩
                      · have m6 : k = "choose" := of_decide_eq_true ((eqw _).symm.trans e6)
                        have o : ownOf k ps (zs.map PyData.str) = (vs4.length : Int) - 1 := by
                          unfold ownOf
                          rw [if_neg m1, if_neg m2, if_neg m3, if_neg m4, if_neg m5, if_pos m6, List.length_map, lv]
                        rw [o] at q
                        exact ⟨_, rfl, l, _, rfl, .inl (SqL.of (s2 _ _ hl4)), _, _, rfl, rfl, q _ s2⟩
                      · have m6 : ¬ k = "choose" := fun z => e6 ((eqw _).trans (decide_eq_true z))
                        have o : ownOf k ps (zs.map PyData.str) = 1 := by
                          unfold ownOf
                          rw [if_neg m1, if_neg m2, if_neg m3, if_neg m4, if_neg m5, if_neg m6]
                        rw [o] at q
                        exact q _ s2
end
end Pw
set_option maxHeartbeats 1000000
/-! the class Net: node_list -/
namespace Pw
open PySem PySem.Spec PyProof.Rows L2
abbrev sNet : Stmt := topS 45
def clsBody : Stmt → List Stmt
  | .ClassDef (body := b) .. => b
  | _ => []
def netM (i : Nat) : Stmt := (clsBody sNet).getD i (.Pass ⟨0, 0, 0, 0⟩)
abbrev sNetInit : Stmt := netM 0
abbrev sNodeList : Stmt := netM 6
theorem scNodeList : FnScope ["self"] ["self"] (defScope sNodeList) := ⟨rfl, rfl, rfl, by decide +kernel, rfl, by decide +kernel, by decide +kernel⟩
section
variable {P : Program} {w : World} {K : PySem.W.Frag} {mg : Str → Option Value} {base : Heap} {C : Addr}
/-- a net at a: its own list of nodes -/
def spNodeList (K : PySem.W.Frag) (C : Addr) (n : Nat) : Sp := fun vs H Q _ => ∃ (a dx : Addr) (fs : List (Str × V)) (v : V) (d : PyData), vs = [.ref a] ∧ H a = some (.ins C dx fs) ∧ fs.lookup ("_nodes" : Str) = some v ∧ Dv K H v d ∧ dpB n d = true ∧ ∀ y H', Same H H' → Dv K (newOf H H') y d → Q y H'
theorem ok_nodeList {f : Addr} {fd : FuncData} {n : Nat} (c : Cls K C) (na : NoAttr K C "_nodes") (G : DefOk P w K mg base CX0 n "copied" ["value"] (spCopied K n)) (F : Fun K "node_list" "Net.node_list" sNodeList f fd) : FnOk P w K mg base CX0 (n + 1) f fd ["self"] (spNodeList K C n) := by
  refine F.ok scNodeList (fun vs H Q E h => ?_) (fun cdv A outer s H vs Q E hr h => ?_)
  · obtain ⟨a, dx, fs, v, d, rfl, _⟩ := h
    rfl
  · obtain ⟨a, dx, fs, v, d, rfl, ha, hl, hv, hd, q⟩ := h
    refine ⟨_, pss_one (ps_ret (pe_def G hr pass0 (pa_cons (pe_fld (pv 0) (by rfl)) pa_nil) (Nat.le_refl _))), ?_⟩
    exact ⟨_, rfl, a, C, dx, fs, v, rfl, ha, c, na, hl, v, d, rfl, hv, hd, q⟩
end
end Pw
set_option maxHeartbeats 1000000
/-! a dict comprehension with two clauses -/
namespace Dc
open PySem PySem.Spec PyProof.Rows L2
section
variable {kx vx t0 i0 t1 i1 : Expr} {c0 c1 : List Expr} {sc : Scope} {ps : Pos} {it : Value} {D : Addr} {env : Env}
/-- the expression -/
abbrev two (kx vx t0 i0 t1 i1 : Expr) (c0 c1 : List Expr) (sc : Scope) (ps : Pos) : Expr := .DictComp kx vx [⟨t0, i0, c0, 0⟩, ⟨t1, i1, c1, 0⟩] sc ps
abbrev checks (env : Env) (cs : List Expr) : Sem Bool :=
  forIn cs true fun c r =>
    if r = true then do
      let b ← isTrue c env (eval c env)
      pure (ForInStep.yield b)
    else pure (ForInStep.yield r)
theorem outer_is : compTurn (two kx vx t0 i0 t1 i1 c0 c1 sc ps) 0 it (.ref D) env = (do
    standAt i0.pos
    match ← pyNext it with
    | none => pure (.done .next)
    | some x =>
      letOwnedTupleGo t0 it x
      assign t0 env x
      let b ← checks env c0
      if b then
        let y ← eval i1 env
        standAt i1.pos
        let y ← foldedSetIterable i1 env y
        let _ ← runOwn (.compStart (two kx vx t0 i0 t1 i1 c0 c1 sc ps) 1 (← holding [y] (pyIter y)) (.ref D) env) env
      again (.compLoop (two kx vx t0 i0 t1 i1 c0 c1 sc ps) 0 it (.ref D) env)) := by rfl
theorem inner_is : compTurn (two kx vx t0 i0 t1 i1 c0 c1 sc ps) 1 it (.ref D) env = (do
    standAt i1.pos
    match ← pyNext it with
    | none => pure (.done .next)
    | some x =>
      letOwnedTupleGo t1 it x
      assign t1 env x
      let b ← checks env c1
      if b then
        (do
          let k ← eval kx env
          let v ← holding [k] (eval vx env)
          standAt { kx.pos with endLine := vx.pos.endLine, endCol := vx.pos.endCol }
          holding [k, v] (dictSet D k v))
      again (.compLoop (two kx vx t0 i0 t1 i1 c0 c1 sc ps) 1 it (.ref D) env)) := by rfl
end
/-! ### the loops -/
section
variable {prog : Program} {w : World} {A : Around} {R : Result → Shared → Prop}
variable {kx vx t0 i0 t1 i1 : Expr} {c0 c1 : List Expr} {sc : Scope} {ps : Pos} {it : Value} {D : Addr} {env : Env}
/-- what is asked where something is raised -/
abbrev bad (prog : Program) (w : World) (A : Around) (env : Env) (R : Result → Shared → Prop) : Value → Shared → Prop :=
  notedBy (model prog w) A env fun e s => R (.error e) s
/-- a turn's head: the next item, its target, the tests -/
def head (prog : Program) (w : World) (A : Around) (env : Env) (R : Result → Shared → Prop) (tgt : Expr) (it : Value) (cs : List Expr) (yes no : Shared → Prop) (s : Shared) : Prop :=
  wpAny (model prog w) A (pyNext it) (fun r s1 => match r with
    | none => R (.ok .next) s1
    | some x => wpAny (model prog w) A (letOwnedTupleGo tgt it x) (fun _ s2 =>
        wpAny (model prog w) A (assign tgt env x) (fun _ s3 =>
          wpAny (model prog w) A (checks env cs) (fun b s4 => if b = true then yes s4 else no s4)
            (bad prog w A env R) s3) (bad prog w A env R) s2) (bad prog w A env R) s1) (bad prog w A env R) s
theorem inner_loop (J : Nat → Shared → Prop)
    (turn : ∀ n s, J n s → head prog w A env R t1 it c1
      (fun s4 => wpAny (model prog w) A (eval kx env) (fun k s5 => wpAny (model prog w) A (eval vx env) (fun v s6 =>
        wpAny (model prog w) A (dictSet D k v) (fun _ s7 => ∃ m, m < n ∧ J m s7) (bad prog w A env R) s6) (bad prog w A env R) s5) (bad prog w A env R) s4)
      (fun s4 => ∃ m, m < n ∧ J m s4) s) (n : Nat) {s : Shared} (h : J n s) :
    codeAny (model prog w) A (.compLoop (two kx vx t0 i0 t1 i1 c0 c1 sc ps) 1 it (.ref D) env) R s := by
  refine codeAny_loop rfl J (fun n s hJ => ?_) n h
  show wpAny _ A ((compTurn (two kx vx t0 i0 t1 i1 c0 c1 sc ps) 1 it (.ref D) env).onRaise _) _ _ s
  refine wpAny_noted ?_
  rw [inner_is]
  have go := turn n s hJ
  unfold head at go
  refine wpAny_bind (wpAny_standAt (wpAny_bind (wpAny_mono go (fun r s1 a1 => ?_) fun _ _ z => z)))
  cases r with
  | none => exact wpAny_pure a1
  | some x =>
    refine wpAny_bind (wpAny_mono a1 (fun _ s2 a2 => wpAny_bind (wpAny_mono a2 (fun _ s3 a3 => wpAny_bind (wpAny_mono a3 (fun b s4 a4 => ?_) fun _ _ z => z)) fun _ _ z => z)) fun _ _ z => z)
    cases b with
    | false => exact wpAny_pure ⟨rfl, a4⟩
    | true =>
      refine wpAny_bind (wpAny_bind (wpAny_mono a4 (fun k s5 a5 => ?_) fun _ _ z => z))
      refine wpAny_bind (wpAny_holding (wpAny_mono a5 (fun v s6 a6 => ?_) fun _ _ z => z))
      exact wpAny_bind (wpAny_standAt (wpAny_holding (wpAny_mono a6 (fun _ s7 a7 => wpAny_pure ⟨rfl, a7⟩) fun _ _ z => z)))
theorem outer_loop (fold : ∀ y, foldedSetIterable i1 env y = pure y) (J : Nat → Shared → Prop)
    (turn : ∀ n s, J n s → head prog w A env R t0 it c0
      (fun s4 => wpAny (model prog w) A (eval i1 env) (fun y s5 => wpAny (model prog w) A (pyIter y) (fun z s6 =>
        codeAny (model prog w) A (.compStart (two kx vx t0 i0 t1 i1 c0 c1 sc ps) 1 z (.ref D) env) (fun r s7 => match r with
          | .ok _ => ∃ m, m < n ∧ J m s7
          | .error _ => False) s6) (bad prog w A env R) s5) (bad prog w A env R) s4)
      (fun s4 => ∃ m, m < n ∧ J m s4) s) (n : Nat) {s : Shared} (h : J n s) :
    codeAny (model prog w) A (.compLoop (two kx vx t0 i0 t1 i1 c0 c1 sc ps) 0 it (.ref D) env) R s := by
  refine codeAny_loop rfl J (fun n s hJ => ?_) n h
  show wpAny _ A ((compTurn (two kx vx t0 i0 t1 i1 c0 c1 sc ps) 0 it (.ref D) env).onRaise _) _ _ s
  refine wpAny_noted ?_
  rw [outer_is]
  have go := turn n s hJ
  unfold head at go
  refine wpAny_bind (wpAny_standAt (wpAny_bind (wpAny_mono go (fun r s1 a1 => ?_) fun _ _ z => z)))
  cases r with
  | none => exact wpAny_pure a1
  | some x =>
    refine wpAny_bind (wpAny_mono a1 (fun _ s2 a2 => wpAny_bind (wpAny_mono a2 (fun _ s3 a3 => wpAny_bind (wpAny_mono a3 (fun b s4 a4 => ?_) fun _ _ z => z)) fun _ _ z => z)) fun _ _ z => z)
    cases b with
    | false => exact wpAny_pure ⟨rfl, a4⟩
    | true =>
      refine wpAny_bind (wpAny_mono a4 (fun y s5 a5 => ?_) fun _ _ z => z)
      refine wpAny_bind (wpAny_standAt (wpAny_bind (wpAny_of_eq (fold y) (wpAny_bind (wpAny_holding (wpAny_mono a5 (fun z s6 a6 => ?_) fun _ _ z => z))))))
      refine wpAny_bind (wpAny_runOwn ?_)
      rw [Around.mark_none]
      refine codeAny_mono a6 fun r s7 a7 => ?_
      cases r with
      | ok f => first | exact wpAny_pure ⟨rfl, a7⟩ | exact wpAny_bind (wpAny_pure (wpAny_pure ⟨rfl, a7⟩))
      | error e => exact a7.elim
/-- the second clause begins: its source is an iterator already -/
theorem second_start {s : Shared} (h0 : codeAny (model prog w) A (.compLoop (two kx vx t0 i0 t1 i1 c0 c1 sc ps) 1 it (.ref D) env) R s)
    (h : wpAny (model prog w) A (pyIter it) (fun z s1 => codeAny (model prog w) A (.compLoop (two kx vx t0 i0 t1 i1 c0 c1 sc ps) 1 z (.ref D) env) R s1) (bad prog w A env R) s) :
    codeAny (model prog w) A (.compStart (two kx vx t0 i0 t1 i1 c0 c1 sc ps) 1 it (.ref D) env) R s := by
  refine codeAny_of_tree ?_
  show wpAny _ A ((compStart (two kx vx t0 i0 t1 i1 c0 c1 sc ps) 1 it (.ref D) env).onRaise (fun x => do noteFrame x env; standAt theWindowsPlace)) _ _ s
  refine wpAny_notedAt ?_
  unfold compStart
  show wpAny _ A (ask >>= _) _ _ s
  refine wpAny_bind (wpAny_askSetting (wpAny_ite ?_))
  split
  · first
      | exact wpAny_bind (wpAny_pure (wpAny_pure (And.intro rfl h0)))
      | exact wpAny_pure (And.intro rfl h0)
  · have back : ∀ z s1, codeAny (model prog w) A (.compLoop (two kx vx t0 i0 t1 i1 c0 c1 sc ps) 1 z (.ref D) env) R s1 → True ∧ codeAny (model prog w) A (.compLoop (two kx vx t0 i0 t1 i1 c0 c1 sc ps) 1 z (.ref D) env) R s1 := fun z s1 x => ⟨trivial, x⟩
    refine wpAny_bind (wpAny_rule ?_)
    show wpAny _ _ (standAt i1.pos >>= _) _ _ s
    refine wpAny_bind (wpAny_standAt (wpAny_bind (wpAny_mono h (fun z s1 x => ?_) fun _ _ x => x)))
    exact wpAny_pure ⟨rfl, x⟩
end
/-! ### the rule -/
section
variable {X : Cx}
/-- a walk's questions: Go is asked for each item, Fin at the end; N: what a turn leads to -/
def tWalk (J : It) (H0 : Hp) (Fin : Hp → Prop) (Go : V → Hp → (Hp → Prop) → Prop) : Prop := ∃ W : Nat → Nat → Hp → Prop,
  (∃ m, W 0 m H0) ∧ ∀ i m H, W i m H → (J.stop i H ∧ Fin H) ∨ (J.go i H ∧ ∃ N : Hp → Prop, (∀ H', N H' → ∃ m', m' < m ∧ W (i + 1) m' H') ∧ ∀ x H', J.yld i H x H' → Go x H' N)
/-- {k: v for t0 in i0 if c0 for t1 in i1 if c1}; vs: the block's names, us: those of the second target -/
def tDc2 (wi : TI) (g : TG) (tt : TT) (wi1 : TI) (g1 : TG) (tt1 : TT) (tk tv : TE) (vs us : List Nat) : TE := fun σ H Q =>
  wi σ H fun J H1 => ∀ D, H1 D = none → tWalk J (upd H1 D (.dK [])) (Q (.ref D)) fun x H' N =>
    g x (wipe σ vs) H' fun σ2 H2 => wipe σ2 vs = wipe σ vs ∧ tt σ2 H2 fun b H3 =>
      if b = true then wi1 σ2 H3 fun J1 H4 => tWalk J1 H4 N fun x1 H5 N1 =>
        g1 x1 (wipe σ2 us) H5 fun σ3 H6 => wipe σ3 us = wipe σ2 us ∧ tt1 σ3 H6 fun b1 H7 =>
          if b1 = true then tk σ3 H7 fun y H8 => tv σ3 H8 fun z H9 => ∃ kvs k, y = kV k ∧ H9 D = some (.dK kvs) ∧ kvs.length < sizeLine ∧ N1 (upd H9 D (.dK (putK kvs k z)))
          else N1 H7
      else N H3
theorem kept_pin {Y : Cx} {pins : List (Addr × Obj)} {fp : List Addr} {hp : Heap} {σ : L2.St} {H : Hp} {s : Shared} (I : Inv Y (pins ++ pinsAt fp hp) σ H s) : ∀ b ∈ fp, ∀ o, hp.get? b = some o → s.heap.get? b = some o ∧ H b = none := fun b hb o e =>
  have z := I.pin (b, o) (List.mem_append_right _ (List.mem_append_right _ (mem_pinsAt hb e)))
  ⟨z.1, z.2.1⟩
variable {kx vx t0 i0 t1 i1 : Expr} {c0 c1 : List Expr} {scope : Scope} {ps pos' : Pos} {own : List (Str × Nat)} {us : List Nat} {wi wi1 : TI} {g g1 : TG} {tt tt1 : TT} {tk tv : TE}
/-- a turn that has an item -/
theorem head_go {Y : Cx} {R : Result → Shared → Prop} {tg : Expr} {cs : List Expr} {g : TG} {tt : TT} {J : It} {fp : List Addr} {it : Addr} {tn : Nat → Heap → Prop} {yes no : Shared → Prop} {pins : List (Addr × Obj)} {i : Nat} {H : Hp} {s : Shared} {σ0 : L2.St} {us : List Nat} {S : Bool → L2.St → Hp → Prop}
    (hx : ∀ e s, ¬ Y.xe e s) (hc : Y.calm = true) (pg : PG Y tg g) (pt : PTs Y cs tt) (T : Turn Y.prog Y.w Y.K tg J fp it tn) (I : Inv Y pins (wipe σ0 us) H s) (free : ∀ b ∈ fp, FpOk Y pins H b) (here : tn i s.heap) (go : J.go i H)
    (free' : ∀ H' s', Inv Y pins (wipe σ0 us) H' s' → (∀ b ∈ fp, H' b = none) → ∀ b ∈ fp, FpOk Y pins H' b)
    (step : ∀ x H', J.yld i H x H' → g x (wipe σ0 us) H' fun σ2 H2 => wipe σ2 us = wipe σ0 us ∧ tt σ2 H2 fun b H3 => S b σ2 H3)
    (rest : ∀ (b : Bool) (hp : Heap) (σ2 : L2.St) (H3 : Hp) (s' : Shared), tn (i + 1) hp → Inv Y (pins ++ pinsAt fp hp) σ2 H3 s' → wipe σ2 us = wipe σ0 us → S b σ2 H3 → if b = true then yes s' else no s') :
    head Y.prog Y.w Y.A Y.env R tg (.ref it) cs yes no s := by
  unfold head
  have none : ∀ {E : Value → Shared → Prop} e s, Y.xe e s → E e s := fun e s z => (hx e s z).elim
  refine thnF (T.item Y rfl rfl rfl hc i pins s _ H _ I free here go) fun r s1 got => ?_
  obtain ⟨u, rfl, more⟩ := got
  refine thnF more fun _ s2 got => ?_
  obtain ⟨x, H1, I1, rel, yld, at1, none1⟩ := got
  have I2 := I1.pinned (free' H1 s2 I1 none1) (T.obj _ _ at1)
  refine wpAny_mono (pg.run _ s2 _ H1 x u _ I2 rel (step x H1 yld)) (fun _ s3 got => ?_) none
  obtain ⟨σ2, H2, I3, wi, q⟩ := got
  refine wpAny_mono (pt.run _ s3 σ2 H2 _ I3 q) (fun b s4 got => ?_) none
  obtain ⟨H3, I4, q4⟩ := got
  exact rest b _ σ2 H3 s4 at1 I4 wi q4
theorem head_stop {Y : Cx} {R : Result → Shared → Prop} {tg : Expr} {cs : List Expr} {J : It} {fp : List Addr} {it : Addr} {tn : Nat → Heap → Prop} {yes no : Shared → Prop} {pins : List (Addr × Obj)} {i : Nat} {H : Hp} {s : Shared} {σ0 : L2.St}
    (hc : Y.calm = true) (T : Turn Y.prog Y.w Y.K tg J fp it tn) (I : Inv Y pins σ0 H s) (free : ∀ b ∈ fp, FpOk Y pins H b) (here : tn i s.heap) (stop : J.stop i H) (out : ∀ s', Inv Y pins σ0 H s' → R (.ok .next) s') :
    head Y.prog Y.w Y.A Y.env R tg (.ref it) cs yes no s := by
  unfold head
  refine thnF (T.done Y rfl rfl rfl hc i pins s _ H _ I free here stop) fun r s1 got => ?_
  obtain ⟨rfl, I1⟩ := got
  exact out s1 I1
/-- all of the second clause's turns -/
theorem inner_all {Y : Cx} {D : Addr} {it1 : Addr} {fp1 : List Addr} {tn1 : Nat → Heap → Prop} {J1 : It} {pins : List (Addr × Obj)} {σ8 : L2.St} {H : Hp} {s : Shared} {N : Hp → Prop} {R : Result → Shared → Prop} (hx : ∀ e s, ¬ Y.xe e s) (hc : Y.calm = true)
    (pg1 : PG Y t1 g1) (pt1 : PTs Y c1 tt1) (pk : PE Y kx tk) (pe : PE Y vx tv) (T1 : Turn Y.prog Y.w Y.K t1 J1 fp1 it1 tn1) (I : Inv Y pins σ8 H s) (here : tn1 0 s.heap) (free : ∀ b ∈ fp1, FpOk Y pins H b)
    (q : tWalk J1 H N fun x1 H5 N1 => g1 x1 (wipe σ8 us) H5 fun σ3 H6 => wipe σ3 us = wipe σ8 us ∧ tt1 σ3 H6 fun b1 H7 =>
      if b1 = true then tk σ3 H7 fun y H8 => tv σ3 H8 fun z H9 => ∃ kvs k, y = kV k ∧ H9 D = some (.dK kvs) ∧ kvs.length < sizeLine ∧ N1 (upd H9 D (.dK (putK kvs k z))) else N1 H7)
    (out : ∀ H' s', Inv Y pins (wipe σ8 us) H' s' → N H' → R (.ok .next) s') :
    codeAny (model Y.prog Y.w) Y.A (.compStart (two kx vx t0 i0 t1 i1 c0 c1 scope ps) 1 (.ref it1) (.ref D) Y.env) R s := by
  obtain ⟨W, ⟨m0, w0⟩, turn⟩ := q
  have all : codeAny (model Y.prog Y.w) Y.A (.compLoop (two kx vx t0 i0 t1 i1 c0 c1 scope ps) 1 (.ref it1) (.ref D) Y.env) R s := by
    refine inner_loop (fun k s' => ∃ j H', Inv Y pins (wipe σ8 us) H' s' ∧ tn1 j s'.heap ∧ (∀ b ∈ fp1, H' b = none) ∧ W j k H') ?_ m0 ⟨0, H, I.weak (wipe_length _ _) (fun j v e => (wipe_some e).1), here, fun b hb => (free b hb).1, w0⟩
    rintro k s1 ⟨j, H1, I1, at1, none1, w1⟩
    have fr : ∀ H' s', Inv Y pins (wipe σ8 us) H' s' → (∀ b ∈ fp1, H' b = none) → ∀ b ∈ fp1, FpOk Y pins H' b := fun H' s' _ hn b hb => ⟨hn b hb, (free b hb).2⟩
    rcases turn j k H1 w1 with ⟨stop, nx⟩ | ⟨go, N1, hN1, step⟩
    · exact head_stop hc T1 I1 (fr H1 s1 I1 none1) at1 stop fun s2 I2 => out H1 s2 I2 nx
    · refine head_go hx hc pg1 pt1 T1 I1 (fr H1 s1 I1 none1) at1 go fr step fun b hp σ3 H3 s3 at3 I3 wi q3 => ?_
      have fin : ∀ {s' : Shared} {H' : Hp}, Inv Y (pins ++ pinsAt fp1 hp) σ3 H' s' → N1 H' → ∃ m, m < k ∧ ∃ j H', Inv Y pins (wipe σ8 us) H' s' ∧ tn1 j s'.heap ∧ (∀ b ∈ fp1, H' b = none) ∧ W j m H' := fun {s' H'} I' nx => by
        obtain ⟨m', lt, w'⟩ := hN1 H' nx
        refine ⟨m', lt, j + 1, H', I'.unpinned.weak (by rw [← wi, wipe_length]) (fun j v e => by rw [← wi] at e; exact (wipe_some e).1), T1.keep _ _ _ at3 fun b hb o e => (kept_pin I' b hb o e).1, fun b hb => ?_, w'⟩
        obtain ⟨o, e, _⟩ := T1.obj _ _ at3 b hb
        exact (kept_pin I' b hb o e).2
      cases b with
      | false => exact fin I3 q3
      | true =>
        have none : ∀ {E : Value → Shared → Prop} e s, Y.xe e s → E e s := fun e s z => (hx e s z).elim
        refine wpAny_mono (pk.run _ s3 σ3 H3 _ I3 q3) (fun z s4 got => ?_) none
        obtain ⟨yk, H4, I4, r4, q4⟩ := got
        refine wpAny_mono (pe.run _ s4 σ3 H4 _ I4 q4) (fun z2 s5 got => ?_) none
        obtain ⟨yv, H5, I5, r5, kvs, k2, rfl, hD, hz, nx⟩ := got
        exact d_dictSet I5 hD hz r4 r5 fun s6 I6 => fin I6 nx
  exact second_start all (T1.self Y.A 0 _ _ _ here all)
theorem dc2_core {pins : List (Addr × Obj)} {s : Shared} {σ : L2.St} {H : Hp} {Q : VK} {use : Option (Value → Sem Unit)} {Qf : Value → Shared → Prop}
    (hc : X.calm = true) (hN : X.N.Nodup) (I : Inv X pins σ H s) (hi : PI X t0 i0 wi) (ok : BlkOk X.N X.env.scope scope own) (hv : ∀ i ∈ us, i ∈ own.map (·.2))
    (a0 : ∀ (s : Shared) (H : Hp) (C : Addr) (cl : List (Str × Addr)) (fp : List Addr), PG (X.blk s H scope (compEnvC scope cl C X.env) fp) t0 g)
    (a1 : ∀ (s : Shared) (H : Hp) (C : Addr) (cl : List (Str × Addr)) (fp : List Addr), PTs (X.blk s H scope (compEnvC scope cl C X.env) fp) c0 tt)
    (a2 : ∀ (s : Shared) (H : Hp) (C : Addr) (cl : List (Str × Addr)) (fp : List Addr), PI (X.blk s H scope (compEnvC scope cl C X.env) fp) t1 i1 wi1)
    (a3 : ∀ (s : Shared) (H : Hp) (C : Addr) (cl : List (Str × Addr)) (fp : List Addr), PG (X.blk s H scope (compEnvC scope cl C X.env) fp) t1 g1)
    (a4 : ∀ (s : Shared) (H : Hp) (C : Addr) (cl : List (Str × Addr)) (fp : List Addr), PTs (X.blk s H scope (compEnvC scope cl C X.env) fp) c1 tt1)
    (a5 : ∀ (s : Shared) (H : Hp) (C : Addr) (cl : List (Str × Addr)) (fp : List Addr), PE (X.blk s H scope (compEnvC scope cl C X.env) fp) kx tk)
    (a6 : ∀ (s : Shared) (H : Hp) (C : Addr) (cl : List (Str × Addr)) (fp : List Addr), PE (X.blk s H scope (compEnvC scope cl C X.env) fp) vx tv)
    (hs : ∀ x, foldedSetIterable i0 X.env x = pure x) (hs1 : ∀ env x, foldedSetIterable i1 env x = pure x)
    (h : tDc2 wi g tt wi1 g1 tt1 tk tv (own.map (·.2)) us σ H Q)
    (fin : ∀ D C s' m H', Inv X pins σ H' s' → Q (.ref D) H' → s'.heap.Ns C m → FpOk X pins H' C → compPost (model X.prog X.w) X.A X.xe use Qf (.ref D) C (.ok .next) s') :
    wpAny (model X.prog X.w) X.A (comprehension (two kx vx t0 i0 t1 i1 c0 c1 scope ps) scope X.env pos' newDict false (eval i0 X.env) use) Qf X.xe s := by
  have cellsOf : ∀ y ∈ scope.names, y.2 = .free → ∃ c, X.env.cells.lookup y.1 = some c := fun y hy e => (ok.free y hy e).elim (fun k => I.ok.has _ (.inl k)) (fun k => I.ok.has _ (.inr k))
  refine wpAny_comprehension_free (use := use) rfl hs (closure_ok cellsOf) ok.kind (fun y hy e => by rw [ok.uniq y hy, e])
    (thn (hi.run pins s σ H _ I h) fun xv s1 hx => thn hx fun itv s2 got => ?_)
  obtain ⟨it, fp, tn, J, H2, rfl, I2, T, at2, free2, ask⟩ := got
  refine wpAny_newObj_type (newEnv_comp ?_)
  generalize hD : s2.heap.objs.size = D
  obtain ⟨W, ⟨m0, w0⟩, turn⟩ := ask D (I2.hok.fresh (Nat.le_of_eq hD))
  -- the new dict
  generalize hs3 : ({ s2 with heap := s2.heap.push { cls := .type "dict", data := .dict #[] } } : Shared) = s3
  have h3 : s3.heap = s2.heap.push { cls := .type "dict", data := .dict #[] } := by rw [← hs3]
  have I3 : Inv X pins σ (upd H2 D (.dK [])) s3 := by
    subst hs3
    refine I2.laid (t' := s2.toks) (fun b o e => Heap.get?_push_of_some _ e) (Nat.le_of_eq hD) ?_
    subst hD
    exact dk_empty s2.heap I2.big
  have below : ∀ b ∈ fp, b < s2.heap.objs.size := fun b hb => (T.obj _ _ at2 b hb).elim fun o e => Heap.lt_size e.1
  generalize hH3 : upd H2 D (.dK []) = H3 at I3 w0
  have none3 : ∀ b ∈ fp, H3 b = none := fun b hb => by
    have ne : b ≠ D := Nat.ne_of_lt (Nat.lt_of_lt_of_le (below b hb) (Nat.le_of_eq hD))
    rw [← hH3, upd_ne ne]
    exact (free2 b hb).1
  have free3 : ∀ b ∈ fp, FpOk X pins H3 b ∧ b < s3.heap.objs.size := fun b hb => by
    refine ⟨⟨none3 b hb, (free2 b hb).2⟩, ?_⟩
    rw [h3, Heap.size_push]
    exact Nat.lt_succ_of_lt (below b hb)
  have at3 : tn 0 s3.heap := T.keep _ _ _ at2 fun b _ o e => by
    rw [h3]
    exact Heap.get?_push_of_some _ e
  have I4 := block_start I3 ok hN free3
  have arg : ∀ {p : Shared → Hp → Addr → List (Str × Addr) → List Addr → Prop}, (∀ s H C cl fp, p s H C cl fp) → p s3 H3 s3.heap.objs.size (cellsFrom (s3.heap.objs.size + 1) scope.names (cloFrom X.env.cells scope.names [])) fp := fun h => h _ _ _ _ _
  have pg := arg a0
  have pt := arg a1
  have pi1 := arg a2
  have pg1 := arg a3
  have pt1 := arg a4
  have pk := arg a5
  have pe := arg a6
  clear arg
  show codeAny _ _ (.compStart (two kx vx t0 i0 t1 i1 c0 c1 scope ps) 0 (.ref it) (.ref D) (compEnvC scope (cellsFrom (s3.heap.objs.size + 1) scope.names (cloFrom X.env.cells scope.names [])) s3.heap.objs.size X.env))
    (compPost (model X.prog X.w) X.A X.xe use Qf (.ref D) s3.heap.objs.size) { s3 with heap := pushCells (s3.heap.push { cls := .type "dict", data := .dict #[] }) scope.names }
  generalize hC : s3.heap.objs.size = C at I4 pg pt pi1 pg1 pt1 pk pe free3 ⊢
  generalize hce : compEnvC scope (cellsFrom (C + 1) scope.names (cloFrom X.env.cells scope.names [])) C X.env = ce at I4 pg pt pi1 pg1 pt1 pk pe ⊢
  have locs : ce.locals = C := by rw [← hce]; rfl
  generalize hs4 : ({ s3 with heap := pushCells (s3.heap.push { cls := .type "dict", data := .dict #[] }) scope.names } : Shared) = s4 at I4 ⊢
  have at4 : tn 0 s4.heap := T.keep _ _ _ at3 fun b _ o e => by
    rw [← hs4]
    exact pushCells_keeps _ _ _ _ (Heap.get?_push_of_some _ e)
  have stat : ∀ {pins' : List (Addr × Obj)} {σ' : L2.St} {H' : Hp} {s' : Shared}, pins' = [] → Inv (X.blk s3 H3 scope ce fp) pins' σ' H' s' → (∀ b ∈ fp, H' b = none) → ∀ b ∈ fp, FpOk (X.blk s3 H3 scope ce fp) pins' H' b := fun {pins' σ' H' s'} e I' hn b hb => by
    subst e
    exact ⟨hn b hb, (I'.ok.exf b hb).1, I'.ok.exfs b hb, .inl hb, fun x c e => (I'.ok.exf b hb).2 x c e, fun p hp => absurd (show p ∈ ([] : List (Addr × Obj)) ++ [] from hp) (by simp)⟩
  have calm : (X.blk s3 H3 scope ce fp).calm = true := hc
  have quiet : ∀ e s, ¬ (X.blk s3 H3 scope ce fp).xe e s := fun e s z => z
  have loop : codeAny (model X.prog X.w) X.A (.compLoop (two kx vx t0 i0 t1 i1 c0 c1 scope ps) 0 (.ref it) (.ref D) ce) (compPost (model X.prog X.w) X.A X.xe use Qf (.ref D) C) s4 := by
    refine outer_loop (hs1 ce) (fun n s' => ∃ i H', Inv (X.blk s3 H3 scope ce fp) [] (wipe σ (own.map (·.2))) H' s' ∧ tn i s'.heap ∧ (∀ b ∈ fp, H' b = none) ∧ W i n H') ?_ m0 ⟨0, H3, I4, at4, none3, w0⟩
    rintro n s5 ⟨i, H5, I5, at5, none5, w5⟩
    rcases turn i n H5 w5 with ⟨stop, qq⟩ | ⟨go, N, hN', step⟩
    · refine head_stop (Y := X.blk s3 H3 scope ce fp) calm T I5 (stat rfl I5 none5) at5 stop fun s6 I6 => ?_
      have I7 : Inv X pins σ H5 s6 := I3.call' (ch := fp) I6.os I6.base I6.hok I6.bare fun b hb => ⟨(free3 b hb).1.2.2.2.1, (free3 b hb).1.2.1, (free3 b hb).1.2.2.2.2.1, (free3 b hb).1.2.2.2.2.2⟩
      have nC : H5 C = none := by
        have z : H5 ce.locals = none := I6.free
        rwa [locs] at z
      obtain ⟨m, hn, _⟩ := I6.loc
      have hn : s6.heap.Ns ce.locals m := hn
      rw [locs] at hn
      exact fin D C s6 m H5 I7 qq hn (I3.fpOk (Nat.le_of_eq hC) nC)
    · refine head_go (Y := X.blk s3 H3 scope ce fp) quiet calm pg pt T I5 (stat rfl I5 none5) at5 go (fun H' s' I' hn => stat rfl I' hn) step fun b hp σ2 H6 s6 at6 I6 wi q6 => ?_
      have back : ∀ {σ9 : L2.St} {s' : Shared} {H' : Hp}, Inv (X.blk s3 H3 scope ce fp) ([] ++ pinsAt fp hp) σ9 H' s' → (wipe σ (own.map (·.2))).length = σ9.length → (∀ (j : Nat) v, (wipe σ (own.map (·.2)))[j]? = some (some v) → σ9[j]? = some (some v)) → N H' →
          ∃ m, m < n ∧ ∃ i H', Inv (X.blk s3 H3 scope ce fp) [] (wipe σ (own.map (·.2))) H' s' ∧ tn i s'.heap ∧ (∀ b ∈ fp, H' b = none) ∧ W i m H' := fun {σ9 s' H'} I' hl hk nx => by
        obtain ⟨m', lt, w'⟩ := hN' H' nx
        refine ⟨m', lt, i + 1, H', (I'.unpinned (pins := [])).weak hl hk, T.keep _ _ _ at6 fun b hb o e => (kept_pin I' b hb o e).1, fun b hb => ?_, w'⟩
        obtain ⟨o, e, _⟩ := T.obj _ _ at6 b hb
        exact (kept_pin I' b hb o e).2
      have len2 : (wipe σ (own.map (·.2))).length = σ2.length := by rw [← wi, wipe_length]
      cases b with
      | false => exact back I6 len2 (fun j v e => by rw [← wi] at e; exact (wipe_some e).1) q6
      | true =>
        have none : ∀ {E : Value → Shared → Prop} e s, (X.blk s3 H3 scope ce fp).xe e s → E e s := fun e s z => z.elim
        refine wpAny_mono (pi1.run _ s6 σ2 H6 _ I6 q6) (fun xv s7 got => wpAny_mono got (fun itv s8 got => ?_) none) none
        obtain ⟨it1, fp1, tn1, J1, H8, rfl, I8, T1, at8, free8, q8⟩ := got
        refine inner_all (Y := X.blk s3 H3 scope ce fp) (R := fun r s' => match r with
          | .ok _ => ∃ m, m < n ∧ ∃ i H', Inv (X.blk s3 H3 scope ce fp) [] (wipe σ (own.map (·.2))) H' s' ∧ tn i s'.heap ∧ (∀ b ∈ fp, H' b = Option.none) ∧ W i m H'
          | .error _ => False) quiet calm pg1 pt1 pk pe T1 I8 at8 free8 q8 fun H' s' I' nx => ?_
        refine back I' (len2.trans (wipe_length σ2 us).symm) (fun j v e => ?_) nx
        rw [← wi] at e
        obtain ⟨e1, e2⟩ := wipe_some e
        rw [wipe_out fun z => e2 (hv j z)]
        exact e1
  exact codeAny_compStart_dict loop (T.self X.A 0 _ _ _ at4 loop)
/-- as a value -/
theorem pe_dc2 (hc : X.calm = true) (hN : X.N.Nodup) (hi : PI X t0 i0 wi) (ok : BlkOk X.N X.env.scope scope own) (hv : ∀ i ∈ us, i ∈ own.map (·.2))
    (a0 : ∀ (s : Shared) (H : Hp) (C : Addr) (cl : List (Str × Addr)) (fp : List Addr), PG (X.blk s H scope (compEnvC scope cl C X.env) fp) t0 g)
    (a1 : ∀ (s : Shared) (H : Hp) (C : Addr) (cl : List (Str × Addr)) (fp : List Addr), PTs (X.blk s H scope (compEnvC scope cl C X.env) fp) c0 tt)
    (a2 : ∀ (s : Shared) (H : Hp) (C : Addr) (cl : List (Str × Addr)) (fp : List Addr), PI (X.blk s H scope (compEnvC scope cl C X.env) fp) t1 i1 wi1)
    (a3 : ∀ (s : Shared) (H : Hp) (C : Addr) (cl : List (Str × Addr)) (fp : List Addr), PG (X.blk s H scope (compEnvC scope cl C X.env) fp) t1 g1)
    (a4 : ∀ (s : Shared) (H : Hp) (C : Addr) (cl : List (Str × Addr)) (fp : List Addr), PTs (X.blk s H scope (compEnvC scope cl C X.env) fp) c1 tt1)
    (a5 : ∀ (s : Shared) (H : Hp) (C : Addr) (cl : List (Str × Addr)) (fp : List Addr), PE (X.blk s H scope (compEnvC scope cl C X.env) fp) kx tk)
    (a6 : ∀ (s : Shared) (H : Hp) (C : Addr) (cl : List (Str × Addr)) (fp : List Addr), PE (X.blk s H scope (compEnvC scope cl C X.env) fp) vx tv)
    (hs : ∀ x, foldedSetIterable i0 X.env x = pure x := by intro _; rfl) (hs1 : ∀ env x, foldedSetIterable i1 env x = pure x := by intro _ _; rfl) :
    PE X (two kx vx t0 i0 t1 i1 c0 c1 scope ps) (tDc2 wi g tt wi1 g1 tt1 tk tv (own.map (·.2)) us) := by
  refine ⟨fun pins s σ H Q I h => ?_⟩
  rw [arm_eval_DictComp]
  refine dc2_core hc hN I hi ok hv a0 a1 a2 a3 a4 a5 a6 hs hs1 h fun D C s' m H' I' q hn f => ⟨m, hn, fun h'' but => ?_⟩
  obtain ⟨f0, f1, f2, f3, f4, f5⟩ := f
  exact ⟨.ref D, H', I'.turned (t' := s'.toks) (fun b o hb e => (but.2 b hb).trans e) f0 f1 f3 f4 f5, rfl, q⟩
end
end Dc
set_option maxHeartbeats 1000000
/-! max of a list of ints, default=d -/
namespace Mx
open PySem PySem.Spec PyProof.Rows L2
section
variable {prog : Program} {w : World} {A : Around} {R : Result → Shared → Prop} {I S : Addr} {fp wr : List Addr} {n : Nat} {P : Nat → Value → Prop} {St : Nat → Heap → Prop} {bt : Nat → Nat → Bool} {kw : List (Str × Value)}
abbrev lst2 (xs : Array Value) (c : Nat) : Obj := { cls := .type "list", dict := none, data := .seq xs c, slots := #[] }
/-- the way out: the best of n -/
def Out (R : Result → Shared → Prop) (P : Nat → Value → Prop) (wr : List Addr) (S : Addr) (at_ : Nat) (s : Shared) : Prop :=
  ∀ v h tk, P at_ v → (∀ b o, b ∉ wr → b ≠ S → s.heap.get? b = some o → h.get? b = some o) → R (.ok (.ret v)) { s with heap := h, toks := tk }
theorem loop_on (W : Walks prog w A.in1 I fp wr n P St) (hc : CmpOf prog w A.in1 .Gt P bt) (nS : S ∉ fp) : ∀ (k j : Nat) (s : Shared) (vb : Value) (c : Nat), n = j + 1 + k → St (j + 1) s.heap → P (argBest bt j) vb →
    s.heap.get? S = some (lst2 #[vb, vb] c) → Out R P wr S (argBest bt (n - 1)) s → codeAny (model prog w) A (.builtin "max.loop" ⟨[.ref I, .none, .ref S], kw⟩) R s := by
  have nSw : S ∉ wr := fun z => nS (W.sub _ z)
  have nm : (toString "max" ++ toString ".loop" : String) = "max.loop" := by decide
  intro k
  induction k with
  | zero =>
    intro j s vb c e st pb hS out
    refine codeAny_builtin F.entry_max_loop ?_
    rw [Around.under_plainId F.plain_max_loop _]
    show wpAny _ A.in1 (seqItems? (.ref S) >>= _) _ _ s
    refine wpAny_bind (wpAny_seqItems hS rfl ?_)
    show wpAny _ A.in1 (tryCatch (pyNext (.ref I)) _ >>= _) _ _ s
    have e' : n = j + 1 := e
    refine wpAny_bind (wpAny_tryCatch (W.done s _ _ (e' ▸ st) fun h tk keep => ?_))
    have hS2 := keep S _ nSw hS
    show wpAny _ A.in1 (updateSeq S (fun _ => #[]) >>= _) _ _ _
    refine wpAny_bind (wpAny_updateSeq hS2 rfl (wpAny_bind (wpAny_letGo (wpAny_pure ?_))))
    refine out vb _ tk (by rw [e']; exact pb) fun b o nw nb x => ?_
    exact (Heap.get?_update_other _ _ (Ne.symm nb)).trans (keep b o nw x)
  | succ k ih =>
    intro j s vb c e st pb hS out
    have lt : j + 1 < n := by omega
    refine codeAny_builtin F.entry_max_loop ?_
    rw [Around.under_plainId F.plain_max_loop _]
    show wpAny _ A.in1 (seqItems? (.ref S) >>= _) _ _ s
    refine wpAny_bind (wpAny_seqItems hS rfl ?_)
    show wpAny _ A.in1 (tryCatch (pyNext (.ref I)) _ >>= _) _ _ s
    refine wpAny_bind (wpAny_tryCatch (W.item (j + 1) s _ _ lt st fun v h tk pv st2 keep => ?_))
    have hS2 := keep S _ nSw hS
    show wpAny _ A.in1 (tryCatch (holding [v, v] (richCompare .Gt v vb >>= _)) _ >>= _) _ _ _
    refine wpAny_bind (wpAny_tryCatch (wpAny_holding (wpAny_bind (hc (j + 1) (argBest bt j) v vb _ _ _ pv pb (wpAny_bind (wpAny_holding (wpAny_truthy_bool ?_)))))))
    refine wpAny_bind (wpAny_letGo (wpAny_pure ?_))
    by_cases hb : bt (j + 1) (argBest bt j) = true
    · rw [if_pos hb]
      refine wpAny_bind (wpAny_updateSeq hS2 rfl (wpAny_bind (wpAny_letGo ?_)))
      rw [nm]
      have best : argBest bt (j + 1) = j + 1 := by
        show (if _ then _ else _) = _
        rw [if_pos hb]
      refine wpAny_pure ⟨plainId_quiet F.plain_max_loop _, ih (j + 1) _ v _ (by omega) (W.frame _ _ _ st2 fun b hbf o x => ?_) (by rw [best]; exact pv) (Heap.get?_update_self _ hS2 rfl) fun v2 h2 tk2 p2 keep2 => ?_⟩
      · have ne : S ≠ b := fun z => nS (by rw [z]; exact hbf)
        exact (Heap.get?_update_other _ _ ne).trans x
      · refine out v2 h2 tk2 p2 fun b o nw nb x => keep2 b o nw nb ?_
        exact (Heap.get?_update_other _ _ (Ne.symm nb)).trans (keep b o nw x)
    · rw [if_neg hb]
      refine wpAny_bind (wpAny_letGo ?_)
      rw [nm]
      have best : argBest bt (j + 1) = argBest bt j := by
        show (if _ then _ else _) = _
        rw [if_neg hb]
      refine wpAny_pure ⟨plainId_quiet F.plain_max_loop _, ih (j + 1) _ vb c (by omega) st2 (by rw [best]; exact pb) hS2 fun v2 h2 tk2 p2 keep2 => ?_⟩
      exact out v2 h2 tk2 p2 fun b o nw nb x => keep2 b o nw nb (keep b o nw x)
theorem loop_first (W : Walks prog w A.in1 I fp wr n P St) (hc : CmpOf prog w A.in1 .Gt P bt) (nS : S ∉ fp) (hn : 0 < n) {s : Shared} {c : Nat} (st : St 0 s.heap) (hS : s.heap.get? S = some (lst2 #[] c)) (out : Out R P wr S (argBest bt (n - 1)) s) :
    codeAny (model prog w) A (.builtin "max.loop" ⟨[.ref I, .none, .ref S], kw⟩) R s := by
  have nSw : S ∉ wr := fun z => nS (W.sub _ z)
  have nm : (toString "max" ++ toString ".loop" : String) = "max.loop" := by decide
  refine codeAny_builtin F.entry_max_loop ?_
  rw [Around.under_plainId F.plain_max_loop _]
  show wpAny _ A.in1 (seqItems? (.ref S) >>= _) _ _ s
  refine wpAny_bind (wpAny_seqItems hS rfl ?_)
  show wpAny _ A.in1 (tryCatch (pyNext (.ref I)) _ >>= _) _ _ s
  refine wpAny_bind (wpAny_tryCatch (W.item 0 s _ _ hn st fun v h tk pv st2 keep => ?_))
  have hS2 := keep S _ nSw hS
  show wpAny _ A.in1 (updateSeq S (fun _ => #[v, v]) >>= _) _ _ _
  refine wpAny_bind (wpAny_updateSeq hS2 rfl ?_)
  rw [nm]
  refine wpAny_pure ⟨plainId_quiet F.plain_max_loop _, loop_on W hc nS (n - 1) 0 _ v _ (by omega) (W.frame _ _ _ st2 fun b hbf o x => ?_) pv (Heap.get?_update_self _ hS2 rfl) fun v2 h2 tk2 p2 keep2 => ?_⟩
  · have ne : S ≠ b := fun z => nS (by rw [z]; exact hbf)
    exact (Heap.get?_update_other _ _ ne).trans x
  · refine out v2 h2 tk2 p2 fun b o nw nb x => keep2 b o nw nb ?_
    exact (Heap.get?_update_other _ _ (Ne.symm nb)).trans (keep b o nw x)
/-- nothing to compare: the default -/
theorem loop_none {x : Str} {d : Value} (W : Walks prog w A.in1 I fp wr n P St) (nS : S ∉ fp) (hn : n = 0) {s : Shared} {c : Nat} (st : St 0 s.heap) (hS : s.heap.get? S = some (lst2 #[] c))
    (out : ∀ h tk, (∀ b o, b ∉ wr → s.heap.get? b = some o → h.get? b = some o) → R (.ok (.ret d)) { s with heap := h, toks := tk }) :
    codeAny (model prog w) A (.builtin "max.loop" ⟨[.ref I, .none, .ref S], [(x, d)]⟩) R s := by
  subst hn
  refine codeAny_builtin F.entry_max_loop ?_
  rw [Around.under_plainId F.plain_max_loop _]
  show wpAny _ A.in1 (seqItems? (.ref S) >>= _) _ _ s
  refine wpAny_bind (wpAny_seqItems hS rfl ?_)
  show wpAny _ A.in1 (tryCatch (pyNext (.ref I)) _ >>= _) _ _ s
  refine wpAny_bind (wpAny_tryCatch (W.done s _ _ st fun h tk keep => ?_))
  refine wpAny_bind (wpAny_rule ?_)
  exact wpAny_pure (out h tk keep)
end
theorem args_max {a d : Value} : argsOk "max" ⟨[a], [(Str.ofString "default", d)]⟩ := by unfold argsOk; kernel_rfl
section
variable {prog : Program} {w : World} {A : Around} {E : Value → Shared → Prop} {s : Shared}
theorem run_max {x d : Value} {Q : Value → Shared → Prop}
    (h : wpAny (model prog w) A.in1 (pyIter x) (fun it s2 => ∃ I fp wr n P St bt, it = .ref I ∧ Walks prog w A.in1 I fp wr n P St ∧ St 0 s2.heap ∧ (∀ b ∈ fp, b < s2.heap.objs.size) ∧ CmpOf prog w A.in1 .Gt P bt ∧
      ∀ v h tk, (n = 0 → v = d) → (0 < n → P (argBest bt (n - 1)) v) → (∀ b o, b ∉ wr → s2.heap.get? b = some o → h.get? b = some o) → Q v { s2 with heap := h, toks := tk }) E s) :
    wpAny (model prog w) A (call (.builtin "max") [x] [(Str.ofString "default", d)]) Q E s := by
  have nm : (toString "max" ++ toString ".loop" : String) = "max.loop" := by decide
  refine kmk_tree F.kind_max F.plain_max F.entry_max args_max ?_
  show wpAny _ A.in1 (Builtin.Builtins.bindParams "max" ["key", "default"] 0 ⟨[], [(Str.ofString "default", d)]⟩ >>= _) _ _ s
  have bound : Builtin.Builtins.bindParams "max" ["key", "default"] 0 ⟨[], [(Str.ofString "default", d)]⟩ = pure [none, some d] := by rfl
  refine wpAny_bind (wpAny_of_eq bound (wpAny_bind (wpAny_pure (wpAny_bind (wpAny_mono h (fun it s2 got => ?_) fun _ _ z => z)))))
  obtain ⟨I, fp, wr, n, P, St, bt, rfl, W, st, old, cmp, q⟩ := got
  refine wpAny_bind (wpAny_newObj_type ?_)
  have nS : s2.heap.objs.size ∉ fp := fun z => Nat.lt_irrefl _ (old _ z)
  have st2 : St 0 (s2.heap.push (lst2 #[] 0)) := W.frame _ _ _ st fun b _ o e => Heap.get?_push_of_some _ e
  have keepOld : ∀ {h : Heap}, (∀ b o, b ∉ wr → b ≠ s2.heap.objs.size → (s2.heap.push (lst2 #[] 0)).get? b = some o → h.get? b = some o) → ∀ b o, b ∉ wr → s2.heap.get? b = some o → h.get? b = some o := fun k b o nb e =>
    k b o nb (Nat.ne_of_lt (Heap.lt_size e)) (Heap.get?_push_of_some _ e)
  rw [nm]
  rcases Nat.eq_zero_or_pos n with e | e
  · refine wpAny_pure ⟨plainId_quiet F.plain_max_loop _, loop_none W nS e st2 (Heap.get?_push_size _ rfl) fun h tk k => ?_⟩
    exact q d h tk (fun _ => rfl) (fun z => absurd z (by omega)) (keepOld fun b o nb _ x => k b o nb x)
  · refine wpAny_pure ⟨plainId_quiet F.plain_max_loop _, loop_first W cmp nS e st2 (Heap.get?_push_size _ rfl) fun v h tk pv k => ?_⟩
    exact q v h tk (fun z => absurd e (by omega)) (fun _ => pv) (keepOld k)
theorem max_ints {l : Addr} {its : List Value} {ns : List Int} {d : Value} {Q : Value → Shared → Prop} (hh : A.handled = none) (hl : s.heap.IsList l its.toArray) (hi : IntsAre its ns)
    (h : ∀ h' tk v, (∀ b o, s.heap.get? b = some o → h'.get? b = some o) → (ns = [] → v = d) → (ns ≠ [] → ∃ M t, v = .int M t ∧ M ∈ ns ∧ ∀ a ∈ ns, a ≤ M) → Q v { s with heap := h', toks := tk }) :
    wpAny (model prog w) A (call (.builtin "max") [.ref l] [(Str.ofString "default", d)]) Q E s := by
  obtain ⟨xs, e⟩ := hi.allInts.items
  have hn : numsOf (intItems xs).toList = ns := by rw [← e]; exact hi.numsOf
  rw [nums_intItems] at hn
  subst hn
  rw [e] at hl
  refine run_max (iter_intList hl fun s2 e2 st old ne => ?_)
  subst e2
  refine ⟨_, _, _, _, _, _, _, rfl, Walks.list (A := A.in1) hh _ l ne (intItems xs), st, old, CmpOf.ints_gt (numAt xs) (fun _ _ => intItems_at), fun v h' tk z0 z1 keep => ?_⟩
  have size : (intItems xs).size = xs.size := by simp [intItems]
  have lenz : (xs.toList.map (·.1)) = [] ↔ xs.size = 0 := by simp
  refine h h' tk v (old_kept keep) (fun z => z0 (by rw [size]; exact lenz.mp z)) fun z => ?_
  have pos : 0 < xs.size := by
    rcases Nat.eq_zero_or_pos xs.size with q | q
    · exact absurd (lenz.mpr q) z
    · exact q
  have hv := z1 (by rw [size]; exact pos)
  rw [size] at hv
  obtain ⟨t, rfl⟩ := intItems_at hv
  obtain ⟨h1, h2⟩ := argBest_gt (numAt xs) (xs.size - 1)
  refine ⟨_, t, rfl, ?_, fun a ha => ?_⟩
  · rw [numAt_eq]
    exact PySem.getD_mem (by rw [List.length_map, Array.length_toList]; omega)
  · obtain ⟨j, hj, rfl⟩ := mem_getD ha
    rw [List.length_map, Array.length_toList] at hj
    rw [← numAt_eq]
    exact h2 j (by omega)
end
def rMaxDef (K : PySem.W.Frag) : List V → List V → Hp → VK → Prop := fun vs zs H Q => ∃ (a : Addr) (ns : List Int) (d : Int), vs = [V.ref a] ∧ zs = [.int d] ∧ SqL K H a (ns.map V.int) ∧ ∀ m, (ns = [] → m = d) → (ns ≠ [] → m ∈ ns ∧ ∀ y ∈ ns, y ≤ m) → Q (.int m) H
theorem cr_maxDef {X : Cx} (hc : X.calm = true) : CallRK X (.builtin "max") [Str.ofString "default"] (rMaxDef X.K) := by
  intro pins s σ H vs zs us ws Q I r rz h
  obtain ⟨a, ns, d, rfl, rfl, hs, q⟩ := h
  obtain ⟨its, rv, hl, _⟩ := I.list hs
  obtain rfl := Vals.ref1 r
  obtain ⟨w1, rfl, e1⟩ := vals1 rz
  obtain ⟨t0, rfl⟩ := e1
  refine max_ints (I.ok.hd hc) hl.isList rv.ints fun h' tk v keep z0 z1 => ?_
  by_cases e : ns = []
  · obtain rfl := z0 e
    exact ⟨.int d, H, I.kept keep, ⟨_, rfl⟩, q d (fun _ => rfl) fun z => absurd e z⟩
  · obtain ⟨M, t, rfl, h1, h2⟩ := z1 e
    exact ⟨.int M, H, I.kept keep, ⟨_, rfl⟩, q M (fun z => absurd z e) fun _ => ⟨h1, h2⟩⟩
end Mx
set_option maxHeartbeats 1000000
/-! nets as plain data: their numbers -/
namespace Pw
open PySem PySem.Spec PyProof.Rows L2
structure Nd where
  name : Str
  kind : Str
  ps : List PyData
  ins : List Str
def Nd.dat (n : Nd) : PyData := .tuple [.str n.name, .str n.kind, .tuple n.ps, .list (n.ins.map PyData.str)]
theorem nd_of {d : PyData} (h : isNode d = true) : ∃ n : Nd, d = n.dat ∧ n.ins.length ≤ 10 := by
  obtain ⟨a, k, ps, zs, ws, rfl, l, _⟩ := params_shape h
  exact ⟨⟨a, k, ps, zs⟩, rfl, l⟩
/-- names are new, inputs stand ahead -/
inductive Wired : List Str → List Nd → Prop
  | nil {seen : List Str} : Wired seen []
  | cons {seen : List Str} {n : Nd} {r : List Nd} : n.name ∉ seen → (∀ z ∈ n.ins, z ∈ seen) → isNode n.dat = true → n.ins.length ≤ 10 → Wired (seen ++ [n.name]) r → Wired seen (n :: r)
theorem lookup_none {α : Type} : ∀ {ks : List (Str × α)} {z : Str}, ks.lookup z = none ↔ z ∉ ks.map (·.1)
  | [], z => by simp
  | (a, b) :: r, z => by
    rw [List.lookup_cons, List.map_cons, List.mem_cons, not_or]
    by_cases e : z = a
    · subst e
      rw [beq_self_eq_true]
      simp
    · rw [beq_eq_false_iff_ne.mpr e]
      have := lookup_none (ks := r) (z := z)
      simp [e, this]
theorem lookup_isSome {α : Type} {ks : List (Str × α)} {z : Str} (h : z ∈ ks.map (·.1)) : ∃ v, ks.lookup z = some v := by
  cases e : ks.lookup z with
  | none => exact absurd h (lookup_none.mp e)
  | some v => exact ⟨v, rfl⟩
theorem wired_of : ∀ {ds : List PyData} {n : Nat} {ks : List (Str × Str)} {us : List (Str × Int)}, checkFrom n ks us ds = none → ∃ ns : List Nd, ds = ns.map Nd.dat ∧ Wired (ks.map (·.1)) ns
  | [], _, _, _, _ => ⟨[], rfl, .nil⟩
  | d :: ds, n, ks, us, h => by
    have h1 : (match step ks us d with | some r => checkFrom (n + 1) (ks ++ [(r.1, r.2.1)]) (useAll us r.2.2) ds | none => some (n : Int)) = none := h
    cases hd : isNode d with
    | false =>
      rw [step_no hd] at h1
      cases h1
    | true =>
      obtain ⟨m, rfl, lm⟩ := nd_of hd
      have e := step_at (ks := ks) (us := us) hd
      change step ks us m.dat = _ at e
      by_cases c : ((ks.lookup m.name).isNone && mayRead m.ins ks us) = true
      · rw [if_pos c] at e
        rw [e] at h1
        obtain ⟨ns, rfl, w⟩ := wired_of (ds := ds) h1
        rw [Bool.and_eq_true] at c
        refine ⟨m :: ns, rfl, .cons ?_ (fun z hz => ?_) hd lm ?_⟩
        · exact lookup_none.mp (Option.isNone_iff_eq_none.mp c.1)
        · have c2 : mayOne m.ins ks us z = true := List.all_eq_true.mp c.2 z hz
          unfold mayOne at c2
          cases e2 : ks.lookup z with
          | none =>
            rw [e2] at c2
            cases c2
          | some v =>
            by_cases q : z ∈ ks.map (·.1)
            · exact q
            · rw [lookup_none.mpr q] at e2
              cases e2
        · rw [List.map_append] at w
          exact w
      · rw [if_neg c] at e
        rw [e] at h1
        cases h1
theorem nodes_of {d : PyData} (h : checkNodes d = none) : ∃ ns : List Nd, d = .list (ns.map Nd.dat) ∧ 1 ≤ ns.length ∧ ns.length ≤ 30 ∧ Wired [] ns := by
  cases d with
  | list ds =>
    have h1 : (if (decide ((1 : Int) ≤ ds.length) && decide ((ds.length : Int) ≤ 30)) = true then checkFrom 0 [] [] ds else some (-1)) = none := h
    by_cases c : (decide ((1 : Int) ≤ ds.length) && decide ((ds.length : Int) ≤ 30)) = true
    · rw [if_pos c] at h1
      obtain ⟨ns, rfl, w⟩ := wired_of h1
      rw [Bool.and_eq_true, List.length_map] at c
      have c1 := of_decide_eq_true c.1
      have c2 := of_decide_eq_true c.2
      exact ⟨ns, rfl, by omega, by omega, w⟩
    · rw [if_neg c] at h1
      cases h1
  | _ => cases h
/-! ### what is below a node -/
def look (b : List (Str × Int)) (z : Str) : Int := (b.lookup z).getD 0
def belowBy (f : Nd → List Int → Int) : List (Str × Int) → List Nd → List (Str × Int)
  | b, [] => b
  | b, n :: r => belowBy f (b ++ [(n.name, f n (n.ins.map (look b)))]) r
def used (ns : List Nd) (z : Str) : Bool := ns.any fun n => decide (z ∈ n.ins)
def outs (ns : List Nd) : List Str := (ns.filter fun n => !used ns n.name).map (·.name)
def fC (_ : Nd) (xs : List Int) : Int := 1 + xs.sum
def fW (n : Nd) (xs : List Int) : Int := ownW n.dat * prodI xs
def maxI (xs : List Int) : Int := xs.foldl max 0
def loopsL : List Str := ["keep", "after", "drop", "step", "batch", "heads", "lengths"]
def fL (n : Nd) (xs : List Int) : Int := (if n.kind ∈ loopsL then 1 else 0) + maxI xs
def overOuts (f : Nd → List Int → Int) (ns : List Nd) : List Int := (outs ns).map (look (belowBy f [] ns))
def cellsN (ns : List Nd) : Int := (overOuts fC ns).sum
def weightN (ns : List Nd) : Int := prodI (overOuts fW ns)
def loopsN (ns : List Nd) : Int := maxI (overOuts fL ns)
def loadN (ns : List Nd) (d : Int) : Int := powI (2 * weightN ns + 3) (loopsN ns + d).toNat
def limitN (ns : List Nd) : Option Int := if cellsN ns > 100 then some 100 else if weightN ns > 200 then some 200 else if loadN ns 1 > 10000 then some 10000 else none
theorem look_snoc_ne {b : List (Str × Int)} {z y : Str} {v : Int} (h : z ≠ y) : look (b ++ [(y, v)]) z = look b z := by
  unfold look
  rw [List.lookup_append]
  have e : List.lookup z [(y, v)] = none := by
    rw [List.lookup_cons, beq_eq_false_iff_ne.mpr h]
    rfl
  rw [e, Option.or_none]
theorem look_snoc {b : List (Str × Int)} {y : Str} {v : Int} (h : y ∉ b.map (·.1)) : look (b ++ [(y, v)]) y = v := by
  unfold look
  rw [List.lookup_append, lookup_none.mpr h]
  have e : List.lookup y [(y, v)] = some v := by
    rw [List.lookup_cons, beq_self_eq_true]
  rw [e]
  rfl
theorem below_keys (f : Nd → List Int → Int) : ∀ (ns : List Nd) (b : List (Str × Int)), (belowBy f b ns).map (·.1) = b.map (·.1) ++ ns.map (·.name)
  | [], b => by simp [belowBy]
  | n :: r, b => by
    show (belowBy f (b ++ [(n.name, _)]) r).map (·.1) = _
    rw [below_keys f r]
    simp
theorem below_old (f : Nd → List Int → Int) : ∀ {ns : List Nd} {seen : List Str} {b : List (Str × Int)} {z : Str}, Wired seen ns → z ∈ seen → look (belowBy f b ns) z = look b z
  | [], _, _, _, _, _ => rfl
  | n :: r, seen, b, z, w, hz => by
    cases w with
    | cons h1 h2 h3 h4 h5 =>
      show look (belowBy f (b ++ [(n.name, _)]) r) z = _
      rw [below_old f h5 (List.mem_append_left _ hz), look_snoc_ne]
      exact fun e => h1 (by rw [← e]; exact hz)
/-- the value at a node is that of its inputs -/
theorem below_at (f : Nd → List Int → Int) : ∀ {ns : List Nd} {seen : List Str} {b : List (Str × Int)} {n : Nd}, Wired seen ns → b.map (·.1) = seen → n ∈ ns → look (belowBy f b ns) n.name = f n (n.ins.map (look (belowBy f b ns)))
  | m :: r, seen, b, n, w, hb, hn => by
    cases w with
    | cons h1 h2 h3 h4 h5 =>
      have hb2 : (b ++ [(m.name, f m (m.ins.map (look b)))]).map (·.1) = seen ++ [m.name] := by
        rw [List.map_append, hb]
        rfl
      show look (belowBy f (b ++ [(m.name, f m (m.ins.map (look b)))]) r) n.name = f n (n.ins.map (look (belowBy f (b ++ [(m.name, f m (m.ins.map (look b)))]) r)))
      rcases List.mem_cons.mp hn with rfl | hn
      · rw [below_old f h5 (by simp), look_snoc (by rw [hb]; exact h1)]
        congr 1
        apply List.map_congr_left
        intro z hz
        have hz2 := h2 z hz
        rw [below_old f h5 (List.mem_append_left _ hz2), look_snoc_ne]
        exact fun e => h1 (by rw [← e]; exact hz2)
      · exact below_at f h5 hb2 hn
/-- what holds of each node's value, from its inputs' -/
theorem below_all (f g : Nd → List Int → Int) (R : Int → Int → Prop) (step : ∀ (n : Nd) (xs ys : List Int), isNode n.dat = true → xs.length = ys.length → (∀ (i : Nat) (x y : Int), xs[i]? = some x → ys[i]? = some y → R x y) → R (f n xs) (g n ys)) :
    ∀ {ns : List Nd} {seen : List Str} {b c : List (Str × Int)}, Wired seen ns → b.map (·.1) = seen → c.map (·.1) = seen → (∀ z ∈ seen, R (look b z) (look c z)) → ∀ z ∈ seen ++ ns.map (·.name), R (look (belowBy f b ns) z) (look (belowBy g c ns) z)
  | [], seen, b, c, _, _, _, h, z, hz => h z (by simpa using hz)
  | m :: r, seen, b, c, w, hb, hc, h, z, hz => by
    cases w with
    | cons h1 h2 h3 h4 h5 =>
      refine below_all f g R step h5 (b := b ++ [(m.name, f m (m.ins.map (look b)))]) (c := c ++ [(m.name, g m (m.ins.map (look c)))]) (by rw [List.map_append, hb]; rfl) (by rw [List.map_append, hc]; rfl) (fun y hy => ?_) z (by simpa using hz)
      rcases List.mem_append.mp hy with hy | hy
      · have ne : y ≠ m.name := fun e => h1 (by rw [← e]; exact hy)
        rw [look_snoc_ne ne, look_snoc_ne ne]
        exact h y hy
      · obtain rfl := List.mem_singleton.mp hy
        rw [look_snoc (by rw [hb]; exact h1), look_snoc (by rw [hc]; exact h1)]
        refine step m _ _ h3 (by simp) fun i x y e1 e2 => ?_
        rw [List.getElem?_map] at e1 e2
        obtain ⟨u, f1, rfl⟩ := Option.map_eq_some_iff.mp e1
        obtain ⟨u2, f2, rfl⟩ := Option.map_eq_some_iff.mp e2
        cases f1.symm.trans f2
        exact h u (h2 u (List.mem_of_getElem? f1))
end Pw
set_option maxHeartbeats 1000000
/-! how great the numbers of a net can be -/
namespace Pw
open PySem PySem.Spec PyProof.Rows L2
theorem prodI_cons (a : Int) (xs : List Int) : prodI (a :: xs) = a * prodI xs := by
  have h : ∀ (xs : List Int) (b : Int), xs.foldl (fun a b => a * b) b = b * xs.foldl (fun a b => a * b) 1 := by
    intro xs
    induction xs with
    | nil => intro b; simp
    | cons x r ih =>
      intro b
      rw [List.foldl_cons, List.foldl_cons, ih (b * x), ih (1 * x), Int.one_mul, Int.mul_assoc]
  show (a :: xs).foldl _ 1 = _
  rw [List.foldl_cons, h, Int.one_mul]
  rfl
theorem sum_ge : ∀ {xs : List Int} {x : Int}, (∀ y ∈ xs, 0 ≤ y) → x ∈ xs → x ≤ xs.sum
  | y :: r, x, h, hx => by
    rw [List.sum_cons]
    have h0 : 0 ≤ y := h y List.mem_cons_self
    have hr : 0 ≤ r.sum := by
      clear hx
      have h2 : ∀ z ∈ r, 0 ≤ z := fun z hz => h z (List.mem_cons_of_mem _ hz)
      clear h h0
      induction r with
      | nil => exact Int.le_refl _
      | cons z r ih =>
        rw [List.sum_cons]
        have a1 := h2 z List.mem_cons_self
        have a2 := ih fun u hu => h2 u (List.mem_cons_of_mem _ hu)
        omega
    rcases List.mem_cons.mp hx with rfl | hx
    · omega
    · have := sum_ge (xs := r) (fun z hz => h z (List.mem_cons_of_mem _ hz)) hx
      omega
theorem fits3 {a b c : Str} {d e f : PyData} (h : fits [a, b, c] [d, e, f] = true) : ofSort a d = true ∧ ofSort b e = true := by
  have h' : (ofSort a d && (ofSort b e && (ofSort c f && true))) = true := h
  rw [Bool.and_eq_true, Bool.and_eq_true] at h'
  exact ⟨h'.1, h'.2.1⟩
theorem between_iff {n lo hi : Int} (h : between (.int n) lo hi = true) : lo ≤ n ∧ n ≤ hi := by
  have h' : (decide (lo ≤ n) && decide (n ≤ hi)) = true := h
  rw [Bool.and_eq_true] at h'
  exact ⟨of_decide_eq_true h'.1, of_decide_eq_true h'.2⟩
/-- a node's own weight is from 1 to 100 -/
theorem own_range {d : PyData} (h : isNode d = true) : 1 ≤ ownW d ∧ ownW d ≤ 100 := by
  obtain ⟨a, k, p, zs, rfl, lz⟩ := node_shape h
  have h1 : (isName (.str a) && ((kindsL.lookup k).isSome && (areParams k p && areInputs k (.list (zs.map PyData.str))))) = true := h
  rw [Bool.and_eq_true, Bool.and_eq_true, Bool.and_eq_true] at h1
  obtain ⟨_, h2, h3, h4⟩ := h1
  obtain ⟨ws, hk⟩ := Option.isSome_iff_exists.mp h2
  unfold areParams at h3
  rw [hk] at h3
  cases p with
  | tuple ps =>
    have h5 : (decide (ps.length = ws.length) && (fits ws ps && batchOk k ps)) = true := h3
    rw [Bool.and_eq_true, Bool.and_eq_true] at h5
    obtain ⟨hl, hf, hb⟩ := h5
    have hl := of_decide_eq_true hl
    have hi : (decide ((inRange k).1 ≤ (zs.map PyData.str).length) && decide (((zs.map PyData.str).length : Int) ≤ (inRange k).2) && (zs.map PyData.str).all isName) = true := h4
    rw [Bool.and_eq_true, Bool.and_eq_true, List.length_map] at hi
    have i1 := of_decide_eq_true hi.1.1
    have i2 := of_decide_eq_true hi.1.2
    show 1 ≤ ownOf k ps (zs.map PyData.str) ∧ ownOf k ps (zs.map PyData.str) ≤ 100
    unfold ownOf
    by_cases m1 : k ∈ [("ring" : Str), "table"]
    · rw [if_pos m1]
      obtain ⟨xs, rfl⟩ := ring_shape m1 hk hl hf
      have e : ws = [("some integers" : Str)] := by
        rcases List.mem_cons.mp m1 with rfl | m1
        · exact Option.some.inj (hk.symm.trans (by decide +kernel))
        · obtain rfl := List.mem_singleton.mp m1
          exact Option.some.inj (hk.symm.trans (by decide +kernel))
      subst e
      have hf' : (areInts (.list xs) 1 100 && true) = true := hf
      have h6 : (decide ((1 : Int) ≤ xs.length) && decide ((xs.length : Int) ≤ 100) && xs.all isParam) = true := by
        rw [Bool.and_true] at hf'
        exact hf'
      rw [Bool.and_eq_true, Bool.and_eq_true] at h6
      exact ⟨of_decide_eq_true h6.1.1, of_decide_eq_true h6.1.2⟩
    · rw [if_neg m1]
      by_cases m2 : k ∈ [("keep" : Str), "until", "after"]
      · rw [if_pos m2]
        have e : ws = [("test" : Str)] := by
          rcases List.mem_cons.mp m2 with rfl | m2
          · exact Option.some.inj (hk.symm.trans (by decide +kernel))
          · rcases List.mem_cons.mp m2 with rfl | m2
            · exact Option.some.inj (hk.symm.trans (by decide +kernel))
            · obtain rfl := List.mem_singleton.mp m2
              exact Option.some.inj (hk.symm.trans (by decide +kernel))
        subst e
        obtain ⟨p, rfl, hp⟩ := fit_one hl hf
        obtain ⟨t, rfl, hn, a1, a2⟩ := test_shape (d := p) hp
        show 1 ≤ modD 4 t.dat ∧ modD 4 t.dat ≤ 100
        rw [modD_dat 4 t hn]
        exact ⟨a1, a2⟩
      · rw [if_neg m2]
        by_cases m3 : k = "stutter"
        · rw [if_pos m3]
          subst m3
          have e : ws = [("1 to 50" : Str)] := Option.some.inj (hk.symm.trans (by decide +kernel))
          subst e
          obtain ⟨p, rfl, hp⟩ := fit_one hl hf
          obtain ⟨n, rfl⟩ := int_of (d := p) (lo := 1) (hi := 50) hp
          obtain ⟨b1, b2⟩ := between_iff (n := n) (lo := 1) (hi := 50) hp
          exact ⟨b1, by show n ≤ 100; omega⟩
        · rw [if_neg m3]
          by_cases m4 : k = "batch"
          · rw [if_pos m4]
            subst m4
            have e : ws = [("from 1" : Str), "batch how", "batch rest"] := Option.some.inj (hk.symm.trans (by decide +kernel))
            subst e
            obtain ⟨n, t, e, rfl⟩ := batch_shape hl hf
            have f1 := between_iff (n := n) (lo := 1) (hi := 10 ^ 30) (fits3 hf).1
            show 1 ≤ (if t = "sum" then n else 1) ∧ (if t = "sum" then n else 1) ≤ 100
            by_cases m5 : t = "sum"
            · rw [if_pos m5]
              have hb' : (!decide (("batch" : Str) = "batch") || (!decide (t = "sum") || decide (n ≤ 50))) = true := hb
              rw [decide_eq_true (rfl : ("batch" : Str) = "batch"), decide_eq_true m5] at hb'
              have := of_decide_eq_true (show decide (n ≤ 50) = true from hb')
              omega
            · rw [if_neg m5]
              exact ⟨by decide, by decide⟩
          · rw [if_neg m4]
            by_cases m5 : k = "turns"
            · rw [if_pos m5, List.length_map]
              subst m5
              have e : inRange "turns" = (1, 10) := by decide +kernel
              rw [e] at i1 i2
              dsimp only at i1 i2
              omega
            · rw [if_neg m5]
              by_cases m6 : k = "choose"
              · rw [if_pos m6, List.length_map]
                subst m6
                have e : inRange "choose" = (2, 10) := by decide +kernel
                rw [e] at i1 i2
                dsimp only at i1 i2
                omega
              · rw [if_neg m6]
                exact ⟨by decide, by decide⟩
  | _ => exact absurd h3 Bool.false_ne_true
/-! ### weights by cells -/
def RCW (x y : Int) : Prop := 1 ≤ x ∧ 1 ≤ y ∧ y ≤ 2 ^ (7 * x.toNat)
theorem pow_pos2 (k : Nat) : (1 : Int) ≤ 2 ^ k := by
  induction k with
  | zero => decide
  | succ k ih =>
    rw [Int.pow_succ]
    omega
theorem prod_by_sum : ∀ (xs ys : List Int), xs.length = ys.length → (∀ (i : Nat) (x y : Int), xs[i]? = some x → ys[i]? = some y → RCW x y) → 0 ≤ xs.sum ∧ 1 ≤ prodI ys ∧ prodI ys ≤ 2 ^ (7 * xs.sum.toNat)
  | [], [], _, _ => ⟨Int.le_refl _, by decide, by decide⟩
  | x :: xs, y :: ys, hl, h => by
    obtain ⟨a1, a2, a3⟩ := h 0 x y rfl rfl
    obtain ⟨b1, b2, b3⟩ := prod_by_sum xs ys (by simpa using hl) fun i u v e1 e2 => h (i + 1) u v (by simpa using e1) (by simpa using e2)
    rw [List.sum_cons, prodI_cons]
    have e : (x + xs.sum).toNat = x.toNat + xs.sum.toNat := by omega
    refine ⟨by omega, ?_, ?_⟩
    · have := Int.mul_le_mul a2 b2 (by decide) (by omega)
      omega
    · rw [e, Nat.mul_add, Int.pow_add]
      exact Int.mul_le_mul a3 b3 (by omega) (by have := pow_pos2 (7 * x.toNat); omega)
theorem cw_step (n : Nd) (xs ys : List Int) (hn : isNode n.dat = true) (hl : xs.length = ys.length) (h : ∀ (i : Nat) (x y : Int), xs[i]? = some x → ys[i]? = some y → RCW x y) : RCW (fC n xs) (fW n ys) := by
  obtain ⟨b1, b2, b3⟩ := prod_by_sum xs ys hl h
  obtain ⟨o1, o2⟩ := own_range hn
  have e : (fC n xs).toNat = 1 + xs.sum.toNat := by
    unfold fC
    omega
  refine ⟨by unfold fC; omega, ?_, ?_⟩
  · have := Int.mul_le_mul o1 b2 (by decide) (by omega)
    unfold fW
    omega
  · rw [e, Nat.mul_add, Int.pow_add]
    have o3 : ownW n.dat ≤ 2 ^ (7 * 1) := by
      have : (2 : Int) ^ (7 * 1) = 128 := by decide
      omega
    exact Int.mul_le_mul o3 b3 (by omega) (by decide)
theorem cw_all {ns : List Nd} (w : Wired [] ns) : ∀ z ∈ ns.map (·.name), RCW (look (belowBy fC [] ns) z) (look (belowBy fW [] ns) z) := fun z hz =>
  below_all fC fW RCW cw_step w (b := []) (c := []) rfl rfl (fun z hz => absurd hz (by simp)) z (by simpa using hz)
/-! ### each node's cells are among those of the net -/
theorem wired_split : ∀ {pre suf : List Nd} {seen : List Str}, Wired seen (pre ++ suf) → Wired (seen ++ pre.map (·.name)) suf
  | [], suf, seen, w => by simpa using w
  | n :: pre, suf, seen, w => by
    cases w with
    | cons h1 h2 h3 h4 h5 =>
      have := wired_split (pre := pre) h5
      rwa [List.append_assoc] at this
theorem wired_ins : ∀ {ns : List Nd} {seen : List Str} {n : Nd} {z : Str}, Wired seen ns → n ∈ ns → z ∈ n.ins → z ∈ seen ++ ns.map (·.name)
  | m :: r, seen, n, z, w, hn, hz => by
    cases w with
    | cons h1 h2 h3 h4 h5 =>
      rcases List.mem_cons.mp hn with rfl | hn
      · exact List.mem_append_left _ (h2 z hz)
      · have := wired_ins h5 hn hz
        simpa [List.append_assoc] using this
theorem wired_pre : ∀ {pre suf : List Nd} {seen : List Str}, Wired seen (pre ++ suf) → Wired seen pre
  | [], _, _, _ => .nil
  | n :: pre, suf, seen, w => by
    cases w with
    | cons h1 h2 h3 h4 h5 => exact .cons h1 h2 h3 h4 (wired_pre h5)
theorem wired_node : ∀ {ns : List Nd} {seen : List Str} {n : Nd}, Wired seen ns → n ∈ ns → isNode n.dat = true ∧ n.ins.length ≤ 10
  | m :: r, seen, n, w, hn => by
    cases w with
    | cons h1 h2 h3 h4 h5 =>
      rcases List.mem_cons.mp hn with rfl | hn
      · exact ⟨h3, h4⟩
      · exact wired_node h5 hn
theorem cells_within {all : List Nd} (w : Wired [] all) : ∀ (suf pre : List Nd), all = pre ++ suf → ∀ n ∈ suf, look (belowBy fC [] all) n.name ≤ cellsN all
  | [], _, _, n, hn => absurd hn (by simp)
  | m :: suf, pre, e, n, hn => by
    have ih := cells_within w suf (pre ++ [m]) (by rw [e, List.append_assoc]; rfl)
    rcases List.mem_cons.mp hn with rfl | hn
    · have mem : n ∈ all := by rw [e]; simp
      have pos : ∀ z ∈ all.map (·.name), 1 ≤ look (belowBy fC [] all) z := fun z hz => (cw_all w z hz).1
      cases hu : used all n.name with
      | false =>
        refine sum_ge (fun y hy => ?_) (List.mem_map.mpr ⟨n.name, List.mem_map.mpr ⟨n, List.mem_filter.mpr ⟨mem, by rw [hu]; rfl⟩, rfl⟩, rfl⟩)
        obtain ⟨z, hz, rfl⟩ := List.mem_map.mp hy
        obtain ⟨u, hu2, rfl⟩ := List.mem_map.mp hz
        have := pos u.name (List.mem_map.mpr ⟨u, (List.mem_filter.mp hu2).1, rfl⟩)
        omega
      | true =>
        obtain ⟨u, hu2, hin⟩ := List.any_eq_true.mp hu
        have hin := of_decide_eq_true hin
        have w2 : Wired [] (pre ++ n :: suf) := by rw [← e]; exact w
        have us : u ∈ suf := by
          rw [e] at hu2
          rcases List.mem_append.mp hu2 with hp | hp
          · exfalso
            have a := wired_ins (wired_pre w2) hp hin
            have b := wired_split w2
            cases b with
            | cons h1 h2 h3 h4 h5 => exact h1 a
          · rcases List.mem_cons.mp hp with rfl | hp
            · exfalso
              have b := wired_split w2
              cases b with
              | cons h1 h2 h3 h4 h5 => exact h1 (h2 _ hin)
            · exact hp
        have le := ih u us
        have eq := below_at fC w (b := []) rfl hu2
        rw [eq] at le
        have ge : look (belowBy fC [] all) n.name ≤ (u.ins.map (look (belowBy fC [] all))).sum := by
          refine sum_ge (fun y hy => ?_) (List.mem_map.mpr ⟨n.name, hin, rfl⟩)
          obtain ⟨z, hz, rfl⟩ := List.mem_map.mp hy
          have := pos z (by simpa using wired_ins w hu2 hz)
          omega
        unfold fC at le
        unfold fC at ge ⊢
        omega
    · exact ih n hn
end Pw
set_option maxHeartbeats 2000000
/-! a net object; outlets -/
namespace Pw
open PySem PySem.Spec PyProof.Rows L2 Dc
abbrev sOutlets : Stmt := topS 50
abbrev sCells : Stmt := topS 51
abbrev sWeight : Stmt := topS 52
abbrev sLoops : Stmt := topS 54
abbrev sLoad : Stmt := topS 55
theorem scOutlets : FnScope ["net", "nodes", "used", "node", "name"] ["net"] (defScope sOutlets) := ⟨rfl, rfl, rfl, by decide +kernel, rfl, by decide +kernel, by decide +kernel⟩
theorem scCells : FnScope ["net", "below", "node", "lower", "name"] ["net"] (defScope sCells) := ⟨rfl, rfl, rfl, by decide +kernel, rfl, by decide +kernel, by decide +kernel⟩
theorem scWeight : FnScope ["net", "below", "node", "lower", "name"] ["net"] (defScope sWeight) := ⟨rfl, rfl, rfl, by decide +kernel, rfl, by decide +kernel, by decide +kernel⟩
theorem scLoops : FnScope ["net", "below", "node", "own", "lower", "name"] ["net"] (defScope sLoops) := ⟨rfl, rfl, rfl, by decide +kernel, rfl, by decide +kernel, by decide +kernel⟩
theorem scLoad : FnScope ["net", "depth"] ["net", "depth"] (defScope sLoad) := ⟨rfl, rfl, rfl, by decide +kernel, rfl, by decide +kernel, by decide +kernel⟩
/-! ### data of bounded depth -/
theorem dp_mono : ∀ {n : Nat} {d : PyData}, dpB n d = true → dpB (n + 1) d = true
  | 0, _, h => by cases h
  | n + 1, .list ds, h => by
    have h' : ds.all (dpB n) = true := h
    show ds.all (dpB (n + 1)) = true
    rw [List.all_eq_true] at h' ⊢
    exact fun e he => dp_mono (h' e he)
  | n + 1, .tuple ds, h => by
    have h' : ds.all (dpB n) = true := h
    show ds.all (dpB (n + 1)) = true
    rw [List.all_eq_true] at h' ⊢
    exact fun e he => dp_mono (h' e he)
  | n + 1, .none, _ => rfl
  | n + 1, .bool _, _ => rfl
  | n + 1, .int _, _ => rfl
  | n + 1, .str _, _ => rfl
  | n + 1, .dict _, h => by cases h
theorem dp_le {n m : Nat} {d : PyData} (h : dpB n d = true) (l : n ≤ m) : dpB m d = true := by
  obtain ⟨k, rfl⟩ := Nat.exists_eq_add_of_le l
  clear l
  induction k with
  | zero => exact h
  | succ k ih => exact dp_mono ih
theorem dp_tst : ∀ (t : Tst), dpB (t.nots + 3) t.dat = true
  | .neg t => by
    have h := dp_tst t
    show (dpB (t.nots + 1 + 2) (.str "not") && (dpB (t.nots + 1 + 2) t.dat && true)) = true
    rw [show t.nots + 1 + 2 = t.nots + 3 from by omega, h]
    rfl
  | .lt _ => rfl
  | .ge _ => rfl
  | .md m rs => by
    show (dpB 2 (.str "mod") && (dpB 2 (.int m) && (dpB 2 (.list (rs.map PyData.int)) && true))) = true
    have h : (rs.map PyData.int).all (dpB 1) = true := by
      rw [List.all_eq_true]
      intro e he
      obtain ⟨i, _, rfl⟩ := List.mem_map.mp he
      rfl
    show (true && (true && ((rs.map PyData.int).all (dpB 1) && true))) = true
    rw [h]
    rfl
theorem dp_sort {z : Str} {d : PyData} (h : ofSort z d = true) : dpB 7 d = true := by
  unfold ofSort at h
  split at h
  · cases d <;> first | rfl | cases h
  · split at h
    · cases d with
      | list ds =>
        rename_i r _
        have h' : (decide (r.1 ≤ ds.length) && decide ((ds.length : Int) ≤ r.2) && ds.all isParam) = true := h
        rw [Bool.and_eq_true] at h'
        show ds.all (dpB 6) = true
        rw [List.all_eq_true]
        intro e he
        have := List.all_eq_true.mp h'.2 e he
        cases e <;> first | rfl | cases this
      | _ => cases h
    · split at h
      · cases d <;> first | rfl | cases h
      · split at h
        · obtain ⟨t, rfl, hn, _⟩ := test_shape h
          exact dp_le (dp_tst t) (by omega)
        · cases d <;> first | rfl | cases h
theorem fits_all : ∀ {ws : List Str} {ps : List PyData}, ps.length = ws.length → fits ws ps = true → ∀ p ∈ ps, ∃ w, ofSort w p = true
  | [], [], _, _, p, hp => by cases hp
  | w :: ws, q :: ps, hl, h, p, hp => by
    have h' : (ofSort w q && fits ws ps) = true := h
    rw [Bool.and_eq_true] at h'
    rcases List.mem_cons.mp hp with rfl | hp
    · exact ⟨w, h'.1⟩
    · exact fits_all (by simpa using hl) h'.2 p hp
theorem dp_node {d : PyData} (h : isNode d = true) : dpB 9 d = true := by
  obtain ⟨a, k, ps, zs, ws, rfl, lz, hk, hl, hf⟩ := params_shape h
  have h1 : ps.all (dpB 7) = true := by
    rw [List.all_eq_true]
    intro p hp
    obtain ⟨w, hw⟩ := fits_all hl hf p hp
    exact dp_sort hw
  have h2 : (zs.map PyData.str).all (dpB 7) = true := by
    rw [List.all_eq_true]
    intro e he
    obtain ⟨i, _, rfl⟩ := List.mem_map.mp he
    rfl
  show (true && (true && (ps.all (dpB 7) && ((zs.map PyData.str).all (dpB 7) && true)))) = true
  rw [h1, h2]
  rfl
theorem dp_nodes {ns : List Nd} (w : Wired [] ns) : dpB 10 (.list (ns.map Nd.dat)) = true := by
  show (ns.map Nd.dat).all (dpB 9) = true
  rw [List.all_eq_true]
  intro e he
  obtain ⟨n, hn, rfl⟩ := List.mem_map.mp he
  exact dp_node (wired_node w hn).1
/-! ### a net at an address -/
def NetAt (K : PySem.W.Frag) (H : Hp) (C a : Addr) (ns : List Nd) : Prop := ∃ (dx : Addr) (fs : List (Str × V)) (v : V),
  H a = some (.ins C dx fs) ∧ fs.lookup ("_nodes" : Str) = some v ∧ fs.lookup ("node_list" : Str) = none ∧ Dv K H v (.list (ns.map Nd.dat)) ∧ Wired [] ns ∧ 1 ≤ ns.length ∧ ns.length ≤ 30
theorem NetAt.same {K : PySem.W.Frag} {H H' : Hp} {C a : Addr} {ns : List Nd} (h : NetAt K H C a ns) (s : Same H H') : NetAt K H' C a ns := by
  obtain ⟨dx, fs, v, h1, h2, h3, h4, h5⟩ := h
  exact ⟨dx, fs, v, s _ _ h1, h2, h3, h4.same s, h5⟩
structure NetCls (P : Program) (w : World) (K : PySem.W.Frag) (mg : Str → Option Value) (base : Heap) (C : Addr) : Prop where
  c : Cls K C
  nl : ∃ f fd, Meth K C "node_list" f ∧ FnOk P w K mg base CX0 11 f fd ["self"] (spNodeList K C 10) ∧ Binds K fd ["self"] []
theorem pe_nodes {X : Cx} {C : Addr} {o : Expr} {ap pos : Pos} {ta : TE} {pl : Sem Bool} (N : NetCls X.prog X.w X.K X.mg X.base C) (hr : Room 11 X.A) (ho : PE X o ta)
    (ht : eval (.Call (.Attribute o "node_list" ap) [] [] pos) X.env = (do
      let x ← eval o X.env
      standAt ap.atName
      let (m, args) ← holding [x] (getMethod x "node_list" pl)
      callWith pos m args (backTo pos (starEach [] X.env)) (backToKw pos (keywordEach [] X.env))) := by rfl) :
    PE X (.Call (.Attribute o "node_list" ap) [] [] pos) (tMeth C "node_list" (spNodeList X.K C 10) [] E0 ta tNil) := by
  obtain ⟨f, fd, m, F, b⟩ := N.nl
  exact pe_meth0 ho N.c m F hr b .nil pass0 ht
/-- what is told of a fresh list of nodes -/
theorem nodes_of_net {K : PySem.W.Frag} {H : Hp} {C a : Addr} {ns : List Nd} {Q : VK} (h : NetAt K H C a ns) (q : ∀ (l : Addr) (xs : List V) (H' : Hp), Same H H' → H l = none → H' l = some (.lst xs) → xs.length ≤ 1000 → DvAll K (newOf H H') xs (ns.map Nd.dat) → Q (.ref l) H') :
    ∃ a' dx fs, V.ref a = .ref a' ∧ H a' = some (.ins C dx fs) ∧ fs.lookup ("node_list" : Str) = none ∧ spNodeList K C 10 (.ref a :: ([] ++ [])) H Q E0 := by
  obtain ⟨dx, fs, v, h1, h2, h3, h4, h5, h6, h7⟩ := h
  refine ⟨a, dx, fs, rfl, h1, h3, a, dx, fs, v, _, rfl, h1, h2, h4, dp_nodes h5, fun y H' s d => ?_⟩
  cases d with
  | @lst l xs ds hl hz hd =>
    have e := newOf_same l _ hl
    have n : H l = none := by
      unfold newOf at hl
      cases z : H l with
      | none => rfl
      | some u =>
        rw [z] at hl
        cases hl
    exact q l xs H' s n e hz hd
end Pw
set_option maxHeartbeats 2000000
/-! outlets -/
namespace Pw
open PySem PySem.Spec PyProof.Rows L2 Dc
theorem tWalk_by {J : It} {n : Nat} {G : Hp → Prop} {Y : Nat → Hp → V → Hp → Prop} (w : Walk J n G Y) {H0 : Hp} {Fin : Hp → Prop} {Go : V → Hp → (Hp → Prop) → Prop} (Pv : Nat → Hp → Prop) (h0 : Pv 0 H0) (hG : ∀ i H, i ≤ n → Pv i H → G H)
    (hs : ∀ i x H H', i < n → Pv i H → Y i H x H' → Go x H' (Pv (i + 1))) (hd : ∀ H, Pv n H → Fin H) : tWalk J H0 Fin Go := by
  refine ⟨fun i m H => m = n - i ∧ i ≤ n ∧ Pv i H, ⟨n, by omega, Nat.zero_le _, h0⟩, fun i m H q => ?_⟩
  obtain ⟨rfl, hi, p⟩ := q
  have g := hG i H hi p
  rcases Nat.lt_or_ge i n with lt | ge
  · exact .inr ⟨w.goes i H lt g, Pv (i + 1), fun H' p' => ⟨n - (i + 1), by omega, rfl, lt, p'⟩, fun x H' y => hs i x H H' lt p (w.yields i H x H' lt g y)⟩
  · obtain rfl : i = n := by omega
    exact .inl ⟨w.stops H g, hd H p⟩
theorem node_at {K : PySem.W.Frag} {H : Hp} {xs : List V} {ns : List Nd} (h : DvAll K H xs (ns.map Nd.dat)) {i : Nat} {x : V} (hx : xs[i]? = some x) :
    ∃ (n : Nd) (b l : Addr) (y : V), ns[i]? = some n ∧ x = .ref b ∧ H b = some (.tup [.str n.name, .str n.kind, y, .ref l]) ∧ H l = some (.lst (n.ins.map V.str)) ∧ Dv K H x n.dat := by
  obtain ⟨d, e, hd⟩ := h.getV hx
  rw [List.getElem?_map] at e
  obtain ⟨n, en, rfl⟩ := Option.map_eq_some_iff.mp e
  have hd0 := hd
  cases hd with
  | @tup b ys es hb hz hes =>
    match ys, hes with
    | [y1, y2, y3, y4], .cons h1 (.cons h2 (.cons h3 (.cons h4 .nil))) =>
      cases h1
      cases h2
      cases h4 with
      | @lst l vs es hl hlz hvs =>
        rw [vals_words hvs] at hl
        exact ⟨n, b, l, y3, en, rfl, hb, hl, hd0⟩
/-- rules in a comprehension's block: the written part is that of the def -/
theorem ixT {X : Cx} {K : PySem.W.Frag} (h : X.K = K) : IxR X (rIxT K) := by
  subst h
  exact ix_tup
theorem piL {X : Cx} {K : PySem.W.Frag} {tg l : Expr} {tl : TE} (h : X.K = K) (hl : PE X l tl) : PI X tg l (iList K tl) := by
  subst h
  exact pi_list hl
def flat (ns : List Nd) : List Str := ns.flatMap (·.ins)
theorem used_flat (ns : List Nd) (z : Str) : used ns z = decide (z ∈ flat ns) := by
  unfold used flat
  rw [Bool.eq_iff_iff, List.any_eq_true, decide_eq_true_eq, List.mem_flatMap]
  exact ⟨fun ⟨n, h1, h2⟩ => ⟨n, h1, of_decide_eq_true h2⟩, fun ⟨n, h1, h2⟩ => ⟨n, h1, decide_eq_true h2⟩⟩
/-- a dict that holds just these words -/
def Holds (kvs : List (Key × V)) (zs : List Str) : Prop := kvs.length ≤ zs.length ∧ ∀ z, valV kvs (.inr z) = if z ∈ zs then some (.bl true) else none
theorem Holds.put {kvs : List (Key × V)} {zs : List Str} (h : Holds kvs zs) (z : Str) : Holds (putK kvs (.inr z) (.bl true)) (zs ++ [z]) := by
  refine ⟨?_, fun y => ?_⟩
  · have h1 := h.1
    have h2 := length_putK kvs (.inr z) (.bl true)
    rw [List.length_append]
    show _ ≤ zs.length + 1
    omega
  · rw [valV_put, h.2 y]
    by_cases e : y = z
    · subst e
      rw [if_pos rfl, if_pos (by simp)]
    · rw [if_neg (fun q => e (Sum.inr.inj q))]
      by_cases m : y ∈ zs
      · rw [if_pos m, if_pos (List.mem_append_left _ m)]
      · rw [if_neg m, if_neg (fun q => (List.mem_append.mp q).elim m fun q => e (List.mem_singleton.mp q))]
theorem filterMap_range {α β : Type} (ys : List α) (f : α → Option β) : (List.range ys.length).filterMap (fun i => (ys[i]?).bind f) = ys.filterMap f := by
  induction ys with
  | nil => rfl
  | cons a r ih =>
    rw [List.length_cons, List.range_succ_eq_map, List.filterMap_cons, List.filterMap_map]
    simp only [List.getElem?_cons_zero, Option.bind_some, Function.comp_def, List.getElem?_cons_succ, ih]
    cases e : f a with
    | none => simp [e]
    | some b => simp [e]
theorem outs_is (ns : List Nd) : (ns.filterMap fun n => if used ns n.name = true then none else some (V.str n.name)) = (outs ns).map V.str := by
  unfold outs
  rw [List.map_map]
  generalize used ns = u
  induction ns with
  | nil => rfl
  | cons n r ih =>
    rw [List.filterMap_cons, List.filter_cons]
    cases e : u n.name with
    | true =>
      rw [if_pos rfl, if_neg (by simp)]
      exact ih
    | false =>
      rw [if_neg Bool.false_ne_true, if_pos (by simp), List.map_cons]
      dsimp only
      rw [ih]
      rfl
section
variable {P : Program} {w : World} {K : PySem.W.Frag} {mg : Str → Option Value} {base : Heap} {C : Addr}
def spOutlets (K : PySem.W.Frag) (C : Addr) : Sp := fun vs H Q _ => ∃ a ns, vs = [.ref a] ∧ NetAt K H C a ns ∧ ∀ (l : Addr) (H' : Hp), Same H H' → H l = none → H' l = some (.lst ((outs ns).map V.str)) → Q (.ref l) H'
theorem ok_outlets (N : NetCls P w K mg base C) (D : Dfn K mg "outlets" sOutlets ["net"]) : DefOk P w K mg base CX0 12 "outlets" ["net"] (spOutlets K C) := D.ok fun f fd F => by
  refine F.ok scOutlets (fun vs H Q E h => ?_) (fun cdv A outer s H vs Q E hr h => ?_)
  · obtain ⟨a, ns, rfl, _⟩ := h
    rfl
  · obtain ⟨a, ns, rfl, ha, q⟩ := h
    have nd := scOutlets.nd
    have hu := Nat.lt_of_le_of_lt (Nat.add_le_add_left (by decide : 1 ≤ 64) _) hr.units
    refine ⟨_, pss_cons (ps_set (i := 1) nd rfl (.inl rfl) (pe_nodes N (hr.mono (by decide)) (pv 0)))
      (pss_cons (ps_set (i := 2) nd rfl (.inr rfl) (pe_dc2 (own := [("node", 3), ("name", 4)]) (us := [4]) (g := gName 3) (tt := tYes) (g1 := gName 4) (tt1 := tYes) rfl nd (pi_list (pv 1))
          (blkOk_by (N := ["net", "nodes", "used", "node", "name"]) (sc := defScope sOutlets) (by decide +kernel)) (by decide)
          (fun _ _ _ _ _ => pg_name (i := 3) nd rfl (Or.inl rfl)) (fun _ _ _ _ _ => pts_nil) (fun _ _ _ _ _ => piL (K := K) rfl (pe_ix (ixT (K := K) rfl) (pv 3) pe_int (fun _ _ => rfl))) (fun _ _ _ _ _ => pg_name (i := 4) nd rfl (Or.inl rfl)) (fun _ _ _ _ _ => pts_nil)
          (fun _ _ _ _ _ => pv 4) (fun _ _ _ _ _ => pe_bl)))
      (pss_one (ps_ret (pe_lc (own := [("node", 3)]) (g := gName 3) rfl nd (pi_list (pv 1)) (blkOk_by (N := ["net", "nodes", "used", "node", "name"]) (sc := defScope sOutlets) (by decide +kernel))
          (fun _ _ _ _ _ => pg_name (i := 3) nd rfl (Or.inl rfl)) (fun _ _ _ _ _ => pts_one (pt_cmp (pc_dnotin (by exact hu) (pe_ix (ixT (K := K) rfl) (pv 3) pe_int (fun _ _ => rfl)) (pv 2)) (by rfl)))
          (fun _ _ _ _ _ => pe_ix (ixT (K := K) rfl) (pv 3) pe_int (fun _ _ => rfl)))))), ?_⟩
    refine ⟨_, rfl, nodes_of_net ha fun l xs H1 s1 nl hl hz hds => ?_⟩
    have hds1 := hds.same newOf_same
    have hl30 : xs.length ≤ 30 := by
      obtain ⟨_, _, _, _, _, _, _, _, _, h30⟩ := ha
      have := hds.length
      rw [List.length_map] at this
      omega
    have hw : Wired [] ns := by
      obtain ⟨_, _, _, _, _, _, _, w, _⟩ := ha
      exact w
    have hlen : xs.length = ns.length := by rw [hds.length, List.length_map]
    refine ⟨.ref l, rfl, l, rfl, ⟨_, SqL.of hl⟩, fun D nD => ?_⟩
    refine tWalk_by (walk_list (xs := xs)) (fun i H' => Same H1 H' ∧ ∃ kvs, H' D = some (.dK kvs) ∧ Holds kvs (flat (ns.take i))) ⟨same_upd nD, [], upd_same, by show 0 ≤ _; exact Nat.zero_le _, fun z => rfl⟩ (fun i H' _ p => SqL.of (p.1 _ _ hl)) (fun i x H' H'' hi p y => ?_) (fun H' p => ?_)
    · obtain ⟨sm, kvs, hD, hk⟩ := p
      obtain ⟨rfl, hx⟩ := y
      obtain ⟨n, b, l2, y3, en, rfl, hb, hl2, _⟩ := node_at (hds1.same sm) hx
      have nD2 : l2 ≠ D := fun e => by
        rw [e, hD] at hl2
        cases hl2
      have hl2' : H1 l2 = some (.lst (n.ins.map V.str)) := by
        obtain ⟨n', b', l2', y', en', e', hb', hl', _⟩ := node_at hds1 hx
        cases en.symm.trans en'
        cases e'
        have := sm _ _ hb'
        cases hb.symm.trans this
        exact hl'
      refine ⟨rfl, ?_⟩
      refine ⟨.ref b, rfl, b, _, _, _, rfl, rfl, SqT.of hb, atI_nat (j := 3) rfl, l2, rfl, ⟨_, SqL.of hl2⟩, ?_⟩
      refine tWalk_by (walk_list (xs := n.ins.map V.str)) (fun j H' => Same H1 H' ∧ ∃ kvs, H' D = some (.dK kvs) ∧ Holds kvs (flat (ns.take i) ++ n.ins.take j)) ⟨sm, kvs, hD, by simpa using hk⟩ (fun j H' _ p => SqL.of (p.1 _ _ hl2')) (fun j x H3 H4 hj p y => ?_) (fun H' p => ?_)
      · obtain ⟨sm2, kvs2, hD2, hk2⟩ := p
        obtain ⟨rfl, hx2⟩ := y
        rw [List.getElem?_map] at hx2
        obtain ⟨z, ez, rfl⟩ := Option.map_eq_some_iff.mp hx2
        refine ⟨rfl, ?_⟩
        refine ⟨_, rfl, kvs2, .inr z, rfl, hD2, ?_, fun b' o e => ?_, _, upd_same, ?_⟩
        · have h1 := hk2.1
          have h2 : (flat (ns.take i)).length ≤ 30 * 10 := by
            unfold flat
            rw [List.length_flatMap]
            have h3 : ∀ (ms : List Nd), (∀ m ∈ ms, m.ins.length ≤ 10) → (ms.map fun m => m.ins.length).sum ≤ ms.length * 10 := by
              intro ms
              induction ms with
              | nil => intro _; exact Nat.le_refl _
              | cons m r ih =>
                intro h
                have a1 := h m List.mem_cons_self
                have a2 := ih fun u hu => h u (List.mem_cons_of_mem _ hu)
                rw [List.map_cons, List.sum_cons, List.length_cons, Nat.add_mul]
                omega
            have h4 := h3 (ns.take i) fun m hm => (wired_node hw (List.mem_of_mem_take hm)).2
            have h5 : (ns.take i).length ≤ 30 := by
              rw [List.length_take]
              omega
            have h6 : (ns.take i).length * 10 ≤ 30 * 10 := Nat.mul_le_mul_right 10 h5
            exact Nat.le_trans h4 h6
          have h7 := (wired_node hw (List.mem_of_getElem? en)).2
          rw [List.length_append, List.length_take] at h1
          exact Nat.lt_of_le_of_lt (by omega : kvs2.length ≤ 1000) (by decide)
        · rw [upd_ne (ne_of_none e nD)]
          exact sm2 _ _ e
        · rw [List.take_add_one, ez, ← List.append_assoc]
          exact hk2.put z
      · obtain ⟨sm2, kvs2, hD2, hk2⟩ := p
        refine ⟨sm2, kvs2, hD2, ?_⟩
        rw [List.length_map, List.take_length] at hk2
        rw [List.take_add_one, en]
        unfold flat at hk2 ⊢
        rw [List.flatMap_append]
        simpa using hk2
    · obtain ⟨sm, kvs, hD, hk⟩ := p
      rw [hlen, List.take_length] at hk
      refine ⟨.ref l, rfl, l, rfl, ⟨_, SqL.of (sm _ _ hl)⟩, fun D2 nD2 => ?_⟩
      have nl2 : ∀ {b : Addr} {o : HO}, H1 b = some o → b ≠ D2 := fun {b o} e z => by
        rw [z] at e
        rw [sm _ _ e] at nD2
        cases nD2
      refine lc_filtW (walk_list (xs := xs)) (fun i => (ns[i]?).bind fun n => if used ns n.name = true then none else some (V.str n.name)) nD2 (Nat.lt_of_le_of_lt hl30 (by decide)) (fun H' s' => SqL.of (s' _ _ (sm _ _ hl))) (fun i x H3 H4 Q2 N2 hi s3 y k1 k2 => ?_) (fun H3 s3 e3 => ?_)
      · obtain ⟨rfl, hx⟩ := y
        obtain ⟨n, b, l2, y3, en, rfl, hb, hl2, _⟩ := node_at (hds1.same (sm.trans s3)) hx
        have hb' := hb
        have hd : H4 D = some (.dK kvs) := s3 _ _ hD
        have g : DGet H4 D (.str n.name) (if n.name ∈ flat ns then some (.bl true) else none) := by
          have := DGet.k (k := .inr n.name) hd
          rwa [hk.2] at this
        refine ⟨rfl, .ref b, rfl, b, _, _, _, rfl, rfl, SqT.of hb', atI_nat (j := 0) rfl, _, rfl, D, _, rfl, g, _, rfl, ?_⟩
        rw [en] at k1 k2
        by_cases m : n.name ∈ flat ns
        · have u : used ns n.name = true := by rw [used_flat]; exact decide_eq_true m
          rw [if_pos m]
          exact k2 _ (by show (if used ns n.name = true then none else _) = none; rw [if_pos u]) (Same.refl _)
        · have u : used ns n.name = false := by rw [used_flat]; exact decide_eq_false m
          rw [if_neg m]
          refine ⟨.ref b, rfl, b, _, _, _, rfl, rfl, SqT.of hb', atI_nat (j := 0) rfl, ?_⟩
          exact k1 _ _ (by show (if used ns n.name = true then none else some (V.str n.name)) = _; rw [u, if_neg Bool.false_ne_true]) (Same.refl _)
      · rw [hlen, filterMap_range ns, outs_is] at e3
        refine q _ _ (s1.trans (sm.trans s3)) ?_ e3
        cases e : H D2 with
        | none => rfl
        | some o =>
          rw [sm _ _ (s1 _ _ e)] at nD2
          cases nD2
end
end Pw
set_option maxHeartbeats 200000
/-! the law's own draws -/
namespace Pw
open PySem PySem.Spec PyProof.Rows L2
abbrev sSourceOf : Stmt := topS 60
abbrev sNext : Stmt := topS 61
abbrev sOne : Stmt := topS 62
abbrev sCellAt : Stmt := topS 63
/-- the heap without what stands at a -/
def hid (a : Addr) (H : Hp) : Hp := fun b => if b = a then none else H b
theorem hid_ne {a b : Addr} {H : Hp} (h : b ≠ a) : hid a H b = H b := if_neg h
theorem hid_of {a b : Addr} {H : Hp} {o : HO} (h : hid a H b = some o) : b ≠ a ∧ H b = some o := by
  unfold hid at h
  by_cases e : b = a
  · rw [if_pos e] at h
    cases h
  · rw [if_neg e] at h
    exact ⟨e, h⟩
theorem hid_same {a : Addr} {H : Hp} : Same (hid a H) H := fun b o h => (hid_of h).2
theorem hid_mono {a : Addr} {H H' : Hp} (e : Same (hid a H) H') : Same (hid a H) (hid a H') := fun b o h => by
  rw [hid_ne (hid_of h).1]
  exact e b o h
theorem Same.hid {a : Addr} {H H' : Hp} (e : Same H H') : Same (hid a H) (hid a H') := hid_mono (hid_same.trans e)
/-- a source at a, drawn from at most k times -/
def Src (H : Hp) (a : Addr) (k : Int) : Prop := ∃ A B C : Int, H a = some (.lst [.int A, .int B, .int C]) ∧ 0 ≤ B ∧ B < 2147483647 ∧ 0 ≤ C ∧ C ≤ k
theorem Src.same {H H' : Hp} {a : Addr} {k : Int} (s : Src H a k) (e : Same H H') : Src H' a k := by
  obtain ⟨A, B, C, h, r⟩ := s
  exact ⟨A, B, C, e _ _ h, r⟩
theorem Src.mono {H : Hp} {a : Addr} {k l : Int} (s : Src H a k) (e : k ≤ l) : Src H a l := by
  obtain ⟨A, B, C, h, h1, h2, h3, h4⟩ := s
  exact ⟨A, B, C, h, h1, h2, h3, by omega⟩
theorem scSourceOf : FnScope ["_law_cell"] ["_law_cell"] (defScope sSourceOf) := ⟨rfl, rfl, rfl, by decide +kernel, rfl, by decide +kernel, by decide +kernel⟩
theorem scNext : FnScope ["_law_source", "_law_many", "_law_found", "_law_prime", "_law_figure"] ["_law_source", "_law_many"] (defScope sNext) := ⟨rfl, rfl, rfl, by decide +kernel, rfl, by decide +kernel, by decide +kernel⟩
theorem scOne : FnScope ["_law_source", "_law_options"] ["_law_source", "_law_options"] (defScope sOne) := ⟨rfl, rfl, rfl, by decide +kernel, rfl, by decide +kernel, by decide +kernel⟩
theorem scCellAt : FnScope ["_law_script", "_law_k"] ["_law_script", "_law_k"] (defScope sCellAt) := ⟨rfl, rfl, rfl, by decide +kernel, rfl, by decide +kernel, by decide +kernel⟩
theorem fmod_in {i m : Int} (h : 0 < m) : 0 ≤ i.fmod m ∧ i.fmod m < m := ⟨Int.fmod_nonneg_of_pos i h, Int.fmod_lt_of_pos i h⟩
abbrev primes : List Int := [2147483647, 2147483629, 2147483587, 2147483579, 2147483563, 2147483549, 2147483543]
theorem prime_at {i : Int} (h0 : 0 ≤ i) (h1 : i < 7) : ∃ p : Int, atI (primes.map V.int) i = some (.int p) ∧ 0 < p ∧ p ≤ 2147483647 := by
  have e : i = 0 ∨ i = 1 ∨ i = 2 ∨ i = 3 ∨ i = 4 ∨ i = 5 ∨ i = 6 := by omega
  rcases e with rfl | rfl | rfl | rfl | rfl | rfl | rfl
  · exact ⟨_, atI_nat (j := 0) rfl, by decide, by decide⟩
  · exact ⟨_, atI_nat (j := 1) rfl, by decide, by decide⟩
  · exact ⟨_, atI_nat (j := 2) rfl, by decide, by decide⟩
  · exact ⟨_, atI_nat (j := 3) rfl, by decide, by decide⟩
  · exact ⟨_, atI_nat (j := 4) rfl, by decide, by decide⟩
  · exact ⟨_, atI_nat (j := 5) rfl, by decide, by decide⟩
  · exact ⟨_, atI_nat (j := 6) rfl, by decide, by decide⟩
theorem many_bits {m : Int} (h0 : 0 < m) (h1 : m ≤ 10 ^ 31) : m.natAbs < 2 ^ 200 := by
  have e : (10 : Int) ^ 31 < 2 ^ 200 := by decide
  have e2 : ((2 ^ 200 : Nat) : Int) = 2 ^ 200 := by norm_cast
  omega
section
variable {P : Program} {w : World} {K : PySem.W.Frag} {mg : Str → Option Value} {base : Heap}
/-! ### a new source -/
def spSourceOf : Sp := fun vs H Q _ => ∃ c : Int, vs = [.int c] ∧ ∀ p A, H p = none → Q (.ref p) (upd H p (.lst [.int A, .int (c.fmod 2147483647), .int 0]))
theorem ok_sourceOf (B : Blt mg) (D : Dfn K mg "_law_source_of" sSourceOf ["_law_cell"]) : DefOk P w K mg base CX0 1 "_law_source_of" ["_law_cell"] spSourceOf := D.ok fun f fd F => by
  refine F.ok scSourceOf (fun vs H Q E h => ?_) (fun cdv A outer s H vs Q E hr h => ?_)
  · obtain ⟨c, rfl, _⟩ := h
    rfl
  · obtain ⟨c, rfl, q⟩ := h
    refine ⟨_, pss_one (ps_ret (pe_lst (pa_cons (pe_op op_mul (pv 0) (pe_callTy call_int1 (by rfl) B.int boot_int (pa_cons (pe_cmpR op_ge (pv 0) (pe_op op_pow pe_int pe_int) (nomark _)) pa_nil)))
      (pa_cons (pe_op op_modN (pe_callTy call_int1 (by rfl) B.int boot_int (pa_cons (pv 0) pa_nil)) pe_int) (pa_cons pe_int pa_nil))))), ?_⟩
    refine ⟨_, rfl, _, rfl, _, _, rfl, rfl, ⟨by decide, by decide, by decide⟩, _, _, rfl, rfl, .inr ⟨_, rfl, ?_⟩⟩
    refine ⟨_, _, rfl, rfl, .inr ?_, _, rfl, .inl ⟨_, rfl, _, _, rfl, rfl, (by show (2147483647 : Int) ≠ 0; decide), ?_⟩⟩
    · split <;> exact ⟨by decide, by decide⟩
    · exact ⟨by show 3 ≤ sizeLine; decide, fun p hp => q p _ hp⟩
/-! ### a draw -/
def spNext : Sp := fun vs H Q _ => ∃ (a : Addr) (m k : Int), vs = [.ref a, .int m] ∧ Src H a k ∧ k < 1000000 ∧ 0 < m ∧ m ≤ 10 ^ 31 ∧
  ∀ r H', 0 ≤ r → r < m → Src H' a (k + 1) → Same (hid a H) H' → Q (.int r) H'
theorem ok_next (B : Blt mg) (D : Dfn K mg "_law_next" sNext ["_law_source", "_law_many"]) : DefOk P w K mg base CX0 1 "_law_next" ["_law_source", "_law_many"] spNext := D.ok fun f fd F => by
  refine F.ok scNext (fun vs H Q E h => ?_) (fun cdv A outer s H vs Q E hr h => ?_)
  · obtain ⟨a, m, k, rfl, _⟩ := h
    rfl
  · obtain ⟨a, m, k, rfl, ⟨A, B', C, ha, hB0, hB1, hC0, hC1⟩, hk, hm0, hm1, q⟩ := h
    have nd := scNext.nd
    refine ⟨_, pss_cons (ps_if (pt_cmpR op_gt (pe_ix ix_list (pv 0) pe_int (fun _ _ => rfl)) pe_int (nomark _))
        (pss_cons (ps_set (i := 2) nd rfl (.inl rfl) (pe_op op_modN (pe_callTy call_int1 (by rfl) B.int boot_int (pa_cons (pe_ix ix_list (pv 0) pe_int (fun _ _ => rfl)) pa_nil)) (pv 1)))
        (pss_cons (ps_asg (pe_op op_fdivW (pe_ix ix_list (pv 0) pe_int (fun _ _ => rfl)) (pv 1)) (pg_sub (pv 0) pe_int set_list))
        (pss_one (ps_ret (pv 2))))) pss_nil)
      (pss_cons (ps_asg (pe_op op_add (pe_ix ix_list (pv 0) pe_int (fun _ _ => rfl)) pe_int) (pg_sub (pv 0) pe_int set_list))
      (pss_cons (ps_set (i := 3) nd rfl (.inl rfl) (pe_ix ix_list (pe_lst (pa_cons pe_int (pa_cons pe_int (pa_cons pe_int (pa_cons pe_int (pa_cons pe_int (pa_cons pe_int (pa_cons pe_int pa_nil))))))))
        (pe_op op_modN (pe_callTy call_int1 (by rfl) B.int boot_int (pa_cons (pe_ix ix_list (pv 0) pe_int (fun _ _ => rfl)) pa_nil)) pe_int) (fun _ _ => rfl)))
      (pss_cons (ps_set (i := 4) nd rfl (.inl rfl) (pe_op op_modN (pe_callTy call_int1 (by rfl) B.int boot_int (pa_cons
        (pe_op op_pow (pe_op op_add (pe_op op_add (pe_ix ix_list (pv 0) pe_int (fun _ _ => rfl)) (pe_op op_mul pe_int (pe_ix ix_list (pv 0) pe_int (fun _ _ => rfl)))) pe_int) pe_int) pa_nil)) (pv 3)))
      (pss_cons (ps_set (i := 4) nd rfl (.inl rfl) (pe_op op_modN (pe_callTy call_int1 (by rfl) B.int boot_int (pa_cons
        (pe_op op_mul (pe_op op_add (pv 4) (pe_ix ix_list (pv 0) pe_int (fun _ _ => rfl))) (pe_op op_add (pe_op op_fdivN (pv 4) pe_int) pe_int)) pa_nil)) (pv 3)))
      (pss_one (ps_ret (pe_op op_modN (pe_callTy call_int1 (by rfl) B.int boot_int (pa_cons (pe_op op_fdivN (pv 4) pe_int) pa_nil)) (pv 1)))))))), ?_⟩
    refine ⟨.ref a, rfl, a, _, 0, .int A, rfl, rfl, SqL.of ha, atI_nat (j := 0) rfl, _, _, rfl, rfl, _, rfl, ite2 (fun e => ?_) (fun e => ?_)⟩
    · -- from the great number
      refine ⟨.ref a, rfl, a, _, 0, .int A, rfl, rfl, SqL.of ha, atI_nat (j := 0) rfl, .inl ⟨A, rfl, _, rfl, A, m, rfl, rfl, by omega, ?_⟩⟩
      refine ⟨.ref a, rfl, a, _, 0, .int A, rfl, rfl, SqL.of ha, atI_nat (j := 0) rfl, _, rfl, A, m, rfl, rfl, wide_div hm0 (many_bits hm0 hm1) (by decide) (by decide), ?_⟩
      refine ⟨.ref a, rfl, a, _, 0, 0, rfl, rfl, ha, rfl, _, rfl, ?_⟩
      have f := fmod_in (i := A) hm0
      refine q _ _ f.1 f.2 ⟨A / m, B', C, upd_same, hB0, hB1, hC0, by omega⟩ fun b o h => ?_
      rw [upd_ne (hid_of h).1]
      exact (hid_of h).2
    · -- a figure
      refine ⟨.ref a, rfl, a, _, 2, .int C, rfl, rfl, SqL.of ha, atI_nat (j := 2) rfl, C, 1, rfl, rfl, ?_⟩
      refine ⟨.ref a, rfl, a, _, 2, 2, rfl, rfl, ha, rfl, ?_⟩
      have ha2 : upd H a (.lst [.int A, .int B', .int (C + 1)]) a = some (.lst [.int A, .int B', .int (C + 1)]) := upd_same
      refine ⟨by show 7 ≤ sizeLine; decide, fun p np => ?_⟩
      have sp := same_upd (o := HO.lst (primes.map V.int)) np
      have ha3 := sp _ _ ha2
      have f7 := fmod_in (i := C + 1) (m := 7) (by decide)
      obtain ⟨pr, hp1, hp2, hp3⟩ := prime_at f7.1 f7.2
      refine ⟨.ref a, rfl, a, _, 2, .int (C + 1), rfl, rfl, SqL.of ha3, atI_nat (j := 2) rfl, .inl ⟨C + 1, rfl, C + 1, 7, rfl, rfl, (by show (7 : Int) ≠ 0; decide), ?_⟩⟩
      refine ⟨p, _, _, .int pr, rfl, rfl, SqL.of upd_same, hp1, ?_⟩
      -- the first figure
      refine ⟨.ref a, rfl, a, _, 1, .int B', rfl, rfl, SqL.of ha3, atI_nat (j := 1) rfl, .ref a, rfl, a, _, 2, .int (C + 1), rfl, rfl, SqL.of ha3, atI_nat (j := 2) rfl, 7919, C + 1, rfl, rfl, .inl ⟨by decide, by decide⟩, _, _, rfl, rfl, _, _, rfl, rfl, _, _, rfl, rfl, ⟨by decide, by decide, by omega⟩, .inl ⟨_, rfl, ?_⟩⟩
      refine ⟨_, rfl, _, _, rfl, rfl, by omega, ?_⟩
      have f1 := fmod_in (i := (B' + 7919 * (C + 1) + 1) ^ (5 : Int).toNat) hp2
      -- the second one
      refine ⟨_, rfl, .ref a, rfl, a, _, 2, .int (C + 1), rfl, rfl, SqL.of ha3, atI_nat (j := 2) rfl, _, _, rfl, rfl, _, rfl, _, _, rfl, rfl, ⟨by decide, by decide⟩, _, _, rfl, rfl, _, _, rfl, rfl, .inl ⟨by omega, by omega⟩, .inl ⟨_, rfl, ?_⟩⟩
      refine ⟨_, rfl, _, _, rfl, rfl, by omega, ?_⟩
      refine ⟨_, rfl, _, _, rfl, rfl, ⟨by decide, by decide⟩, .inl ⟨_, rfl, _, rfl, _, _, rfl, rfl, by omega, ?_⟩⟩
      have f := fmod_in (i := Int.fdiv (Int.fmod ((Int.fmod ((B' + 7919 * (C + 1) + 1) ^ (5 : Int).toNat) pr + (C + 1)) * (Int.fdiv (Int.fmod ((B' + 7919 * (C + 1) + 1) ^ (5 : Int).toNat) pr) 1009 + 69621)) pr) 7) hm0
      refine q _ _ f.1 f.2 ⟨A, B', C + 1, ha3, hB0, hB1, by omega, by omega⟩ fun b o h => ?_
      refine sp _ _ ?_
      rw [upd_ne (hid_of h).1]
      exact (hid_of h).2
/-! ### one of several -/
def spOne (K : PySem.W.Frag) : Sp := fun vs H Q _ => ∃ (a b : Addr) (k : Int) (xs : List V), vs = [.ref a, .ref b] ∧ Src H a k ∧ k < 1000000 ∧ hid a H b = some (.lst xs) ∧ 0 < xs.length ∧ xs.length ≤ 1000000 ∧
  ∀ (i : Nat) (v : V) H', xs[i]? = some v → Src H' a (k + 1) → Same (hid a H) H' → Q v H'
theorem ok_one (B : Blt mg) (G : DefOk P w K mg base CX0 1 "_law_next" ["_law_source", "_law_many"] spNext) (D : Dfn K mg "_law_one" sOne ["_law_source", "_law_options"]) : DefOk P w K mg base CX0 2 "_law_one" ["_law_source", "_law_options"] (spOne K) := D.ok fun f fd F => by
  refine F.ok scOne (fun vs H Q E h => ?_) (fun cdv A outer s H vs Q E hr h => ?_)
  · obtain ⟨a, b, k, xs, rfl, _⟩ := h
    rfl
  · obtain ⟨a, b, k, xs, rfl, src, hk, hb, h0, h1, q⟩ := h
    refine ⟨_, pss_one (ps_ret (pe_ix ix_list (pv 1) (pe_def G hr pass0 (pa_cons (pv 0) (pa_cons (pe_callB call_len_seq (by rfl) B.len PySem.boot_len (pa_cons (pv 1) pa_nil)) pa_nil))) (fun _ _ => rfl))), ?_⟩
    refine ⟨.ref b, rfl, .ref a, rfl, .ref b, rfl, b, xs, rfl, .inl (SqL.of (hid_of hb).2), a, xs.length, k, rfl, src, hk, by omega, ?_, fun r H' r0 r1 src' sm => ?_⟩
    · have e31 : (1000000 : Int) ≤ 10 ^ 31 := by decide
      omega
    · have hi : r.toNat < xs.length := by omega
      refine ⟨b, xs, r, xs[r.toNat], rfl, rfl, SqL.of (sm _ _ hb), ?_, q r.toNat _ H' (List.getElem?_eq_getElem hi) src' sm⟩
      have z := atI_nat (xs := xs) (j := r.toNat) (v := xs[r.toNat]) (List.getElem?_eq_getElem hi)
      rw [Int.toNat_of_nonneg r0] at z
      exact z
/-! ### a cell of the script -/
def spCellAt (K : PySem.W.Frag) : Sp := fun vs H Q _ => ∃ (a : Addr) (ns : List Int) (k : Nat), vs = [.ref a, .int k] ∧ SqL K H a (ns.map V.int) ∧ ∀ c : Int, Q (.int c) H
theorem ok_cellAt (B : Blt mg) (D : Dfn K mg "_law_cell_at" sCellAt ["_law_script", "_law_k"]) : DefOk P w K mg base CX0 1 "_law_cell_at" ["_law_script", "_law_k"] (spCellAt K) := D.ok fun f fd F => by
  refine F.ok scCellAt (fun vs H Q E h => ?_) (fun cdv A outer s H vs Q E hr h => ?_)
  · obtain ⟨a, ns, k, rfl, _⟩ := h
    rfl
  · obtain ⟨a, ns, k, rfl, hS, q⟩ := h
    refine ⟨_, pss_cons (ps_if (pt_cmpR op_lt (pv 1) (pe_callB call_len_seq (by rfl) B.len PySem.boot_len (pa_cons (pv 0) pa_nil)) (nomark _)) (pss_one (ps_ret (pe_ix ix_list (pv 0) (pv 1) (fun _ _ => rfl)))) pss_nil) (pss_one (ps_ret pe_int)), ?_⟩
    refine ⟨_, rfl, .ref a, rfl, a, _, rfl, .inl hS, _, _, rfl, rfl, _, rfl, ite2 (fun e => ?_) (fun e => ?_)⟩
    · have e1 : (k : Int) < ((ns.map V.int).length : Int) := of_decide_eq_true e
      rw [List.length_map] at e1
      have hk : k < ns.length := by omega
      exact ⟨.ref a, rfl, _, rfl, a, _, k, .int ns[k], rfl, rfl, hS, atI_nat (by rw [List.getElem?_map, List.getElem?_eq_getElem hk]; rfl), q _⟩
    · exact q 0
end
end Pw
set_option maxHeartbeats 2000000
/-! cells -/
namespace Pw
open PySem PySem.Spec PyProof.Rows L2 Dc
theorem wired_at {ns : List Nd} {i : Nat} {n : Nd} (w : Wired [] ns) (e : ns[i]? = some n) : n.name ∉ (ns.take i).map (·.name) ∧ ∀ z ∈ n.ins, z ∈ (ns.take i).map (·.name) := by
  have lt := (List.getElem?_eq_some_iff.mp e).1
  have e2 : ns = ns.take i ++ n :: ns.drop (i + 1) := by
    have h1 : ns.drop i = n :: ns.drop (i + 1) := by
      rw [List.drop_eq_getElem_cons lt, (List.getElem?_eq_some_iff.mp e).2]
    rw [← h1, List.take_append_drop]
  rw [e2] at w
  have w2 := wired_split w
  cases w2 with
  | cons h1 h2 _ _ _ => exact ⟨by simpa using h1, fun z hz => by simpa using h2 z hz⟩
theorem drop_at {ns : List Nd} {i : Nat} {n : Nd} (e : ns[i]? = some n) : ns.drop i = n :: ns.drop (i + 1) := by
  rw [List.drop_eq_getElem_cons (List.getElem?_eq_some_iff.mp e).1, (List.getElem?_eq_some_iff.mp e).2]
theorem take_at {ns : List Nd} {i : Nat} {n : Nd} (e : ns[i]? = some n) : ns.take (i + 1) = ns.take i ++ [n] := by
  rw [List.take_add_one, e]
  rfl
theorem put_new {b : List (Str × Int)} {z : Str} {v : Int} (h : z ∉ b.map (·.1)) : HO.dK (putK (b.map fun p => ((.inr p.1 : Key), V.int p.2)) (.inr z) (.int v)) = kiO (b ++ [(z, v)]) := by
  rw [putK_new _ (by rw [valV_words, lookup_none.mpr h]; rfl)]
  show HO.dK _ = HO.dK _
  rw [List.map_append]
  rfl
theorem get_known {H : Hp} {D : Addr} {b : List (Str × Int)} {z : Str} (hD : H D = some (kiO b)) (h : z ∈ b.map (·.1)) : DGet H D (.str z) (some (.int (look b z))) := by
  have g := DGet.k (k := .inr z) hD
  rw [valV_words] at g
  obtain ⟨v, e⟩ := lookup_isSome h
  unfold look
  rw [e] at g ⊢
  exact g
theorem outs_sub {ns : List Nd} {z : Str} (h : z ∈ outs ns) : z ∈ ns.map (·.name) := by
  obtain ⟨n, hn, rfl⟩ := List.mem_map.mp h
  exact List.mem_map.mpr ⟨n, (List.mem_filter.mp hn).1, rfl⟩
theorem outs_len (ns : List Nd) : (outs ns).length ≤ ns.length := by
  unfold outs
  rw [List.length_map]
  exact List.length_filter_le _ _
theorem sum_map_look (b : List (Str × Int)) (zs : List Str) : ((zs.map fun z => V.int (look b z))) = (zs.map (look b)).map V.int := by
  rw [List.map_map]
  rfl
section
variable {P : Program} {w : World} {K : PySem.W.Frag} {mg : Str → Option Value} {base : Heap} {C : Addr}
def spCells (K : PySem.W.Frag) (C : Addr) : Sp := fun vs H Q _ => ∃ a ns, vs = [.ref a] ∧ NetAt K H C a ns ∧ ∀ (H' : Hp), Same H H' → Q (.int (cellsN ns)) H'
theorem ok_cells (bS : mg "sum" = none) (N : NetCls P w K mg base C) (G : DefOk P w K mg base CX0 12 "outlets" ["net"] (spOutlets K C)) (D : Dfn K mg "cells" sCells ["net"]) : DefOk P w K mg base CX0 13 "cells" ["net"] (spCells K C) := D.ok fun f fd F => by
  refine F.ok scCells (fun vs H Q E h => ?_) (fun cdv A outer s H vs Q E hr h => ?_)
  · obtain ⟨a, ns, rfl, _⟩ := h
    rfl
  · obtain ⟨a, ns, rfl, ha, q⟩ := h
    have nd := scCells.nd
    have hu := Nat.lt_of_le_of_lt (Nat.add_le_add_left (by decide : 1 ≤ 64) _) hr.units
    refine ⟨_, pss_cons (ps_set (i := 1) nd rfl (.inr rfl) pe_dnewK)
      (pss_cons (ps_for PassesOwn.never rfl (pi_list (pe_nodes N (hr.mono (by decide)) (pv 0))) (pg_name (i := 2) nd rfl (Or.inl rfl))
        (pss_one (ps_dput hu (pv 1) (pe_ix ix_tup (pv 2) pe_int (fun _ _ => rfl)) (pe_op op_add pe_int (pe_callB (cr_sum rfl) (by rfl) bS (by decide +kernel) (pa_cons
          (pe_lc (own := [("lower", 3)]) (g := gName 3) (tt := tYes) rfl nd (pi_list (pe_ix ix_tup (pv 2) pe_int (fun _ _ => rfl))) (blkOk_by (N := ["net", "below", "node", "lower", "name"]) (sc := defScope sCells) (by decide +kernel))
            (fun _ _ _ _ _ => pg_name (i := 3) nd rfl (Or.inl rfl)) (fun _ _ _ _ _ => pts_nil) (fun _ _ _ _ _ => pe_dget (by exact hu) (pv 1) (pv 3) (fun _ _ => rfl))) pa_nil))) (by rfl))))
      (pss_one (ps_ret (pe_callB (cr_sum rfl) (by rfl) bS (by decide +kernel) (pa_cons
          (pe_lc (own := [("name", 4)]) (g := gName 4) (tt := tYes) rfl nd (pi_list (pe_def G hr pass0 (pa_cons (pv 0) pa_nil))) (blkOk_by (N := ["net", "below", "node", "lower", "name"]) (sc := defScope sCells) (by decide +kernel))
            (fun _ _ _ _ _ => pg_name (i := 4) nd rfl (Or.inl rfl)) (fun _ _ _ _ _ => pts_nil) (fun _ _ _ _ _ => pe_dget (by exact hu) (pv 1) (pv 4) (fun _ _ => rfl))) pa_nil))))), ?_⟩
    have hw : Wired [] ns := by
      obtain ⟨_, _, _, _, _, _, _, w, _⟩ := ha
      exact w
    have h30 : ns.length ≤ 30 := by
      obtain ⟨_, _, _, _, _, _, _, _, _, h⟩ := ha
      exact h
    refine fun D nD => ?_
    have sD := same_upd (o := .dK []) nD
    refine ⟨_, rfl, nodes_of_net (ha.same sD) fun l xs H1 s1 nl hl hz hds => ?_⟩
    have hds1 := hds.same newOf_same
    have hlen : xs.length = ns.length := by rw [hds.length, List.length_map]
    have lD : l ≠ D := fun e => by
      rw [e, upd_same] at nl
      cases nl
    have s0 : Same H H1 := sD.trans s1
    have hD1 : H1 D = some (kiO []) := s1 _ _ upd_same
    -- what stays: all but the dict
    have key : ∀ {H' : Hp}, Same (hid D H1) H' → ∀ {b : Addr} {o : HO}, H1 b = some o → b ≠ D → H' b = some o := fun {H'} s {b o} e n => s _ _ (by rw [hid_ne n]; exact e)
    refine ⟨l, rfl, ⟨_, SqL.of hl⟩, ?_⟩
    refine for_it (walk_list (xs := xs)) (fun i σ H' => ∃ z b, σ = [some (.ref a), some (.ref D), z, none, none] ∧ Same (hid D H1) H' ∧ H' D = some (kiO b) ∧ b.map (·.1) = (ns.take i).map (·.name) ∧ belowBy fC b (ns.drop i) = belowBy fC [] ns)
      ⟨none, [], rfl, hid_same, hD1, by simp, rfl⟩ (fun i σ H' hi p => by obtain ⟨z, b, rfl, sm, _⟩ := p; exact SqL.of (key sm hl lD)) (fun i x σ H' H'' hi p y => ?_) (fun σ H' p => ?_)
    · obtain ⟨z, b, rfl, sm, hD, hb, hbel⟩ := p
      obtain ⟨rfl, hx⟩ := y
      obtain ⟨n, t, l2, y3, en, rfl, ht1, hl1, _⟩ := node_at hds1 hx
      have tD : t ≠ D := fun e => by
        rw [e, hD1] at ht1
        cases ht1
      have l2D : l2 ≠ D := fun e => by
        rw [e, hD1] at hl1
        cases hl1
      have ht := key sm ht1 tD
      have hl2 := key sm hl1 l2D
      obtain ⟨nw, sub⟩ := wired_at hw en
      have l10 := (wired_node hw (List.mem_of_getElem? en)).2
      refine ⟨.ref t, rfl, t, _, _, _, rfl, rfl, SqT.of ht, atI_nat (j := 3) rfl, l2, rfl, ⟨_, SqL.of hl2⟩, fun D1 nD1 => ?_⟩
      refine lc_mapW (ys := n.ins.map fun z => V.int (look b z)) (walk_list (xs := n.ins.map V.str)) nD1 (by rw [List.length_map, List.length_map]) (by rw [List.length_map]; exact Nat.lt_of_le_of_lt (by omega : n.ins.length ≤ 1000) (by decide)) (fun H3 s3 => SqL.of (s3 _ _ hl2)) (fun j v y H3 H4 Q2 hj ey s3 yv k => ?_) (fun H3 s3 eD => ?_)
      · obtain ⟨rfl, hv⟩ := yv
        rw [List.getElem?_map] at hv ey
        obtain ⟨u, eu, rfl⟩ := Option.map_eq_some_iff.mp hv
        obtain ⟨u2, eu2, rfl⟩ := Option.map_eq_some_iff.mp ey
        cases eu.symm.trans eu2
        refine ⟨rfl, .ref D, rfl, _, rfl, D, _, rfl, get_known (s3 _ _ hD) (by rw [hb]; exact sub u (List.mem_of_getElem? eu)), k _ (Same.refl _)⟩
      · refine ⟨D1, n.ins.map (look b), rfl, SqL.of (by rw [eD, sum_map_look]), 1, _, rfl, rfl, _, rfl, .ref t, rfl, t, _, _, _, rfl, rfl, SqT.of (s3 _ _ ht), atI_nat (j := 0) rfl, D, _, rfl, .inl ⟨_, .inr n.name, s3 _ _ hD, rfl, ?_, rfl⟩, ?_⟩
        · have : b.length = (ns.take i).length := by
            have := congrArg List.length hb
            simpa using this
          rw [List.length_map, this, List.length_take]
          exact Nat.lt_of_le_of_lt (by omega : min i ns.length ≤ 1000) (by decide)
        · rw [put_new (by rw [hb]; exact nw)]
          refine ⟨_, b ++ [(n.name, 1 + (n.ins.map (look b)).sum)], rfl, fun c o e => ?_, upd_same, ?_, ?_⟩
          · rw [upd_ne (hid_of e).1]
            exact s3 _ _ (sm _ _ e)
          · rw [List.map_append, hb, take_at en, List.map_append]
            rfl
          · rw [drop_at en] at hbel
            exact hbel
    · obtain ⟨z, b, rfl, sm, hD, hb, hbel⟩ := p
      rw [hlen, List.drop_length] at hbel
      rw [hlen, List.take_length] at hb
      have hbel : b = belowBy fC [] ns := hbel
      have sH : Same H H' := fun c o e => by
        have ne : c ≠ D := ne_of_none e nD
        exact key sm (s0 _ _ e) ne
      refine ⟨_, rfl, a, ns, rfl, ha.same sH, fun l3 H3 s3 n3 e3 => ?_⟩
      refine ⟨l3, rfl, ⟨_, SqL.of e3⟩, fun D1 nD1 => ?_⟩
      refine lc_mapW (ys := (outs ns).map fun z => V.int (look b z)) (walk_list (xs := (outs ns).map V.str)) nD1 (by rw [List.length_map, List.length_map]) (by rw [List.length_map]; exact Nat.lt_of_le_of_lt (by have := outs_len ns; omega : (outs ns).length ≤ 1000) (by decide)) (fun H4 s4 => SqL.of (s4 _ _ e3)) (fun j v y H4 H5 Q2 hj ey s4 yv k => ?_) (fun H4 s4 eD => ?_)
      · obtain ⟨rfl, hv⟩ := yv
        rw [List.getElem?_map] at hv ey
        obtain ⟨u, eu, rfl⟩ := Option.map_eq_some_iff.mp hv
        obtain ⟨u2, eu2, rfl⟩ := Option.map_eq_some_iff.mp ey
        cases eu.symm.trans eu2
        exact ⟨rfl, .ref D, rfl, _, rfl, D, _, rfl, get_known (s4 _ _ (s3 _ _ hD)) (by rw [hb]; exact outs_sub (List.mem_of_getElem? eu)), k _ (Same.refl _)⟩
      · refine ⟨D1, overOuts fC ns, rfl, SqL.of (by rw [eD, sum_map_look, hbel]; rfl), ?_⟩
        exact q _ (sH.trans (s3.trans s4))
end
end Pw
set_option maxHeartbeats 2000000
/-! weight -/
namespace Pw
open PySem PySem.Spec PyProof.Rows L2 Dc
/-! ### products of great numbers -/
theorem prodI_pos : ∀ {xs : List Int}, (∀ x ∈ xs, 1 ≤ x) → 1 ≤ prodI xs
  | [], _ => by decide
  | x :: r, h => by
    rw [prodI_cons]
    have a := h x List.mem_cons_self
    have b := prodI_pos (xs := r) fun y hy => h y (List.mem_cons_of_mem _ hy)
    have := Int.mul_le_mul a b (by decide) (by omega)
    omega
theorem prodI_snoc (xs : List Int) (x : Int) : prodI (xs ++ [x]) = prodI xs * x := by
  unfold prodI
  rw [List.foldl_append]
  rfl
theorem prodI_append (xs ys : List Int) : prodI (xs ++ ys) = prodI xs * prodI ys := by
  induction xs with
  | nil =>
    show prodI ys = 1 * prodI ys
    rw [Int.one_mul]
  | cons x r ih => rw [List.cons_append, prodI_cons, ih, prodI_cons, Int.mul_assoc]
theorem prodI_take_le {xs : List Int} (h : ∀ x ∈ xs, 1 ≤ x) (i : Nat) : prodI (xs.take i) ≤ prodI xs := by
  have e : prodI xs = prodI (xs.take i) * prodI (xs.drop i) := by rw [← prodI_append, List.take_append_drop]
  have a := prodI_pos (xs := xs.take i) fun y hy => h y (List.mem_of_mem_take hy)
  have b := prodI_pos (xs := xs.drop i) fun y hy => h y (List.mem_of_mem_drop hy)
  have := Int.mul_le_mul (Int.le_refl (prodI (xs.take i))) b (by decide) (by omega)
  omega
theorem prodI_mem_le : ∀ {xs : List Int} {x : Int}, (∀ x ∈ xs, 1 ≤ x) → x ∈ xs → x ≤ prodI xs
  | y :: r, x, h, hx => by
    rw [prodI_cons]
    have a := h y List.mem_cons_self
    have b := prodI_pos (xs := r) fun z hz => h z (List.mem_cons_of_mem _ hz)
    rcases List.mem_cons.mp hx with rfl | hx
    · have := Int.mul_le_mul (Int.le_refl x) b (by decide) (by omega)
      omega
    · have c := prodI_mem_le (fun z hz => h z (List.mem_cons_of_mem _ hz)) hx
      have d := h x (List.mem_cons_of_mem _ hx)
      have := Int.mul_le_mul a c (by omega) (by omega)
      omega
theorem abs_lt {x : Int} {B : Nat} (h1 : 1 ≤ x) (h2 : x < 2 ^ B) : x.natAbs < 2 ^ B := by
  have e : ((2 ^ B : Nat) : Int) = (2 : Int) ^ B := by norm_cast
  omega
def spProdW (K : PySem.W.Frag) : Sp := fun vs H Q _ => ∃ (a : Addr) (ns : List Int) (B : Nat), vs = [.ref a] ∧ SqL K H a (ns.map V.int) ∧ (∀ n ∈ ns, 1 ≤ n) ∧ 0 < B ∧ B ≤ 400000 ∧ prodI ns < 2 ^ B ∧ Q (.int (prodI ns)) H
section
variable {P : Program} {w : World} {K : PySem.W.Frag} {mg : Str → Option Value} {base : Heap} {C : Addr}
theorem ok_productW (D : Dfn K mg "product_of" sProduct ["numbers"]) : DefOk P w K mg base CX0 1 "product_of" ["numbers"] (spProdW K) := D.ok fun f fd F => by
  refine F.ok scProduct (fun vs H Q E h => ?_) (fun cdv A outer s H vs Q E hr h => ?_)
  · obtain ⟨a, ns, B, rfl, _⟩ := h
    rfl
  · obtain ⟨a, ns, B, rfl, ha, hp, b0, b1, hB, q⟩ := h
    refine ⟨_, pss_cons (ps_set (i := 1) scProduct.nd rfl (.inl rfl) pe_int)
      (pss_cons (ps_for PassesOwn.never rfl (pi_list (pv 0)) (pg_name (i := 2) scProduct.nd rfl (Or.inl rfl)) (pss_one (ps_set (i := 1) scProduct.nd rfl (.inl rfl) (pe_op op_mulW (pv 1) (pv 2)))))
      (pss_one (ps_ret (pv 1)))), ?_⟩
    refine ⟨_, rfl, a, rfl, ⟨_, ha⟩, ?_⟩
    refine for_it walk_list (fun i σ H' => ∃ z, σ = [some (.ref a), some (.int (prodI (ns.take i))), z] ∧ H' = H) ⟨none, rfl, rfl⟩ (fun i σ H' hi p => by obtain ⟨z, rfl, rfl⟩ := p; exact ha) (fun i x σ H' H'' hi p y => ?_) (fun σ H' p => ?_)
    · obtain ⟨z, rfl, rfl⟩ := p
      obtain ⟨rfl, hv⟩ := y
      rw [List.getElem?_map] at hv
      obtain ⟨n, hn, rfl⟩ := Option.map_eq_some_iff.mp hv
      have mem := List.mem_of_getElem? hn
      have c1 := prodI_take_le hp i
      have c2 := prodI_pos (xs := ns.take i) fun y hy => hp y (List.mem_of_mem_take hy)
      have c3 := prodI_mem_le hp mem
      have c4 := hp n mem
      refine ⟨_, rfl, _, rfl, _, _, rfl, rfl, wide_mul (a := B) (b := B) (abs_lt c2 (by omega)) (abs_lt c4 (by omega)) b0 b0 (by omega), some (.int n), ?_, rfl⟩
      rw [List.take_add_one, hn]
      show _ = [_, some (V.int (prodI (ns.take i ++ [n]))), _]
      rw [prodI_snoc]
      rfl
    · obtain ⟨z, rfl, rfl⟩ := p
      refine ⟨_, rfl, ?_⟩
      rw [List.length_map, List.take_length]
      exact q
end
/-! ### what the weights are bounded by -/
theorem rcw_ins {ns : List Nd} (w : Wired [] ns) {zs : List Str} (h : ∀ z ∈ zs, z ∈ ns.map (·.name)) : ∀ (i : Nat) (x y : Int), (zs.map (look (belowBy fC [] ns)))[i]? = some x → (zs.map (look (belowBy fW [] ns)))[i]? = some y → RCW x y := fun i x y e1 e2 => by
  rw [List.getElem?_map] at e1 e2
  obtain ⟨u, f1, rfl⟩ := Option.map_eq_some_iff.mp e1
  obtain ⟨u2, f2, rfl⟩ := Option.map_eq_some_iff.mp e2
  cases f1.symm.trans f2
  exact cw_all w u (h u (List.mem_of_getElem? f1))
theorem w_pos {ns : List Nd} (w : Wired [] ns) {zs : List Str} (h : ∀ z ∈ zs, z ∈ ns.map (·.name)) : ∀ x ∈ zs.map (look (belowBy fW [] ns)), 1 ≤ x := fun x hx => by
  obtain ⟨z, hz, rfl⟩ := List.mem_map.mp hx
  exact (cw_all w z (h z hz)).2.1
theorem pow_le2 {a b : Nat} (h : a ≤ b) : (2 : Int) ^ a ≤ 2 ^ b := by
  obtain ⟨k, rfl⟩ := Nat.exists_eq_add_of_le h
  rw [Int.pow_add]
  have a1 := pow_pos2 k
  have a2 := pow_pos2 a
  have := Int.mul_le_mul (Int.le_refl ((2 : Int) ^ a)) a1 (by decide) (by omega)
  omega
theorem w_ins {ns : List Nd} (w : Wired [] ns) (hc : cellsN ns ≤ 100) {n : Nd} (hn : n ∈ ns) : prodI (n.ins.map (look (belowBy fW [] ns))) < 2 ^ 701 := by
  have sub : ∀ z ∈ n.ins, z ∈ ns.map (·.name) := fun z hz => by simpa using wired_ins w hn hz
  obtain ⟨b1, b2, b3⟩ := prod_by_sum _ _ (by simp) (rcw_ins w sub)
  have le := cells_within w ns [] rfl n hn
  rw [below_at fC w (b := []) rfl hn] at le
  unfold fC at le b1 b3
  have e := pow_le2 (a := 7 * (n.ins.map (look (belowBy (fun _ xs => 1 + xs.sum) [] ns))).sum.toNat) (b := 700) (by omega)
  have e2 : (2 : Int) ^ 700 < 2 ^ 701 := by decide
  omega
theorem w_outs {ns : List Nd} (w : Wired [] ns) (hc : cellsN ns ≤ 100) : prodI (overOuts fW ns) < 2 ^ 701 := by
  obtain ⟨b1, b2, b3⟩ := prod_by_sum (overOuts fC ns) (overOuts fW ns) (by simp [overOuts]) (rcw_ins w fun z hz => outs_sub hz)
  have b4 : 7 * (overOuts fC ns).sum.toNat ≤ 700 := by
    unfold cellsN at hc
    omega
  have e := pow_le2 b4
  have e2 : (2 : Int) ^ 700 < 2 ^ 701 := by decide
  omega
theorem wired_drop {ns : List Nd} (w : Wired [] ns) (i : Nat) : Wired ((ns.take i).map (·.name)) (ns.drop i) := by
  have w' : Wired [] (ns.take i ++ ns.drop i) := by rw [List.take_append_drop]; exact w
  simpa using wired_split w'
theorem look_part {f : Nd → List Int → Int} {ns : List Nd} {b : List (Str × Int)} {i : Nat} (w : Wired [] ns) (h : belowBy f b (ns.drop i) = belowBy f [] ns) {zs : List Str} (hz : ∀ z ∈ zs, z ∈ (ns.take i).map (·.name)) : zs.map (look b) = zs.map (look (belowBy f [] ns)) := by
  apply List.map_congr_left
  intro z m
  rw [← h, below_old f (wired_drop w i) (hz z m)]
end Pw
set_option maxHeartbeats 2000000
/-! weight: its contract -/
namespace Pw
open PySem PySem.Spec PyProof.Rows L2 Dc
section
variable {P : Program} {w : World} {K : PySem.W.Frag} {mg : Str → Option Value} {base : Heap} {C : Addr}
def spWeight (K : PySem.W.Frag) (C : Addr) : Sp := fun vs H Q _ => ∃ a ns, vs = [.ref a] ∧ NetAt K H C a ns ∧ cellsN ns ≤ 100 ∧ ∀ (H' : Hp), Same H H' → Q (.int (weightN ns)) H'
theorem ok_weight (N : NetCls P w K mg base C) (G : DefOk P w K mg base CX0 12 "outlets" ["net"] (spOutlets K C)) (G1 : DefOk P w K mg base CX0 5 "own_weight" ["node"] (spOwn K)) (G2 : DefOk P w K mg base CX0 1 "product_of" ["numbers"] (spProdW K)) (D : Dfn K mg "weight" sWeight ["net"]) : DefOk P w K mg base CX0 13 "weight" ["net"] (spWeight K C) := D.ok fun f fd F => by
  refine F.ok scWeight (fun vs H Q E h => ?_) (fun cdv A outer s H vs Q E hr h => ?_)
  · obtain ⟨a, ns, rfl, _⟩ := h
    rfl
  · obtain ⟨a, ns, rfl, ha, hc, q⟩ := h
    have nd := scWeight.nd
    have hu := Nat.lt_of_le_of_lt (Nat.add_le_add_left (by decide : 1 ≤ 64) _) hr.units
    refine ⟨_, pss_cons (ps_set (i := 1) nd rfl (.inr rfl) pe_dnewK)
      (pss_cons (ps_for PassesOwn.never rfl (pi_list (pe_nodes N (hr.mono (by decide)) (pv 0))) (pg_name (i := 2) nd rfl (Or.inl rfl))
        (pss_one (ps_dput hu (pv 1) (pe_ix ix_tup (pv 2) pe_int (fun _ _ => rfl)) (pe_op op_mulW (pe_def G1 hr pass0 (pa_cons (pv 2) pa_nil)) (pe_def G2 hr pass0 (pa_cons
          (pe_lc (own := [("lower", 3)]) (g := gName 3) (tt := tYes) rfl nd (pi_list (pe_ix ix_tup (pv 2) pe_int (fun _ _ => rfl))) (blkOk_by (N := ["net", "below", "node", "lower", "name"]) (sc := defScope sWeight) (by decide +kernel))
            (fun _ _ _ _ _ => pg_name (i := 3) nd rfl (Or.inl rfl)) (fun _ _ _ _ _ => pts_nil) (fun _ _ _ _ _ => pe_dget (by exact hu) (pv 1) (pv 3) (fun _ _ => rfl))) pa_nil))) (by rfl))))
      (pss_one (ps_ret (pe_def G2 hr pass0 (pa_cons
          (pe_lc (own := [("name", 4)]) (g := gName 4) (tt := tYes) rfl nd (pi_list (pe_def G hr pass0 (pa_cons (pv 0) pa_nil))) (blkOk_by (N := ["net", "below", "node", "lower", "name"]) (sc := defScope sWeight) (by decide +kernel))
            (fun _ _ _ _ _ => pg_name (i := 4) nd rfl (Or.inl rfl)) (fun _ _ _ _ _ => pts_nil) (fun _ _ _ _ _ => pe_dget (by exact hu) (pv 1) (pv 4) (fun _ _ => rfl))) pa_nil))))), ?_⟩
    have hw : Wired [] ns := by
      obtain ⟨_, _, _, _, _, _, _, w, _⟩ := ha
      exact w
    have h30 : ns.length ≤ 30 := by
      obtain ⟨_, _, _, _, _, _, _, _, _, h⟩ := ha
      exact h
    refine fun D nD => ?_
    have sD := same_upd (o := .dK []) nD
    refine ⟨_, rfl, nodes_of_net (ha.same sD) fun l xs H1 s1 nl hl hz hds => ?_⟩
    have hds1 := hds.same newOf_same
    have hlen : xs.length = ns.length := by rw [hds.length, List.length_map]
    have lD : l ≠ D := fun e => by
      rw [e, upd_same] at nl
      cases nl
    have s0 : Same H H1 := sD.trans s1
    have hD1 : H1 D = some (kiO []) := s1 _ _ upd_same
    -- what stays: all but the dict
    have key : ∀ {H' : Hp}, Same (hid D H1) H' → ∀ {b : Addr} {o : HO}, H1 b = some o → b ≠ D → H' b = some o := fun {H'} s {b o} e n => s _ _ (by rw [hid_ne n]; exact e)
    have lD' : newOf (upd H D (.dK [])) H1 D = none := by
      unfold newOf
      rw [upd_same]
    refine ⟨l, rfl, ⟨_, SqL.of hl⟩, ?_⟩
    refine for_it (walk_list (xs := xs)) (fun i σ H' => ∃ z b, σ = [some (.ref a), some (.ref D), z, none, none] ∧ Same (hid D H1) H' ∧ H' D = some (kiO b) ∧ b.map (·.1) = (ns.take i).map (·.name) ∧ belowBy fW b (ns.drop i) = belowBy fW [] ns)
      ⟨none, [], rfl, hid_same, hD1, by simp, rfl⟩ (fun i σ H' hi p => by obtain ⟨z, b, rfl, sm, _⟩ := p; exact SqL.of (key sm hl lD)) (fun i x σ H' H'' hi p y => ?_) (fun σ H' p => ?_)
    · obtain ⟨z, b, rfl, sm, hD, hb, hbel⟩ := p
      obtain ⟨rfl, hx⟩ := y
      have hN : Same (newOf (upd H D (.dK [])) H1) H'' := fun c o e => key sm (newOf_same _ _ e) fun z => by
        rw [z, lD'] at e
        cases e
      obtain ⟨n, t, l2, y3, en, rfl, ht0, hl0, hdv0⟩ := node_at (hds.same hN) hx
      obtain ⟨nw, sub⟩ := wired_at hw en
      have nin := List.mem_of_getElem? en
      have l10 := (wired_node hw nin).2
      have part := look_part hw hbel sub
      have sub' : ∀ z ∈ n.ins, z ∈ ns.map (·.name) := fun z hz => by simpa using wired_ins hw nin hz
      have pos : ∀ x ∈ n.ins.map (look b), 1 ≤ x := by rw [part]; exact w_pos hw sub'
      have top : prodI (n.ins.map (look b)) < 2 ^ 701 := by rw [part]; exact w_ins hw hc nin
      obtain ⟨o1, o2⟩ := own_range (wired_node hw nin).1
      refine ⟨.ref t, rfl, .ref t, n.dat, rfl, hdv0, (wired_node hw nin).1, fun H2 s2 => ?_⟩
      have ht := s2 _ _ ht0
      have hl2 := s2 _ _ hl0
      have hD2 := s2 _ _ hD
      refine ⟨.ref t, rfl, t, _, _, _, rfl, rfl, SqT.of ht, atI_nat (j := 3) rfl, l2, rfl, ⟨_, SqL.of hl2⟩, fun D1 nD1 => ?_⟩
      refine lc_mapW (ys := n.ins.map fun z => V.int (look b z)) (walk_list (xs := n.ins.map V.str)) nD1 (by rw [List.length_map, List.length_map]) (by rw [List.length_map]; exact Nat.lt_of_le_of_lt (by omega : n.ins.length ≤ 1000) (by decide)) (fun H3 s3 => SqL.of (s3 _ _ hl2)) (fun j v y H3 H4 Q2 hj ey s3 yv k => ?_) (fun H3 s3 eD => ?_)
      · obtain ⟨rfl, hv⟩ := yv
        rw [List.getElem?_map] at hv ey
        obtain ⟨u, eu, rfl⟩ := Option.map_eq_some_iff.mp hv
        obtain ⟨u2, eu2, rfl⟩ := Option.map_eq_some_iff.mp ey
        cases eu.symm.trans eu2
        refine ⟨rfl, .ref D, rfl, _, rfl, D, _, rfl, get_known (s3 _ _ hD2) (by rw [hb]; exact sub u (List.mem_of_getElem? eu)), k _ (Same.refl _)⟩
      · refine ⟨D1, n.ins.map (look b), 701, rfl, SqL.of (by rw [eD, sum_map_look]), pos, by decide, by decide, top, ?_⟩
        refine ⟨_, _, rfl, rfl, wide_mul (a := 7) (b := 701) (by omega) (abs_lt (prodI_pos pos) top) (by decide) (by decide) (by decide), _, rfl, .ref t, rfl, t, _, _, _, rfl, rfl, SqT.of (s3 _ _ ht), atI_nat (j := 0) rfl, D, _, rfl, .inl ⟨_, .inr n.name, s3 _ _ hD2, rfl, ?_, rfl⟩, ?_⟩
        · have : b.length = (ns.take i).length := by
            have := congrArg List.length hb
            simpa using this
          rw [List.length_map, this, List.length_take]
          exact Nat.lt_of_le_of_lt (by omega : min i ns.length ≤ 1000) (by decide)
        · rw [put_new (by rw [hb]; exact nw)]
          refine ⟨_, b ++ [(n.name, ownW n.dat * prodI (n.ins.map (look b)))], rfl, fun c o e => ?_, upd_same, ?_, ?_⟩
          · rw [upd_ne (hid_of e).1]
            exact s3 _ _ (s2 _ _ (sm _ _ e))
          · rw [List.map_append, hb, take_at en, List.map_append]
            rfl
          · rw [drop_at en] at hbel
            exact hbel
    · obtain ⟨z, b, rfl, sm, hD, hb, hbel⟩ := p
      rw [hlen, List.drop_length] at hbel
      rw [hlen, List.take_length] at hb
      have hbel : b = belowBy fW [] ns := hbel
      have sH : Same H H' := fun c o e => by
        have ne : c ≠ D := ne_of_none e nD
        exact key sm (s0 _ _ e) ne
      refine ⟨_, rfl, a, ns, rfl, ha.same sH, fun l3 H3 s3 n3 e3 => ?_⟩
      refine ⟨l3, rfl, ⟨_, SqL.of e3⟩, fun D1 nD1 => ?_⟩
      refine lc_mapW (ys := (outs ns).map fun z => V.int (look b z)) (walk_list (xs := (outs ns).map V.str)) nD1 (by rw [List.length_map, List.length_map]) (by rw [List.length_map]; exact Nat.lt_of_le_of_lt (by have := outs_len ns; omega : (outs ns).length ≤ 1000) (by decide)) (fun H4 s4 => SqL.of (s4 _ _ e3)) (fun j v y H4 H5 Q2 hj ey s4 yv k => ?_) (fun H4 s4 eD => ?_)
      · obtain ⟨rfl, hv⟩ := yv
        rw [List.getElem?_map] at hv ey
        obtain ⟨u, eu, rfl⟩ := Option.map_eq_some_iff.mp hv
        obtain ⟨u2, eu2, rfl⟩ := Option.map_eq_some_iff.mp ey
        cases eu.symm.trans eu2
        exact ⟨rfl, .ref D, rfl, _, rfl, D, _, rfl, get_known (s4 _ _ (s3 _ _ hD)) (by rw [hb]; exact outs_sub (List.mem_of_getElem? eu)), k _ (Same.refl _)⟩
      · refine ⟨D1, overOuts fW ns, 701, rfl, SqL.of (by rw [eD, sum_map_look, hbel]; rfl), w_pos hw (fun z hz => outs_sub hz), by decide, by decide, w_outs hw hc, ?_⟩
        exact q _ (sH.trans (s3.trans s4))
end
end Pw
set_option maxHeartbeats 2000000
/-! loops: the numbers -/
namespace Pw
open PySem PySem.Spec PyProof.Rows L2 Dc
theorem foldmax_ge : ∀ (xs : List Int) (a : Int), a ≤ xs.foldl max a ∧ ∀ x ∈ xs, x ≤ xs.foldl max a
  | [], a => ⟨Int.le_refl _, fun x hx => absurd hx (by simp)⟩
  | y :: r, a => by
    obtain ⟨h1, h2⟩ := foldmax_ge r (max a y)
    rw [List.foldl_cons]
    refine ⟨by omega, fun x hx => ?_⟩
    rcases List.mem_cons.mp hx with rfl | hx
    · omega
    · exact h2 x hx
theorem foldmax_mem : ∀ (xs : List Int) (a : Int), xs.foldl max a = a ∨ xs.foldl max a ∈ xs
  | [], a => .inl rfl
  | y :: r, a => by
    rw [List.foldl_cons]
    rcases foldmax_mem r (max a y) with h | h
    · rw [h]
      rcases Int.le_total a y with l | l
      · rw [Int.max_eq_right l]
        exact .inr List.mem_cons_self
      · rw [Int.max_eq_left l]
        exact .inl rfl
    · exact .inr (List.mem_cons_of_mem _ h)
theorem maxI_nonneg (xs : List Int) : 0 ≤ maxI xs := (foldmax_ge xs 0).1
theorem maxI_is {xs : List Int} {m : Int} (h0 : ∀ x ∈ xs, 0 ≤ x) (hm : m ∈ xs) (ht : ∀ y ∈ xs, y ≤ m) : maxI xs = m := by
  have a := (foldmax_ge xs 0).2 m hm
  have b := h0 m hm
  rcases foldmax_mem xs 0 with h | h
  · show xs.foldl max 0 = m
    have : xs.foldl max 0 = 0 := h
    omega
  · have c := ht _ h
    show xs.foldl max 0 = m
    omega
theorem max_dflt {xs : List Int} {m : Int} (h0 : ∀ x ∈ xs, 0 ≤ x) (z0 : xs = [] → m = 0) (z1 : xs ≠ [] → m ∈ xs ∧ ∀ y ∈ xs, y ≤ m) : maxI xs = m := by
  by_cases e : xs = []
  · rw [z0 e, e]
    rfl
  · exact maxI_is h0 (z1 e).1 (z1 e).2
/-- loops are no more than cells -/
def RCL (x y : Int) : Prop := 1 ≤ x ∧ 0 ≤ y ∧ y ≤ x
theorem max_by_sum : ∀ (xs ys : List Int), xs.length = ys.length → (∀ (i : Nat) (x y : Int), xs[i]? = some x → ys[i]? = some y → RCL x y) → 0 ≤ xs.sum ∧ ∀ y ∈ ys, 0 ≤ y ∧ y ≤ xs.sum
  | [], [], _, _ => ⟨Int.le_refl _, fun y hy => absurd hy (by simp)⟩
  | x :: xs, y :: ys, hl, h => by
    obtain ⟨a1, a2, a3⟩ := h 0 x y rfl rfl
    obtain ⟨b1, b2⟩ := max_by_sum xs ys (by simpa using hl) fun i u v e1 e2 => h (i + 1) u v (by simpa using e1) (by simpa using e2)
    rw [List.sum_cons]
    refine ⟨by omega, fun z hz => ?_⟩
    rcases List.mem_cons.mp hz with rfl | hz
    · omega
    · have := b2 z hz
      omega
theorem cl_step (n : Nd) (xs ys : List Int) (hn : isNode n.dat = true) (hl : xs.length = ys.length) (h : ∀ (i : Nat) (x y : Int), xs[i]? = some x → ys[i]? = some y → RCL x y) : RCL (fC n xs) (fL n ys) := by
  obtain ⟨b1, b2⟩ := max_by_sum xs ys hl h
  have c : maxI ys ≤ xs.sum := by
    rcases foldmax_mem ys 0 with q | q
    · show ys.foldl max 0 ≤ _
      omega
    · exact (b2 _ q).2
  have d := maxI_nonneg ys
  unfold fC fL
  refine ⟨by omega, ?_, ?_⟩ <;> split <;> omega
theorem cl_all {ns : List Nd} (w : Wired [] ns) : ∀ z ∈ ns.map (·.name), RCL (look (belowBy fC [] ns) z) (look (belowBy fL [] ns) z) := fun z hz =>
  below_all fC fL RCL cl_step w (b := []) (c := []) rfl rfl (fun z hz => absurd hz (by simp)) z (by simpa using hz)
theorem l_pos {ns : List Nd} (w : Wired [] ns) {zs : List Str} (h : ∀ z ∈ zs, z ∈ ns.map (·.name)) : ∀ x ∈ zs.map (look (belowBy fL [] ns)), 0 ≤ x := fun x hx => by
  obtain ⟨z, hz, rfl⟩ := List.mem_map.mp hx
  exact (cl_all w z (h z hz)).2.1
theorem loops_le {ns : List Nd} (w : Wired [] ns) : 0 ≤ loopsN ns ∧ loopsN ns ≤ cellsN ns := by
  have h : ∀ (i : Nat) (x y : Int), (overOuts fC ns)[i]? = some x → (overOuts fL ns)[i]? = some y → RCL x y := fun i x y e1 e2 => by
    unfold overOuts at e1 e2
    rw [List.getElem?_map] at e1 e2
    obtain ⟨u, f1, rfl⟩ := Option.map_eq_some_iff.mp e1
    obtain ⟨u2, f2, rfl⟩ := Option.map_eq_some_iff.mp e2
    cases f1.symm.trans f2
    exact cl_all w u (outs_sub (List.mem_of_getElem? f1))
  obtain ⟨b1, b2⟩ := max_by_sum (overOuts fC ns) (overOuts fL ns) (by simp [overOuts]) h
  refine ⟨maxI_nonneg _, ?_⟩
  show maxI (overOuts fL ns) ≤ (overOuts fC ns).sum
  rcases foldmax_mem (overOuts fL ns) 0 with q | q
  · show (overOuts fL ns).foldl max 0 ≤ _
    omega
  · exact (b2 _ q).2
/-- the last node is an outlet -/
theorem outs_some {ns : List Nd} (w : Wired [] ns) (h : 1 ≤ ns.length) : outs ns ≠ [] := by
  have e : ns ≠ [] := fun z => by
    rw [z] at h
    cases h
  have e2 : ns = ns.dropLast ++ [ns.getLast e] := (List.dropLast_concat_getLast e).symm
  generalize ns.dropLast = pre at e2
  generalize ns.getLast e = n at e2
  have w2 := w
  rw [e2] at w2
  have b := wired_split w2
  have nu : used ns n.name = false := by
    cases u : used ns n.name with
    | false => rfl
    | true =>
      exfalso
      obtain ⟨m, hm, hin⟩ := List.any_eq_true.mp u
      have hin := of_decide_eq_true hin
      rw [e2] at hm
      cases b with
      | cons h1 h2 h3 h4 h5 =>
        rcases List.mem_append.mp hm with hm | hm
        · exact h1 (wired_ins (wired_pre w2) hm hin)
        · obtain rfl := List.mem_singleton.mp hm
          exact h1 (h2 _ hin)
  intro z
  have : n.name ∈ outs ns := List.mem_map.mpr ⟨n, List.mem_filter.mpr ⟨by rw [e2]; simp, by rw [nu]; rfl⟩, rfl⟩
  rw [z] at this
  cases this
end Pw
set_option maxHeartbeats 2000000
/-! loops: the contract -/
namespace Pw
open PySem PySem.Spec PyProof.Rows L2 Dc
section
variable {P : Program} {w : World} {K : PySem.W.Frag} {mg : Str → Option Value} {base : Heap} {C : Addr}
def spLoops (K : PySem.W.Frag) (C : Addr) : Sp := fun vs H Q _ => ∃ a ns, vs = [.ref a] ∧ NetAt K H C a ns ∧ ∀ (H' : Hp), Same H H' → Q (.int (loopsN ns)) H'
theorem ok_loops (bM : mg "max" = none) {pL : Addr} (gL : mg "LOOPS" = some (.ref pL)) (tL : TupK K pL (loopsL.map V.str)) (N : NetCls P w K mg base C) (G : DefOk P w K mg base CX0 12 "outlets" ["net"] (spOutlets K C)) (D : Dfn K mg "loops" sLoops ["net"]) : DefOk P w K mg base CX0 13 "loops" ["net"] (spLoops K C) := D.ok fun f fd F => by
  refine F.ok scLoops (fun vs H Q E h => ?_) (fun cdv A outer s H vs Q E hr h => ?_)
  · obtain ⟨a, ns, rfl, _⟩ := h
    rfl
  · obtain ⟨a, ns, rfl, ha, q⟩ := h
    have nd := scLoops.nd
    have hu := Nat.lt_of_le_of_lt (Nat.add_le_add_left (by decide : 1 ≤ 64) _) hr.units
    refine ⟨_, pss_cons (ps_set (i := 1) nd rfl (.inr rfl) pe_dnewK)
      (pss_cons (ps_for PassesOwn.never rfl (pi_list (pe_nodes N (hr.mono (by decide)) (pv 0))) (pg_name (i := 2) nd rfl (Or.inl rfl))
        (pss_cons (ps_set (i := 3) nd rfl (.inl rfl) (pe_ifExp (pt_cmpR op_in_seq (pe_ix ix_tup (pv 2) pe_int (fun _ _ => rfl)) (pe_glob (v := .ref pL) rfl gL rfl) (by rfl)) pe_int pe_int))
        (pss_one (ps_dput hu (pv 1) (pe_ix ix_tup (pv 2) pe_int (fun _ _ => rfl)) (pe_op op_add (pv 3) (pe_callBK (Mx.cr_maxDef rfl) (by rfl) bM (by decide +kernel) (pa_cons
          (pe_lc (own := [("lower", 4)]) (g := gName 4) (tt := tYes) rfl nd (pi_list (pe_ix ix_tup (pv 2) pe_int (fun _ _ => rfl))) (blkOk_by (N := ["net", "below", "node", "own", "lower", "name"]) (sc := defScope sLoops) (by decide +kernel))
            (fun _ _ _ _ _ => pg_name (i := 4) nd rfl (Or.inl rfl)) (fun _ _ _ _ _ => pts_nil) (fun _ _ _ _ _ => pe_dget (by exact hu) (pv 1) (pv 4) (fun _ _ => rfl))) pa_nil) (pk_cons pe_int pk_nil))) (by rfl)))))
      (pss_one (ps_ret (pe_callB (cr_max rfl) (by rfl) bM (by decide +kernel) (pa_cons
          (pe_lc (own := [("name", 5)]) (g := gName 5) (tt := tYes) rfl nd (pi_list (pe_def G hr pass0 (pa_cons (pv 0) pa_nil))) (blkOk_by (N := ["net", "below", "node", "own", "lower", "name"]) (sc := defScope sLoops) (by decide +kernel))
            (fun _ _ _ _ _ => pg_name (i := 5) nd rfl (Or.inl rfl)) (fun _ _ _ _ _ => pts_nil) (fun _ _ _ _ _ => pe_dget (by exact hu) (pv 1) (pv 5) (fun _ _ => rfl))) pa_nil))))), ?_⟩
    have hw : Wired [] ns := by
      obtain ⟨_, _, _, _, _, _, _, w, _⟩ := ha
      exact w
    have h30 : ns.length ≤ 30 := by
      obtain ⟨_, _, _, _, _, _, _, _, _, h⟩ := ha
      exact h
    refine fun D nD => ?_
    have sD := same_upd (o := .dK []) nD
    refine ⟨_, rfl, nodes_of_net (ha.same sD) fun l xs H1 s1 nl hl hz hds => ?_⟩
    have hds1 := hds.same newOf_same
    have hlen : xs.length = ns.length := by rw [hds.length, List.length_map]
    have lD : l ≠ D := fun e => by
      rw [e, upd_same] at nl
      cases nl
    have s0 : Same H H1 := sD.trans s1
    have hD1 : H1 D = some (kiO []) := s1 _ _ upd_same
    -- what stays: all but the dict
    have key : ∀ {H' : Hp}, Same (hid D H1) H' → ∀ {b : Addr} {o : HO}, H1 b = some o → b ≠ D → H' b = some o := fun {H'} s {b o} e n => s _ _ (by rw [hid_ne n]; exact e)
    refine ⟨l, rfl, ⟨_, SqL.of hl⟩, ?_⟩
    refine for_it (walk_list (xs := xs)) (fun i σ H' => ∃ z z2 b, σ = [some (.ref a), some (.ref D), z, z2, none, none] ∧ Same (hid D H1) H' ∧ H' D = some (kiO b) ∧ b.map (·.1) = (ns.take i).map (·.name) ∧ belowBy fL b (ns.drop i) = belowBy fL [] ns)
      ⟨none, none, [], rfl, hid_same, hD1, by simp, rfl⟩ (fun i σ H' hi p => by obtain ⟨z, z2, b, rfl, sm, _⟩ := p; exact SqL.of (key sm hl lD)) (fun i x σ H' H'' hi p y => ?_) (fun σ H' p => ?_)
    · obtain ⟨z, z2, b, rfl, sm, hD, hb, hbel⟩ := p
      obtain ⟨rfl, hx⟩ := y
      obtain ⟨n, t, l2, y3, en, rfl, ht1, hl1, _⟩ := node_at hds1 hx
      have tD : t ≠ D := fun e => by
        rw [e, hD1] at ht1
        cases ht1
      have l2D : l2 ≠ D := fun e => by
        rw [e, hD1] at hl1
        cases hl1
      have ht := key sm ht1 tD
      have hl2 := key sm hl1 l2D
      obtain ⟨nw, sub⟩ := wired_at hw en
      have l10 := (wired_node hw (List.mem_of_getElem? en)).2
      have part := look_part hw hbel sub
      have sub' : ∀ z ∈ n.ins, z ∈ ns.map (·.name) := fun z hz => by simpa using wired_ins hw (List.mem_of_getElem? en) hz
      have pos : ∀ x ∈ n.ins.map (look b), 0 ≤ x := by rw [part]; exact l_pos hw sub'
      have em : (if decide (n.kind ∈ loopsL) = true then V.int 1 else V.int 0) = V.int (if n.kind ∈ loopsL then 1 else 0) := by
        by_cases e : n.kind ∈ loopsL
        · rw [if_pos e, decide_eq_true e]
          rfl
        · rw [if_neg e, decide_eq_false e]
          rfl
      refine ⟨.ref t, rfl, t, _, _, _, rfl, rfl, SqT.of ht, atI_nat (j := 1) rfl, pL, _, rfl, .inr (tL.seq _), rfl, flat_strs loopsL, _, rfl, ?_⟩
      rw [in_strs]
      refine ifC em ?_
      refine ⟨_, rfl, .ref t, rfl, t, _, _, _, rfl, rfl, SqT.of ht, atI_nat (j := 3) rfl, l2, rfl, ⟨_, SqL.of hl2⟩, fun D1 nD1 => ?_⟩
      refine lc_mapW (ys := n.ins.map fun z => V.int (look b z)) (walk_list (xs := n.ins.map V.str)) nD1 (by rw [List.length_map, List.length_map]) (by rw [List.length_map]; exact Nat.lt_of_le_of_lt (by omega : n.ins.length ≤ 1000) (by decide)) (fun H3 s3 => SqL.of (s3 _ _ hl2)) (fun j v y H3 H4 Q2 hj ey s3 yv k => ?_) (fun H3 s3 eD => ?_)
      · obtain ⟨rfl, hv⟩ := yv
        rw [List.getElem?_map] at hv ey
        obtain ⟨u, eu, rfl⟩ := Option.map_eq_some_iff.mp hv
        obtain ⟨u2, eu2, rfl⟩ := Option.map_eq_some_iff.mp ey
        cases eu.symm.trans eu2
        refine ⟨rfl, .ref D, rfl, _, rfl, D, _, rfl, get_known (s3 _ _ hD) (by rw [hb]; exact sub u (List.mem_of_getElem? eu)), k _ (Same.refl _)⟩
      · refine ⟨D1, n.ins.map (look b), 0, rfl, rfl, SqL.of (by rw [eD, sum_map_look]), fun m z0 z1 => ?_⟩
        have em2 := max_dflt pos z0 z1
        subst em2
        refine ⟨_, _, rfl, rfl, _, rfl, .ref t, rfl, t, _, _, _, rfl, rfl, SqT.of (s3 _ _ ht), atI_nat (j := 0) rfl, D, _, rfl, .inl ⟨_, .inr n.name, s3 _ _ hD, rfl, ?_, rfl⟩, ?_⟩
        · have : b.length = (ns.take i).length := by
            have := congrArg List.length hb
            simpa using this
          rw [List.length_map, this, List.length_take]
          exact Nat.lt_of_le_of_lt (by omega : min i ns.length ≤ 1000) (by decide)
        · rw [put_new (by rw [hb]; exact nw)]
          refine ⟨_, _, b ++ [(n.name, (if n.kind ∈ loopsL then 1 else 0) + maxI (n.ins.map (look b)))], rfl, fun c o e => ?_, upd_same, ?_, ?_⟩
          · rw [upd_ne (hid_of e).1]
            exact s3 _ _ (sm _ _ e)
          · rw [List.map_append, hb, take_at en, List.map_append]
            rfl
          · rw [drop_at en] at hbel
            exact hbel
    · obtain ⟨z, z2, b, rfl, sm, hD, hb, hbel⟩ := p
      rw [hlen, List.drop_length] at hbel
      rw [hlen, List.take_length] at hb
      have hbel : b = belowBy fL [] ns := hbel
      have sH : Same H H' := fun c o e => by
        have ne : c ≠ D := ne_of_none e nD
        exact key sm (s0 _ _ e) ne
      refine ⟨_, rfl, a, ns, rfl, ha.same sH, fun l3 H3 s3 n3 e3 => ?_⟩
      refine ⟨l3, rfl, ⟨_, SqL.of e3⟩, fun D1 nD1 => ?_⟩
      refine lc_mapW (ys := (outs ns).map fun z => V.int (look b z)) (walk_list (xs := (outs ns).map V.str)) nD1 (by rw [List.length_map, List.length_map]) (by rw [List.length_map]; exact Nat.lt_of_le_of_lt (by have := outs_len ns; omega : (outs ns).length ≤ 1000) (by decide)) (fun H4 s4 => SqL.of (s4 _ _ e3)) (fun j v y H4 H5 Q2 hj ey s4 yv k => ?_) (fun H4 s4 eD => ?_)
      · obtain ⟨rfl, hv⟩ := yv
        rw [List.getElem?_map] at hv ey
        obtain ⟨u, eu, rfl⟩ := Option.map_eq_some_iff.mp hv
        obtain ⟨u2, eu2, rfl⟩ := Option.map_eq_some_iff.mp ey
        cases eu.symm.trans eu2
        exact ⟨rfl, .ref D, rfl, _, rfl, D, _, rfl, get_known (s4 _ _ (s3 _ _ hD)) (by rw [hb]; exact outs_sub (List.mem_of_getElem? eu)), k _ (Same.refl _)⟩
      · have h1 : 1 ≤ ns.length := by
          obtain ⟨_, _, _, _, _, _, _, _, h, _⟩ := ha
          exact h
        have ne := outs_some hw h1
        refine ⟨D1, overOuts fL ns, rfl, SqL.of (by rw [eD, sum_map_look, hbel]; rfl), ?_, fun m hm ht => ?_⟩
        · unfold overOuts
          rw [List.length_map]
          exact List.length_pos_iff.mpr ne
        · have e : loopsN ns = m := maxI_is (l_pos hw fun z hz => outs_sub hz) hm ht
          rw [← e]
          exact q _ (sH.trans (s3.trans s4))
end
end Pw
set_option maxHeartbeats 2000000
/-! load, check_limits -/
namespace Pw
open PySem PySem.Spec PyProof.Rows L2 Dc
abbrev sLimits : Stmt := topS 49
theorem scLimits : FnScope ["net"] ["net"] (defScope sLimits) := ⟨rfl, rfl, rfl, by decide +kernel, rfl, by decide +kernel, by decide +kernel⟩
theorem weight_pos {ns : List Nd} (w : Wired [] ns) : 1 ≤ weightN ns := prodI_pos (w_pos w fun z hz => outs_sub hz)
section
variable {P : Program} {w : World} {K : PySem.W.Frag} {mg : Str → Option Value} {base : Heap} {C CL fL' : Addr}
def spLoad (K : PySem.W.Frag) (C : Addr) : Sp := fun vs H Q _ => ∃ a ns d, vs = [.ref a, .int d] ∧ NetAt K H C a ns ∧ cellsN ns ≤ 100 ∧ weightN ns ≤ 200 ∧ 0 ≤ d ∧ d ≤ 1000 ∧ ∀ (H' : Hp), Same H H' → Q (.int (loadN ns d)) H'
theorem ok_load (G1 : DefOk P w K mg base CX0 13 "weight" ["net"] (spWeight K C)) (G2 : DefOk P w K mg base CX0 13 "loops" ["net"] (spLoops K C)) (G3 : DefOk P w K mg base CX0 1 "power" ["base", "exponent"] (spPower K)) (D : Dfn K mg "load" sLoad ["net", "depth"]) :
    DefOk P w K mg base CX0 14 "load" ["net", "depth"] (spLoad K C) := D.ok fun f fd F => by
  refine F.ok scLoad (fun vs H Q E h => ?_) (fun cdv A outer s H vs Q E hr h => ?_)
  · obtain ⟨a, ns, d, rfl, _⟩ := h
    rfl
  · obtain ⟨a, ns, d, rfl, ha, hc, hw, d0, d1, q⟩ := h
    refine ⟨_, pss_one (ps_ret (pe_def G3 hr pass0 (pa_cons (pe_op op_add (pe_op op_mul pe_int (pe_def G1 hr pass0 (pa_cons (pv 0) pa_nil))) pe_int) (pa_cons (pe_op op_add (pe_def G2 hr pass0 (pa_cons (pv 0) pa_nil)) (pv 1)) pa_nil)))), ?_⟩
    have hwd : Wired [] ns := by
      obtain ⟨_, _, _, _, _, _, _, w, _⟩ := ha
      exact w
    have p1 := weight_pos hwd
    obtain ⟨l0, l1⟩ := loops_le hwd
    refine ⟨_, rfl, a, ns, rfl, ha, hc, fun H1 s1 => ⟨_, _, rfl, rfl, .inl ⟨by decide, by decide⟩, _, _, rfl, rfl, _, rfl, a, ns, rfl, ha.same s1, fun H2 s2 => ⟨_, rfl, _, _, rfl, rfl, _, _, rfl, by omega, by omega, by omega, by omega, q H2 (s1.trans s2)⟩⟩⟩
/-! ### check_limits -/
def spLimits (K : PySem.W.Frag) (C CL : Addr) : Sp := fun vs H Q E => ∃ a ns, vs = [.ref a] ∧ NetAt K H C a ns ∧ (limitN ns = none → ∀ H', Same H H' → Q .non H') ∧
  ∀ n, limitN ns = some n → ∀ (H' : Hp) (dd : Addr), Same H H' → H' dd = none → E (.ref CL) (some dd) (upd H' dd (.xd [("limit", .int n)]))
theorem ok_limits (R : PySem.ErrX.ErrTxt K mg "LimitExceeded" "limit" CL fL') {t1 t2 t3 : Tok} (g1 : mg "MOST_CELLS" = some (.int 100 t1)) (g2 : mg "MOST_WEIGHT" = some (.int 200 t2)) (g3 : mg "MOST_LOAD" = some (.int 10000 t3))
    (G1 : DefOk P w K mg base CX0 13 "cells" ["net"] (spCells K C)) (G2 : DefOk P w K mg base CX0 13 "weight" ["net"] (spWeight K C)) (G3 : DefOk P w K mg base CX0 14 "load" ["net", "depth"] (spLoad K C)) (D : Dfn K mg "check_limits" sLimits ["net"]) :
    DefOk P w K mg base (L2.CX P w) 15 "check_limits" ["net"] (spLimits K C CL) := D.ok fun f fd F => by
  refine F.okX scLimits (fun vs H Q E h => ?_) (fun cdv A outer s H vs Q E hr h => ?_)
  · obtain ⟨a, ns, rfl, _⟩ := h
    rfl
  · obtain ⟨a, ns, rfl, ha, q, qe⟩ := h
    refine ⟨_, pss_cons (ps_if (pt_cmpR op_gt (pe_def G1 hr pass0 (pa_cons (pv 0) pa_nil)) (pe_glob (v := .int 100) rfl g1 ⟨_, rfl⟩) (nomark _)) (pss_one (ps_raiseErr (W := fun cls d _ H => E cls d H) rfl R hr (takes_of rfl rfl rfl rfl) (by exact (pa_cons (pe_glob (v := .int 100) rfl g1 ⟨_, rfl⟩) pa_nil)))) pss_nil)
      (pss_cons (ps_if (pt_cmpR op_gt (pe_def G2 hr pass0 (pa_cons (pv 0) pa_nil)) (pe_glob (v := .int 200) rfl g2 ⟨_, rfl⟩) (nomark _)) (pss_one (ps_raiseErr (W := fun cls d _ H => E cls d H) rfl R hr (takes_of rfl rfl rfl rfl) (by exact (pa_cons (pe_glob (v := .int 200) rfl g2 ⟨_, rfl⟩) pa_nil)))) pss_nil)
      (pss_one (ps_if (pt_cmpR op_gt (pe_def G3 hr pass0 (pa_cons (pv 0) (pa_cons pe_int pa_nil))) (pe_glob (v := .int 10000) rfl g3 ⟨_, rfl⟩) (nomark _)) (pss_one (ps_raiseErr (W := fun cls d _ H => E cls d H) rfl R hr (takes_of rfl rfl rfl rfl) (by exact (pa_cons (pe_glob (v := .int 10000) rfl g3 ⟨_, rfl⟩) pa_nil)))) pss_nil))), ?_⟩
    refine ⟨_, rfl, a, ns, rfl, ha, fun H1 s1 => ⟨_, _, rfl, rfl, _, rfl, ite2 (fun e1 => ?_) (fun e1 => ?_)⟩⟩
    · have e : limitN ns = some 100 := by
        unfold limitN
        rw [if_pos (of_decide_eq_true e1)]
      exact ⟨_, rfl, fun dd nd => qe _ e H1 dd s1 nd⟩
    · have c1 : ¬ cellsN ns > 100 := fun z => e1 (decide_eq_true z)
      refine ⟨_, rfl, a, ns, rfl, ha.same s1, by omega, fun H2 s2 => ⟨_, _, rfl, rfl, _, rfl, ite2 (fun e2 => ?_) (fun e2 => ?_)⟩⟩
      · have e : limitN ns = some 200 := by
          unfold limitN
          rw [if_neg c1, if_pos (of_decide_eq_true e2)]
        exact ⟨_, rfl, fun dd nd => qe _ e H2 dd (s1.trans s2) nd⟩
      · have c2 : ¬ weightN ns > 200 := fun z => e2 (decide_eq_true z)
        refine ⟨_, rfl, a, ns, 1, rfl, (ha.same s1).same s2, by omega, by omega, by decide, by decide, fun H3 s3 => ⟨_, _, rfl, rfl, _, rfl, ite2 (fun e3 => ?_) (fun e3 => ?_)⟩⟩
        · have e : limitN ns = some 10000 := by
            unfold limitN
            rw [if_neg c1, if_neg c2, if_pos (of_decide_eq_true e3)]
          exact ⟨_, rfl, fun dd nd => qe _ e H3 dd (s1.trans (s2.trans s3)) nd⟩
        · have c3 : ¬ loadN ns 1 > 10000 := fun z => e3 (decide_eq_true z)
          have e : limitN ns = none := by
            unfold limitN
            rw [if_neg c1, if_neg c2, if_neg c3]
          exact q e _ (s1.trans (s2.trans s3))
end
end Pw
set_option maxHeartbeats 2000000
/-! Net.__init__ -/
namespace Pw
open PySem PySem.Spec PyProof.Rows L2 Dc
theorem scNetInit : FnScope ["self", "nodes", "place", "node"] ["self", "nodes"] (defScope sNetInit) := ⟨rfl, rfl, rfl, by decide +kernel, rfl, by decide +kernel, by decide +kernel⟩
def placesN : Nat → List Nd → List (Str × Int)
  | _, [] => []
  | k, n :: r => (n.name, (k : Int)) :: placesN (k + 1) r
theorem placesN_snoc : ∀ (k : Nat) (ns : List Nd) (n : Nd), placesN k (ns ++ [n]) = placesN k ns ++ [(n.name, ((k + ns.length : Nat) : Int))]
  | k, [], n => rfl
  | k, m :: r, n => by
    show (m.name, (k : Int)) :: placesN (k + 1) (r ++ [n]) = _
    rw [placesN_snoc (k + 1) r n]
    show _ = (m.name, (k : Int)) :: (placesN (k + 1) r ++ _)
    rw [List.length_cons, show k + 1 + r.length = k + (r.length + 1) from by omega]
theorem placesN_keys : ∀ (k : Nat) (ns : List Nd), (placesN k ns).map (·.1) = ns.map (·.name)
  | _, [] => rfl
  | k, n :: r => by
    show n.name :: (placesN (k + 1) r).map (·.1) = _
    rw [placesN_keys (k + 1) r]
    rfl
theorem placesN_len (k : Nat) (ns : List Nd) : (placesN k ns).length = ns.length := by
  have := congrArg List.length (placesN_keys k ns)
  simpa using this
abbrev netFs (v : V) (pd : Addr) : List (Str × V) := [("_nodes", v), ("_places", .ref pd), ("plan", .non)]
/-- a net made anew at x -/
structure NetNew (K : PySem.W.Frag) (H H' : Hp) (C x : Addr) (ns : List Nd) : Prop where
  at_ : ∃ (dx : Addr) (v : V) (pd : Addr), H' x = some (.ins C dx (netFs v pd)) ∧ H' pd = some (kiO (placesN 0 ns)) ∧ H pd = none ∧ Dv K (newOf H H') v (.list (ns.map Nd.dat))
  wired : Wired [] ns
  some_ : 1 ≤ ns.length
  few : ns.length ≤ 30
theorem NetNew.net {K : PySem.W.Frag} {H H' : Hp} {C x : Addr} {ns : List Nd} (h : NetNew K H H' C x ns) : NetAt K H' C x ns := by
  obtain ⟨dx, v, pd, h1, h2, h3, h4⟩ := h.at_
  exact ⟨dx, _, v, h1, rfl, rfl, h4.same newOf_same, h.wired, h.some_, h.few⟩
/-! data is no instance -/
mutual
theorem Dv.data {K : PySem.W.Frag} {H H' : Hp} (e : ∀ b o, H b = some o → (∀ C dx fs, o ≠ .ins C dx fs) → H' b = some o) : ∀ {d : PyData} {v : V}, Dv K H v d → Dv K H' v d
  | .none, _, h => by cases h; exact .non
  | .bool _, _, h => by cases h; exact .bl _
  | .int _, _, h => by cases h; exact .int _
  | .str _, _, h => by cases h; exact .str _
  | .list ds, _, h => by
    cases h with
    | lst h1 hz h2 => exact .lst (e _ _ h1 (fun _ _ _ z => by cases z)) hz (DvAll.data e h2)
  | .tuple ds, _, h => by
    cases h with
    | tup h1 hz h2 => exact .tup (e _ _ h1 (fun _ _ _ z => by cases z)) hz (DvAll.data e h2)
  | .dict _, _, h => by
    cases h with
    | dct h1 => exact .dct (e _ _ h1 (fun _ _ _ z => by cases z))
theorem DvAll.data {K : PySem.W.Frag} {H H' : Hp} (e : ∀ b o, H b = some o → (∀ C dx fs, o ≠ .ins C dx fs) → H' b = some o) : ∀ {ds : List PyData} {vs : List V}, DvAll K H vs ds → DvAll K H' vs ds
  | [], _, h => by cases h; exact .nil
  | _ :: _, _, h => by
    cases h with
    | cons h1 h2 => exact .cons (Dv.data e h1) (DvAll.data e h2)
end
section
variable {P : Program} {w : World} {K : PySem.W.Frag} {mg : Str → Option Value} {base : Heap} {C CN CL : Addr}
def spInit (K : PySem.W.Frag) (C CN CL : Addr) : Sp := fun vs H Q E => ∃ (x dx : Addr) (v : V) (d : PyData), vs = [.ref x, v] ∧ H x = some (.ins C dx []) ∧ Dv K H v d ∧ smB d = true ∧
  (∀ n, checkNodes d = some n → ∀ (H' : Hp) (dd : Addr), Same (hid x H) H' → H' dd = none → E (.ref CN) (some dd) (upd H' dd (.xd [("at", .int n)]))) ∧
  (∀ ns, checkNodes d = none → d = .list (ns.map Nd.dat) → ∀ n, limitN ns = some n → ∀ (H' : Hp) (dd : Addr), Same (hid x H) H' → H' dd = none → E (.ref CL) (some dd) (upd H' dd (.xd [("limit", .int n)]))) ∧
  (∀ ns, checkNodes d = none → d = .list (ns.map Nd.dat) → limitN ns = none → ∀ (H' : Hp), Same (hid x H) H' → NetNew K H H' C x ns → Q .non H')
theorem fn_init (bE : mg "enumerate" = none) (c : Cls K C) (n1 : NoAttr K C "_nodes") (n2 : NoAttr K C "_places") (n3 : NoAttr K C "plan")
    (G1 : DefOk P w K mg base (L2.CX P w) 9 "check_nodes" ["nodes"] (spCheck K CN)) (G2 : DefOk P w K mg base CX0 10 "copied" ["value"] (spCopied K 10)) (G3 : DefOk P w K mg base (L2.CX P w) 15 "check_limits" ["net"] (spLimits K C CL))
    (f : Addr) (fd : FuncData) (F : Fun K "__init__" "Net.__init__" sNetInit f fd) : FnOk P w K mg base (L2.CX P w) 16 f fd ["self", "nodes"] (spInit K C CN CL) := by
  refine F.okX scNetInit (fun vs H Q E h => ?_) (fun cdv A outer s H vs Q E hr h => ?_)
  · obtain ⟨x, dx, v, d, rfl, _⟩ := h
    rfl
  · obtain ⟨x, dx, v, d, rfl, hx, hv, hs, q1, q2, q3⟩ := h
    have nd := scNetInit.nd
    have hu := Nat.lt_of_le_of_lt (Nat.add_le_add_left (by decide : 1 ≤ 64) _) hr.units
    refine ⟨_, pss_cons (ps_expr (pe_def G1 hr (passes_call (W := fun cls d _ H => E cls d H) (takes_of rfl rfl rfl rfl) (fun _ _ _ _ h => h)) (pa_cons (pv 1) pa_nil)))
      (pss_cons (ps_fld (pv 0) (pe_def G2 hr pass0 (pa_cons (pv 1) pa_nil)) (by rfl))
      (pss_cons (ps_fld (pv 0) (pe_dc (own := [("place", 2), ("node", 3)]) (g := gTup K 2 (gCons (gName 2) (gCons (gName 3) gNil))) (tt := tYes) rfl nd (pi_enum (by rfl) bE (pa_cons (pv 1) pa_nil)) (blkOk_by (N := ["self", "nodes", "place", "node"]) (sc := defScope sNetInit) (by decide +kernel))
          (fun _ _ _ _ _ => pg_tup rfl (pgs_cons (pg_name (i := 2) nd rfl (Or.inl rfl)) (pgs_cons (pg_name (i := 3) nd rfl (Or.inl rfl)) pgs_nil))) (fun _ _ _ _ _ => pts_nil)
          (fun _ _ _ _ _ => pe_ix (ixT (K := K) rfl) (pv 3) pe_int (fun _ _ => rfl)) (fun _ _ _ _ _ => pv 2)) (by rfl))
      (pss_cons (ps_fld (pv 0) pe_non (by rfl))
      (pss_one (ps_expr (pe_def G3 hr (passes_call (W := fun cls d _ H => E cls d H) (takes_of rfl rfl rfl rfl) (fun _ _ _ _ h => h)) (pa_cons (pv 0) pa_nil))))))), ?_⟩
    refine ⟨v, rfl, v, d, rfl, hv, hs, fun ck H1 s1 => ?_, fun n ck H1 dd s1 n1 => q1 n ck H1 dd (hid_same.trans s1) n1⟩
    obtain ⟨ns, rfl, l1, l30, wd⟩ := nodes_of ck
    refine ⟨v, rfl, v, _, rfl, hv.same s1, dp_nodes wd, fun y H2 s2 hy => ?_⟩
    have hx2 := s2 _ _ (s1 _ _ hx)
    refine ⟨_, rfl, x, C, dx, [], rfl, hx2, c, n1, by decide, ?_⟩
    have s12 := s1.trans s2
    cases hv with
    | @lst l xs ds hl hz hds =>
      have lx : l ≠ x := fun e => by
        rw [e, hx] at hl
        cases hl
      have hlen : xs.length = ns.length := by rw [hds.length, List.length_map]
      -- the instance has its nodes
      have keep3 : ∀ {b : Addr} {o : HO}, H2 b = some o → b ≠ x → upd H2 x (.ins C dx (putF "_nodes" y [])) b = some o := fun {b o} e n => by
        rw [upd_ne n]
        exact e
      have hl3 := keep3 (s12 _ _ hl) lx
      have hx3 : upd H2 x (.ins C dx (putF "_nodes" y [])) x = some (.ins C dx [("_nodes", y)]) := upd_same
      have sx3 : Same (hid x H2) (upd H2 x (.ins C dx (putF "_nodes" y []))) := fun b o e => keep3 (hid_of e).2 (hid_of e).1
      generalize upd H2 x (.ins C dx (putF "_nodes" y [])) = H3 at hl3 hx3 sx3 keep3
      refine ⟨_, rfl, l, xs, rfl, SqL.of hl3, fun D nD => ?_⟩
      have xD : x ≠ D := fun e => by
        rw [← e, hx3] at nD
        cases nD
      have hdsn : DvAll K H3 xs (ns.map Nd.dat) := DvAll.data (fun b o e nd => keep3 (s12 _ _ e) fun z => by
        rw [z, hx] at e
        cases e
        exact nd C dx [] rfl) hds
      refine tWalk_by (walk_enum (xs := xs)) (fun i H' => Same H3 H' ∧ H' D = some (kiO (placesN 0 (ns.take i)))) ⟨same_upd nD, upd_same⟩ (fun i H' _ p => SqL.of (p.1 _ _ hl3)) (fun i u H' H'' hi p y' => ?_) (fun H' p => ?_)
      · obtain ⟨sm, hD⟩ := p
        obtain ⟨T, i1, w1, rfl, nT, rfl, f1, f2⟩ := y'
        cases f1
        have f2 : xs[i]? = some w1 := f2
        have sT := same_upd (o := .tup [V.int (i : Nat), w1]) nT
        obtain ⟨n, b, l2, y3, en, rfl, hb, hl2, _⟩ := node_at (hdsn.same (sm.trans sT)) f2
        have hD2 := sT _ _ hD
        have lt : i < ns.length := (List.getElem?_eq_some_iff.mp en).1
        refine ⟨T, _, rfl, SqT.of upd_same, rfl, _, _, rfl, _, _, rfl, rfl, rfl, ?_⟩
        refine ⟨.ref b, rfl, b, _, _, _, rfl, rfl, SqT.of hb, atI_nat (j := 0) rfl, _, rfl, _, .inr n.name, rfl, hD2, ?_, fun c o e => ?_, ?_⟩
        · rw [List.length_map, placesN_len, List.length_take]
          exact Nat.lt_of_le_of_lt (by omega : min i ns.length ≤ 1000) (by decide)
        · rw [upd_ne (ne_of_none e nD)]
          exact sT _ _ (sm _ _ e)
        · rw [put_new (by rw [placesN_keys]; exact (wired_at wd en).1), upd_same, take_at en, placesN_snoc, List.length_take, show 0 + min i ns.length = i from by omega]
      · obtain ⟨sm, hD⟩ := p
        rw [hlen, List.take_length] at hD
        have hx4 := sm _ _ hx3
        refine ⟨_, rfl, x, C, dx, _, rfl, hx4, c, n2, by show 1 < 1000; decide, ?_⟩
        refine ⟨_, rfl, x, C, dx, _, rfl, upd_same, c, n3, by show 2 < 1000; decide, ?_⟩
        have hx5 : upd (upd H' x (.ins C dx (putF "_places" (.ref D) [("_nodes", y)]))) x (.ins C dx (putF "plan" .non (putF "_places" (.ref D) [("_nodes", y)]))) x = some (.ins C dx (netFs y D)) := by
          rw [upd_same]
          rfl
        have keep5 : ∀ {b : Addr} {o : HO}, H' b = some o → b ≠ x → upd (upd H' x (.ins C dx (putF "_places" (.ref D) [("_nodes", y)]))) x (.ins C dx (putF "plan" .non (putF "_places" (.ref D) [("_nodes", y)]))) b = some o := fun {b o} e n => by
          rw [upd_ne n, upd_ne n]
          exact e
        generalize upd (upd H' x (.ins C dx (putF "_places" (.ref D) [("_nodes", y)]))) x (.ins C dx (putF "plan" .non (putF "_places" (.ref D) [("_nodes", y)]))) = H5 at hx5 keep5
        have s5 : Same (hid x H) H5 := fun b o e => keep5 (sm _ _ (keep3 (s12 _ _ (hid_of e).2) (hid_of e).1)) (hid_of e).1
        have hD5 := keep5 hD (fun e => xD e.symm)
        have nD0 : H D = none := by
          cases e : H D with
          | none => rfl
          | some o =>
            rw [keep3 (s12 _ _ e) (fun e => xD e.symm)] at nD
            cases nD
        have hy5 : Dv K (newOf H H5) y (.list (ns.map Nd.dat)) := hy.same fun b o e => by
          have e2 := newOf_same b o e
          have nb : H1 b = none := by
            unfold newOf at e
            cases z : H1 b with
            | none => rfl
            | some u =>
              rw [z] at e
              cases e
          have nb0 : H b = none := by
            cases z : H b with
            | none => rfl
            | some u =>
              rw [s1 _ _ z] at nb
              cases nb
          have bx : b ≠ x := fun q => by
            rw [q, hx] at nb0
            cases nb0
          exact newOf_at nb0 (keep5 (sm _ _ (keep3 e2 bx)) bx)
        have net5 : NetNew K H H5 C x ns := ⟨⟨dx, y, D, hx5, hD5, nD0, hy5⟩, wd, l1, l30⟩
        refine ⟨_, rfl, x, ns, rfl, net5.net, fun e H6 s6 => ?_, fun n e H6 dd s6 nd6 => q2 ns ck rfl n e H6 dd (s5.trans s6) nd6⟩
        refine q3 ns ck rfl e H6 (s5.trans s6) ⟨⟨dx, y, D, s6 _ _ hx5, s6 _ _ hD5, nD0, hy5.same (newOf_mono (Same.refl _) s6)⟩, wd, l1, l30⟩
end
end Pw
set_option maxHeartbeats 2000000
/-! own operators: len, in, not in, ==, != -/
namespace Own
open PySem PySem.Spec PyProof.Rows L2
section
variable {X : Cx} {CX : CXT} {k : Nat} {C f : Addr} {fd : FuncData} {ps : List Str} {sp : Sp} {E : XK}
theorem run_at {A : Around} {pins : List (Addr × Obj)} {σ : L2.St} {H : Hp} {s : Shared} {Q : VK} {us : List Value} {vs : List V} (F : FnOk X.prog X.w X.K X.mg X.base CX k f fd ps sp) (hr : Room k A) (fr : A.frames = X.A.frames) (hb : Binds X.K fd ps []) (hx : Passes CX X E)
    (I : Inv X pins σ H s) (r : Vals vs us) (h : sp vs H Q E) : wpAny (model X.prog X.w) A (call (.ref f) us) (EP X pins σ Q) X.xe s := by
  have hl : us.length = ps.length := by rw [← r.length]; exact F.len _ _ _ _ h
  have e0 : Env0 X.prog X.w X.K X.mg X.base A X.stack s H := by
    have e := I.env0
    exact ⟨by rw [fr]; exact e.frames, e.mod, e.bs, e.bsz, e.funs, e.frf, e.hok, e.bare⟩
  refine wpAny_call (codeAny_mono (F.run A X.stack s H ⟨us, []⟩ us vs Q E hr e0 (by
    have := hb s us I.kIn (by simpa using hl)
    simpa using this) r h) fun r s' hq => ?_)
  cases r with
  | error e => exact hx pins σ H s e s' I hq
  | ok fl =>
    cases fl with
    | ret u => exact I.after hq
    | next => exact False.elim hq
    | brk => exact False.elim hq
    | cont => exact False.elim hq
/-- contains(x, v) by an own __contains__ -/
theorem contains_own {pins : List (Addr × Obj)} {σ : L2.St} {H : Hp} {s : Shared} {a dx : Addr} {fs : List (Str × V)} {x : V} {u : Value} {Q : Bool → Hp → Prop} (m : Meth X.K C "__contains__" f) (F : FnOk X.prog X.w X.K X.mg X.base CX k f fd ps sp) (hr : Room k X.A) (hb : Binds X.K fd ps []) (hx : Passes CX X E)
    (I : Inv X pins σ H s) (ha : H a = some (.ins C dx fs)) (rx : RelV x u) (h : sp [.ref a, x] H (fun v H' => ∃ b, v = .bl b ∧ Q b H') E) :
    wpAny (model X.prog X.w) X.A (contains (.ref a) u) (fun b s' => ∃ H', Inv X pins σ H' s' ∧ Q b H') X.xe s := by
  obtain ⟨mA, J, _⟩ := ins_get I.hok ha
  obtain ⟨od, J, _⟩ := J.look
  unfold contains
  refine wpAny_holding (wpAny_bind (wpAny_bind (J.type.here ((PySem.W.looks_findIn I.kIn m.at_).here ?_))))
  rw [if_neg (by simp)]
  refine wpAny_bind ?_
  refine PySem.W.unlessNone_K I.kIn J m.at_ m.fn ?_
  refine thn (run_fn (us := [.ref a, u]) (vs := [.ref a, x]) F hr hb .nil hx I (.cons rfl (.cons rx .nil)) h) fun r s' got => ?_
  obtain ⟨v, H', I', rv, b, rfl, q⟩ := got
  obtain rfl : r = Value.bool b := rv
  exact wpAny_truthy_bool ⟨H', I', q⟩
def rInOwn (C : Addr) (sp : Sp) (E : XK) (neg : Bool) : R2 := fun x y H Q => ∃ (a dx : Addr) (fs : List (Str × V)), y = .ref a ∧ H a = some (.ins C dx fs) ∧ sp [.ref a, x] H (fun v H' => ∃ b, v = .bl b ∧ Q (.bl (if neg = true then !b else b)) H') E
theorem op_inOwn (m : Meth X.K C "__contains__" f) (F : FnOk X.prog X.w X.K X.mg X.base CX k f fd ps sp) (hr : Room k X.A) (hb : Binds X.K fd ps []) (hx : Passes CX X E) : OpR X (compareOp .In) (rInOwn C sp E false) := by
  intro pins s σ H x y v u Q I rx ry h
  obtain ⟨a, dx, fs, rfl, ha, q⟩ := h
  obtain rfl : u = Value.ref a := ry
  refine wpAny_bind (wpAny_mono (contains_own m F hr hb hx I ha rx q) (fun b s' z => ?_) fun _ _ z => z)
  obtain ⟨H', I', q'⟩ := z
  exact wpAny_pure ⟨.bl b, H', I', rfl, q'⟩
theorem op_ninOwn (m : Meth X.K C "__contains__" f) (F : FnOk X.prog X.w X.K X.mg X.base CX k f fd ps sp) (hr : Room k X.A) (hb : Binds X.K fd ps []) (hx : Passes CX X E) : OpR X (compareOp .NotIn) (rInOwn C sp E true) := by
  intro pins s σ H x y v u Q I rx ry h
  obtain ⟨a, dx, fs, rfl, ha, q⟩ := h
  obtain rfl : u = Value.ref a := ry
  refine wpAny_bind (wpAny_mono (contains_own m F hr hb hx I ha rx q) (fun b s' z => ?_) fun _ _ z => z)
  obtain ⟨H', I', q'⟩ := z
  exact wpAny_pure ⟨.bl (!b), H', I', rfl, q'⟩
/-- len(x) by an own __len__ -/
def rLenOwn (C : Addr) (sp : Sp) (E : XK) : List V → Hp → VK → Prop := fun xs H Q => ∃ (a dx : Addr) (fs : List (Str × V)), xs = [.ref a] ∧ H a = some (.ins C dx fs) ∧ sp [.ref a] H (fun v H' => ∃ n : Int, v = .int n ∧ 0 ≤ n ∧ n < 2 ^ 63 ∧ Q (.int n) H') E
theorem call_lenOwn (m : Meth X.K C "__len__" f) (F : FnOk X.prog X.w X.K X.mg X.base CX k f fd ps sp) (hr : Room (k + 1) X.A) (hb : Binds X.K fd ps []) (hx : Passes CX X E) : CallR X (.builtin "len") (rLenOwn C sp E) := by
  intro pins s σ H xs us Q I r h
  obtain ⟨a, dx, fs, rfl, ha, q⟩ := h
  obtain ⟨u, rfl, rv⟩ := r.one
  obtain rfl : u = Value.ref a := rv
  obtain ⟨mA, J, _⟩ := ins_get I.hok ha
  obtain ⟨od, J, _⟩ := J.look
  refine Calls.call_function_entry kind_len plain_len entry_len (args_len1 _) ?_
  unfold Builtin.«len»
  refine wpAny_bind (m := oneArg "len" _) (wpAny_pure ?_)
  refine wpAny_bind (m := callSpecial? (.ref a) (Str.ofString "__len__")) (PySem.W.special_fn I.kIn J m.at_ (beq_iff_eq.mp m.fn) (wpAny_mono (run_at (us := [.ref a]) (vs := [.ref a]) F hr.in1 rfl hb hx I (.cons rfl .nil) q) (fun r s' hr' => ?_) fun _ _ y => y))
  obtain ⟨v, H', I', rv, n, rfl, n0, n1, q'⟩ := hr'
  obtain ⟨t, rfl⟩ := rv
  refine wpAny_bind (wpAny_holding (wpAny_pure ?_))
  refine wpAny_bind (wpAny_letGo ?_)
  show wpAny _ _ (if n < 0 then _ else _) _ _ _
  rw [if_neg (by omega)]
  show wpAny _ _ (if n ≥ 2 ^ 63 then _ else _) _ _ _
  rw [if_neg (by omega)]
  exact wpAny_bind (wpAny_mkInt (wpAny_pure ⟨_, rfl, .int n, H', I'.tok _, ⟨_, rfl⟩, q'⟩))
/-! ### own == and what follows for != -/
def rEqOwn (C : Addr) (sp : Sp) (E : XK) (neg : Bool) : R2 := fun x y H Q => ∃ (a b dx dy : Addr) (fs gs : List (Str × V)), x = .ref a ∧ y = .ref b ∧ H a = some (.ins C dx fs) ∧ H b = some (.ins C dy gs) ∧ sp [.ref a, .ref b] H (fun v H' => ∃ c, v = .bl c ∧ Q (.bl (if neg = true then !c else c)) H') E
theorem op_eqOwn (m : Meth X.K C "__eq__" f) (F : FnOk X.prog X.w X.K X.mg X.base CX k f fd ps sp) (hr : Room k X.A) (hb : Binds X.K fd ps []) (hx : Passes CX X E) : OpR X (compareOp .Eq) (rEqOwn C sp E false) := by
  intro pins s σ H x y u v Q I rx ry h
  obtain ⟨a, b, dx, dy, fs, gs, rfl, rfl, ha, hb', q⟩ := h
  cases rx
  cases ry
  obtain ⟨mA, J, _⟩ := ins_get I.hok ha
  obtain ⟨mB, J', _⟩ := ins_get I.hok hb'
  obtain ⟨od, J, _⟩ := J.look
  obtain ⟨od', J', _⟩ := J'.look
  obtain ⟨mf, hF⟩ := I.fr
  show wpAny (model X.prog X.w) X.A (richCompare .Eq (.ref a) (.ref b)) (EP X pins σ Q) X.xe s
  refine PySem.W.cmp_K (op := .Eq) (tb := .ref C) hr.units0 hF I.ok.mod.kin J J'.type (by simp [PySem.W.notFirst]) m.at_ m.fn ?_
  refine thn (run_at (us := [.ref a, .ref b]) (vs := [.ref a, .ref b]) F hr rfl hb hx I (.cons rfl (.cons rfl .nil)) q) fun r s' got => ?_
  obtain ⟨w, H', I', rv, c, rfl, q'⟩ := got
  obtain rfl : r = Value.bool c := rv
  exact ⟨.bl c, H', I', rfl, q'⟩
theorem ifBound_ne {M : Model} {A : Around} {Ex : Value → Shared → Prop} {s : Shared} {K : PySem.W.Frag} {x C : Addr} {ox : Obj} {od : Option Obj} {args : List Value} {Q : Option Value → Shared → Prop} (Xk : K.In s.heap) (I : PySem.W.InstAt s.heap x ox C od) (hs : PySem.W.findIn K (.ref C) "__ne__" = some (some (.builtin "object.__ne__")))
    (h : wpAny M A (call (.builtin "object.__ne__") (.ref x :: args)) (fun v => Q (some v)) Ex s) : wpAny M A (callSpecialIfBound? (.ref x) "__ne__" args) Q Ex s := by
  simp only [callSpecialIfBound?, bindSpecialIfBound?]
  refine wpAny_holding (wpAny_bind (wpAny_bind (wpAny_bind (I.type.here ((PySem.W.looks_findIn Xk hs).here ?_)))))
  refine wpAny_bind (wpAny_askSetting (wpAny_ite ?_))
  have fin : wpAny M A (call (.builtin "object.__ne__") ([.ref x] ++ args) >>= fun v => pure (some v)) Q Ex s := wpAny_bind (wpAny_mono h (fun v s' h' => wpAny_pure h') fun _ _ h' => h')
  split
  · exact wpAny_bind (wpAny_of_eq (PySem.F.cmp_object.ne.bind _) (wpAny_pure (by exact fin)))
  · exact wpAny_tryCatch (wpAny_bind (wpAny_of_eq (PySem.F.cmp_object.ne.bind _) (wpAny_pure (by exact fin))))
theorem op_neOwn (m : Meth X.K C "__eq__" f) (hn : PySem.W.findIn X.K (.ref C) "__ne__" = some (some (.builtin "object.__ne__"))) (hm : PySem.W.mroIn X.K C (.type "object") = some true)
    (F : FnOk X.prog X.w X.K X.mg X.base CX k f fd ps sp) (hr : Room (k + 1) X.A) (hb : Binds X.K fd ps []) (hx : Passes CX X E) : OpR X (compareOp .NotEq) (rEqOwn C sp E true) := by
  intro pins s σ H x y u v Q I rx ry h
  obtain ⟨a, b, dx, dy, fs, gs, rfl, rfl, ha, hb', q⟩ := h
  cases rx
  cases ry
  obtain ⟨mA, J, _⟩ := ins_get I.hok ha
  obtain ⟨mB, J', _⟩ := ins_get I.hok hb'
  obtain ⟨od, J, _⟩ := J.look
  obtain ⟨od', J', _⟩ := J'.look
  show wpAny (model X.prog X.w) X.A (richCompare .NotEq (.ref a) (.ref b)) (EP X pins σ Q) X.xe s
  have one : wpAny (model X.prog X.w) X.A (tryCompare (.ref a) "__ne__" (.ref b)) (fun r s' => ∃ c, r = some (.bool c) ∧ EP X pins σ Q (.bool c) s') X.xe s := by
    unfold tryCompare
    refine wpAny_bind (ifBound_ne I.kIn J hn ?_)
    refine wpAny_call (codeAny_call_builtin PySem.F.cmp_object.ne.plain PySem.F.cmpEntry_ne (PySem.W.check_slot PySem.F.cmpKind_ne PySem.F.cmpSplit_ne (J.type.andThen (PySem.W.looks_mroIn I.kIn hm)) (PySem.F.cmpArgs_ne _ _) ?_))
    unfold Builtin.«object.__ne__»
    refine wpAny_bind (m := slotArgs "__ne__" 1 _) (wpAny_pure ?_)
    refine wpAny_bind (wpAny_cRoomFor hr.in1.units0 ?_)
    refine wpAny_bind (PySem.W.ifBound_K I.kIn J m.at_ m.fn ?_)
    refine thn (run_at (us := [.ref a, .ref b]) (vs := [.ref a, .ref b]) F hr.in1 rfl hb hx I (.cons rfl (.cons rfl .nil)) q) fun r s' got => ?_
    obtain ⟨w, H', I', rv, c, rfl, q'⟩ := got
    obtain rfl : r = Value.bool c := rv
    refine wpAny_bind (wpAny_truthy_bool ?_)
    exact wpAny_pure (fun Γ p hΓ => (wpAny_pure (M := model X.prog X.w) (A := X.A) (E := X.xe) (s := s') (a := some (Value.bool !c)) (Q := fun r s' => ∃ c, r = some (Value.bool c) ∧ EP X pins σ Q (Value.bool c) s') ⟨!c, rfl, .bl (!c), H', I', rfl, q'⟩) Γ p hΓ)
  unfold richCompare
  simp only [oneThing_ref]
  refine wpAny_holding (wpAny_bind (wpAny_cRoomFor hr.units0 ?_))
  refine wpAny_bind (J.type.here (wpAny_bind (J'.type.here ?_)))
  rw [show (Value.ref C != Value.ref C) = false from by simp]
  simp only [Bool.false_eq_true, if_false]
  refine wpAny_bind (wpAny_pure ?_)
  simp only [Bool.false_eq_true, if_false]
  refine wpAny_bind (wpAny_mono one (fun r s' z => ?_) fun _ _ e => e)
  obtain ⟨c, rfl, hq⟩ := z
  exact wpAny_pure hq
end
end Own
set_option maxHeartbeats 3200000
/-! len(set(xs)) of words -/
namespace SN
open PySem PySem.Spec PyProof.Rows
/-- the different ones among the first i words -/
def dif (xs : List Str) : Nat → List Str
  | 0 => []
  | i + 1 => if (dif xs i).any (· == xs.getD i Str.empty) = true then dif xs i else dif xs i ++ [xs.getD i Str.empty]
theorem dif_len (xs : List Str) : ∀ i, (dif xs i).length ≤ i
  | 0 => Nat.le_refl _
  | i + 1 => by
    have ih := dif_len xs i
    unfold dif
    split
    · omega
    · rw [List.length_append, List.length_singleton]
      omega
section
variable {prog : Program} {w : World} {A : Around} {R : Result → Shared → Prop} {I : Addr} {fp wr : List Addr} {G : Array GenState → Array GenState → Prop} {n : Nat} {P : Nat → Value → Prop} {St : Nat → Shared → Prop}
theorem loopN (W : WalksS prog w A.in1 I fp wr G n P St) (S : Addr) (hSf : S ∉ fp) (xs : List Str) (hb : n + 1 < scanBound)
    (hval : ∀ i v, P i v → ∃ t, v = .str (xs.getD i Str.empty) t) : ∀ (k i : Nat) (s : Shared), n - i = k → i ≤ n → St i s →
      s.heap.SetOf (PySem.strKind prog w) S (fun k' => (dif xs i).any (· == k')) (dif xs i).length →
      (∀ s', Moved (S :: wr) G s s' → s'.heap.SetOf (PySem.strKind prog w) S (fun k' => (dif xs n).any (· == k')) (dif xs n).length → R (.ok (.ret .none)) s') →
      codeAny (model prog w) A (.builtin "set.update.loop" ⟨[.ref S, .ref I], []⟩) R s := by
  have notW : S ∉ wr := fun z => hSf (W.sub _ z)
  have into : ∀ b ∈ wr, b ∈ S :: wr := fun b z => List.mem_cons_of_mem _ z
  have carry : ∀ {s s' : Shared} {f : Str → Bool} {m : Nat}, Moved wr G s s' → s.heap.SetOf (PySem.strKind prog w) S f m → s'.heap.SetOf (PySem.strKind prog w) S f m := fun mv q => by
    obtain ⟨o, es, ep, t, ho, rest⟩ := q
    exact ⟨o, es, ep, t, mv.heap S _ notW ho, rest⟩
  intro k
  induction k with
  | zero =>
    intro i s hk hi hst hS hR
    obtain rfl : i = n := by omega
    refine codeAny_builtin PyProof.Rows.F.entry_set_update_loop ?_
    rw [Around.under_plainId PyProof.Rows.F.plain_set_update_loop _]
    show wpAny _ A.in1 (pyNext (.ref I) >>= _) _ _ s
    exact wpAny_bind (W.done s _ _ hst fun s' mv => (by
      show wpAny _ A.in1 (ret Value.none) _ _ s'
      exact wpAny_pure (hR s' (mv.mono into) (carry mv hS))))
  | succ k ih =>
    intro i s hk hi hst hS hR
    have hlt : i < n := by omega
    refine codeAny_builtin PyProof.Rows.F.entry_set_update_loop ?_
    rw [Around.under_plainId PyProof.Rows.F.plain_set_update_loop _]
    show wpAny _ A.in1 (pyNext (.ref I) >>= _) _ _ s
    refine wpAny_bind (W.item i s _ _ hlt hst fun v s' hP hst' mv => ?_)
    obtain ⟨t, rfl⟩ := hval i v hP
    have hS' := carry mv hS
    have few := dif_len xs i
    show wpAny _ A.in1 (holding [Value.str (xs.getD i Str.empty) t] (setAdd S (.str (xs.getD i Str.empty) t)) >>= _) _ _ s'
    refine wpAny_bind (wpAny_holding ?_)
    unfold setAdd
    refine wpAny_holding (wpAny_bind ((PySem.strKind prog w).pyHash (k := xs.getD i Str.empty) (strKind_is _ _ _ _) ?_))
    refine wpAny_setAddHashed_of (knd := PySem.strKind prog w) (s := { s' with toks := s'.toks + 1 }) (strKind_is _ _ _ _) rfl hS' (by omega) fun h' hsb hS2 => ?_
    have hSi : h'.SetOf (PySem.strKind prog w) S (fun k' => (dif xs (i + 1)).any (· == k')) (dif xs (i + 1)).length := by
      generalize hx : xs.getD i Str.empty = x at hS2
      have hd : dif xs (i + 1) = if (dif xs i).any (· == x) = true then dif xs i else dif xs i ++ [x] := by
        rw [← hx]
        rfl
      rw [hd]
      by_cases c : (dif xs i).any (· == x) = true
      · rw [if_pos c]
        rw [if_pos c] at hS2
        refine SetOf_congr hS2 (fun k' => ?_) rfl
        show ((dif xs i).any (· == k') || decide (k' = x)) = _
        by_cases e : k' = x
        · rw [e, c]
          rfl
        · rw [decide_eq_false e, Bool.or_false]
      · rw [if_neg c]
        rw [if_neg c] at hS2
        refine SetOf_congr hS2 (fun k' => ?_) (by rw [List.length_append]; rfl)
        show ((dif xs i).any (· == k') || decide (k' = x)) = _
        rw [List.any_append]
        congr 1
        show decide (k' = x) = ((x == k') || false)
        rw [Bool.or_false]
        by_cases e : k' = x
        · rw [e, decide_eq_true rfl, beq_self_eq_true]
        · rw [decide_eq_false e, beq_eq_false_iff_ne.mpr (fun z => e z.symm)]
    refine wpAny_pure ⟨plainId_quiet PyProof.Rows.F.plain_set_update_loop _, ih (i + 1) _ (by omega) hlt (W.frame _ s' _ _ hst' (Nat.le_succ _) fun b hb o e => ?_) hSi fun s2 mv2 hS3 => ?_⟩
    · rw [hsb.2 b fun z => hSf (by rw [← z]; exact hb)]
      exact e
    · refine hR s2 (Moved.trans W.gtrans ((mv.mono into).then_heap (Nat.le_succ _) fun b o hb e => ?_) mv2) hS3
      rw [hsb.2 b fun z => hb (by rw [z]; exact List.mem_cons_self)]
      exact e
end
section
variable {prog : Program} {w : World} {A : Around} {E : Value → Shared → Prop} {s : Shared}
/-- an empty set, as it is made -/
abbrev empty (led : Bool) : Obj := { cls := .type "set", dict := none, data := .set #[] 0 (.fresh 0 0 led) }
theorem call_setN {l : Addr} {items : Array Value} {xs : List Str} {Q : Value → Shared → Prop} (hh : A.handled = none) (hl : s.heap.IsList l items) (hi : PyProof.Rows.StrsAre items.toList xs) (hb : items.size + 1 < scanBound)
    (h : ∀ (h' : Heap) (tk : Nat), h'.SetOf (PySem.strKind prog w) s.heap.objs.size (fun k' => (dif xs items.size).any (· == k')) (dif xs items.size).length →
      (∀ b o, b < s.heap.objs.size → s.heap.get? b = some o → h'.get? b = some o) → Q (.ref s.heap.objs.size) { s with heap := h', toks := tk }) :
    wpAny (model prog w) A (call (.type "set") [.ref l]) Q E s := by
  obtain ⟨c, tl, hmro⟩ := PySem.F.called_set.mro
  have made := PySem.F.called_set.made
  have sub := PySem.F.called_set.sub
  refine wpAny_call (codeAny_of_tree ?_)
  show wpAny _ _ (callAny (.type "set") _) _ _ _
  refine wpAny_pure ⟨Code.quiet_builtin _ (by decide +kernel), codeAny_builtin PySem.F.entry_type_call ?_⟩
  rw [Around.under_plain (weight_type_call_type "set" [.ref l] []) rfl]
  have f1 := PySem.F.called_set.notType
  have f2 := PySem.F.called_set.canCreate
  have f3 := PySem.F.typeCall_set_1 (.ref l)
  repeat (any_goals (first | assumption | wp_step))
  refine codeAny_mono (code_set_new_1 (.ref l) (E := E) (Q₁ := fun obj s₁ => ∃ led : Bool, obj = .ref s.heap.objs.size ∧ s₁ = { s with heap := s.heap.push (empty led) }) fun led => ⟨led, rfl, rfl⟩) fun r s₁ hr => ?_
  cases r with
  | error e => exact hr
  | ok fl =>
    cases fl with
    | ret obj =>
      obtain ⟨led, rfl, rfl⟩ := hr
      have at_ : (s.heap.push (empty led)).get? s.heap.objs.size = some (empty led) := Heap.get?_push_size _ rfl
      have ty : Shared.TypeIs { s with heap := s.heap.push (empty led) } (.ref s.heap.objs.size) "set" := ⟨_, at_, rfl⟩
      have g1 := PySem.F.called_set.init.lookup
      have g2 := PySem.F.called_set.init.bind (.ref s.heap.objs.size)
      repeat (any_goals (first | assumption | wp_step))
      refine codeAny_mono (codeAny_call_builtin (R := wants (fun r s₂ => r = .none ∧ ∃ h' tk, s₂ = { s with heap := h', toks := tk } ∧
          h'.SetOf (PySem.strKind prog w) s.heap.objs.size (fun k' => (dif xs items.size).any (· == k')) (dif xs items.size).length ∧
          (∀ b o, b < s.heap.objs.size → s.heap.get? b = some o → h'.get? b = some o)) E) PySem.F.called_set.init.plain PySem.F.entry_set_init (check_set_init_1 ty ?_)) fun r₂ s₂ hr₂ => ?_
      · obtain ⟨⟨cls, dct, data, slots⟩, hol, hcl, nl, hdl⟩ := hl
        simp only at hcl hdl
        subst hcl; subst hdl
        have hol' : (s.heap.push (empty led)).get? l = some { cls := .type "list", dict := dct, data := .seq items nl, slots := slots } := Heap.get?_push_of_some _ hol
        have k1 := PySem.F.sub_list_set
        have k2 := PySem.F.sub_list_frozenset
        have k3 : (Value.type "list" == Value.type "dict") = false := by decide
        have isl : (s.heap.push (empty led)).IsList l items := ⟨_, hol', rfl, nl, rfl⟩
        unfold Builtin.«set.__init__» noKeywords Builtin.Frozenset.updateFrom
        generalize hPI : pyIter = PI
        wp_walk
        subst hPI
        refine wpAny_pyIter_list isl (wpAny_bind (wpAny_runValue ?_))
        have below : l < s.heap.objs.size := Heap.lt_size hol
        have hh3 : A.in1.in1.in1.handled = none := by simp [hh]
        have apart : l ≠ (s.heap.push (empty led)).objs.size := by
          rw [Heap.size_push]
          exact Nat.ne_of_lt (Nat.lt_succ_of_lt below)
        have free : s.heap.objs.size ∉ [(s.heap.push (empty led)).objs.size, l] := by
          rw [Heap.size_push]
          simp only [List.mem_cons, List.mem_singleton, List.not_mem_nil, or_false, not_or]
          exact ⟨Nat.ne_of_lt (Nat.lt_succ_self _), Nat.ne_of_gt below⟩
        refine loopN ((Walks.list hh3 _ l apart items).toS) s.heap.objs.size free xs hb (fun i v hv => SS.strs_at hi i v (by rw [Array.getElem?_toList]; exact hv)) (items.size - 0) 0 _ (by omega) (Nat.zero_le _)
          ⟨⟨_, Heap.get?_push_size _ rfl, rfl, rfl⟩, (isl.push _)⟩ ?start ?stop
        case start =>
          have hget : ((s.heap.push (empty led)).push { cls := .type "list_iterator", data := .fields #[.ref l, .int 0 0] }).get? s.heap.objs.size = some (empty led) := Heap.get?_push_of_some _ at_
          exact PyProof.Rows.SetOf_congr ((PyProof.Rows.setObjOf_fresh (knd := PySem.strKind prog w) led).setOf hget (by unfold scanBound; omega)) (fun _ => rfl) rfl
        case stop =>
          intro s' mv hS'
          obtain ⟨h', g', d', tk', os'⟩ := s'
          obtain rfl : g' = s.gens := mv.gens
          obtain rfl : d' = s.drawn := mv.drawn
          obtain rfl : os' = s.os := mv.os
          show wpAny _ _ _ _ _ _
          refine wpAny_pure ?_
          show wpAny _ _ (ret Value.none) _ _ _
          refine wpAny_pure ⟨rfl, h', tk', rfl, hS', fun b o hb2 e => ?_⟩
          have b1 : b ≠ s.heap.objs.size := Nat.ne_of_lt hb2
          have b2 : b ≠ (s.heap.push (empty led)).objs.size := by
            rw [Heap.size_push]
            exact Nat.ne_of_lt (Nat.lt_succ_of_lt hb2)
          exact mv.heap b o (by simp only [List.mem_cons, List.mem_singleton, List.not_mem_nil, or_false, not_or]; exact ⟨b1, b2⟩) (Heap.get?_push_of_some _ (Heap.get?_push_of_some _ e))
      · cases r₂ with
        | error e => exact hr₂
        | ok fl₂ =>
          cases fl₂ with
          | ret r =>
            obtain ⟨rfl, h', tk, rfl, hS', keep⟩ := hr₂
            repeat (any_goals (first | assumption | wp_step))
            exact h _ _ hS' keep
          | _ => exact hr₂.elim
    | _ => exact hr.elim
end
end SN
namespace L2
open PySem PySem.Spec PyProof.Rows
/-- len(set(xs)), xs a list of words -/
def tLenSetN (K : PySem.W.Frag) (ta : TE) : TE := fun σ H Q => ta σ H fun x H1 => ∃ (l : Addr) (xs : List Str), x = .ref l ∧ SqL K H1 l (xs.map V.str) ∧ xs.length ≤ 1000 ∧ Q (.int (SN.dif xs xs.length).length) H1
theorem pe_lenSetN {X : Cx} {a : Expr} {ta : TE} {p p2 q pos : Pos} (hc : X.calm = true) (hg : Gl X "len") (hm : X.mg "len" = none) (hg2 : Gl X "set") (hm2 : X.mg "set" = none) (ha : PE X a ta)
    (na : starEach [a] X.env = (false, eval a X.env) :: starEach [] X.env := by rfl) : PE X (.Call (.Name "len" p) [.Call (.Name "set" p2) [a] [] q] [] pos) (tLenSetN X.K ta) := by
  refine ⟨fun pins s σ H Q I h => ?_⟩
  refine Call_ (ld_blt I hg hm boot_len (PyProof.Rows.callWith_builtin1 (PyProof.Rows.args_cons ?_ rfl) rfl rfl))
  refine Call_ (ld_blt I hg2 hm2 boot_set ?_)
  refine PyProof.Rows.callWith_type1 (PyProof.Rows.args_cons (thn (ha.run pins s σ H _ I h) fun v s1 ⟨x, H1, I1, r1, q1⟩ => PyProof.Rows.args_nil ?_) na) na rfl
  obtain ⟨l, xs, rfl, hq, h1, q1⟩ := q1
  cases r1
  obtain ⟨its, r, pl, hz⟩ := I1.list hq
  have hl : its.toArray.size = xs.length := by rw [List.size_toArray, ← r.length, List.length_map]
  refine SN.call_setN (I1.ok.hd hc) pl.isList (by simpa using strsAre_of r) (by rw [hl]; unfold scanBound; omega) fun h' tk hS keep => ?_
  refine PyProof.Rows.args_nil ?_
  rw [hl] at hS
  have few := SN.dif_len xs xs.length
  obtain ⟨o, es, ep, t, ho, hex, hd, _, _, _, hf, hn⟩ := hS
  have I2 : Inv X pins σ H1 { s1 with heap := h', toks := tk } := I1.kept fun b o e => keep b o (Heap.lt_size e) e
  exact call_len_set ho hex hd hf (by rw [hn] <;> omega) ⟨.int (SN.dif xs xs.length).length, H1, I2.tok _, ⟨_, by rw [hn]⟩, q1⟩
end L2
set_option maxHeartbeats 200000
/-! repr of data -/
namespace Pw
open PySem PySem.Spec PyProof.Rows L2
/-! ### how long a text is -/
mutual
def cost : PyData → Nat
  | .none => 5
  | .bool _ => 5
  | .int i => i.natAbs.log2 + 2
  | .str x => (reprText x).length
  | .list xs => costAll xs + 4
  | .tuple xs => costAll xs + 4
  | .dict kvs => (dictText (PyData.shownKv kvs)).length
def costAll : List PyData → Nat
  | [] => 0
  | x :: xs => cost x + 2 + costAll xs
end
theorem textFrom_le : ∀ (ts : List Str) (k : Nat) (acc : Str), (textFrom k acc ts).length ≤ acc.length + piled ts
  | [], k, acc => Nat.le_add_right _ _
  | t :: r, k, acc => by
    have ih := textFrom_le r (k + 1) (acc ++ (if k > 0 then ", " else "" : String) ++ t)
    have sep : ((if k > 0 then ", " else "" : String) : Str).length ≤ 2 := by
      split <;> decide +kernel
    rw [strLen_append, strLen_append] at ih
    rw [piled_cons]
    show (textFrom (k + 1) _ r).length ≤ _
    omega
theorem listText_le (ts : List Str) : (listText ts).length ≤ piled ts + 2 := by
  unfold listText
  rw [strLen_append]
  have h := textFrom_le ts 0 "["
  have e1 : (("[" : String) : Str).length = 1 := rfl
  have e2 : (("]" : String) : Str).length = 1 := rfl
  rw [e1] at h
  rw [e2]
  omega
theorem tupleText_le (ts : List Str) : (tupleText ts).length ≤ piled ts + 4 := by
  unfold tupleText
  rw [strLen_append, strLen_append]
  have e1 : (("(" : String) : Str).length = 1 := rfl
  have e2 : ((if ts.length == 1 then ",)" else ")" : String) : Str).length ≤ 2 := by
    split <;> decide +kernel
  rw [e1]
  by_cases h : ts = []
  · subst h
    have e3 : (Str.join ", " []).length = 0 := rfl
    rw [e3]
    omega
  · have := join_length_add ts h
    omega
mutual
theorem shown_le : ∀ d : PyData, d.shown.length ≤ cost d
  | .none => by decide +kernel
  | .bool b => by cases b <;> decide +kernel
  | .int i => by
    show (Str.ofString (toString i)).length ≤ i.natAbs.log2 + 2
    have h := int_text_length_le (a := i) (k := i.natAbs.log2 + 1) (Nat.succ_pos _) (Nat.lt_succ_self _)
    have e := PySem.ofString_length (toString i)
    rw [e]
    exact h
  | .str x => Nat.le_refl _
  | .list xs => by
    have h := shownAll_le xs
    have g := listText_le (PyData.shownAll xs)
    show (listText (PyData.shownAll xs)).length ≤ costAll xs + 4
    omega
  | .tuple xs => by
    have h := shownAll_le xs
    have g := tupleText_le (PyData.shownAll xs)
    show (tupleText (PyData.shownAll xs)).length ≤ costAll xs + 4
    omega
  | .dict kvs => Nat.le_refl _
theorem shownAll_le : ∀ xs : List PyData, piled (PyData.shownAll xs) ≤ costAll xs
  | [] => Nat.le_refl _
  | x :: xs => by
    have h1 := shown_le x
    have h2 := shownAll_le xs
    show piled (x.shown :: PyData.shownAll xs) ≤ cost x + 2 + costAll xs
    rw [piled_cons]
    omega
end
/-! ### its signs are signs -/
mutual
def okS : PyData → Bool
  | .none => true
  | .bool _ => true
  | .int _ => true
  | .str x => PyData.strOk (reprText x)
  | .list xs => okAll xs
  | .tuple xs => okAll xs
  | .dict kvs => kvs.isEmpty
def okAll : List PyData → Bool
  | [] => true
  | x :: xs => okS x && okAll xs
end
theorem ok_app {x y : Str} (h1 : PyData.strOk x = true) (h2 : PyData.strOk y = true) : PyData.strOk (x ++ y) = true := by
  unfold PyData.strOk at *
  show (x.cps ++ y.cps).all _ = true
  rw [Array.all_append, h1, h2]
  rfl
theorem ok_lit (s : String) : PyData.strOk (Str.ofString s) = true := by
  rw [Str.ofString_eq_toList]
  unfold PyData.strOk
  show (s.toList.map Char.toNat).toArray.all _ = true
  rw [List.all_toArray, List.all_map, List.all_eq_true]
  intro c _
  refine decide_eq_true ?_
  show c.val.toNat < 0x110000
  rcases c.valid with h | ⟨_, h⟩
  · exact Nat.lt_trans h (by decide)
  · exact h
theorem ok_from : ∀ (ts : List Str) (k : Nat) (acc : Str), PyData.strOk acc = true → (∀ t ∈ ts, PyData.strOk t = true) → PyData.strOk (textFrom k acc ts) = true
  | [], _, _, h, _ => h
  | t :: r, k, acc, h, hr => ok_from r (k + 1) _ (ok_app (ok_app h (ok_lit _)) (hr t List.mem_cons_self)) fun u hu => hr u (List.mem_cons_of_mem _ hu)
theorem ok_join : ∀ ts : List Str, (∀ t ∈ ts, PyData.strOk t = true) → PyData.strOk (Str.join ", " ts) = true
  | [], _ => by decide +kernel
  | [x], h => h x List.mem_cons_self
  | x :: y :: r, h => ok_app (ok_app (h x List.mem_cons_self) (ok_lit _)) (ok_join (y :: r) fun u hu => h u (List.mem_cons_of_mem _ hu))
mutual
theorem shown_ok : ∀ d : PyData, okS d = true → PyData.strOk d.shown = true
  | .none, _ => ok_lit _
  | .bool b, _ => by cases b <;> exact ok_lit _
  | .int i, _ => ok_lit _
  | .str x, h => h
  | .list xs, h => ok_app (ok_from _ _ _ (ok_lit _) (shownAll_ok xs h)) (ok_lit _)
  | .tuple xs, h => ok_app (ok_app (ok_lit _) (ok_join _ (shownAll_ok xs h))) (ok_lit _)
  | .dict [], _ => by decide +kernel
theorem shownAll_ok : ∀ xs : List PyData, okAll xs = true → ∀ t ∈ PyData.shownAll xs, PyData.strOk t = true
  | [], _, t, h => by cases h
  | x :: xs, h, t, ht => by
    have h' : (okS x && okAll xs) = true := h
    rw [Bool.and_eq_true] at h'
    have ht' : t ∈ x.shown :: PyData.shownAll xs := ht
    rcases List.mem_cons.mp ht' with e | e
    · rw [e]
      exact shown_ok x h'.1
    · exact shownAll_ok xs h'.2 t e
end
/-! ### the rule -/
mutual
theorem Dv.dp {K : PySem.W.Frag} {H : Hp} : ∀ {d : PyData} {v : V}, Dv K H v d → d.hasDict = false → Dp K H v d
  | .none, _, h, _ => by cases h; exact .non
  | .bool _, _, h, _ => by cases h; exact .bl _
  | .int _, _, h, _ => by cases h; exact .int _
  | .str _, _, h, _ => by cases h; exact .str _
  | .list ds, _, h, e => by
    cases h with
    | lst h1 hz h2 => exact .lst (SqL.of h1) (DvAll.dp h2 (by rw [PyData.hasDict] at e; exact e))
  | .tuple ds, _, h, e => by
    cases h with
    | tup h1 hz h2 => exact .tup (SqT.of h1) (DvAll.dp h2 (by rw [PyData.hasDict] at e; exact e))
  | .dict _, _, h, e => by
    rw [PyData.hasDict] at e
    cases e
theorem DvAll.dp {K : PySem.W.Frag} {H : Hp} : ∀ {ds : List PyData} {vs : List V}, DvAll K H vs ds → PyData.hasDictAll ds = false → DpAll K H vs ds
  | [], _, h, _ => by cases h; exact .nil
  | d :: ds, _, h, e => by
    cases h with
    | cons h1 h2 =>
      rw [PyData.hasDictAll, Bool.or_eq_false_iff] at e
      exact .cons (Dv.dp h1 e.1) (DvAll.dp h2 e.2)
end
/-- what may be told by repr here -/
structure Tells (d : PyData) : Prop where
  dct : d.hasDict = false ∨ d = .dict []
  showable : d.showable = true
  depth : d.depth ≤ 60
  cost : cost d ≤ 1000000
  oks : okS d = true
section
variable {X : Cx} {pins : List (Addr × Obj)} {σ : L2.St} {H : Hp} {s : Shared}
theorem Dv.reads (I : Inv X pins σ H s) {d : PyData} {v : V} {u : Value} (h : Dv X.K H v d) (r : L2.RelV v u) (t : d.hasDict = false ∨ d = .dict []) : ∃ as, Reads s.heap u d as ∧ (d.hasDict = true → sysModules ∉ as) := by
  rcases t with t | rfl
  · obtain ⟨as, q⟩ := Dp.reads I d v u (h.dp t) r
    exact ⟨as, q, fun z => by rw [t] at z; cases z⟩
  · cases h with
    | dct e =>
      cases r
      obtain ⟨_, ns, vs, kv, o, es, ep, e1, e2, e3, e4, e5, e6⟩ := (show ObjOk X.prog X.w H s.heap _ (.dK []) from I.hok _ _ e)
      cases kv
      have e7 : es.toList = [] := by
        cases hes : es.toList with
        | nil => rfl
        | cons x y =>
          rw [hes] at e5
          cases e5
      refine ⟨_, Reads.dict e1 e2.1 e3 (as := []) (bs := []) (kvs := []) (by rw [e7]; exact ReadsAll.nil) (by rw [e7]; exact ReadsAll.nil), fun _ hm => ?_⟩
      rw [List.append_nil, List.mem_singleton] at hm
      rw [hm] at ns
      simp at ns
theorem call_reprD (hg : X.A.guards = some []) (hu : X.A.units + 64 < cLine) : CallR X (.builtin "repr") (fun xs H Q => ∃ v d, xs = [v] ∧ Dv X.K H v d ∧ Tells d ∧ Q (.str d.shown) H) := by
  intro pins s σ H xs us Q I r h
  obtain ⟨v, d, rfl, hd, t, q⟩ := h
  obtain ⟨u, rfl, rv⟩ := vals1 r
  have sz : d.shown.length ≤ sizeLine := by
    have h1 := shown_le d
    have h2 := t.cost
    have h3 : (1000000 : Nat) ≤ sizeLine := by decide
    omega
  have fin : ∀ (h' : Heap) (u' : Tok) (tk : Nat), (∀ b o, s.heap.get? b = some o → h'.get? b = some o) → EP X pins σ Q (.str d.shown u') { s with heap := h', toks := tk } := fun h' u' tk keep => ⟨.str d.shown, H, I.kept keep, ⟨_, rfl⟩, q⟩
  have leaf : ∀ tk u', EP X pins σ Q (.str d.shown u') { s with toks := tk } := fun tk u' => fin s.heap u' tk fun _ _ e => e
  have ref : ∀ a, u = .ref a → wpAny (model X.prog X.w) X.A (call (.builtin "repr") [u]) (EP X pins σ Q) X.xe s := fun a e => by
    subst e
    obtain ⟨as, rd, hsm⟩ := hd.reads I rv t.dct
    exact repr_of_reads' rd t.showable hsm hg (by have := t.depth; omega) (fun _ _ e => e) (fun h' u' tk keep => fin h' u' tk keep) sz
  cases hd with
  | non =>
    cases rv
    exact PySem.P.repr_of_none (leaf _ _)
  | bl b =>
    cases rv
    refine PySem.P.repr_of_bool ?_
    cases b <;> exact leaf _ _
  | int i =>
    obtain ⟨tk, rfl⟩ := rv
    refine PySem.P.repr_of_int ?_ (leaf _ _)
    have := t.showable
    simpa [PyData.showable] using this
  | str x =>
    obtain ⟨tk, rfl⟩ := rv
    exact PySem.P.repr_of_str (leaf _ _) sz
  | lst _ _ _ => exact ref _ rv
  | tup _ _ _ => exact ref _ rv
  | dct _ => exact ref _ rv
end
end Pw
set_option maxHeartbeats 2000000
/-! a net with its places: in, len, == -/
namespace Pw
open PySem PySem.Spec PyProof.Rows L2 Own
abbrev sNetEq : Stmt := netM 1
abbrev sNetLen : Stmt := netM 2
abbrev sNetHas : Stmt := netM 3
theorem scNetEq : FnScope ["self", "other"] ["self", "other"] (defScope sNetEq) := ⟨rfl, rfl, rfl, by decide +kernel, rfl, by decide +kernel, by decide +kernel⟩
theorem scNetLen : FnScope ["self"] ["self"] (defScope sNetLen) := ⟨rfl, rfl, rfl, by decide +kernel, rfl, by decide +kernel, by decide +kernel⟩
theorem scNetHas : FnScope ["self", "name"] ["self", "name"] (defScope sNetHas) := ⟨rfl, rfl, rfl, by decide +kernel, rfl, by decide +kernel, by decide +kernel⟩
/-- what isinstance and != ask of the class -/
structure ClsTy (K : PySem.W.Frag) (C : Addr) : Prop where
  ha : PySem.W.findIn K (.ref C) "__class__" = some (some (.builtin "object.__class__"))
  hn : PySem.W.specialIn K (.builtin "object.__class__") "__get__" = some (some (.builtin "getset_descriptor.__get__"))
  ht : PySem.W.takesIn K (.builtin "object.__class__") = some true
  hm : PySem.W.mroIn K C (.type "object") = some true
  ne : PySem.W.findIn K (.ref C) "__ne__" = some (some (.builtin "object.__ne__"))
  self : PySem.W.kitOne K (.ref C) (.ref C) = some true
structure NetF (K : PySem.W.Frag) (H : Hp) (C a pd : Addr) (ns : List Nd) : Prop where
  at_ : ∃ (dx : Addr) (v : V), H a = some (.ins C dx (netFs v pd)) ∧ Dv K H v (.list (ns.map Nd.dat))
  pl : H pd = some (kiO (placesN 0 ns))
  wired : Wired [] ns
  some_ : 1 ≤ ns.length
  few : ns.length ≤ 30
theorem NetF.same {K : PySem.W.Frag} {H H' : Hp} {C a pd : Addr} {ns : List Nd} (h : NetF K H C a pd ns) (s : Same H H') : NetF K H' C a pd ns := by
  obtain ⟨dx, v, h1, h2⟩ := h.at_
  exact ⟨⟨dx, v, s _ _ h1, h2.same s⟩, s _ _ h.pl, h.wired, h.some_, h.few⟩
theorem NetF.net {K : PySem.W.Frag} {H : Hp} {C a pd : Addr} {ns : List Nd} (h : NetF K H C a pd ns) : NetAt K H C a ns := by
  obtain ⟨dx, v, h1, h2⟩ := h.at_
  exact ⟨dx, _, v, h1, rfl, rfl, h2, h.wired, h.some_, h.few⟩
theorem NetNew.full {K : PySem.W.Frag} {H H' : Hp} {C x : Addr} {ns : List Nd} (h : NetNew K H H' C x ns) : ∃ pd, NetF K H' C x pd ns ∧ H pd = none := by
  obtain ⟨dx, v, pd, h1, h2, h3, h4⟩ := h.at_
  exact ⟨pd, ⟨⟨dx, v, h1, h4.same newOf_same⟩, h2, h.wired, h.some_, h.few⟩, h3⟩
def hasName (ns : List Nd) (d : PyData) : Bool := match d with
  | .str s => ns.any fun n => decide (n.name = s)
  | _ => false
theorem places_has (s : Str) : ∀ (k : Nat) (ns : List Nd), ((placesN k ns).lookup s).isSome = ns.any fun n => decide (n.name = s)
  | _, [] => rfl
  | k, n :: r => by
    show (List.lookup s ((n.name, (k : Int)) :: placesN (k + 1) r)).isSome = _
    rw [List.lookup_cons, List.any_cons, ← places_has s (k + 1) r]
    by_cases e : n.name = s
    · rw [decide_eq_true e, beq_iff_eq.mpr e.symm]
      rfl
    · rw [decide_eq_false e, beq_eq_false_iff_ne.mpr (fun z => e z.symm)]
      rfl
section
variable {P : Program} {w : World} {K : PySem.W.Frag} {mg : Str → Option Value} {base : Heap} {C : Addr}
def spHas (K : PySem.W.Frag) (C : Addr) : Sp := fun vs H Q _ => ∃ (a pd : Addr) (ns : List Nd) (x : V) (d : PyData), vs = [.ref a, x] ∧ NetF K H C a pd ns ∧ Dv K H x d ∧ Q (.bl (hasName ns d)) H
theorem fn_has (B : Blt mg) (c : Cls K C) (n2 : NoAttr K C "_places") {f : Addr} {fd : FuncData} (F : Fun K "__contains__" "Net.__contains__" sNetHas f fd) : FnOk P w K mg base CX0 1 f fd ["self", "name"] (spHas K C) := by
  refine F.ok scNetHas (fun vs H Q E h => ?_) (fun cdv A outer s H vs Q E hr h => ?_)
  · obtain ⟨a, pd, ns, x, d, rfl, _⟩ := h
    rfl
  · obtain ⟨a, pd, ns, x, d, rfl, N, hx, q⟩ := h
    have hu := Nat.lt_of_le_of_lt (Nat.add_le_add_left (by decide : 1 ≤ 64) _) hr.units
    obtain ⟨dx, v, h1, h2⟩ := N.at_
    refine ⟨_, pss_one (ps_ret (pe_and (pe_isi B.isi (pa_cons (pv 1) (pa_cons (pe_cls (n := "str") "str" B.str) pa_nil))) (pe_one (pe_cmp (pc_din hu (pv 1) (pe_fld (pv 0) (by rfl))) (by rfl))))), ?_⟩
    refine ⟨x, rfl, _, _, _, _, _, rfl, .ty "str", hx.ty, kit_ty (isa_str d), _, rfl, ite2 (fun e => ?_) (fun e => ?_)⟩
    · cases hx with
      | str z =>
        have g := DGet.k (k := .inr z) N.pl
        rw [valV_words] at g
        refine ⟨_, rfl, _, rfl, a, C, dx, _, _, rfl, h1, c, n2, rfl, pd, _, rfl, g, ?_⟩
        have e2 : (((placesN 0 ns).lookup z).map V.int).isSome = hasName ns (.str z) := by
          rw [Option.isSome_map]
          exact places_has z 0 ns
        exact Qb e2 q
      | _ => cases e
    · have e2 : false = hasName ns d := by
        cases d <;> first | rfl | exact absurd rfl e
      exact Qb e2 q
def spLenN (K : PySem.W.Frag) (C : Addr) : Sp := fun vs H Q _ => ∃ (a pd : Addr) (ns : List Nd), vs = [.ref a] ∧ NetF K H C a pd ns ∧ Q (.int ns.length) H
theorem fn_len (B : Blt mg) (c : Cls K C) (n1 : NoAttr K C "_nodes") {f : Addr} {fd : FuncData} (F : Fun K "__len__" "Net.__len__" sNetLen f fd) : FnOk P w K mg base CX0 1 f fd ["self"] (spLenN K C) := by
  refine F.ok scNetLen (fun vs H Q E h => ?_) (fun cdv A outer s H vs Q E hr h => ?_)
  · obtain ⟨a, pd, ns, rfl, _⟩ := h
    rfl
  · obtain ⟨a, pd, ns, rfl, N, q⟩ := h
    obtain ⟨dx, v, h1, h2⟩ := N.at_
    refine ⟨_, pss_one (ps_ret (pe_callB call_len_seq (by rfl) B.len PySem.boot_len (pa_cons (pe_fld (pv 0) (by rfl)) pa_nil))), ?_⟩
    cases h2 with
    | @lst l xs ds hl hz hds =>
      refine ⟨_, rfl, a, C, dx, _, .ref l, rfl, h1, c, n1, rfl, l, xs, rfl, .inl (SqL.of hl), ?_⟩
      rw [show xs.length = ns.length by rw [hds.length, List.length_map]]
      exact q
def spEqN (K : PySem.W.Frag) (C : Addr) : Sp := fun vs H Q _ => ∃ (a b pd pe : Addr) (ns ms : List Nd), vs = [.ref a, .ref b] ∧ NetF K H C a pd ns ∧ NetF K H C b pe ms ∧
  SeqAt.shaped (.list (ns.map Nd.dat)) = true ∧ SeqAt.shaped (.list (ms.map Nd.dat)) = true ∧ PyData.hasDict (.list (ns.map Nd.dat)) = false ∧ PyData.hasDict (.list (ms.map Nd.dat)) = false ∧ Q (.bl (PyData.eqv (.list (ns.map Nd.dat)) (.list (ms.map Nd.dat)))) H
theorem fn_eq (B : Blt mg) (c : Cls K C) (n1 : NoAttr K C "_nodes") (gC : mg "Net" = some (.ref C)) (T : ClsTy K C) {f : Addr} {fd : FuncData} (F : Fun K "__eq__" "Net.__eq__" sNetEq f fd) : FnOk P w K mg base CX0 1 f fd ["self", "other"] (spEqN K C) := by
  refine F.ok scNetEq (fun vs H Q E h => ?_) (fun cdv A outer s H vs Q E hr h => ?_)
  · obtain ⟨a, b, pd, pe, ns, ms, rfl, _⟩ := h
    rfl
  · obtain ⟨a, b, pd, pe, ns, ms, rfl, N, M, s1, s2, nd1, nd2, q⟩ := h
    obtain ⟨dx, v, h1, h2⟩ := N.at_
    obtain ⟨dy, u, k1, k2⟩ := M.at_
    refine ⟨_, pss_one (ps_ret (pe_and (pe_isi B.isi (pa_cons (pv 1) (pa_cons (pe_glob (v := .ref C) rfl gC rfl) pa_nil))) (pe_one (pe_cmpR (op_eqD hr.units) (pe_fld (pv 0) (by rfl)) (pe_fld (pv 1) (by rfl)) (nomark _))))), ?_⟩
    refine ⟨_, rfl, .ref b, .ref C, .ref C, .ref C, true, rfl, .own C, .base (.ins k1 c T.ha T.hn T.ht T.hm), T.self, _, rfl, ?_⟩
    rw [if_pos rfl]
    exact ⟨_, rfl, a, C, dx, _, v, rfl, h1, c, n1, rfl, _, rfl, b, C, dy, _, u, rfl, k1, c, n1, rfl, _, _, h2.dp nd1, k2.dp nd2, s1, s2, q⟩
end
end Pw
set_option maxHeartbeats 2000000
/-! values that are handed in as new names; is_renaming -/
namespace Pw
open PySem PySem.Spec PyProof.Rows L2 Own
abbrev sIsRen : Stmt := topS 58
theorem scIsRen : FnScope ["net", "value", "name"] ["net", "value"] (defScope sIsRen) := ⟨rfl, rfl, rfl, by decide +kernel, rfl, by decide +kernel, by decide +kernel⟩
/-- a value: data without a dict, or a dict of such -/
inductive Nm where
  | dat (d : PyData)
  | dct (es : List (Key × PyData))
inductive KvAll (K : PySem.W.Frag) (H : Hp) : List (Key × V) → List (Key × PyData) → Prop
  | nil : KvAll K H [] []
  | cons {k : Key} {v : V} {d : PyData} {vs : List (Key × V)} {ds : List (Key × PyData)} : Dv K H v d → KvAll K H vs ds → KvAll K H ((k, v) :: vs) ((k, d) :: ds)
inductive NmV (K : PySem.W.Frag) (H : Hp) : V → Nm → Prop
  | dat {v : V} {d : PyData} : Dv K H v d → dpB 5 d = true → NmV K H v (.dat d)
  | dct {a : Addr} {kvs : List (Key × V)} {es : List (Key × PyData)} : H a = some (.dK kvs) → KvAll K H kvs es → NmV K H (.ref a) (.dct es)
theorem KvAll.same {K : PySem.W.Frag} {H H' : Hp} (s : Same H H') : ∀ {es : List (Key × PyData)} {kvs : List (Key × V)}, KvAll K H kvs es → KvAll K H' kvs es
  | [], _, h => by cases h; exact .nil
  | _ :: _, _, h => by
    cases h with
    | cons h1 h2 => exact .cons (h1.same s) (h2.same s)
theorem NmV.same {K : PySem.W.Frag} {H H' : Hp} (s : Same H H') {v : V} {nm : Nm} (h : NmV K H v nm) : NmV K H' v nm := by
  cases h with
  | dat h1 h2 => exact .dat (h1.same s) h2
  | dct h1 h2 => exact .dct (s _ _ h1) (h2.same s)
theorem KvAll.length {K : PySem.W.Frag} {H : Hp} : ∀ {es : List (Key × PyData)} {kvs : List (Key × V)}, KvAll K H kvs es → kvs.length = es.length
  | [], _, h => by cases h; rfl
  | _ :: _, _, h => by
    cases h with
    | cons h1 h2 => rw [List.length_cons, List.length_cons, h2.length]
theorem KvAll.getV {K : PySem.W.Frag} {H : Hp} : ∀ {es : List (Key × PyData)} {kvs : List (Key × V)} {i : Nat} {k : Key} {v : V}, KvAll K H kvs es → kvs[i]? = some (k, v) → ∃ d, es[i]? = some (k, d) ∧ Dv K H v d
  | [], _, _, _, _, h, e => by
    cases h
    simp at e
  | _ :: _, _, 0, _, _, h, e => by
    cases h with
    | cons h1 h2 =>
      simp at e
      obtain ⟨rfl, rfl⟩ := e
      exact ⟨_, rfl, h1⟩
  | _ :: _, _, i + 1, _, _, h, e => by
    cases h with
    | cons h1 h2 => exact KvAll.getV (i := i) h2 (by simpa using e)
theorem KvAll.keys {K : PySem.W.Frag} {H : Hp} : ∀ {es : List (Key × PyData)} {kvs : List (Key × V)}, KvAll K H kvs es → kvs.map (·.1) = es.map (·.1)
  | [], _, h => by cases h; rfl
  | _ :: _, _, h => by
    cases h with
    | cons h1 h2 => rw [List.map_cons, List.map_cons, h2.keys]
/-! data that is no dict does not use one -/
mutual
theorem Dv.off {K : PySem.W.Frag} {H : Hp} {b : Addr} {kvs : List (Key × V)} (e : H b = some (.dK kvs)) : ∀ {n : Nat} {d : PyData} {v : V}, Dv K H v d → dpB n d = true → Dv K (hid b H) v d
  | _ + 1, .none, _, h, _ => by cases h; exact .non
  | _ + 1, .bool _, _, h, _ => by cases h; exact .bl _
  | _ + 1, .int _, _, h, _ => by cases h; exact .int _
  | _ + 1, .str _, _, h, _ => by cases h; exact .str _
  | n + 1, .list ds, _, h, z => by
    cases h with
    | @lst a _ _ h1 hz h2 =>
      have ab : a ≠ b := fun q => by
        rw [q, e] at h1
        cases h1
      exact .lst (by rw [hid_ne ab]; exact h1) hz (DvAll.off e (n := n) h2 z)
  | n + 1, .tuple ds, _, h, z => by
    cases h with
    | @tup a _ _ h1 hz h2 =>
      have ab : a ≠ b := fun q => by
        rw [q, e] at h1
        cases h1
      exact .tup (by rw [hid_ne ab]; exact h1) hz (DvAll.off e (n := n) h2 z)
  | _ + 1, .dict _, _, _, z => by cases z
theorem DvAll.off {K : PySem.W.Frag} {H : Hp} {b : Addr} {kvs : List (Key × V)} (e : H b = some (.dK kvs)) : ∀ {n : Nat} {ds : List PyData} {vs : List V}, DvAll K H vs ds → ds.all (dpB n) = true → DvAll K (hid b H) vs ds
  | _, [], _, h, _ => by cases h; exact .nil
  | n, d :: ds, _, h, z => by
    cases h with
    | cons h1 h2 =>
      rw [List.all_cons, Bool.and_eq_true] at z
      exact .cons (Dv.off e h1 z.1) (DvAll.off e h2 z.2)
end
theorem KvAll.off {K : PySem.W.Frag} {H : Hp} {b : Addr} {kws : List (Key × V)} (e : H b = some (.dK kws)) : ∀ {es : List (Key × PyData)} {kvs : List (Key × V)}, KvAll K H kvs es → (es.all fun p => dpB 5 p.2) = true → KvAll K (hid b H) kvs es
  | [], _, h, _ => by cases h; exact .nil
  | _ :: _, _, h, z => by
    cases h with
    | cons h1 h2 =>
      rw [List.all_cons, Bool.and_eq_true] at z
      exact .cons (Dv.off e h1 z.1) (h2.off e z.2)
theorem dv_key {K : PySem.W.Frag} {H : Hp} (k : Key) : Dv K H (kV k) (match k with | .inl i => .int i | .inr s => .str s) := by
  cases k with
  | inl i => exact .int i
  | inr s => exact .str s
def keyD : Key → PyData
  | .inl i => .int i
  | .inr s => .str s
theorem dv_keyD {K : PySem.W.Frag} {H : Hp} (k : Key) : Dv K H (kV k) (keyD k) := by
  cases k with
  | inl i => exact .int i
  | inr s => exact .str s
theorem val_at : ∀ {kvs : List (Key × V)} {i : Nat} {k : Key} {v : V}, (kvs.map (·.1)).Nodup → kvs[i]? = some (k, v) → valV kvs k = some v
  | (k0, v0) :: r, 0, k, v, _, e => by
    simp at e
    obtain ⟨rfl, rfl⟩ := e
    unfold valV
    rw [List.find?_cons, decide_eq_true rfl]
    rfl
  | (k0, v0) :: r, i + 1, k, v, nd, e => by
    have e2 : r[i]? = some (k, v) := by simpa using e
    rw [List.map_cons, List.nodup_cons] at nd
    have ne : ¬ k0 = k := fun q => nd.1 (by
      rw [show (k0, v0).1 = k from q]
      exact List.mem_map.mpr ⟨(k, v), List.mem_of_getElem? e2, rfl⟩)
    have ih := val_at nd.2 e2
    unfold valV at ih ⊢
    rw [List.find?_cons]
    show Option.map _ (match decide (k0 = k) with | true => some (k0, v0) | false => _) = some v
    rw [decide_eq_false ne]
    exact ih
  | [], i, k, v, _, e => by simp at e
/-- the words of a dict's values -/
def wordOf : PyData → Str
  | .str s => s
  | _ => Str.empty
def wordsIn (es : List (Key × PyData)) : List Str := es.map fun p => wordOf p.2
def isRen (ns : List Nd) : Nm → Bool
  | .dat _ => false
  | .dct es => decide (es.length = ns.length) && ((es.all fun p => hasName ns (keyD p.1)) && (es.all fun p => isName p.2) && decide ((SN.dif (wordsIn es) (wordsIn es).length).length = es.length))
/-- not too large, no key twice -/
def okNm : Nm → Bool
  | .dat _ => true
  | .dct es => decide (es.length ≤ 15) && ((es.all fun p => dpB 5 p.2) && (es.all fun p => smB p.2)) && decide ((es.map (·.1)).Nodup)
def isDict : PyData → Bool
  | .dict _ => true
  | _ => false
theorem isa_dict (d : PyData) : kitB (tyName d) "dict" = some (isDict d) := by
  cases d
  · exact (by decide +kernel : kitB "NoneType" "dict" = some false)
  · exact (by decide +kernel : kitB "bool" "dict" = some false)
  · exact (by decide +kernel : kitB "int" "dict" = some false)
  · exact (by decide +kernel : kitB "str" "dict" = some false)
  · exact (by decide +kernel : kitB "list" "dict" = some false)
  · exact (by decide +kernel : kitB "tuple" "dict" = some false)
  · exact (by decide +kernel : kitB "dict" "dict" = some true)
theorem dict_dict : kitB "dict" "dict" = some true := by decide +kernel
end Pw
set_option maxHeartbeats 4000000
/-! is_renaming -/
namespace Pw
open PySem PySem.Spec PyProof.Rows L2 Own
/-- what the class Net has, further -/
structure NetOps (P : Program) (w : World) (K : PySem.W.Frag) (mg : Str → Option Value) (base : Heap) (C : Addr) : Prop where
  T : ClsTy K C
  has : ∃ f fd, Meth K C "__contains__" f ∧ FnOk P w K mg base CX0 1 f fd ["self", "name"] (spHas K C) ∧ Binds K fd ["self", "name"] []
  len : ∃ f fd, Meth K C "__len__" f ∧ FnOk P w K mg base CX0 1 f fd ["self"] (spLenN K C) ∧ Binds K fd ["self"] []
  eq : ∃ f fd, Meth K C "__eq__" f ∧ FnOk P w K mg base CX0 1 f fd ["self", "other"] (spEqN K C) ∧ Binds K fd ["self", "other"] []
theorem no_if {c : Bool} {A B : Prop} (hc : c = false) (h : B) : if c = true then A else B := by
  rw [hc, if_neg Bool.false_ne_true]
  exact h
theorem yes_if {c : Bool} {A B : Prop} (hc : c = true) (h : A) : if c = true then A else B := by
  rw [hc, if_pos rfl]
  exact h
theorem lockE_of {t : TE} {σ : L2.St} {H : Hp} {Q : VK} (d : Addr) (u : HO) (hd : H d = some u) (m : Mut (some u)) (h : ∀ od, t σ (upd H d (.frz od u)) fun v H' => H' d = some (.frz od u) ∧ Q v (upd H' d u)) : tLockE t σ H Q := ⟨d, u, hd, m, h⟩
/-- what is the same but at d, where it is put back -/
theorem same_back {H H' : Hp} {d : Addr} {u : HO} {od : Obj} (hd : H d = some u) (s : Same (upd H d (.frz od u)) H') : Same H (upd H' d u) := fun b o e => by
  by_cases q : b = d
  · rw [q, upd_same]
    rw [q, hd] at e
    exact e
  · rw [upd_ne q]
    exact s b o (by rw [upd_ne q]; exact e)
theorem same_frz {H : Hp} {d : Addr} {o : HO} : Same (hid d H) (upd H d o) := fun b x e => by
  rw [upd_ne (hid_of e).1]
  exact (hid_of e).2
section
variable {P : Program} {w : World} {K : PySem.W.Frag} {mg : Str → Option Value} {base : Heap} {C : Addr}
def spIsRen (K : PySem.W.Frag) (C : Addr) : Sp := fun vs H Q _ => ∃ (a pd : Addr) (ns : List Nd) (v : V) (nm : Nm), vs = [.ref a, v] ∧ NetF K H C a pd ns ∧ NmV K (hid pd H) v nm ∧ okNm nm = true ∧ ∀ H', Same H H' → Q (.bl (isRen ns nm)) H'
theorem dat_notDict {d : PyData} (h : dpB 5 d = true) : isDict d = false := by
  cases d <;> first | rfl | cases h
theorem wired_nodict {ns : List Nd} (w : Wired [] ns) : dpB 10 (.list (ns.map Nd.dat)) = true := dp_nodes w
theorem NetF.frz {H : Hp} {a pd d : Addr} {ns : List Nd} {kvs : List (Key × V)} {od : Obj} (N : NetF K H C a pd ns) (hd : H d = some (.dK kvs)) (ne : d ≠ pd) : NetF K (upd H d (.frz od (.dK kvs))) C a pd ns := by
  obtain ⟨dx, v, h1, h2⟩ := N.at_
  have ad : a ≠ d := fun q => by
    rw [q, hd] at h1
    cases h1
  refine ⟨⟨dx, v, by rw [upd_ne ad]; exact h1, (Dv.off hd h2 (dp_nodes N.wired)).same same_frz⟩, ?_, N.wired, N.some_, N.few⟩
  rw [upd_ne (fun q => ne q.symm)]
  exact N.pl
theorem ok_isRen (B : Blt mg) (bD : mg "dict" = none) (bS : mg "set" = none) (N0 : NetOps P w K mg base C) (G : DefOk P w K mg base CX0 1 "is_name" ["value"] (spName K)) (D : Dfn K mg "is_renaming" sIsRen ["net", "value"]) : DefOk P w K mg base CX0 3 "is_renaming" ["net", "value"] (spIsRen K C) := D.ok fun f fd F => by
  refine F.ok scIsRen (fun vs H Q E h => ?_) (fun cdv A outer s H vs Q E hr h => ?_)
  · obtain ⟨a, pd, ns, v, nm, rfl, _⟩ := h
    rfl
  · obtain ⟨a, pd, ns, v, nm, rfl, N, hv, ok, q⟩ := h
    have nd := scIsRen.nd
    have hu := Nat.lt_of_le_of_lt (Nat.add_le_add_left (by decide : 1 ≤ 64) _) hr.units
    obtain ⟨f1, fd1, m1, F1, b1⟩ := N0.has
    obtain ⟨f2, fd2, m2, F2, b2⟩ := N0.len
    obtain ⟨dx, v0, hN1, hN2⟩ := N.at_
    refine ⟨_, pss_cons (ps_if (PW.pt (pw_or (pt_not (pt_val (pe_isi B.isi (pa_cons (pv 1) (pa_cons (pe_cls (n := "dict") "dict" bD) pa_nil)))))
        (pw_or1 (pt_cmpR op_ne (pe_callB call_lenD (by rfl) B.len PySem.boot_len (pa_cons (pv 1) pa_nil)) (pe_callB (call_lenOwn m2 F2 (hr.mono (by decide)) b2 pass0) (by rfl) B.len PySem.boot_len (pa_cons (pv 0) pa_nil)) (nomark _))))) (pss_one (ps_ret pe_bl)) pss_nil)
      (pss_cons (ps_if (PW.pt (pw_or (pt_not (pt_val (pe_lock (pe_callB (cr_all rfl) (by rfl) B.all (by decide +kernel) (pa_cons
          (pe_lc (own := [("name", 2)]) (g := gName 2) (tt := tYes) rfl nd (pi_keys (pv 1)) (blkOk_by (N := ["net", "value", "name"]) (sc := defScope sIsRen) (by decide +kernel))
            (fun _ _ _ _ _ => pg_name (i := 2) nd rfl (Or.inl rfl)) (fun _ _ _ _ _ => pts_nil)
            (fun _ _ _ _ _ => pe_cmpR (op_inOwn m1 F1 (hr.mono (by decide)) b1 pass0) (pv 2) (pv 0) (by rfl))) pa_nil)))))
        (pw_or1 (pt_not (pt_val (pe_lock (pe_callB (cr_all rfl) (by rfl) B.all (by decide +kernel) (pa_cons
          (pe_lc (own := [("name", 2)]) (g := gName 2) (tt := tYes) rfl nd (pi_keys (pv 1)) (blkOk_by (N := ["net", "value", "name"]) (sc := defScope sIsRen) (by decide +kernel))
            (fun _ _ _ _ _ => pg_name (i := 2) nd rfl (Or.inl rfl)) (fun _ _ _ _ _ => pts_nil)
            (fun _ _ _ _ _ => pe_def G hr pass0 (pa_cons (pe_dget hu (pv 1) (pv 2) (fun _ _ => rfl)) pa_nil))) pa_nil))))))))
        (pss_one (ps_ret pe_bl)) pss_nil)
      (pss_one (ps_ret (pe_cmpR op_eq (pe_lenSetN rfl (by rfl) B.len (by rfl) bS (pe_lock
          (pe_lc (own := [("name", 2)]) (g := gName 2) (tt := tYes) rfl nd (pi_keys (pv 1)) (blkOk_by (N := ["net", "value", "name"]) (sc := defScope sIsRen) (by decide +kernel))
            (fun _ _ _ _ _ => pg_name (i := 2) nd rfl (Or.inl rfl)) (fun _ _ _ _ _ => pts_nil)
            (fun _ _ _ _ _ => pe_dget hu (pv 1) (pv 2) (fun _ _ => rfl)))))
        (pe_callB call_lenD (by rfl) B.len PySem.boot_len (pa_cons (pv 1) pa_nil)) (nomark _))))), ?_⟩
    cases hv with
    | @dat _ d hd hz =>
      have hd : Dv K H v d := hd.same (fun b o e => (hid_of e).2)
      refine ⟨v, rfl, _, _, _, _, _, rfl, .ty "dict", hd.ty, kit_ty (isa_dict d), _, rfl, ?_⟩
      rw [dat_notDict hz]
      exact q _ (Same.refl _)
    | @dct d kvs es hd hkv =>
      have ed := hid_of hd
      have ne : d ≠ pd := ed.1
      have hd : H d = some (.dK kvs) := ed.2
      have okk : (decide (es.length ≤ 15) && ((es.all fun p => dpB 5 p.2) && (es.all fun p => smB p.2)) && decide ((es.map (·.1)).Nodup)) = true := ok
      rw [Bool.and_eq_true, Bool.and_eq_true, Bool.and_eq_true] at okk
      obtain ⟨⟨z1, z2, z3⟩, z4⟩ := okk
      have z1 := of_decide_eq_true z1
      have z4 := of_decide_eq_true z4
      have hkv : KvAll K H kvs es := hkv.same (fun b o e => (hid_of e).2)
      have hlen := hkv.length
      have ndk : (kvs.map (·.1)).Nodup := by
        rw [hkv.keys]
        exact z4
      have hoff : KvAll K (hid d H) kvs es := hkv.off hd z2
      have lz : kvs.length < sizeLine := Nat.lt_of_le_of_lt (by omega : kvs.length ≤ 1000) (by decide)
      have hD : ∀ {b : Addr} {o : HO}, H b = some o → True := fun _ => trivial
      refine ⟨.ref d, rfl, _, _, _, _, _, rfl, .ty "dict", .base (.dK hd), kit_ty dict_dict, _, rfl, ?_⟩
      refine ⟨.ref d, rfl, d, kvs, rfl, hd, .ref a, rfl, a, dx, _, rfl, hN1, a, pd, ns, rfl, N, _, rfl, by omega, ?_, rfl, _, rfl, ?_⟩
      · have := N.few
        omega
      by_cases e1 : es.length = ns.length
      · refine no_if ?_ ?_
        · rw [hlen, e1, decide_eq_true rfl]
          rfl
        have r1 : isRen ns (.dct es) = ((es.all fun p => hasName ns (keyD p.1)) && (es.all fun p => isName p.2) && decide ((SN.dif (wordsIn es) (wordsIn es).length).length = es.length)) := by
          show (decide (es.length = ns.length) && _) = _
          rw [decide_eq_true e1, Bool.true_and]
        rw [r1] at q
        refine ⟨d, _, hd, trivial, fun od => ?_⟩
        have hd1 : upd H d (.frz od (.dK kvs)) d = some (.frz od (.dK kvs)) := upd_same
        have N1 := N.frz (od := od) hd ne
        have kv1 : KvAll K (upd H d (.frz od (.dK kvs))) kvs es := hoff.same same_frz
        refine ⟨.ref d, rfl, d, od, rfl, .inl ⟨_, hd1, fun D1 nD1 => ?_⟩⟩
        refine lc_mapW (ys := es.map fun p => V.bl (hasName ns (keyD p.1))) walk_keys nD1 (by rw [List.length_map, hlen]) lz (fun H' s' => s' _ _ hd1) (fun i x y H' H'' Q' hi e3 sm yv k => ?_) (fun H2 s2 eD => ?_)
        · obtain ⟨rfl, k0, v1, e4, rfl⟩ := yv
          obtain ⟨d1, e5, hv1⟩ := kv1.getV e4
          rw [List.getElem?_map, e5] at e3
          cases e3
          have N2 := N1.same sm
          obtain ⟨dx2, v2, g1, g2⟩ := N2.at_
          exact ⟨rfl, _, rfl, _, rfl, a, dx2, _, rfl, g1, a, pd, ns, _, keyD k0, rfl, N2, dv_keyD k0, _, rfl, k _ (Same.refl _)⟩
        · refine ⟨D1, es.map fun p => hasName ns (keyD p.1), rfl, SqL.of (by rw [eD, List.map_map]; rfl), ?_⟩
          rw [all_id]
          have sb := same_back (od := od) hd s2
          refine ⟨s2 _ _ hd1, _, rfl, ?_⟩
          have e7 : (es.map fun p => hasName ns (keyD p.1)).all (fun b => b) = es.all fun p => hasName ns (keyD p.1) := by
            rw [List.all_map]
            rfl
          cases e6 : (es.all fun p => hasName ns (keyD p.1)) with
          | false =>
            rw [e6, Bool.false_and, Bool.false_and] at q
            refine yes_if (by rfl) ?_
            exact yes_if rfl (q _ sb)
          | true =>
            rw [e6, Bool.true_and] at q
            refine no_if (by rfl) ?_
            have hd3 := sb _ _ hd
            have q3 : ∀ H', Same (upd H2 d (.dK kvs)) H' → Q (.bl ((es.all fun p => isName p.2) && decide ((SN.dif (wordsIn es) (wordsIn es).length).length = es.length))) H' := fun H' s' => q H' (sb.trans s')
            have off3 : KvAll K (hid d (upd H2 d (.dK kvs))) kvs es := (hkv.same sb).off hd3 z2
            clear q N1 kv1 hoff hkv hd1 s2 eD nD1 sb hN1 hN2 N hd
            generalize upd H2 d (.dK kvs) = H3 at hd3 q3 off3 ⊢
            clear H2
            refine ⟨d, _, hd3, trivial, fun od3 => ?_⟩
            have hd4 : upd H3 d (.frz od3 (.dK kvs)) d = some (.frz od3 (.dK kvs)) := upd_same
            have kv4 : KvAll K (upd H3 d (.frz od3 (.dK kvs))) kvs es := off3.same same_frz
            refine ⟨.ref d, rfl, d, od3, rfl, .inl ⟨_, hd4, fun D2 nD2 => ?_⟩⟩
            refine lc_mapW (ys := es.map fun p => V.bl (isName p.2)) walk_keys nD2 (by rw [List.length_map, hlen]) lz (fun H' s' => s' _ _ hd4) (fun i x y H' H'' Q' hi e3 sm yv k => ?_) (fun H5 s5 eD5 => ?_)
            · obtain ⟨rfl, k0, v1, e4, rfl⟩ := yv
              obtain ⟨d1, e5, hv1⟩ := kv4.getV e4
              rw [List.getElem?_map, e5] at e3
              cases e3
              have sm1 : smB d1 = true := List.all_eq_true.mp z3 (k0, d1) (List.mem_of_getElem? e5)
              refine ⟨rfl, .ref d, rfl, _, rfl, d, v1, rfl, .inl ⟨_, k0, .inr ⟨od3, sm _ _ hd4⟩, rfl, (val_at ndk e4).symm⟩, ?_⟩
              exact ⟨v1, d1, rfl, hv1.same sm, sm_word sm1, k⟩
            · refine ⟨D2, es.map fun p => isName p.2, rfl, SqL.of (by rw [eD5, List.map_map]; rfl), ?_⟩
              rw [all_id]
              have sb5 := same_back (od := od3) hd3 s5
              refine ⟨s5 _ _ hd4, _, rfl, ?_⟩
              have e8 : (es.map fun p => isName p.2).all (fun b => b) = es.all fun p => isName p.2 := by
                rw [List.all_map]
                rfl
              cases e9 : (es.all fun p => isName p.2) with
              | false =>
                rw [e9, Bool.false_and] at q3
                refine yes_if (by rfl) ?_
                exact q3 _ sb5
              | true =>
                rw [e9, Bool.true_and] at q3
                refine no_if (by rfl) ?_
                have hd6 := sb5 _ _ hd3
                have q6 : ∀ H', Same (upd H5 d (.dK kvs)) H' → Q (.bl (decide ((SN.dif (wordsIn es) (wordsIn es).length).length = es.length))) H' := fun H' s' => q3 H' (sb5.trans s')
                have off6 : KvAll K (hid d (upd H5 d (.dK kvs))) kvs es := KvAll.off hd6 (((off3.same (fun b o e => (hid_of e).2)).same sb5)) z2
                clear q3 kv4 off3 hd4 s5 eD5 nD2 sb5 hd3
                generalize upd H5 d (.dK kvs) = H6 at hd6 q6 off6 ⊢
                clear H5
                refine ⟨d, _, hd6, trivial, fun od6 => ?_⟩
                have hd7 : upd H6 d (.frz od6 (.dK kvs)) d = some (.frz od6 (.dK kvs)) := upd_same
                have kv7 : KvAll K (upd H6 d (.frz od6 (.dK kvs))) kvs es := off6.same same_frz
                refine ⟨.ref d, rfl, d, od6, rfl, .inl ⟨_, hd7, fun D3 nD3 => ?_⟩⟩
                refine lc_mapW (ys := (wordsIn es).map V.str) walk_keys nD3 (by rw [List.length_map, wordsIn, List.length_map, hlen]) lz (fun H' s' => s' _ _ hd7) (fun i x y H' H'' Q' hi e3 sm yv k => ?_) (fun H8 s8 eD8 => ?_)
                · obtain ⟨rfl, k0, v1, e4, rfl⟩ := yv
                  obtain ⟨d1, e5, hv1⟩ := kv7.getV e4
                  have n1 : isName d1 = true := List.all_eq_true.mp e9 (k0, d1) (List.mem_of_getElem? e5)
                  rw [wordsIn, List.map_map, List.getElem?_map, e5] at e3
                  cases d1 with
                  | str z =>
                    cases e3
                    cases hv1
                    exact ⟨rfl, .ref d, rfl, _, rfl, d, _, rfl, .inl ⟨_, k0, .inr ⟨od6, sm _ _ hd7⟩, rfl, (val_at ndk e4).symm⟩, k _ (Same.refl _)⟩
                  | _ => cases n1
                · have sb8 := same_back (od := od6) hd6 s8
                  have dD : D3 ≠ d := fun q => by
                    rw [q, hd7] at nD3
                    cases nD3
                  have eD9 : upd H8 d (.dK kvs) D3 = some (.lst ((wordsIn es).map V.str)) := by
                    rw [upd_ne dD]
                    exact eD8
                  refine ⟨s8 _ _ hd7, D3, wordsIn es, rfl, SqL.of eD9, ?_, .ref d, rfl, d, kvs, rfl, upd_same, rfl, ?_⟩
                  · rw [wordsIn, List.length_map]
                    omega
                  · have e10 : decide (V.int ((SN.dif (wordsIn es) (wordsIn es).length).length : Nat) = V.int (kvs.length : Nat)) = decide ((SN.dif (wordsIn es) (wordsIn es).length).length = es.length) := by
                      rw [hlen]
                      refine Bool.eq_iff_iff.mpr ⟨fun z => ?_, fun z => ?_⟩
                      · refine decide_eq_true ?_
                        have := of_decide_eq_true z
                        injection this with this
                        omega
                      · rw [of_decide_eq_true z]
                        exact decide_eq_true rfl
                    exact Qb e10 (q6 _ sb8)
      · have r1 : isRen ns (.dct es) = false := by
          show (decide (es.length = ns.length) && _) = false
          rw [decide_eq_false e1, Bool.false_and]
        rw [r1] at q
        refine yes_if ?_ (q _ (Same.refl _))
        rw [hlen]
        refine (Bool.not_eq_true' _).mpr (decide_eq_false fun z => e1 ?_)
        injection z with z
        omega
end
end Pw
set_option maxHeartbeats 4000000
/-! renamed -/
namespace Pw
open PySem PySem.Spec PyProof.Rows L2 Own Dc
abbrev sRenamed : Stmt := topS 57
abbrev rnN : List Str := ["net", "names", "name", "kind", "parameters", "inputs", "lower"]
abbrev outSc : Scope := { kind := ScopeKind.function, names := [(".0", .local), ("name", .local), ("kind", .local), ("parameters", .local), ("inputs", .local), ("names", .cell)], isGenerator := false, isCoroutine := false }
theorem scRenamed : FnScope rnN ["net", "names"] (defScope sRenamed) := ⟨rfl, rfl, rfl, by decide +kernel, rfl, by decide +kernel, by decide +kernel⟩
def lookW (es : List (Key × PyData)) (z : Str) : Option Str := match (es.find? fun p => decide (p.1 = .inr z)).map (·.2) with
  | some (PyData.str s) => some s
  | _ => none
def renN (es : List (Key × PyData)) (n : Nd) : Nd := ⟨(lookW es n.name).getD Str.empty, n.kind, n.ps, n.ins.map fun z => (lookW es z).getD Str.empty⟩
def covers (es : List (Key × PyData)) (ns : List Nd) : Bool := ns.all fun n => (lookW es n.name).isSome && n.ins.all fun z => (lookW es z).isSome
theorem lookW_val {K : PySem.W.Frag} {H : Hp} {z s : Str} : ∀ {es : List (Key × PyData)} {kvs : List (Key × V)}, KvAll K H kvs es → lookW es z = some s → valV kvs (.inr z) = some (.str s)
  | [], _, h, e => by cases e
  | (k, d) :: es, _, h, e => by
    cases h with
    | @cons _ v _ vs _ h1 h2 =>
      unfold valV
      unfold lookW at e
      rw [List.find?_cons] at e ⊢
      by_cases c : k = .inr z
      · have c' : decide ((k, d).1 = (.inr z : Key)) = true := decide_eq_true c
        have c2 : decide ((k, v).1 = (.inr z : Key)) = true := decide_eq_true c
        rw [c'] at e
        rw [c2]
        cases d with
        | str t =>
          cases h1
          cases e
          rfl
        | _ => cases e
      · have c' : decide ((k, d).1 = (.inr z : Key)) = false := decide_eq_false c
        have c2 : decide ((k, v).1 = (.inr z : Key)) = false := decide_eq_false c
        rw [c'] at e
        rw [c2]
        exact lookW_val h2 e
def ndOf7 : PyData → Nd
  | .tuple [.str a, .str k, .tuple ps, .list is] => ⟨a, k, ps, wordsOf is⟩
  | _ => ⟨Str.empty, Str.empty, [], []⟩
theorem ndOf7_dat (n : Nd) : ndOf7 n.dat = n := by
  show (⟨n.name, n.kind, n.ps, wordsOf (n.ins.map PyData.str)⟩ : Nd) = n
  rw [wordsOf_map]
theorem ins_few {n : Nd} : ∀ {ns : List Nd} {ks : List Str}, Wired ks ns → n ∈ ns → n.ins.length ≤ 10 := fun w h => (wired_node w h).2
theorem words_vals {K : PySem.W.Frag} {H : Hp} : ∀ zs : List Str, DvAll K H (zs.map V.str) (zs.map PyData.str)
  | [] => .nil
  | z :: r => .cons (.str z) (words_vals r)
theorem dat_inj {n m : Nd} (h : n.dat = m.dat) : n = m := by
  have e := congrArg ndOf7 h
  rw [ndOf7_dat, ndOf7_dat] at e
  exact e
theorem dats_inj : ∀ {ns ms : List Nd}, ms.map Nd.dat = ns.map Nd.dat → ms = ns
  | [], [], _ => rfl
  | [], _ :: _, h => by cases h
  | _ :: _, [], h => by cases h
  | n :: ns, m :: ms, h => by
    rw [List.map_cons, List.map_cons] at h
    injection h with h1 h2
    rw [dat_inj h1, dats_inj h2]
/-- [e for .. in xs]: a list of data -/
theorem lc_dat {K : PySem.W.Frag} {J : It} {n : Nat} {G : Hp → Prop} {xs : List V} (w : Walk J n G (YAt xs)) {g : TG} {te : TE} {vs : List Nat} {σ : L2.St} {H1 : Hp} {D : Addr} {Qd : Hp → Prop} {ds : List PyData} (hn : xs.length = n) (hl : ds.length = n) (hz : n < sizeLine) (nD : H1 D = none)
    (hG : ∀ H, Same H1 H → G H)
    (hs : ∀ (i : Nat) (v : V) (d : PyData) (H : Hp) (Q : VK), xs[i]? = some v → ds[i]? = some d → Same H1 H → (∃ acc, H D = some (.lst acc)) → (∀ y H4, Same H H4 → Dv K (hid D H4) y d → Q y H4) → g v (wipe σ vs) H fun σ2 H2 => wipe σ2 vs = wipe σ vs ∧ te σ2 H2 Q)
    (hd : ∀ (H : Hp) (ys : List V), Same H1 H → H D = some (.lst ys) → DvAll K (hid D H) ys ds → Qd H) :
    ∃ W : Nat → Nat → Hp → Prop, (∃ m, W 0 m (upd H1 D (.lst []))) ∧ ∀ i m H, W i m H →
      (J.stop i H ∧ Qd H) ∨ (J.go i H ∧ ∃ Nx : Hp → Prop, (∀ H', Nx H' → ∃ m', m' < m ∧ W (i + 1) m' H') ∧ ∀ x H', J.yld i H x H' → g x (wipe σ vs) H' fun σ2 H2 => wipe σ2 vs = wipe σ vs ∧ tYes σ2 H2 fun b H3 =>
        if b = true then te σ2 H3 fun y H4 => ∃ acc, H4 D = some (.lst acc) ∧ acc.length < sizeLine ∧ Nx (upd H4 D (.lst (acc ++ [y]))) else Nx H3) := by
  refine lc_it w (fun i H => Same H1 H ∧ ∃ ys, H D = some (.lst ys) ∧ DvAll K (hid D H) ys (ds.take i)) ⟨same_upd nD, [], upd_same, .nil⟩ (fun i H _ p => hG H p.1) (fun i x H H' hi p y => ?_) (fun H p => ?_)
  · obtain ⟨sm, ys, eD, hys⟩ := p
    obtain ⟨rfl, hx⟩ := y
    have e1 : ds[i]? = some ds[i] := List.getElem?_eq_getElem (by omega)
    refine hs i x _ H' _ hx e1 sm ⟨_, eD⟩ fun y H4 s4 hy => ?_
    have keep : Same (hid D H4) (hid D (upd H4 D (.lst (ys ++ [y])))) := fun b o e => by
      have eb := hid_of e
      rw [hid_ne eb.1, upd_ne eb.1]
      exact eb.2
    refine ⟨ys, s4 _ _ eD, ?_, fun b o e => ?_, ys ++ [y], upd_same, ?_⟩
    · rw [hys.length, List.length_take]
      omega
    · rw [upd_ne (ne_of_none e nD)]
      exact s4 _ _ (sm _ _ e)
    · rw [List.take_add_one, e1]
      refine DvAll.snoc (hy.same keep) ((hys.same fun b o e => ?_).same keep)
      have eb := hid_of e
      rw [hid_ne eb.1]
      exact s4 _ _ eb.2
  · obtain ⟨sm, ys, eD, hys⟩ := p
    rw [List.take_of_length_le (by omega)] at hys
    exact hd H ys sm eD hys
section
variable {P : Program} {w : World} {K : PySem.W.Frag} {mg : Str → Option Value} {base : Heap} {C CB CN CL fB : Addr}
def spRenamed (K : PySem.W.Frag) (C CB : Addr) : Sp := fun vs H Q E => ∃ (a pd : Addr) (ns : List Nd) (v : V) (nm : Nm), vs = [.ref a, v] ∧ NetF K H C a pd ns ∧ NmV K (hid pd H) v nm ∧ okNm nm = true ∧
  (isRen ns nm = false → ∀ (H' : Hp) (dd : Addr), Same H H' → H' dd = none → E (.ref CB) (some dd) (upd H' dd (.xd [("part", .str "names")]))) ∧
  (isRen ns nm = true → ∃ es, nm = .dct es ∧ covers es ns = true ∧ smB (.list ((ns.map (renN es)).map Nd.dat)) = true ∧ checkNodes (.list ((ns.map (renN es)).map Nd.dat)) = none ∧ limitN (ns.map (renN es)) = none ∧
    ∀ (x pe : Addr) (H' : Hp), Same H H' → H x = none → H pe = none → NetF K H' C x pe (ns.map (renN es)) → Q (.ref x) H')
theorem ok_renamed (B : Blt mg) (N : NetCls P w K mg base C) (gC : mg "Net" = some (.ref C)) (made : ∃ f fd, Mk K C f ∧ FnOk P w K mg base (L2.CX P w) 16 f fd ["self", "nodes"] (spInit K C CN CL) ∧ Binds K fd ["self", "nodes"] [])
    (R : PySem.ErrX.ErrTxt K mg "InvalidBound" "part" CB fB) (G : DefOk P w K mg base CX0 3 "is_renaming" ["net", "value"] (spIsRen K C)) (D : Dfn K mg "renamed" sRenamed ["net", "names"]) : DefOk P w K mg base (L2.CX P w) 18 "renamed" ["net", "names"] (spRenamed K C CB) := D.ok fun f fd F => by
  refine F.okX scRenamed (fun vs H Q E h => ?_) (fun cdv A outer s H vs Q E hr h => ?_)
  · obtain ⟨a, pd, ns, v, nm, rfl, _⟩ := h
    rfl
  · obtain ⟨a, pd, ns, v, nm, rfl, NF, hv, ok, qe, q⟩ := h
    have nd := scRenamed.nd
    have hu := Nat.lt_of_le_of_lt (Nat.add_le_add_left (by decide : 1 ≤ 64) _) hr.units
    obtain ⟨fi, fdi, M, FI, bi⟩ := made
    refine ⟨_, pss_cons (ps_if (pt_not (pt_val (pe_def G hr pass0 (pa_cons (pv 0) (pa_cons (pv 1) pa_nil)))))
        (pss_one (ps_raiseErr (W := fun cls d _ H => E cls d H) rfl R hr (takes_of rfl rfl rfl rfl) (by exact (pa_cons pe_str pa_nil)))) pss_nil)
      (pss_one (ps_ret (pe_make M FI hr (by rfl) gC bi .nil (passes_call (W := fun cls d _ H => E cls d H) (takes_of rfl rfl rfl rfl) (fun _ _ _ _ h => h)) (pa_cons
        (pe_lc (own := [("name", 2), ("kind", 3), ("parameters", 4), ("inputs", 5)]) (g := gTup K 4 (gCons (gName 2) (gCons (gName 3) (gCons (gName 4) (gCons (gName 5) gNil))))) (tt := tYes) rfl nd (pi_list (pe_nodes N (hr.mono (by decide)) (pv 0))) (blkOk_by (N := rnN) (sc := defScope sRenamed) (by decide +kernel))
          (fun _ _ _ _ _ => pg_tup rfl (pgs_cons (pg_name (i := 2) nd rfl (Or.inl rfl)) (pgs_cons (pg_name (i := 3) nd rfl (Or.inl rfl)) (pgs_cons (pg_name (i := 4) nd rfl (Or.inl rfl)) (pgs_cons (pg_name (i := 5) nd rfl (Or.inl rfl)) pgs_nil))))) (fun _ _ _ _ _ => pts_nil)
          (fun _ _ _ _ _ => pe_tup (pa_cons (pe_dget hu (pv 1) (pv 2) (fun _ _ => rfl)) (pa_cons (pv 3) (pa_cons (pv 4) (pa_cons
            (pe_lc (own := [("lower", 6)]) (g := gName 6) (tt := tYes) rfl nd (piL (K := K) rfl (pv 5)) (blkOk_by (N := rnN) (sc := outSc) (by decide +kernel))
              (fun _ _ _ _ _ => pg_name (i := 6) nd rfl (Or.inl rfl)) (fun _ _ _ _ _ => pts_nil)
              (fun _ _ _ _ _ => pe_dget hu (pv 1) (pv 6) (fun _ _ => rfl))) pa_nil))))))
        pa_nil)))), ?_⟩
    refine ⟨_, rfl, v, rfl, a, pd, ns, v, nm, rfl, NF, hv, ok, fun H1 s1 => ⟨_, rfl, ?_⟩⟩
    cases er : isRen ns nm with
    | false => exact yes_if rfl ⟨_, rfl, fun dd nd' => qe er H1 dd s1 nd'⟩
    | true =>
      refine no_if rfl ?_
      obtain ⟨es, rfl, cov, sm, ck, lm, q⟩ := q er
      cases hv with
      | @dct d kvs _ hd hkv =>
        have ed := hid_of hd
        have hd1 : H1 d = some (.dK kvs) := s1 _ _ ed.2
        have kv1 : KvAll K H1 kvs es := (hkv.same (fun b o e => (hid_of e).2)).same s1
        have NF1 := NF.same s1
        refine ⟨_, rfl, nodes_of_net NF1.net fun l xs H2 s2 nl hl lz hxs => ?_⟩
        have hxs2 : DvAll K H2 xs (ns.map Nd.dat) := hxs.same newOf_same
        have hd2 : H2 d = some (.dK kvs) := s2 _ _ hd1
        have kv2 := kv1.same s2
        have covn : ∀ n ∈ ns, ((lookW es n.name).isSome && n.ins.all fun z => (lookW es z).isSome) = true := fun n hn => List.all_eq_true.mp cov n hn
        have got : ∀ {z : Str} {Hc : Hp}, (lookW es z).isSome = true → Same H2 Hc → DGet Hc d (.str z) (some (.str ((lookW es z).getD Str.empty))) := fun {z Hc} hz sc => by
          obtain ⟨t, ht⟩ := Option.isSome_iff_exists.mp hz
          have g := DGet.k (k := .inr z) (sc _ _ hd2)
          rw [lookW_val kv2 ht] at g
          rw [ht]
          exact g
        refine ⟨l, rfl, ⟨_, SqL.of hl⟩, fun D nD => ?_⟩
        have hlen : xs.length = ns.length := by rw [hxs2.length, List.length_map]
        refine lc_dat (K := K) (ds := (ns.map (renN es)).map Nd.dat) (walk_list (xs := xs)) rfl (by rw [List.length_map, List.length_map, hlen]) (Nat.lt_of_le_of_lt lz (by decide)) nD (fun H' s' => SqL.of (s' _ _ hl)) (fun i v dd Hc Q' hx hdd smc acc k => ?_) (fun H3 ys s3 eD hys => ?_)
        · obtain ⟨n, b, l2, y3, en, rfl, hb, hl2, hdn⟩ := node_at (hxs2.same smc) hx
          have mem := List.mem_of_getElem? en
          rw [List.getElem?_map, List.getElem?_map, en] at hdd
          obtain rfl : (renN es n).dat = dd := by
            have z : some (renN es n).dat = some dd := hdd
            exact Option.some.inj z
          have c1 := covn n mem
          rw [Bool.and_eq_true] at c1
          obtain ⟨acc0, eD⟩ := acc
          have py : Dv K H2 y3 (.tuple n.ps) := by
            obtain ⟨n2, b2, l3, y4, en2, eb, hb2, _, hdn2⟩ := node_at hxs2 hx
            cases eb
            obtain rfl : n = n2 := Option.some.inj (en.symm.trans en2)
            have e2 := (smc _ _ hb2).symm.trans hb
            cases e2
            cases hdn2 with
            | tup h1 hz h2 =>
              rw [hb2] at h1
              cases h1
              match h2 with
              | .cons _ (.cons _ (.cons h3 _)) => exact h3
          have onD : ∀ {H4 : Hp}, Same Hc H4 → Same H2 (hid D H4) := fun {H4} s4 b0 o e => by
            rw [hid_ne (ne_of_none e nD)]
            exact s4 _ _ (smc _ _ e)
          refine ⟨b, _, rfl, SqT.of hb, rfl, _, _, rfl, _, _, rfl, _, _, rfl, _, _, rfl, rfl, rfl, ?_⟩
          refine ⟨.ref d, rfl, .str n.name, rfl, d, _, rfl, got c1.1 smc, _, rfl, _, rfl, .ref l2, rfl, l2, rfl, ⟨_, SqL.of hl2⟩, fun D2 nD2 => ?_⟩
          refine lc_mapW (ys := ((n.ins.map fun z => (lookW es z).getD Str.empty)).map V.str) (walk_list (xs := n.ins.map V.str)) nD2 (by rw [List.length_map, List.length_map, List.length_map]) ?_ (fun H' s' => SqL.of (s' _ _ hl2)) (fun j x y H' H'' Q3 hj e3 sm3 yv k3 => ?_) (fun H5 s5 eD5 => ?_)
          · rw [List.length_map]
            have := ins_few NF.wired mem
            exact Nat.lt_of_le_of_lt (by omega : n.ins.length ≤ 1000) (by decide)
          · obtain ⟨rfl, hz⟩ := yv
            rw [List.getElem?_map] at hz
            obtain ⟨z, ez, rfl⟩ := Option.map_eq_some_iff.mp hz
            rw [List.getElem?_map, List.getElem?_map, ez] at e3
            cases e3
            have cz : (lookW es z).isSome = true := List.all_eq_true.mp c1.2 z (List.mem_of_getElem? ez)
            exact ⟨rfl, .ref d, rfl, .str z, rfl, d, _, rfl, got cz (smc.trans sm3), k3 _ (Same.refl _)⟩
          · refine ⟨by show 4 ≤ sizeLine; decide, fun t nt => ?_⟩
            have st := same_upd (o := HO.tup [V.str ((lookW es n.name).getD Str.empty), V.str n.kind, y3, V.ref D2]) nt
            have s6 := s5.trans st
            have tD : t ≠ D := fun q' => by
              rw [q', s5 _ _ eD] at nt
              cases nt
            have D2D : D2 ≠ D := fun q' => by
              rw [q', eD] at nD2
              cases nD2
            refine k _ _ s6 (.tup (by rw [hid_ne tD]; exact upd_same) (by show 4 ≤ 1000; decide) (.cons (.str _) (.cons (.str _) (.cons (py.same (onD s6)) (.cons ?_ .nil)))))
            refine .lst (by rw [hid_ne D2D]; exact st _ _ eD5) ?_ ?_
            · rw [List.length_map, List.length_map]
              have := ins_few NF.wired mem
              omega
            · show DvAll K _ _ (((renN es n).ins).map PyData.str)
              exact words_vals _
        · have sb := s1.trans (s2.trans s3)
          refine fun x dx nx ndx nexd => ?_
          have u1 : Same H3 (upd (upd H3 dx (.own x)) x (.ins C dx [])) := (same_upd ndx).trans (same_upd (by rw [upd_ne (fun e => nexd e.symm)]; exact nx))
          have back : ∀ {H' : Hp}, Same (hid x (upd (upd H3 dx (.own x)) x (.ins C dx []))) H' → Same H3 H' := fun {H'} s4 b o e => s4 _ _ (by
            rw [hid_ne (ne_of_none e nx)]
            exact u1 _ _ e)
          have hD : Dv K H3 (.ref D) (.list ((ns.map (renN es)).map Nd.dat)) := .lst eD (by rw [hys.length, List.length_map, List.length_map]; have := NF.few; omega) (hys.same (fun b o e => (hid_of e).2))
          refine ⟨x, dx, .ref D, _, rfl, upd_same, hD.same u1, sm, fun n e => ?_, fun ms e1 e2 n e3 => ?_, fun ms e1 e2 e3 H' s4 net => ?_⟩
          · rw [ck] at e
            cases e
          · have em : ms = ns.map (renN es) := by
              have e4 : (ns.map (renN es)).map Nd.dat = ms.map Nd.dat := by
                injection e2
              exact dats_inj e4.symm
            rw [em, lm] at e3
            cases e3
          · have em : ms = ns.map (renN es) := by
              have e4 : (ns.map (renN es)).map Nd.dat = ms.map Nd.dat := by
                injection e2
              exact dats_inj e4.symm
            subst em
            obtain ⟨pe, nf, npe⟩ := net.full
            have none_of : ∀ {c : Addr}, H3 c = none → H c = none := fun {c} nc => by
              cases z : H c with
              | none => rfl
              | some o =>
                rw [sb c o z] at nc
                cases nc
            have pe3 : H3 pe = none := by
              cases z : H3 pe with
              | none => rfl
              | some o =>
                rw [u1 pe o z] at npe
                cases npe
            exact ⟨rfl, q x pe H' (sb.trans (back s4)) (none_of nx) (none_of pe3) nf⟩
end
end Pw
set_option maxHeartbeats 2000000
/-! an object made in a try's body; _law_limit -/
namespace Mk2
open PySem PySem.Spec PyProof.Rows L2
section
variable {X : Cx} {CX : CXT} {k : Nat} {f C : Addr} {fd : FuncData} {ps : List Str} {sp : Sp}
/-- C(..) whose __init__ may raise what is wished for at the slots σ -/
theorem made_at {pins : List (Addr × Obj)} {σ : L2.St} {H : Hp} {s : Shared} {Q : VK} {us : List Value} {vs : List V} {E : XK} (M : Mk X.K C f) (F : FnOk X.prog X.w X.K X.mg X.base CX k f fd ps sp) (room : Room (k + 1) X.A) (bind : Binds X.K fd ps [])
    (out : PassesAt CX X σ E) (I : Inv X pins σ H s) (args : Vals vs us)
    (ask : ∀ x dx, H x = none → H dx = none → dx ≠ x → sp (.ref x :: vs) (upd (upd H dx (.own x)) x (.ins C dx [])) (fun v H2 => v = .non ∧ Q (.ref x) H2) E) :
    wpAny (model X.prog X.w) X.A (call (.ref C) us) (EP X pins σ Q) X.xe s := by
  obtain ⟨n, hn⟩ : ∃ n, s.heap.objs.size = n := ⟨_, rfl⟩
  have q := ask (s.heap.objs.size + 1) s.heap.objs.size (I.hok.fresh (Nat.le_succ _)) (I.hok.fresh (Nat.le_refl _)) (Nat.ne_of_lt (Nat.lt_succ_self _))
  have J := Inv.made (C := C) I
  have all : Vals (V.ref (s.heap.objs.size + 1) :: vs) (Value.ref (s.heap.objs.size + 1) :: us) := .cons rfl args
  have len : (Value.ref (s.heap.objs.size + 1) :: us).length = ps.length := by rw [← all.length]; exact F.len _ _ _ _ q
  have bound := bind _ (Value.ref (s.heap.objs.size + 1) :: us) J.kIn (by rw [List.append_nil]; exact len)
  rw [List.append_nil] at bound
  refine wpAny_call (make_map (f := f) I.kIn M.makes M.init (beq_iff_eq.mp M.fn) ?_)
  refine codeAny_mono (F.run _ X.stack _ _ ⟨Value.ref (s.heap.objs.size + 1) :: us, []⟩ (Value.ref (s.heap.objs.size + 1) :: us) _ _ E (room.make C us []) (J.env0.make C us []) bound all q) fun r s' got => ?_
  match r, got with
  | .error e, got => exact out pins _ _ e s' J got
  | .ok (.ret u), got =>
    obtain ⟨v, H', J', rv, ev, q'⟩ := J.after got
    cases ev
    exact ⟨rv, V.ref (s.heap.objs.size + 1), H', J', rfl, q'⟩
  | .ok .next, got => exact (show False from got).elim
  | .ok .brk, got => exact (show False from got).elim
  | .ok .cont, got => exact (show False from got).elim
def tMakeAt (C : Addr) (sp : Sp) (E : L2.St → XK) (t : TA) : TE := fun σ H Q => t σ H fun vs H1 => ∀ x dx, H1 x = none → H1 dx = none → dx ≠ x →
  sp (.ref x :: vs) (upd (upd H1 dx (.own x)) x (.ins C dx [])) (fun v H2 => v = .non ∧ Q (.ref x) H2) (E σ)
theorem pe_makeAt {x : Str} {p pos : Pos} {e : Expr} {es : List Expr} {t : TA} {E : L2.St → XK} (M : Mk X.K C f) (F : FnOk X.prog X.w X.K X.mg X.base CX k f fd ps sp) (room : Room (k + 1) X.A) (hm : X.mg x = some (.ref C)) (bind : Binds X.K fd ps [])
    (out : ∀ σ, PassesAt CX X σ (E σ)) (ha : PA X (e :: es) t) (hg : Gl X x := by rfl) (hdb : (x == ("__debug__" : Str)) = false := by decide)
    (star : starEach (e :: es) X.env = (false, eval e X.env) :: starEach es X.env := by rfl) (plain : (backTo pos (starEach es X.env)).any (·.1) = false := by rfl) :
    PE X (.Call (.Name x p) (e :: es) [] pos) (tMakeAt C sp E t) := by
  refine ⟨fun pins s σ H Q I h => ?_⟩
  refine wpAny_Call_Name_kw (ld_glob I hg hm ?_ hdb)
  have run := ha.run pos pins s σ H _ I h
  refine PySem.W.callWith_K (h₀ := X.base) I.ok.mod.kin M.kp (thn run fun us s1 got => ?_) star plain
  obtain ⟨vs, H1, I1, r, q⟩ := got
  exact ⟨I1.kIn, made_at M F room bind (out σ) I1 r q⟩
end
end Mk2
set_option maxHeartbeats 2000000
/-! _law_part: the field of what a call raises -/
namespace Pw
open PySem PySem.Spec PyProof.Rows L2 LamX
abbrev sPart : Stmt := topS 64
theorem scPart : FnScope ["_law_call", "_law_found", "e"] ["_law_call"] (defScope sPart) := ⟨rfl, rfl, rfl, by decide +kernel, rfl, by decide +kernel, by decide +kernel⟩
/-- what the text says of the error -/
structure ErrsB (K : PySem.W.Frag) (mg : Str → Option Value) (CP CB fB : Addr) : Prop where
  b : PySem.ErrX.ErrTxt K mg "InvalidBound" "part" CB fB
  gP : mg "PullError" = some (.ref CP)
  eB : ExcC K CB
  kBB : PySem.W.kitOne K (.ref CB) (.ref CB) = some true
  xB : PySem.W.exmOne K (.ref CB) (.ref CP) = some true
/-- what is told of an error: its field -/
def TPart (K : PySem.W.Frag) (CB : Addr) : (XK → Hp → VK → Prop) → Hp → VK → Prop := fun tl H Q =>
  ∀ Nm : VK, tl (fun cls dd H' => cls = .ref CB ∧ ∃ d v, dd = some d ∧ H' d = some (.xd [("part", v)]) ∧ ∀ H'', Same H' H'' → Q v H'') H Nm
/-- the slots are as many as the names -/
theorem pss_len {Y : Cx} {body : List Stmt} {t : TS} {n : Nat} (hn : Y.N.length = n) (h : PSs Y body t) : PSs Y body (fun D σ H => σ.length = n → t D σ H) := ⟨fun pins s σ H D I q => h.run pins s σ H D I (q (I.len.trans hn))⟩
theorem three {σ : L2.St} (h : σ.length = 3) : ∃ a b c, σ = [a, b, c] := by
  match σ, h with
  | [a, b, c], _ => exact ⟨a, b, c, rfl⟩
section
variable {X : Cx} {CP CB fB : Addr}
theorem part_gives (B : Blt X.mg) (R : ErrsB X.K X.mg CP CB fB) {g : Addr} {cdg : Value} {q : Str} :
    GivesTo X ["_law_call", "_law_found", "e"] "_law_part" (defScope sPart) g cdg (defBody sPart) "_law_call" q (TPart X.K CB) := by
  intro f c' s H Q tl act hc h
  have nd := scPart.nd
  have hgl : Gl (cxOf C8.CX0 X.prog X.w X.K X.mg X.base ["_law_call", "_law_found", "e"] "_law_part" (defScope sPart) g cdg X.A X.stack s H C8.E0).nox "PullError" := by rfl
  refine ⟨_, pss_cons (ps_set (i := 1) nd rfl (.inl rfl) pe_non)
    (pss_cons (ps_try_as (i := 2) (c := .ref CP) (Wout := fun _ _ _ _ => False)
        (tb := fun W D σ H => ∃ Ech : XK, (∀ cls d σ' H', Ech cls d H' → W cls d σ' H') ∧ σ[0]? = some (some (.ref f)) ∧ H c' = some (CodeO c' q) ∧ tl Ech H (fun _ H' => D.nx σ H'))
        rfl rfl nd rfl rfl ⟨hgl, by decide, .inl R.gP⟩ L2.takes0 (fun W pn xe tk _ => ?body)
        (fun a oe cls d pn hz hf => pss_len (n := 3) rfl (pss_cons (ps_set (i := 1) nd rfl (.inl rfl) pe_str)
          (pss_one (ps_if (pt_val (pe_callB (call_isED hz hf) (by rfl) B.isi boot_isinstance (pa_cons (pv 2) (pa_cons (pe_glob (v := .ref CB) rfl R.b.gC rfl) pa_nil))))
            (pss_one (ps_set (i := 1) nd rfl (.inl rfl) (pe_errFld R.b hz hf (pv 2)))) pss_nil)))))
      (pss_one (ps_ret (pv 1)))), ?_⟩
  case body =>
    refine ⟨fun pins s' σ H' D I h' => ?_⟩
    obtain ⟨Ech, hW, h1, h2, h3⟩ := h'
    exact (pss_one (ps_expr (act W pn xe Ech _ _ tk hW))).run pins s' σ H' D I ⟨h1, h2, h3⟩
  · refine ⟨_, fun cls dd σ' H' he => ?_, rfl, hc, h _⟩
    obtain ⟨rfl, d, v, rfl, hd, k⟩ := he
    refine ⟨true, R.xB, fun _ a na len => ?_, fun z => Bool.noConfusion z⟩
    rw [List.length_set] at len
    obtain ⟨x0, x1, x2, rfl⟩ := three len
    refine ⟨.ref a, rfl, CB, .ref CB, .ref CB, true, d, _, rfl, R.eB, rfl, fun u r => r, rfl, hd, R.kBB, _, rfl, ?_⟩
    refine ⟨.ref a, rfl, rfl, rfl, d, v, rfl, hd, ?_⟩
    exact ⟨_, rfl, k _ (Same.refl _)⟩
end
end Pw
set_option maxHeartbeats 2000000
/-! repr of a dict of plain data -/
namespace PySem
open Sem (wp)
section
variable {prog : Program} {w : World} {h₀ : Heap} {a : Addr} {A : Around} {E : Value → Shared → Prop} {s : Shared} {Q : Value → Shared → Prop}
theorem repr_dict1 {o : Obj} {es : Array DictEntry} {n : Nat} {kvs : List (PyData × PyData)} {as bs : List Addr} (h1 : h₀.get? a = some o) (h2 : o.cls = .type "dict") (h3 : o.data = .dict es n)
    (h4 : ReadsAll h₀ (es.toList.map (·.key)) (kvs.map (·.1)) as) (h5 : ReadsAll h₀ (es.toList.map (·.val)) (kvs.map (·.2)) bs) (k0 : PyData.hasDictAll (kvs.map (·.1)) = false) (v0 : PyData.hasDictAll (kvs.map (·.2)) = false)
    (hs : PyData.showable (.dict kvs) = true) (hsys : (a == sysModules) = false) (hg : A.guards = some []) (hu : A.units + (PyData.depth (.dict kvs) + 1) < cLine) (hk0 : ∀ b o, h₀.get? b = some o → s.heap.get? b = some o)
    (hQ : ∀ h' u tk, (∀ b o, s.heap.get? b = some o → h'.get? b = some o) → Q (.str (PyData.shown (.dict kvs)) u) { s with heap := h', toks := tk }) (hsz : (dictText (PyData.shownKv kvs)).length ≤ sizeLine) :
    wpAny (model prog w) A (call (.builtin "repr") [.ref a]) Q E s := by
  obtain ⟨s1, s2⟩ := PyData.showableKv_split kvs (by simpa [PyData.showable] using hs)
  have no : ∀ {ds : List PyData} {cs : List Addr}, PyData.hasDictAll ds = false → PyData.hasDictAll ds = true → sysModules ∉ cs := fun e z => by
    rw [e] at z
    cases z
  obtain ⟨b1, hb1, k1⟩ := ReprAllK.of_readsAll (prog := prog) (w := w) h4 s1 (no k0) fun t ht => (by
    obtain ⟨p, hp, hl⟩ := PyData.shownKv_key_le kvs t ht
    exact Nat.le_trans hl (Nat.le_trans (dictText_mem_le hp) hsz))
  obtain ⟨b2, hb2, k2⟩ := ReprAllK.of_readsAll (prog := prog) (w := w) h5 s2 (no v0) fun t ht => (by
    obtain ⟨p, hp, hl⟩ := PyData.shownKv_val_le kvs t ht
    exact Nat.le_trans hl (Nat.le_trans (dictText_mem_le hp) hsz))
  have hb : ReadAtMost h₀ (PyData.depthKv kvs) (b1 ++ b2) := (hb1.mono (PyData.depthAll_keys_le kvs)).append (hb2.mono (PyData.depthAll_vals_le kvs))
  have apart : a ∉ b1 ++ b2 := not_mem_of_deeper (.dict h1 h2 h3 h4 h5) (by simp only [PyData.depth]; omega) hb
  have entries := ReprEntriesK.of_two es.toList _ _ (k1.more_le (fun b hb => List.mem_append_left _ hb) (PyData.depthAll_keys_le kvs)) (k2.more_le (fun b hb => List.mem_append_right _ hb) (PyData.depthAll_vals_le kvs))
  have ty : s.TypeIs (.ref a) "dict" := ⟨o, hk0 _ _ h1, h2⟩
  simp only [PyData.depth] at hu
  simp only [PyData.shown, PyData.shownKv_eq] at hQ
  refine call_repr_slot (by omega) ty F.slot_dict_repr ?_
  exact call_dict_reprK h1 h2 h3 hsys apart entries (A := A.in1) hg (fun b _ => Clear.nil b) (by show A.units + 1 + _ < cLine; omega) hk0 (fun h' u tk hk => ⟨_, _, rfl, hQ h' u tk hk⟩) (by rw [← PyData.shownKv_eq]; exact hsz)
end
end PySem
namespace Pw
open PySem PySem.Spec PyProof.Rows L2
def kvD (es : List (Key × PyData)) : List (PyData × PyData) := es.map fun p => (keyD p.1, p.2)
def shownN : Nm → Str
  | .dat d => d.shown
  | .dct es => PyData.shown (.dict (kvD es))
/-- what may be told of it -/
def TellsN : Nm → Prop
  | .dat d => Tells d
  | .dct es => PyData.showable (.dict (kvD es)) = true ∧ PyData.depth (.dict (kvD es)) ≤ 60 ∧ (dictText (PyData.shownKv (kvD es))).length ≤ sizeLine ∧ PyData.hasDictAll (es.map (·.2)) = false
theorem keys_noDict : ∀ es : List (Key × PyData), PyData.hasDictAll (es.map fun p => keyD p.1) = false
  | [] => rfl
  | (k, d) :: r => by
    show (PyData.hasDict (keyD k) || PyData.hasDictAll (r.map fun p => keyD p.1)) = false
    rw [keys_noDict r]
    cases k <;> rfl
section
variable {X : Cx} {pins : List (Addr × Obj)} {σ : L2.St} {H : Hp} {s : Shared}
theorem key_int {P : Program} {w : World} {i : Int} {v : Value} (h : (mixKind P w).is (.inl i) v = true) : ∃ t, v = .int i t := by
  rcases keyIs_shape (k := .inl i) (v := v) h with ⟨j, t, e, ev⟩ | ⟨x, t, e, _⟩
  · cases e
    exact ⟨t, ev⟩
  · cases e
theorem key_str {P : Program} {w : World} {x : Str} {v : Value} (h : (mixKind P w).is (.inr x) v = true) : ∃ t, v = .str x t := by
  rcases keyIs_shape (k := .inr x) (v := v) h with ⟨j, t, e, _⟩ | ⟨y, t, e, ev⟩
  · cases e
  · cases e
    exact ⟨t, ev⟩
theorem keys_read {P : Program} {w : World} {h : Heap} : ∀ {ks : List DictEntry} {vs : List (Key × Value)} {es : List (Key × PyData)}, Pairs (mixKind P w) ks vs → vs.map (·.1) = es.map (·.1) → ∃ as, ReadsAll h (ks.map (·.key)) (es.map fun p => keyD p.1) as
  | _, _, [], .nil, _ => ⟨_, .nil⟩
  | _, _, (k, d) :: es, .cons (e := e) (kv := kv) h1 h2 h3, q => by
    rw [List.map_cons, List.map_cons] at q
    injection q with q1 q2
    obtain ⟨as, r⟩ := keys_read (h := h) h3 q2
    have e1 : ∃ bs, Reads h e.key (keyD k) bs := by
      rw [q1] at h1
      cases k with
      | inl i =>
        obtain ⟨t, e2⟩ := key_int h1
        rw [e2]
        exact ⟨_, Reads.int i t⟩
      | inr x =>
        obtain ⟨t, e2⟩ := key_str h1
        rw [e2]
        exact ⟨_, Reads.str x t⟩
    obtain ⟨bs, r1⟩ := e1
    exact ⟨_, .cons r1 r⟩
  | _, _, [], .cons _ _ _, q => by cases q
  | _, _, _ :: _, .nil, q => by cases q
theorem vals_read (I : Inv X pins σ H s) : ∀ (es : List (Key × PyData)) {ks : List DictEntry} {vs : List (Key × Value)} {kvs : List (Key × V)}, Pairs (mixKind X.prog X.w) ks vs → KV kvs vs → KvAll X.K H kvs es → PyData.hasDictAll (es.map (·.2)) = false →
    ∃ as, ReadsAll s.heap (ks.map (·.val)) (es.map (·.2)) as := by
  intro es
  induction es with
  | nil =>
    intro ks vs kvs p kv h nd
    cases h
    cases kv
    cases p
    exact ⟨_, .nil⟩
  | cons x es ih =>
    intro ks vs kvs p kv h nd
    cases h with
    | @cons k v d kvs2 _ hv hr =>
      cases kv with
      | cons r rs =>
        cases p with
        | @cons e _ ks2 _ h1 h2 h3 =>
          have nd' : (PyData.hasDict d || PyData.hasDictAll (es.map (·.2))) = false := nd
          rw [Bool.or_eq_false_iff] at nd'
          obtain ⟨as, ra⟩ := ih h3 rs hr nd'.2
          obtain ⟨bs, rb, _⟩ := hv.reads I r.2 (.inl nd'.1)
          show ∃ as, ReadsAll s.heap (e.val :: _) (d :: _) as
          rw [h2]
          exact ⟨_, .cons rb ra⟩
theorem kv_keys : ∀ {kvs : List (Key × V)} {vs : List (Key × Value)}, KV kvs vs → vs.map (·.1) = kvs.map (·.1)
  | [], _, .nil => rfl
  | _ :: _, _, .cons r rs => by
    rw [List.map_cons, List.map_cons, kv_keys rs, r.1]
theorem call_reprN (hg : X.A.guards = some []) (hu : X.A.units + 64 < cLine) : CallR X (.builtin "repr") (fun xs H Q => ∃ v nm, xs = [v] ∧ NmV X.K H v nm ∧ TellsN nm ∧ Q (.str (shownN nm)) H) := by
  intro pins s σ H xs us Q I r h
  obtain ⟨v, nm, rfl, hn, t, q⟩ := h
  cases hn with
  | @dat _ d hd _ => exact call_reprD hg hu pins s σ H [v] us Q I r ⟨v, d, rfl, hd, t, q⟩
  | @dct a kvs es ha hk =>
    obtain ⟨u, rfl, ru⟩ := vals1 r
    obtain rfl : u = Value.ref a := ru
    obtain ⟨t1, t2, t3, t4⟩ := t
    obtain ⟨z, hsys, vs, rel, o, os, ep, e1, e2, e3, e4, e5, e6⟩ := dk_of I.hok ha
    have ek : vs.map (·.1) = es.map (·.1) := (kv_keys rel).trans hk.keys
    obtain ⟨as, ra⟩ := keys_read (h := s.heap) e5 ek
    obtain ⟨bs, rb⟩ := vals_read I es e5 rel hk t4
    refine repr_dict1 (kvs := kvD es) e1 e2.1 e3 (as := as) (bs := bs) ?_ ?_ ?_ ?_ t1 hsys hg (by omega) (fun _ _ e => e) (fun h' u tk keep => ⟨.str _, H, I.kept keep, ⟨_, rfl⟩, q⟩) t3
    · rw [kvD, List.map_map]
      exact ra
    · rw [kvD, List.map_map]
      exact rb
    · rw [kvD, List.map_map]
      exact keys_noDict es
    · rw [kvD, List.map_map]
      exact t4
end
end Pw
set_option maxHeartbeats 2000000
/-! displays read as data, apart from one object -/
namespace Ev
open PySem PySem.Spec PyProof.Rows L2 Pw
theorem low1000 {n : Nat} (h : n ≤ 1000) : n < sizeLine := Nat.lt_of_le_of_lt h (by decide)
/-- the part of the heap that is seen -/
def vis (U : Addr → Bool) (H : Hp) : Hp := fun b => if U b = true then H b else none
theorem vis_at {U : Addr → Bool} {H : Hp} {b : Addr} {o : HO} (u : U b = true) (h : H b = some o) : vis U H b = some o := by
  unfold vis
  rw [if_pos u]
  exact h
theorem vis_of {U : Addr → Bool} {H : Hp} {b : Addr} {o : HO} (h : vis U H b = some o) : U b = true ∧ H b = some o := by
  unfold vis at h
  by_cases u : U b = true
  · rw [if_pos u] at h
    exact ⟨u, h⟩
  · rw [if_neg u] at h
    cases h
theorem vis_same {U : Addr → Bool} {H : Hp} : Same (vis U H) H := fun b o h => (vis_of h).2
theorem vis_mono {U : Addr → Bool} {H H' : Hp} (s : Same (vis U H) H') : Same (vis U H) (vis U H') := fun b o h => vis_at (vis_of h).1 (s b o h)
theorem vis_grow {U : Addr → Bool} {H H' : Hp} (s : Same H H') : Same (vis U H) (vis U H') := vis_mono (vis_same.trans s)
/-- all that is new is seen -/
def Fresh (U : Addr → Bool) (H : Hp) : Prop := ∀ b, H b = none → U b = true
theorem Fresh.grow {U : Addr → Bool} {H H' : Hp} (f : Fresh U H) (s : Same H H') : Fresh U H' := fun b e => f b (by
  cases h : H b with
  | none => rfl
  | some o =>
    rw [s b o h] at e
    cases e)
/-- seen: what is not in H; what is not at a -/
def nu (H : Hp) : Addr → Bool := fun b => (H b).isNone
def but (a : Addr) : Addr → Bool := fun b => !decide (b = a)
theorem fresh_nu (H : Hp) : Fresh (nu H) H := fun b e => by
  unfold nu
  rw [e]
  rfl
theorem fresh_but {a : Addr} {H : Hp} {o : HO} (h : H a = some o) : Fresh (but a) H := fun b e => by
  unfold but
  rw [decide_eq_false (ne_of_none h e).symm]
  rfl
theorem vis_nu (H H' : Hp) : vis (nu H) H' = newOf H H' := by
  funext b
  unfold vis nu newOf
  cases H b <;> rfl
theorem vis_but (a : Addr) (H : Hp) : vis (but a) H = hid a H := by
  funext b
  unfold vis but hid
  by_cases e : b = a
  · rw [if_pos e, decide_eq_true e]
    rfl
  · rw [if_neg e, decide_eq_false e]
    rfl
variable {K : PySem.W.Frag} {U : Addr → Bool} {H0 : Hp} {σ : L2.St}
def E (K : PySem.W.Frag) (U : Addr → Bool) (H0 : Hp) (σ : L2.St) (te : TE) (d : PyData) : Prop :=
  ∀ (H : Hp) (Q : VK), Fresh U H → Same (vis U H0) H → (∀ v H', Same H H' → Dv K (vis U H') v d → Q v H') → te σ H Q
def A (K : PySem.W.Frag) (U : Addr → Bool) (H0 : Hp) (σ : L2.St) (ta : TA) (ds : List PyData) : Prop :=
  ∀ (H : Hp) (Q : List V → Hp → Prop), Fresh U H → Same (vis U H0) H → (∀ vs H', Same H H' → DvAll K (vis U H') vs ds → Q vs H') → ta σ H Q
theorem non : E K U H0 σ (tC .non) .none := fun H Q _ _ q => q _ _ (Same.refl _) .non
theorem bl {b : Bool} : E K U H0 σ (tC (.bl b)) (.bool b) := fun H Q _ _ q => q _ _ (Same.refl _) (.bl _)
theorem int {i : Int} : E K U H0 σ (tC (.int i)) (.int i) := fun H Q _ _ q => q _ _ (Same.refl _) (.int _)
theorem str {x : Str} : E K U H0 σ (tC (.str x)) (.str x) := fun H Q _ _ q => q _ _ (Same.refl _) (.str _)
theorem neg {i : Int} : E K U H0 σ (tUn (rU fun i => .int (-i)) (tC (.int i))) (.int (-i)) := fun H Q _ _ q => ⟨i, rfl, q _ _ (Same.refl _) (.int _)⟩
theorem far : E K U H0 σ (tOp (rI CPow fun i j => V.int (i ^ j.toNat)) (tC (.int 10)) (tC (.int 30))) (.int (10 ^ 30)) := fun H Q _ _ q => ⟨_, _, rfl, rfl, ⟨by decide, by decide, by decide⟩, q _ _ (Same.refl _) (.int _)⟩
theorem var {i : Nat} {v : V} {d : PyData} (hs : σ[i]? = some (some v)) (hd : Dv K (vis U H0) v d) : E K U H0 σ (tVar i) d := fun H Q _ sm q => ⟨v, hs, q v H (Same.refl _) (hd.same (vis_mono sm))⟩
theorem add {te tf : TE} {i j : Int} (h1 : E K U H0 σ te (.int i)) (h2 : E K U H0 σ tf (.int j)) : E K U H0 σ (tOp (rI0 fun i j => V.int (i + j)) te tf) (.int (i + j)) := fun H Q f sm q => by
  refine h1 H _ f sm fun v H1 s1 d1 => ?_
  refine h2 H1 _ (f.grow s1) (sm.trans s1) fun u H2 s2 d2 => ?_
  cases d1
  cases d2
  exact ⟨_, _, rfl, rfl, q _ _ (s1.trans s2) (.int _)⟩
theorem nil : A K U H0 σ tNil [] := fun H Q _ _ q => q _ _ (Same.refl _) .nil
theorem cons {te : TE} {ta : TA} {d : PyData} {ds : List PyData} (h1 : E K U H0 σ te d) (h2 : A K U H0 σ ta ds) : A K U H0 σ (tCons te ta) (d :: ds) := fun H Q f sm q => by
  refine h1 H _ f sm fun v H1 s1 d1 => ?_
  exact h2 H1 _ (f.grow s1) (sm.trans s1) fun vs H2 s2 d2 => q _ H2 (s1.trans s2) (.cons (d1.same (vis_grow s2)) d2)
theorem tup {ta : TA} {ds : List PyData} (h : A K U H0 σ ta ds) (hz : ds.length ≤ 1000 := by exact Nat.le_of_ble_eq_true rfl) : E K U H0 σ (tTup ta) (.tuple ds) := fun H Q f sm q => by
  refine h H _ f sm fun vs H1 s1 d1 => ?_
  have hl := d1.length
  refine ⟨by rw [hl]; exact Nat.le_of_lt (low1000 hz), fun t nt => q _ _ (s1.trans (same_upd nt)) ?_⟩
  exact .tup (vis_at (f.grow s1 t nt) upd_same) (by rw [hl]; exact hz) (d1.same (vis_grow (same_upd nt)))
theorem lst {ta : TA} {ds : List PyData} (h : A K U H0 σ ta ds) (hz : ds.length ≤ 1000 := by exact Nat.le_of_ble_eq_true rfl) : E K U H0 σ (tLst ta) (.list ds) := fun H Q f sm q => by
  refine h H _ f sm fun vs H1 s1 d1 => ?_
  have hl := d1.length
  refine ⟨by rw [hl]; exact Nat.le_of_lt (low1000 hz), fun t nt => q _ _ (s1.trans (same_upd nt)) ?_⟩
  exact .lst (vis_at (f.grow s1 t nt) upd_same) (by rw [hl]; exact hz) (d1.same (vis_grow (same_upd nt)))
/-- x + y of two lists -/
theorem cat {te tf : TE} {ds es : List PyData} (h1 : E K U H0 σ te (.list ds)) (h2 : E K U H0 σ tf (.list es)) (hz : ds.length + es.length ≤ 1000 := by exact Nat.le_of_ble_eq_true rfl) : E K U H0 σ (tOp rCat te tf) (.list (ds ++ es)) := fun H Q f sm q => by
  refine h1 H _ f sm fun v H1 s1 d1 => ?_
  refine h2 H1 _ (f.grow s1) (sm.trans s1) fun u H2 s2 d2 => ?_
  have d1 := d1.same (vis_grow s2)
  cases d1 with
  | @lst l vs _ hl hlz hvs =>
    cases d2 with
    | @lst m us _ hm hmz hus =>
      have e1 := hvs.length
      have e2 := hus.length
      refine ⟨l, m, vs, us, rfl, rfl, (vis_of hl).2, (vis_of hm).2, ?_, fun p np => ?_⟩
      · rw [e1, e2]
        exact Nat.le_of_lt (low1000 hz)
      · refine q _ _ ((s1.trans s2).trans (same_upd np)) (.lst (vis_at (f.grow (s1.trans s2) p np) upd_same) ?_ ?_)
        · rw [List.length_append, e1, e2]
          exact hz
        · exact (hvs.same (vis_grow (same_upd np))).append (hus.same (vis_grow (same_upd np)))
theorem rep_all {H : Hp} {v : V} {d : PyData} (h : Dv K H v d) : ∀ n : Nat, DvAll K H (List.replicate n v) (List.replicate n d)
  | 0 => .nil
  | n + 1 => .cons h (rep_all h n)
theorem rep_flat {α : Type} (x : α) : ∀ k : Nat, (List.replicate k [x]).flatten = List.replicate k x
  | 0 => rfl
  | k + 1 => by
    rw [List.replicate_succ, List.flatten_cons, rep_flat x k]
    rfl
/-- [x] * k -/
theorem rep {te tk : TE} {d : PyData} {k : Nat} (h1 : E K U H0 σ te (.list [d])) (h2 : E K U H0 σ tk (.int k)) (hz : k ≤ 1000) : E K U H0 σ (tOp rRep te tk) (.list (List.replicate k d)) := fun H Q f sm q => by
  refine h1 H _ f sm fun v H1 s1 d1 => ?_
  refine h2 H1 _ (f.grow s1) (sm.trans s1) fun u H2 s2 d2 => ?_
  have d1 := d1.same (vis_grow s2)
  cases d2
  cases d1 with
  | @lst l vs _ hl hlz hvs =>
    match vs, hvs with
    | [x], .cons hx1 .nil =>
      refine ⟨l, k, [x], rfl, rfl, (vis_of hl).2, by omega, by omega, ?_, fun p np => ?_⟩
      · show 1 * (k : Int).toNat ≤ sizeLine
        rw [Nat.one_mul]
        exact Nat.le_of_lt (low1000 (by omega))
      · have e : (List.replicate (k : Int).toNat [x]).flatten = List.replicate k x := by
          rw [Int.toNat_natCast]
          exact rep_flat x k
        rw [e] at *
        refine q _ _ ((s1.trans s2).trans (same_upd np)) (.lst (vis_at (f.grow (s1.trans s2) p np) upd_same) ?_ ?_)
        · rw [List.length_replicate]
          exact hz
        · exact rep_all (hx1.same (vis_grow (same_upd np))) k
/-- xs[i], xs[:i] -/
theorem ixl {te ti : TE} {i : Nat} {ds : List PyData} {d : PyData} (h1 : E K U H0 σ te (.list ds)) (h2 : E K U H0 σ ti (.int i)) (e : ds[i]? = some d) : E K U H0 σ (tOp (rIxL K) te ti) d := fun H Q f sm q => by
  refine h1 H _ f sm fun v H1 s1 d1 => ?_
  refine h2 H1 _ (f.grow s1) (sm.trans s1) fun u H2 s2 d2 => ?_
  have d1 := d1.same (vis_grow s2)
  cases d2
  cases d1 with
  | @lst l vs _ hl hlz hvs =>
    obtain ⟨y, ey, dy⟩ := hvs.get e
    exact ⟨l, vs, i, y, rfl, rfl, SqL.of (vis_of hl).2, atI_nat ey, q _ _ (s1.trans s2) dy⟩
theorem ixt {te ti : TE} {i : Nat} {ds : List PyData} {d : PyData} (h1 : E K U H0 σ te (.tuple ds)) (h2 : E K U H0 σ ti (.int i)) (e : ds[i]? = some d) : E K U H0 σ (tOp (rIxT K) te ti) d := fun H Q f sm q => by
  refine h1 H _ f sm fun v H1 s1 d1 => ?_
  refine h2 H1 _ (f.grow s1) (sm.trans s1) fun u H2 s2 d2 => ?_
  have d1 := d1.same (vis_grow s2)
  cases d2
  cases d1 with
  | @tup l vs _ hl hlz hvs =>
    obtain ⟨y, ey, dy⟩ := hvs.get e
    exact ⟨l, vs, i, y, rfl, rfl, SqT.of (vis_of hl).2, atI_nat ey, q _ _ (s1.trans s2) dy⟩
end Ev
namespace Pw
open PySem PySem.Spec PyProof.Rows L2
/-! ### list(text) -/
def lettersV (x : Str) : List V := x.cps.toList.map fun c => V.str ⟨#[c]⟩
theorem call_listText {X : Cx} (hc : X.calm = true) : CallR X (.type "list") (fun xs H Q => ∃ x, xs = [.str x] ∧ x.cps.size ≤ sizeLine ∧ ∀ l, H l = none → Q (.ref l) (upd H l (.lst (lettersV x)))) := by
  intro pins s σ H xs us Q I r h
  obtain ⟨x, rfl, hz, q⟩ := h
  obtain ⟨u, rfl, rx⟩ := vals1 r
  obtain ⟨t, rfl⟩ := rx
  refine PySem.call_list_str (I.ok.hd hc) x t (fun h' tk acc' c' keep e items => ?_) hz
  have v : Vals (lettersV x) acc'.toList := by
    obtain ⟨size, at_⟩ := items
    have all : ∀ (n : Nat), n ≤ x.cps.size → Vals ((x.cps.toList.take n).map fun c => V.str ⟨#[c]⟩) (acc'.toList.take n) := by
      intro n
      induction n with
      | zero => intro _; exact .nil
      | succ n ih =>
        intro hn
        have l1 : n < acc'.size := by omega
        have l2 : n < x.cps.size := by omega
        obtain ⟨c, u, e1, e2⟩ := at_ n acc'[n] (Array.getElem?_eq_getElem l1)
        rw [List.take_add_one, List.take_add_one]
        have f1 : x.cps.toList[n]? = some c := by rw [Array.getElem?_toList]; exact e1
        have f2 : acc'.toList[n]? = some acc'[n] := by rw [Array.getElem?_toList]; exact Array.getElem?_eq_getElem l1
        rw [f1, f2, List.map_append]
        refine (ih (by omega)).append (.cons ?_ .nil)
        rw [e2]
        exact ⟨u, rfl⟩
    have := all x.cps.size (Nat.le_refl _)
    rwa [List.take_of_length_le (by simp), List.take_of_length_le (by simp [size])] at this
  refine ⟨.ref s.heap.objs.size, _, I.laid (t' := tk) keep (Nat.le_refl _) (show ObjOk X.prog X.w _ h' _ (.lst (lettersV x)) from ⟨?_, acc'.toList, c', v, by rw [Array.toArray_toList]; exact e⟩), rfl, q _ (I.hok.fresh (Nat.le_refl _))⟩
  unfold lettersV
  rw [List.length_map, Array.length_toList]
  exact hz
end Pw
set_option maxHeartbeats 2000000
/-! displays of values that are handed in as names -/
namespace Nv
open PySem PySem.Spec PyProof.Rows L2 Pw Ev
inductive NmAll (K : PySem.W.Frag) (H : Hp) : List V → List Nm → Prop
  | nil : NmAll K H [] []
  | cons {v : V} {nm : Nm} {vs : List V} {nms : List Nm} : NmV K H v nm → NmAll K H vs nms → NmAll K H (v :: vs) (nm :: nms)
theorem NmAll.same {K : PySem.W.Frag} {H H' : Hp} (s : Same H H') : ∀ {nms : List Nm} {vs : List V}, NmAll K H vs nms → NmAll K H' vs nms
  | [], _, h => by cases h; exact .nil
  | _ :: _, _, h => by
    cases h with
    | cons h1 h2 => exact .cons (h1.same s) (h2.same s)
theorem NmAll.length {K : PySem.W.Frag} {H : Hp} : ∀ {nms : List Nm} {vs : List V}, NmAll K H vs nms → vs.length = nms.length
  | [], _, h => by cases h; rfl
  | _ :: _, _, h => by
    cases h with
    | cons h1 h2 => rw [List.length_cons, List.length_cons, h2.length]
theorem NmAll.append {K : PySem.W.Frag} {H : Hp} : ∀ {ns ms : List Nm} {vs us : List V}, NmAll K H vs ns → NmAll K H us ms → NmAll K H (vs ++ us) (ns ++ ms)
  | [], _, _, _, h, q => by cases h; exact q
  | _ :: _, _, _, _, h, q => by
    cases h with
    | cons h1 h2 => exact .cons h1 (h2.append q)
theorem NmAll.getV {K : PySem.W.Frag} {H : Hp} : ∀ {nms : List Nm} {vs : List V} {i : Nat} {v : V}, NmAll K H vs nms → vs[i]? = some v → ∃ nm, nms[i]? = some nm ∧ NmV K H v nm
  | [], _, _, _, h, e => by
    cases h
    simp at e
  | _ :: _, _, 0, _, h, e => by
    cases h with
    | cons h1 h2 =>
      simp at e
      subst e
      exact ⟨_, rfl, h1⟩
  | _ :: _, _, i + 1, _, h, e => by
    cases h with
    | cons h1 h2 => exact NmAll.getV (i := i) h2 (by simpa using e)
variable {K : PySem.W.Frag} {U : Addr → Bool} {H0 : Hp} {σ : L2.St}
def E (K : PySem.W.Frag) (U : Addr → Bool) (H0 : Hp) (σ : L2.St) (te : TE) (nm : Nm) : Prop :=
  ∀ (H : Hp) (Q : VK), Fresh U H → Same (vis U H0) H → (∀ v H', Same H H' → NmV K (vis U H') v nm → Q v H') → te σ H Q
def A (K : PySem.W.Frag) (U : Addr → Bool) (H0 : Hp) (σ : L2.St) (ta : TA) (nms : List Nm) : Prop :=
  ∀ (H : Hp) (Q : List V → Hp → Prop), Fresh U H → Same (vis U H0) H → (∀ vs H', Same H H' → NmAll K (vis U H') vs nms → Q vs H') → ta σ H Q
def Ls (K : PySem.W.Frag) (U : Addr → Bool) (H0 : Hp) (σ : L2.St) (te : TE) (nms : List Nm) : Prop :=
  ∀ (H : Hp) (Q : VK), Fresh U H → Same (vis U H0) H → (∀ l xs H', Same H H' → vis U H' l = some (.lst xs) → NmAll K (vis U H') xs nms → Q (.ref l) H') → te σ H Q
theorem dat {te : TE} {d : PyData} (h : Ev.E K U H0 σ te d) (hd : dpB 5 d = true := by rfl) : E K U H0 σ te (.dat d) := fun H Q f sm q => h H _ f sm fun v H' s dv => q v H' s (.dat dv hd)
theorem nil : A K U H0 σ tNil [] := fun H Q _ _ q => q _ _ (Same.refl _) .nil
theorem cons {te : TE} {ta : TA} {nm : Nm} {nms : List Nm} (h1 : E K U H0 σ te nm) (h2 : A K U H0 σ ta nms) : A K U H0 σ (tCons te ta) (nm :: nms) := fun H Q f sm q => by
  refine h1 H _ f sm fun v H1 s1 d1 => ?_
  exact h2 H1 _ (f.grow s1) (sm.trans s1) fun vs H2 s2 d2 => q _ H2 (s1.trans s2) (.cons (d1.same (vis_grow s2)) d2)
theorem lst {ta : TA} {nms : List Nm} (h : A K U H0 σ ta nms) (hz : nms.length ≤ 1000 := by exact Nat.le_of_ble_eq_true rfl) : Ls K U H0 σ (tLst ta) nms := fun H Q f sm q => by
  refine h H _ f sm fun vs H1 s1 d1 => ?_
  have hl := d1.length
  refine ⟨by rw [hl]; exact Nat.le_of_lt (low1000 hz), fun t nt => q t vs _ (s1.trans (same_upd nt)) (vis_at (f.grow s1 t nt) upd_same) (d1.same (vis_grow (same_upd nt)))⟩
theorem var {i : Nat} {l : Addr} {xs : List V} {nms : List Nm} (hs : σ[i]? = some (some (.ref l))) (hl : vis U H0 l = some (.lst xs)) (hd : NmAll K (vis U H0) xs nms) : Ls K U H0 σ (tVar i) nms := fun H Q _ sm q =>
  ⟨_, hs, q l xs H (Same.refl _) (vis_mono sm _ _ hl) (hd.same (vis_mono sm))⟩
theorem cat {te tf : TE} {ds es : List Nm} (h1 : Ls K U H0 σ te ds) (h2 : Ls K U H0 σ tf es) (hz : ds.length + es.length ≤ 1000 := by exact Nat.le_of_ble_eq_true rfl) : Ls K U H0 σ (tOp rCat te tf) (ds ++ es) := fun H Q f sm q => by
  refine h1 H _ f sm fun l vs H1 s1 hl d1 => ?_
  refine h2 H1 _ (f.grow s1) (sm.trans s1) fun m us H2 s2 hm d2 => ?_
  have d1 := d1.same (vis_grow s2)
  have hl := vis_grow s2 _ _ hl
  refine ⟨l, m, vs, us, rfl, rfl, (vis_of hl).2, (vis_of hm).2, ?_, fun p np => ?_⟩
  · rw [d1.length, d2.length]
    exact Nat.le_of_lt (low1000 hz)
  · exact q p _ _ ((s1.trans s2).trans (same_upd np)) (vis_at (f.grow (s1.trans s2) p np) upd_same) ((d1.append d2).same (vis_grow (same_upd np)))
/-! dicts -/
inductive PrsE (K : PySem.W.Frag) (U : Addr → Bool) (H0 : Hp) (σ : L2.St) : List (TE × TE) → List (Key × PyData) → Prop
  | nil : PrsE K U H0 σ [] []
  | cons {k : Key} {te : TE} {d : PyData} {ts : List (TE × TE)} {es : List (Key × PyData)} : Ev.E K U H0 σ te d → PrsE K U H0 σ ts es → PrsE K U H0 σ ((tC (kV k), te) :: ts) ((k, d) :: es)
theorem pairs : ∀ {ts : List (TE × TE)} {es : List (Key × PyData)}, PrsE K U H0 σ ts es → ∀ (H : Hp) (Q : List (V × V) → Hp → Prop), Fresh U H → Same (vis U H0) H →
    (∀ (kvs : List (Key × V)) H', Same H H' → KvAll K (vis U H') kvs es → Q (kvs.map fun kv => (kV kv.1, kv.2)) H') → tPairs ts σ H Q
  | [], [], .nil, H, Q, _, _, q => q [] H (Same.refl _) .nil
  | _ :: _, _ :: _, .cons (k := k) he hr, H, Q, f, sm, q => by
    show tC (kV k) σ H _
    refine he H _ f sm fun v H1 s1 d1 => ?_
    refine pairs hr H1 _ (f.grow s1) (sm.trans s1) fun kvs H2 s2 d2 => ?_
    exact q ((k, v) :: kvs) H2 (s1.trans s2) (.cons (d1.same (vis_grow s2)) d2)
theorem merge_new : ∀ (kvs acc : List (Key × V)), ((acc ++ kvs).map (·.1)).Nodup → mergeK acc kvs = acc ++ kvs
  | [], acc, _ => by
    rw [List.append_nil]
    rfl
  | (k, v) :: r, acc, nd => by
    have fresh : (acc.any fun kv => decide (kv.1 = k)) = false := by
      rw [List.any_eq_false]
      intro p hp z
      have e := of_decide_eq_true z
      rw [List.map_append, List.nodup_append] at nd
      exact nd.2.2 p.1 (List.mem_map_of_mem (f := (·.1)) hp) k (by rw [List.map_cons]; exact List.mem_cons_self) e
    show mergeK (putK acc k v) r = _
    have e1 : putK acc k v = acc ++ [(k, v)] := by
      unfold putK
      rw [fresh]
      rfl
    have e2 : acc ++ (k, v) :: r = (acc ++ [(k, v)]) ++ r := by
      rw [List.append_assoc]
      rfl
    rw [e1, e2]
    exact merge_new r _ (by rw [← e2]; exact nd)
theorem hid_vis {p : Addr} {u : HO} {H : Hp} : Same (hid p (vis U H)) (vis U (upd H p u)) := fun b o e => by
  have e1 := hid_of e
  have e2 := vis_of e1.2
  exact vis_at e2.1 (by rw [upd_ne e1.1]; exact e2.2)
theorem disp {ts : List (TE × TE)} {es : List (Key × PyData)} (h : PrsE K U H0 σ ts es) (hl : es.length ≤ 15 := by exact Nat.le_of_ble_eq_true rfl) (hz : (es.all fun p => dpB 5 p.2) = true := by rfl) (nd : (es.map (·.1)).Nodup := by decide +kernel) : E K U H0 σ (tDisp ts) (.dct es) := fun H Q f sm q => by
  intro p np
  have up := f p np
  refine pairs h (upd H p (.dK [])) _ (f.grow (same_upd np)) (sm.trans (same_upd np)) fun kvs H2 s2 d2 => ?_
  have hp : H2 p = some (.dK []) := s2 _ _ upd_same
  refine ⟨hp, kvs, rfl, by rw [d2.length]; exact hl, ?_⟩
  have em : mergeK [] kvs = kvs := merge_new kvs [] (by rw [List.nil_append, d2.keys]; exact nd)
  rw [em]
  refine q _ _ (fun b o e => ?_) (.dct (vis_at up upd_same) ?_)
  · rw [upd_ne (ne_of_none e np)]
    exact s2 _ _ (same_upd np _ _ e)
  · exact (d2.off (vis_at up hp) hz).same hid_vis
theorem dnew : E K U H0 σ tDNewK (.dct []) := fun H Q f sm q p np => q _ _ (same_upd np) (.dct (vis_at (f p np) upd_same) .nil)
end Nv
set_option maxHeartbeats 2000000
/-! the law's call at the very place where it is made: nothing is being told by repr there -/
namespace Rn
open PySem PySem.Spec PyProof.Rows L2 LamX
abbrev listObj (us : List Value) : Obj := { cls := .type "list", data := .seq us.toArray }
abbrev tabObj0 : Obj := { cls := .none, data := .fields #[] }
/-- what is known at the entry: the script, where it is none of the module's own objects, and the tables -/
def first (K : PySem.W.Frag) (a : Addr) (us : List Value) (zs : List Int) (tabs : List Addr) : Hp := fun b =>
  if b = a then (if (K.lookup a).isNone = true then some (.frz (listObj us) (.lst (zs.map V.int))) else none) else if b ∈ tabs then some (.tbl #[]) else none
section
variable {K : PySem.W.Frag} {a : Addr} {us : List Value} {zs : List Int} {tabs : List Addr} {h : Heap}
theorem first_tab (na : a ∉ tabs) {b : Addr} (hb : b ∈ tabs) : first K a us zs tabs b = some (.tbl #[]) := by
  have ne : b ≠ a := fun z => na (z ▸ hb)
  unfold first
  rw [if_neg ne, if_pos hb]
theorem first_off {b : Addr} (h1 : b ≠ a) (h2 : b ∉ tabs) : first K a us zs tabs b = none := by
  unfold first
  rw [if_neg h1, if_neg h2]
theorem first_own (e : K.lookup a = none) : first K a us zs tabs a = some (.frz (listObj us) (.lst (zs.map V.int))) := by
  unfold first
  rw [if_pos rfl, e]
  rfl
theorem first_top {o : Obj} (e : K.lookup a = some o) : first K a us zs tabs a = none := by
  unfold first
  rw [if_pos rfl, e]
  rfl
/-- where something is known it is the script or a table -/
theorem first_known {b : Addr} {u : HO} (e : first K a us zs tabs b = some u) : (b = a ∧ K.lookup a = none ∧ u = .frz (listObj us) (.lst (zs.map V.int))) ∨ (b ≠ a ∧ b ∈ tabs ∧ u = .tbl #[]) := by
  by_cases hb : b = a
  · subst hb
    cases hk : K.lookup b with
    | none =>
      rw [first_own hk] at e
      exact .inl ⟨rfl, rfl, (Option.some.inj e).symm⟩
    | some o =>
      rw [first_top hk] at e
      cases e
  · by_cases ht : b ∈ tabs
    · unfold first at e
      rw [if_neg hb, if_pos ht] at e
      exact .inr ⟨hb, ht, (Option.some.inj e).symm⟩
    · rw [first_off hb ht] at e
      cases e
end
theorem law_run {P : Program} {w : World} {K : PySem.W.Frag} {mg mb : Str → Option Value} {fa a : Addr} {cs : List (Addr × Addr)} {s : Shared} {us : List Value} {zs : List Int}
    (top : K.In s.heap) (glob : s.heap.Ns mainGlobals mg) (blt : s.heap.Ns builtinsNs mb) (same : ∀ x : Str, x ≠ "__name__" → mb x = bootBuiltins x) (free : s.heap.NoLimit) (gens : s.gens = #[])
    (tabAt : ∀ p ∈ cs, s.heap.get? p.2 = some tabObj0) (tabOff : ∀ p ∈ cs, K.lookup p.2 = none) (code : ∀ p ∈ cs, PySem.W.CodeHd s.heap p.1 p.2)
    (main : ∃ (bm : Addr) (ob : Obj), mg "__builtins__" = some (.ref bm) ∧ bm ≠ builtinsNs ∧ s.heap.get? bm = some ob ∧ ob.cls = .type "module" ∧ ob.dict = some builtinsNs ∧ ob.data = .plain)
    (script : s.heap.get? a = some (listObj us)) (scriptInts : IntsAre us zs) (short : zs.length ≤ sizeLine)
    (F : ∀ base : Heap, K.In base → base.Ns mainGlobals mg → (∀ p ∈ cs, TabB base mg p.1 p.2) → ∀ H : Hp, (∀ p ∈ cs, H p.2 = some (.tbl #[])) → SqL K H a (zs.map V.int) → Env0 P w K mg base callerA [] s H →
      codeAny (model P w) callerA (.call (.ref fa) ⟨[.ref a], []⟩) (CR CX0 [] P w H s (fun v _ => v = .bl true) E0) s) :
    codeAny (model P w) callerA (.call (.ref fa) ⟨[.ref a], []⟩) (fun r s' => r = .ok (.ret (.bool true)) ∧ OldK s.heap s'.heap ∧ s'.os = s.os ∧ AllBare s'.gens) s := by
  have rel := L2.vals_ints scriptInts
  have isTab : ∀ b ∈ cs.map (·.2), s.heap.get? b = some tabObj0 := fun b hb => by
    obtain ⟨p, hp, rfl⟩ := List.mem_map.mp hb
    exact tabAt p hp
  have aOff : a ∉ cs.map (·.2) := fun z => by
    have e := script.symm.trans (isTab a z)
    have d := congrArg Obj.data (Option.some.inj e)
    cases d
  obtain ⟨H, eH⟩ : ∃ H, first K a us zs (cs.map (·.2)) = H := ⟨_, rfl⟩
  have known : ∀ {b u}, H b = some u → (b = a ∧ K.lookup a = none ∧ u = .frz (listObj us) (.lst (zs.map V.int))) ∨ (b ≠ a ∧ b ∈ cs.map (·.2) ∧ u = .tbl #[]) := fun e => first_known (by rw [eH]; exact e)
  have tabH : ∀ p ∈ cs, H p.2 = some (.tbl #[]) := fun p hp => by
    rw [← eH]
    exact first_tab aOff (List.mem_map_of_mem (f := (·.2)) hp)
  -- an object that is no list and no empty table is not known
  have other : ∀ {b o}, s.heap.get? b = some o → (∀ xs n, o.data ≠ .seq xs n) → o.data ≠ .fields #[] → H b = none := fun {b o} e n1 n2 => by
    cases q : H b with
    | none => rfl
    | some u =>
      rcases known q with ⟨rfl, _, _⟩ | ⟨_, hb, _⟩
      · rw [script] at e
        cases e
        exact absurd rfl (n1 _ _)
      · rw [isTab b hb] at e
        cases e
        exact absurd rfl n2
  have dictOff : ∀ {b o es ep}, s.heap.get? b = some o → o.data = .dict es ep → H b = none := fun e d => other e (fun xs n z => by rw [d] at z; cases z) fun z => by rw [d] at z; cases z
  have stays : ∀ {b o}, s.heap.get? b = some o → H b = none → (L2.hidT s.heap H).get? b = some o := fun e n => hidT_get e n
  have ns : ∀ {b m}, s.heap.Ns b m → (L2.hidT s.heap H).Ns b m := fun h => by
    obtain ⟨o, es, ep, e, d, r⟩ := h
    exact ⟨o, es, ep, stays e (dictOff e d), d, r⟩
  have kin : K.In (L2.hidT s.heap H) := fun b o e => stays (top b o e) (by
    cases q : H b with
    | none => rfl
    | some u =>
      rcases known q with ⟨rfl, hk, _⟩ | ⟨_, hb, _⟩
      · rw [hk] at e
        cases e
      · obtain ⟨p, hp, rfl⟩ := List.mem_map.mp hb
        rw [tabOff p hp] at e
        cases e)
  have mod : L2.Mod K mg (L2.hidT s.heap H) := ⟨kin, ns glob, ⟨mb, ns blt, same⟩, by
    obtain ⟨mc, n1, n2⟩ := free
    exact ⟨mc, ns n1, n2⟩⟩
  have hok : HOk P w H s.heap := fun b u e => by
    rcases known e with ⟨rfl, _, rfl⟩ | ⟨_, hb, rfl⟩
    · exact ⟨script, by rw [List.length_map]; exact short, us, _, rel, script⟩
    · exact isTab b hb
  have seq : SqL K H a (zs.map V.int) := by
    cases hk : K.lookup a with
    | none =>
      refine .inl (.inr ⟨listObj us, ?_⟩)
      rw [← eH]
      exact first_own hk
    | some o =>
      have e := (top a o hk).symm.trans script
      cases e
      exact .inr ⟨_, us.toArray, _, hk, rfl, rfl, rfl, by rw [List.size_toArray, scriptInts.length]; exact short, by simpa using rel⟩
  have tb : ∀ p ∈ cs, TabB (L2.hidT s.heap H) mg p.1 p.2 := fun p hp => by
    have tp := tabAt p hp
    have notDict : ∀ {b m}, s.heap.Ns b m → b ≠ p.2 := fun h z => by
      obtain ⟨o, es, ep, e, d, _⟩ := h
      rw [z, tp] at e
      cases e
      cases d
    refine ⟨?_, ?_, notDict glob⟩
    · obtain ⟨o, vs, c1, c2, c3, c4, c5, c6, c7, e1, r1, r2, r3, rest⟩ := code p hp
      refine ⟨o, vs, c1, c2, c3, c4, c5, c6, c7, stays e1 (other e1 (fun xs n z => ?_) fun z => ?_), r1, r2, r3, rest⟩
      · exact nomatch r2.symm.trans z
      · have ev := r2.symm.trans z
        injection ev with ev
        rw [ev] at r3
        simp at r3
    · obtain ⟨bm, ob, g1, g2, g3, g4, g5, g6⟩ := main
      have plain : H bm = none := other g3 (fun xs n z => nomatch g6.symm.trans z) fun z => nomatch g6.symm.trans z
      refine ⟨bm, ob, g1, g2, fun z => ?_, fun z => ?_, stays g3 plain, g4, g5, g6⟩
      · obtain ⟨o, es, ep, e, d, _⟩ := id glob
        rw [z, e] at g3
        cases g3
        exact nomatch d.symm.trans g6
      · rw [z, tp] at g3
        cases g3
        cases g6
  have env : Env0 P w K mg (L2.hidT s.heap H) callerA [] s H := ⟨rfl, mod, fun b o e => of_hidT e, Nat.le_of_eq (hidT_size _ _), trivial, fun b hb => (List.not_mem_nil hb).elim, hok, .of_eq gens⟩
  refine codeAny_mono (F _ kin (ns glob) tb H tabH seq env) fun r s' out => ?_
  match r, out with
  | .ok (.ret u), out =>
    obtain ⟨v, H', os, bare, un, hok', rv, rfl⟩ := out
    cases (show u = Value.bool true from rv)
    have keeps : ∀ b o, b ∉ cs.map (·.2) → s.heap.get? b = some o → s'.heap.get? b = some o := fun b o nb e => by
      cases q : H b with
      | none => exact un.keep b o e q (fun z => (List.not_mem_nil z).elim) (fun z => (List.not_mem_nil z).elim)
      | some u =>
        rcases known q with ⟨rfl, _, rfl⟩ | ⟨_, hb, _⟩
        · have later := (hok' b _ (un.frzs b _ _ q)).1
          rw [script] at e
          cases e
          exact later
        · exact absurd hb nb
    have grown : ∀ p ∈ cs, ∃ more : Array Value, s'.heap.get? p.2 = some { cls := .none, data := .fields more } := fun p hp => by
      obtain ⟨more, e⟩ := un.tbls p.2 #[] (tabH p hp)
      exact ⟨_, hok' p.2 _ e⟩
    refine ⟨rfl, ⟨fun b o e => ?_, fun b o e => ?_⟩, os, bare⟩ <;> by_cases hb : b ∈ cs.map (·.2)
    · obtain ⟨p, hp, rfl⟩ := List.mem_map.mp hb
      obtain ⟨more, hm⟩ := grown p hp
      rw [tabAt p hp] at e
      cases e
      exact .inr (.inl ⟨((code p hp).tab (tabAt p hp)).isCodeTable, rfl, #[], more, rfl, by rw [Array.empty_append]; exact hm⟩)
    · exact .inl (keeps b o hb e)
    · obtain ⟨p, hp, rfl⟩ := List.mem_map.mp hb
      obtain ⟨more, hm⟩ := grown p hp
      exact ⟨_, hm⟩
    · exact ⟨o, keeps b o hb e⟩
  | .error e, out => exact (show False from out).elim
  | .ok .next, out => exact (show False from out).elim
  | .ok .brk, out => exact (show False from out).elim
  | .ok .cont, out => exact (show False from out).elim
end Rn
namespace Rn
open PySem PySem.Spec PyProof.Rows L2 LamX
/-- the table of the def at f is empty, its code object is laid as it should -/
def Empty (K : PySem.W.Frag) (f : Addr) (h : Heap) : Prop := ∀ (c T : Addr) (o : Obj) (fd : FuncData) (cl : Value) (dd : Option Addr) (vs : Array Value) (sl : Array (Option Value)),
  K.lookup f = some o → o.data = .func fd → fd.code = .ref c → K.lookup c = some ⟨cl, dd, .fields vs, sl⟩ → vs[11]? = some (.ref T) → h.get? T = some tabObj0 ∧ PySem.W.CodeHd h c T
theorem walk_run {l : PySem.W.OpenLaw} {n : Nat} {q : Program} {loose : List Str} {XP : (Str → Option Value) → Heap → Prop} {YP : World → Heap → Prop} {d : DefRec} {K : Params → PySem.W.Frag} {names : List Str}
    (most : l.most = some n) (small : n ≤ sizeLine) (noDef : d.params.defaults = []) (recs : ∀ x ∈ names, ((recsOf q).any fun e => e.name == x) = true) (kin : ∀ (w : World) (h : Heap), YP w h → (K w.params).In h)
    (F : ∀ (w : World) (mg : Str → Option Value) (fa : Addr) (h : Heap), YP w h → (K w.params).In h → h.Ns mainGlobals mg → mg d.name = some (.ref fa) → (∀ x ∈ names, ∀ f, mg x = some (.ref f) → Empty (K w.params) f h) →
      ∃ cs : List (Addr × Addr), (∀ p ∈ cs, h.get? p.2 = some tabObj0) ∧ (∀ p ∈ cs, (K w.params).lookup p.2 = none) ∧ (∀ p ∈ cs, PySem.W.CodeHd h p.1 p.2) ∧
        ∀ (base : Heap), (K w.params).In base → base.Ns mainGlobals mg → (∀ p ∈ cs, TabB base mg p.1 p.2) → ∀ (s : Shared) (H : Hp) (a : Addr) (zs : List Int), zs.length ≤ n → (∀ p ∈ cs, H p.2 = some (.tbl #[])) → SqL (K w.params) H a (zs.map V.int) → Env0 l.prog w (K w.params) mg base callerA [] s H →
          codeAny (model l.prog w) callerA (.call (.ref fa) ⟨[.ref a], []⟩) (CR CX0 [] l.prog w H s (fun v _ => v = .bl true) E0) s) :
    PySem.W.WalkO q loose XP YP l.row.toRowW d [] (fun f vs => PySem.call f vs) := by
  refine Att.attach_callB most noDef fun w s0 s mg mb fa o pm cd doc a us zs G Y ho hd hcd hmg obj scriptInts len bits gens => ?_
  have top := kin w _ Y
  have empty : ∀ x ∈ names, ∀ f, mg x = some (.ref f) → Empty (K w.params) f s.heap := fun x hx f hf c T o1 fd cl dd vs sl k1 k2 k3 k4 k5 => by
    obtain ⟨r, hr, same⟩ := List.any_eq_true.mp (recs x hx)
    obtain ⟨f2, o2, fd2, c2, T2, g1, g2, g3, g4, g5, g6⟩ := G.T.tab r hr
    rw [beq_iff_eq.mp same, hf] at g1
    cases g1
    cases (top _ _ k1).symm.trans g2
    cases k2.symm.trans g3
    cases k3.symm.trans g4
    have hd := PySem.W.CodeHd.of g5 g6
    obtain ⟨⟨oc, vc, e1, _, e3, e4⟩, tab⟩ := g6
    cases (top _ _ k4).symm.trans e1
    cases e3
    cases k5.symm.trans e4
    exact ⟨tab, hd⟩
  obtain ⟨cs, t1, t2, t3, run⟩ := F w mg fa _ Y top G.T.g hmg empty
  exact law_run top G.T.g G.T.b G.T.builtins G.T.nolimit gens t1 t2 t3 G.T.bmain obj scriptInts (Nat.le_trans len small) fun base k1 k2 k3 H k4 k5 e => run base k1 k2 k3 s H a zs len k4 k5 e
end Rn
set_option maxHeartbeats 4000000
/-! the law's own body -/
namespace Pw
open PySem PySem.Spec PyProof.Rows L2 LamX Own Ev
abbrev sLaw7 : Stmt := topS 65
abbrev lawN7 : List Str := ["_law_script", "_law_cell", "_law_source", "_law_nodes", "_law_net", "_law_wrong", "_law_names", "_law_kept", "_law_good"]
theorem scLaw7 : FnScope lawN7 ["_law_script"] (defScope sLaw7) := ⟨rfl, rfl, rfl, by decide +kernel, rfl, by decide +kernel, by decide +kernel⟩
def wrongs : List Nm := [(.dat .none), (.dat (.list [])), (.dat (.list [(.str "x"), (.str "y"), (.str "z")])), (.dct []), (.dct [(.inr "a", (.str "x")), (.inr "b", (.str "y"))]), (.dct [(.inr "a", (.str "x")), (.inr "b", (.str "y")), (.inr "d", (.str "z"))]), (.dct [(.inr "a", (.str "x")), (.inr "b", (.str "x")), (.inr "c", (.str "z"))]), (.dct [(.inr "a", (.str "x")), (.inr "b", (.str "y")), (.inr "c", (.str "z")), (.inr "d", (.str "w"))]), (.dct [(.inr "a", (.str "x")), (.inr "b", (.str "Y")), (.inr "c", (.str "z"))]), (.dct [(.inr "a", (.str "x")), (.inr "b", .none), (.inr "c", (.str "z"))]), (.dct [(.inr "a", (.str "x")), (.inr "b", (.str "a b")), (.inr "c", (.str "z"))]), (.dct [(.inr "a", (.str "x1")), (.inr "b", (.str "y")), (.inr "c", (.str "z"))]), (.dct [(.inr "a", (.str "x")), (.inr "b", (.str "y")), (.inr "c", (.str "z_"))]), (.dct [(.inr "a", (.str "x")), (.inr "b", (.str "")), (.inr "c", (.str "z"))]), (.dct [(.inr "a", (.str "x")), (.inr "b", (.list [(.str "y")])), (.inr "c", (.str "z"))]), (.dct [(.inr "a", (.int 1)), (.inr "b", (.int 2)), (.inr "c", (.int 3))]), (.dat (.str "abc")), (.dat (.int 5)), (.dct [(.inr "a", (.str "x")), (.inr "b", (.str "y")), (.inl 3, (.str "z"))]), (.dct [(.inr "a", (.str "x")), (.inr "b", (.str "abcdefghijklm")), (.inr "c", (.str "z"))]), (.dat (.list [(.tuple [(.str "a"), (.str "x")])])), (.dct [(.inr "a", (.str "a")), (.inr "b", (.str "b")), (.inr "c", (.str "a"))])]
def wrong0 : List Nm := [(.dat .none), (.dat (.list [])), (.dat (.list [(.str "x"), (.str "y"), (.str "z")])), (.dct []), (.dct [(.inr "a", (.str "x")), (.inr "b", (.str "y"))])]
def wrong1 : List Nm := [(.dct [(.inr "a", (.str "x")), (.inr "b", (.str "y")), (.inr "d", (.str "z"))]), (.dct [(.inr "a", (.str "x")), (.inr "b", (.str "x")), (.inr "c", (.str "z"))])]
def wrong2 : List Nm := [(.dct [(.inr "a", (.str "x")), (.inr "b", (.str "y")), (.inr "c", (.str "z")), (.inr "d", (.str "w"))]), (.dct [(.inr "a", (.str "x")), (.inr "b", (.str "Y")), (.inr "c", (.str "z"))])]
def wrong3 : List Nm := [(.dct [(.inr "a", (.str "x")), (.inr "b", .none), (.inr "c", (.str "z"))]), (.dct [(.inr "a", (.str "x")), (.inr "b", (.str "a b")), (.inr "c", (.str "z"))])]
def wrong4 : List Nm := [(.dct [(.inr "a", (.str "x1")), (.inr "b", (.str "y")), (.inr "c", (.str "z"))]), (.dct [(.inr "a", (.str "x")), (.inr "b", (.str "y")), (.inr "c", (.str "z_"))])]
def wrong5 : List Nm := [(.dct [(.inr "a", (.str "x")), (.inr "b", (.str "")), (.inr "c", (.str "z"))]), (.dct [(.inr "a", (.str "x")), (.inr "b", (.list [(.str "y")])), (.inr "c", (.str "z"))])]
def wrong6 : List Nm := [(.dct [(.inr "a", (.int 1)), (.inr "b", (.int 2)), (.inr "c", (.int 3))]), (.dat (.str "abc")), (.dat (.int 5))]
def wrong7 : List Nm := [(.dct [(.inr "a", (.str "x")), (.inr "b", (.str "y")), (.inl 3, (.str "z"))]), (.dct [(.inr "a", (.str "x")), (.inr "b", (.str "abcdefghijklm")), (.inr "c", (.str "z"))])]
def wrong8 : List Nm := [(.dat (.list [(.tuple [(.str "a"), (.str "x")])])), (.dct [(.inr "a", (.str "a")), (.inr "b", (.str "b")), (.inr "c", (.str "a"))])]
def ns0 : List Nd := [⟨"a", "row", [(.list [(.int 1)])], []⟩, ⟨"b", "fault", [(.int 0), (.str "a")], ["a"]⟩, ⟨"c", "closing", [(.str "b")], ["b"]⟩]
def ns1 : List Nd := [⟨"b", "row", [(.list [(.int 1)])], []⟩, ⟨"c", "fault", [(.int 0), (.str "a")], ["b"]⟩, ⟨"a", "closing", [(.str "b")], ["c"]⟩]
def goodE : List (Key × PyData) := [(.inr "c", (.str "a")), (.inr "a", (.str "b")), (.inr "b", (.str "c"))]
def sameE : List (Key × PyData) := [(.inr "a", (.str "a")), (.inr "b", (.str "b")), (.inr "c", (.str "c"))]

theorem wrong_all : wrongs = wrong0 ++ wrong1 ++ wrong2 ++ wrong3 ++ wrong4 ++ wrong5 ++ wrong6 ++ wrong7 ++ wrong8 := rfl
/-- tells, as one look -/
def tellsB : Nm → Bool
  | .dat d => !d.hasDict && d.showable && decide (d.depth ≤ 60) && decide (cost d ≤ 1000000) && okS d
  | .dct es => PyData.showable (.dict (kvD es)) && decide (PyData.depth (.dict (kvD es)) ≤ 60) && decide ((dictText (PyData.shownKv (kvD es))).length ≤ 1000) && !PyData.hasDictAll (es.map (·.2))
theorem tells_of : ∀ {nm : Nm}, tellsB nm = true → TellsN nm
  | .dat d, h => by
    have h' : (!d.hasDict && d.showable && decide (d.depth ≤ 60) && decide (cost d ≤ 1000000) && okS d) = true := h
    rw [Bool.and_eq_true, Bool.and_eq_true, Bool.and_eq_true, Bool.and_eq_true] at h'
    obtain ⟨⟨⟨⟨h1, h2⟩, h3⟩, h4⟩, h5⟩ := h'
    exact ⟨.inl (by simpa using h1), h2, of_decide_eq_true h3, of_decide_eq_true h4, h5⟩
  | .dct es, h => by
    have h' : (PyData.showable (.dict (kvD es)) && decide (PyData.depth (.dict (kvD es)) ≤ 60) && decide ((dictText (PyData.shownKv (kvD es))).length ≤ 1000) && !PyData.hasDictAll (es.map (·.2))) = true := h
    rw [Bool.and_eq_true, Bool.and_eq_true, Bool.and_eq_true] at h'
    obtain ⟨⟨⟨h1, h2⟩, h3⟩, h4⟩ := h'
    exact ⟨h1, of_decide_eq_true h2, Nat.le_trans (of_decide_eq_true h3) (by decide), by simpa using h4⟩
theorem wrong_facts : (wrongs.all fun nm => !isRen ns0 nm && okNm nm && tellsB nm) = true := by decide +kernel
theorem wrong_is {i : Nat} {nm : Nm} (h : wrongs[i]? = some nm) : isRen ns0 nm = false ∧ okNm nm = true ∧ TellsN nm := by
  have z := List.all_eq_true.mp wrong_facts nm (List.mem_of_getElem? h)
  rw [Bool.and_eq_true, Bool.and_eq_true] at z
  exact ⟨by simpa using z.1.1, z.1.2, tells_of z.2⟩
theorem ns0_ok : smB (.list (ns0.map Nd.dat)) = true ∧ checkNodes (.list (ns0.map Nd.dat)) = none ∧ limitN ns0 = none := by decide +kernel
theorem ns1_ok : smB (.list (ns1.map Nd.dat)) = true ∧ checkNodes (.list (ns1.map Nd.dat)) = none ∧ limitN ns1 = none := by decide +kernel
theorem good_ok : isRen ns0 (.dct goodE) = true ∧ okNm (.dct goodE) = true ∧ covers goodE ns0 = true := by decide +kernel
theorem same_ok : isRen ns0 (.dct sameE) = true ∧ okNm (.dct sameE) = true ∧ covers sameE ns0 = true := by decide +kernel
theorem good_ns : (ns0.map (renN goodE)).map Nd.dat = ns1.map Nd.dat := by rfl
theorem same_ns : (ns0.map (renN sameE)).map Nd.dat = ns0.map Nd.dat := by rfl
theorem shaped0 : SeqAt.shaped (.list (ns0.map Nd.dat)) = true := by decide +kernel
theorem shaped1 : SeqAt.shaped (.list (ns1.map Nd.dat)) = true := by decide +kernel
theorem nodict0 : PyData.hasDict (.list (ns0.map Nd.dat)) = false := by decide +kernel
theorem nodict1 : PyData.hasDict (.list (ns1.map Nd.dat)) = false := by decide +kernel
theorem eqv0 : PyData.eqv (.list (ns0.map Nd.dat)) (.list (ns0.map Nd.dat)) = true := by decide +kernel
theorem eqv1 : PyData.eqv (.list (ns1.map Nd.dat)) (.list (ns1.map Nd.dat)) = true := by decide +kernel
theorem good_nsE : ns0.map (renN goodE) = ns1 := by rfl
theorem same_nsE : ns0.map (renN sameE) = ns0 := by rfl
/-! what is no table stays where tables grow -/
abbrev Ext0 (H H' : Hp) : Prop := ∀ b o, H b = some o → (∀ ps, o ≠ .tbl ps) → H' b = some o
mutual
theorem Dv.ext {K : PySem.W.Frag} {H H' : Hp} (e : Ext0 H H') : ∀ {d : PyData} {v : V}, Dv K H v d → Dv K H' v d
  | .none, _, h => by cases h; exact .non
  | .bool _, _, h => by cases h; exact .bl _
  | .int _, _, h => by cases h; exact .int _
  | .str _, _, h => by cases h; exact .str _
  | .list ds, _, h => by
    cases h with
    | lst h1 hz h2 => exact .lst (e _ _ h1 (fun _ z => by cases z)) hz (DvAll.ext e h2)
  | .tuple ds, _, h => by
    cases h with
    | tup h1 hz h2 => exact .tup (e _ _ h1 (fun _ z => by cases z)) hz (DvAll.ext e h2)
  | .dict _, _, h => by
    cases h with
    | dct h1 => exact .dct (e _ _ h1 (fun _ z => by cases z))
theorem DvAll.ext {K : PySem.W.Frag} {H H' : Hp} (e : Ext0 H H') : ∀ {ds : List PyData} {vs : List V}, DvAll K H vs ds → DvAll K H' vs ds
  | [], _, h => by cases h; exact .nil
  | _ :: _, _, h => by
    cases h with
    | cons h1 h2 => exact .cons (Dv.ext e h1) (DvAll.ext e h2)
end
theorem KvAll.ext {K : PySem.W.Frag} {H H' : Hp} (e : Ext0 H H') : ∀ {es : List (Key × PyData)} {kvs : List (Key × V)}, KvAll K H kvs es → KvAll K H' kvs es
  | [], _, h => by cases h; exact .nil
  | _ :: _, _, h => by
    cases h with
    | cons h1 h2 => exact .cons (h1.ext e) (h2.ext e)
theorem NmV.ext {K : PySem.W.Frag} {H H' : Hp} (e : Ext0 H H') {v : V} {nm : Nm} (h : NmV K H v nm) : NmV K H' v nm := by
  cases h with
  | dat h1 h2 => exact .dat (h1.ext e) h2
  | dct h1 h2 => exact .dct (e _ _ h1 (fun _ z => by cases z)) (h2.ext e)
theorem NetF.ext {K : PySem.W.Frag} {H H' : Hp} {C a pd : Addr} {ns : List Nd} (e : Ext0 H H') (h : NetF K H C a pd ns) : NetF K H' C a pd ns := by
  obtain ⟨dx, v, h1, h2⟩ := h.at_
  exact ⟨⟨dx, v, e _ _ h1 (fun _ z => by cases z), h2.ext e⟩, e _ _ h.pl (fun _ z => by cases z), h.wired, h.some_, h.few⟩
theorem ext_sub {H1 H2 H3 : Hp} (s : Same H1 H2) (e : Ext0 H2 H3) : Ext0 H1 H3 := fun b o h n => e b o (s b o h) n
/-! small words -/
theorem name9 {i : Nat} {v : V} {σ : L2.St} {H : Hp} {Q : L2.St → Hp → Prop} {x0 x1 x2 x3 x4 x5 x6 x7 x8 : Option V} (e : σ.set i (some v) = [x0, x1, x2, x3, x4, x5, x6, x7, x8]) (h : Q [x0, x1, x2, x3, x4, x5, x6, x7, x8] H) : gName i v σ H Q := by
  show Q (σ.set i (some v)) H
  rw [e]
  exact h
theorem seqasg_of {te : TE} {g : TG} {u : TS} {D : Ends} {σ : L2.St} {H : Hp} (h : te σ H fun x H1 => g x σ H1 (u D)) : tSeq (tAsg te g) u D σ H := h
theorem next_of {D : Ends} {σ : L2.St} {H : Hp} (h : D.nx σ H) : tNext D σ H := h
theorem str_eq {x : Str} : (!decide (V.str x = V.str x)) = false := by
  rw [decide_eq_true rfl]
  rfl
theorem slots8 {σ : L2.St} (h : σ.length = 8) : ∃ s1 s2 s3 s4 s5 s6 s7 s8, σ = [s1, s2, s3, s4, s5, s6, s7, s8] := by
  match σ, h with
  | [s1, s2, s3, s4, s5, s6, s7, s8], _ => exact ⟨s1, s2, s3, s4, s5, s6, s7, s8, rfl⟩
theorem cells_are7 (c : Int) (ns : List Int) : ∃ ms : List Int, [V.int c] ++ cutV (ns.map V.int) (some 1) (some 4) = ms.map V.int ∧ ms.length ≤ ns.length + 1 ∧ 0 < ms.length := by
  refine ⟨c :: ((ns.drop (HT.sIx (ns.map V.int).length 0 (some 1))).take (HT.sIx (ns.map V.int).length (ns.map V.int).length (some 4) - HT.sIx (ns.map V.int).length 0 (some 1))), ?_, ?_, ?_⟩
  · unfold cutV
    rw [List.map_cons, List.map_take, List.map_drop]
    rfl
  · rw [List.length_cons, List.length_take, List.length_drop]
    omega
  · rw [List.length_cons]
    exact Nat.succ_pos _
theorem new_trans {H1 H2 H3 : Hp} (s : Same H1 H2) : Same (newOf H2 H3) (newOf H1 H3) := newOf_mono s (Same.refl _)
/-- a net is made of data that is right -/
theorem make_ok {K : PySem.W.Frag} {C CN CL : Addr} {H : Hp} {v : V} {ns : List Nd} {Q : VK} {E : XK} (hv : Dv K H v (.list (ns.map Nd.dat))) (ok : smB (.list (ns.map Nd.dat)) = true ∧ checkNodes (.list (ns.map Nd.dat)) = none ∧ limitN ns = none)
    (k : ∀ (x pd : Addr) (H' : Hp), Same H H' → H x = none → H pd = none → NetF K (newOf H H') C x pd ns → Q (.ref x) H') :
    ∀ x dx, H x = none → H dx = none → dx ≠ x → spInit K C CN CL (.ref x :: ([v] ++ [])) (upd (upd H dx (.own x)) x (.ins C dx [])) (fun r H2 => r = .non ∧ Q (.ref x) H2) E := by
  intro x dx nx ndx nexd
  have u1 : Same H (upd (upd H dx (.own x)) x (.ins C dx [])) := (same_upd ndx).trans (same_upd (by rw [upd_ne (fun e => nexd e.symm)]; exact nx))
  refine ⟨x, dx, v, _, rfl, upd_same, hv.same u1, ok.1, fun n e => ?_, fun ms e1 e2 n e3 => ?_, fun ms e1 e2 e3 H' s4 net => ?_⟩
  · rw [ok.2.1] at e
    cases e
  · have em : ms = ns := by
      have e4 : ns.map Nd.dat = ms.map Nd.dat := by
        injection e2
      exact dats_inj e4.symm
    rw [em, ok.2.2] at e3
    cases e3
  · have em : ms = ns := by
      have e4 : ns.map Nd.dat = ms.map Nd.dat := by
        injection e2
      exact dats_inj e4.symm
    subst em
    obtain ⟨dx2, v2, pd, n1, n2, n3, n4⟩ := net.at_
    have back : Same H H' := fun b o e => s4 _ _ (by
      rw [hid_ne (ne_of_none e nx)]
      exact u1 _ _ e)
    have npd : H pd = none := by
      cases z : H pd with
      | none => rfl
      | some o =>
        rw [u1 pd o z] at n3
        cases n3
    exact ⟨rfl, k x pd H' back nx npd ⟨⟨dx2, v2, newOf_at nx n1, n4.same (new_trans u1)⟩, newOf_at npd n2, net.wired, net.some_, net.few⟩⟩
theorem net_var {K : PySem.W.Frag} {C CN CL : Addr} {H : Hp} {σ : L2.St} {v : V} {ns : List Nd} {Q : VK} {E : XK} {i : Nat} (hs : σ[i]? = some (some v)) (hv : Dv K H v (.list (ns.map Nd.dat))) (ok : smB (.list (ns.map Nd.dat)) = true ∧ checkNodes (.list (ns.map Nd.dat)) = none ∧ limitN ns = none)
    (k : ∀ (x pd : Addr) (H' : Hp), Same H H' → H x = none → H pd = none → NetF K (newOf H H') C x pd ns → Q (.ref x) H') : tMake C (spInit K C CN CL) [] E (tCons (tVar i) tNil) σ H Q := ⟨v, hs, make_ok hv ok k⟩
theorem net_ev {K : PySem.W.Frag} {U : Addr → Bool} {C CN CL : Addr} {H : Hp} {σ : L2.St} {ns : List Nd} {te : TE} {Q : VK} {E : XK} (h : Ev.E K U H σ te (.list (ns.map Nd.dat))) (f : Fresh U H) (ok : smB (.list (ns.map Nd.dat)) = true ∧ checkNodes (.list (ns.map Nd.dat)) = none ∧ limitN ns = none)
    (k : ∀ (x pd : Addr) (H' : Hp), Same H H' → H x = none → H pd = none → NetF K (newOf H H') C x pd ns → Q (.ref x) H') : tMake C (spInit K C CN CL) [] E (tCons te tNil) σ H Q := by
  refine h H _ f vis_same fun v H1 s1 d1 => ?_
  have none_of : ∀ {c : Addr}, H1 c = none → H c = none := fun {c} nc => by
    cases z : H c with
    | none => rfl
    | some o =>
      rw [s1 c o z] at nc
      cases nc
  exact make_ok (d1.same vis_same) ok fun x pd H' s' nx npd N => k x pd H' (s1.trans s') (none_of nx) (none_of npd) (N.same (new_trans s1))
/-- all that the law's body calls -/
structure Calls7 (P : Program) (w : World) (K : PySem.W.Frag) (mg : Str → Option Value) (base : Heap) (C CP CB CN CL fB fi fe : Addr) (fdi fde : FuncData) : Prop where
  B : Blt mg
  R : ErrsB K mg CP CB fB
  gC : mg "Net" = some (.ref C)
  M : Mk K C fi
  FI : FnOk P w K mg base (L2.CX P w) 16 fi fdi ["self", "nodes"] (spInit K C CN CL)
  bi : Binds K fdi ["self", "nodes"] []
  T : ClsTy K C
  mE : Meth K C "__eq__" fe
  FE : FnOk P w K mg base CX0 1 fe fde ["self", "other"] (spEqN K C)
  bE : Binds K fde ["self", "other"] []
  GR : DefOk P w K mg base (L2.CX P w) 18 "renamed" ["net", "names"] (spRenamed K C CB)
  GS : DefOk P w K mg base CX0 1 "_law_source_of" ["_law_cell"] spSourceOf
  GO : DefOk P w K mg base CX0 2 "_law_one" ["_law_source", "_law_options"] (spOne K)
  GC : DefOk P w K mg base CX0 1 "_law_cell_at" ["_law_script", "_law_k"] (spCellAt K)
  DP : Dfn K mg "_law_part" sPart ["_law_call"]
theorem pe_part {X : Cx} {C CP CB CN CL fB fi fe : Addr} {fdi fde : FuncData} {TT : List (Addr × Str)} {k : Nat} {cL PL : Addr} {params : Arguments} {body : Expr} {scope : Scope} {t : XK → TE} {p lpos pos : Pos} (Cs : Calls7 X.prog X.w X.K X.mg X.base C CP CB CN CL fB fi fe fdi fde) (TB : TabB X.base X.mg cL PL) (hcode : X.env.code = .ref cL)
    (hmT : (PL, X.env.qual ++ "<lambda>") ∈ TT) (hu : ∀ p ∈ TT, p.1 = PL → p.2 = X.env.qual ++ "<lambda>") (hr : Room (k + 2) X.A) (L : LamS X.env.scope scope) (hdef : defaultsOf params X.env = ([], []))
    (hbind : ∀ (q : Str) (cl : List (Str × Addr)) (pm cv ctv : Value), bindArgs (PySem.W.kla_fn "<lambda>" q params body scope cl pm cv ctv) ⟨[], []⟩ = pure [])
    (hbody : ∀ (A : Around) (outer : List Env) (s : Shared) (H : Hp) (E : XK) (f c' : Addr), Room k (A.deeper (lamEnv X scope s.heap.objs.size f c')) → PE (lamCx X A outer s H E scope f c') body (t E)) (hgl : Gl X "_law_part" := by rfl) :
    PE X (.Call (.Name "_law_part" p) [.Lambda params body scope lpos] [] pos) (tLam TT (TPart X.K CB) t) := by
  obtain ⟨f, fd, F, m, b⟩ := Cs.DP.ex
  obtain ⟨oc, od, kV, doc, pm, an, cdv, ct, osl, rfl, lk, hcd⟩ := F.ex
  exact pe_lamcall (k := k) hgl m F.kp lk hcd b scPart rfl (.inl rfl) (part_gives Cs.B Cs.R) TB hcode hmT hu hr L hdef hbind hbody
theorem tabs_hid7 {T : List (Addr × Str)} {a : Addr} {xs : List V} {H H' : Hp} (t : Tabs T H) (ha : H a = some (.lst xs)) (e : Same (hid a H) H') : Tabs T H' := fun p hp => by
  obtain ⟨ps, h1, h2, h3⟩ := t p hp
  have ne : ∀ b o, H b = some o → o ≠ .lst xs → b ≠ a := fun b o q n z => by
    rw [z, ha] at q
    exact n (Option.some.inj q).symm
  have go : ∀ b o, H b = some o → o ≠ .lst xs → H' b = some o := fun b o q n => e b o (by
    rw [hid_ne (ne b o q n)]
    exact q)
  refine ⟨ps, go _ _ h1 (fun z => by cases z), h2, fun pos cv hc => ?_⟩
  obtain ⟨c, e1, e2⟩ := h3 pos cv hc
  exact ⟨c, e1, go _ _ e2 (fun z => by
    unfold CodeO at z
    cases z)⟩
/-- the heap without the source at a and without tables of code -/
def hidT (a : Addr) (H : Hp) : Hp := fun b => if b = a then none else match H b with
  | some (.tbl _) => none
  | o => o
section
variable {P : Program} {w : World} {K : PySem.W.Frag} {mg : Str → Option Value} {base : Heap} {C CP CB CN CL fB fi fe : Addr} {fdi fde : FuncData} {TT : List (Addr × Str)}
def spLaw7 (K : PySem.W.Frag) (TT : List (Addr × Str)) : Sp := fun vs H Q _ => ∃ (a : Addr) (ns : List Int), vs = [.ref a] ∧ SqL K H a (ns.map V.int) ∧ ns.length ≤ 63 ∧ Tabs TT H ∧ ∀ H', Q (.bl true) H'
theorem law_body7 (Cs : Calls7 P w K mg base C CP CB CN CL fB fi fe fdi fde) {cL PL f : Addr} (TB : TabB base mg cL PL) (hmL : (PL, ("law.<locals>.<lambda>" : Str)) ∈ TT) (huL : ∀ p ∈ TT, p.1 = PL → p.2 = ("law.<locals>.<lambda>" : Str))
    {A : Around} {outer : List Env} {s : Shared} {H : Hp} {vs : List V} {Q : VK} {E : XK} (hgd : (A.deeper (envOfC "law" (defScope sLaw7) s.heap.objs.size f (.ref cL))).guards = some []) (hr : Room 22 (A.deeper (envOfC "law" (defScope sLaw7) s.heap.objs.size f (.ref cL)))) (h : spLaw7 K TT vs H Q E) :
    ∃ t, PSs (cxOf CX0 P w K mg base lawN7 "law" (defScope sLaw7) f (.ref cL) A outer s H E).nox (defBody sLaw7) t ∧ t { nx := fun _ H' => Q .non H', rt := Q } (L2.start lawN7 vs) H := by
  obtain ⟨a0, ns, rfl, hS, hlen, tabs, q⟩ := h
  have nd := scLaw7.nd
  have B := Cs.B
  have hxP : Passes (L2.CX P w) (cxOf CX0 P w K mg base lawN7 "law" (defScope sLaw7) f (.ref cL) A outer s H E).nox E0 := passes_call L2.takes0 fun _ _ _ _ h => h
  refine ⟨_, (pss_cons (ps_for PassesOwn.never rfl (pi_list (pe_op op_cat (pe_lst (pa_cons (pe_def Cs.GC hr pass0 (pa_cons (pv 0) (pa_cons pe_int pa_nil))) pa_nil)) (pe_slice sl_list (pv 0) (po_some pe_int) (po_some pe_int)))) (pg_name (i := 1) nd rfl (Or.inl rfl))
        (pss_cons (ps_set (i := 2) nd rfl (.inl rfl) (pe_def Cs.GS hr pass0 (pa_cons (pv 1) pa_nil)))
          (pss_cons (ps_set (i := 3) nd rfl (.inl rfl) (pe_lst (pa_cons (pe_tup (pa_cons pe_str (pa_cons pe_str (pa_cons (pe_tup (pa_cons (pe_lst (pa_cons pe_int pa_nil)) pa_nil)) (pa_cons (pe_lst pa_nil) pa_nil))))) (pa_cons (pe_tup (pa_cons pe_str (pa_cons pe_str (pa_cons (pe_tup (pa_cons pe_int (pa_cons pe_str pa_nil))) (pa_cons (pe_lst (pa_cons pe_str pa_nil)) pa_nil))))) (pa_cons (pe_tup (pa_cons pe_str (pa_cons pe_str (pa_cons (pe_tup (pa_cons pe_str pa_nil)) (pa_cons (pe_lst (pa_cons pe_str pa_nil)) pa_nil))))) pa_nil)))))
          (pss_cons (ps_set (i := 4) nd rfl (.inr rfl) (pe_make Cs.M Cs.FI (hr.mono (by decide)) (by rfl) Cs.gC Cs.bi .nil hxP (pa_cons (pv 3) pa_nil)))
          (pss_cons (ps_set (i := 5) nd rfl (.inl rfl) (pe_lst (pa_cons pe_non (pa_cons (pe_lst pa_nil) (pa_cons (pe_lst (pa_cons pe_str (pa_cons pe_str (pa_cons pe_str pa_nil)))) (pa_cons pe_dnewK (pa_cons (pe_disp (pps_cons pe_str pe_str (pps_cons pe_str pe_str pps_nil)) rfl rfl (fun z => nomatch z) (by decide)) pa_nil)))))))
          (pss_cons (ps_set (i := 5) nd rfl (.inl rfl) (pe_op op_cat (pv 5) (pe_lst (pa_cons (pe_disp (pps_cons pe_str pe_str (pps_cons pe_str pe_str (pps_cons pe_str pe_str pps_nil))) rfl rfl (fun z => nomatch z) (by decide)) (pa_cons (pe_disp (pps_cons pe_str pe_str (pps_cons pe_str pe_str (pps_cons pe_str pe_str pps_nil))) rfl rfl (fun z => nomatch z) (by decide)) pa_nil)))))
          (pss_cons (ps_set (i := 5) nd rfl (.inl rfl) (pe_op op_cat (pv 5) (pe_lst (pa_cons (pe_disp (pps_cons pe_str pe_str (pps_cons pe_str pe_str (pps_cons pe_str pe_str (pps_cons pe_str pe_str pps_nil)))) rfl rfl (fun z => nomatch z) (by decide)) (pa_cons (pe_disp (pps_cons pe_str pe_str (pps_cons pe_str pe_str (pps_cons pe_str pe_str pps_nil))) rfl rfl (fun z => nomatch z) (by decide)) pa_nil)))))
          (pss_cons (ps_set (i := 5) nd rfl (.inl rfl) (pe_op op_cat (pv 5) (pe_lst (pa_cons (pe_disp (pps_cons pe_str pe_str (pps_cons pe_str pe_non (pps_cons pe_str pe_str pps_nil))) rfl rfl (fun z => nomatch z) (by decide)) (pa_cons (pe_disp (pps_cons pe_str pe_str (pps_cons pe_str pe_str (pps_cons pe_str pe_str pps_nil))) rfl rfl (fun z => nomatch z) (by decide)) pa_nil)))))
          (pss_cons (ps_set (i := 5) nd rfl (.inl rfl) (pe_op op_cat (pv 5) (pe_lst (pa_cons (pe_disp (pps_cons pe_str pe_str (pps_cons pe_str pe_str (pps_cons pe_str pe_str pps_nil))) rfl rfl (fun z => nomatch z) (by decide)) (pa_cons (pe_disp (pps_cons pe_str pe_str (pps_cons pe_str pe_str (pps_cons pe_str pe_str pps_nil))) rfl rfl (fun z => nomatch z) (by decide)) pa_nil)))))
          (pss_cons (ps_set (i := 5) nd rfl (.inl rfl) (pe_op op_cat (pv 5) (pe_lst (pa_cons (pe_disp (pps_cons pe_str pe_str (pps_cons pe_str pe_str (pps_cons pe_str pe_str pps_nil))) rfl rfl (fun z => nomatch z) (by decide)) (pa_cons (pe_disp (pps_cons pe_str pe_str (pps_cons pe_str (pe_lst (pa_cons pe_str pa_nil)) (pps_cons pe_str pe_str pps_nil))) rfl rfl (fun z => nomatch z) (by decide)) pa_nil)))))
          (pss_cons (ps_set (i := 5) nd rfl (.inl rfl) (pe_op op_cat (pv 5) (pe_lst (pa_cons (pe_disp (pps_cons pe_str pe_int (pps_cons pe_str pe_int (pps_cons pe_str pe_int pps_nil))) rfl rfl (fun z => nomatch z) (by decide)) (pa_cons pe_str (pa_cons pe_int pa_nil))))))
          (pss_cons (ps_set (i := 5) nd rfl (.inl rfl) (pe_op op_cat (pv 5) (pe_lst (pa_cons (pe_disp (pps_cons pe_str pe_str (pps_cons pe_str pe_str (pps_cons pe_int pe_str pps_nil))) rfl rfl (fun z => nomatch z) (by decide)) (pa_cons (pe_disp (pps_cons pe_str pe_str (pps_cons pe_str pe_str (pps_cons pe_str pe_str pps_nil))) rfl rfl (fun z => nomatch z) (by decide)) pa_nil)))))
          (pss_cons (ps_set (i := 5) nd rfl (.inl rfl) (pe_op op_cat (pv 5) (pe_lst (pa_cons (pe_lst (pa_cons (pe_tup (pa_cons pe_str (pa_cons pe_str pa_nil))) pa_nil)) (pa_cons (pe_disp (pps_cons pe_str pe_str (pps_cons pe_str pe_str (pps_cons pe_str pe_str pps_nil))) rfl rfl (fun z => nomatch z) (by decide)) pa_nil)))))
          (pss_cons (ps_set (i := 6) nd rfl (.inr rfl) (pe_def Cs.GO hr pass0 (pa_cons (pv 2) (pa_cons (pv 5) pa_nil))))
          (pss_cons (ps_set (i := 7) nd rfl (.inl rfl) (pe_callB (call_reprN hgd hr.units) (by rfl) Cs.B.repr boot_repr (pa_cons (pv 6) pa_nil)))
          (pss_cons (ps_if (PW.pt (pw_or (pt_cmpR op_ne (pe_part (k := 18) Cs TB rfl hmL huL (hr.mono (by decide)) (lamS_by (sc := defScope sLaw7) (by decide +kernel)) rfl (fun _ _ _ _ _ => rfl) (fun A2 o2 s2 H2 E2 f2 c2 hr2 => pe_def Cs.GR hr2 (passes_call (takes_of rfl rfl rfl rfl) fun _ _ _ _ h => h) (pa_cons (pv 4) (pa_cons (pv 6) pa_nil)))) pe_str (nomark _)) (pw_or (pt_cmpR op_ne (pe_callB (call_reprN hgd hr.units) (by rfl) Cs.B.repr boot_repr (pa_cons (pv 6) pa_nil)) (pv 7) (nomark _)) (pw_or1 (pt_cmpR (op_neOwn Cs.mE Cs.T.ne Cs.T.hm Cs.FE (hr.mono (by decide)) Cs.bE pass0) (pv 4) (pe_make Cs.M Cs.FI (hr.mono (by decide)) (by rfl) Cs.gC Cs.bi .nil hxP (pa_cons (pv 3) pa_nil)) (nomark _)))))) (pss_one (ps_ret pe_bl)) pss_nil)
          (pss_cons (ps_set (i := 8) nd rfl (.inl rfl) (pe_def Cs.GR hr hxP (pa_cons (pv 4) (pa_cons (pe_disp (pps_cons pe_str pe_str (pps_cons pe_str pe_str (pps_cons pe_str pe_str pps_nil))) rfl rfl (fun z => nomatch z) (by decide)) pa_nil))))
          (pss_one (ps_if (pt_cmpR (op_neOwn Cs.mE Cs.T.ne Cs.T.hm Cs.FE (hr.mono (by decide)) Cs.bE pass0) (pv 8) (pe_make Cs.M Cs.FI (hr.mono (by decide)) (by rfl) Cs.gC Cs.bi .nil hxP (pa_cons (pe_lst (pa_cons (pe_tup (pa_cons pe_str (pa_cons pe_str (pa_cons (pe_tup (pa_cons (pe_lst (pa_cons pe_int pa_nil)) pa_nil)) (pa_cons (pe_lst pa_nil) pa_nil))))) (pa_cons (pe_tup (pa_cons pe_str (pa_cons pe_str (pa_cons (pe_tup (pa_cons pe_int (pa_cons pe_str pa_nil))) (pa_cons (pe_lst (pa_cons pe_str pa_nil)) pa_nil))))) (pa_cons (pe_tup (pa_cons pe_str (pa_cons pe_str (pa_cons (pe_tup (pa_cons pe_str pa_nil)) (pa_cons (pe_lst (pa_cons pe_str pa_nil)) pa_nil))))) pa_nil)))) pa_nil)) (nomark _)) (pss_one (ps_ret pe_bl)) pss_nil)))))))))))))))))))
      (pss_one (ps_ret (pe_cmpR (op_eqOwn Cs.mE Cs.FE (hr.mono (by decide)) Cs.bE pass0) (pe_def Cs.GR hr hxP (pa_cons (pv 4) (pa_cons (pe_disp (pps_cons pe_str pe_str (pps_cons pe_str pe_str (pps_cons pe_str pe_str pps_nil))) rfl rfl (fun z => nomatch z) (by decide)) pa_nil))) (pv 4) (nomark _))))), ?_⟩
  refine ⟨_, rfl, a0, ns, 0, rfl, hS, fun c => ?_⟩
  refine ⟨by show 1 ≤ sizeLine; decide, fun l1 nl1 => ?_⟩
  have sl1 := same_upd (o := HO.lst [V.int c]) nl1
  refine ⟨_, rfl, _, rfl, _, rfl, a0, _, rfl, Same.seq sl1 hS, fun l2 nl2 => ?_⟩
  have sl2 := same_upd (o := HO.lst (cutV (ns.map V.int) (some 1) (some 4))) nl2
  obtain ⟨ms, ems, lms, pms⟩ := cells_are7 c ns
  refine ⟨l1, l2, [.int c], _, rfl, rfl, sl2 _ _ upd_same, upd_same, ?_, fun L nL => ?_⟩
  · have h1 : ([V.int c] ++ cutV (ns.map V.int) (some 1) (some 4)).length = ms.length := by rw [ems, List.length_map]
    rw [List.length_append] at h1
    rw [h1]
    exact Nat.le_of_lt (low1000 (by omega))
  rw [ems]
  have tabs3 : Tabs TT (upd (upd (upd H l1 (.lst [V.int c])) l2 (.lst (cutV (ns.map V.int) (some 1) (some 4)))) L (.lst (ms.map V.int))) := tabs.ext fun b o e => same_upd nL b o (sl2 b o (sl1 b o e))
  refine ⟨L, rfl, ⟨_, SqL.of upd_same⟩, for_list (K := K) (a := L) (xs := ms.map V.int) (fun i σ H' => (∃ tl, σ = some (.ref a0) :: tl ∧ tl.length = 8 ∧ (0 < i → ∃ an pd, tl[3]? = some (some (.ref an)) ∧ NetF K H' C an pd ns0)) ∧ H' L = some (.lst (ms.map V.int)) ∧ Tabs TT H') ⟨⟨_, rfl, rfl, fun z => absurd z (Nat.lt_irrefl 0)⟩, upd_same, tabs3⟩ (fun i σ H' _ p => SqL.of p.2.1) ?_ ?_⟩
  · rintro i x σ H' hx ⟨⟨tl, rfl, len, _⟩, hL, tb⟩
    obtain ⟨s1, s2, s3, s4, s5, s6, s7, s8, rfl⟩ := slots8 len
    rw [List.getElem?_map] at hx
    obtain ⟨z, _, rfl⟩ := Option.map_eq_some_iff.mp hx
    clear hx
    refine ⟨_, rfl, z, rfl, fun p A0 np => ?_⟩
    have f0 := fmod_in (i := z) (m := 2147483647) (by decide)
    have src1 : Src (upd H' p (.lst [.int A0, .int (z.fmod 2147483647), .int 0])) p 0 := ⟨A0, _, 0, upd_same, f0.1, f0.2, Int.le_refl _, Int.le_refl _⟩
    have Lp : L ≠ p := ne_of_none hL np
    have sp := same_upd (o := HO.lst [V.int A0, V.int (z.fmod 2147483647), V.int 0]) np
    have hL1 := sp _ _ hL
    have tb1 : Tabs TT _ := tb.ext fun b o e => sp b o e
    generalize upd H' p (.lst [.int A0, .int (z.fmod 2147483647), .int 0]) = H1 at src1 hL1 tb1 ⊢
    obtain ⟨oA, oB, oC, hp1, _⟩ := id src1
    clear sp np hL tb
    refine name9 rfl ?_
    dsimp only
    -- the nodes
    refine seqasg_of ?_
    refine ((Ev.lst (Ev.cons (Ev.tup (Ev.cons Ev.str (Ev.cons Ev.str (Ev.cons (Ev.tup (Ev.cons (Ev.lst (Ev.cons Ev.int Ev.nil)) Ev.nil)) (Ev.cons (Ev.lst Ev.nil) Ev.nil))))) (Ev.cons (Ev.tup (Ev.cons Ev.str (Ev.cons Ev.str (Ev.cons (Ev.tup (Ev.cons Ev.int (Ev.cons Ev.str Ev.nil))) (Ev.cons (Ev.lst (Ev.cons Ev.str Ev.nil)) Ev.nil))))) (Ev.cons (Ev.tup (Ev.cons Ev.str (Ev.cons Ev.str (Ev.cons (Ev.tup (Ev.cons Ev.str Ev.nil)) (Ev.cons (Ev.lst (Ev.cons Ev.str Ev.nil)) Ev.nil))))) Ev.nil)))) : Ev.E K (but p) H1 _ _ (.list (ns0.map Nd.dat))) H1 _ (fresh_but hp1) vis_same fun vn H2 t2 dn => ?_
    refine name9 rfl ?_
    have src2 := src1.same t2
    have hL2 := t2 _ _ hL1
    have tb2 := tb1.ext fun b o e => t2 b o e
    have hp2 := t2 _ _ hp1
    clear src1 hL1 tb1 hp1 t2
    -- the net
    refine seqasg_of ?_
    refine net_var rfl (dn.same vis_same) ns0_ok fun an pd H3 t3 nan npd N3 => ?_
    refine name9 rfl ?_
    have pd3 : H3 pd = some (kiO (placesN 0 ns0)) := newOf_same _ _ N3.pl
    have dn3 := dn.same (vis_grow t3)
    have src3 := src2.same t3
    have hL3 := t3 _ _ hL2
    have tb3 := tb2.ext fun b o e => t3 b o e
    have hp3 := t3 _ _ hp2
    clear dn src2 hL2 tb2
    -- what is no naming
    refine seqasg_of ?_
    refine ((Nv.lst (Nv.cons (Nv.dat Ev.non) (Nv.cons (Nv.dat (Ev.lst Ev.nil)) (Nv.cons (Nv.dat (Ev.lst (Ev.cons Ev.str (Ev.cons Ev.str (Ev.cons Ev.str Ev.nil))))) (Nv.cons Nv.dnew (Nv.cons (Nv.disp (Nv.PrsE.cons (k := .inr "a") Ev.str (Nv.PrsE.cons (k := .inr "b") Ev.str Nv.PrsE.nil))) Nv.nil)))))) : Nv.Ls K (nu H3) H3 _ _ wrong0) H3 _ (fresh_nu H3) vis_same fun w0 x0 G0 g0 hw0 d0 => ?_
    refine name9 rfl ?_
    refine seqasg_of ?_
    refine ((Nv.cat (Nv.var rfl hw0 d0) (Nv.lst (Nv.cons (Nv.disp (Nv.PrsE.cons (k := .inr "a") Ev.str (Nv.PrsE.cons (k := .inr "b") Ev.str (Nv.PrsE.cons (k := .inr "d") Ev.str Nv.PrsE.nil)))) (Nv.cons (Nv.disp (Nv.PrsE.cons (k := .inr "a") Ev.str (Nv.PrsE.cons (k := .inr "b") Ev.str (Nv.PrsE.cons (k := .inr "c") Ev.str Nv.PrsE.nil)))) Nv.nil)))) : Nv.Ls K (nu H3) G0 _ _ (wrong0 ++ wrong1)) G0 _ ((fresh_nu H3).grow g0) vis_same fun w1 x1 G1 g1 hw1 d1 => ?_
    refine name9 rfl ?_
    have g1 := g0.trans g1
    clear d0 hw0 g0
    refine seqasg_of ?_
    refine ((Nv.cat (Nv.var rfl hw1 d1) (Nv.lst (Nv.cons (Nv.disp (Nv.PrsE.cons (k := .inr "a") Ev.str (Nv.PrsE.cons (k := .inr "b") Ev.str (Nv.PrsE.cons (k := .inr "c") Ev.str (Nv.PrsE.cons (k := .inr "d") Ev.str Nv.PrsE.nil))))) (Nv.cons (Nv.disp (Nv.PrsE.cons (k := .inr "a") Ev.str (Nv.PrsE.cons (k := .inr "b") Ev.str (Nv.PrsE.cons (k := .inr "c") Ev.str Nv.PrsE.nil)))) Nv.nil)))) : Nv.Ls K (nu H3) G1 _ _ (wrong0 ++ wrong1 ++ wrong2)) G1 _ ((fresh_nu H3).grow g1) vis_same fun w2 x2 G2 g2 hw2 d2 => ?_
    refine name9 rfl ?_
    have g2 := g1.trans g2
    clear d1 hw1 g1
    refine seqasg_of ?_
    refine ((Nv.cat (Nv.var rfl hw2 d2) (Nv.lst (Nv.cons (Nv.disp (Nv.PrsE.cons (k := .inr "a") Ev.str (Nv.PrsE.cons (k := .inr "b") Ev.non (Nv.PrsE.cons (k := .inr "c") Ev.str Nv.PrsE.nil)))) (Nv.cons (Nv.disp (Nv.PrsE.cons (k := .inr "a") Ev.str (Nv.PrsE.cons (k := .inr "b") Ev.str (Nv.PrsE.cons (k := .inr "c") Ev.str Nv.PrsE.nil)))) Nv.nil)))) : Nv.Ls K (nu H3) G2 _ _ (wrong0 ++ wrong1 ++ wrong2 ++ wrong3)) G2 _ ((fresh_nu H3).grow g2) vis_same fun w3 x3 G3 g3 hw3 d3 => ?_
    refine name9 rfl ?_
    have g3 := g2.trans g3
    clear d2 hw2 g2
    refine seqasg_of ?_
    refine ((Nv.cat (Nv.var rfl hw3 d3) (Nv.lst (Nv.cons (Nv.disp (Nv.PrsE.cons (k := .inr "a") Ev.str (Nv.PrsE.cons (k := .inr "b") Ev.str (Nv.PrsE.cons (k := .inr "c") Ev.str Nv.PrsE.nil)))) (Nv.cons (Nv.disp (Nv.PrsE.cons (k := .inr "a") Ev.str (Nv.PrsE.cons (k := .inr "b") Ev.str (Nv.PrsE.cons (k := .inr "c") Ev.str Nv.PrsE.nil)))) Nv.nil)))) : Nv.Ls K (nu H3) G3 _ _ (wrong0 ++ wrong1 ++ wrong2 ++ wrong3 ++ wrong4)) G3 _ ((fresh_nu H3).grow g3) vis_same fun w4 x4 G4 g4 hw4 d4 => ?_
    refine name9 rfl ?_
    have g4 := g3.trans g4
    clear d3 hw3 g3
    refine seqasg_of ?_
    refine ((Nv.cat (Nv.var rfl hw4 d4) (Nv.lst (Nv.cons (Nv.disp (Nv.PrsE.cons (k := .inr "a") Ev.str (Nv.PrsE.cons (k := .inr "b") Ev.str (Nv.PrsE.cons (k := .inr "c") Ev.str Nv.PrsE.nil)))) (Nv.cons (Nv.disp (Nv.PrsE.cons (k := .inr "a") Ev.str (Nv.PrsE.cons (k := .inr "b") (Ev.lst (Ev.cons Ev.str Ev.nil)) (Nv.PrsE.cons (k := .inr "c") Ev.str Nv.PrsE.nil)))) Nv.nil)))) : Nv.Ls K (nu H3) G4 _ _ (wrong0 ++ wrong1 ++ wrong2 ++ wrong3 ++ wrong4 ++ wrong5)) G4 _ ((fresh_nu H3).grow g4) vis_same fun w5 x5 G5 g5 hw5 d5 => ?_
    refine name9 rfl ?_
    have g5 := g4.trans g5
    clear d4 hw4 g4
    refine seqasg_of ?_
    refine ((Nv.cat (Nv.var rfl hw5 d5) (Nv.lst (Nv.cons (Nv.disp (Nv.PrsE.cons (k := .inr "a") Ev.int (Nv.PrsE.cons (k := .inr "b") Ev.int (Nv.PrsE.cons (k := .inr "c") Ev.int Nv.PrsE.nil)))) (Nv.cons (Nv.dat Ev.str) (Nv.cons (Nv.dat Ev.int) Nv.nil))))) : Nv.Ls K (nu H3) G5 _ _ (wrong0 ++ wrong1 ++ wrong2 ++ wrong3 ++ wrong4 ++ wrong5 ++ wrong6)) G5 _ ((fresh_nu H3).grow g5) vis_same fun w6 x6 G6 g6 hw6 d6 => ?_
    refine name9 rfl ?_
    have g6 := g5.trans g6
    clear d5 hw5 g5
    refine seqasg_of ?_
    refine ((Nv.cat (Nv.var rfl hw6 d6) (Nv.lst (Nv.cons (Nv.disp (Nv.PrsE.cons (k := .inr "a") Ev.str (Nv.PrsE.cons (k := .inr "b") Ev.str (Nv.PrsE.cons (k := .inl 3) Ev.str Nv.PrsE.nil)))) (Nv.cons (Nv.disp (Nv.PrsE.cons (k := .inr "a") Ev.str (Nv.PrsE.cons (k := .inr "b") Ev.str (Nv.PrsE.cons (k := .inr "c") Ev.str Nv.PrsE.nil)))) Nv.nil)))) : Nv.Ls K (nu H3) G6 _ _ (wrong0 ++ wrong1 ++ wrong2 ++ wrong3 ++ wrong4 ++ wrong5 ++ wrong6 ++ wrong7)) G6 _ ((fresh_nu H3).grow g6) vis_same fun w7 x7 G7 g7 hw7 d7 => ?_
    refine name9 rfl ?_
    have g7 := g6.trans g7
    clear d6 hw6 g6
    refine seqasg_of ?_
    refine ((Nv.cat (Nv.var rfl hw7 d7) (Nv.lst (Nv.cons (Nv.dat (Ev.lst (Ev.cons (Ev.tup (Ev.cons Ev.str (Ev.cons Ev.str Ev.nil))) Ev.nil))) (Nv.cons (Nv.disp (Nv.PrsE.cons (k := .inr "a") Ev.str (Nv.PrsE.cons (k := .inr "b") Ev.str (Nv.PrsE.cons (k := .inr "c") Ev.str Nv.PrsE.nil)))) Nv.nil)))) : Nv.Ls K (nu H3) G7 _ _ wrongs) G7 _ ((fresh_nu H3).grow g7) vis_same fun lw xw G8 g8 hw dw => ?_
    refine name9 rfl ?_
    have g8 := g7.trans g8
    clear d7 hw7 g7
    have src4 := src3.same g8
    have hL4 := g8 _ _ hL3
    have tb4 := tb3.ext fun b o e => g8 b o e
    have hp4 := g8 _ _ hp3
    have dn4 := dn3.same (vis_grow g8)
    have N4 := N3.same (newOf_mono (Same.refl H2) g8)
    have off : ∀ {b : Addr}, nu H3 b = true → b ≠ p := fun {b} u e => by
      rw [e] at u
      unfold nu at u
      rw [hp3] at u
      cases u
    clear src3 hL3 tb3 dn3 N3
    -- one of these
    refine seqasg_of ?_
    have lenw : xw.length = 22 := dw.length
    have hwv := vis_of hw
    refine ⟨_, rfl, _, rfl, p, lw, 0, xw, rfl, src4, by decide, ?_, by omega, by omega, fun iv v H5 hv src5 t5 => ?_⟩
    · rw [hid_ne (off hwv.1)]
      exact hwv.2
    obtain ⟨nm, hnm, dv⟩ := dw.getV hv
    obtain ⟨bad, okn, tls⟩ := wrong_is hnm
    refine name9 rfl ?_
    have hL5 : H5 L = _ := t5 _ _ ((hid_ne Lp).trans hL4)
    have tb5 : Tabs TT H5 := tabs_hid7 tb4 hp4 t5
    have dn5 : Dv K H5 vn _ := dn4.same fun b o e => t5 b o (by
      have e2 := vis_of e
      have bp : b ≠ p := of_decide_eq_false (by simpa [but] using e2.1)
      rw [hid_ne bp]
      exact e2.2)
    have back5 : ∀ {b : Addr} {o : HO}, G8 b = some o → b ≠ p → H5 b = some o := fun {b o} e n => t5 b o (by
      rw [hid_ne n]
      exact e)
    have N5 : NetF K (newOf H2 H5) C an pd ns0 := N4.same fun b o e => by
      have e2 := newOf_same b o e
      have nb : H2 b = none := by
        unfold newOf at e
        cases z : H2 b with
        | none => rfl
        | some u =>
          rw [z] at e
          cases e
      exact newOf_at nb (back5 e2 fun q => by
        rw [q, hp2] at nb
        cases nb)
    have dv5 : NmV K (vis (nu H3) H5) v nm := dv.same fun b o e => by
      have e2 := vis_of e
      exact vis_at e2.1 (back5 e2.2 (off e2.1))
    clear N4 dn4 tb4 hL4 src4 hw dw hwv hv hnm dv t5 src5 hp4 back5 hp3 hp2 g8 off
    -- its text
    refine seqasg_of ?_
    refine ⟨v, rfl, v, nm, rfl, dv5.same vis_same, tls, ?_⟩
    refine name9 rfl ?_
    -- the call that raises
    refine ⟨tb5, fun H6 ext6 tb6 Nm => ?_⟩
    have e6 : ∀ {H0 : Hp}, Same H0 H5 → Ext0 H0 H6 := fun s0 b o h n => ext6 b o (s0 b o h) n
    have hL6 := ext6 _ _ hL5 (fun _ z => by cases z)
    have N6 : NetF K H6 C an pd ns0 := N5.ext (e6 newOf_same)
    have dv6 : NmV K (hid pd H6) v nm := dv5.ext fun b o h n => by
      have e2 := vis_of h
      have bp : b ≠ pd := fun q => by
        have u := e2.1
        rw [q] at u
        unfold nu at u
        rw [pd3] at u
        cases u
      rw [hid_ne bp]
      exact ext6 b o e2.2 n
    have dn6 := dn5.ext (e6 (Same.refl _))
    clear dn5 dv5 N5 tb5 hL5 ext6
    refine ⟨_, rfl, _, rfl, an, pd, ns0, v, nm, rfl, N6, dv6, okn, fun _ H7 dd s7 nd7 => ⟨rfl, dd, .str "names", rfl, upd_same, fun H8 s8 => ?_⟩, fun z => absurd (bad.symm.trans z) (by decide)⟩
    have s68 : Same H6 H8 := s7.trans ((same_upd nd7).trans s8)
    have hL8 := s68 _ _ hL6
    have N8 := N6.same s68
    have dv8 : NmV K H8 v nm := (dv6.same (fun b o e => (hid_of e).2)).same s68
    have dn8 := dn6.same s68
    have tb8 : Tabs TT H8 := tb6.ext fun b o e => s68 b o e
    clear s68 s8 nd7 s7 dn6 dv6 N6 hL6 tb6
    refine ⟨rfl, _, rfl, no_if str_eq ?_⟩
    refine ⟨v, rfl, v, nm, rfl, dv8, tls, _, rfl, rfl, _, rfl, no_if str_eq ?_⟩
    -- the net is as it was
    refine ⟨_, rfl, net_var rfl dn8 ns0_ok fun xb pb H9 s9 nxb npb Nb => ?_⟩
    have N9 := N8.same s9
    have Nb9 := Nb.same newOf_same
    obtain ⟨dxa, va, ha9, _⟩ := N9.at_
    obtain ⟨dxb, vb, hb9, _⟩ := Nb9.at_
    refine ⟨an, xb, dxa, dxb, _, _, rfl, rfl, ha9, hb9, an, xb, pd, pb, ns0, ns0, rfl, N9, Nb9, shaped0, shaped0, nodict0, nodict0, _, rfl, _, rfl, no_if ?_ ?_⟩
    · rw [eqv0]
      rfl
    have hL9 := s9 _ _ hL8
    have tb9 : Tabs TT H9 := tb8.ext fun b o e => s9 b o e
    clear hb9 ha9 Nb9 Nb nxb npb s9 N8 dv8 dn8 tb8 hL8
    -- a naming that is right
    refine next_of ?_
    dsimp only
    refine seqasg_of ?_
    refine ⟨_, rfl, ?_⟩
    refine ((Nv.disp (Nv.PrsE.cons (k := .inr "c") Ev.str (Nv.PrsE.cons (k := .inr "a") Ev.str (Nv.PrsE.cons (k := .inr "b") Ev.str Nv.PrsE.nil)))) : Nv.E K (nu H9) H9 _ _ (.dct goodE)) H9 _ (fresh_nu H9) vis_same fun vg H10 s10 dg => ?_
    have N10 := N9.same s10
    refine ⟨an, pd, ns0, vg, _, rfl, N10, dg.same (fun b o h => ?_), good_ok.2.1, fun z => absurd (good_ok.1.symm.trans z) (by decide), fun _ => ⟨goodE, rfl, good_ok.2.2, ?_, ?_, ?_, fun xg pg H11 s11 nxg npg N11 => ?_⟩⟩
    · have e2 := vis_of h
      have bp : b ≠ pd := fun q => by
        have u := e2.1
        rw [q] at u
        unfold nu at u
        rw [N9.pl] at u
        cases u
      rw [hid_ne bp]
      exact e2.2
    · rw [good_nsE]
      exact ns1_ok.1
    · rw [good_nsE]
      exact ns1_ok.2.1
    · rw [good_nsE]
      exact ns1_ok.2.2
    rw [good_nsE] at N11
    refine name9 rfl ?_
    have hL11 := s11 _ _ (s10 _ _ hL9)
    have tb11 : Tabs TT H11 := tb9.ext fun b o e => s11 b o (s10 b o e)
    have Na11 := N10.same s11
    clear nxg npg s11 dg N10 s10 N9 tb9 hL9
    -- the net that it leads to
    refine ⟨_, rfl, net_ev (ns := ns1) (U := nu H11) (Ev.lst (Ev.cons (Ev.tup (Ev.cons Ev.str (Ev.cons Ev.str (Ev.cons (Ev.tup (Ev.cons (Ev.lst (Ev.cons Ev.int Ev.nil)) Ev.nil)) (Ev.cons (Ev.lst Ev.nil) Ev.nil))))) (Ev.cons (Ev.tup (Ev.cons Ev.str (Ev.cons Ev.str (Ev.cons (Ev.tup (Ev.cons Ev.int (Ev.cons Ev.str Ev.nil))) (Ev.cons (Ev.lst (Ev.cons Ev.str Ev.nil)) Ev.nil))))) (Ev.cons (Ev.tup (Ev.cons Ev.str (Ev.cons Ev.str (Ev.cons (Ev.tup (Ev.cons Ev.str Ev.nil)) (Ev.cons (Ev.lst (Ev.cons Ev.str Ev.nil)) Ev.nil))))) Ev.nil)))) (fresh_nu H11) ns1_ok fun xc pc H12 s12 nxc npc Nc => ?_⟩
    have N12 := N11.same s12
    have Nc12 := Nc.same newOf_same
    obtain ⟨dxd, vd, hd12, _⟩ := N12.at_
    obtain ⟨dxc, vc, hc12, _⟩ := Nc12.at_
    refine ⟨xg, xc, dxd, dxc, _, _, rfl, rfl, hd12, hc12, xg, xc, pg, pc, ns1, ns1, rfl, N12, Nc12, shaped1, shaped1, nodict1, nodict1, _, rfl, _, rfl, no_if ?_ ?_⟩
    · rw [eqv1]
      rfl
    exact ⟨⟨_, rfl, rfl, fun _ => ⟨an, pd, rfl, Na11.same s12⟩⟩, s12 _ _ hL11, tb11.ext fun b o e => s12 b o e⟩
  · rintro σ H' ⟨⟨tl, rfl, len, got⟩, hL, tb⟩
    obtain ⟨s1, s2, s3, s4, s5, s6, s7, s8, rfl⟩ := slots8 len
    obtain ⟨an, pd, e4, N⟩ := got (by rw [List.length_map]; exact pms)
    have e4 : s4 = some (.ref an) := by simpa using e4
    subst e4
    refine ⟨_, rfl, ?_⟩
    refine ((Nv.disp (Nv.PrsE.cons (k := .inr "a") Ev.str (Nv.PrsE.cons (k := .inr "b") Ev.str (Nv.PrsE.cons (k := .inr "c") Ev.str Nv.PrsE.nil)))) : Nv.E K (nu H') H' _ _ (.dct sameE)) H' _ (fresh_nu H') vis_same fun vg H10 s10 dg => ?_
    have N10 := N.same s10
    refine ⟨an, pd, ns0, vg, _, rfl, N10, dg.same (fun b o h => ?_), same_ok.2.1, fun z => absurd (same_ok.1.symm.trans z) (by decide), fun _ => ⟨sameE, rfl, same_ok.2.2, ?_, ?_, ?_, fun xg pg H11 s11 nxg npg N11 => ?_⟩⟩
    · have e2 := vis_of h
      have bp : b ≠ pd := fun q => by
        have u := e2.1
        rw [q] at u
        unfold nu at u
        rw [N.pl] at u
        cases u
      rw [hid_ne bp]
      exact e2.2
    · rw [same_nsE]
      exact ns0_ok.1
    · rw [same_nsE]
      exact ns0_ok.2.1
    · rw [same_nsE]
      exact ns0_ok.2.2
    rw [same_nsE] at N11
    have Na11 := N10.same s11
    obtain ⟨dxd, vd, hd12, _⟩ := N11.at_
    obtain ⟨dxc, vc, hc12, _⟩ := Na11.at_
    refine ⟨_, rfl, xg, an, dxd, dxc, _, _, rfl, rfl, hd12, hc12, xg, an, pg, pd, ns0, ns0, rfl, N11, Na11, shaped0, shaped0, nodict0, nodict0, _, rfl, ?_⟩
    rw [eqv0]
    exact q _
end
end Pw
set_option maxHeartbeats 2000000
/-! the module's tables, read off the written part -/
namespace Pw
open PySem PySem.Spec PyProof.Rows L2
def strOf : Value → Option Str
  | .str x _ => some x
  | _ => none
def intOf : Value → Option Int
  | .int i _ => some i
  | _ => none
/-- the items of a written tuple -/
def tupOf (K : PySem.W.Frag) (p : Addr) : Option (List Value) := match K.lookup p with
  | some ⟨.type c, _, .seq its _, _⟩ => if decide (c = "tuple") && decide (its.size ≤ 1000) then some its.toList else none
  | _ => none
theorem tupOf_is {K : PySem.W.Frag} {p : Addr} {us : List Value} (h : tupOf K p = some us) {xs : List V} (v : Vals xs us) : TupK K p xs := by
  unfold tupOf at h
  cases q : K.lookup p with
  | none =>
    rw [q] at h
    cases h
  | some o =>
    obtain ⟨oc, od, dt, osl⟩ := o
    rw [q] at h
    cases oc with
    | type c =>
      cases dt with
      | seq its n =>
        have h1 : (if (decide (c = "tuple") && decide (its.size ≤ 1000)) = true then some its.toList else none) = some us := h
        by_cases z : (decide (c = "tuple") && decide (its.size ≤ 1000)) = true
        · rw [if_pos z] at h1
          rw [Bool.and_eq_true] at z
          cases h1
          exact ⟨_, its, n, q, by rw [of_decide_eq_true z.1], rfl, Nat.le_trans (of_decide_eq_true z.2) (by decide), v⟩
        · rw [if_neg z] at h1
          cases h1
      | _ => cases h
    | _ => cases dt <;> cases h
theorem vals_strs : ∀ {us : List Value} {ws : List Str}, us.map strOf = ws.map some → Vals (ws.map V.str) us
  | [], [], _ => .nil
  | u :: us, w :: ws, h => by
    have h1 : strOf u :: us.map strOf = some w :: ws.map some := h
    injection h1 with h2 h3
    refine .cons ?_ (vals_strs h3)
    cases u with
    | str x t =>
      cases h2
      exact ⟨t, rfl⟩
    | _ => cases h2
theorem vals_ints2 : ∀ {us : List Value} {ns : List Int}, us.map intOf = ns.map some → Vals (ns.map V.int) us
  | [], [], _ => .nil
  | u :: us, n :: ns, h => by
    have h1 : intOf u :: us.map intOf = some n :: ns.map some := h
    injection h1 with h2 h3
    refine .cons ?_ (vals_ints2 h3)
    cases u with
    | int x t =>
      cases h2
      exact ⟨t, rfl⟩
    | _ => cases h2
def strsAt (K : PySem.W.Frag) (p : Addr) (ws : List Str) : Bool := match tupOf K p with
  | some us => decide (us.map strOf = ws.map some)
  | none => false
def intsAt (K : PySem.W.Frag) (p : Addr) (ns : List Int) : Bool := match tupOf K p with
  | some us => decide (us.map intOf = ns.map some)
  | none => false
theorem strsAt_is {K : PySem.W.Frag} {p : Addr} {ws : List Str} (h : strsAt K p ws = true) : TupK K p (ws.map V.str) := by
  unfold strsAt at h
  cases q : tupOf K p with
  | none =>
    rw [q] at h
    cases h
  | some us =>
    rw [q] at h
    exact tupOf_is q (vals_strs (of_decide_eq_true h))
theorem intsAt_is {K : PySem.W.Frag} {p : Addr} {ns : List Int} (h : intsAt K p ns = true) : TupK K p (ns.map V.int) := by
  unfold intsAt at h
  cases q : tupOf K p with
  | none =>
    rw [q] at h
    cases h
  | some us =>
    rw [q] at h
    exact tupOf_is q (vals_ints2 (of_decide_eq_true h))
/-- all entries of a table -/
def tabAll {α : Type} (K : PySem.W.Frag) (d : Addr) (one : Addr → α → Bool) (l : List (Str × α)) : Bool := l.all fun q => match PySem.W.nsIn K d q.1 with
  | some (some (.ref p)) => one p q.2
  | _ => false
theorem tabAll_at {α : Type} {K : PySem.W.Frag} {d : Addr} {one : Addr → α → Bool} {l : List (Str × α)} (h : tabAll K d one l = true) {q : Str × α} (hq : q ∈ l) : ∃ p, PySem.W.nsIn K d q.1 = some (some (.ref p)) ∧ one p q.2 = true := by
  have h2 := List.all_eq_true.mp h q hq
  cases e : PySem.W.nsIn K d q.1 with
  | none =>
    rw [e] at h2
    cases h2
  | some r =>
    rw [e] at h2
    cases r with
    | none => cases h2
    | some u =>
      cases u with
      | ref p => exact ⟨p, rfl, h2⟩
      | _ => cases h2
theorem keys_no {P : Params} : ∀ {l : List DictEntry} {ks : List Str} {z : Str}, l.map He.keyOf = He.keysIn P ks → z ∉ ks → l.find? (·.key.isStr z) = none ∧ l.any (·.refKey) = false
  | [], _, _, _, _ => ⟨rfl, rfl⟩
  | e :: r, [], _, h, _ => by cases h
  | e :: r, k :: ks, z, h, hz => by
    have h1 : He.keyOf e :: r.map He.keyOf = some (k, PyData.keyHash P k) :: He.keysIn P ks := h
    injection h1 with h2 h3
    rw [List.mem_cons, not_or] at hz
    obtain ⟨i1, i2⟩ := keys_no h3 hz.2
    unfold He.keyOf at h2
    split at h2
    · rename_i x t q
      have hx := (Prod.mk.inj (Option.some.inj h2)).1
      subst hx
      have e1 : e.key.isStr z = false := by
        rw [q]
        show (x == z) = false
        exact beq_eq_false_iff_ne.mpr fun y => hz.1 y.symm
      have e2 : e.refKey = false := by
        unfold DictEntry.refKey
        rw [q]
      exact ⟨by rw [List.find?_cons, e1]; exact i1, by rw [List.any_cons, e2, i2]; rfl⟩
    · cases h2
theorem dic_no {K : PySem.W.Frag} {P : Params} {d : Addr} {ks : List Str} {z : Str} (h : He.dicW K d = some (He.keysIn P ks)) (hz : z ∉ ks) : PySem.W.nsIn K d z = some none := by
  unfold He.dicW at h
  unfold PySem.W.nsIn
  cases q : K.lookup d with
  | none =>
    rw [q] at h
    cases h
  | some o =>
    obtain ⟨oc, od, dt, osl⟩ := o
    rw [q] at h
    cases oc with
    | type c =>
      cases od with
      | none =>
        cases dt with
        | dict es n =>
          have h1 : (match decide (c = "dict") && (osl.isEmpty && !(d == sysModules)) with
            | true => some (es.toList.map He.keyOf)
            | false => none) = some (He.keysIn P ks) := h
          split at h1
          · obtain ⟨i1, i2⟩ := keys_no (Option.some.inj h1) hz
            show (match es.toList.find? (·.key.isStr z) with | some e => some (some e.val) | none => if es.toList.any (·.refKey) then none else some none) = some none
            rw [i1]
            dsimp only
            rw [i2]
            rfl
          · cases h1
        | _ => cases h
      | some b => cases dt <;> cases h
    | _ => cases od <;> cases dt <;> cases h
theorem mem_of_lookup {α : Type} : ∀ {l : List (Str × α)} {z : Str} {v : α}, l.lookup z = some v → (z, v) ∈ l
  | (a, b) :: r, z, v, h => by
    rw [List.lookup_cons] at h
    by_cases e : z = a
    · subst e
      rw [beq_self_eq_true] at h
      cases h
      exact List.mem_cons_self
    · rw [beq_eq_false_iff_ne.mpr e] at h
      exact List.mem_cons_of_mem _ (mem_of_lookup h)
theorem tab_words {K : PySem.W.Frag} {w : World} {d : Addr} {l : List (Str × List Str)} (h1 : He.dicW K d = some (He.keysIn w.params (l.map (·.1)))) (h2 : tabAll K d (strsAt K) l = true) : KTab K w d (wordT l) where
  dict := He.dicW_ok h1
  no := fun z hz => dic_no h1 (lookup_none.mp (Option.map_eq_none_iff.mp hz))
  yes := fun z xs hz => by
    obtain ⟨ws, e, rfl⟩ := Option.map_eq_some_iff.mp hz
    obtain ⟨p, e1, e2⟩ := tabAll_at h2 (mem_of_lookup e)
    exact ⟨p, e1, strsAt_is e2⟩
theorem tab_twos {K : PySem.W.Frag} {w : World} {d : Addr} {l : List (Str × Int × Int)} (h1 : He.dicW K d = some (He.keysIn w.params (l.map (·.1)))) (h2 : tabAll K d (fun p (r : Int × Int) => intsAt K p [r.1, r.2]) l = true) : KTab K w d (twoT l) where
  dict := He.dicW_ok h1
  no := fun z hz => dic_no h1 (lookup_none.mp (Option.map_eq_none_iff.mp hz))
  yes := fun z xs hz => by
    obtain ⟨r, e, rfl⟩ := Option.map_eq_some_iff.mp hz
    obtain ⟨p, e1, e2⟩ := tabAll_at h2 (mem_of_lookup e)
    exact ⟨p, e1, intsAt_is e2⟩
end Pw
set_option maxHeartbeats 4000000
/-! the end: what the top has written -/
namespace Pw
open PySem PySem.Spec PyProof.Rows L2 LamX
theorem all_mk {P : Program} {w : World} {K : PySem.W.Frag} {h : Heap} {mg : Str → Option Value} {fa : Addr} {n : Nat} (X : K.In h) (G : h.Ns mainGlobals mg) (hfa : mg "law" = some (.ref fa)) (emp : ∀ x ∈ (["law"] : List Str), ∀ f, mg x = some (.ref f) → Rn.Empty K f h)
    {oc0 kV0 dc0 pm0 cd0 ct0 : Value} {od0 an0 : Option Addr} {sl0 : Array (Option Value)} {f0 : Addr}
    {oc1 kV1 dc1 pm1 cd1 ct1 : Value} {od1 an1 : Option Addr} {sl1 : Array (Option Value)} {f1 : Addr}
    {oc2 kV2 dc2 pm2 cd2 ct2 : Value} {od2 an2 : Option Addr} {sl2 : Array (Option Value)} {f2 : Addr}
    {oc3 kV3 dc3 pm3 cd3 ct3 : Value} {od3 an3 : Option Addr} {sl3 : Array (Option Value)} {f3 : Addr}
    {oc4 kV4 dc4 pm4 cd4 ct4 : Value} {od4 an4 : Option Addr} {sl4 : Array (Option Value)} {f4 : Addr}
    {oc5 kV5 dc5 pm5 cd5 ct5 : Value} {od5 an5 : Option Addr} {sl5 : Array (Option Value)} {f5 : Addr}
    {oc6 kV6 dc6 pm6 cd6 ct6 : Value} {od6 an6 : Option Addr} {sl6 : Array (Option Value)} {f6 : Addr}
    {oc7 kV7 dc7 pm7 cd7 ct7 : Value} {od7 an7 : Option Addr} {sl7 : Array (Option Value)} {f7 : Addr}
    {oc8 kV8 dc8 pm8 cd8 ct8 : Value} {od8 an8 : Option Addr} {sl8 : Array (Option Value)} {f8 : Addr}
    {oc9 kV9 dc9 pm9 cd9 ct9 : Value} {od9 an9 : Option Addr} {sl9 : Array (Option Value)} {f9 : Addr}
    {oc10 kV10 dc10 pm10 cd10 ct10 : Value} {od10 an10 : Option Addr} {sl10 : Array (Option Value)} {f10 : Addr}
    {oc11 kV11 dc11 pm11 cd11 ct11 : Value} {od11 an11 : Option Addr} {sl11 : Array (Option Value)} {f11 : Addr}
    {oc12 kV12 dc12 pm12 cd12 ct12 : Value} {od12 an12 : Option Addr} {sl12 : Array (Option Value)} {f12 : Addr}
    {oc13 kV13 dc13 pm13 cd13 ct13 : Value} {od13 an13 : Option Addr} {sl13 : Array (Option Value)} {f13 : Addr}
    {oc14 kV14 dc14 pm14 cd14 ct14 : Value} {od14 an14 : Option Addr} {sl14 : Array (Option Value)} {f14 : Addr}
    {oc15 kV15 dc15 pm15 cd15 ct15 : Value} {od15 an15 : Option Addr} {sl15 : Array (Option Value)} {f15 : Addr}
    {oc16 kV16 dc16 pm16 cd16 ct16 : Value} {od16 an16 : Option Addr} {sl16 : Array (Option Value)} {f16 : Addr}
    {oc17 kV17 dc17 pm17 cd17 ct17 : Value} {od17 an17 : Option Addr} {sl17 : Array (Option Value)} {f17 : Addr}
    {oc18 kV18 dc18 pm18 cd18 ct18 : Value} {od18 an18 : Option Addr} {sl18 : Array (Option Value)} {f18 : Addr}
    {oc19 kV19 dc19 pm19 cd19 ct19 : Value} {od19 an19 : Option Addr} {sl19 : Array (Option Value)} {f19 : Addr}
    {oc20 kV20 dc20 pm20 cd20 ct20 : Value} {od20 an20 : Option Addr} {sl20 : Array (Option Value)} {f20 : Addr}
    {oc21 kV21 dc21 pm21 cd21 ct21 : Value} {od21 an21 : Option Addr} {sl21 : Array (Option Value)} {f21 : Addr}
    {oc22 kV22 dc22 pm22 cd22 ct22 : Value} {od22 an22 : Option Addr} {sl22 : Array (Option Value)} {f22 : Addr}
    {oc23 kV23 dc23 pm23 cd23 ct23 : Value} {od23 an23 : Option Addr} {sl23 : Array (Option Value)} {f23 : Addr}
    {oc24 kV24 dc24 pm24 cd24 ct24 : Value} {od24 an24 : Option Addr} {sl24 : Array (Option Value)} {f24 : Addr}
    {oc25 kV25 dc25 pm25 cd25 ct25 : Value} {od25 an25 : Option Addr} {sl25 : Array (Option Value)} {f25 : Addr}
    {oc26 kV26 dc26 pm26 cd26 ct26 : Value} {od26 an26 : Option Addr} {sl26 : Array (Option Value)} {f26 : Addr}
    {oc27 kV27 dc27 pm27 cd27 ct27 : Value} {od27 an27 : Option Addr} {sl27 : Array (Option Value)} {f27 : Addr}
    {oc28 kV28 dc28 pm28 cd28 ct28 : Value} {od28 an28 : Option Addr} {sl28 : Array (Option Value)} {f28 : Addr}
    {oc29 kV29 dc29 pm29 cd29 ct29 : Value} {od29 an29 : Option Addr} {sl29 : Array (Option Value)} {f29 : Addr}
    {oc30 kV30 dc30 pm30 cd30 ct30 : Value} {od30 an30 : Option Addr} {sl30 : Array (Option Value)} {f30 : Addr}
    {oc31 kV31 dc31 pm31 cd31 ct31 : Value} {od31 an31 : Option Addr} {sl31 : Array (Option Value)} {f31 : Addr}
    {oc32 kV32 dc32 pm32 cd32 ct32 : Value} {od32 an32 : Option Addr} {sl32 : Array (Option Value)} {f32 : Addr}
    {oc33 kV33 dc33 pm33 cd33 ct33 : Value} {od33 an33 : Option Addr} {sl33 : Array (Option Value)} {f33 : Addr}
    {oc34 kV34 dc34 pm34 cd34 ct34 : Value} {od34 an34 : Option Addr} {sl34 : Array (Option Value)} {f34 : Addr}
    {oc35 kV35 dc35 pm35 cd35 ct35 : Value} {od35 an35 : Option Addr} {sl35 : Array (Option Value)} {f35 : Addr}
    {oc36 kV36 dc36 pm36 cd36 ct36 : Value} {od36 an36 : Option Addr} {sl36 : Array (Option Value)} {f36 : Addr}
    {tk_MOST_NOTS : Tok}
    {tk_MOST_SUMMED : Tok}
    {tk_MOST_INPUTS : Tok}
    {tk_MOST_NODES : Tok}
    {tk_MOST_PORTS : Tok}
    {tk_MOST_CELLS : Tok}
    {tk_MOST_WEIGHT : Tok}
    {tk_MOST_LOAD : Tok}
    {CP : Addr}
    {CN fEN : Addr}
    {ocN dcN pmN cdN ctN : Value} {odN anN : Option Addr} {slN : Array (Option Value)}
    {CL fEL : Addr}
    {ocL dcL pmL cdL ctL : Value} {odL anL : Option Addr} {slL : Array (Option Value)}
    {CB fEB : Addr}
    {ocB dcB pmB cdB ctB : Value} {odB anB : Option Addr} {slB : Array (Option Value)}
    {pS : Addr}
    {pJ : Addr}
    {pL : Addr}
    {dP : Addr}
    {dC : Addr}
    {dR : Addr}
    {dL : Addr}
    {CNet : Addr}
    {ocinit kVinit dcinit pminit cdinit ctinit : Value} {odinit aninit : Option Addr} {slinit : Array (Option Value)} {finit : Addr}
    {ocnode_list kVnode_list dcnode_list pmnode_list cdnode_list ctnode_list : Value} {odnode_list annode_list : Option Addr} {slnode_list : Array (Option Value)} {fnode_list : Addr}
    {oceq kVeq dceq pmeq cdeq cteq : Value} {odeq aneq : Option Addr} {sleq : Array (Option Value)} {feq : Addr}
    {oclen kVlen dclen pmlen cdlen ctlen : Value} {odlen anlen : Option Addr} {sllen : Array (Option Value)} {flen : Addr}
    {occontains kVcontains dccontains pmcontains cdcontains ctcontains : Value} {odcontains ancontains : Option Addr} {slcontains : Array (Option Value)} {fcontains : Addr}
    {cL PL : Addr} {clL : Value} {ddL : Option Addr} {vsL : Array Value} {csL : Array (Option Value)}
    (a0 : PySem.W.nsIn K mainGlobals "is_integer" = some (some (.ref f0)))
    (l0 : K.lookup f0 = some ⟨oc0, od0, .func (PySem.W.fnOf "is_integer" "is_integer" (defArgs sInteger) (defBody sInteger) (defScope sInteger) .none kV0 dc0 pm0 an0 cd0 ct0), sl0⟩)
    (c0 : PySem.W.codeIn K cd0 "is_integer" = true)
    (k0 : PySem.W.keepIn K (.ref f0) = true)
    (a1 : PySem.W.nsIn K mainGlobals "is_between" = some (some (.ref f1)))
    (l1 : K.lookup f1 = some ⟨oc1, od1, .func (PySem.W.fnOf "is_between" "is_between" (defArgs sBetween) (defBody sBetween) (defScope sBetween) .none kV1 dc1 pm1 an1 cd1 ct1), sl1⟩)
    (c1 : PySem.W.codeIn K cd1 "is_between" = true)
    (k1 : PySem.W.keepIn K (.ref f1) = true)
    (a2 : PySem.W.nsIn K mainGlobals "is_parameter" = some (some (.ref f2)))
    (l2 : K.lookup f2 = some ⟨oc2, od2, .func (PySem.W.fnOf "is_parameter" "is_parameter" (defArgs sParameter) (defBody sParameter) (defScope sParameter) .none kV2 dc2 pm2 an2 cd2 ct2), sl2⟩)
    (c2 : PySem.W.codeIn K cd2 "is_parameter" = true)
    (k2 : PySem.W.keepIn K (.ref f2) = true)
    (a3 : PySem.W.nsIn K mainGlobals "power" = some (some (.ref f3)))
    (l3 : K.lookup f3 = some ⟨oc3, od3, .func (PySem.W.fnOf "power" "power" (defArgs sPower) (defBody sPower) (defScope sPower) .none kV3 dc3 pm3 an3 cd3 ct3), sl3⟩)
    (c3 : PySem.W.codeIn K cd3 "power" = true)
    (k3 : PySem.W.keepIn K (.ref f3) = true)
    (a4 : PySem.W.nsIn K mainGlobals "is_name" = some (some (.ref f4)))
    (l4 : K.lookup f4 = some ⟨oc4, od4, .func (PySem.W.fnOf "is_name" "is_name" (defArgs sName) (defBody sName) (defScope sName) .none kV4 dc4 pm4 an4 cd4 ct4), sl4⟩)
    (c4 : PySem.W.codeIn K cd4 "is_name" = true)
    (k4 : PySem.W.keepIn K (.ref f4) = true)
    (a5 : PySem.W.nsIn K mainGlobals "is_one_of" = some (some (.ref f5)))
    (l5 : K.lookup f5 = some ⟨oc5, od5, .func (PySem.W.fnOf "is_one_of" "is_one_of" (defArgs sOneOf) (defBody sOneOf) (defScope sOneOf) .none kV5 dc5 pm5 an5 cd5 ct5), sl5⟩)
    (c5 : PySem.W.codeIn K cd5 "is_one_of" = true)
    (k5 : PySem.W.keepIn K (.ref f5) = true)
    (a6 : PySem.W.nsIn K mainGlobals "is_test" = some (some (.ref f6)))
    (l6 : K.lookup f6 = some ⟨oc6, od6, .func (PySem.W.fnOf "is_test" "is_test" (defArgs sTest) (defBody sTest) (defScope sTest) .none kV6 dc6 pm6 an6 cd6 ct6), sl6⟩)
    (c6 : PySem.W.codeIn K cd6 "is_test" = true)
    (k6 : PySem.W.keepIn K (.ref f6) = true)
    (a7 : PySem.W.nsIn K mainGlobals "is_negation" = some (some (.ref f7)))
    (l7 : K.lookup f7 = some ⟨oc7, od7, .func (PySem.W.fnOf "is_negation" "is_negation" (defArgs sNegation) (defBody sNegation) (defScope sNegation) .none kV7 dc7 pm7 an7 cd7 ct7), sl7⟩)
    (c7 : PySem.W.codeIn K cd7 "is_negation" = true)
    (k7 : PySem.W.keepIn K (.ref f7) = true)
    (a8 : PySem.W.nsIn K mainGlobals "is_plain_test" = some (some (.ref f8)))
    (l8 : K.lookup f8 = some ⟨oc8, od8, .func (PySem.W.fnOf "is_plain_test" "is_plain_test" (defArgs sPlain) (defBody sPlain) (defScope sPlain) .none kV8 dc8 pm8 an8 cd8 ct8), sl8⟩)
    (c8 : PySem.W.codeIn K cd8 "is_plain_test" = true)
    (k8 : PySem.W.keepIn K (.ref f8) = true)
    (a9 : PySem.W.nsIn K mainGlobals "are_residues" = some (some (.ref f9)))
    (l9 : K.lookup f9 = some ⟨oc9, od9, .func (PySem.W.fnOf "are_residues" "are_residues" (defArgs sResidues) (defBody sResidues) (defScope sResidues) .none kV9 dc9 pm9 an9 cd9 ct9), sl9⟩)
    (c9 : PySem.W.codeIn K cd9 "are_residues" = true)
    (k9 : PySem.W.keepIn K (.ref f9) = true)
    (a10 : PySem.W.nsIn K mainGlobals "modulus_of" = some (some (.ref f10)))
    (l10 : K.lookup f10 = some ⟨oc10, od10, .func (PySem.W.fnOf "modulus_of" "modulus_of" (defArgs sModulus) (defBody sModulus) (defScope sModulus) .none kV10 dc10 pm10 an10 cd10 ct10), sl10⟩)
    (c10 : PySem.W.codeIn K cd10 "modulus_of" = true)
    (k10 : PySem.W.keepIn K (.ref f10) = true)
    (a11 : PySem.W.nsIn K mainGlobals "is_node" = some (some (.ref f11)))
    (l11 : K.lookup f11 = some ⟨oc11, od11, .func (PySem.W.fnOf "is_node" "is_node" (defArgs sNode) (defBody sNode) (defScope sNode) .none kV11 dc11 pm11 an11 cd11 ct11), sl11⟩)
    (c11 : PySem.W.codeIn K cd11 "is_node" = true)
    (k11 : PySem.W.keepIn K (.ref f11) = true)
    (a12 : PySem.W.nsIn K mainGlobals "is_kind" = some (some (.ref f12)))
    (l12 : K.lookup f12 = some ⟨oc12, od12, .func (PySem.W.fnOf "is_kind" "is_kind" (defArgs sKind) (defBody sKind) (defScope sKind) .none kV12 dc12 pm12 an12 cd12 ct12), sl12⟩)
    (c12 : PySem.W.codeIn K cd12 "is_kind" = true)
    (k12 : PySem.W.keepIn K (.ref f12) = true)
    (a13 : PySem.W.nsIn K mainGlobals "are_parameters" = some (some (.ref f13)))
    (l13 : K.lookup f13 = some ⟨oc13, od13, .func (PySem.W.fnOf "are_parameters" "are_parameters" (defArgs sParams) (defBody sParams) (defScope sParams) .none kV13 dc13 pm13 an13 cd13 ct13), sl13⟩)
    (c13 : PySem.W.codeIn K cd13 "are_parameters" = true)
    (k13 : PySem.W.keepIn K (.ref f13) = true)
    (a14 : PySem.W.nsIn K mainGlobals "is_of_sort" = some (some (.ref f14)))
    (l14 : K.lookup f14 = some ⟨oc14, od14, .func (PySem.W.fnOf "is_of_sort" "is_of_sort" (defArgs sSort) (defBody sSort) (defScope sSort) .none kV14 dc14 pm14 an14 cd14 ct14), sl14⟩)
    (c14 : PySem.W.codeIn K cd14 "is_of_sort" = true)
    (k14 : PySem.W.keepIn K (.ref f14) = true)
    (a15 : PySem.W.nsIn K mainGlobals "are_integers" = some (some (.ref f15)))
    (l15 : K.lookup f15 = some ⟨oc15, od15, .func (PySem.W.fnOf "are_integers" "are_integers" (defArgs sIntegers) (defBody sIntegers) (defScope sIntegers) .none kV15 dc15 pm15 an15 cd15 ct15), sl15⟩)
    (c15 : PySem.W.codeIn K cd15 "are_integers" = true)
    (k15 : PySem.W.keepIn K (.ref f15) = true)
    (a16 : PySem.W.nsIn K mainGlobals "are_inputs" = some (some (.ref f16)))
    (l16 : K.lookup f16 = some ⟨oc16, od16, .func (PySem.W.fnOf "are_inputs" "are_inputs" (defArgs sInputs) (defBody sInputs) (defScope sInputs) .none kV16 dc16 pm16 an16 cd16 ct16), sl16⟩)
    (c16 : PySem.W.codeIn K cd16 "are_inputs" = true)
    (k16 : PySem.W.keepIn K (.ref f16) = true)
    (a17 : PySem.W.nsIn K mainGlobals "input_range" = some (some (.ref f17)))
    (l17 : K.lookup f17 = some ⟨oc17, od17, .func (PySem.W.fnOf "input_range" "input_range" (defArgs sInRange) (defBody sInRange) (defScope sInRange) .none kV17 dc17 pm17 an17 cd17 ct17), sl17⟩)
    (c17 : PySem.W.codeIn K cd17 "input_range" = true)
    (k17 : PySem.W.keepIn K (.ref f17) = true)
    (a18 : PySem.W.nsIn K mainGlobals "own_weight" = some (some (.ref f18)))
    (l18 : K.lookup f18 = some ⟨oc18, od18, .func (PySem.W.fnOf "own_weight" "own_weight" (defArgs sOwn) (defBody sOwn) (defScope sOwn) .none kV18 dc18 pm18 an18 cd18 ct18), sl18⟩)
    (c18 : PySem.W.codeIn K cd18 "own_weight" = true)
    (k18 : PySem.W.keepIn K (.ref f18) = true)
    (a19 : PySem.W.nsIn K mainGlobals "copied" = some (some (.ref f19)))
    (l19 : K.lookup f19 = some ⟨oc19, od19, .func (PySem.W.fnOf "copied" "copied" (defArgs sCopied) (defBody sCopied) (defScope sCopied) .none kV19 dc19 pm19 an19 cd19 ct19), sl19⟩)
    (c19 : PySem.W.codeIn K cd19 "copied" = true)
    (k19 : PySem.W.keepIn K (.ref f19) = true)
    (a20 : PySem.W.nsIn K mainGlobals "check_nodes" = some (some (.ref f20)))
    (l20 : K.lookup f20 = some ⟨oc20, od20, .func (PySem.W.fnOf "check_nodes" "check_nodes" (defArgs sCheck) (defBody sCheck) (defScope sCheck) .none kV20 dc20 pm20 an20 cd20 ct20), sl20⟩)
    (c20 : PySem.W.codeIn K cd20 "check_nodes" = true)
    (k20 : PySem.W.keepIn K (.ref f20) = true)
    (a21 : PySem.W.nsIn K mainGlobals "may_read" = some (some (.ref f21)))
    (l21 : K.lookup f21 = some ⟨oc21, od21, .func (PySem.W.fnOf "may_read" "may_read" (defArgs sMay) (defBody sMay) (defScope sMay) .none kV21 dc21 pm21 an21 cd21 ct21), sl21⟩)
    (c21 : PySem.W.codeIn K cd21 "may_read" = true)
    (k21 : PySem.W.keepIn K (.ref f21) = true)
    (a22 : PySem.W.nsIn K mainGlobals "check_limits" = some (some (.ref f22)))
    (l22 : K.lookup f22 = some ⟨oc22, od22, .func (PySem.W.fnOf "check_limits" "check_limits" (defArgs sLimits) (defBody sLimits) (defScope sLimits) .none kV22 dc22 pm22 an22 cd22 ct22), sl22⟩)
    (c22 : PySem.W.codeIn K cd22 "check_limits" = true)
    (k22 : PySem.W.keepIn K (.ref f22) = true)
    (a23 : PySem.W.nsIn K mainGlobals "outlets" = some (some (.ref f23)))
    (l23 : K.lookup f23 = some ⟨oc23, od23, .func (PySem.W.fnOf "outlets" "outlets" (defArgs sOutlets) (defBody sOutlets) (defScope sOutlets) .none kV23 dc23 pm23 an23 cd23 ct23), sl23⟩)
    (c23 : PySem.W.codeIn K cd23 "outlets" = true)
    (k23 : PySem.W.keepIn K (.ref f23) = true)
    (a24 : PySem.W.nsIn K mainGlobals "cells" = some (some (.ref f24)))
    (l24 : K.lookup f24 = some ⟨oc24, od24, .func (PySem.W.fnOf "cells" "cells" (defArgs sCells) (defBody sCells) (defScope sCells) .none kV24 dc24 pm24 an24 cd24 ct24), sl24⟩)
    (c24 : PySem.W.codeIn K cd24 "cells" = true)
    (k24 : PySem.W.keepIn K (.ref f24) = true)
    (a25 : PySem.W.nsIn K mainGlobals "weight" = some (some (.ref f25)))
    (l25 : K.lookup f25 = some ⟨oc25, od25, .func (PySem.W.fnOf "weight" "weight" (defArgs sWeight) (defBody sWeight) (defScope sWeight) .none kV25 dc25 pm25 an25 cd25 ct25), sl25⟩)
    (c25 : PySem.W.codeIn K cd25 "weight" = true)
    (k25 : PySem.W.keepIn K (.ref f25) = true)
    (a26 : PySem.W.nsIn K mainGlobals "product_of" = some (some (.ref f26)))
    (l26 : K.lookup f26 = some ⟨oc26, od26, .func (PySem.W.fnOf "product_of" "product_of" (defArgs sProduct) (defBody sProduct) (defScope sProduct) .none kV26 dc26 pm26 an26 cd26 ct26), sl26⟩)
    (c26 : PySem.W.codeIn K cd26 "product_of" = true)
    (k26 : PySem.W.keepIn K (.ref f26) = true)
    (a27 : PySem.W.nsIn K mainGlobals "loops" = some (some (.ref f27)))
    (l27 : K.lookup f27 = some ⟨oc27, od27, .func (PySem.W.fnOf "loops" "loops" (defArgs sLoops) (defBody sLoops) (defScope sLoops) .none kV27 dc27 pm27 an27 cd27 ct27), sl27⟩)
    (c27 : PySem.W.codeIn K cd27 "loops" = true)
    (k27 : PySem.W.keepIn K (.ref f27) = true)
    (a28 : PySem.W.nsIn K mainGlobals "load" = some (some (.ref f28)))
    (l28 : K.lookup f28 = some ⟨oc28, od28, .func (PySem.W.fnOf "load" "load" (defArgs sLoad) (defBody sLoad) (defScope sLoad) .none kV28 dc28 pm28 an28 cd28 ct28), sl28⟩)
    (c28 : PySem.W.codeIn K cd28 "load" = true)
    (k28 : PySem.W.keepIn K (.ref f28) = true)
    (a29 : PySem.W.nsIn K mainGlobals "renamed" = some (some (.ref f29)))
    (l29 : K.lookup f29 = some ⟨oc29, od29, .func (PySem.W.fnOf "renamed" "renamed" (defArgs sRenamed) (defBody sRenamed) (defScope sRenamed) .none kV29 dc29 pm29 an29 cd29 ct29), sl29⟩)
    (c29 : PySem.W.codeIn K cd29 "renamed" = true)
    (k29 : PySem.W.keepIn K (.ref f29) = true)
    (a30 : PySem.W.nsIn K mainGlobals "is_renaming" = some (some (.ref f30)))
    (l30 : K.lookup f30 = some ⟨oc30, od30, .func (PySem.W.fnOf "is_renaming" "is_renaming" (defArgs sIsRen) (defBody sIsRen) (defScope sIsRen) .none kV30 dc30 pm30 an30 cd30 ct30), sl30⟩)
    (c30 : PySem.W.codeIn K cd30 "is_renaming" = true)
    (k30 : PySem.W.keepIn K (.ref f30) = true)
    (a31 : PySem.W.nsIn K mainGlobals "_law_source_of" = some (some (.ref f31)))
    (l31 : K.lookup f31 = some ⟨oc31, od31, .func (PySem.W.fnOf "_law_source_of" "_law_source_of" (defArgs sSourceOf) (defBody sSourceOf) (defScope sSourceOf) .none kV31 dc31 pm31 an31 cd31 ct31), sl31⟩)
    (c31 : PySem.W.codeIn K cd31 "_law_source_of" = true)
    (k31 : PySem.W.keepIn K (.ref f31) = true)
    (a32 : PySem.W.nsIn K mainGlobals "_law_next" = some (some (.ref f32)))
    (l32 : K.lookup f32 = some ⟨oc32, od32, .func (PySem.W.fnOf "_law_next" "_law_next" (defArgs sNext) (defBody sNext) (defScope sNext) .none kV32 dc32 pm32 an32 cd32 ct32), sl32⟩)
    (c32 : PySem.W.codeIn K cd32 "_law_next" = true)
    (k32 : PySem.W.keepIn K (.ref f32) = true)
    (a33 : PySem.W.nsIn K mainGlobals "_law_one" = some (some (.ref f33)))
    (l33 : K.lookup f33 = some ⟨oc33, od33, .func (PySem.W.fnOf "_law_one" "_law_one" (defArgs sOne) (defBody sOne) (defScope sOne) .none kV33 dc33 pm33 an33 cd33 ct33), sl33⟩)
    (c33 : PySem.W.codeIn K cd33 "_law_one" = true)
    (k33 : PySem.W.keepIn K (.ref f33) = true)
    (a34 : PySem.W.nsIn K mainGlobals "_law_cell_at" = some (some (.ref f34)))
    (l34 : K.lookup f34 = some ⟨oc34, od34, .func (PySem.W.fnOf "_law_cell_at" "_law_cell_at" (defArgs sCellAt) (defBody sCellAt) (defScope sCellAt) .none kV34 dc34 pm34 an34 cd34 ct34), sl34⟩)
    (c34 : PySem.W.codeIn K cd34 "_law_cell_at" = true)
    (k34 : PySem.W.keepIn K (.ref f34) = true)
    (a35 : PySem.W.nsIn K mainGlobals "_law_part" = some (some (.ref f35)))
    (l35 : K.lookup f35 = some ⟨oc35, od35, .func (PySem.W.fnOf "_law_part" "_law_part" (defArgs sPart) (defBody sPart) (defScope sPart) .none kV35 dc35 pm35 an35 cd35 ct35), sl35⟩)
    (c35 : PySem.W.codeIn K cd35 "_law_part" = true)
    (k35 : PySem.W.keepIn K (.ref f35) = true)
    (a36 : PySem.W.nsIn K mainGlobals "law" = some (some (.ref f36)))
    (l36 : K.lookup f36 = some ⟨oc36, od36, .func (PySem.W.fnOf "law" "law" (defArgs sLaw7) (defBody sLaw7) (defScope sLaw7) .none kV36 dc36 pm36 an36 cd36 ct36), sl36⟩)
    (c36 : PySem.W.codeIn K cd36 "law" = true)
    (k36 : PySem.W.keepIn K (.ref f36) = true)
    (b_isinstance : PySem.W.nsIn K mainGlobals "isinstance" = some none)
    (b_int : PySem.W.nsIn K mainGlobals "int" = some none)
    (b_bool : PySem.W.nsIn K mainGlobals "bool" = some none)
    (b_str : PySem.W.nsIn K mainGlobals "str" = some none)
    (b_tuple : PySem.W.nsIn K mainGlobals "tuple" = some none)
    (b_list : PySem.W.nsIn K mainGlobals "list" = some none)
    (b_len : PySem.W.nsIn K mainGlobals "len" = some none)
    (b_all : PySem.W.nsIn K mainGlobals "all" = some none)
    (b_zip : PySem.W.nsIn K mainGlobals "zip" = some none)
    (b_range : PySem.W.nsIn K mainGlobals "range" = some none)
    (b_repr : PySem.W.nsIn K mainGlobals "repr" = some none)
    (b_enumerate : PySem.W.nsIn K mainGlobals "enumerate" = some none)
    (b_sum : PySem.W.nsIn K mainGlobals "sum" = some none)
    (b_max : PySem.W.nsIn K mainGlobals "max" = some none)
    (b_dict : PySem.W.nsIn K mainGlobals "dict" = some none)
    (b_set : PySem.W.nsIn K mainGlobals "set" = some none)
    (v_MOST_NOTS : PySem.W.nsIn K mainGlobals "MOST_NOTS" = some (some (.int 3 tk_MOST_NOTS)))
    (v_MOST_SUMMED : PySem.W.nsIn K mainGlobals "MOST_SUMMED" = some (some (.int 50 tk_MOST_SUMMED)))
    (v_MOST_INPUTS : PySem.W.nsIn K mainGlobals "MOST_INPUTS" = some (some (.int 10 tk_MOST_INPUTS)))
    (v_MOST_NODES : PySem.W.nsIn K mainGlobals "MOST_NODES" = some (some (.int 30 tk_MOST_NODES)))
    (v_MOST_PORTS : PySem.W.nsIn K mainGlobals "MOST_PORTS" = some (some (.int 5 tk_MOST_PORTS)))
    (v_MOST_CELLS : PySem.W.nsIn K mainGlobals "MOST_CELLS" = some (some (.int 100 tk_MOST_CELLS)))
    (v_MOST_WEIGHT : PySem.W.nsIn K mainGlobals "MOST_WEIGHT" = some (some (.int 200 tk_MOST_WEIGHT)))
    (v_MOST_LOAD : PySem.W.nsIn K mainGlobals "MOST_LOAD" = some (some (.int 10000 tk_MOST_LOAD)))
    (gP : PySem.W.nsIn K mainGlobals "PullError" = some (some (.ref CP)))
    (hn : PySem.W.specialIn K (.builtin "object.__class__") "__get__" = some (some (.builtin "getset_descriptor.__get__")))
    (ht : PySem.W.takesIn K (.builtin "object.__class__") = some true)
    (p_e : PySem.W.subIn K (.ref CP) (.type "BaseException") = some true)
    (p_h : PySem.W.hasDictIn K CP = true)
    (p_t : PySem.W.typeIn K (.ref CP) = some (.type "type"))
    (eN_g : PySem.W.nsIn K mainGlobals "InvalidNet" = some (some (.ref CN)))
    (eN_xI : PySem.W.excInitIn K CN PySem.ErrX.arTail "ArithmeticError.__new__" = true)
    (eN_xO : PySem.W.excOver K CN PySem.ErrX.arTail = true)
    (eN_sa : PySem.W.findIn K (.ref CN) "__setattr__" = some (some (.builtin "object.__setattr__")))
    (eN_ga : PySem.W.findIn K (.ref CN) "__getattribute__" = some (some (.builtin "BaseException.__getattribute__")))
    (eN_gg : PySem.W.findIn K (.ref CN) "__getattr__" = some none)
    (eN_nN : PySem.W.findIn K (.ref CN) "at" = some none)
    (eN_iC : PySem.W.findIn K (.ref CN) "__init__" = some (some (.ref fEN)))
    (eN_tC : PySem.W.typeIn K (.ref fEN) = some (.type "function"))
    (eN_kC : PySem.W.keepIn K (.ref CN) = true)
    (eN_eC : PySem.W.subIn K (.ref CN) (.type "BaseException") = some true)
    (eN_ty : PySem.W.typeIn K (.ref CN) = some (.type "type"))
    (eN_hd : PySem.W.hasDictIn K CN = true)
    (eN_l : K.lookup fEN = some ⟨ocN, odN, .func (PySem.W.fnOf "__init__" "InvalidNet.__init__" (PySem.ErrX.iA "at" ⟨6, 17, 6, 21⟩ ⟨6, 23, 6, 25⟩) (PySem.ErrX.iB "at" ⟨7, 8, 7, 12⟩ ⟨7, 8, 7, 15⟩ ⟨7, 18, 7, 20⟩ ⟨7, 8, 7, 20⟩) (PySem.ErrX.iS "at") .none .none dcN pmN anN cdN ctN), slN⟩)
    (eN_c : PySem.W.codeIn K cdN "InvalidNet.__init__" = true)
    (eN_ha : PySem.W.findIn K (.ref CN) "__class__" = some (some (.builtin "object.__class__")))
    (eN_hm : PySem.W.mroIn K CN (.type "object") = some true)
    (eN_sP : PySem.W.subIn K (.ref CN) (.ref CP) = some true)
    (eL_g : PySem.W.nsIn K mainGlobals "LimitExceeded" = some (some (.ref CL)))
    (eL_xI : PySem.W.excInitIn K CL PySem.ErrX.arTail "ArithmeticError.__new__" = true)
    (eL_xO : PySem.W.excOver K CL PySem.ErrX.arTail = true)
    (eL_sa : PySem.W.findIn K (.ref CL) "__setattr__" = some (some (.builtin "object.__setattr__")))
    (eL_ga : PySem.W.findIn K (.ref CL) "__getattribute__" = some (some (.builtin "BaseException.__getattribute__")))
    (eL_gg : PySem.W.findIn K (.ref CL) "__getattr__" = some none)
    (eL_nN : PySem.W.findIn K (.ref CL) "limit" = some none)
    (eL_iC : PySem.W.findIn K (.ref CL) "__init__" = some (some (.ref fEL)))
    (eL_tC : PySem.W.typeIn K (.ref fEL) = some (.type "function"))
    (eL_kC : PySem.W.keepIn K (.ref CL) = true)
    (eL_eC : PySem.W.subIn K (.ref CL) (.type "BaseException") = some true)
    (eL_ty : PySem.W.typeIn K (.ref CL) = some (.type "type"))
    (eL_hd : PySem.W.hasDictIn K CL = true)
    (eL_l : K.lookup fEL = some ⟨ocL, odL, .func (PySem.W.fnOf "__init__" "LimitExceeded.__init__" (PySem.ErrX.iA "limit" ⟨18, 17, 18, 21⟩ ⟨18, 23, 18, 28⟩) (PySem.ErrX.iB "limit" ⟨19, 8, 19, 12⟩ ⟨19, 8, 19, 18⟩ ⟨19, 21, 19, 26⟩ ⟨19, 8, 19, 26⟩) (PySem.ErrX.iS "limit") .none .none dcL pmL anL cdL ctL), slL⟩)
    (eL_c : PySem.W.codeIn K cdL "LimitExceeded.__init__" = true)
    (eL_ha : PySem.W.findIn K (.ref CL) "__class__" = some (some (.builtin "object.__class__")))
    (eL_hm : PySem.W.mroIn K CL (.type "object") = some true)
    (eL_sP : PySem.W.subIn K (.ref CL) (.ref CP) = some true)
    (eB_g : PySem.W.nsIn K mainGlobals "InvalidBound" = some (some (.ref CB)))
    (eB_xI : PySem.W.excInitIn K CB PySem.ErrX.arTail "ArithmeticError.__new__" = true)
    (eB_xO : PySem.W.excOver K CB PySem.ErrX.arTail = true)
    (eB_sa : PySem.W.findIn K (.ref CB) "__setattr__" = some (some (.builtin "object.__setattr__")))
    (eB_ga : PySem.W.findIn K (.ref CB) "__getattribute__" = some (some (.builtin "BaseException.__getattribute__")))
    (eB_gg : PySem.W.findIn K (.ref CB) "__getattr__" = some none)
    (eB_nN : PySem.W.findIn K (.ref CB) "part" = some none)
    (eB_iC : PySem.W.findIn K (.ref CB) "__init__" = some (some (.ref fEB)))
    (eB_tC : PySem.W.typeIn K (.ref fEB) = some (.type "function"))
    (eB_kC : PySem.W.keepIn K (.ref CB) = true)
    (eB_eC : PySem.W.subIn K (.ref CB) (.type "BaseException") = some true)
    (eB_ty : PySem.W.typeIn K (.ref CB) = some (.type "type"))
    (eB_hd : PySem.W.hasDictIn K CB = true)
    (eB_l : K.lookup fEB = some ⟨ocB, odB, .func (PySem.W.fnOf "__init__" "InvalidBound.__init__" (PySem.ErrX.iA "part" ⟨14, 17, 14, 21⟩ ⟨14, 23, 14, 27⟩) (PySem.ErrX.iB "part" ⟨15, 8, 15, 12⟩ ⟨15, 8, 15, 17⟩ ⟨15, 20, 15, 24⟩ ⟨15, 8, 15, 24⟩) (PySem.ErrX.iS "part") .none .none dcB pmB anB cdB ctB), slB⟩)
    (eB_c : PySem.W.codeIn K cdB "InvalidBound.__init__" = true)
    (eB_ha : PySem.W.findIn K (.ref CB) "__class__" = some (some (.builtin "object.__class__")))
    (eB_hm : PySem.W.mroIn K CB (.type "object") = some true)
    (eB_sP : PySem.W.subIn K (.ref CB) (.ref CP) = some true)
    (kit_BB : PySem.W.kitOne K (.ref CB) (.ref CB) = some true)
    (g_SOURCES : PySem.W.nsIn K mainGlobals "SOURCES" = some (some (.ref pS)))
    (t_SOURCES : strsAt K pS sources = true)
    (g_JOINS : PySem.W.nsIn K mainGlobals "JOINS" = some (some (.ref pJ)))
    (t_JOINS : strsAt K pJ joins = true)
    (g_LOOPS : PySem.W.nsIn K mainGlobals "LOOPS" = some (some (.ref pL)))
    (t_LOOPS : strsAt K pL loopsL = true)
    (g_PARAMETERS : PySem.W.nsIn K mainGlobals "PARAMETERS" = some (some (.ref dP)))
    (d_PARAMETERS : He.dicW K dP = some (He.keysIn w.params (kindsL.map (·.1))))
    (t_PARAMETERS : tabAll K dP (strsAt K) kindsL = true)
    (g_CHOICES : PySem.W.nsIn K mainGlobals "CHOICES" = some (some (.ref dC)))
    (d_CHOICES : He.dicW K dC = some (He.keysIn w.params (choices.map (·.1))))
    (t_CHOICES : tabAll K dC (strsAt K) choices = true)
    (g_RANGES : PySem.W.nsIn K mainGlobals "RANGES" = some (some (.ref dR)))
    (d_RANGES : He.dicW K dR = some (He.keysIn w.params (ranges.map (·.1))))
    (t_RANGES : tabAll K dR (fun p (r : Int × Int) => intsAt K p [r.1, r.2]) ranges = true)
    (g_LENGTHS : PySem.W.nsIn K mainGlobals "LENGTHS" = some (some (.ref dL)))
    (d_LENGTHS : He.dicW K dL = some (He.keysIn w.params (lengths.map (·.1))))
    (t_LENGTHS : tabAll K dL (fun p (r : Int × Int) => intsAt K p [r.1, r.2]) lengths = true)
    (g_Net : PySem.W.nsIn K mainGlobals "Net" = some (some (.ref CNet)))
    (q_pg : PySem.W.plainGet K CNet Str.empty = true)
    (q_hd : PySem.W.hasDictIn K CNet = true)
    (q_po : PySem.W.plainOver K CNet = true)
    (q_sa : PySem.W.findIn K (.ref CNet) "__setattr__" = some (some (.builtin "object.__setattr__")))
    (q_mk : PySem.W.makesIn K CNet = true)
    (q_kc : PySem.W.keepIn K (.ref CNet) = true)
    (m_init : PySem.W.findIn K (.ref CNet) "__init__" = some (some (.ref finit)))
    (n_init : PySem.W.isFn K (.ref finit) = true)
    (linit : K.lookup finit = some ⟨ocinit, odinit, .func (PySem.W.fnOf "__init__" "Net.__init__" (defArgs sNetInit) (defBody sNetInit) (defScope sNetInit) .none kVinit dcinit pminit aninit cdinit ctinit), slinit⟩)
    (cinit : PySem.W.codeIn K cdinit "Net.__init__" = true)
    (kinit : PySem.W.keepIn K (.ref finit) = true)
    (m_node_list : PySem.W.findIn K (.ref CNet) "node_list" = some (some (.ref fnode_list)))
    (n_node_list : PySem.W.isFn K (.ref fnode_list) = true)
    (lnode_list : K.lookup fnode_list = some ⟨ocnode_list, odnode_list, .func (PySem.W.fnOf "node_list" "Net.node_list" (defArgs sNodeList) (defBody sNodeList) (defScope sNodeList) .none kVnode_list dcnode_list pmnode_list annode_list cdnode_list ctnode_list), slnode_list⟩)
    (cnode_list : PySem.W.codeIn K cdnode_list "Net.node_list" = true)
    (knode_list : PySem.W.keepIn K (.ref fnode_list) = true)
    (m_eq : PySem.W.findIn K (.ref CNet) "__eq__" = some (some (.ref feq)))
    (n_eq : PySem.W.isFn K (.ref feq) = true)
    (leq : K.lookup feq = some ⟨oceq, odeq, .func (PySem.W.fnOf "__eq__" "Net.__eq__" (defArgs sNetEq) (defBody sNetEq) (defScope sNetEq) .none kVeq dceq pmeq aneq cdeq cteq), sleq⟩)
    (ceq : PySem.W.codeIn K cdeq "Net.__eq__" = true)
    (keq : PySem.W.keepIn K (.ref feq) = true)
    (m_len : PySem.W.findIn K (.ref CNet) "__len__" = some (some (.ref flen)))
    (n_len : PySem.W.isFn K (.ref flen) = true)
    (llen : K.lookup flen = some ⟨oclen, odlen, .func (PySem.W.fnOf "__len__" "Net.__len__" (defArgs sNetLen) (defBody sNetLen) (defScope sNetLen) .none kVlen dclen pmlen anlen cdlen ctlen), sllen⟩)
    (clen : PySem.W.codeIn K cdlen "Net.__len__" = true)
    (klen : PySem.W.keepIn K (.ref flen) = true)
    (m_contains : PySem.W.findIn K (.ref CNet) "__contains__" = some (some (.ref fcontains)))
    (n_contains : PySem.W.isFn K (.ref fcontains) = true)
    (lcontains : K.lookup fcontains = some ⟨occontains, odcontains, .func (PySem.W.fnOf "__contains__" "Net.__contains__" (defArgs sNetHas) (defBody sNetHas) (defScope sNetHas) .none kVcontains dccontains pmcontains ancontains cdcontains ctcontains), slcontains⟩)
    (ccontains : PySem.W.codeIn K cdcontains "Net.__contains__" = true)
    (kcontains : PySem.W.keepIn K (.ref fcontains) = true)
    (na_nodes : PySem.W.findIn K (.ref CNet) "_nodes" = some none)
    (na_places : PySem.W.findIn K (.ref CNet) "_places" = some none)
    (na_plan : PySem.W.findIn K (.ref CNet) "plan" = some none)
    (q_ha : PySem.W.findIn K (.ref CNet) "__class__" = some (some (.builtin "object.__class__")))
    (q_hm : PySem.W.mroIn K CNet (.type "object") = some true)
    (q_ne : PySem.W.findIn K (.ref CNet) "__ne__" = some (some (.builtin "object.__ne__")))
    (q_sf : PySem.W.kitOne K (.ref CNet) (.ref CNet) = some true)
    (tL_c : cd36 = .ref cL)
    (tL_l : K.lookup cL = some ⟨clL, ddL, .fields vsL, csL⟩)
    (tL_v : vsL[11]? = some (.ref PL))
    (tL_n : K.lookup PL = none) (hn63 : n ≤ 63) :
    ∃ cs : List (Addr × Addr), (∀ p ∈ cs, h.get? p.2 = some Rn.tabObj0) ∧ (∀ p ∈ cs, K.lookup p.2 = none) ∧ (∀ p ∈ cs, PySem.W.CodeHd h p.1 p.2) ∧
      ∀ (base : Heap), K.In base → base.Ns mainGlobals mg → (∀ p ∈ cs, TabB base mg p.1 p.2) → ∀ (s : Shared) (H : Hp) (a : Addr) (zs : List Int), zs.length ≤ n → (∀ p ∈ cs, H p.2 = some (.tbl #[])) → SqL K H a (zs.map V.int) → Env0 P w K mg base callerA [] s H →
        codeAny (model P w) callerA (.call (.ref fa) ⟨[.ref a], []⟩) (CR CX0 [] P w H s (fun v _ => v = .bl true) E0) s := by
  have F0 := fun_mk (st := sInteger) l0 c0 k0
  have D0 : Dfn K mg "is_integer" sInteger ["value"] := ⟨_, _, F0, PySem.W.mg_of X G a0, F0.binds (ps := ["value"]) fun _ _ _ _ _ _ us hl => match us, hl with | [_], _ => rfl⟩
  have F1 := fun_mk (st := sBetween) l1 c1 k1
  have D1 : Dfn K mg "is_between" sBetween ["value", "low", "high"] := ⟨_, _, F1, PySem.W.mg_of X G a1, F1.binds (ps := ["value", "low", "high"]) fun _ _ _ _ _ _ us hl => match us, hl with | [_, _, _], _ => rfl⟩
  have F2 := fun_mk (st := sParameter) l2 c2 k2
  have D2 : Dfn K mg "is_parameter" sParameter ["value"] := ⟨_, _, F2, PySem.W.mg_of X G a2, F2.binds (ps := ["value"]) fun _ _ _ _ _ _ us hl => match us, hl with | [_], _ => rfl⟩
  have F3 := fun_mk (st := sPower) l3 c3 k3
  have D3 : Dfn K mg "power" sPower ["base", "exponent"] := ⟨_, _, F3, PySem.W.mg_of X G a3, F3.binds (ps := ["base", "exponent"]) fun _ _ _ _ _ _ us hl => match us, hl with | [_, _], _ => rfl⟩
  have F4 := fun_mk (st := sName) l4 c4 k4
  have D4 : Dfn K mg "is_name" sName ["value"] := ⟨_, _, F4, PySem.W.mg_of X G a4, F4.binds (ps := ["value"]) fun _ _ _ _ _ _ us hl => match us, hl with | [_], _ => rfl⟩
  have F5 := fun_mk (st := sOneOf) l5 c5 k5
  have D5 : Dfn K mg "is_one_of" sOneOf ["value", "words"] := ⟨_, _, F5, PySem.W.mg_of X G a5, F5.binds (ps := ["value", "words"]) fun _ _ _ _ _ _ us hl => match us, hl with | [_, _], _ => rfl⟩
  have F6 := fun_mk (st := sTest) l6 c6 k6
  have D6 : Dfn K mg "is_test" sTest ["value"] := ⟨_, _, F6, PySem.W.mg_of X G a6, F6.binds (ps := ["value"]) fun _ _ _ _ _ _ us hl => match us, hl with | [_], _ => rfl⟩
  have F7 := fun_mk (st := sNegation) l7 c7 k7
  have D7 : Dfn K mg "is_negation" sNegation ["value"] := ⟨_, _, F7, PySem.W.mg_of X G a7, F7.binds (ps := ["value"]) fun _ _ _ _ _ _ us hl => match us, hl with | [_], _ => rfl⟩
  have F8 := fun_mk (st := sPlain) l8 c8 k8
  have D8 : Dfn K mg "is_plain_test" sPlain ["value"] := ⟨_, _, F8, PySem.W.mg_of X G a8, F8.binds (ps := ["value"]) fun _ _ _ _ _ _ us hl => match us, hl with | [_], _ => rfl⟩
  have F9 := fun_mk (st := sResidues) l9 c9 k9
  have D9 : Dfn K mg "are_residues" sResidues ["value", "modulus"] := ⟨_, _, F9, PySem.W.mg_of X G a9, F9.binds (ps := ["value", "modulus"]) fun _ _ _ _ _ _ us hl => match us, hl with | [_, _], _ => rfl⟩
  have F10 := fun_mk (st := sModulus) l10 c10 k10
  have D10 : Dfn K mg "modulus_of" sModulus ["test"] := ⟨_, _, F10, PySem.W.mg_of X G a10, F10.binds (ps := ["test"]) fun _ _ _ _ _ _ us hl => match us, hl with | [_], _ => rfl⟩
  have F11 := fun_mk (st := sNode) l11 c11 k11
  have D11 : Dfn K mg "is_node" sNode ["value"] := ⟨_, _, F11, PySem.W.mg_of X G a11, F11.binds (ps := ["value"]) fun _ _ _ _ _ _ us hl => match us, hl with | [_], _ => rfl⟩
  have F12 := fun_mk (st := sKind) l12 c12 k12
  have D12 : Dfn K mg "is_kind" sKind ["value"] := ⟨_, _, F12, PySem.W.mg_of X G a12, F12.binds (ps := ["value"]) fun _ _ _ _ _ _ us hl => match us, hl with | [_], _ => rfl⟩
  have F13 := fun_mk (st := sParams) l13 c13 k13
  have D13 : Dfn K mg "are_parameters" sParams ["kind", "value"] := ⟨_, _, F13, PySem.W.mg_of X G a13, F13.binds (ps := ["kind", "value"]) fun _ _ _ _ _ _ us hl => match us, hl with | [_, _], _ => rfl⟩
  have F14 := fun_mk (st := sSort) l14 c14 k14
  have D14 : Dfn K mg "is_of_sort" sSort ["sort", "value"] := ⟨_, _, F14, PySem.W.mg_of X G a14, F14.binds (ps := ["sort", "value"]) fun _ _ _ _ _ _ us hl => match us, hl with | [_, _], _ => rfl⟩
  have F15 := fun_mk (st := sIntegers) l15 c15 k15
  have D15 : Dfn K mg "are_integers" sIntegers ["value", "least", "most"] := ⟨_, _, F15, PySem.W.mg_of X G a15, F15.binds (ps := ["value", "least", "most"]) fun _ _ _ _ _ _ us hl => match us, hl with | [_, _, _], _ => rfl⟩
  have F16 := fun_mk (st := sInputs) l16 c16 k16
  have D16 : Dfn K mg "are_inputs" sInputs ["kind", "value"] := ⟨_, _, F16, PySem.W.mg_of X G a16, F16.binds (ps := ["kind", "value"]) fun _ _ _ _ _ _ us hl => match us, hl with | [_, _], _ => rfl⟩
  have F17 := fun_mk (st := sInRange) l17 c17 k17
  have D17 : Dfn K mg "input_range" sInRange ["kind"] := ⟨_, _, F17, PySem.W.mg_of X G a17, F17.binds (ps := ["kind"]) fun _ _ _ _ _ _ us hl => match us, hl with | [_], _ => rfl⟩
  have F18 := fun_mk (st := sOwn) l18 c18 k18
  have D18 : Dfn K mg "own_weight" sOwn ["node"] := ⟨_, _, F18, PySem.W.mg_of X G a18, F18.binds (ps := ["node"]) fun _ _ _ _ _ _ us hl => match us, hl with | [_], _ => rfl⟩
  have F19 := fun_mk (st := sCopied) l19 c19 k19
  have D19 : Dfn K mg "copied" sCopied ["value"] := ⟨_, _, F19, PySem.W.mg_of X G a19, F19.binds (ps := ["value"]) fun _ _ _ _ _ _ us hl => match us, hl with | [_], _ => rfl⟩
  have F20 := fun_mk (st := sCheck) l20 c20 k20
  have D20 : Dfn K mg "check_nodes" sCheck ["nodes"] := ⟨_, _, F20, PySem.W.mg_of X G a20, F20.binds (ps := ["nodes"]) fun _ _ _ _ _ _ us hl => match us, hl with | [_], _ => rfl⟩
  have F21 := fun_mk (st := sMay) l21 c21 k21
  have D21 : Dfn K mg "may_read" sMay ["inputs", "kinds", "uses"] := ⟨_, _, F21, PySem.W.mg_of X G a21, F21.binds (ps := ["inputs", "kinds", "uses"]) fun _ _ _ _ _ _ us hl => match us, hl with | [_, _, _], _ => rfl⟩
  have F22 := fun_mk (st := sLimits) l22 c22 k22
  have D22 : Dfn K mg "check_limits" sLimits ["net"] := ⟨_, _, F22, PySem.W.mg_of X G a22, F22.binds (ps := ["net"]) fun _ _ _ _ _ _ us hl => match us, hl with | [_], _ => rfl⟩
  have F23 := fun_mk (st := sOutlets) l23 c23 k23
  have D23 : Dfn K mg "outlets" sOutlets ["net"] := ⟨_, _, F23, PySem.W.mg_of X G a23, F23.binds (ps := ["net"]) fun _ _ _ _ _ _ us hl => match us, hl with | [_], _ => rfl⟩
  have F24 := fun_mk (st := sCells) l24 c24 k24
  have D24 : Dfn K mg "cells" sCells ["net"] := ⟨_, _, F24, PySem.W.mg_of X G a24, F24.binds (ps := ["net"]) fun _ _ _ _ _ _ us hl => match us, hl with | [_], _ => rfl⟩
  have F25 := fun_mk (st := sWeight) l25 c25 k25
  have D25 : Dfn K mg "weight" sWeight ["net"] := ⟨_, _, F25, PySem.W.mg_of X G a25, F25.binds (ps := ["net"]) fun _ _ _ _ _ _ us hl => match us, hl with | [_], _ => rfl⟩
  have F26 := fun_mk (st := sProduct) l26 c26 k26
  have D26 : Dfn K mg "product_of" sProduct ["numbers"] := ⟨_, _, F26, PySem.W.mg_of X G a26, F26.binds (ps := ["numbers"]) fun _ _ _ _ _ _ us hl => match us, hl with | [_], _ => rfl⟩
  have F27 := fun_mk (st := sLoops) l27 c27 k27
  have D27 : Dfn K mg "loops" sLoops ["net"] := ⟨_, _, F27, PySem.W.mg_of X G a27, F27.binds (ps := ["net"]) fun _ _ _ _ _ _ us hl => match us, hl with | [_], _ => rfl⟩
  have F28 := fun_mk (st := sLoad) l28 c28 k28
  have D28 : Dfn K mg "load" sLoad ["net", "depth"] := ⟨_, _, F28, PySem.W.mg_of X G a28, F28.binds (ps := ["net", "depth"]) fun _ _ _ _ _ _ us hl => match us, hl with | [_, _], _ => rfl⟩
  have F29 := fun_mk (st := sRenamed) l29 c29 k29
  have D29 : Dfn K mg "renamed" sRenamed ["net", "names"] := ⟨_, _, F29, PySem.W.mg_of X G a29, F29.binds (ps := ["net", "names"]) fun _ _ _ _ _ _ us hl => match us, hl with | [_, _], _ => rfl⟩
  have F30 := fun_mk (st := sIsRen) l30 c30 k30
  have D30 : Dfn K mg "is_renaming" sIsRen ["net", "value"] := ⟨_, _, F30, PySem.W.mg_of X G a30, F30.binds (ps := ["net", "value"]) fun _ _ _ _ _ _ us hl => match us, hl with | [_, _], _ => rfl⟩
  have F31 := fun_mk (st := sSourceOf) l31 c31 k31
  have D31 : Dfn K mg "_law_source_of" sSourceOf ["_law_cell"] := ⟨_, _, F31, PySem.W.mg_of X G a31, F31.binds (ps := ["_law_cell"]) fun _ _ _ _ _ _ us hl => match us, hl with | [_], _ => rfl⟩
  have F32 := fun_mk (st := sNext) l32 c32 k32
  have D32 : Dfn K mg "_law_next" sNext ["_law_source", "_law_many"] := ⟨_, _, F32, PySem.W.mg_of X G a32, F32.binds (ps := ["_law_source", "_law_many"]) fun _ _ _ _ _ _ us hl => match us, hl with | [_, _], _ => rfl⟩
  have F33 := fun_mk (st := sOne) l33 c33 k33
  have D33 : Dfn K mg "_law_one" sOne ["_law_source", "_law_options"] := ⟨_, _, F33, PySem.W.mg_of X G a33, F33.binds (ps := ["_law_source", "_law_options"]) fun _ _ _ _ _ _ us hl => match us, hl with | [_, _], _ => rfl⟩
  have F34 := fun_mk (st := sCellAt) l34 c34 k34
  have D34 : Dfn K mg "_law_cell_at" sCellAt ["_law_script", "_law_k"] := ⟨_, _, F34, PySem.W.mg_of X G a34, F34.binds (ps := ["_law_script", "_law_k"]) fun _ _ _ _ _ _ us hl => match us, hl with | [_, _], _ => rfl⟩
  have F35 := fun_mk (st := sPart) l35 c35 k35
  have D35 : Dfn K mg "_law_part" sPart ["_law_call"] := ⟨_, _, F35, PySem.W.mg_of X G a35, F35.binds (ps := ["_law_call"]) fun _ _ _ _ _ _ us hl => match us, hl with | [_], _ => rfl⟩
  have F36 := fun_mk (st := sLaw7) l36 c36 k36
  have RN : PySem.ErrX.ErrTxt K mg "InvalidNet" "at" CN fEN := { gC := PySem.W.mg_of X G eN_g, xI := eN_xI, xO := eN_xO, sa := eN_sa, ga := eN_ga, gg := eN_gg, noN := eN_nN, iC := eN_iC, tC := eN_tC, kC := eN_kC, exC := eN_eC, tyC := eN_ty, hdC := eN_hd, fn := ⟨_, _, _, _, _, _, _, _, _, _, _, _, _, _, _, eN_l, eN_c⟩, bd := fun _ _ _ _ _ _ _ _ _ _ _ _ _ _ => rfl, ns := by decide, nd := by decide }
  have RL : PySem.ErrX.ErrTxt K mg "LimitExceeded" "limit" CL fEL := { gC := PySem.W.mg_of X G eL_g, xI := eL_xI, xO := eL_xO, sa := eL_sa, ga := eL_ga, gg := eL_gg, noN := eL_nN, iC := eL_iC, tC := eL_tC, kC := eL_kC, exC := eL_eC, tyC := eL_ty, hdC := eL_hd, fn := ⟨_, _, _, _, _, _, _, _, _, _, _, _, _, _, _, eL_l, eL_c⟩, bd := fun _ _ _ _ _ _ _ _ _ _ _ _ _ _ => rfl, ns := by decide, nd := by decide }
  have RB : PySem.ErrX.ErrTxt K mg "InvalidBound" "part" CB fEB := { gC := PySem.W.mg_of X G eB_g, xI := eB_xI, xO := eB_xO, sa := eB_sa, ga := eB_ga, gg := eB_gg, noN := eB_nN, iC := eB_iC, tC := eB_tC, kC := eB_kC, exC := eB_eC, tyC := eB_ty, hdC := eB_hd, fn := ⟨_, _, _, _, _, _, _, _, _, _, _, _, _, _, _, eB_l, eB_c⟩, bd := fun _ _ _ _ _ _ _ _ _ _ _ _ _ _ => rfl, ns := by decide, nd := by decide }
  have EB : ExcC K CB := ⟨eB_ga, eB_gg, eB_eC, eB_hd, eB_ha, hn, ht, eB_hm⟩
  have TPARAMETERS := tab_words d_PARAMETERS t_PARAMETERS
  have TCHOICES := tab_words d_CHOICES t_CHOICES
  have TRANGES := tab_twos d_RANGES t_RANGES
  have TLENGTHS := tab_twos d_LENGTHS t_LENGTHS
  have Finit := fun_mk (st := sNetInit) linit cinit kinit
  have Fnode_list := fun_mk (st := sNodeList) lnode_list cnode_list knode_list
  have Feq := fun_mk (st := sNetEq) leq ceq keq
  have Flen := fun_mk (st := sNetLen) llen clen klen
  have Fcontains := fun_mk (st := sNetHas) lcontains ccontains kcontains
  have QC : Cls K CNet := ⟨q_pg, q_hd, q_po, q_sa⟩
  cases hfa.symm.trans (PySem.W.mg_of X G a36)
  subst tL_c
  have gL := emp "law" (by decide) _ hfa cL PL _ _ _ _ _ _ l36 rfl rfl tL_l tL_v
  have B : Blt mg := ⟨PySem.W.mg_none_of X G b_isinstance, PySem.W.mg_none_of X G b_int, PySem.W.mg_none_of X G b_bool, PySem.W.mg_none_of X G b_str, PySem.W.mg_none_of X G b_tuple, PySem.W.mg_none_of X G b_list, PySem.W.mg_none_of X G b_len, PySem.W.mg_none_of X G b_all, PySem.W.mg_none_of X G b_zip, PySem.W.mg_none_of X G b_range, PySem.W.mg_none_of X G b_repr⟩
  have bE : mg "enumerate" = none := PySem.W.mg_none_of X G b_enumerate
  have bS : mg "sum" = none := PySem.W.mg_none_of X G b_sum
  have bM : mg "max" = none := PySem.W.mg_none_of X G b_max
  have bD : mg "dict" = none := PySem.W.mg_none_of X G b_dict
  have bT : mg "set" = none := PySem.W.mg_none_of X G b_set
  have T : Tables K w mg dP dR dL dC := ⟨PySem.W.mg_of X G g_PARAMETERS, PySem.W.mg_of X G g_RANGES, PySem.W.mg_of X G g_LENGTHS, PySem.W.mg_of X G g_CHOICES, TPARAMETERS, TRANGES, TLENGTHS, TCHOICES⟩
  have W : Words K mg pS pJ := ⟨PySem.W.mg_of X G g_SOURCES, PySem.W.mg_of X G g_JOINS, ⟨_, PySem.W.mg_of X G v_MOST_INPUTS⟩, strsAt_is t_SOURCES, strsAt_is t_JOINS⟩
  have bi := Finit.binds (ps := ["self", "nodes"]) fun _ _ _ _ _ _ us hl => match us, hl with | [_, _], _ => rfl
  have bn := Fnode_list.binds (ps := ["self"]) fun _ _ _ _ _ _ us hl => match us, hl with | [_], _ => rfl
  have b2 := Feq.binds (ps := ["self", "other"]) fun _ _ _ _ _ _ us hl => match us, hl with | [_, _], _ => rfl
  have b3 := Flen.binds (ps := ["self"]) fun _ _ _ _ _ _ us hl => match us, hl with | [_], _ => rfl
  have b4 := Fcontains.binds (ps := ["self", "name"]) fun _ _ _ _ _ _ us hl => match us, hl with | [_, _], _ => rfl
  have gC := PySem.W.mg_of X G g_Net
  have TY : ClsTy K CNet := ⟨q_ha, hn, ht, q_hm, q_ne, q_sf⟩
  have RE : ErrsB K mg CP CB fEB := { b := RB, gP := PySem.W.mg_of X G gP, eB := EB, kBB := kit_BB, xB := PySem.W.exm_ref p_e p_h p_t eB_sP }
  refine ⟨[(cL, PL)], ?_, ?_, ?_, fun base kb nb tbs s H a zs len tabs seq e0 => ?_⟩
  · intro p hp
    obtain rfl := List.mem_singleton.mp hp
    exact gL.1
  · intro p hp
    obtain rfl := List.mem_singleton.mp hp
    exact tL_n
  · intro p hp
    obtain rfl := List.mem_singleton.mp hp
    exact gL.2
  have GI : DefOk P w K mg base CX0 1 "is_integer" ["value"] (spInteger K) := ok_integer B D0
  have GB : DefOk P w K mg base CX0 2 "is_between" ["value", "low", "high"] (spBetween K) := ok_between GI D1
  have GPa : DefOk P w K mg base CX0 3 "is_parameter" ["value"] (spParameter K) := ok_parameter GB D2
  have GO1 : DefOk P w K mg base CX0 1 "is_one_of" ["value", "words"] (spOneOf K) := ok_oneOf B D5
  have GNg : DefOk P w K mg base CX0 2 "is_negation" ["value"] (spNegation K) := ok_negation B GO1 D7
  have GRs : DefOk P w K mg base CX0 3 "are_residues" ["value", "modulus"] (spResidues K) := ok_residues B GB D9
  have GPn : DefOk P w K mg base CX0 4 "is_plain_test" ["value"] (spPlain K) := ok_plain B GO1 GPa GB GRs D8
  have GT : DefOk P w K mg base CX0 5 "is_test" ["value"] (spTest K) := ok_test B (PySem.W.mg_of X G v_MOST_NOTS) GNg GPn D6
  have GMo : DefOk P w K mg base CX0 4 "modulus_of" ["test"] (spModulus K 4) := ok_modulus D10 4
  have GPw : DefOk P w K mg base CX0 1 "power" ["base", "exponent"] (spPower K) := ok_power B D3
  have GNm : DefOk P w K mg base CX0 1 "is_name" ["value"] (spName K) := ok_name B D4
  have GIs : DefOk P w K mg base CX0 4 "are_integers" ["value", "least", "most"] (spInts K) := ok_integers B GPa D15
  have GK : DefOk P w K mg base CX0 1 "is_kind" ["value"] (spKind K) := ok_kind B T D12
  have GSo : DefOk P w K mg base CX0 6 "is_of_sort" ["sort", "value"] (spSort K) := ok_sort B T GB GIs GO1 GT GNm D14
  have GPs : DefOk P w K mg base CX0 7 "are_parameters" ["kind", "value"] (spParams K) := ok_params B T (PySem.W.mg_of X G v_MOST_SUMMED) GSo D13
  have GIr : DefOk P w K mg base CX0 1 "input_range" ["kind"] (spInRange K) := ok_inRange W D17
  have GIn : DefOk P w K mg base CX0 2 "are_inputs" ["kind", "value"] (spInputs K) := ok_inputs B GIr GNm D16
  have GNo : DefOk P w K mg base CX0 8 "is_node" ["value"] (spNode K) := ok_node B GNm GK GPs GIn D11
  have GOw : DefOk P w K mg base CX0 5 "own_weight" ["node"] (spOwn K) := ok_own B GMo D18
  have GCp : DefOk P w K mg base CX0 10 "copied" ["value"] (spCopied K 10) := ok_copied B D19 10
  have GMy : DefOk P w K mg base CX0 1 "may_read" ["inputs", "kinds", "uses"] (spMay K) := ok_may (PySem.W.mg_of X G v_MOST_PORTS) D21
  have GCk : DefOk P w K mg base (L2.CX P w) 9 "check_nodes" ["nodes"] (spCheck K CN) := ok_check B bE RN (PySem.W.mg_of X G v_MOST_NODES) GNo GMy D20
  have NC : NetCls P w K mg base CNet := ⟨QC, _, _, ⟨m_node_list, n_node_list, knode_list⟩, ok_nodeList QC na_nodes GCp Fnode_list, bn⟩
  have GOu : DefOk P w K mg base CX0 12 "outlets" ["net"] (spOutlets K CNet) := ok_outlets NC D23
  have GCe : DefOk P w K mg base CX0 13 "cells" ["net"] (spCells K CNet) := ok_cells bS NC GOu D24
  have GPr : DefOk P w K mg base CX0 1 "product_of" ["numbers"] (spProdW K) := ok_productW D26
  have GW : DefOk P w K mg base CX0 13 "weight" ["net"] (spWeight K CNet) := ok_weight NC GOu GOw GPr D25
  have GLo : DefOk P w K mg base CX0 13 "loops" ["net"] (spLoops K CNet) := ok_loops bM (PySem.W.mg_of X G g_LOOPS) (strsAt_is t_LOOPS) NC GOu D27
  have GLd : DefOk P w K mg base CX0 14 "load" ["net", "depth"] (spLoad K CNet) := ok_load GW GLo GPw D28
  have GLm : DefOk P w K mg base (L2.CX P w) 15 "check_limits" ["net"] (spLimits K CNet CL) := ok_limits RL (PySem.W.mg_of X G v_MOST_CELLS) (PySem.W.mg_of X G v_MOST_WEIGHT) (PySem.W.mg_of X G v_MOST_LOAD) GCe GW GLd D22
  have FI := fn_init (P := P) (w := w) (base := base) bE QC na_nodes na_places na_plan GCk GCp GLm _ _ Finit
  have mE : Meth K CNet "__eq__" feq := ⟨m_eq, n_eq, keq⟩
  have FE : FnOk P w K mg base CX0 1 _ _ ["self", "other"] (spEqN K CNet) := fn_eq B QC na_nodes gC TY Feq
  have NO : NetOps P w K mg base CNet := ⟨TY, ⟨_, _, ⟨m_contains, n_contains, kcontains⟩, fn_has B QC na_places Fcontains, b4⟩, ⟨_, _, ⟨m_len, n_len, klen⟩, fn_len B QC na_nodes Flen, b3⟩, ⟨_, _, mE, FE, b2⟩⟩
  have GIR : DefOk P w K mg base CX0 3 "is_renaming" ["net", "value"] (spIsRen K CNet) := ok_isRen B bD bT NO GNm D30
  have GR : DefOk P w K mg base (L2.CX P w) 18 "renamed" ["net", "names"] (spRenamed K CNet CB) := ok_renamed B NC gC ⟨_, _, ⟨q_mk, m_init, n_init, q_kc⟩, FI, bi⟩ RB GIR D29
  have GN : DefOk P w K mg base CX0 1 "_law_next" ["_law_source", "_law_many"] spNext := ok_next B D32
  have GO : DefOk P w K mg base CX0 2 "_law_one" ["_law_source", "_law_options"] (spOne K) := ok_one B GN D33
  have tbL : TabB base mg cL PL := tbs (cL, PL) (List.mem_singleton.mpr rfl)
  have uniq : ∀ p ∈ ([(PL, ("law.<locals>.<lambda>" : Str))] : List (Addr × Str)), p.1 = PL → p.2 = ("law.<locals>.<lambda>" : Str) := fun p hp _ => by
    obtain rfl := List.mem_singleton.mp hp
    rfl
  have Cs : Calls7 P w K mg base CNet CP CB CN CL fEB _ _ _ _ := {
    B := B, R := RE, gC := gC, M := ⟨q_mk, m_init, n_init, q_kc⟩, FI := FI, bi := bi, T := TY, mE := mE, FE := FE, bE := b2, GR := GR
    GS := ok_sourceOf B D31, GO := GO, GC := ok_cellAt B D34, DP := D35 }
  have tabsT : Tabs [(PL, ("law.<locals>.<lambda>" : Str))] H := fun p hp => by
    obtain rfl := List.mem_singleton.mp hp
    exact TabS.nil (tabs (cL, PL) (List.mem_singleton.mpr rfl))
  refine run_ofS (k := 22) (N := lawN7) (ps := ["_law_script"]) (us := [.ref a]) (vs := [.ref a]) l36 c36 scLaw7 ⟨rfl, by decide, by decide⟩ e0 (.of_eq rfl) (.cons rfl .nil) rfl fun hr => ?_
  obtain ⟨t, ht, hq⟩ := law_body7 (E := E0) Cs tbL (List.mem_singleton.mpr rfl) uniq rfl hr (Q := fun v _ => v = .bl true) ⟨a, zs, rfl, seq, Nat.le_trans len hn63, tabsT, fun _ => rfl⟩
  exact ⟨t, ht.nox, hq⟩
end Pw
open PySem PySem.W PyProof.Rows
set_option maxRecDepth 100000 in
set_option maxHeartbeats 0 in
theorem PySem.Challenge.cw_pullworks_k76_invalid_names_for_nets_holds : PySem.Challenge.rw_pullworks_k76_invalid_names_for_nets.Holds := by
  w_on; o_law; k_head; (case hw => w_witness2)
  k_fill
  refine Rn.walk_run (l := PySem.Challenge.rw_pullworks_k76_invalid_names_for_nets) (n := 63) (names := ["law"]) rfl (by decide) rfl (by decide +kernel) (fun w h Y => by first | exact PySem.W.km_in_of Y | exact PySem.W.kIn_of Y) ?F
  case F =>
    intro w mg fa h Y KX G hmg emp
    refine' Pw.all_mk KX G hmg emp ?a0 ?l0 ?c0 ?k0 ?a1 ?l1 ?c1 ?k1 ?a2 ?l2 ?c2 ?k2 ?a3 ?l3 ?c3 ?k3 ?a4 ?l4 ?c4 ?k4 ?a5 ?l5 ?c5 ?k5 ?a6 ?l6 ?c6 ?k6 ?a7 ?l7 ?c7 ?k7 ?a8 ?l8 ?c8 ?k8 ?a9 ?l9 ?c9 ?k9 ?a10 ?l10 ?c10 ?k10 ?a11 ?l11 ?c11 ?k11 ?a12 ?l12 ?c12 ?k12 ?a13 ?l13 ?c13 ?k13 ?a14 ?l14 ?c14 ?k14 ?a15 ?l15 ?c15 ?k15 ?a16 ?l16 ?c16 ?k16 ?a17 ?l17 ?c17 ?k17 ?a18 ?l18 ?c18 ?k18 ?a19 ?l19 ?c19 ?k19 ?a20 ?l20 ?c20 ?k20 ?a21 ?l21 ?c21 ?k21 ?a22 ?l22 ?c22 ?k22 ?a23 ?l23 ?c23 ?k23 ?a24 ?l24 ?c24 ?k24 ?a25 ?l25 ?c25 ?k25 ?a26 ?l26 ?c26 ?k26 ?a27 ?l27 ?c27 ?k27 ?a28 ?l28 ?c28 ?k28 ?a29 ?l29 ?c29 ?k29 ?a30 ?l30 ?c30 ?k30 ?a31 ?l31 ?c31 ?k31 ?a32 ?l32 ?c32 ?k32 ?a33 ?l33 ?c33 ?k33 ?a34 ?l34 ?c34 ?k34 ?a35 ?l35 ?c35 ?k35 ?a36 ?l36 ?c36 ?k36 ?b_isinstance ?b_int ?b_bool ?b_str ?b_tuple ?b_list ?b_len ?b_all ?b_zip ?b_range ?b_repr ?b_enumerate ?b_sum ?b_max ?b_dict ?b_set ?v_MOST_NOTS ?v_MOST_SUMMED ?v_MOST_INPUTS ?v_MOST_NODES ?v_MOST_PORTS ?v_MOST_CELLS ?v_MOST_WEIGHT ?v_MOST_LOAD ?gP ?hn ?ht ?p_e ?p_h ?p_t ?eN_g ?eN_xI ?eN_xO ?eN_sa ?eN_ga ?eN_gg ?eN_nN ?eN_iC ?eN_tC ?eN_kC ?eN_eC ?eN_ty ?eN_hd ?eN_l ?eN_c ?eN_ha ?eN_hm ?eN_sP ?eL_g ?eL_xI ?eL_xO ?eL_sa ?eL_ga ?eL_gg ?eL_nN ?eL_iC ?eL_tC ?eL_kC ?eL_eC ?eL_ty ?eL_hd ?eL_l ?eL_c ?eL_ha ?eL_hm ?eL_sP ?eB_g ?eB_xI ?eB_xO ?eB_sa ?eB_ga ?eB_gg ?eB_nN ?eB_iC ?eB_tC ?eB_kC ?eB_eC ?eB_ty ?eB_hd ?eB_l ?eB_c ?eB_ha ?eB_hm ?eB_sP ?kit_BB ?g_SOURCES ?t_SOURCES ?g_JOINS ?t_JOINS ?g_LOOPS ?t_LOOPS ?g_PARAMETERS ?d_PARAMETERS ?t_PARAMETERS ?g_CHOICES ?d_CHOICES ?t_CHOICES ?g_RANGES ?d_RANGES ?t_RANGES ?g_LENGTHS ?d_LENGTHS ?t_LENGTHS ?g_Net ?q_pg ?q_hd ?q_po ?q_sa ?q_mk ?q_kc ?m_init ?n_init ?linit ?cinit ?kinit ?m_node_list ?n_node_list ?lnode_list ?cnode_list ?knode_list ?m_eq ?n_eq ?leq ?ceq ?keq ?m_len ?n_len ?llen ?clen ?klen ?m_contains ?n_contains ?lcontains ?ccontains ?kcontains ?na_nodes ?na_places ?na_plan ?q_ha ?q_hm ?q_ne ?q_sf ?tL_c ?tL_l ?tL_v ?tL_n (Nat.le_refl _)
    (case a0 => first | k_is | rfl)
    (case l0 => first | k_is | rfl)
    (case c0 => first | k_is | rfl)
    (case k0 => first | k_is | rfl)
    (case a1 => first | k_is | rfl)
    (case l1 => first | k_is | rfl)
    (case c1 => first | k_is | rfl)
    (case k1 => first | k_is | rfl)
    (case a2 => first | k_is | rfl)
    (case l2 => first | k_is | rfl)
    (case c2 => first | k_is | rfl)
    (case k2 => first | k_is | rfl)
    (case a3 => first | k_is | rfl)
    (case l3 => first | k_is | rfl)
    (case c3 => first | k_is | rfl)
    (case k3 => first | k_is | rfl)
    (case a4 => first | k_is | rfl)
    (case l4 => first | k_is | rfl)
    (case c4 => first | k_is | rfl)
    (case k4 => first | k_is | rfl)
    (case a5 => first | k_is | rfl)
    (case l5 => first | k_is | rfl)
    (case c5 => first | k_is | rfl)
    (case k5 => first | k_is | rfl)
    (case a6 => first | k_is | rfl)
    (case l6 => first | k_is | rfl)
    (case c6 => first | k_is | rfl)
    (case k6 => first | k_is | rfl)
    (case a7 => first | k_is | rfl)
    (case l7 => first | k_is | rfl)
    (case c7 => first | k_is | rfl)
    (case k7 => first | k_is | rfl)
    (case a8 => first | k_is | rfl)
    (case l8 => first | k_is | rfl)
    (case c8 => first | k_is | rfl)
    (case k8 => first | k_is | rfl)
    (case a9 => first | k_is | rfl)
    (case l9 => first | k_is | rfl)
    (case c9 => first | k_is | rfl)
    (case k9 => first | k_is | rfl)
    (case a10 => first | k_is | rfl)
    (case l10 => first | k_is | rfl)
    (case c10 => first | k_is | rfl)
    (case k10 => first | k_is | rfl)
    (case a11 => first | k_is | rfl)
    (case l11 => first | k_is | rfl)
    (case c11 => first | k_is | rfl)
    (case k11 => first | k_is | rfl)
    (case a12 => first | k_is | rfl)
    (case l12 => first | k_is | rfl)
    (case c12 => first | k_is | rfl)
    (case k12 => first | k_is | rfl)
    (case a13 => first | k_is | rfl)
    (case l13 => first | k_is | rfl)
    (case c13 => first | k_is | rfl)
    (case k13 => first | k_is | rfl)
    (case a14 => first | k_is | rfl)
    (case l14 => first | k_is | rfl)
    (case c14 => first | k_is | rfl)
    (case k14 => first | k_is | rfl)
    (case a15 => first | k_is | rfl)
    (case l15 => first | k_is | rfl)
    (case c15 => first | k_is | rfl)
    (case k15 => first | k_is | rfl)
    (case a16 => first | k_is | rfl)
    (case l16 => first | k_is | rfl)
    (case c16 => first | k_is | rfl)
    (case k16 => first | k_is | rfl)
    (case a17 => first | k_is | rfl)
    (case l17 => first | k_is | rfl)
    (case c17 => first | k_is | rfl)
    (case k17 => first | k_is | rfl)
    (case a18 => first | k_is | rfl)
    (case l18 => first | k_is | rfl)
    (case c18 => first | k_is | rfl)
    (case k18 => first | k_is | rfl)
    (case a19 => first | k_is | rfl)
    (case l19 => first | k_is | rfl)
    (case c19 => first | k_is | rfl)
    (case k19 => first | k_is | rfl)
    (case a20 => first | k_is | rfl)
    (case l20 => first | k_is | rfl)
    (case c20 => first | k_is | rfl)
    (case k20 => first | k_is | rfl)
    (case a21 => first | k_is | rfl)
    (case l21 => first | k_is | rfl)
    (case c21 => first | k_is | rfl)
    (case k21 => first | k_is | rfl)
    (case a22 => first | k_is | rfl)
    (case l22 => first | k_is | rfl)
    (case c22 => first | k_is | rfl)
    (case k22 => first | k_is | rfl)
    (case a23 => first | k_is | rfl)
    (case l23 => first | k_is | rfl)
    (case c23 => first | k_is | rfl)
    (case k23 => first | k_is | rfl)
    (case a24 => first | k_is | rfl)
    (case l24 => first | k_is | rfl)
    (case c24 => first | k_is | rfl)
    (case k24 => first | k_is | rfl)
    (case a25 => first | k_is | rfl)
    (case l25 => first | k_is | rfl)
    (case c25 => first | k_is | rfl)
    (case k25 => first | k_is | rfl)
    (case a26 => first | k_is | rfl)
    (case l26 => first | k_is | rfl)
    (case c26 => first | k_is | rfl)
    (case k26 => first | k_is | rfl)
    (case a27 => first | k_is | rfl)
    (case l27 => first | k_is | rfl)
    (case c27 => first | k_is | rfl)
    (case k27 => first | k_is | rfl)
    (case a28 => first | k_is | rfl)
    (case l28 => first | k_is | rfl)
    (case c28 => first | k_is | rfl)
    (case k28 => first | k_is | rfl)
    (case a29 => first | k_is | rfl)
    (case l29 => first | k_is | rfl)
    (case c29 => first | k_is | rfl)
    (case k29 => first | k_is | rfl)
    (case a30 => first | k_is | rfl)
    (case l30 => first | k_is | rfl)
    (case c30 => first | k_is | rfl)
    (case k30 => first | k_is | rfl)
    (case a31 => first | k_is | rfl)
    (case l31 => first | k_is | rfl)
    (case c31 => first | k_is | rfl)
    (case k31 => first | k_is | rfl)
    (case a32 => first | k_is | rfl)
    (case l32 => first | k_is | rfl)
    (case c32 => first | k_is | rfl)
    (case k32 => first | k_is | rfl)
    (case a33 => first | k_is | rfl)
    (case l33 => first | k_is | rfl)
    (case c33 => first | k_is | rfl)
    (case k33 => first | k_is | rfl)
    (case a34 => first | k_is | rfl)
    (case l34 => first | k_is | rfl)
    (case c34 => first | k_is | rfl)
    (case k34 => first | k_is | rfl)
    (case a35 => first | k_is | rfl)
    (case l35 => first | k_is | rfl)
    (case c35 => first | k_is | rfl)
    (case k35 => first | k_is | rfl)
    (case a36 => first | k_is | rfl)
    (case l36 => first | k_is | rfl)
    (case c36 => first | k_is | rfl)
    (case k36 => first | k_is | rfl)
    (case b_isinstance => first | k_is | rfl)
    (case b_int => first | k_is | rfl)
    (case b_bool => first | k_is | rfl)
    (case b_str => first | k_is | rfl)
    (case b_tuple => first | k_is | rfl)
    (case b_list => first | k_is | rfl)
    (case b_len => first | k_is | rfl)
    (case b_all => first | k_is | rfl)
    (case b_zip => first | k_is | rfl)
    (case b_range => first | k_is | rfl)
    (case b_repr => first | k_is | rfl)
    (case b_enumerate => first | k_is | rfl)
    (case b_sum => first | k_is | rfl)
    (case b_max => first | k_is | rfl)
    (case b_dict => first | k_is | rfl)
    (case b_set => first | k_is | rfl)
    (case v_MOST_NOTS => first | k_is | rfl)
    (case v_MOST_SUMMED => first | k_is | rfl)
    (case v_MOST_INPUTS => first | k_is | rfl)
    (case v_MOST_NODES => first | k_is | rfl)
    (case v_MOST_PORTS => first | k_is | rfl)
    (case v_MOST_CELLS => first | k_is | rfl)
    (case v_MOST_WEIGHT => first | k_is | rfl)
    (case v_MOST_LOAD => first | k_is | rfl)
    (case gP => first | k_is | rfl)
    (case hn => first | k_is | rfl)
    (case ht => first | k_is | rfl)
    (case p_e => first | k_is | rfl)
    (case p_h => first | k_is | rfl)
    (case p_t => first | k_is | rfl)
    (case eN_g => first | k_is | rfl)
    (case eN_xI => first | k_is | kx_is | rfl | decide +kernel)
    (case eN_xO => first | k_is | kx_is | rfl | decide +kernel)
    (case eN_sa => first | k_is | rfl)
    (case eN_ga => first | k_is | rfl)
    (case eN_gg => first | k_is | rfl)
    (case eN_nN => first | k_is | rfl)
    (case eN_iC => first | k_is | rfl)
    (case eN_tC => first | k_is | rfl)
    (case eN_kC => first | k_is | rfl)
    (case eN_eC => first | k_is | rfl)
    (case eN_ty => first | k_is | rfl)
    (case eN_hd => first | k_is | rfl)
    (case eN_l => first | k_is | rfl)
    (case eN_c => first | k_is | rfl)
    (case eN_ha => first | k_is | rfl)
    (case eN_hm => first | k_is | rfl)
    (case eN_sP => first | k_is | rfl)
    (case eL_g => first | k_is | rfl)
    (case eL_xI => first | k_is | kx_is | rfl | decide +kernel)
    (case eL_xO => first | k_is | kx_is | rfl | decide +kernel)
    (case eL_sa => first | k_is | rfl)
    (case eL_ga => first | k_is | rfl)
    (case eL_gg => first | k_is | rfl)
    (case eL_nN => first | k_is | rfl)
    (case eL_iC => first | k_is | rfl)
    (case eL_tC => first | k_is | rfl)
    (case eL_kC => first | k_is | rfl)
    (case eL_eC => first | k_is | rfl)
    (case eL_ty => first | k_is | rfl)
    (case eL_hd => first | k_is | rfl)
    (case eL_l => first | k_is | rfl)
    (case eL_c => first | k_is | rfl)
    (case eL_ha => first | k_is | rfl)
    (case eL_hm => first | k_is | rfl)
    (case eL_sP => first | k_is | rfl)
    (case eB_g => first | k_is | rfl)
    (case eB_xI => first | k_is | kx_is | rfl | decide +kernel)
    (case eB_xO => first | k_is | kx_is | rfl | decide +kernel)
    (case eB_sa => first | k_is | rfl)
    (case eB_ga => first | k_is | rfl)
    (case eB_gg => first | k_is | rfl)
    (case eB_nN => first | k_is | rfl)
    (case eB_iC => first | k_is | rfl)
    (case eB_tC => first | k_is | rfl)
    (case eB_kC => first | k_is | rfl)
    (case eB_eC => first | k_is | rfl)
    (case eB_ty => first | k_is | rfl)
    (case eB_hd => first | k_is | rfl)
    (case eB_l => first | k_is | rfl)
    (case eB_c => first | k_is | rfl)
    (case eB_ha => first | k_is | rfl)
    (case eB_hm => first | k_is | rfl)
    (case eB_sP => first | k_is | rfl)
    (case kit_BB => first | k_is | rfl | decide +kernel)
    (case g_SOURCES => first | k_is | rfl)
    (case t_SOURCES => first | rfl | k_is | kernel_rfl)
    (case g_JOINS => first | k_is | rfl)
    (case t_JOINS => first | rfl | k_is | kernel_rfl)
    (case g_LOOPS => first | k_is | rfl)
    (case t_LOOPS => first | rfl | k_is | kernel_rfl)
    (case g_PARAMETERS => first | k_is | rfl)
    (case d_PARAMETERS => first | rfl | k_is | kernel_rfl)
    (case t_PARAMETERS => first | rfl | k_is | kernel_rfl)
    (case g_CHOICES => first | k_is | rfl)
    (case d_CHOICES => first | rfl | k_is | kernel_rfl)
    (case t_CHOICES => first | rfl | k_is | kernel_rfl)
    (case g_RANGES => first | k_is | rfl)
    (case d_RANGES => first | rfl | k_is | kernel_rfl)
    (case t_RANGES => first | rfl | k_is | kernel_rfl)
    (case g_LENGTHS => first | k_is | rfl)
    (case d_LENGTHS => first | rfl | k_is | kernel_rfl)
    (case t_LENGTHS => first | rfl | k_is | kernel_rfl)
    (case g_Net => first | k_is | rfl)
    (case q_pg => first | k_is | rfl)
    (case q_hd => first | k_is | rfl)
    (case q_po => first | k_is | rfl)
    (case q_sa => first | k_is | rfl)
    (case q_mk => first | k_is | rfl)
    (case q_kc => first | k_is | rfl)
    (case m_init => first | k_is | rfl)
    (case n_init => first | k_is | rfl)
    (case linit => first | k_is | rfl)
    (case cinit => first | k_is | rfl)
    (case kinit => first | k_is | rfl)
    (case m_node_list => first | k_is | rfl)
    (case n_node_list => first | k_is | rfl)
    (case lnode_list => first | k_is | rfl)
    (case cnode_list => first | k_is | rfl)
    (case knode_list => first | k_is | rfl)
    (case m_eq => first | k_is | rfl)
    (case n_eq => first | k_is | rfl)
    (case leq => first | k_is | rfl)
    (case ceq => first | k_is | rfl)
    (case keq => first | k_is | rfl)
    (case m_len => first | k_is | rfl)
    (case n_len => first | k_is | rfl)
    (case llen => first | k_is | rfl)
    (case clen => first | k_is | rfl)
    (case klen => first | k_is | rfl)
    (case m_contains => first | k_is | rfl)
    (case n_contains => first | k_is | rfl)
    (case lcontains => first | k_is | rfl)
    (case ccontains => first | k_is | rfl)
    (case kcontains => first | k_is | rfl)
    (case na_nodes => first | k_is | rfl)
    (case na_places => first | k_is | rfl)
    (case na_plan => first | k_is | rfl)
    (case q_ha => first | k_is | rfl)
    (case q_hm => first | k_is | rfl)
    (case q_ne => first | k_is | rfl)
    (case q_sf => first | k_is | rfl | decide +kernel)
    (case tL_c => rfl)
    (case tL_l => first | k_is | rfl)
    (case tL_v => rfl)
    (case tL_n => first | k_is | rfl)
