import PyProof.Rows.All
import HandS.ForExc
import HandS.ForMost
import HandS.IsInst
import HandS.Style
import HandS.RaiseMore
import PyProof.ReprReads
import PyProof.ReprRoads
import HandS.Walk
import HandS.More
import HandS.Zip
import HandS.SetFor
import HandS.ExcIs
import HandS.ExcField
import KE.KExcInit
import KE.KExcIs
import HandS.Conv
import HandS.DictComp
import HandS.SortKw
import KE.KMinKey
import HandS.Wide
import HandS.TryMany
import PyProof.ListStr
import HandS.OwnEq
import OpenK.AllK
import OpenK.KMeth
import HandS.MakeKwOnly
import HandS.Lambda
import HandS.Sort
import PyProof.SumWalk
import PyProof.SumAny
import KE.DataMinMax
import HandS.HeadHook3
import HandS.EndTab
import PySem.Challenge.RW_pullworks_k02_nets_and_their_numbers
set_option Elab.async false
set_option linter.all false
set_option maxRecDepth 100000
set_option maxHeartbeats 200000
/-! data of the drawn values, what is asked of their classes -/
namespace Pw
open PySem PySem.Spec PyProof.Rows L2
/-! ### data, with the empty dict -/
mutual
inductive Dv (K : PySem.W.Frag) (H : Hp) : V → PyData → Prop
  | non : Dv K H .non .none
  | bl (b : Bool) : Dv K H (.bl b) (.bool b)
  | int (i : Int) : Dv K H (.int i) (.int i)
  | str (x : Str) : Dv K H (.str x) (.str x)
  | lst {a : Addr} {xs : List V} {ds : List PyData} : H a = some (.lst xs) → xs.length ≤ 1000 → DvAll K H xs ds → Dv K H (.ref a) (.list ds)
  | tup {a : Addr} {xs : List V} {ds : List PyData} : H a = some (.tup xs) → xs.length ≤ 1000 → DvAll K H xs ds → Dv K H (.ref a) (.tuple ds)
  | dct {a : Addr} : H a = some (.dK []) → Dv K H (.ref a) (.dict [])
inductive DvAll (K : PySem.W.Frag) (H : Hp) : List V → List PyData → Prop
  | nil : DvAll K H [] []
  | cons {v : V} {vs : List V} {d : PyData} {ds : List PyData} : Dv K H v d → DvAll K H vs ds → DvAll K H (v :: vs) (d :: ds)
end
mutual
theorem Dv.same {K : PySem.W.Frag} {H H' : Hp} (e : Same H H') : ∀ {d : PyData} {v : V}, Dv K H v d → Dv K H' v d
  | .none, _, h => by cases h; exact .non
  | .bool _, _, h => by cases h; exact .bl _
  | .int _, _, h => by cases h; exact .int _
  | .str _, _, h => by cases h; exact .str _
  | .list ds, _, h => by
    cases h with
    | lst h1 hz h2 => exact .lst (e _ _ h1) hz (DvAll.same e h2)
  | .tuple ds, _, h => by
    cases h with
    | tup h1 hz h2 => exact .tup (e _ _ h1) hz (DvAll.same e h2)
  | .dict _, _, h => by
    cases h with
    | dct h1 => exact .dct (e _ _ h1)
theorem DvAll.same {K : PySem.W.Frag} {H H' : Hp} (e : Same H H') : ∀ {ds : List PyData} {vs : List V}, DvAll K H vs ds → DvAll K H' vs ds
  | [], _, h => by cases h; exact .nil
  | _ :: _, _, h => by
    cases h with
    | cons h1 h2 => exact .cons (Dv.same e h1) (DvAll.same e h2)
end
theorem DvAll.length {K : PySem.W.Frag} {H : Hp} : ∀ {ds : List PyData} {vs : List V}, DvAll K H vs ds → vs.length = ds.length
  | [], _, h => by cases h; rfl
  | _ :: _, _, h => by
    cases h with
    | cons h1 h2 =>
      rw [List.length_cons, List.length_cons, DvAll.length h2]
theorem DvAll.get {K : PySem.W.Frag} {H : Hp} : ∀ {ds : List PyData} {vs : List V} {i : Nat} {d : PyData}, DvAll K H vs ds → ds[i]? = some d → ∃ v, vs[i]? = some v ∧ Dv K H v d
  | [], _, _, _, h, e => by simp at e
  | _ :: _, _, 0, _, h, e => by
    cases h with
    | cons h1 h2 =>
      simp at e
      subst e
      exact ⟨_, rfl, h1⟩
  | _ :: _, _, i + 1, _, h, e => by
    cases h with
    | cons h1 h2 =>
      obtain ⟨v, e1, e2⟩ := DvAll.get (i := i) h2 (by simpa using e)
      exact ⟨v, by simpa using e1, e2⟩
theorem DvAll.getV {K : PySem.W.Frag} {H : Hp} : ∀ {ds : List PyData} {vs : List V} {i : Nat} {v : V}, DvAll K H vs ds → vs[i]? = some v → ∃ d, ds[i]? = some d ∧ Dv K H v d
  | _, [], _, _, h, e => by simp at e
  | _, _ :: _, 0, _, h, e => by
    cases h with
    | cons h1 h2 =>
      simp at e
      subst e
      exact ⟨_, rfl, h1⟩
  | _, _ :: _, i + 1, _, h, e => by
    cases h with
    | cons h1 h2 =>
      obtain ⟨v, e1, e2⟩ := DvAll.getV (i := i) h2 (by simpa using e)
      exact ⟨v, by simpa using e1, e2⟩
theorem DvAll.append {K : PySem.W.Frag} {H : Hp} : ∀ {ds es : List PyData} {vs ws : List V}, DvAll K H vs ds → DvAll K H ws es → DvAll K H (vs ++ ws) (ds ++ es)
  | [], _, _, _, h, q => by cases h; exact q
  | _ :: _, _, _, _, h, q => by
    cases h with
    | cons h1 h2 => exact .cons h1 (DvAll.append h2 q)
/-! ### the class of a datum -/
def tyName : PyData → String
  | .none => "NoneType"
  | .bool _ => "bool"
  | .int _ => "int"
  | .str _ => "str"
  | .list _ => "list"
  | .tuple _ => "tuple"
  | .dict _ => "dict"
theorem Dv.ty {K : PySem.W.Frag} {H : Hp} {v : V} {d : PyData} (h : Dv K H v d) : TyX K H v (.type (tyName d)) := by
  cases h with
  | non => exact .base .non
  | bl b => exact .base (.bl b)
  | int i => exact .base (.int i)
  | str x => exact .base (.str x)
  | lst e _ _ => exact .base (.lst e)
  | tup e _ _ => exact .base (.tup e)
  | dct e => exact .base (.dK e)
def isaB (T : String) (d : PyData) : Bool := (kitB (tyName d) T).getD false
def isInt : PyData → Bool
  | .int _ => true
  | _ => false
def isBool : PyData → Bool
  | .bool _ => true
  | _ => false
def isStr : PyData → Bool
  | .str _ => true
  | _ => false
def isTuple : PyData → Bool
  | .tuple _ => true
  | _ => false
def isList : PyData → Bool
  | .list _ => true
  | _ => false
def isIntB (d : PyData) : Bool := isInt d || isBool d
theorem isa_int (d : PyData) : kitB (tyName d) "int" = some (isIntB d) := by
  cases d
  · exact (by decide +kernel : kitB "NoneType" "int" = some false)
  · exact (by decide +kernel : kitB "bool" "int" = some true)
  · exact (by decide +kernel : kitB "int" "int" = some true)
  · exact (by decide +kernel : kitB "str" "int" = some false)
  · exact (by decide +kernel : kitB "list" "int" = some false)
  · exact (by decide +kernel : kitB "tuple" "int" = some false)
  · exact (by decide +kernel : kitB "dict" "int" = some false)
theorem isa_bool (d : PyData) : kitB (tyName d) "bool" = some (isBool d) := by
  cases d
  · exact (by decide +kernel : kitB "NoneType" "bool" = some false)
  · exact (by decide +kernel : kitB "bool" "bool" = some true)
  · exact (by decide +kernel : kitB "int" "bool" = some false)
  · exact (by decide +kernel : kitB "str" "bool" = some false)
  · exact (by decide +kernel : kitB "list" "bool" = some false)
  · exact (by decide +kernel : kitB "tuple" "bool" = some false)
  · exact (by decide +kernel : kitB "dict" "bool" = some false)
theorem isa_str (d : PyData) : kitB (tyName d) "str" = some (isStr d) := by
  cases d
  · exact (by decide +kernel : kitB "NoneType" "str" = some false)
  · exact (by decide +kernel : kitB "bool" "str" = some false)
  · exact (by decide +kernel : kitB "int" "str" = some false)
  · exact (by decide +kernel : kitB "str" "str" = some true)
  · exact (by decide +kernel : kitB "list" "str" = some false)
  · exact (by decide +kernel : kitB "tuple" "str" = some false)
  · exact (by decide +kernel : kitB "dict" "str" = some false)
theorem isa_tuple (d : PyData) : kitB (tyName d) "tuple" = some (isTuple d) := by
  cases d
  · exact (by decide +kernel : kitB "NoneType" "tuple" = some false)
  · exact (by decide +kernel : kitB "bool" "tuple" = some false)
  · exact (by decide +kernel : kitB "int" "tuple" = some false)
  · exact (by decide +kernel : kitB "str" "tuple" = some false)
  · exact (by decide +kernel : kitB "list" "tuple" = some false)
  · exact (by decide +kernel : kitB "tuple" "tuple" = some true)
  · exact (by decide +kernel : kitB "dict" "tuple" = some false)
theorem isa_list (d : PyData) : kitB (tyName d) "list" = some (isList d) := by
  cases d
  · exact (by decide +kernel : kitB "NoneType" "list" = some false)
  · exact (by decide +kernel : kitB "bool" "list" = some false)
  · exact (by decide +kernel : kitB "int" "list" = some false)
  · exact (by decide +kernel : kitB "str" "list" = some false)
  · exact (by decide +kernel : kitB "list" "list" = some true)
  · exact (by decide +kernel : kitB "tuple" "list" = some false)
  · exact (by decide +kernel : kitB "dict" "list" = some false)
/-- isinstance(x, T) of a datum -/
theorem isi_of {K : PySem.W.Frag} {H : Hp} {Q : VK} {v : V} {d : PyData} {T : String} {b : Bool} (h : Dv K H v d) (e : kitB (tyName d) T = some b) (q : Q (.bl b) H) : rIsi K [v, .ty T] H Q :=
  ⟨v, .ty T, _, _, b, rfl, .ty T, h.ty, kit_ty e, q⟩
/-! ### a def by its name: the promise goes with it -/
structure DefOk (P : Program) (w : World) (K : PySem.W.Frag) (mg : Str → Option Value) (base : Heap) (CX : CXT) (k : Nat) (x : Str) (ps : List Str) (sp : Sp) : Prop where
  ex : ∃ (f : Addr) (fd : FuncData), mg x = some (.ref f) ∧ PySem.W.keepIn K (.ref f) = true ∧ Binds K fd ps [] ∧ FnOk P w K mg base CX k f fd ps sp
theorem pe_def {X : Cx} {CX : CXT} {j k : Nat} {x : Str} {ps : List Str} {sp : Sp} {E : XK} {e : Expr} {es : List Expr} {p pos : Pos} {t : TA} (D : DefOk X.prog X.w X.K X.mg X.base CX j x ps sp) (hr : Room k X.A) (hx : Passes CX X E) (ha : PA X (e :: es) t) (hk : j ≤ k := by decide) (hg : Gl X x := by rfl)
    (hdb : (x == ("__debug__" : Str)) = false := by decide) (he : starEach (e :: es) X.env = (false, eval e X.env) :: starEach es X.env := by rfl) (hpl : (backTo pos (starEach es X.env)).any (·.1) = false := by rfl) :
    PE X (.Call (.Name x p) (e :: es) [] pos) (tCall sp [] E t) := by
  obtain ⟨f, fd, h1, h2, h3, h4⟩ := D.ex
  exact pe_call h4 (hr.mono hk) hg h1 h2 h3 .nil hx ha hdb he hpl
/-- the builtin isinstance -/
theorem pe_isi {X : Cx} {es : List Expr} {t : TA} {e : Expr} {p pos : Pos} (hm : X.mg "isinstance" = none) (ha : PA X (e :: es) t) (hg : Gl X "isinstance" := by rfl)
    (he : starEach (e :: es) X.env = (false, eval e X.env) :: starEach es X.env := by rfl) (hpl : (backTo pos (starEach es X.env)).any (·.1) = false := by rfl) :
    PE X (.Call (.Name "isinstance" p) (e :: es) [] pos) (tCB (rIsi X.K) t) :=
  pe_callB call_isi hg hm boot_isinstance ha (by decide) (by decide) he hpl
theorem same_upd {H : Hp} {p : Addr} {o : HO} (h : H p = none) : Same H (upd H p o) := fun b x e => by
  rw [upd_ne (ne_of_none e h)]
  exact e
end Pw
set_option maxHeartbeats 200000
/-! the program's own defs: what each hands back -/
namespace Pw
open PySem PySem.Spec PyProof.Rows L2
/-! ### the text -/
def topS (i : Nat) : Stmt := PySem.Challenge.pw_pullworks_k02_nets_and_their_numbers.main.body.getD i (.Pass ⟨0, 0, 0, 0⟩)
abbrev sInteger : Stmt := topS 6
abbrev sBetween : Stmt := topS 7
abbrev sParameter : Stmt := topS 8
abbrev sOneOf : Stmt := topS 12
-- not here: sPasses
-- not here: sHolds
abbrev sTest : Stmt := topS 15
abbrev sNegation : Stmt := topS 16
abbrev sPlain : Stmt := topS 17
abbrev sResidues : Stmt := topS 18
theorem scInteger : FnScope ["value"] ["value"] (defScope sInteger) := ⟨rfl, rfl, rfl, by decide +kernel, rfl, by decide +kernel, by decide +kernel⟩
theorem scBetween : FnScope ["value", "low", "high"] ["value", "low", "high"] (defScope sBetween) := ⟨rfl, rfl, rfl, by decide +kernel, rfl, by decide +kernel, by decide +kernel⟩
theorem scParameter : FnScope ["value"] ["value"] (defScope sParameter) := ⟨rfl, rfl, rfl, by decide +kernel, rfl, by decide +kernel, by decide +kernel⟩
theorem scOneOf : FnScope ["value", "words"] ["value", "words"] (defScope sOneOf) := ⟨rfl, rfl, rfl, by decide +kernel, rfl, by decide +kernel, by decide +kernel⟩
/-! ### a def of the text, by its name -/
structure Dfn (K : PySem.W.Frag) (mg : Str → Option Value) (x : Str) (st : Stmt) (ps : List Str) : Prop where
  ex : ∃ (f : Addr) (fd : FuncData), Fun K x x st f fd ∧ mg x = some (.ref f) ∧ Binds K fd ps []
theorem Dfn.ok {P : Program} {w : World} {K : PySem.W.Frag} {mg : Str → Option Value} {base : Heap} {CX : CXT} {k : Nat} {x : Str} {st : Stmt} {ps : List Str} {sp : Sp} (D : Dfn K mg x st ps)
    (h : ∀ f fd, Fun K x x st f fd → FnOk P w K mg base CX k f fd ps sp) : DefOk P w K mg base CX k x ps sp := by
  obtain ⟨f, fd, F, m, b⟩ := D.ex
  exact ⟨f, fd, m, F.kp, b, h f fd F⟩
/-- the built-ins that the program names are the built-ins -/
structure Blt (mg : Str → Option Value) : Prop where
  isi : mg "isinstance" = none
  int : mg "int" = none
  bool : mg "bool" = none
  str : mg "str" = none
  tuple : mg "tuple" = none
  list : mg "list" = none
  len : mg "len" = none
  all : mg "all" = none
  zip : mg "zip" = none
  range : mg "range" = none
  repr : mg "repr" = none
section
variable {P : Program} {w : World} {K : PySem.W.Frag} {mg : Str → Option Value} {base : Heap}
theorem pe_cls {X : Cx} {n : String} {p : Pos} (x : Str) (hm : X.mg x = none) (hg : Gl X x := by rfl) (hv : bootBuiltins x = some (.type n) := by decide +kernel) (hn : x ≠ "__name__" := by decide) (hdb : (x == ("__debug__" : Str)) = false := by decide) :
    PE X (.Name x p) (tC (.ty n)) := pe_bltn hg hm hv rfl hn hdb
theorem Qb {Q : VK} {H : Hp} {a b : Bool} (e : a = b) (q : Q (.bl b) H) : Q (.bl a) H := by
  rw [e]
  exact q
/-! ### is_integer -/
def spInteger (K : PySem.W.Frag) : Sp := fun vs H Q _ => ∃ x d, vs = [x] ∧ Dv K H x d ∧ Q (.bl (isInt d)) H
theorem fn_integer (B : Blt mg) (f : Addr) (fd : FuncData) (F : Fun K "is_integer" "is_integer" sInteger f fd) : FnOk P w K mg base CX0 1 f fd ["value"] (spInteger K) := by
  refine F.ok scInteger (fun vs H Q E h => ?_) (fun cdv A outer s H vs Q E hr h => ?_)
  · obtain ⟨x, d, rfl, _⟩ := h
    rfl
  · obtain ⟨x, d, rfl, hx, q⟩ := h
    refine ⟨_, pss_one (ps_ret (pe_and (pe_isi B.isi (pa_cons (pv 0) (pa_cons (pe_cls (n := "int") "int" B.int) pa_nil))) (pe_one (pe_not (pe_isi B.isi (pa_cons (pv 0) (pa_cons (pe_cls (n := "bool") "bool" B.bool) pa_nil))))))), ?_⟩
    refine ⟨x, rfl, _, _, _, _, _, rfl, .ty "int", hx.ty, kit_ty (isa_int d), _, rfl, ite2 (fun e => ?_) (fun e => ?_)⟩
    · refine ⟨x, rfl, _, _, _, _, _, rfl, .ty "bool", hx.ty, kit_ty (isa_bool d), _, rfl, ?_⟩
      have e2 : (!isBool d) = isInt d := by
        cases d <;> first | rfl | cases e
      exact Qb e2 q
    · have e2 : isInt d = false := by
        cases d <;> first | rfl | exact absurd rfl e
      rw [e2] at q
      exact q
theorem ok_integer (B : Blt mg) (D : Dfn K mg "is_integer" sInteger ["value"]) : DefOk P w K mg base CX0 1 "is_integer" ["value"] (spInteger K) := D.ok (fn_integer B)
/-! ### is_between -/
def between (d : PyData) (lo hi : Int) : Bool := match d with
  | .int i => decide (lo ≤ i) && decide (i ≤ hi)
  | _ => false
def spBetween (K : PySem.W.Frag) : Sp := fun vs H Q _ => ∃ x d lo hi, vs = [x, .int lo, .int hi] ∧ Dv K H x d ∧ Q (.bl (between d lo hi)) H
theorem ok_between (G : DefOk P w K mg base CX0 1 "is_integer" ["value"] (spInteger K)) (D : Dfn K mg "is_between" sBetween ["value", "low", "high"]) : DefOk P w K mg base CX0 2 "is_between" ["value", "low", "high"] (spBetween K) := D.ok fun f fd F => by
  refine F.ok scBetween (fun vs H Q E h => ?_) (fun cdv A outer s H vs Q E hr h => ?_)
  · obtain ⟨x, d, lo, hi, rfl, _⟩ := h
    rfl
  · obtain ⟨x, d, lo, hi, rfl, hx, q⟩ := h
    refine ⟨_, pss_one (ps_ret (pe_and (pe_def G hr pass0 (pa_cons (pv 0) pa_nil)) (pe_one (pe_chain op_le op_le (pv 1) (pv 0) (pv 2))))), ?_⟩
    refine ⟨x, rfl, x, d, rfl, hx, _, rfl, ite2 (fun e => ?_) (fun e => ?_)⟩
    · cases hx with
      | int i =>
        refine ⟨_, rfl, _, rfl, _, _, rfl, rfl, _, rfl, ite2 (fun e1 => ?_) (fun e1 => ?_)⟩
        · refine ⟨_, rfl, _, _, rfl, rfl, ?_⟩
          have z : decide (i ≤ hi) = between (.int i) lo hi := by
            show _ = (decide (lo ≤ i) && decide (i ≤ hi))
            rw [e1]
            rfl
          exact Qb z q
        · have z : false = between (.int i) lo hi := by
            show _ = (decide (lo ≤ i) && decide (i ≤ hi))
            rw [Bool.eq_false_iff.mpr e1]
            rfl
          exact Qb z q
      | _ => cases e
    · have z : between d lo hi = false := by
        cases d <;> first | rfl | exact absurd rfl e
      rw [z] at q
      exact q
/-! ### is_parameter -/
def isParam (d : PyData) : Bool := between d (-(10 ^ 30)) (10 ^ 30)
def spParameter (K : PySem.W.Frag) : Sp := fun vs H Q _ => ∃ x d, vs = [x] ∧ Dv K H x d ∧ Q (.bl (isParam d)) H
theorem ok_parameter (G : DefOk P w K mg base CX0 2 "is_between" ["value", "low", "high"] (spBetween K)) (D : Dfn K mg "is_parameter" sParameter ["value"]) : DefOk P w K mg base CX0 3 "is_parameter" ["value"] (spParameter K) := D.ok fun f fd F => by
  refine F.ok scParameter (fun vs H Q E h => ?_) (fun cdv A outer s H vs Q E hr h => ?_)
  · obtain ⟨x, d, rfl, _⟩ := h
    rfl
  · obtain ⟨x, d, rfl, hx, q⟩ := h
    refine ⟨_, pss_one (ps_ret (pe_def G hr pass0 (pa_cons (pv 0) (pa_cons (pe_un un_neg (pe_op op_pow pe_int pe_int)) (pa_cons (pe_op op_pow pe_int pe_int) pa_nil))))), ?_⟩
    exact ⟨x, rfl, _, _, rfl, rfl, ⟨by decide, by decide, by decide⟩, _, rfl, _, _, rfl, rfl, ⟨by decide, by decide, by decide⟩, x, d, _, _, rfl, hx, q⟩
/-! ### is_one_of -/
def oneOf (d : PyData) (ws : List Str) : Bool := match d with
  | .str s => decide (s ∈ ws)
  | _ => false
def spOneOf (K : PySem.W.Frag) : Sp := fun vs H Q _ => ∃ (x : V) (d : PyData) (wp : Addr) (ws : List Str), vs = [x, .ref wp] ∧ Dv K H x d ∧ SqT K H wp (ws.map V.str) ∧ Q (.bl (oneOf d ws)) H
theorem in_strs (s : Str) (ws : List Str) : inV (.str s) (ws.map V.str) = decide (s ∈ ws) := by
  unfold inV
  induction ws with
  | nil => rfl
  | cons a r ih =>
    rw [List.map_cons, List.any_cons, ih]
    show (a == s || decide (s ∈ r)) = decide (s ∈ a :: r)
    by_cases e : a = s
    · rw [beq_iff_eq.mpr e, e]
      simp
    · rw [beq_eq_false_iff_ne.mpr e]
      have e2 : ¬ s = a := fun z => e z.symm
      by_cases e3 : s ∈ r
      · simp [e3]
      · simp [e2, e3]
theorem flat_strs (ws : List Str) : (ws.map V.str).all flatV = true := by
  rw [List.all_eq_true]
  intro v hv
  obtain ⟨s, _, rfl⟩ := List.mem_map.mp hv
  rfl
theorem ok_oneOf (B : Blt mg) (D : Dfn K mg "is_one_of" sOneOf ["value", "words"]) : DefOk P w K mg base CX0 1 "is_one_of" ["value", "words"] (spOneOf K) := D.ok fun f fd F => by
  refine F.ok scOneOf (fun vs H Q E h => ?_) (fun cdv A outer s H vs Q E hr h => ?_)
  · obtain ⟨x, d, wp, ws, rfl, _⟩ := h
    rfl
  · obtain ⟨x, d, wp, ws, rfl, hx, hw, q⟩ := h
    refine ⟨_, pss_one (ps_ret (pe_and (pe_isi B.isi (pa_cons (pv 0) (pa_cons (pe_cls (n := "str") "str" B.str) pa_nil))) (pe_one (pe_cmpR op_in_seq (pv 0) (pv 1) (by rfl))))), ?_⟩
    refine ⟨x, rfl, _, _, _, _, _, rfl, .ty "str", hx.ty, kit_ty (isa_str d), _, rfl, ite2 (fun e => ?_) (fun e => ?_)⟩
    · cases hx with
      | str s =>
        refine ⟨_, rfl, _, rfl, wp, _, rfl, .inr hw, rfl, flat_strs ws, ?_⟩
        exact Qb (in_strs s ws) q
      | _ => cases e
    · have e2 : false = oneOf d ws := by
        cases d <;> first | rfl | exact absurd rfl e
      exact Qb e2 q
/-! ### is_negation -/
theorem scNegation : FnScope ["value"] ["value"] (defScope sNegation) := ⟨rfl, rfl, rfl, by decide +kernel, rfl, by decide +kernel, by decide +kernel⟩
def isNeg : PyData → Bool
  | .tuple [a, _] => oneOf a ["not"]
  | _ => false
def spNegation (K : PySem.W.Frag) : Sp := fun vs H Q _ => ∃ x d, vs = [x] ∧ Dv K H x d ∧ ∀ H', Same H H' → Q (.bl (isNeg d)) H'
theorem len2_iff {ds : List PyData} (h : ds.length = 2) : ∃ a b, ds = [a, b] := by
  match ds, h with
  | [a, b], _ => exact ⟨a, b, rfl⟩
theorem ok_negation (B : Blt mg) (G : DefOk P w K mg base CX0 1 "is_one_of" ["value", "words"] (spOneOf K)) (D : Dfn K mg "is_negation" sNegation ["value"]) : DefOk P w K mg base CX0 2 "is_negation" ["value"] (spNegation K) := D.ok fun f fd F => by
  refine F.ok scNegation (fun vs H Q E h => ?_) (fun cdv A outer s H vs Q E hr h => ?_)
  · obtain ⟨x, d, rfl, _⟩ := h
    rfl
  · obtain ⟨x, d, rfl, hx, q⟩ := h
    refine ⟨_, pss_one (ps_ret (pe_and (pe_isi B.isi (pa_cons (pv 0) (pa_cons (pe_cls (n := "tuple") "tuple" B.tuple) pa_nil)))
      (pe_and (pe_cmpR op_eq (pe_callB call_len_seq (by rfl) B.len PySem.boot_len (pa_cons (pv 0) pa_nil)) pe_int (nomark _))
        (pe_one (pe_def G hr pass0 (pa_cons (pe_ix ix_tup (pv 0) pe_int (fun _ _ => rfl)) (pa_cons (pe_tup (pa_cons pe_str pa_nil)) pa_nil))))))), ?_⟩
    refine ⟨x, rfl, _, _, _, _, _, rfl, .ty "tuple", hx.ty, kit_ty (isa_tuple d), _, rfl, ite2 (fun e => ?_) (fun e => ?_)⟩
    · cases hx with
      | @tup a xs ds ha hz hd =>
        have hl := hd.length
        refine ⟨.ref a, rfl, a, xs, rfl, .inr (SqT.of ha), rfl, _, rfl, ite2 (fun e1 => ?_) (fun e1 => ?_)⟩
        · have e2 : ds.length = 2 := by
            have z : (V.int xs.length) = V.int 2 := of_decide_eq_true e1
            injection z with z
            omega
          obtain ⟨d1, d2, rfl⟩ := len2_iff e2
          cases hd with
          | cons h1 h2 =>
            rename_i v1 vs1
            refine ⟨.ref a, rfl, a, _, _, _, rfl, rfl, SqT.of ha, atI_nat (j := 0) rfl, by show 1 ≤ sizeLine; decide, fun t ht => ?_⟩
            refine ⟨v1, d1, t, ["not"], rfl, h1.same (same_upd ht), SqT.of upd_same, ?_⟩
            exact q _ (same_upd ht)
        · have e2 : ds.length ≠ 2 := fun z => e1 (decide_eq_true (by rw [← hl] at z; rw [z] <;> rfl))
          have e3 : false = isNeg (.tuple ds) := by
            unfold isNeg
            split
            · rename_i h3
              injection h3 with h3
              subst h3
              exact absurd rfl e2
            · rfl
          exact Qb e3 (q _ (Same.refl _))
      | _ => cases e
    · have e2 : false = isNeg d := by
        cases d <;> first | rfl | exact absurd rfl e
      exact Qb e2 (q _ (Same.refl _))
end
end Pw
set_option maxHeartbeats 200000
/-! comprehensions over lists, and are_residues -/
namespace Pw
open PySem PySem.Spec PyProof.Rows L2
/-- [e for x in xs]: the items ys, one by one; what was tracked stays -/
theorem lc_map {K : PySem.W.Frag} {a : Addr} {xs ys : List V} {te : TE} {vs : List Nat} {j : Nat} {σ : L2.St} {H1 : Hp} {D : Addr} {Qd : Hp → Prop} (hS : SqL K H1 a xs) (nD : H1 D = none) (hl : ys.length = xs.length) (hz : xs.length < sizeLine)
    (hw : ∀ x, wipe ((wipe σ vs).set j (some x)) vs = wipe σ vs)
    (hs : ∀ (i : Nat) (x y : V) (H : Hp) (Q : VK), xs[i]? = some x → ys[i]? = some y → Same H1 H → (∀ H4, Same H H4 → Q y H4) → te ((wipe σ vs).set j (some x)) H Q)
    (hd : ∀ H, Same H1 H → H D = some (.lst ys) → Qd H) :
    ∃ W : Nat → Nat → Hp → Prop, (∃ m, W 0 m (upd H1 D (.lst []))) ∧ ∀ i m H, W i m H →
      ((Itl K a).stop i H ∧ Qd H) ∨ ((Itl K a).go i H ∧ ∃ Nx : Hp → Prop, (∀ H', Nx H' → ∃ m', m' < m ∧ W (i + 1) m' H') ∧ ∀ x H', (Itl K a).yld i H x H' → gName j x (wipe σ vs) H' fun σ2 H2 => wipe σ2 vs = wipe σ vs ∧ tYes σ2 H2 fun b H3 =>
        if b = true then te σ2 H3 fun y H4 => ∃ acc, H4 D = some (.lst acc) ∧ acc.length < sizeLine ∧ Nx (upd H4 D (.lst (acc ++ [y]))) else Nx H3) := by
  refine lc_list (K := K) (a := a) (xs := xs) (fun i H => Same H1 H ∧ H D = some (.lst (ys.take i))) ⟨same_upd nD, upd_same⟩ (fun i H hi p => p.1.seq hS) (fun i x H hx p => ?_) (fun H p => ?_)
  · obtain ⟨p1, p2⟩ := p
    refine ⟨hw x, ?_⟩
    show te _ _ _
    have hi : i < ys.length := by
      rw [hl]
      exact (List.getElem?_eq_some_iff.mp hx).1
    refine hs i x ys[i] H _ hx (List.getElem?_eq_getElem hi) p1 fun H4 s4 => ?_
    refine ⟨ys.take i, s4 _ _ p2, ?_, fun b o e => ?_, ?_⟩
    · rw [List.length_take]
      omega
    · rw [upd_ne (ne_of_none e nD)]
      exact s4 _ _ (p1 _ _ e)
    · rw [upd_same, List.take_add_one, List.getElem?_eq_getElem hi]
      rfl
  · obtain ⟨p1, p2⟩ := p
    rw [← hl, List.take_length] at p2
    exact hd H p1 p2
/-- [e for x, y in zip(xs, ys)] -/
theorem lc_zip {K : PySem.W.Frag} {a b : Addr} {xs xs' ys : List V} {te : TE} {vs : List Nat} {j j' : Nat} {σ : L2.St} {H1 : Hp} {D : Addr} {Qd : Hp → Prop} (hS : SqL K H1 a xs) (hS' : SqL K H1 b xs') (nD : H1 D = none) (hl : ys.length = min xs.length xs'.length) (hz : ys.length < sizeLine)
    (hw : ∀ x y, wipe (((wipe σ vs).set j (some x)).set j' (some y)) vs = wipe σ vs)
    (hs : ∀ (i : Nat) (x x' y : V) (H : Hp) (Q : VK), xs[i]? = some x → xs'[i]? = some x' → ys[i]? = some y → Same H1 H → (∀ H4, Same H H4 → Q y H4) → te (((wipe σ vs).set j (some x)).set j' (some x')) H Q)
    (hd : ∀ H, Same H1 H → H D = some (.lst ys) → Qd H) :
    ∃ W : Nat → Nat → Hp → Prop, (∃ m, W 0 m (upd H1 D (.lst []))) ∧ ∀ i m H, W i m H →
      ((Itz K a b).stop i H ∧ Qd H) ∨ ((Itz K a b).go i H ∧ ∃ Nx : Hp → Prop, (∀ H', Nx H' → ∃ m', m' < m ∧ W (i + 1) m' H') ∧ ∀ x H', (Itz K a b).yld i H x H' → gTup K 2 (gCons (gName j) (gCons (gName j') gNil)) x (wipe σ vs) H' fun σ2 H2 => wipe σ2 vs = wipe σ vs ∧ tYes σ2 H2 fun b H3 =>
        if b = true then te σ2 H3 fun y H4 => ∃ acc, H4 D = some (.lst acc) ∧ acc.length < sizeLine ∧ Nx (upd H4 D (.lst (acc ++ [y]))) else Nx H3) := by
  refine ⟨fun i m H => m = ys.length - i ∧ i ≤ ys.length ∧ Same H1 H ∧ H D = some (.lst (ys.take i)), ⟨ys.length, by simp, Nat.zero_le _, same_upd nD, upd_same⟩, ?_⟩
  rintro i m H ⟨rfl, hi, p1, p2⟩
  by_cases hlt : i < ys.length
  · have hx : i < xs.length := by omega
    have hy : i < xs'.length := by omega
    refine .inr ⟨⟨_, _, _, _, p1.seq hS, p1.seq hS', List.getElem?_eq_getElem hx, List.getElem?_eq_getElem hy⟩, fun H' => Same H1 H' ∧ H' D = some (.lst (ys.take (i + 1))), fun H' q => ⟨ys.length - (i + 1), by omega, rfl, hlt, q⟩, fun x H' y => ?_⟩
    obtain ⟨T, x1, x2, rfl, nT, rfl, f1, f2⟩ := y
    have e1 : x1 = xs[i] := Option.some.inj ((f1 _ (p1.seq hS)).symm.trans (List.getElem?_eq_getElem hx))
    have e2 : x2 = xs'[i] := Option.some.inj ((f2 _ (p1.seq hS')).symm.trans (List.getElem?_eq_getElem hy))
    subst e1 e2
    refine ⟨T, _, rfl, SqT.of upd_same, rfl, _, _, rfl, _, _, rfl, rfl, hw _ _, ?_⟩
    show te _ _ _
    have sT : Same H (upd H T (.tup [xs[i], xs'[i]])) := same_upd nT
    refine hs i _ _ ys[i] _ _ (List.getElem?_eq_getElem hx) (List.getElem?_eq_getElem hy) (List.getElem?_eq_getElem hlt) (p1.trans sT) fun H4 s4 => ?_
    refine ⟨ys.take i, s4 _ _ (sT _ _ p2), ?_, fun b o e => ?_, ?_⟩
    · rw [List.length_take]
      omega
    · rw [upd_ne (ne_of_none e nD)]
      exact s4 _ _ (sT _ _ (p1 _ _ e))
    · rw [upd_same, List.take_add_one, List.getElem?_eq_getElem hlt]
      rfl
  · have hie : i = ys.length := by omega
    subst hie
    rw [List.take_length] at p2
    refine .inl ⟨⟨_, _, p1.seq hS, p1.seq hS', ?_⟩, hd H p1 p2⟩
    omega
end Pw
set_option maxHeartbeats 200000
/-! are_residues, is_plain_test, is_test -/
namespace Pw
open PySem PySem.Spec PyProof.Rows L2
theorem scResidues : FnScope ["value", "modulus", "residue", "one", "other"] ["value", "modulus"] (defScope sResidues) := ⟨rfl, rfl, rfl, by decide +kernel, rfl, by decide +kernel, by decide +kernel⟩
/-- ascending, told of ints -/
def ascD : List PyData → Bool
  | .int a :: .int b :: r => decide (a < b) && ascD (.int b :: r)
  | _ => true
def residues (d : PyData) (m : Int) : Bool := match d with
  | .list ds => ds.all (fun e => between e 0 (m - 1)) && ascD ds
  | _ => false
theorem all_id (f : α → Bool) (ds : List α) : (ds.map f).all id = ds.all f := by
  induction ds with
  | nil => rfl
  | cons a r ih => rw [List.map_cons, List.all_cons, List.all_cons, ih]; rfl
/-- the pairs of neighbours -/
def ltPairs : List Int → List Bool
  | a :: b :: r => decide (a < b) :: ltPairs (b :: r)
  | _ => []
theorem ltPairs_len : ∀ ns : List Int, (ltPairs ns).length = ns.length - 1
  | [] => rfl
  | [_] => rfl
  | a :: b :: r => by
    show (ltPairs (b :: r)).length + 1 = _
    rw [ltPairs_len (b :: r)]
    simp
theorem ltPairs_get : ∀ (ns : List Int) (i : Nat) (x y : Int), ns[i]? = some x → ns[i + 1]? = some y → (ltPairs ns)[i]? = some (decide (x < y))
  | [], _, _, _, h, _ => by simp at h
  | [_], 0, _, _, _, h => by simp at h
  | [_], i + 1, _, _, h, _ => by simp at h
  | a :: b :: r, 0, x, y, h, h2 => by
    have e1 : a = x := Option.some.inj h
    have e2 : b = y := Option.some.inj h2
    rw [← e1, ← e2]
    rfl
  | a :: b :: r, i + 1, x, y, h, h2 => ltPairs_get (b :: r) i x y h h2
theorem ltPairs_all : ∀ ns : List Int, (ltPairs ns).all id = ascD (ns.map PyData.int)
  | [] => rfl
  | [_] => rfl
  | a :: b :: r => by
    show (decide (a < b) && (ltPairs (b :: r)).all id) = (decide (a < b) && ascD ((b :: r).map PyData.int))
    rw [ltPairs_all (b :: r)]
theorem ints_of {K : PySem.W.Frag} {H : Hp} {lo hi : Int} : ∀ {ds : List PyData} {vs : List V}, DvAll K H vs ds → ds.all (fun e => between e lo hi) = true → ∃ ns : List Int, ds = ns.map PyData.int ∧ vs = ns.map V.int
  | [], _, h, _ => by cases h; exact ⟨[], rfl, rfl⟩
  | d :: ds, _, h, e => by
    cases h with
    | cons h1 h2 =>
      rw [List.all_cons, Bool.and_eq_true] at e
      obtain ⟨ns, e1, e2⟩ := ints_of h2 e.2
      cases h1 with
      | int i => exact ⟨i :: ns, by rw [e1]; rfl, by rw [e2]; rfl⟩
      | _ => exact absurd e.1 Bool.false_ne_true
theorem cut1 (xs : List V) : cutV xs (some 1) none = xs.drop 1 := by
  unfold cutV
  rw [show HT.sIx xs.length 0 (some 1) = min 1 xs.length from HT.sIx_nat xs.length 0 1, HT.sIx_none]
  cases xs with
  | nil => rfl
  | cons x r =>
    rw [show min 1 (x :: r).length = 1 by
      rw [List.length_cons]
      omega]
    show (List.take ((x :: r).length - 1) r) = r
    rw [List.length_cons, Nat.add_sub_cancel]
    exact List.take_length
section
variable {P : Program} {w : World} {K : PySem.W.Frag} {mg : Str → Option Value} {base : Heap}
def spResidues (K : PySem.W.Frag) : Sp := fun vs H Q _ => ∃ (x : V) (d : PyData) (m : Int), vs = [x, .int m] ∧ Dv K H x d ∧ ∀ H', Same H H' → Q (.bl (residues d m)) H'
theorem ok_residues (B : Blt mg) (G : DefOk P w K mg base CX0 2 "is_between" ["value", "low", "high"] (spBetween K)) (D : Dfn K mg "are_residues" sResidues ["value", "modulus"]) : DefOk P w K mg base CX0 3 "are_residues" ["value", "modulus"] (spResidues K) := D.ok fun f fd F => by
  refine F.ok scResidues (fun vs H Q E h => ?_) (fun cdv A outer s H vs Q E hr h => ?_)
  · obtain ⟨x, d, m, rfl, _⟩ := h
    rfl
  · obtain ⟨x, d, m, rfl, hx, q⟩ := h
    refine ⟨_, pss_cons (ps_if (pt_not (pt_val (pe_isi B.isi (pa_cons (pv 0) (pa_cons (pe_cls (n := "list") "list" B.list) pa_nil))))) (pss_one (ps_ret pe_bl)) pss_nil)
      (pss_cons (ps_if (pt_not (pt_val (pe_callB (cr_all rfl) (by rfl) B.all (by decide +kernel) (pa_cons
          (pe_lc (own := [("residue", 2)]) (g := gName 2) (tt := tYes) rfl scResidues.nd (pi_list (pv 0)) (blkOk_by (N := ["value", "modulus", "residue", "one", "other"]) (sc := defScope sResidues) (by decide +kernel))
            (fun _ _ _ _ _ => pg_name (i := 2) scResidues.nd rfl (Or.inl rfl)) (fun _ _ _ _ _ => pts_nil)
            (fun _ _ _ _ _ => pe_def G hr pass0 (pa_cons (pv 2) (pa_cons pe_int (pa_cons (pe_op op_sub (pv 1) pe_int) pa_nil))))) pa_nil)))) (pss_one (ps_ret pe_bl)) pss_nil)
      (pss_one (ps_ret (pe_callB (cr_all rfl) (by rfl) B.all (by decide +kernel) (pa_cons
          (pe_lc (own := [("one", 3), ("other", 4)]) (g := gTup K 2 (gCons (gName 3) (gCons (gName 4) gNil))) (tt := tYes) rfl scResidues.nd (pi_zip (by rfl) B.zip (pa_cons (pv 0) (pa_cons (pe_slice sl_list (pv 0) (po_some pe_int) po_none) pa_nil))) (blkOk_by (N := ["value", "modulus", "residue", "one", "other"]) (sc := defScope sResidues) (by decide +kernel))
            (fun _ _ _ _ _ => pg_tup rfl (pgs_cons (pg_name (i := 3) scResidues.nd rfl (Or.inl rfl)) (pgs_cons (pg_name (i := 4) scResidues.nd rfl (Or.inl rfl)) pgs_nil))) (fun _ _ _ _ _ => pts_nil)
            (fun _ _ _ _ _ => pe_cmpR op_lt (pv 3) (pv 4) (nomark _))) pa_nil))))), ?_⟩
    refine ⟨x, rfl, _, _, _, _, _, rfl, .ty "list", hx.ty, kit_ty (isa_list d), _, rfl, ?_⟩
    cases hd : isList d with
    | false =>
      have z : residues d m = false := by
        cases d <;> first | rfl | cases hd
      rw [z] at q
      exact q _ (Same.refl _)
    | true =>
      cases hx with
      | @lst a xs ds ha hzz hds =>
        have hl := hds.length
        have hz : ds.length ≤ 1000 := by
          rw [← hl]
          exact hzz
        -- the first comprehension
        refine ⟨.ref a, rfl, a, rfl, ⟨_, SqL.of ha⟩, fun D1 nD1 => ?_⟩
        refine lc_map (ys := ds.map fun e => V.bl (between e 0 (m - 1))) (SqL.of ha) nD1 (by rw [List.length_map, hl]) (by rw [hl]; exact small1000 hz) (fun _ => rfl) (fun i v y H' Q' e1 e2 sm k => ?_) (fun H2 s2 eD => ?_)
        · obtain ⟨e, e3, e4⟩ := (hds.same sm).getV e1
          rw [List.getElem?_map, e3] at e2
          cases e2
          exact ⟨_, rfl, _, rfl, _, _, rfl, rfl, v, e, 0, m - 1, rfl, e4, k _ (Same.refl _)⟩
        · refine ⟨D1, ds.map fun e => between e 0 (m - 1), rfl, SqL.of (by rw [eD, List.map_map]; rfl), _, rfl, ?_⟩
          rw [all_id]
          cases ha1 : ds.all (fun e => between e 0 (m - 1)) with
          | false =>
            have z : residues (.list ds) m = false := by
              show (_ && _) = false
              rw [ha1]
              rfl
            rw [z] at q
            exact q _ s2
          | true =>
            obtain ⟨ns, rfl, rfl⟩ := ints_of hds ha1
            have ha2 := s2 _ _ ha
            rw [List.length_map] at hz
            refine ⟨.ref a, rfl, .ref a, rfl, _, rfl, a, _, rfl, SqL.of ha2, fun c nc => ?_⟩
            have sc := same_upd (o := HO.lst (cutV (ns.map V.int) (some 1) none)) nc
            have nca : a ≠ c := ne_of_none ha2 nc
            refine ⟨a, c, _, _, rfl, SqL.of (sc _ _ ha2), SqL.of upd_same, fun D2 nD2 => ?_⟩
            rw [cut1]
            have lz : (ltPairs ns).length = ns.length - 1 := ltPairs_len ns
            refine lc_zip (xs := ns.map V.int) (xs' := (ns.map V.int).drop 1) (ys := (ltPairs ns).map V.bl) (SqL.of (by rw [cut1] at sc; exact sc _ _ ha2)) (SqL.of upd_same) (by rw [cut1] at nD2; exact nD2)
              (by rw [List.length_map, List.length_drop, List.length_map, lz]; omega) (by rw [List.length_map, lz]; exact small1000 (by omega)) (fun _ _ => rfl) (fun i v v' y H' Q' e1 e2 e3 sm k => ?_) (fun H3 s3 eD3 => ?_)
            · rw [List.getElem?_map] at e1
              rw [List.getElem?_drop, List.getElem?_map] at e2
              obtain ⟨n1, g1, rfl⟩ := Option.map_eq_some_iff.mp e1
              obtain ⟨n2, g2, rfl⟩ := Option.map_eq_some_iff.mp e2
              rw [Nat.add_comm] at g2
              rw [List.getElem?_map, ltPairs_get ns i n1 n2 g1 g2] at e3
              cases e3
              exact ⟨_, rfl, _, rfl, _, _, rfl, rfl, k _ (Same.refl _)⟩
            · have z : residues (.list (ns.map PyData.int)) m = (ltPairs ns).all id := by
                show (_ && _) = _
                rw [ha1, ltPairs_all]
                rfl
              refine ⟨D2, ltPairs ns, rfl, SqL.of eD3, ?_⟩
              rw [← z]
              refine q _ ((s2.trans ?_).trans s3)
              rw [cut1] at sc
              exact sc
      | _ => cases hd
/-! ### is_plain_test -/
theorem scPlain : FnScope ["value"] ["value"] (defScope sPlain) := ⟨rfl, rfl, rfl, by decide +kernel, rfl, by decide +kernel, by decide +kernel⟩
def isPlain : PyData → Bool
  | .tuple [a, b] => oneOf a ["below", "from"] && isParam b
  | .tuple [a, .int m, c] => oneOf a ["mod"] && between (.int m) 1 100 && residues c m
  | _ => false
def spPlain (K : PySem.W.Frag) : Sp := fun vs H Q _ => ∃ (x : V) (d : PyData), vs = [x] ∧ Dv K H x d ∧ ∀ H', Same H H' → Q (.bl (isPlain d)) H'
theorem len3_iff {ds : List PyData} (h : ds.length = 3) : ∃ a b c, ds = [a, b, c] := by
  match ds, h with
  | [a, b, c], _ => exact ⟨a, b, c, rfl⟩
theorem int_len {n : Nat} {k : Nat} (h : decide (V.int (n : Int) = V.int (k : Int)) = true) : n = k := by
  have z := V.int.inj (of_decide_eq_true h)
  omega
theorem int_len_ne {n : Nat} {k : Nat} (h : ¬ decide (V.int (n : Int) = V.int (k : Int)) = true) : n ≠ k := fun z => h (decide_eq_true (by rw [z]))
theorem plain_other {ds : List PyData} (h2 : ds.length ≠ 2) (h3 : ds.length ≠ 3) : isPlain (.tuple ds) = false := by
  unfold isPlain
  split
  · rename_i e
    injection e with e
    subst e
    exact absurd rfl h2
  · rename_i e
    injection e with e
    subst e
    exact absurd rfl h3
  · rfl
theorem plain3 {a b c : PyData} (h : between b 1 100 = false) : isPlain (.tuple [a, b, c]) = false := by
  cases b with
  | int m =>
    show (_ && _ && _) = false
    rw [h]
    simp
  | _ => rfl
theorem ok_plain (B : Blt mg) (G1 : DefOk P w K mg base CX0 1 "is_one_of" ["value", "words"] (spOneOf K)) (G2 : DefOk P w K mg base CX0 3 "is_parameter" ["value"] (spParameter K)) (G3 : DefOk P w K mg base CX0 2 "is_between" ["value", "low", "high"] (spBetween K))
    (G4 : DefOk P w K mg base CX0 3 "are_residues" ["value", "modulus"] (spResidues K)) (D : Dfn K mg "is_plain_test" sPlain ["value"]) : DefOk P w K mg base CX0 4 "is_plain_test" ["value"] (spPlain K) := D.ok fun f fd F => by
  refine F.ok scPlain (fun vs H Q E h => ?_) (fun cdv A outer s H vs Q E hr h => ?_)
  · obtain ⟨x, d, rfl, _⟩ := h
    rfl
  · obtain ⟨x, d, rfl, hx, q⟩ := h
    refine ⟨_, pss_cons (ps_if (pt_not (pt_val (pe_isi B.isi (pa_cons (pv 0) (pa_cons (pe_cls (n := "tuple") "tuple" B.tuple) pa_nil))))) (pss_one (ps_ret pe_bl)) pss_nil)
      (pss_cons (ps_if (pt_cmpR op_eq (pe_callB call_len_seq (by rfl) B.len PySem.boot_len (pa_cons (pv 0) pa_nil)) pe_int (nomark _))
        (pss_one (ps_ret (pe_and (pe_def G1 hr pass0 (pa_cons (pe_ix ix_tup (pv 0) pe_int (fun _ _ => rfl)) (pa_cons (pe_tup (pa_cons pe_str (pa_cons pe_str pa_nil))) pa_nil)))
          (pe_one (pe_def G2 hr pass0 (pa_cons (pe_ix ix_tup (pv 0) pe_int (fun _ _ => rfl)) pa_nil)))))) pss_nil)
      (pss_cons (ps_if (pt_cmpR op_eq (pe_callB call_len_seq (by rfl) B.len PySem.boot_len (pa_cons (pv 0) pa_nil)) pe_int (nomark _))
        (pss_one (ps_ret (pe_and (pe_def G1 hr pass0 (pa_cons (pe_ix ix_tup (pv 0) pe_int (fun _ _ => rfl)) (pa_cons (pe_tup (pa_cons pe_str pa_nil)) pa_nil)))
          (pe_and (pe_def G3 hr pass0 (pa_cons (pe_ix ix_tup (pv 0) pe_int (fun _ _ => rfl)) (pa_cons pe_int (pa_cons pe_int pa_nil))))
            (pe_one (pe_def G4 hr pass0 (pa_cons (pe_ix ix_tup (pv 0) pe_int (fun _ _ => rfl)) (pa_cons (pe_ix ix_tup (pv 0) pe_int (fun _ _ => rfl)) pa_nil)))))))) pss_nil)
      (pss_one (ps_ret pe_bl)))), ?_⟩
    refine ⟨x, rfl, _, _, _, _, _, rfl, .ty "tuple", hx.ty, kit_ty (isa_tuple d), _, rfl, ?_⟩
    cases hd : isTuple d with
    | false =>
      have z : isPlain d = false := by
        cases d <;> first | rfl | cases hd
      rw [z] at q
      exact q _ (Same.refl _)
    | true =>
      cases hx with
      | @tup a xs ds ha hz hds =>
        have hl := hds.length
        refine ⟨.ref a, rfl, a, xs, rfl, .inr (SqT.of ha), rfl, _, rfl, ite2 (fun e => ?_) (fun e => ?_)⟩
        · have e2 : ds.length = 2 := hl.symm.trans (int_len e)
          obtain ⟨d1, d2, rfl⟩ := len2_iff e2
          cases hds with
          | cons h1 h2 =>
            cases h2 with
            | cons h2 h3 =>
              cases h3
              refine ⟨.ref a, rfl, a, _, _, _, rfl, rfl, SqT.of ha, atI_nat (j := 0) rfl, by show 2 ≤ sizeLine; decide, fun t ht => ?_⟩
              have s1 := same_upd (o := HO.tup [V.str "below", V.str "from"]) ht
              refine ⟨_, d1, t, ["below", "from"], rfl, h1.same s1, SqT.of upd_same, _, rfl, ite2 (fun e1 => ?_) (fun e1 => ?_)⟩
              · refine ⟨.ref a, rfl, a, _, _, _, rfl, rfl, SqT.of (s1 _ _ ha), atI_nat (j := 1) rfl, _, d2, rfl, h2.same s1, ?_⟩
                refine Qb ?_ (q _ s1)
                show _ = (_ && _)
                rw [e1]
                rfl
              · refine Qb ?_ (q _ s1)
                show _ = (_ && _)
                rw [Bool.eq_false_iff.mpr e1]
                rfl
        · have e2 : ds.length ≠ 2 := fun z => int_len_ne e (hl.trans z)
          refine ⟨.ref a, rfl, a, xs, rfl, .inr (SqT.of ha), rfl, _, rfl, ite2 (fun e => ?_) (fun e => ?_)⟩
          · have e3 : ds.length = 3 := hl.symm.trans (int_len e)
            obtain ⟨d1, d2, d3, rfl⟩ := len3_iff e3
            cases hds with
            | cons h1 h2 =>
              cases h2 with
              | cons h2 h3 =>
                cases h3 with
                | cons h3 h4 =>
                  cases h4
                  refine ⟨.ref a, rfl, a, _, _, _, rfl, rfl, SqT.of ha, atI_nat (j := 0) rfl, by show 1 ≤ sizeLine; decide, fun t ht => ?_⟩
                  have s1 := same_upd (o := HO.tup [V.str "mod"]) ht
                  refine ⟨_, d1, t, ["mod"], rfl, h1.same s1, SqT.of upd_same, _, rfl, ite2 (fun e1 => ?_) (fun e1 => ?_)⟩
                  · refine ⟨.ref a, rfl, a, _, _, _, rfl, rfl, SqT.of (s1 _ _ ha), atI_nat (j := 1) rfl, _, d2, 1, 100, rfl, h2.same s1, _, rfl, ite2 (fun e4 => ?_) (fun e4 => ?_)⟩
                    · cases h2 with
                      | int m =>
                        refine ⟨.ref a, rfl, a, _, _, _, rfl, rfl, SqT.of (s1 _ _ ha), atI_nat (j := 2) rfl, .ref a, rfl, a, _, _, _, rfl, rfl, SqT.of (s1 _ _ ha), atI_nat (j := 1) rfl, _, d3, m, rfl, h3.same s1, fun H' s2 => ?_⟩
                        refine Qb ?_ (q _ (s1.trans s2))
                        show _ = (_ && _ && _)
                        rw [e1, e4]
                        rfl
                      | _ => exact absurd e4 Bool.false_ne_true
                    · refine Qb ?_ (q _ s1)
                      exact (plain3 (Bool.eq_false_iff.mpr e4)).symm
                  · refine Qb ?_ (q _ s1)
                    cases d2 with
                    | int m =>
                      show _ = (_ && _ && _)
                      rw [Bool.eq_false_iff.mpr e1]
                      rfl
                    | _ => rfl
          · have e3 : ds.length ≠ 3 := fun z => int_len_ne e (hl.trans z)
            exact Qb (plain_other e2 e3).symm (q _ (Same.refl _))
      | _ => cases hd
end
end Pw
set_option maxHeartbeats 200000
/-! is_test, holds -/
namespace Pw
open PySem PySem.Spec PyProof.Rows L2
theorem scTest : FnScope ["value", "inner", "_"] ["value"] (defScope sTest) := ⟨rfl, rfl, rfl, by decide +kernel, rfl, by decide +kernel, by decide +kernel⟩
def unNot : Nat → PyData → PyData
  | 0, d => d
  | n + 1, .tuple [a, b] => if oneOf a ["not"] = true then unNot n b else .tuple [a, b]
  | _ + 1, d => d
def isTest (d : PyData) : Bool := isPlain (unNot 3 d)
theorem unNot_stop : ∀ (n : Nat) (d : PyData), isNeg d = false → unNot n d = d
  | 0, _, _ => rfl
  | n + 1, d, h => by
    unfold unNot
    split
    · rename_i e1 e2
      cases e2
    · rename_i a b e1
      have h' : oneOf a ["not"] = false := h
      rw [h', if_neg Bool.false_ne_true]
    · rfl
theorem isNeg_shape : ∀ {d : PyData}, isNeg d = true → ∃ a b, d = .tuple [a, b] ∧ oneOf a ["not"] = true := fun {d} h => by
  unfold isNeg at h
  split at h
  · exact ⟨_, _, rfl, h⟩
  · cases h
section
variable {P : Program} {w : World} {K : PySem.W.Frag} {mg : Str → Option Value} {base : Heap}
def spTest (K : PySem.W.Frag) : Sp := fun vs H Q _ => ∃ (x : V) (d : PyData), vs = [x] ∧ Dv K H x d ∧ ∀ H', Same H H' → Q (.bl (isTest d)) H'
theorem ok_test (B : Blt mg) {tm : Tok} (mN : mg "MOST_NOTS" = some (.int 3 tm)) (G1 : DefOk P w K mg base CX0 2 "is_negation" ["value"] (spNegation K)) (G2 : DefOk P w K mg base CX0 4 "is_plain_test" ["value"] (spPlain K))
    (D : Dfn K mg "is_test" sTest ["value"]) : DefOk P w K mg base CX0 5 "is_test" ["value"] (spTest K) := D.ok fun f fd F => by
  refine F.ok scTest (fun vs H Q E h => ?_) (fun cdv A outer s H vs Q E hr h => ?_)
  · obtain ⟨x, d, rfl, _⟩ := h
    rfl
  · obtain ⟨x, d, rfl, hx, q⟩ := h
    refine ⟨_, pss_cons (ps_set (i := 1) scTest.nd rfl (.inl rfl) (pv 0))
      (pss_cons (ps_for PassesOwn.never rfl (pi_range1 rfl B.range (pa_cons (pe_glob (v := .int 3) rfl mN ⟨_, rfl⟩) pa_nil)) (pg_name (i := 2) scTest.nd rfl (Or.inl rfl))
        (pss_cons (ps_if (pt_not (pt_val (pe_def G1 hr pass0 (pa_cons (pv 1) pa_nil)))) (pss_one ps_break) pss_nil)
        (pss_one (ps_set (i := 1) scTest.nd rfl (.inl rfl) (pe_ix ix_tup (pv 1) pe_int (fun _ _ => rfl))))))
      (pss_one (ps_ret (pe_def G2 hr pass0 (pa_cons (pv 1) pa_nil))))), ?_⟩
    refine ⟨x, rfl, 3, rfl, by decide, by decide, ?_⟩
    have fin : ∀ (y : V) (d' : PyData) (z : Option V) (H' : Hp), Same H H' → Dv K H' y d' → unNot 3 d = d' → ∃ v, ([some x, some y, z] : L2.St)[1]? = some (some v) ∧ spPlain K ([v] ++ []) H' Q E0 := fun y d' z H' sm hy e => by
      refine ⟨y, rfl, y, d', rfl, hy, fun H2 s2 => ?_⟩
      have e2 : isTest d = isPlain d' := by
        unfold isTest
        rw [e]
      rw [← e2]
      exact q _ (sm.trans s2)
    refine for_range (n := 3) (fun i σ H' => ∃ y d' z, σ = [some x, some y, z] ∧ Same H H' ∧ Dv K H' y d' ∧ unNot (3 - i) d' = unNot 3 d) ⟨x, d, none, rfl, Same.refl H, hx, rfl⟩ (fun i σ H' hi p => ?_) (fun σ H' p => ?_)
    · obtain ⟨y, d', z, rfl, sm, hy, e⟩ := p
      refine ⟨y, rfl, y, d', rfl, hy, fun H2 s2 => ⟨_, rfl, ?_⟩⟩
      cases hn : isNeg d' with
      | false =>
        rw [unNot_stop _ _ hn] at e
        exact fin y d' _ H2 (sm.trans s2) (hy.same s2) e.symm
      | true =>
        obtain ⟨a, b, rfl, ho⟩ := isNeg_shape hn
        cases hy with
        | @tup ad xs ds ha hz hds =>
          cases hds with
          | cons h1 h2 =>
            cases h2 with
            | cons h2 h3 =>
              cases h3
              rename_i v1 v2
              refine ⟨.ref ad, rfl, ad, _, _, v2, rfl, rfl, SqT.of (s2 _ _ ha), atI_nat (j := 1) rfl, v2, b, _, rfl, sm.trans s2, h2.same s2, ?_⟩
              rw [← e, show 3 - i = (3 - (i + 1)) + 1 by omega]
              show unNot (3 - (i + 1)) b = (if oneOf a ["not"] = true then unNot (3 - (i + 1)) b else .tuple [a, b])
              rw [if_pos ho]
    · obtain ⟨y, d', z, rfl, sm, hy, e⟩ := p
      exact fin y d' z H' sm hy e.symm
end
/-! ### tests as such -/
inductive Tst where
  | neg (t : Tst)
  | lt (v : Int)
  | ge (v : Int)
  | md (m : Int) (rs : List Int)
namespace Tst
def dat : Tst → PyData
  | neg t => .tuple [.str "not", t.dat]
  | lt v => .tuple [.str "below", .int v]
  | ge v => .tuple [.str "from", .int v]
  | md m rs => .tuple [.str "mod", .int m, .list (rs.map PyData.int)]
def holds : Tst → Int → Bool
  | neg t, i => !t.holds i
  | lt v, i => decide (i < v)
  | ge v, i => decide (i ≥ v)
  | md m rs, i => decide (i.fmod m ∈ rs)
def nots : Tst → Nat
  | neg t => t.nots + 1
  | _ => 0
def Ok : Tst → Prop
  | neg t => t.Ok
  | md m _ => m ≠ 0
  | _ => True
end Tst
theorem in_ints (k : Int) (ns : List Int) : inV (.int k) (ns.map V.int) = decide (k ∈ ns) := by
  unfold inV
  induction ns with
  | nil => rfl
  | cons a r ih =>
    rw [List.map_cons, List.any_cons, ih]
    show (a == k || decide (k ∈ r)) = decide (k ∈ a :: r)
    by_cases e : a = k
    · rw [beq_iff_eq.mpr e, e]
      simp
    · rw [beq_eq_false_iff_ne.mpr e]
      have e2 : ¬ k = a := fun z => e z.symm
      by_cases e3 : k ∈ r
      · simp [e3]
      · simp [e2, e3]
theorem flat_ints (ns : List Int) : (ns.map V.int).all flatV = true := by
  rw [List.all_eq_true]
  intro v hv
  obtain ⟨s, _, rfl⟩ := List.mem_map.mp hv
  rfl
theorem vals_ints {K : PySem.W.Frag} {H : Hp} : ∀ {ns : List Int} {vs : List V}, DvAll K H vs (ns.map PyData.int) → vs = ns.map V.int
  | [], _, h => by cases h; rfl
  | n :: ns, _, h => by
    cases h with
    | cons h1 h2 =>
      cases h1
      rw [vals_ints h2]
      rfl
end Pw
set_option maxHeartbeats 200000
/-! words, parts of a node -/
namespace Pw
open PySem PySem.Spec PyProof.Rows L2
/-! ### comprehensions, some items left out -/
theorem lc_filtW {J : It} {n : Nat} {G : Hp → Prop} {Y : Nat → Hp → V → Hp → Prop} (w : Walk J n G Y) {g : TG} {tt : TT} {te : TE} {vs : List Nat} {σ : L2.St} {H1 : Hp} {D : Addr} {Qd : Hp → Prop} (f : Nat → Option V) (nD : H1 D = none) (hz : n < sizeLine)
    (hG : ∀ H, Same H1 H → G H)
    (hs : ∀ i x H H' (Q : VK) (N : Hp → Prop), i < n → Same H1 H → Y i H x H' → (∀ y H4, f i = some y → Same H H4 → Q y H4) → (∀ H4, f i = none → Same H H4 → N H4) →
      g x (wipe σ vs) H' fun σ2 H2 => wipe σ2 vs = wipe σ vs ∧ tt σ2 H2 fun b H3 => if b = true then te σ2 H3 Q else N H3)
    (hd : ∀ H, Same H1 H → H D = some (.lst ((List.range n).filterMap f)) → Qd H) :
    ∃ W : Nat → Nat → Hp → Prop, (∃ m, W 0 m (upd H1 D (.lst []))) ∧ ∀ i m H, W i m H →
      (J.stop i H ∧ Qd H) ∨ (J.go i H ∧ ∃ Nx : Hp → Prop, (∀ H', Nx H' → ∃ m', m' < m ∧ W (i + 1) m' H') ∧ ∀ x H', J.yld i H x H' → g x (wipe σ vs) H' fun σ2 H2 => wipe σ2 vs = wipe σ vs ∧ tt σ2 H2 fun b H3 =>
        if b = true then te σ2 H3 fun y H4 => ∃ acc, H4 D = some (.lst acc) ∧ acc.length < sizeLine ∧ Nx (upd H4 D (.lst (acc ++ [y]))) else Nx H3) := by
  refine lc_it w (fun i H => Same H1 H ∧ H D = some (.lst ((List.range i).filterMap f))) ⟨same_upd nD, upd_same⟩ (fun i H _ p => hG H p.1) (fun i x H H' hi p y => ?_) (fun H p => hd H p.1 p.2)
  obtain ⟨p1, p2⟩ := p
  refine hs i x H H' _ _ hi p1 y (fun y H4 fy s4 => ?_) (fun H4 fy s4 => ?_)
  · refine ⟨_, s4 _ _ p2, Nat.lt_of_le_of_lt (List.length_filterMap_le _ _) (by rw [List.length_range]; omega), fun b o e => ?_, ?_⟩
    · rw [upd_ne (ne_of_none e nD)]
      exact s4 _ _ (p1 _ _ e)
    · rw [upd_same, List.range_succ, List.filterMap_append]
      simp only [List.filterMap_cons, fy, List.filterMap_nil]
  · refine ⟨p1.trans s4, ?_⟩
    rw [List.range_succ, List.filterMap_append]
    simp only [List.filterMap_cons, fy, List.filterMap_nil, List.append_nil]
    exact s4 _ _ p2
theorem range_get {α : Type} : ∀ (ys : List α), (List.range ys.length).filterMap (fun i => ys[i]?) = ys := fun ys => by
  induction ys with
  | nil => rfl
  | cons a r ih =>
    rw [List.length_cons, List.range_succ_eq_map, List.filterMap_cons]
    simp only [List.getElem?_cons_zero, List.filterMap_map, Function.comp_def, List.getElem?_cons_succ, ih]
theorem lc_mapW {J : It} {n : Nat} {G : Hp → Prop} {Y : Nat → Hp → V → Hp → Prop} (w : Walk J n G Y) {g : TG} {te : TE} {vs : List Nat} {σ : L2.St} {H1 : Hp} {D : Addr} {Qd : Hp → Prop} {ys : List V} (nD : H1 D = none) (hl : ys.length = n) (hz : n < sizeLine)
    (hG : ∀ H, Same H1 H → G H)
    (hs : ∀ i x y H H' (Q : VK), i < n → ys[i]? = some y → Same H1 H → Y i H x H' → (∀ H4, Same H H4 → Q y H4) → g x (wipe σ vs) H' fun σ2 H2 => wipe σ2 vs = wipe σ vs ∧ te σ2 H2 Q)
    (hd : ∀ H, Same H1 H → H D = some (.lst ys) → Qd H) :
    ∃ W : Nat → Nat → Hp → Prop, (∃ m, W 0 m (upd H1 D (.lst []))) ∧ ∀ i m H, W i m H →
      (J.stop i H ∧ Qd H) ∨ (J.go i H ∧ ∃ Nx : Hp → Prop, (∀ H', Nx H' → ∃ m', m' < m ∧ W (i + 1) m' H') ∧ ∀ x H', J.yld i H x H' → g x (wipe σ vs) H' fun σ2 H2 => wipe σ2 vs = wipe σ vs ∧ tYes σ2 H2 fun b H3 =>
        if b = true then te σ2 H3 fun y H4 => ∃ acc, H4 D = some (.lst acc) ∧ acc.length < sizeLine ∧ Nx (upd H4 D (.lst (acc ++ [y]))) else Nx H3) := by
  refine lc_filtW w (fun i => ys[i]?) nD hz hG (fun i x H H' Q N hi sm y h1 h2 => ?_) (fun H s e => hd H s (by rw [e, ← hl, range_get]))
  have hi' : i < ys.length := by omega
  exact hs i x ys[i] H H' Q hi (List.getElem?_eq_getElem hi') sm y fun H4 s4 => h1 _ _ (List.getElem?_eq_getElem hi') s4
/-! ### is_name -/
abbrev sName : Stmt := topS 11
theorem scName : FnScope ["value", "letter"] ["value"] (defScope sName) := ⟨rfl, rfl, rfl, by decide +kernel, rfl, by decide +kernel, by decide +kernel⟩
def aToZ (c : Nat) : Bool := decide (97 ≤ c) && decide (c ≤ 122)
def isName : PyData → Bool
  | .str s => decide (1 ≤ s.length) && decide (s.length ≤ 12) && s.cps.toList.all aToZ
  | _ => false
theorem one_lt (c d : Nat) : decide ((⟨#[c]⟩ : Str).cps.toList < (⟨#[d]⟩ : Str).cps.toList) = decide (c < d) := by
  show decide ([c] < [d]) = _
  by_cases h : c < d
  · rw [decide_eq_true h, decide_eq_true]
    exact List.Lex.rel h
  · rw [decide_eq_false h, decide_eq_false]
    intro z
    cases z with
    | rel h2 => exact h h2
    | cons h2 => cases h2
theorem cps_a : ("a" : Str) = ⟨#[97]⟩ := by decide +kernel
theorem cps_z : ("z" : Str) = ⟨#[122]⟩ := by decide +kernel
theorem lo_a (c : Nat) : (!decide ((⟨#[c]⟩ : Str).cps.toList < ("a" : Str).cps.toList)) = decide (97 ≤ c) := by
  rw [cps_a, one_lt]
  by_cases h : c < 97
  · rw [decide_eq_true h, decide_eq_false (by omega)]
    rfl
  · rw [decide_eq_false h, decide_eq_true (by omega)]
    rfl
theorem hi_z (c : Nat) : (!decide (("z" : Str).cps.toList < (⟨#[c]⟩ : Str).cps.toList)) = decide (c ≤ 122) := by
  rw [cps_z, one_lt]
  by_cases h : 122 < c
  · rw [decide_eq_true h, decide_eq_false (by omega)]
    rfl
  · rw [decide_eq_false h, decide_eq_true (by omega)]
    rfl
section
variable {P : Program} {w : World} {K : PySem.W.Frag} {mg : Str → Option Value} {base : Heap}
def spName (K : PySem.W.Frag) : Sp := fun vs H Q _ => ∃ x d, vs = [x] ∧ Dv K H x d ∧ (∀ z, d = .str z → z.length ≤ 1000) ∧ ∀ H', Same H H' → Q (.bl (isName d)) H'
theorem get_letters (z : Str) : ∀ (i : Nat) (y : V), (z.cps.toList.map fun c => V.bl (aToZ c))[i]? = some y → ∀ c, z.cps[i]? = some c → y = .bl (aToZ c) := fun i y h c hc => by
  rw [List.getElem?_map, Array.getElem?_toList, hc] at h
  cases h
  rfl
theorem ok_name (B : Blt mg) (D : Dfn K mg "is_name" sName ["value"]) : DefOk P w K mg base CX0 1 "is_name" ["value"] (spName K) := D.ok fun f fd F => by
  refine F.ok scName (fun vs H Q E h => ?_) (fun cdv A outer s H vs Q E hr h => ?_)
  · obtain ⟨x, d, rfl, _⟩ := h
    rfl
  · obtain ⟨x, d, rfl, hx, hz, q⟩ := h
    refine ⟨_, pss_cons (ps_if (PW.pt (pw_or (pt_not (pt_val (pe_isi B.isi (pa_cons (pv 0) (pa_cons (pe_cls (n := "str") "str" B.str) pa_nil)))))
        (pw_or1 (pt_not (pt_chain op_le op_le pe_int (pe_callB call_len_str (by rfl) B.len PySem.boot_len (pa_cons (pv 0) pa_nil)) pe_int))))) (pss_one (ps_ret pe_bl)) pss_nil)
      (pss_one (ps_ret (pe_callB (cr_all rfl) (by rfl) B.all (by decide +kernel) (pa_cons
          (pe_lc (own := [("letter", 1)]) (g := gName 1) (tt := tYes) rfl scName.nd (pi_str (pv 0)) (blkOk_by (N := ["value", "letter"]) (sc := defScope sName) (by decide +kernel))
            (fun _ _ _ _ _ => pg_name (i := 1) scName.nd rfl (Or.inl rfl)) (fun _ _ _ _ _ => pts_nil)
            (fun _ _ _ _ _ => pe_chain op_le_str op_le_str pe_str (pv 1) pe_str)) pa_nil)))), ?_⟩
    refine ⟨x, rfl, _, _, _, _, _, rfl, .ty "str", hx.ty, kit_ty (isa_str d), _, rfl, ?_⟩
    cases hd : isStr d with
    | false =>
      have z : isName d = false := by
        cases d <;> first | rfl | cases hd
      rw [z] at q
      exact q _ (Same.refl _)
    | true =>
      cases hx with
      | str z =>
        have hzz := hz z rfl
        refine ⟨_, rfl, _, rfl, Nat.le_trans hzz (by decide), _, _, rfl, rfl, _, rfl, ite2 (fun e1 => ?_) (fun e1 => ?_)⟩
        · refine ⟨_, _, rfl, rfl, _, rfl, ?_⟩
          cases e2 : decide ((z.length : Int) ≤ 12) with
          | false =>
            have z1 : isName (.str z) = false := by
              have z2 : decide (z.length ≤ 12) = false := decide_eq_false (by have := of_decide_eq_false e2; omega)
              show (_ && _ && _) = false
              rw [z2, Bool.and_false, Bool.false_and]
            rw [z1] at q
            exact q _ (Same.refl _)
          | true =>
            have z0 : decide (1 ≤ z.length) = true := decide_eq_true (by have := of_decide_eq_true e1; omega)
            have z2 : decide (z.length ≤ 12) = true := decide_eq_true (by have := of_decide_eq_true e2; omega)
            refine ⟨.str z, rfl, z, rfl, fun D1 nD1 => ?_⟩
            refine lc_mapW (ys := z.cps.toList.map fun c => V.bl (aToZ c)) walk_str nD1 (by rw [List.length_map, Array.length_toList]) (Nat.lt_of_le_of_lt hzz (by decide)) (fun _ _ => trivial) (fun i v y H' H'' Q' hi e3 sm yv k => ?_) (fun H2 s2 eD => ?_)
            · obtain ⟨rfl, c, hc, rfl⟩ := yv
              obtain rfl := get_letters z i y e3 c hc
              refine ⟨rfl, _, rfl, _, _, rfl, rfl, _, rfl, ?_⟩
              rw [lo_a]
              cases e5 : decide (97 ≤ c) with
              | false =>
                have z5 : aToZ c = false := by
                  show (_ && _) = false
                  rw [e5, Bool.false_and]
                rw [z5] at k
                exact k _ (Same.refl _)
              | true =>
                have z5 : aToZ c = decide (c ≤ 122) := by
                  show (_ && _) = _
                  rw [e5, Bool.true_and]
                rw [z5] at k
                refine ⟨_, _, rfl, rfl, ?_⟩
                rw [hi_z]
                exact k _ (Same.refl _)
            · refine ⟨D1, z.cps.toList.map aToZ, rfl, SqL.of (by rw [eD, List.map_map]; rfl), ?_⟩
              rw [all_id]
              have z3 : isName (.str z) = z.cps.toList.all aToZ := by
                show (_ && _ && _) = _
                rw [z0, z2]
                rfl
              rw [z3] at q
              exact q _ s2
        · have z1 : isName (.str z) = false := by
            have z2 : decide (1 ≤ z.length) = false := decide_eq_false (by intro z3; exact e1 (decide_eq_true (by omega)))
            show (_ && _ && _) = false
            rw [z2, Bool.false_and, Bool.false_and]
          rw [z1] at q
          exact ⟨_, rfl, q _ (Same.refl _)⟩
      | _ => cases hd
end
end Pw
set_option maxHeartbeats 200000
/-! lists of integers, products, the modulus of a test -/
namespace Pw
open PySem PySem.Spec PyProof.Rows L2
abbrev sIntegers : Stmt := topS 34
abbrev sProduct : Stmt := topS 53
abbrev sPower : Stmt := topS 9
abbrev sModulus : Stmt := topS 19
theorem scIntegers : FnScope ["value", "least", "most", "part"] ["value", "least", "most"] (defScope sIntegers) := ⟨rfl, rfl, rfl, by decide +kernel, rfl, by decide +kernel, by decide +kernel⟩
theorem scProduct : FnScope ["numbers", "result", "number"] ["numbers"] (defScope sProduct) := ⟨rfl, rfl, rfl, by decide +kernel, rfl, by decide +kernel, by decide +kernel⟩
theorem scPower : FnScope ["base", "exponent", "result", "_"] ["base", "exponent"] (defScope sPower) := ⟨rfl, rfl, rfl, by decide +kernel, rfl, by decide +kernel, by decide +kernel⟩
theorem scModulus : FnScope ["test"] ["test"] (defScope sModulus) := ⟨rfl, rfl, rfl, by decide +kernel, rfl, by decide +kernel, by decide +kernel⟩
def areInts (d : PyData) (lo hi : Int) : Bool := match d with
  | .list ds => decide (lo ≤ ds.length) && decide ((ds.length : Int) ≤ hi) && ds.all isParam
  | _ => false
section
variable {P : Program} {w : World} {K : PySem.W.Frag} {mg : Str → Option Value} {base : Heap}
/-! ### are_integers -/
def spInts (K : PySem.W.Frag) : Sp := fun vs H Q _ => ∃ x d lo hi, vs = [x, .int lo, .int hi] ∧ Dv K H x d ∧ ∀ H', Same H H' → Q (.bl (areInts d lo hi)) H'
theorem ok_integers (B : Blt mg) (G : DefOk P w K mg base CX0 3 "is_parameter" ["value"] (spParameter K)) (D : Dfn K mg "are_integers" sIntegers ["value", "least", "most"]) : DefOk P w K mg base CX0 4 "are_integers" ["value", "least", "most"] (spInts K) := D.ok fun f fd F => by
  refine F.ok scIntegers (fun vs H Q E h => ?_) (fun cdv A outer s H vs Q E hr h => ?_)
  · obtain ⟨x, d, lo, hi, rfl, _⟩ := h
    rfl
  · obtain ⟨x, d, lo, hi, rfl, hx, q⟩ := h
    refine ⟨_, pss_cons (ps_if (PW.pt (pw_or (pt_not (pt_val (pe_isi B.isi (pa_cons (pv 0) (pa_cons (pe_cls (n := "list") "list" B.list) pa_nil)))))
        (pw_or1 (pt_not (pt_chain op_le op_le (pv 1) (pe_callB call_len_seq (by rfl) B.len PySem.boot_len (pa_cons (pv 0) pa_nil)) (pv 2)))))) (pss_one (ps_ret pe_bl)) pss_nil)
      (pss_one (ps_ret (pe_callB (cr_all rfl) (by rfl) B.all (by decide +kernel) (pa_cons
          (pe_lc (own := [("part", 3)]) (g := gName 3) (tt := tYes) rfl scIntegers.nd (pi_list (pv 0)) (blkOk_by (N := ["value", "least", "most", "part"]) (sc := defScope sIntegers) (by decide +kernel))
            (fun _ _ _ _ _ => pg_name (i := 3) scIntegers.nd rfl (Or.inl rfl)) (fun _ _ _ _ _ => pts_nil)
            (fun _ _ _ _ _ => pe_def G hr pass0 (pa_cons (pv 3) pa_nil))) pa_nil)))), ?_⟩
    refine ⟨x, rfl, _, _, _, _, _, rfl, .ty "list", hx.ty, kit_ty (isa_list d), _, rfl, ?_⟩
    cases hd : isList d with
    | false =>
      have z : areInts d lo hi = false := by
        cases d <;> first | rfl | cases hd
      rw [z] at q
      exact q _ (Same.refl _)
    | true =>
      cases hx with
      | @lst a xs ds ha hzz hds =>
        have hl := hds.length
        refine ⟨_, rfl, .ref a, rfl, a, xs, rfl, .inl (SqL.of ha), _, _, rfl, rfl, _, rfl, ite2 (fun e1 => ?_) (fun e1 => ?_)⟩
        · refine ⟨_, rfl, _, _, rfl, rfl, _, rfl, ?_⟩
          cases e2 : decide ((xs.length : Int) ≤ hi) with
          | false =>
            have z1 : areInts (.list ds) lo hi = false := by
              show (_ && _ && _) = false
              rw [← hl, e2, Bool.and_false, Bool.false_and]
            rw [z1] at q
            exact q _ (Same.refl _)
          | true =>
            refine ⟨.ref a, rfl, a, rfl, ⟨_, SqL.of ha⟩, fun D1 nD1 => ?_⟩
            refine lc_mapW (ys := ds.map fun e => V.bl (isParam e)) walk_list nD1 (by rw [List.length_map, hl]) (Nat.lt_of_le_of_lt hzz (by decide)) (fun H s => SqL.of (s _ _ ha)) (fun i v y H' H'' Q' hi e3 sm yv k => ?_) (fun H2 s2 eD => ?_)
            · obtain ⟨rfl, hv⟩ := yv
              obtain ⟨e, e4, e5⟩ := (hds.same sm).getV hv
              rw [List.getElem?_map, e4] at e3
              cases e3
              exact ⟨rfl, v, rfl, v, e, rfl, e5, k _ (Same.refl _)⟩
            · refine ⟨D1, ds.map isParam, rfl, SqL.of (by rw [eD, List.map_map]; rfl), ?_⟩
              rw [all_id]
              have z3 : areInts (.list ds) lo hi = ds.all isParam := by
                show (_ && _ && _) = _
                rw [← hl, e1, e2]
                rfl
              rw [z3] at q
              exact q _ s2
        · have z1 : areInts (.list ds) lo hi = false := by
            show (_ && _ && _) = false
            rw [← hl, Bool.eq_false_iff.mpr e1, Bool.false_and, Bool.false_and]
          rw [z1] at q
          exact ⟨_, rfl, q _ (Same.refl _)⟩
      | _ => cases hd
/-! ### product_of -/
def prodI (ns : List Int) : Int := ns.foldl (fun a b => a * b) 1
def spProd (K : PySem.W.Frag) : Sp := fun vs H Q _ => ∃ (a : Addr) (ns : List Int), vs = [.ref a] ∧ SqL K H a (ns.map V.int) ∧ (∀ n ∈ ns, -(2 ^ 64) < n ∧ n < 2 ^ 64) ∧ Q (.int (prodI ns)) H
theorem ok_product (D : Dfn K mg "product_of" sProduct ["numbers"]) : DefOk P w K mg base CX0 1 "product_of" ["numbers"] (spProd K) := D.ok fun f fd F => by
  refine F.ok scProduct (fun vs H Q E h => ?_) (fun cdv A outer s H vs Q E hr h => ?_)
  · obtain ⟨a, ns, rfl, _⟩ := h
    rfl
  · obtain ⟨a, ns, rfl, ha, hb, q⟩ := h
    refine ⟨_, pss_cons (ps_set (i := 1) scProduct.nd rfl (.inl rfl) pe_int)
      (pss_cons (ps_for PassesOwn.never rfl (pi_list (pv 0)) (pg_name (i := 2) scProduct.nd rfl (Or.inl rfl)) (pss_one (ps_set (i := 1) scProduct.nd rfl (.inl rfl) (pe_op op_mul (pv 1) (pv 2)))))
      (pss_one (ps_ret (pv 1)))), ?_⟩
    refine ⟨_, rfl, a, rfl, ⟨_, ha⟩, ?_⟩
    refine for_it walk_list (fun i σ H' => ∃ z, σ = [some (.ref a), some (.int (prodI (ns.take i))), z] ∧ H' = H) ⟨none, rfl, rfl⟩ (fun i σ H' hi p => by obtain ⟨z, rfl, rfl⟩ := p; exact ha) (fun i x σ H' H'' hi p y => ?_) (fun σ H' p => ?_)
    · obtain ⟨z, rfl, rfl⟩ := p
      obtain ⟨rfl, hv⟩ := y
      rw [List.getElem?_map] at hv
      obtain ⟨n, hn, rfl⟩ := Option.map_eq_some_iff.mp hv
      refine ⟨_, rfl, _, rfl, _, _, rfl, rfl, .inr (hb n (List.mem_of_getElem? hn)), some (.int n), ?_, rfl⟩
      rw [List.take_add_one, hn]
      show _ = [_, some (V.int (prodI (ns.take i ++ [n]))), _]
      unfold prodI
      rw [List.foldl_append]
      rfl
    · obtain ⟨z, rfl, rfl⟩ := p
      refine ⟨_, rfl, ?_⟩
      rw [List.length_map, List.take_length]
      exact q
/-! ### power -/
def powI (b : Int) : Nat → Int
  | 0 => 1
  | n + 1 => powI b n * b
def spPower (K : PySem.W.Frag) : Sp := fun vs H Q _ => ∃ (b e : Int), vs = [.int b, .int e] ∧ 0 ≤ e ∧ e < 2 ^ 62 ∧ -(2 ^ 64) < b ∧ b < 2 ^ 64 ∧ Q (.int (powI b e.toNat)) H
theorem ok_power (B : Blt mg) (D : Dfn K mg "power" sPower ["base", "exponent"]) : DefOk P w K mg base CX0 1 "power" ["base", "exponent"] (spPower K) := D.ok fun f fd F => by
  refine F.ok scPower (fun vs H Q E h => ?_) (fun cdv A outer s H vs Q E hr h => ?_)
  · obtain ⟨b, e, rfl, _⟩ := h
    rfl
  · obtain ⟨b, e, rfl, h0, h1, h2, h3, q⟩ := h
    refine ⟨_, pss_cons (ps_set (i := 2) scPower.nd rfl (.inl rfl) pe_int)
      (pss_cons (ps_for PassesOwn.never rfl (pi_range1 rfl B.range (pa_cons (pv 1) pa_nil)) (pg_name (i := 3) scPower.nd rfl (Or.inl rfl)) (pss_one (ps_set (i := 2) scPower.nd rfl (.inl rfl) (pe_op op_mul (pv 2) (pv 0)))))
      (pss_one (ps_ret (pv 2)))), ?_⟩
    refine ⟨_, rfl, e, rfl, by omega, h1, ?_⟩
    refine for_range (n := e.toNat) (fun i σ H' => ∃ z, σ = [some (.int b), some (.int e), some (.int (powI b i)), z] ∧ H' = H) ⟨none, rfl, rfl⟩ (fun i σ H' hi p => ?_) (fun σ H' p => ?_)
    · obtain ⟨z, rfl, rfl⟩ := p
      exact ⟨_, rfl, _, rfl, _, _, rfl, rfl, .inr ⟨h2, h3⟩, _, rfl, rfl⟩
    · obtain ⟨z, rfl, rfl⟩ := p
      exact ⟨_, rfl, q⟩
/-! ### modulus_of -/
def modOf : Tst → Int
  | .neg t => modOf t
  | .md m _ => m
  | _ => 1
def spModulus (K : PySem.W.Frag) (n : Nat) : Sp := fun vs H Q _ => ∃ (x : V) (t : Tst), vs = [x] ∧ Dv K H x t.dat ∧ t.nots < n ∧ Q (.int (modOf t)) H
theorem ok_modulus (D : Dfn K mg "modulus_of" sModulus ["test"]) : ∀ n : Nat, DefOk P w K mg base CX0 n "modulus_of" ["test"] (spModulus K n)
  | 0 => D.ok fun f fd F => ⟨fun vs H Q E h => (by obtain ⟨_, _, _, _, z, _⟩ := h; exact absurd z (Nat.not_lt_zero _)), fun A outer s H args us vs Q E hr e0 hb hv h => (by obtain ⟨_, _, _, _, z, _⟩ := h; exact absurd z (Nat.not_lt_zero _))⟩
  | n + 1 => by
    have G := ok_modulus D n
    refine D.ok fun f fd F => ?_
    refine F.ok scModulus (fun vs H Q E h => ?_) (fun cdv A outer s H vs Q E hr h => ?_)
    · obtain ⟨x, t, rfl, _⟩ := h
      rfl
    · obtain ⟨x, t, rfl, hx, hn, q⟩ := h
      refine ⟨_, pss_cons (ps_if (pt_cmpR op_eq (pe_ix ix_tup (pv 0) pe_int (fun _ _ => rfl)) pe_str (nomark _)) (pss_one (ps_ret (pe_def G hr pass0 (pa_cons (pe_ix ix_tup (pv 0) pe_int (fun _ _ => rfl)) pa_nil) (Nat.le_refl _)))) pss_nil)
        (pss_cons (ps_if (pt_cmpR op_eq (pe_ix ix_tup (pv 0) pe_int (fun _ _ => rfl)) pe_str (nomark _)) (pss_one (ps_ret (pe_ix ix_tup (pv 0) pe_int (fun _ _ => rfl)))) pss_nil)
        (pss_one (ps_ret pe_int))), ?_⟩
      cases t with
      | neg t =>
        cases hx with
        | @tup a xs ds ha hz hds =>
          cases hds with
          | cons h1 h2 =>
            cases h1
            cases h2 with
            | cons h2 h3 =>
              cases h3
              refine ⟨.ref a, rfl, a, _, _, _, rfl, rfl, SqT.of ha, atI_nat (j := 0) rfl, rfl, _, rfl, ?_⟩
              exact ⟨.ref a, rfl, a, _, _, _, rfl, rfl, SqT.of ha, atI_nat (j := 1) rfl, _, t, rfl, h2, Nat.lt_of_succ_lt_succ hn, q⟩
      | lt v =>
        cases hx with
        | @tup a xs ds ha hz hds =>
          cases hds with
          | cons h1 h2 =>
            cases h1
            refine ⟨.ref a, rfl, a, _, _, _, rfl, rfl, SqT.of ha, atI_nat (j := 0) rfl, rfl, _, rfl, ?_⟩
            exact ⟨.ref a, rfl, a, _, _, _, rfl, rfl, SqT.of ha, atI_nat (j := 0) rfl, rfl, _, rfl, q⟩
      | ge v =>
        cases hx with
        | @tup a xs ds ha hz hds =>
          cases hds with
          | cons h1 h2 =>
            cases h1
            refine ⟨.ref a, rfl, a, _, _, _, rfl, rfl, SqT.of ha, atI_nat (j := 0) rfl, rfl, _, rfl, ?_⟩
            exact ⟨.ref a, rfl, a, _, _, _, rfl, rfl, SqT.of ha, atI_nat (j := 0) rfl, rfl, _, rfl, q⟩
      | md m rs =>
        cases hx with
        | @tup a xs ds ha hz hds =>
          cases hds with
          | cons h1 h2 =>
            cases h1
            cases h2 with
            | cons h2 h3 =>
              cases h2
              refine ⟨.ref a, rfl, a, _, _, _, rfl, rfl, SqT.of ha, atI_nat (j := 0) rfl, rfl, _, rfl, ?_⟩
              refine ⟨.ref a, rfl, a, _, _, _, rfl, rfl, SqT.of ha, atI_nat (j := 0) rfl, rfl, _, rfl, ?_⟩
              exact ⟨.ref a, rfl, a, _, _, _, rfl, rfl, SqT.of ha, atI_nat (j := 1) rfl, q⟩
end
end Pw
set_option maxHeartbeats 200000
/-! tables of the module; kinds, sorts, inputs -/
namespace Pw
open PySem PySem.Spec PyProof.Rows L2
/-! ### a table of the module: words to tuples -/
def TupK (K : PySem.W.Frag) (p : Addr) (xs : List V) : Prop :=
  ∃ (o : Obj) (its : Array Value) (n : Nat), K.lookup p = some o ∧ o.cls = .type "tuple" ∧ o.data = .seq its n ∧ its.size ≤ sizeLine ∧ Vals xs its.toList
theorem TupK.seq {K : PySem.W.Frag} {p : Addr} {xs : List V} (h : TupK K p xs) (H : Hp) : SqT K H p xs := .inr h
structure KTab (K : PySem.W.Frag) (w : World) (d : Addr) (T : Str → Option (List V)) : Prop where
  dict : ∃ es n, KDict K w d es n
  no : ∀ z, T z = none → PySem.W.nsIn K d z = some none
  yes : ∀ z xs, T z = some xs → ∃ p, PySem.W.nsIn K d z = some (some (.ref p)) ∧ TupK K p xs
section
variable {X : Cx} {d : Addr} {T : Str → Option (List V)}
theorem op_inTab (D : KTab X.K X.w d T) : OpR X (compareOp .In) (fun x y H Q => ∃ z, x = .str z ∧ y = .ref d ∧ Q (.bl (T z).isSome) H) := by
  obtain ⟨es, n, D'⟩ := D.dict
  intro pins s σ H x y u v Q I rx ry h
  obtain ⟨z, rfl, rfl, q⟩ := h
  refine op_in_kd D' pins s σ H _ _ u v Q I rx ry ?_
  cases e : T z with
  | none =>
    rw [e] at q
    exact ⟨z, none, rfl, rfl, D.no z e, q⟩
  | some xs =>
    rw [e] at q
    obtain ⟨p, e1, _⟩ := D.yes z xs e
    exact ⟨z, _, rfl, rfl, e1, q⟩
theorem ix_tab (D : KTab X.K X.w d T) : IxR X (fun x y H Q => ∃ z xs, x = .ref d ∧ y = .str z ∧ T z = some xs ∧ ∀ p, TupK X.K p xs → Q (.ref p) H) := by
  obtain ⟨es, n, D'⟩ := D.dict
  intro value slice pins s σ H x y v u Q I rx ry h hs
  obtain ⟨z, xs, rfl, rfl, e, q⟩ := h
  obtain ⟨p, e1, e2⟩ := D.yes z xs e
  exact ix_kdict value slice pins s σ H _ _ v u Q I rx ry ⟨d, z, .ref p, rfl, rfl, ⟨es, n, .ref p, D'.at_, D'.lit, e1, rfl⟩, q p e2⟩ hs
end
/-! ### the tables as the program writes them -/
def ranges : List (Str × Int × Int) := [("integer", -(10 ^ 30), 10 ^ 30), ("from 0", 0, 10 ^ 30), ("from 1", 1, 10 ^ 30), ("1 to 50", 1, 50), ("0 to 20", 0, 20)]
def lengths : List (Str × Int × Int) := [("integers", 0, 100), ("some integers", 1, 100)]
def choices : List (Str × List Str) := [("batch how", ["first", "last", "many", "sum"]), ("batch rest", ["give", "lose"]), ("calm word", ["stop", "skip"]), ("zip how", ["first", "last", "sum"])]
def kindsL : List (Str × List Str) := [("count", ["integer", "integer"]), ("span", ["integer", "integer", "from 0"]), ("ring", ["some integers"]), ("row", ["integers"]), ("scale", ["integer", "integer"]), ("table", ["some integers"]), ("keep", ["test"]), ("until", ["test"]), ("after", ["test"]), ("take", ["from 0"]), ("drop", ["from 0"]), ("step", ["from 1"]), ("batch", ["from 1", "batch how", "batch rest"]), ("pairs", []), ("heads", []), ("lengths", []), ("stutter", ["1 to 50"]), ("ahead", ["0 to 20"]), ("fault", ["from 0", "name"]), ("dying", []), ("calm", ["calm word"]), ("closing", ["name"]), ("split", []), ("chain", []), ("zip", ["zip how"]), ("longest", ["integer", "zip how"]), ("turns", []), ("choose", [])]
def twoT (l : List (Str × Int × Int)) (z : Str) : Option (List V) := (l.lookup z).map fun r => [.int r.1, .int r.2]
def wordT (l : List (Str × List Str)) (z : Str) : Option (List V) := (l.lookup z).map fun ws => ws.map V.str
abbrev sKind : Stmt := topS 31
abbrev sSort : Stmt := topS 33
theorem scKind : FnScope ["value"] ["value"] (defScope sKind) := ⟨rfl, rfl, rfl, by decide +kernel, rfl, by decide +kernel, by decide +kernel⟩
theorem scSort : FnScope ["sort", "value", "low", "high", "least", "most"] ["sort", "value"] (defScope sSort) := ⟨rfl, rfl, rfl, by decide +kernel, rfl, by decide +kernel, by decide +kernel⟩
def isKind : PyData → Bool
  | .str z => (kindsL.lookup z).isSome
  | _ => false
def ofSort (z : Str) (d : PyData) : Bool := match ranges.lookup z with
  | some r => between d r.1 r.2
  | none => match lengths.lookup z with
    | some r => areInts d r.1 r.2
    | none => match choices.lookup z with
      | some ws => oneOf d ws
      | none => if z = "test" then isTest d else isName d
section
variable {P : Program} {w : World} {K : PySem.W.Frag} {mg : Str → Option Value} {base : Heap} {dP dR dL dC : Addr}
/-- where the module keeps its tables -/
structure Tables (K : PySem.W.Frag) (w : World) (mg : Str → Option Value) (dP dR dL dC : Addr) : Prop where
  gP : mg "PARAMETERS" = some (.ref dP)
  gR : mg "RANGES" = some (.ref dR)
  gL : mg "LENGTHS" = some (.ref dL)
  gC : mg "CHOICES" = some (.ref dC)
  tP : KTab K w dP (wordT kindsL)
  tR : KTab K w dR (twoT ranges)
  tL : KTab K w dL (twoT lengths)
  tC : KTab K w dC (wordT choices)
/-! ### is_kind -/
def spKind (K : PySem.W.Frag) : Sp := fun vs H Q _ => ∃ x d, vs = [x] ∧ Dv K H x d ∧ Q (.bl (isKind d)) H
theorem ok_kind (B : Blt mg) (T : Tables K w mg dP dR dL dC) (D : Dfn K mg "is_kind" sKind ["value"]) : DefOk P w K mg base CX0 1 "is_kind" ["value"] (spKind K) := D.ok fun f fd F => by
  refine F.ok scKind (fun vs H Q E h => ?_) (fun cdv A outer s H vs Q E hr h => ?_)
  · obtain ⟨x, d, rfl, _⟩ := h
    rfl
  · obtain ⟨x, d, rfl, hx, q⟩ := h
    refine ⟨_, pss_one (ps_ret (pe_and (pe_isi B.isi (pa_cons (pv 0) (pa_cons (pe_cls (n := "str") "str" B.str) pa_nil))) (pe_one (pe_cmpR (op_inTab T.tP) (pv 0) (pe_glob (v := .ref dP) rfl T.gP rfl) (by rfl))))), ?_⟩
    refine ⟨x, rfl, _, _, _, _, _, rfl, .ty "str", hx.ty, kit_ty (isa_str d), _, rfl, ite2 (fun e => ?_) (fun e => ?_)⟩
    · cases hx with
      | str s =>
        refine ⟨_, rfl, s, rfl, rfl, ?_⟩
        refine Qb ?_ q
        show (Option.map _ _).isSome = (List.lookup s kindsL).isSome
        rw [Option.isSome_map]
      | _ => cases e
    · have e2 : false = isKind d := by
        cases d <;> first | rfl | exact absurd rfl e
      exact Qb e2 q
/-! ### is_of_sort -/
def spSort (K : PySem.W.Frag) : Sp := fun vs H Q _ => ∃ z x d, vs = [.str z, x] ∧ Dv K H x d ∧ (∀ s, d = .str s → s.length ≤ 1000) ∧ ∀ H', Same H H' → Q (.bl (ofSort z d)) H'
theorem ok_sort (B : Blt mg) (T : Tables K w mg dP dR dL dC) (G1 : DefOk P w K mg base CX0 2 "is_between" ["value", "low", "high"] (spBetween K)) (G2 : DefOk P w K mg base CX0 4 "are_integers" ["value", "least", "most"] (spInts K)) (G3 : DefOk P w K mg base CX0 1 "is_one_of" ["value", "words"] (spOneOf K))
    (G4 : DefOk P w K mg base CX0 5 "is_test" ["value"] (spTest K)) (G5 : DefOk P w K mg base CX0 1 "is_name" ["value"] (spName K))
    (D : Dfn K mg "is_of_sort" sSort ["sort", "value"]) : DefOk P w K mg base CX0 6 "is_of_sort" ["sort", "value"] (spSort K) := D.ok fun f fd F => by
  refine F.ok scSort (fun vs H Q E h => ?_) (fun cdv A outer s H vs Q E hr h => ?_)
  · obtain ⟨z, x, d, rfl, _⟩ := h
    rfl
  · obtain ⟨z, x, d, rfl, hx, hs, q⟩ := h
    have nd := scSort.nd
    refine ⟨_, pss_cons (ps_if (pt_cmpR (op_inTab T.tR) (pv 0) (pe_glob (v := .ref dR) rfl T.gR rfl) (by rfl))
        (pss_cons (ps_asg (pe_ix (ix_tab T.tR) (pe_glob (v := .ref dR) rfl T.gR rfl) (pv 0) (fun _ _ => rfl)) (pg_tup rfl (pgs_cons (pg_name (i := 2) nd rfl (Or.inl rfl)) (pgs_cons (pg_name (i := 3) nd rfl (Or.inl rfl)) pgs_nil))))
          (pss_one (ps_ret (pe_def G1 hr pass0 (pa_cons (pv 1) (pa_cons (pv 2) (pa_cons (pv 3) pa_nil))))))) pss_nil)
      (pss_cons (ps_if (pt_cmpR (op_inTab T.tL) (pv 0) (pe_glob (v := .ref dL) rfl T.gL rfl) (by rfl))
        (pss_cons (ps_asg (pe_ix (ix_tab T.tL) (pe_glob (v := .ref dL) rfl T.gL rfl) (pv 0) (fun _ _ => rfl)) (pg_tup rfl (pgs_cons (pg_name (i := 4) nd rfl (Or.inl rfl)) (pgs_cons (pg_name (i := 5) nd rfl (Or.inl rfl)) pgs_nil))))
          (pss_one (ps_ret (pe_def G2 hr pass0 (pa_cons (pv 1) (pa_cons (pv 4) (pa_cons (pv 5) pa_nil))))))) pss_nil)
      (pss_cons (ps_if (pt_cmpR (op_inTab T.tC) (pv 0) (pe_glob (v := .ref dC) rfl T.gC rfl) (by rfl))
        (pss_one (ps_ret (pe_def G3 hr pass0 (pa_cons (pv 1) (pa_cons (pe_ix (ix_tab T.tC) (pe_glob (v := .ref dC) rfl T.gC rfl) (pv 0) (fun _ _ => rfl)) pa_nil))))) pss_nil)
      (pss_cons (ps_if (pt_cmpR op_eq (pv 0) pe_str (nomark _)) (pss_one (ps_ret (pe_def G4 hr pass0 (pa_cons (pv 1) pa_nil)))) pss_nil)
      (pss_one (ps_ret (pe_def G5 hr pass0 (pa_cons (pv 1) pa_nil))))))), ?_⟩
    refine ⟨_, rfl, z, rfl, rfl, _, rfl, ?_⟩
    cases e1 : ranges.lookup z with
    | some r =>
      have t1 : twoT ranges z = some [.int r.1, .int r.2] := by
        unfold twoT
        rw [e1]
        rfl
      have o : ofSort z d = between d r.1 r.2 := by
        unfold ofSort
        rw [e1]
      rw [t1]
      rw [o] at q
      refine ⟨_, rfl, z, _, rfl, rfl, t1, fun p tp => ?_⟩
      refine ⟨p, _, rfl, tp.seq H, rfl, _, _, rfl, _, _, rfl, rfl, ?_⟩
      exact ⟨x, rfl, _, rfl, _, rfl, x, d, r.1, r.2, rfl, hx, q _ (Same.refl _)⟩
    | none =>
      have t1 : twoT ranges z = none := by
        unfold twoT
        rw [e1]
        rfl
      rw [t1]
      refine ⟨_, rfl, z, rfl, rfl, _, rfl, ?_⟩
      cases e2 : lengths.lookup z with
      | some r =>
        have t2 : twoT lengths z = some [.int r.1, .int r.2] := by
          unfold twoT
          rw [e2]
          rfl
        have o : ofSort z d = areInts d r.1 r.2 := by
          unfold ofSort
          rw [e1]
          dsimp only
          rw [e2]
        rw [t2]
        rw [o] at q
        refine ⟨_, rfl, z, _, rfl, rfl, t2, fun p tp => ?_⟩
        refine ⟨p, _, rfl, tp.seq H, rfl, _, _, rfl, _, _, rfl, rfl, ?_⟩
        exact ⟨x, rfl, _, rfl, _, rfl, x, d, r.1, r.2, rfl, hx, q⟩
      | none =>
        have t2 : twoT lengths z = none := by
          unfold twoT
          rw [e2]
          rfl
        rw [t2]
        refine ⟨_, rfl, z, rfl, rfl, _, rfl, ?_⟩
        cases e3 : choices.lookup z with
        | some ws =>
          have t3 : wordT choices z = some (ws.map V.str) := by
            unfold wordT
            rw [e3]
            rfl
          have o : ofSort z d = oneOf d ws := by
            unfold ofSort
            rw [e1]
            dsimp only
            rw [e2]
            dsimp only
            rw [e3]
          rw [t3]
          rw [o] at q
          exact ⟨x, rfl, _, rfl, z, _, rfl, rfl, t3, fun p tp => ⟨x, d, p, ws, rfl, hx, tp.seq H, q _ (Same.refl _)⟩⟩
        | none =>
          have t3 : wordT choices z = none := by
            unfold wordT
            rw [e3]
            rfl
          have o : ofSort z d = if z = "test" then isTest d else isName d := by
            unfold ofSort
            rw [e1]
            dsimp only
            rw [e2]
            dsimp only
            rw [e3]
          rw [t3]
          rw [o] at q
          refine ⟨_, rfl, rfl, _, rfl, ite2 (fun e4 => ?_) (fun e4 => ?_)⟩
          · have e5 : z = "test" := by
              have z1 : V.str z = V.str "test" := of_decide_eq_true e4
              injection z1
            rw [if_pos e5] at q
            exact ⟨x, rfl, x, d, rfl, hx, q⟩
          · have e5 : ¬ z = "test" := fun z1 => e4 (decide_eq_true (congrArg V.str z1))
            rw [if_neg e5] at q
            exact ⟨x, rfl, x, d, rfl, hx, hs, q⟩
end
end Pw
set_option maxHeartbeats 200000
/-! inputs and parameters of a node -/
namespace Pw
open PySem PySem.Spec PyProof.Rows L2
abbrev sInRange : Stmt := topS 36
abbrev sInputs : Stmt := topS 35
abbrev sParams : Stmt := topS 32
abbrev sNode : Stmt := topS 30
theorem scInRange : FnScope ["kind"] ["kind"] (defScope sInRange) := ⟨rfl, rfl, rfl, by decide +kernel, rfl, by decide +kernel, by decide +kernel⟩
theorem scInputs : FnScope ["kind", "value", "least", "most", "part"] ["kind", "value"] (defScope sInputs) := ⟨rfl, rfl, rfl, by decide +kernel, rfl, by decide +kernel, by decide +kernel⟩
theorem scParams : FnScope ["kind", "value", "sorts", "sort", "part"] ["kind", "value"] (defScope sParams) := ⟨rfl, rfl, rfl, by decide +kernel, rfl, by decide +kernel, by decide +kernel⟩
theorem scNode : FnScope ["value", "name", "kind", "parameters", "inputs"] ["value"] (defScope sNode) := ⟨rfl, rfl, rfl, by decide +kernel, rfl, by decide +kernel, by decide +kernel⟩
/-! ### texts that are not too long -/
mutual
def smB : PyData → Bool
  | .str s => decide (s.length ≤ 1000)
  | .list ds => smAll ds
  | .tuple ds => smAll ds
  | _ => true
def smAll : List PyData → Bool
  | [] => true
  | d :: ds => smB d && smAll ds
end
theorem sm_mem : ∀ {ds : List PyData}, smAll ds = true → ∀ d ∈ ds, smB d = true
  | d :: ds, h, e, he => by
    have h' : (smB d && smAll ds) = true := by
      rw [← h, smAll]
    rw [Bool.and_eq_true] at h'
    cases he with
    | head => exact h'.1
    | tail _ t => exact sm_mem h'.2 e t
theorem sm_str {s : Str} (h : smB (.str s) = true) : s.length ≤ 1000 := of_decide_eq_true (by rw [← h, smB])
theorem sm_word {d : PyData} (h : smB d = true) : ∀ s, d = .str s → s.length ≤ 1000 := fun s e => by
  subst e
  exact sm_str h
def sources : List Str := ["count", "span", "ring", "row"]
def joins : List Str := ["chain", "zip", "longest", "turns", "choose"]
def inRange (z : Str) : Int × Int := if z ∈ sources then (0, 0) else if z = "choose" then (2, 10) else if z ∈ joins then (1, 10) else (1, 1)
def areInputs (z : Str) (d : PyData) : Bool := match d with
  | .list ds => decide ((inRange z).1 ≤ ds.length) && decide ((ds.length : Int) ≤ (inRange z).2) && ds.all isName
  | _ => false
section
variable {P : Program} {w : World} {K : PySem.W.Frag} {mg : Str → Option Value} {base : Heap} {pS pJ : Addr}
structure Words (K : PySem.W.Frag) (mg : Str → Option Value) (pS pJ : Addr) : Prop where
  gS : mg "SOURCES" = some (.ref pS)
  gJ : mg "JOINS" = some (.ref pJ)
  gI : ∃ t, mg "MOST_INPUTS" = some (.int 10 t)
  tS : TupK K pS (sources.map V.str)
  tJ : TupK K pJ (joins.map V.str)
/-! ### input_range -/
def spInRange (K : PySem.W.Frag) : Sp := fun vs H Q _ => ∃ z, vs = [.str z] ∧ ∀ p, H p = none → Q (.ref p) (upd H p (.tup [.int (inRange z).1, .int (inRange z).2]))
theorem ok_inRange (W : Words K mg pS pJ) (D : Dfn K mg "input_range" sInRange ["kind"]) : DefOk P w K mg base CX0 1 "input_range" ["kind"] (spInRange K) := D.ok fun f fd F => by
  obtain ⟨ti, gI⟩ := W.gI
  refine F.ok scInRange (fun vs H Q E h => ?_) (fun cdv A outer s H vs Q E hr h => ?_)
  · obtain ⟨z, rfl, _⟩ := h
    rfl
  · obtain ⟨z, rfl, q⟩ := h
    refine ⟨_, pss_cons (ps_if (pt_cmpR op_in_seq (pv 0) (pe_glob (v := .ref pS) rfl W.gS rfl) (by rfl)) (pss_one (ps_ret (pe_tup (pa_cons pe_int (pa_cons pe_int pa_nil))))) pss_nil)
      (pss_cons (ps_if (pt_cmpR op_eq (pv 0) pe_str (nomark _)) (pss_one (ps_ret (pe_tup (pa_cons pe_int (pa_cons (pe_glob (v := .int 10) rfl gI ⟨_, rfl⟩) pa_nil))))) pss_nil)
      (pss_cons (ps_if (pt_cmpR op_in_seq (pv 0) (pe_glob (v := .ref pJ) rfl W.gJ rfl) (by rfl)) (pss_one (ps_ret (pe_tup (pa_cons pe_int (pa_cons (pe_glob (v := .int 10) rfl gI ⟨_, rfl⟩) pa_nil))))) pss_nil)
      (pss_one (ps_ret (pe_tup (pa_cons pe_int (pa_cons pe_int pa_nil))))))), ?_⟩
    refine ⟨_, rfl, pS, _, rfl, .inr (W.tS.seq H), rfl, flat_strs _, _, rfl, ite2 (fun e => ?_) (fun e => ?_)⟩
    · have e1 : z ∈ sources := of_decide_eq_true ((in_strs z sources).symm.trans e)
      have o : inRange z = (0, 0) := by
        unfold inRange
        rw [if_pos e1]
      rw [o] at q
      exact ⟨by decide, q⟩
    · have e1 : ¬ z ∈ sources := fun m => e ((in_strs z sources).trans (decide_eq_true m))
      refine ⟨_, rfl, rfl, _, rfl, ite2 (fun e2 => ?_) (fun e2 => ?_)⟩
      · have e3 : z = "choose" := by
          have z1 : V.str z = V.str "choose" := of_decide_eq_true e2
          injection z1
        have o : inRange z = (2, 10) := by
          unfold inRange
          rw [if_neg e1, if_pos e3]
        rw [o] at q
        exact ⟨by decide, q⟩
      · have e3 : ¬ z = "choose" := fun z1 => e2 (decide_eq_true (congrArg V.str z1))
        refine ⟨_, rfl, pJ, _, rfl, .inr (W.tJ.seq H), rfl, flat_strs _, _, rfl, ite2 (fun e4 => ?_) (fun e4 => ?_)⟩
        · have e5 : z ∈ joins := of_decide_eq_true ((in_strs z joins).symm.trans e4)
          have o : inRange z = (1, 10) := by
            unfold inRange
            rw [if_neg e1, if_neg e3, if_pos e5]
          rw [o] at q
          exact ⟨by decide, q⟩
        · have e5 : ¬ z ∈ joins := fun m => e4 ((in_strs z joins).trans (decide_eq_true m))
          have o : inRange z = (1, 1) := by
            unfold inRange
            rw [if_neg e1, if_neg e3, if_neg e5]
          rw [o] at q
          exact ⟨by decide, q⟩
/-! ### are_inputs -/
def spInputs (K : PySem.W.Frag) : Sp := fun vs H Q _ => ∃ z x d, vs = [.str z, x] ∧ Dv K H x d ∧ smB d = true ∧ ∀ H', Same H H' → Q (.bl (areInputs z d)) H'
theorem ok_inputs (B : Blt mg) (G1 : DefOk P w K mg base CX0 1 "input_range" ["kind"] (spInRange K)) (G2 : DefOk P w K mg base CX0 1 "is_name" ["value"] (spName K)) (D : Dfn K mg "are_inputs" sInputs ["kind", "value"]) : DefOk P w K mg base CX0 2 "are_inputs" ["kind", "value"] (spInputs K) := D.ok fun f fd F => by
  refine F.ok scInputs (fun vs H Q E h => ?_) (fun cdv A outer s H vs Q E hr h => ?_)
  · obtain ⟨z, x, d, rfl, _⟩ := h
    rfl
  · obtain ⟨z, x, d, rfl, hx, hs, q⟩ := h
    have nd := scInputs.nd
    refine ⟨_, pss_cons (ps_asg (pe_def G1 hr pass0 (pa_cons (pv 0) pa_nil)) (pg_tup rfl (pgs_cons (pg_name (i := 2) nd rfl (Or.inl rfl)) (pgs_cons (pg_name (i := 3) nd rfl (Or.inl rfl)) pgs_nil))))
      (pss_cons (ps_if (PW.pt (pw_or (pt_not (pt_val (pe_isi B.isi (pa_cons (pv 1) (pa_cons (pe_cls (n := "list") "list" B.list) pa_nil)))))
        (pw_or1 (pt_not (pt_chain op_le op_le (pv 2) (pe_callB call_len_seq (by rfl) B.len PySem.boot_len (pa_cons (pv 1) pa_nil)) (pv 3)))))) (pss_one (ps_ret pe_bl)) pss_nil)
      (pss_one (ps_ret (pe_callB (cr_all rfl) (by rfl) B.all (by decide +kernel) (pa_cons
          (pe_lc (own := [("part", 4)]) (g := gName 4) (tt := tYes) rfl nd (pi_list (pv 1)) (blkOk_by (N := ["kind", "value", "least", "most", "part"]) (sc := defScope sInputs) (by decide +kernel))
            (fun _ _ _ _ _ => pg_name (i := 4) nd rfl (Or.inl rfl)) (fun _ _ _ _ _ => pts_nil)
            (fun _ _ _ _ _ => pe_def G2 hr pass0 (pa_cons (pv 4) pa_nil))) pa_nil))))), ?_⟩
    refine ⟨_, rfl, z, rfl, fun T nT => ?_⟩
    have sT : Same H (upd H T (.tup [.int (inRange z).1, .int (inRange z).2])) := same_upd nT
    refine ⟨T, _, rfl, SqT.of upd_same, rfl, _, _, rfl, _, _, rfl, rfl, ?_⟩
    have hx' := hx.same sT
    refine ⟨x, rfl, _, _, _, _, _, rfl, .ty "list", hx'.ty, kit_ty (isa_list d), _, rfl, ?_⟩
    cases hd : isList d with
    | false =>
      have z : areInputs z d = false := by
        cases d <;> first | rfl | cases hd
      rw [z] at q
      exact q _ sT
    | true =>
      cases hx' with
      | @lst a xs ds ha hzz hds =>
        have hl := hds.length
        refine ⟨_, rfl, .ref a, rfl, a, xs, rfl, .inl (SqL.of ha), _, _, rfl, rfl, _, rfl, ite2 (fun e1 => ?_) (fun e1 => ?_)⟩
        · refine ⟨_, rfl, _, _, rfl, rfl, _, rfl, ?_⟩
          cases e2 : decide ((xs.length : Int) ≤ (inRange z).2) with
          | false =>
            have z1 : areInputs z (.list ds) = false := by
              show (_ && _ && _) = false
              rw [← hl, e2, Bool.and_false, Bool.false_and]
            rw [z1] at q
            exact q _ sT
          | true =>
            refine ⟨.ref a, rfl, a, rfl, ⟨_, SqL.of ha⟩, fun D1 nD1 => ?_⟩
            refine lc_mapW (ys := ds.map fun e => V.bl (isName e)) walk_list nD1 (by rw [List.length_map, hl]) (Nat.lt_of_le_of_lt hzz (by decide)) (fun H s => SqL.of (s _ _ ha)) (fun i v y H' H'' Q' hi e3 sm yv k => ?_) (fun H2 s2 eD => ?_)
            · obtain ⟨rfl, hv⟩ := yv
              obtain ⟨e, e4, e5⟩ := (hds.same sm).getV hv
              rw [List.getElem?_map, e4] at e3
              cases e3
              have sme : smB e = true := sm_mem (ds := ds) (by rw [← hs, smB]) e (List.mem_of_getElem? e4)
              exact ⟨rfl, v, rfl, v, e, rfl, e5, sm_word sme, k⟩
            · refine ⟨D1, ds.map isName, rfl, SqL.of (by rw [eD, List.map_map]; rfl), ?_⟩
              rw [all_id]
              have z3 : areInputs z (.list ds) = ds.all isName := by
                show (_ && _ && _) = _
                rw [← hl, e1, e2]
                rfl
              rw [z3] at q
              exact q _ (sT.trans s2)
        · have z1 : areInputs z (.list ds) = false := by
            show (_ && _ && _) = false
            rw [← hl, Bool.eq_false_iff.mpr e1, Bool.false_and, Bool.false_and]
          rw [z1] at q
          exact ⟨_, rfl, q _ sT⟩
      | _ => cases hd
end
end Pw
set_option maxHeartbeats 200000
/-! parameters of a node; a node -/
namespace Pw
open PySem PySem.Spec PyProof.Rows L2 RZ
theorem walk_zipT {K : PySem.W.Frag} {a b : Addr} {xs ys : List V} {n : Nat} (hn : n = min xs.length ys.length) : Walk (ItzT K a b) n (fun H => SqT K H a xs ∧ SqT K H b ys) (YPair (fun i => xs[i]?) (fun i => ys[i]?)) := by
  subst hn
  refine ⟨fun i H hi q => ?_, fun H q => ⟨xs, ys, q.1, q.2, by omega⟩, fun i H v H' hi q y => ?_⟩
  · have e1 : i < xs.length := by omega
    have e2 : i < ys.length := by omega
    exact ⟨xs, ys, xs[i], ys[i], q.1, q.2, List.getElem?_eq_getElem e1, List.getElem?_eq_getElem e2⟩
  · obtain ⟨T, u, v', rfl, nT, rfl, f1, f2⟩ := y
    exact ⟨T, u, v', rfl, nT, rfl, f1 xs q.1, f2 ys q.2⟩
def batchOk (z : Str) (ds : List PyData) : Bool := !decide (z = "batch") || (match ds with
  | .int n :: .str s :: _ => !decide (s = "sum") || decide (n ≤ 50)
  | _ => true)
def fits (ws : List Str) (ds : List PyData) : Bool := (ws.zip ds).all fun p => ofSort p.1 p.2
def areParams (z : Str) (d : PyData) : Bool := match kindsL.lookup z, d with
  | some ws, .tuple ds => decide (ds.length = ws.length) && (fits ws ds && batchOk z ds)
  | _, _ => false
theorem int_of {d : PyData} {lo hi : Int} (h : between d lo hi = true) : ∃ n, d = .int n := by
  cases d <;> first | exact ⟨_, rfl⟩ | cases h
theorem str_of {d : PyData} {ws : List Str} (h : oneOf d ws = true) : ∃ s, d = .str s := by
  cases d <;> first | exact ⟨_, rfl⟩ | cases h
theorem batch_shape {ds : List PyData} (hl : ds.length = 3) (h : fits ["from 1", "batch how", "batch rest"] ds = true) : ∃ n s e, ds = [.int n, .str s, e] := by
  match ds, hl with
  | [a, b, c], _ =>
    have h' : (ofSort "from 1" a && (ofSort "batch how" b && (ofSort "batch rest" c && true))) = true := h
    rw [Bool.and_eq_true, Bool.and_eq_true] at h'
    obtain ⟨h1, h2, _⟩ := h'
    obtain ⟨n, rfl⟩ := int_of (d := a) (lo := 1) (hi := 10 ^ 30) h1
    obtain ⟨s, rfl⟩ := str_of (d := b) (ws := ["first", "last", "many", "sum"]) h2
    exact ⟨n, s, c, rfl⟩
section
variable {P : Program} {w : World} {K : PySem.W.Frag} {mg : Str → Option Value} {base : Heap} {dP dR dL dC : Addr}
def spParams (K : PySem.W.Frag) : Sp := fun vs H Q _ => ∃ z x d ws, vs = [.str z, x] ∧ Dv K H x d ∧ smB d = true ∧ kindsL.lookup z = some ws ∧ ∀ H', Same H H' → Q (.bl (areParams z d)) H'
theorem ok_params (B : Blt mg) (T : Tables K w mg dP dR dL dC) {tm : Tok} (gM : mg "MOST_SUMMED" = some (.int 50 tm)) (G : DefOk P w K mg base CX0 6 "is_of_sort" ["sort", "value"] (spSort K))
    (D : Dfn K mg "are_parameters" sParams ["kind", "value"]) : DefOk P w K mg base CX0 7 "are_parameters" ["kind", "value"] (spParams K) := D.ok fun f fd F => by
  refine F.ok scParams (fun vs H Q E h => ?_) (fun cdv A outer s H vs Q E hr h => ?_)
  · obtain ⟨z, x, d, ws, rfl, _⟩ := h
    rfl
  · obtain ⟨z, x, d, ws, rfl, hx, hs, hk, q⟩ := h
    have nd := scParams.nd
    have t1 : wordT kindsL z = some (ws.map V.str) := by
      unfold wordT
      rw [hk]
      rfl
    refine ⟨_, pss_cons (ps_set (i := 2) nd rfl (.inl rfl) (pe_ix (ix_tab T.tP) (pe_glob (v := .ref dP) rfl T.gP rfl) (pv 0) (fun _ _ => rfl)))
      (pss_cons (ps_if (PW.pt (pw_or (pt_not (pt_val (pe_isi B.isi (pa_cons (pv 1) (pa_cons (pe_cls (n := "tuple") "tuple" B.tuple) pa_nil)))))
        (pw_or1 (pt_cmpR op_ne (pe_callB call_len_seq (by rfl) B.len PySem.boot_len (pa_cons (pv 1) pa_nil)) (pe_callB call_len_seq (by rfl) B.len PySem.boot_len (pa_cons (pv 2) pa_nil)) (nomark _))))) (pss_one (ps_ret pe_bl)) pss_nil)
      (pss_cons (ps_if (pt_not (pt_val (pe_callB (cr_all rfl) (by rfl) B.all (by decide +kernel) (pa_cons
          (pe_lc (own := [("sort", 3), ("part", 4)]) (g := gTup K 2 (gCons (gName 3) (gCons (gName 4) gNil))) (tt := tYes) rfl nd (pi_zipA (by rfl) B.zip (pa_cons (pv 2) (pa_cons (pv 1) pa_nil))) (blkOk_by (N := ["kind", "value", "sorts", "sort", "part"]) (sc := defScope sParams) (by decide +kernel))
            (fun _ _ _ _ _ => pg_tup rfl (pgs_cons (pg_name (i := 3) nd rfl (Or.inl rfl)) (pgs_cons (pg_name (i := 4) nd rfl (Or.inl rfl)) pgs_nil))) (fun _ _ _ _ _ => pts_nil)
            (fun _ _ _ _ _ => pe_def G hr pass0 (pa_cons (pv 3) (pa_cons (pv 4) pa_nil)))) pa_nil)))) (pss_one (ps_ret pe_bl)) pss_nil)
      (pss_one (ps_ret (pe_or (pe_cmpR op_ne (pv 0) pe_str (nomark _)) (pe_or (pe_cmpR op_ne (pe_ix ix_tup (pv 1) pe_int (fun _ _ => rfl)) pe_str (nomark _)) (pe_one (pe_cmpR op_le (pe_ix ix_tup (pv 1) pe_int (fun _ _ => rfl)) (pe_glob (v := .int 50) rfl gM ⟨_, rfl⟩) (nomark _))))))))), ?_⟩
    refine ⟨_, rfl, z, _, rfl, rfl, t1, fun p tp => ?_⟩
    refine ⟨x, rfl, _, _, _, _, _, rfl, .ty "tuple", hx.ty, kit_ty (isa_tuple d), _, rfl, ?_⟩
    cases hd : isTuple d with
    | false =>
      have z : areParams z d = false := by
        unfold areParams
        rw [hk]
        cases d <;> first | rfl | cases hd
      rw [z] at q
      exact q _ (Same.refl _)
    | true =>
      cases hx with
      | @tup a xs ds ha hzz hds =>
        have hl := hds.length
        refine ⟨.ref a, rfl, a, xs, rfl, .inr (SqT.of ha), .ref p, rfl, p, _, rfl, .inr (tp.seq H), rfl, _, rfl, ?_⟩
        have hap : areParams z (.tuple ds) = (decide (ds.length = ws.length) && (fits ws ds && batchOk z ds)) := by
          unfold areParams
          rw [hk]
        refine ite2 (fun e1 => ?_) (fun e1 => ?_)
        · have ne : ¬ ds.length = ws.length := fun e2 => by
            have e3 : V.int (xs.length : Nat) = V.int ((ws.map V.str).length : Nat) := by
              rw [hl, e2, List.length_map]
            rw [decide_eq_true e3] at e1
            cases e1
          rw [hap, decide_eq_false ne] at q
          exact q _ (Same.refl _)
        · have le : ds.length = ws.length := by
            have e3 : V.int (xs.length : Nat) = V.int ((ws.map V.str).length : Nat) := by
              by_cases e4 : V.int (xs.length : Nat) = V.int ((ws.map V.str).length : Nat)
              · exact e4
              · rw [decide_eq_false e4] at e1
                exact absurd rfl e1
            injection e3 with e3
            rw [List.length_map] at e3
            omega
          rw [hap, decide_eq_true le, Bool.true_and] at q
          refine ⟨.ref p, rfl, .ref a, rfl, p, a, _, _, rfl, .inr ⟨tp.seq H, SqT.of ha, fun D1 nD1 => ?_⟩⟩
          refine lc_mapW (n := ws.length) (ys := (ws.zip ds).map fun e => V.bl (ofSort e.1 e.2)) (walk_zipT (xs := ws.map V.str) (ys := xs) (by rw [List.length_map]; omega)) nD1 (by rw [List.length_map, List.length_zip]; omega) (Nat.lt_of_le_of_lt (by omega : ws.length ≤ 1000) (by decide)) (fun H s => ⟨tp.seq H, SqT.of (s _ _ ha)⟩) (fun i v y H' H'' Q' hi e3 sm yv k => ?_) (fun H2 s2 eD => ?_)
          · obtain ⟨T', x1, x2, rfl, nT, rfl, f1, f2⟩ := yv
            obtain ⟨e, e4, e5⟩ := (hds.same sm).getV f2
            have hi' : i < ws.length := hi
            have f3 : ws[i]? = some ws[i] := List.getElem?_eq_getElem hi'
            have f1 : (ws.map V.str)[i]? = some x1 := f1
            rw [List.getElem?_map, f3] at f1
            cases f1
            have f4 : (ws.zip ds)[i]? = some (ws[i], e) := by
              rw [List.getElem?_zip_eq_some]
              exact ⟨f3, e4⟩
            rw [List.getElem?_map, f4] at e3
            cases e3
            have sT := same_upd (o := .tup [V.str ws[i], x2]) nT
            have sme : smB e = true := sm_mem (ds := ds) (by rw [← hs, smB]) e (List.mem_of_getElem? e4)
            refine ⟨T', _, rfl, SqT.of upd_same, rfl, _, _, rfl, _, _, rfl, rfl, rfl, ?_⟩
            exact ⟨_, rfl, _, rfl, ws[i], x2, e, rfl, e5.same sT, sm_word sme, fun H4 s4 => k _ (sT.trans s4)⟩
          · refine ⟨D1, (ws.zip ds).map fun e => ofSort e.1 e.2, rfl, SqL.of (by rw [eD, List.map_map]; rfl), _, rfl, ?_⟩
            rw [all_id]
            show ite ((!fits ws ds) = true) _ _
            cases hf : fits ws ds with
            | false =>
              rw [hf, Bool.false_and] at q
              exact q _ s2
            | true =>
              rw [hf, Bool.true_and] at q
              refine ⟨_, rfl, rfl, _, rfl, ite2 (fun e5 => ?_) (fun e5 => ?_)⟩
              · have o : batchOk z ds = true := by
                  have e6 : ¬ z = "batch" := fun e7 => by
                    rw [decide_eq_true (congrArg V.str e7)] at e5
                    cases e5
                  unfold batchOk
                  rw [decide_eq_false e6]
                  rfl
                rw [o] at q
                exact q _ s2
              · have e6 : z = "batch" := by
                  by_cases e7 : V.str z = V.str "batch"
                  · injection e7
                  · rw [decide_eq_false e7] at e5
                    exact absurd rfl e5
                subst e6
                have ew : ws = [("from 1" : Str), ("batch how" : Str), ("batch rest" : Str)] := by
                  have e7 : List.lookup ("batch" : Str) kindsL = some [("from 1" : Str), ("batch how" : Str), ("batch rest" : Str)] := by decide +kernel
                  exact Option.some.inj (hk.symm.trans e7)
                subst ew
                obtain ⟨n, t, e, rfl⟩ := batch_shape le hf
                cases hds with
                | cons h1 hds =>
                  cases h1
                  cases hds with
                  | cons h2 hds =>
                    cases h2
                    have ha2 := s2 _ _ ha
                    have o : batchOk "batch" [.int n, .str t, e] = (!decide (t = "sum") || decide (n ≤ 50)) := rfl
                    rw [o] at q
                    refine ⟨.ref a, rfl, a, _, _, _, rfl, rfl, SqT.of ha2, atI_nat (j := 1) rfl, rfl, _, rfl, ite2 (fun e7 => ?_) (fun e7 => ?_)⟩
                    · have e8 : ¬ t = "sum" := fun e9 => by
                        rw [decide_eq_true (congrArg V.str e9)] at e7
                        cases e7
                      rw [decide_eq_false e8] at q
                      exact q _ s2
                    · have e8 : t = "sum" := by
                        by_cases e9 : V.str t = V.str "sum"
                        · injection e9
                        · rw [decide_eq_false e9] at e7
                          exact absurd rfl e7
                      rw [decide_eq_true e8] at q
                      exact ⟨.ref a, rfl, a, _, _, _, rfl, rfl, SqT.of ha2, atI_nat (j := 0) rfl, _, _, rfl, rfl, q _ s2⟩
      | _ => cases hd
/-! ### is_node -/
def ofKind (p i : PyData) : PyData → Bool
  | .str z => (kindsL.lookup z).isSome && (areParams z p && areInputs z i)
  | _ => false
def isNode : PyData → Bool
  | .tuple [n, k, p, i] => isName n && ofKind p i k
  | _ => false
def spNode (K : PySem.W.Frag) : Sp := fun vs H Q _ => ∃ x d, vs = [x] ∧ Dv K H x d ∧ smB d = true ∧ ∀ H', Same H H' → Q (.bl (isNode d)) H'
theorem ok_node (B : Blt mg) (G1 : DefOk P w K mg base CX0 1 "is_name" ["value"] (spName K)) (G2 : DefOk P w K mg base CX0 1 "is_kind" ["value"] (spKind K)) (G3 : DefOk P w K mg base CX0 7 "are_parameters" ["kind", "value"] (spParams K)) (G4 : DefOk P w K mg base CX0 2 "are_inputs" ["kind", "value"] (spInputs K))
    (D : Dfn K mg "is_node" sNode ["value"]) : DefOk P w K mg base CX0 8 "is_node" ["value"] (spNode K) := D.ok fun f fd F => by
  refine F.ok scNode (fun vs H Q E h => ?_) (fun cdv A outer s H vs Q E hr h => ?_)
  · obtain ⟨x, d, rfl, _⟩ := h
    rfl
  · obtain ⟨x, d, rfl, hx, hs, q⟩ := h
    have nd := scNode.nd
    refine ⟨_, pss_cons (ps_if (PW.pt (pw_or (pt_not (pt_val (pe_isi B.isi (pa_cons (pv 0) (pa_cons (pe_cls (n := "tuple") "tuple" B.tuple) pa_nil)))))
        (pw_or1 (pt_cmpR op_ne (pe_callB call_len_seq (by rfl) B.len PySem.boot_len (pa_cons (pv 0) pa_nil)) pe_int (nomark _))))) (pss_one (ps_ret pe_bl)) pss_nil)
      (pss_cons (ps_asg (pv 0) (pg_tup rfl (pgs_cons (pg_name (i := 1) nd rfl (Or.inl rfl)) (pgs_cons (pg_name (i := 2) nd rfl (Or.inl rfl)) (pgs_cons (pg_name (i := 3) nd rfl (Or.inl rfl)) (pgs_cons (pg_name (i := 4) nd rfl (Or.inl rfl)) pgs_nil))))))
      (pss_cons (ps_if (PW.pt (pw_or (pt_not (pt_val (pe_def G1 hr pass0 (pa_cons (pv 1) pa_nil)))) (pw_or1 (pt_not (pt_val (pe_def G2 hr pass0 (pa_cons (pv 2) pa_nil))))))) (pss_one (ps_ret pe_bl)) pss_nil)
      (pss_one (ps_ret (pe_and (pe_def G3 hr pass0 (pa_cons (pv 2) (pa_cons (pv 3) pa_nil))) (pe_one (pe_def G4 hr pass0 (pa_cons (pv 2) (pa_cons (pv 4) pa_nil))))))))), ?_⟩
    refine ⟨x, rfl, _, _, _, _, _, rfl, .ty "tuple", hx.ty, kit_ty (isa_tuple d), _, rfl, ?_⟩
    cases hd : isTuple d with
    | false =>
      have z : isNode d = false := by
        cases d <;> first | rfl | cases hd
      rw [z] at q
      exact q _ (Same.refl _)
    | true =>
      cases hx with
      | @tup a xs ds ha hzz hds =>
        have hl := hds.length
        refine ⟨.ref a, rfl, a, xs, rfl, .inr (SqT.of ha), rfl, _, rfl, ite2 (fun e1 => ?_) (fun e1 => ?_)⟩
        · have ne : ¬ ds.length = 4 := fun e2 => by
            have e3 : V.int (xs.length : Nat) = V.int 4 := by
              rw [hl, e2]
              rfl
            rw [decide_eq_true e3] at e1
            cases e1
          have o : isNode (.tuple ds) = false := by
            unfold isNode
            split
            · rename_i n k p i e
              injection e with e
              subst e
              exact absurd rfl ne
            · rfl
          rw [o] at q
          exact q _ (Same.refl _)
        · have le : ds.length = 4 := by
            have e3 : V.int (xs.length : Nat) = V.int 4 := by
              by_cases e4 : V.int (xs.length : Nat) = V.int 4
              · exact e4
              · rw [decide_eq_false e4] at e1
                exact absurd rfl e1
            injection e3 with e3
            omega
          match ds, le with
          | [d1, d2, d3, d4], _ =>
            have hm := fun d hd => sm_mem (ds := [d1, d2, d3, d4]) (by rw [← hs, smB]) d hd
            match xs, hds with
            | [x1, x2, x3, x4], .cons h1 (.cons h2 (.cons h3 (.cons h4 .nil))) =>
              refine ⟨_, rfl, a, _, rfl, SqT.of ha, rfl, _, _, rfl, _, _, rfl, _, _, rfl, _, _, rfl, rfl, ?_⟩
              refine ⟨x1, rfl, x1, d1, rfl, h1, sm_word (hm d1 (by simp)), fun H1 s1 => ⟨_, rfl, ?_⟩⟩
              cases e2 : isName d1 with
              | false =>
                have o : isNode (.tuple [d1, d2, d3, d4]) = false := by
                  show (isName d1 && _) = false
                  rw [e2, Bool.false_and]
                rw [o] at q
                exact q _ s1
              | true =>
                refine ⟨x2, rfl, x2, d2, rfl, h2.same s1, _, rfl, ?_⟩
                have o : isNode (.tuple [d1, d2, d3, d4]) = ofKind d3 d4 d2 := by
                  show (isName d1 && _) = _
                  rw [e2, Bool.true_and]
                rw [o] at q
                cases e3 : isKind d2 with
                | false =>
                  have o2 : ofKind d3 d4 d2 = false := by
                    cases d2 with
                    | str z =>
                      show (_ && _) = false
                      rw [show (kindsL.lookup z).isSome = false from e3, Bool.false_and]
                    | _ => rfl
                  rw [o2] at q
                  exact q _ s1
                | true =>
                  cases h2 with
                  | str z =>
                    obtain ⟨ws, hk⟩ := Option.isSome_iff_exists.mp (show (kindsL.lookup z).isSome = true from e3)
                    have o2 : ofKind d3 d4 (.str z) = (areParams z d3 && areInputs z d4) := by
                      show (_ && _) = _
                      rw [show (kindsL.lookup z).isSome = true from e3, Bool.true_and]
                    have q : ∀ H', Same H H' → Q (.bl (areParams z d3 && areInputs z d4)) H' := fun H' s' => by
                      rw [← o2]
                      exact q H' s'
                    refine ⟨_, rfl, x3, rfl, z, x3, d3, ws, rfl, h3.same s1, hm d3 (by simp), hk, fun H2 s2 => ⟨_, rfl, ite2 (fun e4 => ?_) (fun e4 => ?_)⟩⟩
                    · rw [e4, Bool.true_and] at q
                      exact ⟨_, rfl, x4, rfl, z, x4, d4, rfl, (h4.same s1).same s2, hm d4 (by simp), fun H3 s3 => q _ (s1.trans (s2.trans s3))⟩
                    · rw [Bool.eq_false_iff.mpr e4, Bool.false_and] at q
                      exact q _ (s1.trans s2)
                  | _ => cases e3
      | _ => cases hd
end
end Pw
set_option maxHeartbeats 2000000
/-! how often a word stands in a list of words -/
namespace Pw
open PySem PySem.Spec PyProof.Rows L2
def eqS (k : Str) (v : Value) : Bool := match v with
  | .str x _ => x == k
  | _ => false
theorem eqS_gives {k : Str} {t : Tok} : ∀ {zs : List Str} {us : List Value}, Vals (zs.map V.str) us → ∀ y ∈ us, MeetsSeq.EqGives y (.str k t) (eqS k y)
  | [], us, h, y, hy => by
    cases h
    cases hy
  | z :: zs, us, h, y, hy => by
    cases h with
    | cons h1 h2 =>
      rcases List.mem_cons.mp hy with e | e
      · obtain ⟨t', e1⟩ := h1
        rw [e, e1]
        exact PyProof.Rows.eqGives_str z k t' t
      · exact eqS_gives h2 y e
theorem eqS_count {k : Str} : ∀ {zs : List Str} {us : List Value}, Vals (zs.map V.str) us → us.countP (eqS k) = zs.count k
  | [], us, h => by
    cases h
    rfl
  | z :: zs, us, h => by
    cases h with
    | cons h1 h2 =>
      obtain ⟨t', e1⟩ := h1
      rw [List.countP_cons, List.count_cons, eqS_count h2, e1]
      rfl
def rCntS (K : PySem.W.Frag) : V → List V → Hp → VK → Prop := fun x xs H Q => ∃ (p : Addr) (zs : List Str) (k : Str), x = .ref p ∧ xs = [.str k] ∧ SqL K H p (zs.map V.str) ∧ Q (.int (zs.count k : Nat)) H
theorem mt_scount {X : Cx} : MtR X "list.count" (rCntS X.K) := by
  intro pins s σ H x xs v us Q I rx rxs h
  obtain ⟨p, zs, k, rfl, rfl, hs, q⟩ := h
  obtain rfl : v = Value.ref p := rx
  obtain ⟨u, rfl, t, rfl⟩ := rxs.one
  obtain ⟨its, rv, ⟨⟨cls, dd, data, sl⟩, n, ho, hc, hdn, hd⟩, hlen⟩ := I.list hs
  dsimp only at hc hd
  subst hc hd
  have ec : its.toArray.toList.countP (eqS k) = zs.count k := eqS_count rv
  refine call_meets PySem.F.slot_list_count ⟨_, ho, rfl⟩ PySem.F.entry_list_count (PySem.F.args_list_count_2 _ _)
    (SeqAt.list_countAt p its.toArray n dd sl (.str k t) (eqS k)) ⟨ho, fun y hy => (eqS_gives rv y (by simpa using hy)).at _ _, .int (zs.count k : Nat), H, I.tok _, ⟨s.toks, ?_⟩, q⟩
  rw [← ec]
end Pw
set_option maxHeartbeats 200000
/-! which inputs a node may read -/
namespace Pw
open PySem PySem.Spec PyProof.Rows L2
abbrev sMay : Stmt := topS 47
theorem scMay : FnScope ["inputs", "kinds", "uses", "name", "most"] ["inputs", "kinds", "uses"] (defScope sMay) := ⟨rfl, rfl, rfl, by decide +kernel, rfl, by decide +kernel, by decide +kernel⟩
/-- a dict of words to words, of words to numbers -/
def kwO (ks : List (Str × Str)) : HO := .dK (ks.map fun p => (.inr p.1, V.str p.2))
def kiO (us : List (Str × Int)) : HO := .dK (us.map fun p => (.inr p.1, V.int p.2))
theorem valV_words {α : Type} (g : α → V) (z : Str) : ∀ ks : List (Str × α), valV (ks.map fun p => ((.inr p.1 : Key), g p.2)) (.inr z) = (ks.lookup z).map g
  | [] => rfl
  | p :: r => by
    rw [List.map_cons]
    by_cases e : p.1 = z
    · rw [valV_pos (p := ((.inr p.1 : Key), g p.2)) (congrArg Sum.inr e)]
      obtain ⟨a, b⟩ := p
      dsimp only at e
      subst e
      rw [List.lookup_cons, beq_self_eq_true]
      rfl
    · rw [valV_neg (p := ((.inr p.1 : Key), g p.2)) (fun z' => e (Sum.inr.inj z')), valV_words g z r]
      obtain ⟨a, b⟩ := p
      have e2 : (z == a) = false := beq_eq_false_iff_ne.mpr fun q => e q.symm
      rw [List.lookup_cons, e2]
def usesOf (us : List (Str × Int)) (z : Str) : Int := (us.lookup z).getD 0
def mostOf (k : Str) : Int := if k = "split" then 5 else 1
def mayOne (ns : List Str) (ks : List (Str × Str)) (us : List (Str × Int)) (z : Str) : Bool := match ks.lookup z with
  | none => false
  | some k => decide (usesOf us z + (ns.count z : Nat) ≤ mostOf k)
def mayRead (ns : List Str) (ks : List (Str × Str)) (us : List (Str × Int)) : Bool := ns.all (mayOne ns ks us)
theorem ifC {c : Bool} {a b m : V} {σ : L2.St} {H : Hp} {Q : VK} (e : (if c = true then a else b) = m) (h : Q m H) : if c = true then tC a σ H Q else tC b σ H Q := by
  subst e
  cases c <;> exact h
section
variable {P : Program} {w : World} {K : PySem.W.Frag} {mg : Str → Option Value} {base : Heap}
def spMay (K : PySem.W.Frag) : Sp := fun vs H Q _ => ∃ (i k u : Addr) (ns : List Str) (ks : List (Str × Str)) (us : List (Str × Int)), vs = [.ref i, .ref k, .ref u] ∧ SqL K H i (ns.map V.str) ∧ H k = some (kwO ks) ∧ H u = some (kiO us) ∧ Q (.bl (mayRead ns ks us)) H
theorem ok_may {tm : Tok} (gM : mg "MOST_PORTS" = some (.int 5 tm)) (D : Dfn K mg "may_read" sMay ["inputs", "kinds", "uses"]) : DefOk P w K mg base CX0 1 "may_read" ["inputs", "kinds", "uses"] (spMay K) := D.ok fun f fd F => by
  refine F.ok scMay (fun vs H Q E h => ?_) (fun cdv A outer s H vs Q E hr h => ?_)
  · obtain ⟨i, k, u, ns, ks, us, rfl, _⟩ := h
    rfl
  · obtain ⟨i, k, u, ns, ks, us, rfl, hi, hk, hu, q⟩ := h
    have nd := scMay.nd
    refine ⟨_, pss_cons (ps_for PassesOwn.never rfl (pi_list (pv 0)) (pg_name (i := 3) nd rfl (Or.inl rfl))
        (pss_cons (ps_if (pt_cmp (pc_dnotin (Nat.lt_of_le_of_lt (Nat.add_le_add_left (by decide : 1 ≤ 64) _) hr.units) (pv 3) (pv 1)) (by rfl)) (pss_one (ps_ret pe_bl)) pss_nil)
        (pss_cons (ps_set (i := 4) nd rfl (.inl rfl) (pe_ifExp (pt_cmpR op_eq (pe_dget (Nat.lt_of_le_of_lt (Nat.add_le_add_left (by decide : 1 ≤ 64) _) hr.units) (pv 1) (pv 3) (fun _ _ => rfl)) pe_str (nomark _)) (pe_glob (v := .int 5) rfl gM ⟨_, rfl⟩) pe_int))
        (pss_one (ps_if (pt_cmpR op_gt (pe_op op_add (pe_dget2 (Nat.lt_of_le_of_lt (Nat.add_le_add_left (by decide : 1 ≤ 64) _) hr.units) (pv 2) (pv 3) pe_int ⟨rfl, rfl, rfl, rfl⟩)
          (pe_bm PySem.F.plainAttrs_list PySem.F.slot_list_count PySem.F.type_list_count mt_scount (pv 0) (pa_cons (pv 3) pa_nil))) (pv 4) (nomark _)) (pss_one (ps_ret pe_bl)) pss_nil)))))
      (pss_one (ps_ret pe_bl)), ?_⟩
    refine ⟨_, rfl, i, rfl, ⟨_, hi⟩, ?_⟩
    have stop : ∀ z ∈ ns, mayOne ns ks us z = false → mayRead ns ks us = false := fun z hz e => by
      unfold mayRead
      rw [List.all_eq_false]
      exact ⟨z, hz, by rw [e]; exact Bool.false_ne_true⟩
    refine for_it walk_list (fun j σ H' => ∃ z1 z2, σ = [some (.ref i), some (.ref k), some (.ref u), z1, z2] ∧ H' = H ∧ (ns.take j).all (mayOne ns ks us) = true) ⟨none, none, rfl, rfl, rfl⟩
      (fun j σ H' hj p => by obtain ⟨_, _, _, rfl, _⟩ := p; exact hi) (fun j x σ H' H'' hj p y => ?_) (fun σ H' p => ?_)
    · obtain ⟨z1, z2, rfl, rfl, ok⟩ := p
      obtain ⟨rfl, hv⟩ := y
      rw [List.getElem?_map] at hv
      obtain ⟨n, hn, rfl⟩ := Option.map_eq_some_iff.mp hv
      have mem := List.mem_of_getElem? hn
      have gk : DGet H'' k (.str n) ((ks.lookup n).map V.str) := by
        have := DGet.k (k := .inr n) hk
        rwa [valV_words] at this
      have gu : DGet H'' u (.str n) ((us.lookup n).map V.int) := by
        have := DGet.k (k := .inr n) hu
        rwa [valV_words] at this
      refine ⟨_, rfl, _, rfl, k, _, rfl, gk, _, rfl, ?_⟩
      cases e : ks.lookup n with
      | none =>
        have z := stop n mem (by unfold mayOne; rw [e])
        rw [z] at q
        exact q
      | some kd =>
        rw [e] at gk
        have one : mayOne ns ks us n = decide (usesOf us n + (ns.count n : Nat) ≤ mostOf kd) := by
          unfold mayOne
          rw [e]
        have em : (if decide (V.str kd = V.str "split") = true then V.int 5 else V.int 1) = V.int (mostOf kd) := by
          unfold mostOf
          by_cases e1 : kd = "split"
          · rw [if_pos e1, decide_eq_true (congrArg V.str e1)]
            rfl
          · rw [if_neg e1, decide_eq_false (fun e2 => e1 (V.str.inj e2))]
            rfl
        refine ⟨_, rfl, _, rfl, k, _, rfl, gk, rfl, _, rfl, ifC em ?_⟩
        have eu : ((us.lookup n).map V.int).getD (V.int 0) = V.int (usesOf us n) := by
          unfold usesOf
          cases us.lookup n <;> rfl
        refine ⟨_, rfl, u, rfl, .inl ⟨_, .inl hu⟩, _, rfl, _, gu, ?_⟩
        rw [eu]
        refine ⟨_, rfl, .inl ⟨rfl, _, hi⟩, _, rfl, i, ns, n, rfl, rfl, hi, _, _, rfl, rfl, _, rfl, _, _, rfl, rfl, _, rfl, ?_⟩
        refine ite2 (fun e1 => ?_) (fun e1 => ?_)
        · have z := stop n mem (by
            rw [one]
            have := of_decide_eq_true e1
            exact decide_eq_false (by omega))
          rw [z] at q
          exact q
        · refine ⟨_, _, rfl, rfl, ?_⟩
          rw [List.take_add_one, hn]
          show (ns.take j ++ [n]).all _ = true
          rw [List.all_append, ok, List.all_cons, one, List.all_nil, Bool.and_true, Bool.true_and]
          have : ¬ mostOf kd < usesOf us n + (ns.count n : Nat) := fun z => e1 (decide_eq_true z)
          exact decide_eq_true (by omega)
    · obtain ⟨z1, z2, rfl, rfl, ok⟩ := p
      have o : mayRead ns ks us = true := by
        rw [List.length_map, List.take_length] at ok
        exact ok
      rw [o] at q
      exact q
end
end Pw
set_option maxHeartbeats 2000000
/-! own errors of one field over an own base over ArithmeticError -/
namespace PySem
namespace ErrX
open PySem.W PySem.Calls PyProof.Rows PySem.HandSPX Builtin Builtin.ObjectAttr
abbrev arTail : List Value := [.type "ArithmeticError", .type "Exception", .type "BaseException", .type "object"]
/-! ### the text of __init__ -/
def iA (fld : Str) (p1 p2 : Pos) : Arguments := { posonlyargs := [], args := [{ arg := "self", annotation := none, pos := p1 }, { arg := fld, annotation := none, pos := p2 }], vararg := none, kwonlyargs := [], kw_defaults := [], kwarg := none, defaults := [] }
def iB (fld : Str) (q1 q2 q3 q4 : Pos) : List Stmt := [.Assign [.Attribute (.Name "self" q1) fld q2] (.Name fld q3) q4]
def iS (fld : Str) : Scope := { kind := .function, names := [(PySem.Str.ofString "self", .local), (fld, .local)], isGenerator := false, isCoroutine := false, more := [] }
/-- what the written part says of an error class x with the field fld, at C, and of its __init__, at fI -/
structure ErrTxt (K : Frag) (mg : Str → Option Value) (x fld : Str) (C fI : Addr) : Prop where
  gC : mg x = some (.ref C)
  xI : excInitIn K C arTail "ArithmeticError.__new__" = true
  xO : excOver K C arTail = true
  sa : findIn K (.ref C) "__setattr__" = some (some (.builtin "object.__setattr__"))
  ga : findIn K (.ref C) "__getattribute__" = some (some (.builtin "BaseException.__getattribute__"))
  gg : findIn K (.ref C) "__getattr__" = some none
  noN : findIn K (.ref C) fld = some none
  iC : findIn K (.ref C) "__init__" = some (some (.ref fI))
  tC : typeIn K (.ref fI) = some (.type "function")
  kC : keepIn K (.ref C) = true
  exC : subIn K (.ref C) (.type "BaseException") = some true
  tyC : typeIn K (.ref C) = some (.type "type")
  hdC : hasDictIn K C = true
  fn : ∃ (qual : Str) (oc : Value) (od : Option Addr) (doc pm : Value) (an : Option Addr) (cdv ct : Value) (osl : Array (Option Value)) (p1 p2 q1 q2 q3 q4 : Pos),
    K.lookup fI = some ⟨oc, od, .func (fnOf "__init__" qual (iA fld p1 p2) (iB fld q1 q2 q3 q4) (iS fld) .none .none doc pm an cdv ct), osl⟩ ∧ codeIn K cdv qual = true
  bd : ∀ (qual : Str) (p1 p2 q1 q2 q3 q4 : Pos) (doc pm : Value) (an : Option Addr) (cdv ct u v : Value), bindArgs (fnOf "__init__" qual (iA fld p1 p2) (iB fld q1 q2 q3 q4) (iS fld) .none .none doc pm an cdv ct) ⟨[u, v], []⟩ = pure [(("self" : Str), u), (fld, v)]
  ns : fld ≠ "self"
  nd : (fld == ("__debug__" : Str)) = false
theorem one_size (v : Value) : [v].length ≤ sizeLine := by
  rw [sizeLine_eq]
  exact (by decide : 1 ≤ 16777216)
theorem ldC {M : Model} {s : Shared} {name : Str} {scope : Scope} {L a : Addr} {cd : Value} {m : Str → Option Value} {x : Str} {pos : Pos} {v : Value} {Q : Value → Shared → Prop} {A : Around} {E : Value → Shared → Prop} (hn : s.heap.Ns L m) (hv : m x = some v) (h : Q v s)
    (hk : scope.kind = .function) (hl : (envOfC name scope L a cd).kindOf x = some .local) (hd : (x == ("__debug__" : Str)) = false) :
    wpAny M A (eval (.Name x pos) (envOfC name scope L a cd)) Q E s := wpAny_Name (wpAny_loadName_local hk hl hn hv h) hd
/-- what __init__ leaves of a fresh exception at x -/
structure InitEnd (h h' : Heap) (fld : Str) (x C dx t1 : Addr) (v : Value) : Prop where
  keep : ∀ b o, b ≠ x → h.get? b = some o → h'.get? b = some o
  obj : h'.get? x = some { cls := .ref C, dict := some dx, data := .fields #[.ref t1, .none, .none, .none, .bool false, .none] }
  dbig : h.objs.size ≤ dx
  dne : dx ≠ x
  ns : h'.Ns1 dx (fun y => if y = fld then some v else none)
/-- a made one -/
structure OwnMade (h h' : Heap) (fld : Str) (e C d : Addr) (v : Value) : Prop where
  keep : ∀ b o, h.get? b = some o → h'.get? b = some o
  new : h.objs.size ≤ e
  obj : ∃ oe vs, h'.get? e = some oe ∧ oe.cls = .ref C ∧ oe.dict = some d ∧ oe.data = .fields vs ∧ vs[1]? = some .none
  dbig : h.objs.size ≤ d
  dne : d ≠ e
  ns : h'.Ns1 d (fun y => if y = fld then some v else none)
section
variable {prog : Program} {w : World} {A : Around} {E : Value → Shared → Prop} {R : Result → Shared → Prop} {s : Shared} {K : Frag} {mg : Str → Option Value} {x fld : Str} {C fI : Addr}
/-- the store of a first field -/
theorem store_first {name : Str} {tk : Tok} {v : Value} {a : Addr} {fv : Array Value} {hp : Heap} {g : Array GenState} {d : Drawn} {t : Nat} {os : OsState}
    (X : K.In hp) (hx : hp.get? a = some { cls := .ref C, data := .fields fv }) (hp' : excOver K C arTail = true) (hh : hasDictIn K C = true) (ha : findIn K (.ref C) name = some none)
    (hq : ∀ h' tk' dx, (∀ b o, b ≠ a → hp.get? b = some o → h'.get? b = some o) → hp.objs.size ≤ dx → dx ≠ a → h'.get? a = some { cls := .ref C, dict := some dx, data := .fields fv } →
      h'.Ns1 dx (fun y => if y = name then some v else none) → R (.ok (.ret .none)) ⟨h', g, d, tk', os⟩) :
    codeAny (model prog w) A (.call (.builtin "object.__setattr__") ⟨[.ref a, .str name tk, v], []⟩) R ⟨hp, g, d, t, os⟩ := by
  have hxs : a ≠ hp.objs.size := Nat.ne_of_lt (Heap.lt_size hx)
  have ht : takerIn K C name = some none := by
    unfold takerIn
    rw [ha]
    rfl
  refine osa_openX (ox := { cls := .ref C, data := .fields fv }) (od := none) (r := none) PySem.F.store_ArithmeticError X ⟨hx, rfl, rfl, trivial⟩ hp' ht fun b => ?_
  obtain ⟨cd, hc, hd'⟩ := any_some hh
  have hcls : Looks (model prog w) hp (classData C) cd := looks_clsIn X hc
  obtain ⟨nm, bs, mro, ns, qn, hd, sn, sb, ab, col, del⟩ := cd
  dsimp only at hd'
  subst hd'
  show wpAny _ _ (storeInOwnDict (.ref a) (.ref C) (.str name tk) name v b) _ _ _
  unfold storeInOwnDict ownDictForStores
  repeat (first | with_reducible refine store_in_new ?_ ?_ | with_reducible refine wpAny_loadPart_at hx ?_ | with_reducible refine hcls.at ?_ | wp_step)
  · exact ⟨_, #[], _, (Heap.get?_update_ne _ _ _ _ hxs.symm).trans (Heap.get?_push_at rfl rfl), rfl, fun e he => absurd he (by simp), fun _ => rfl⟩
  · intro h' tk' hn' hs
    have hx1 : (hp.push { cls := .type "dict", data := .dict #[] }).get? a = some { cls := .ref C, data := .fields fv } := Heap.get?_push_of_some _ hx
    refine hq h' tk' hp.objs.size (fun b o hb ho => ?_) (Nat.le_refl _) hxs.symm ?_ hn'
    · exact (hs.2 b (Nat.ne_of_lt (Heap.lt_size ho))).trans ((Heap.get?_update_ne _ _ _ _ hb).trans (Heap.get?_push_of_some _ ho))
    · exact (hs.2 a hxs).trans (Heap.get?_update_self _ hx1 rfl)
theorem cells_fld (fld self : Str) (p : Value × Value) (e : ¬ fld = self) : True := trivial
theorem err_init (T : ErrTxt K mg x fld C fI) {a t0 : Addr} {v : Value} (X : K.In s.heap) (hlim : s.heap.NoLimit) (hx : s.heap.get? a = some (excO C t0)) (hnx : K.lookup a = none) (hroom : A.depth < recursionLimit)
    (hq : ∀ h' tk dx, InitEnd s.heap h' fld a C dx t0 v → R (.ok (.ret .none)) { s with heap := h', toks := tk }) :
    codeAny (model prog w) A (.call (.ref fI) ⟨[.ref a, v], []⟩) R s := by
  obtain ⟨qual, oc, od, doc, pm, an, cdv, ct, osl, p1, p2, q1, q2, q3, q4, ho, hcd⟩ := T.fn
  have hns : (fld == ("self" : Str)) = false := beq_eq_false_iff_ne.mpr T.ns
  have hsn : (("self" : Str) == fld) = false := beq_eq_false_iff_ne.mpr (Ne.symm T.ns)
  have kSelf : (iS fld).names.lookup ("self" : Str) = some .local := by
    show List.lookup ("self" : Str) [(("self" : Str), NameKind.local), (fld, NameKind.local)] = _
    simp [List.lookup]
  have kFld : (iS fld).names.lookup fld = some .local := by
    show List.lookup fld [(("self" : Str), NameKind.local), (fld, NameKind.local)] = _
    simp [List.lookup, hns]
  have bnd := T.bd qual p1 p2 q1 q2 q3 q4 doc pm an cdv ct (.ref a) v
  refine Att.call_fn (binds := [(("self" : Str), .ref a), (fld, v)]) X hlim ho hcd hroom (BindsTo.of_eq bnd) (by simp only [List.all_cons, List.all_nil, kSelf, kFld]; rfl) (fun s1 IC => ?_) rfl rfl rfl
  obtain ⟨h1, tk1, rfl⟩ := IC.toInCall.same
  have k : ∀ b o, s.heap.get? b = some o → h1.get? b = some o := IC.toInCall.keep
  have hn := IC.toInCall.ns
  have X1 : K.In h1 := X.keeps k
  have hx1 := k _ _ hx
  have ks : (envOfC qual (iS fld) s.heap.objs.size fI cdv).kindOf ("self" : Str) = some .local := kSelf
  have kf : (envOfC qual (iS fld) s.heap.objs.size fI cdv).kindOf fld = some .local := kFld
  show wpAny _ _ (execs _ _) _ _ _
  refine wpAny_execs_cons (plainObj_wpAny_Assign_Attribute ?_)
  refine ldC (v := v) hn ?_ (ldC (v := .ref a) hn ?_ ?_ rfl ks (by decide)) rfl kf T.nd
  · simp [bindL, ks, kf, T.ns]
  · simp [bindL, ks, kf, Ne.symm T.ns]
  refine set_plain X1 (ox := excO C t0) (od := none) ⟨hx1, rfl, rfl, trivial⟩ T.sa ?_
  refine store_first X1 hx1 T.xO T.hdC T.noN (fun h3 tk3 dx k3 dn dne hx3 hn3 => ?_)
  show wpAny _ _ (execs _ _) _ _ _
  have z : s.heap.objs.size < h1.objs.size := hn.lt
  exact wpAny_execs_nil (hq h3 tk3 dx ⟨fun b o hb e => k3 b o hb (k b o e), hx3, Nat.le_of_lt (Nat.lt_of_lt_of_le z dn), dne, hn3⟩)
theorem err_made (T : ErrTxt K mg x fld C fI) {v : Value} (X : K.In s.heap) (hlim : s.heap.NoLimit) (hroom : A.depth + 1 < recursionLimit)
    (hq : ∀ h' tk e d, OwnMade s.heap h' fld e C d v → R (.ok (.ret (.ref e))) { s with heap := h', toks := tk }) :
    codeAny (model prog w) A (.call (.ref C) ⟨[v], []⟩) R s := by
  obtain ⟨nm, N, qn, bs, bm, hdct, sn, sub, ab, col, dd, k0, k1, k2, k3, k5, hC, hbm⟩ := excInit_of X T.xI
  obtain ⟨hp, g, dr, tk, os⟩ := s
  have k : ∀ b o, hp.get? b = some o → ((hp.push (kdv_tup [v])).push (excO C hp.objs.size)).get? b = some o := fun b o e => Heap.get?_push_of_some _ (Heap.get?_push_of_some _ e)
  have hget : ((hp.push (kdv_tup [v])).push (excO C hp.objs.size)).get? (hp.objs.size + 1) = some (excO C hp.objs.size) := by heap_get
  have hnx : K.lookup (hp.objs.size + 1) = none := by
    cases e : K.lookup (hp.objs.size + 1) with
    | none => rfl
    | some o =>
      have z : hp.get? (hp.objs.size + 1) = some o := X _ _ e
      exact absurd (Nat.lt_of_succ_lt (Heap.lt_size z)) (Nat.lt_irrefl _)
  refine call_own PySem.F.excBase_ArithmeticError hbm hC (looks_findIn X T.iC) (fun self => bind_fn X self T.tC) (one_size v) ?_
  refine err_init (s := ⟨(hp.push (kdv_tup [v])).push (excO C hp.objs.size), g, dr, tk, os⟩) T (X.keeps k) (hlim.keeps k) hget hnx ?_ fun h' tk' dx ⟨k', hx, dn, dne, hns⟩ => ?_
  · show A.depth + 1 < recursionLimit
    exact hroom
  · have old : ∀ b o, hp.get? b = some o → h'.get? b = some o := fun b o e => k' b o (Nat.ne_of_lt (Nat.lt_succ_of_lt (Heap.lt_size e))) (k b o e)
    have z : hp.objs.size + 1 + 1 ≤ dx := by
      first
        | (simpa only [Heap.size_push] using dn)
        | exact dn
        | (have q := dn; rw [Heap.size_push, Heap.size_push] at q; exact q)
    exact ⟨rfl, hq h' tk' (hp.objs.size + 1) dx ⟨old, Nat.le_succ _, ⟨_, _, hx, rfl, rfl, rfl, rfl⟩, Nat.le_trans (Nat.le_trans (Nat.le_succ _) (Nat.le_succ _)) z, dne, hns⟩⟩
end
end ErrX
end PySem
set_option maxHeartbeats 2000000
/-! raising such an error, reading its field, asking its class -/
namespace L2
open PySem PySem.Spec PyProof.Rows
theorem relO_fld {fld : Str} {v : V} {v' : Value} (r : RelV v v') (f : Str) : RelO (List.lookup f [(fld, v)]) (if f = fld then some v' else none) := by
  by_cases hw : f = fld
  · subst hw
    rw [if_pos rfl]
    have q : List.lookup f [(f, v)] = some v := by simp [List.lookup]
    rw [q]
    exact r
  · rw [if_neg hw]
    have qw : (f == fld) = false := by simpa using hw
    have q2 : List.lookup f [(fld, v)] = none := by simp [List.lookup, qw]
    rw [q2]
    trivial
section
variable {X : Cx} {C fI : Addr} {x fld : Str}
/-- X(e) -/
def tMkErr (C : Addr) (fld : Str) (ta : TA) : L2.St → Hp → XK → Prop := fun σ H Q => ta σ H fun vs H1 => ∃ v, vs = [v] ∧ ∀ d, H1 d = none → Q (.ref C) (some d) (upd H1 d (.xd [(fld, v)]))
theorem pmk_err {a : Expr} {ta : TA} {p pos : Pos} {k : Nat} (T : PySem.ErrX.ErrTxt X.K X.mg x fld C fI) (hr : Room k X.A) (ha : PA X [a] ta) (hg : Gl X x := by rfl) (hdb : (x == ("__debug__" : Str)) = false := by decide)
    (he : starEach (a :: []) X.env = (false, eval a X.env) :: starEach [] X.env := by rfl) (hpl : (backTo pos (starEach [] X.env)).any (·.1) = false := by rfl) :
    PMk X (.Call (.Name x p) [a] [] pos) (tMkErr C fld ta) := by
  intro pins s σ H Q I h
  refine wpAny_Call_Name_kw (ld_glob I hg T.gC ?_ hdb)
  refine PySem.W.callWith_K (h₀ := X.base) I.ok.mod.kin T.kC (thn (ha.run pos pins s σ H _ I h) fun us s1 hh => ?_) he hpl
  obtain ⟨vs, H1, I1, r1, v, ev, q1⟩ := hh
  subst ev
  refine ⟨I1.kIn, ?_⟩
  cases r1 with
  | cons rv rn =>
    rename_i v' us'
    cases rn
    show wpAny _ _ (call (.ref C) [v']) _ _ _
    have hlim := I1.nolimit
    obtain ⟨hp, g, dr, tk, os⟩ := s1
    refine wpAny_call (PySem.ErrX.err_made T I1.kIn hlim (by have := hr.dp; omega) fun h' tk' e d M => ?_)
    show MkP X pins σ Q (.ref e) ⟨h', g, dr, tk', os⟩
    obtain ⟨oe, fv, hoe, hc, hd, hdat, h1⟩ := M.obj
    have hns := M.ns
    obtain ⟨G', g1, g2⟩ := restrict h' fun b => decide (b ≠ e)
    have gk : ∀ b, b ≠ e → G'.get? b = h'.get? b := fun b hb => g1 b (decide_eq_true hb)
    have ge : G'.get? e = none := g2 e (by simp)
    have old : ∀ b o, hp.get? b = some o → G'.get? b = some o := fun b o q => (gk b (Nat.ne_of_lt (Nat.lt_of_lt_of_le (Heap.lt_size q) M.new))).trans (M.keep b o q)
    have ob : ObjOk X.prog X.w (upd H1 d (.xd [(fld, v)])) G' d (.xd [(fld, v)]) :=
      ⟨_, hns.at (fun o q => (gk d M.dne).trans q), fun f => relO_fld rv f⟩
    have J : Inv X pins σ (upd H1 d (.xd [(fld, v)])) ⟨G', g, dr, tk', os⟩ := I1.laid (t' := tk') old M.dbig ob
    refine ⟨e, oe, fv, ⟨G', g, dr, tk', os⟩, _, .ref C, some d, rfl, J, fun b o q => ?_, ge, hoe, ⟨hc, hd⟩, hdat, h1, ?_, rfl, I1.bare, raises_own T.exC T.tyC, q1 d (I1.hok.fresh M.dbig)⟩
    · by_cases hb : b = e
      · have q' : G'.get? b = some o := q
        rw [hb, ge] at q'; cases q'
      · exact (gk b hb).symm.trans q
    · rw [upd_ne (Ne.symm M.dne)]
      exact I1.hok.fresh M.new
/-- raise X(e) -/
def tRaiseErr (C : Addr) (fld : Str) (W : WX) (ta : TA) : TS := fun _ σ H => tMkErr C fld ta σ H fun cls d H' => W cls d σ H'
theorem ps_raiseErr {a : Expr} {ta : TA} {W : WX} {p pos pos2 : Pos} {k : Nat} (hc : X.calm = true) (T : PySem.ErrX.ErrTxt X.K X.mg x fld C fI) (hr : Room k X.A) (tk : Takes X W) (ha : PA X [a] ta) (hg : Gl X x := by rfl) (hdb : (x == ("__debug__" : Str)) = false := by decide)
    (he : starEach (a :: []) X.env = (false, eval a X.env) :: starEach [] X.env := by rfl) (hpl : (backTo pos (starEach [] X.env)).any (·.1) = false := by rfl) :
    PS X (.Raise (some (.Call (.Name x p) [a] [] pos)) none pos2) (tRaiseErr C fld W ta) := ps_raise hc tk (pmk_err T hr ha hg hdb he hpl)
/-- e.f, e the exception that the suite holds -/
def tErrFld (C : Addr) (fld : Str) (a : Addr) (cls : Value) (d : Option Addr) (te : TE) : TE := fun σ H Q => te σ H fun x H1 => x = .ref a ∧ cls = .ref C ∧ ∃ (dd : Addr) (v : V), d = some dd ∧ H1 dd = some (.xd [(fld, v)]) ∧ Q v H1
theorem pe_errFld {a : Addr} {oe : Obj} {cls : Value} {d : Option Addr} {pn : List (Addr × Obj)} {e : Expr} {te : TE} {pos : Pos} (T : PySem.ErrX.ErrTxt X.K X.mg x fld C fI) (hz : Zc cls d oe) (hf : ∃ vs, oe.data = .fields vs) (he : PE (X.suite a ((a, oe) :: pn)) e te)
    (hb : attributeBase e fld X.env (eval e X.env) = eval e X.env := by rfl) :
    PE (X.suite a ((a, oe) :: pn)) (.Attribute e fld pos) (tErrFld C fld a cls d te) := by
  refine ⟨fun pins s σ H Q I h => ?_⟩
  refine attr_of hb (thn (he.run pins s σ H _ I h) fun u s1 hh => ?_)
  obtain ⟨x, H1, I1, rx, ex, ec, dd, v, ed, ea, q⟩ := hh
  subst ex
  obtain rfl : u = Value.ref a := rx
  subst ec
  subst ed
  obtain ⟨ha, _⟩ := I1.pin (a, oe) (List.mem_append_left _ List.mem_cons_self)
  obtain ⟨vs, hd⟩ := hf
  have hx : ObjOk X.prog X.w H1 s1.heap dd (.xd [(fld, v)]) := I1.hok dd _ ea
  obtain ⟨mA, hns, hr⟩ := hx
  obtain ⟨od, ho, hl⟩ := lookIn_ns hns
  have l : List.lookup fld [(fld, v)] = some v := by simp [List.lookup]
  obtain ⟨u, hu, ru⟩ := RelO.some_of (v := v) (o := mA fld) (by rw [← l]; exact hr fld)
  have J : PySem.W.InstAt s1.heap a oe C (some od) := ⟨ha, hz.1, by unfold PySem.W.notCls; rw [hd] <;> rfl, by rw [hz.2]; exact ho⟩
  exact HandSPX.exc_get I1.kIn J T.ga T.gg T.exC (PySem.W.findObj_own T.hdC T.noN rfl (by rw [hl, hu])) (handed_of ru) ⟨v, H1, I1.tok _, ru, q⟩
/-- isinstance(e, c), e the exception that the suite holds, with its own dict -/
theorem call_isED {a : Addr} {cls : Value} {oe : Obj} {pn : List (Addr × Obj)} {d : Option Addr} (hz : Zc cls d oe) (hf : ∃ vs, oe.data = .fields vs) :
    CallR (X.suite a ((a, oe) :: pn)) (.builtin "isinstance") (fun xs H Q => ∃ (D : Addr) (c : V) (cv : Value) (b : Bool) (dd : Addr) (fs : List (Str × V)), cls = .ref D ∧ ExcC X.K D ∧ xs = [.ref a, c] ∧ (∀ u, RelV c u → u = cv) ∧ d = some dd ∧ H dd = some (.xd fs) ∧ PySem.W.kitOne X.K (.ref D) cv = some b ∧ Q (.bl b) H) := by
  intro pins s σ H xs us Q I r h
  obtain ⟨D, c, cv, b, dd, fs, rfl, E, rfl, hcv, rfl, ea, e, q⟩ := h
  cases r with
  | cons rx rr =>
    cases rr with
    | cons rt rr =>
      cases rr
      cases rx
      have ec := hcv _ rt
      subst ec
      obtain ⟨hget, _⟩ := I.pin (a, oe) (List.mem_append.mpr (.inl List.mem_cons_self))
      obtain ⟨vs, hv⟩ := hf
      have hx : ObjOk X.prog X.w H s.heap dd (.xd fs) := I.hok dd _ ea
      obtain ⟨mA, hns, hr⟩ := hx
      obtain ⟨od, ho, hl⟩ := lookIn_ns hns
      have J : PySem.W.InstAt s.heap a oe D (some od) := ⟨hget, hz.1, by unfold PySem.W.notCls; rw [hv] <;> rfl, by rw [hz.2]; exact ho⟩
      have hcl : (PySem.W.clsIn X.K D).isSome = true := by
        obtain ⟨cd, hc, _⟩ := PySem.W.any_some E.hd
        rw [hc]
        rfl
      exact PySem.W.kia_one (PySem.W.kitx_exc hcl E.hg E.hk E.hs E.ha E.hn E.ht E.hm) I.kIn J e (fun z => nomatch z) fun tk => ⟨.bl b, H, I.kept (t' := tk) fun _ _ z => z, rfl, q⟩
end
end L2
set_option maxHeartbeats 1000000
/-! check_nodes: over data -/
namespace Pw
open PySem PySem.Spec PyProof.Rows L2
abbrev sCheck : Stmt := topS 46
theorem scCheck : FnScope ["nodes", "kinds", "uses", "at", "node", "name"] ["nodes"] (defScope sCheck) := ⟨rfl, rfl, rfl, by decide +kernel, rfl, by decide +kernel, by decide +kernel⟩
def wordsOf : List PyData → List Str
  | .str s :: r => s :: wordsOf r
  | _ => []
theorem wordsOf_map : ∀ zs : List Str, wordsOf (zs.map PyData.str) = zs
  | [] => rfl
  | z :: r => by
    show z :: wordsOf (r.map PyData.str) = _
    rw [wordsOf_map r]
def putU (us : List (Str × Int)) (z : Str) (v : Int) : List (Str × Int) := if (us.any fun p => decide (p.1 = z)) = true then us.map (fun p => if p.1 = z then (p.1, v) else p) else us ++ [(z, v)]
theorem putU_len (us : List (Str × Int)) (z : Str) (v : Int) : (putU us z v).length ≤ us.length + 1 := by
  unfold putU
  split
  · rw [List.length_map]
    omega
  · rw [List.length_append]
    exact Nat.le_refl _
theorem putK_words (us : List (Str × Int)) (z : Str) (v : Int) : putK (us.map fun p => ((.inr p.1 : Key), V.int p.2)) (.inr z) (.int v) = (putU us z v).map fun p => ((.inr p.1 : Key), V.int p.2) := by
  have e : ((us.map fun p => ((.inr p.1 : Key), V.int p.2)).any fun kv => decide (kv.1 = (.inr z : Key))) = us.any fun p => decide (p.1 = z) := by
    rw [List.any_map]
    congr 1
    funext p
    show decide ((Sum.inr p.1 : Key) = .inr z) = _
    by_cases h : p.1 = z
    · rw [decide_eq_true h, decide_eq_true (congrArg Sum.inr h)]
    · rw [decide_eq_false h, decide_eq_false (fun q => h (Sum.inr.inj q))]
  unfold putK putU
  rw [e]
  split
  · rw [List.map_map, List.map_map]
    apply List.map_congr_left
    intro p _
    show (if (Sum.inr p.1 : Key) = .inr z then ((.inr p.1 : Key), V.int v) else (.inr p.1, V.int p.2)) = _
    by_cases h : p.1 = z
    · rw [if_pos (congrArg Sum.inr h)]
      show _ = ((Sum.inr (if p.1 = z then (p.1, v) else p).1 : Key), V.int (if p.1 = z then (p.1, v) else p).2)
      rw [if_pos h]
    · rw [if_neg (fun q => h (Sum.inr.inj q))]
      show _ = ((Sum.inr (if p.1 = z then (p.1, v) else p).1 : Key), V.int (if p.1 = z then (p.1, v) else p).2)
      rw [if_neg h]
  · rw [List.map_append]
    rfl
def useAll (us : List (Str × Int)) (ns : List Str) : List (Str × Int) := ns.foldl (fun us z => putU us z (usesOf us z + 1)) us
theorem useAll_len : ∀ (ns : List Str) (us : List (Str × Int)), (useAll us ns).length ≤ us.length + ns.length
  | [], us => Nat.le_refl _
  | z :: r, us => by
    have h1 := useAll_len r (putU us z (usesOf us z + 1))
    have h2 := putU_len us z (usesOf us z + 1)
    rw [List.length_cons]
    show (useAll (putU us z (usesOf us z + 1)) r).length ≤ _
    omega
def step (ks : List (Str × Str)) (us : List (Str × Int)) (d : PyData) : Option (Str × Str × List Str) := match d with
  | .tuple [.str a, .str k, _, .list is] => if (isNode d && (ks.lookup a).isNone && mayRead (wordsOf is) ks us) = true then some (a, k, wordsOf is) else none
  | _ => none
def unusedSplit (ks : List (Str × Str)) (us : List (Str × Int)) : Bool := ks.any fun p => decide (ks.lookup p.1 = some "split") && (us.lookup p.1).isNone
theorem lookup_mem {α : Type} : ∀ {ks : List (Str × α)} {p : Str × α}, p ∈ ks → ∃ v, ks.lookup p.1 = some v
  | (a, b) :: r, p, h => by
    rw [List.lookup_cons]
    cases e : p.1 == a with
    | true => exact ⟨b, rfl⟩
    | false =>
      cases h with
      | head => exact absurd e (by rw [beq_self_eq_true]; exact fun z => by cases z)
      | tail _ t => exact lookup_mem t
def checkFrom : Nat → List (Str × Str) → List (Str × Int) → List PyData → Option Int
  | _, ks, us, [] => if unusedSplit ks us = true then some (-1) else none
  | n, ks, us, d :: ds => match step ks us d with
    | some r => checkFrom (n + 1) (ks ++ [(r.1, r.2.1)]) (useAll us r.2.2) ds
    | none => some (n : Nat)
def checkNodes : PyData → Option Int
  | .list ds => if (decide ((1 : Int) ≤ ds.length) && decide ((ds.length : Int) ≤ 30)) = true then checkFrom 0 [] [] ds else some (-1)
  | _ => some (-1)
theorem names_words : ∀ {ds : List PyData}, ds.all isName = true → ∃ zs : List Str, ds = zs.map PyData.str
  | [], _ => ⟨[], rfl⟩
  | d :: ds, h => by
    rw [List.all_cons, Bool.and_eq_true] at h
    obtain ⟨zs, e⟩ := names_words h.2
    cases d with
    | str s => exact ⟨s :: zs, by rw [e]; rfl⟩
    | _ => exact absurd h.1 Bool.false_ne_true
theorem node_shape {d : PyData} (h : isNode d = true) : ∃ (a k : Str) (p : PyData) (zs : List Str), d = .tuple [.str a, .str k, p, .list (zs.map PyData.str)] ∧ zs.length ≤ 10 := by
  unfold isNode at h
  split at h
  · rename_i n k p i
    rw [Bool.and_eq_true] at h
    obtain ⟨h1, h2⟩ := h
    cases n with
    | str a =>
      cases k with
      | str k =>
        have h3 : ((kindsL.lookup k).isSome && (areParams k p && areInputs k i)) = true := h2
        rw [Bool.and_eq_true, Bool.and_eq_true] at h3
        have h4 := h3.2.2
        cases i with
        | list is =>
          have h5 : (decide ((inRange k).1 ≤ is.length) && decide ((is.length : Int) ≤ (inRange k).2) && is.all isName) = true := h4
          rw [Bool.and_eq_true, Bool.and_eq_true] at h5
          obtain ⟨zs, e⟩ := names_words h5.2
          refine ⟨a, k, p, zs, by rw [e], ?_⟩
          have h6 := of_decide_eq_true h5.1.2
          have h7 : (inRange k).2 ≤ 10 := by
            unfold inRange
            split
            · decide
            · split
              · decide
              · split <;> decide
          rw [e, List.length_map] at h6
          omega
        | _ => exact absurd h4 Bool.false_ne_true
      | _ => exact absurd h2 Bool.false_ne_true
    | _ => exact absurd h1 Bool.false_ne_true
  · cases h
theorem step_no {ks : List (Str × Str)} {us : List (Str × Int)} {d : PyData} (h : isNode d = false) : step ks us d = none := by
  unfold step
  split
  · rw [if_neg]
    intro q
    rw [Bool.and_eq_true, Bool.and_eq_true, h] at q
    exact absurd q.1.1 Bool.false_ne_true
  · rfl
theorem step_at {ks : List (Str × Str)} {us : List (Str × Int)} {a k : Str} {p : PyData} {zs : List Str} (h : isNode (.tuple [.str a, .str k, p, .list (zs.map PyData.str)]) = true) :
    step ks us (.tuple [.str a, .str k, p, .list (zs.map PyData.str)]) = if ((ks.lookup a).isNone && mayRead zs ks us) = true then some (a, k, zs) else none := by
  unfold step
  dsimp only
  rw [h, wordsOf_map, Bool.true_and]
end Pw
set_option maxHeartbeats 2000000
/-! check_nodes -/
namespace Pw
open PySem PySem.Spec PyProof.Rows L2
theorem vals_words {K : PySem.W.Frag} {H : Hp} : ∀ {zs : List Str} {vs : List V}, DvAll K H vs (zs.map PyData.str) → vs = zs.map V.str
  | [], _, h => by cases h; rfl
  | z :: zs, _, h => by
    cases h with
    | cons h1 h2 =>
      cases h1
      rw [vals_words h2]
      rfl
theorem same_new {H H' : Hp} {a : Addr} {o : HO} (s : Same H H') (n : H a = none) : Same H (upd H' a o) := fun b x e => by
  rw [upd_ne (ne_of_none e n)]
  exact s b x e
section
variable {P : Program} {w : World} {K : PySem.W.Frag} {mg : Str → Option Value} {base : Heap} {CN fN : Addr}
def spCheck (K : PySem.W.Frag) (CN : Addr) : Sp := fun vs H Q E => ∃ x d, vs = [x] ∧ Dv K H x d ∧ smB d = true ∧
  (checkNodes d = none → ∀ H', Same H H' → Q .non H') ∧
  ∀ n, checkNodes d = some n → ∀ (H' : Hp) (dd : Addr), Same H H' → H' dd = none → E (.ref CN) (some dd) (upd H' dd (.xd [("at", .int n)]))
theorem ok_check (B : Blt mg) (bE : mg "enumerate" = none) (R : PySem.ErrX.ErrTxt K mg "InvalidNet" "at" CN fN) {tm : Tok} (gM : mg "MOST_NODES" = some (.int 30 tm)) (G1 : DefOk P w K mg base CX0 8 "is_node" ["value"] (spNode K)) (G2 : DefOk P w K mg base CX0 1 "may_read" ["inputs", "kinds", "uses"] (spMay K))
    (D : Dfn K mg "check_nodes" sCheck ["nodes"]) : DefOk P w K mg base (L2.CX P w) 9 "check_nodes" ["nodes"] (spCheck K CN) := D.ok fun f fd F => by
  refine F.okX scCheck (fun vs H Q E h => ?_) (fun cdv A outer s H vs Q E hr h => ?_)
  · obtain ⟨x, d, rfl, _⟩ := h
    rfl
  · obtain ⟨x, d, rfl, hx, hs, q, qe⟩ := h
    have nd := scCheck.nd
    refine ⟨_, pss_cons (ps_if (PW.pt (pw_or (pt_not (pt_val (pe_isi B.isi (pa_cons (pv 0) (pa_cons (pe_cls (n := "list") "list" B.list) pa_nil)))))
        (pw_or1 (pt_not (pt_chain op_le op_le pe_int (pe_callB call_len_seq (by rfl) B.len PySem.boot_len (pa_cons (pv 0) pa_nil)) (pe_glob (v := .int 30) rfl gM ⟨_, rfl⟩))))))
        (pss_one (ps_raiseErr (W := fun cls d _ H => E cls d H) rfl R hr (takes_of rfl rfl rfl rfl) (by exact (pa_cons (pe_un un_neg pe_int) pa_nil)))) pss_nil)
      (pss_cons (ps_set (i := 1) nd rfl (.inl rfl) pe_dnewK)
      (pss_cons (ps_set (i := 2) nd rfl (.inl rfl) pe_dnewK)
      (pss_cons (ps_for (passes_of rfl) rfl (pi_enum (by rfl) bE (pa_cons (pv 0) pa_nil)) (pg_tup rfl (pgs_cons (pg_name (i := 3) nd rfl (Or.inl rfl)) (pgs_cons (pg_name (i := 4) nd rfl (Or.inl rfl)) pgs_nil)))
        (pss_cons (ps_if (PW.pt (pw_or (pt_not (pt_val (pe_def G1 hr pass0 (pa_cons (pv 4) pa_nil))))
            (pw_or (pt_cmp (pc_din (Nat.lt_of_le_of_lt (Nat.add_le_add_left (by decide : 1 ≤ 64) _) hr.units) (pe_ix ix_tup (pv 4) pe_int (fun _ _ => rfl)) (pv 1)) (by rfl))
            (pw_or1 (pt_not (pt_val (pe_def G2 hr pass0 (pa_cons (pe_ix ix_tup (pv 4) pe_int (fun _ _ => rfl)) (pa_cons (pv 1) (pa_cons (pv 2) pa_nil))))))))))
          (pss_one (ps_raiseErr (W := fun cls d _ H => E cls d H) rfl R hr (takes_of rfl rfl rfl rfl) (by exact (pa_cons (pv 3) pa_nil)))) pss_nil)
        (pss_cons (ps_dput (Nat.lt_of_le_of_lt (Nat.add_le_add_left (by decide : 1 ≤ 64) _) hr.units) (pv 1) (pe_ix ix_tup (pv 4) pe_int (fun _ _ => rfl)) (pe_ix ix_tup (pv 4) pe_int (fun _ _ => rfl)) (by rfl))
        (pss_one (ps_for (passes_of rfl) rfl (pi_list (pe_ix ix_tup (pv 4) pe_int (fun _ _ => rfl))) (pg_name (i := 5) nd rfl (Or.inl rfl))
          (pss_one (ps_dput (Nat.lt_of_le_of_lt (Nat.add_le_add_left (by decide : 1 ≤ 64) _) hr.units) (pv 2) (pv 5) (pe_op op_add (pe_dget2 (Nat.lt_of_le_of_lt (Nat.add_le_add_left (by decide : 1 ≤ 64) _) hr.units) (pv 2) (pv 5) pe_int ⟨rfl, rfl, rfl, rfl⟩) pe_int) (by rfl))))))))
      (pss_one (ps_lock (ps_for (passes_of rfl) rfl (pi_keys (pv 1)) (pg_name (i := 5) nd rfl (Or.inl rfl))
        (pss_one (ps_if (PW.pt (pw_and (pt_cmpR op_eq (pe_dget (Nat.lt_of_le_of_lt (Nat.add_le_add_left (by decide : 1 ≤ 64) _) hr.units) (pv 1) (pv 5) (fun _ _ => rfl)) pe_str (nomark _))
            (pw_and1 (pt_cmp (pc_dnotin (Nat.lt_of_le_of_lt (Nat.add_le_add_left (by decide : 1 ≤ 64) _) hr.units) (pv 5) (pv 2)) (by rfl)))))
          (pss_one (ps_raiseErr (W := fun cls d _ H => E cls d H) rfl R hr (takes_of rfl rfl rfl rfl) (by exact (pa_cons (pe_un un_neg pe_int) pa_nil)))) pss_nil)))))))), ?_⟩
    refine ⟨x, rfl, _, _, _, _, _, rfl, .ty "list", hx.ty, kit_ty (isa_list d), _, rfl, ?_⟩
    cases hd : isList d with
    | false =>
      have z : checkNodes d = some (-1) := by
        cases d <;> first | rfl | cases hd
      exact ⟨_, rfl, _, rfl, fun dd nd' => qe _ z H dd (Same.refl _) nd'⟩
    | true =>
      cases hx with
      | @lst a xs ds ha hzz hds =>
        have hl := hds.length
        refine ⟨.ref a, rfl, a, xs, rfl, .inl (SqL.of ha), _, _, rfl, rfl, _, rfl, ite2 (fun e1 => ?_) (fun e1 => ?_)⟩
        · refine ⟨_, _, rfl, rfl, _, rfl, ?_⟩
          cases e2 : decide ((xs.length : Int) ≤ 30) with
          | false =>
            have z1 : checkNodes (.list ds) = some (-1) := by
              show (if (_ && _) = true then _ else _) = _
              rw [← hl, e2, Bool.and_false, if_neg Bool.false_ne_true]
            exact ⟨_, rfl, _, rfl, fun dd nd' => qe _ z1 H dd (Same.refl _) nd'⟩
          | true =>
            have z1 : checkNodes (.list ds) = checkFrom 0 [] [] ds := by
              show (if (_ && _) = true then _ else _) = _
              rw [← hl, e1, e2, Bool.true_and, if_pos rfl]
            rw [z1] at q qe
            have l30 : xs.length ≤ 30 := by
              have := of_decide_eq_true e2
              omega
            refine fun kA nK => ?_
            refine fun uA nU => ?_
            have nKu : kA ≠ uA := fun e => by
              rw [e, upd_same] at nU
              cases nU
            have nU' : H uA = none := by
              rwa [upd_ne (fun e => nKu e.symm)] at nU
            refine ⟨.ref a, rfl, a, xs, rfl, SqL.of (same_new (same_new (Same.refl _) nK) nU' a _ ha), ?_⟩
            refine for_it (walk_enum (xs := xs)) (fun j σ H' => ∃ ks us z3 z4 z5, σ = [some (.ref a), some (.ref kA), some (.ref uA), z3, z4, z5] ∧ Same H H' ∧ H' kA = some (kwO ks) ∧ H' uA = some (kiO us) ∧ ks.length ≤ j ∧ us.length ≤ 10 * j ∧ checkFrom j ks us (ds.drop j) = checkFrom 0 [] [] ds)
              ⟨[], [], none, none, none, rfl, same_new (same_new (Same.refl _) nK) nU', by rw [upd_ne nKu, upd_same]; rfl, by rw [upd_same]; rfl, Nat.zero_le _, Nat.zero_le _, rfl⟩
              (fun j σ H' hj p => by obtain ⟨_, _, _, _, _, _, sm, _⟩ := p; exact SqL.of (sm _ _ ha)) (fun j x σ H' H'' hj p y => ?_) (fun σ H' p => ?_)
            · obtain ⟨ks, us, z3, z4, z5, rfl, sm, hk, hu, lk, lu, ck⟩ := p
              obtain ⟨T, x1, v, rfl, nT, rfl, f1, f2⟩ := y
              cases f1
              have f2 : xs[j]? = some v := f2
              obtain ⟨e, f3, hv⟩ := (hds.same sm).getV f2
              have sT := same_upd (o := .tup [V.int (j : Nat), v]) nT
              have dj : ds.drop j = e :: ds.drop (j + 1) := by
                have lt : j < ds.length := (List.getElem?_eq_some_iff.mp f3).1
                rw [List.drop_eq_getElem_cons lt]
                rw [(List.getElem?_eq_some_iff.mp f3).2]
              rw [dj] at ck
              have sme : smB e = true := sm_mem (ds := ds) (by rw [← hs, smB]) e (List.mem_of_getElem? f3)
              have bad : step ks us e = none → checkFrom 0 [] [] ds = some (j : Nat) := fun z => by
                rw [← ck]
                show (match step ks us e with | some r => _ | none => _) = _
                rw [z]
                rfl
              refine ⟨T, _, rfl, SqT.of upd_same, rfl, _, _, rfl, _, _, rfl, rfl, ?_⟩
              refine ⟨v, rfl, v, e, rfl, hv.same sT, sme, fun H1 s1 => ⟨_, rfl, ?_⟩⟩
              have s2 : Same H H1 := sm.trans (sT.trans s1)
              cases e3 : isNode e with
              | false => exact ⟨_, rfl, _, rfl, fun dd nd' => qe _ (bad (step_no e3)) H1 dd s2 nd'⟩
              | true =>
                obtain ⟨na, kd, pr, zs, rfl, lz⟩ := node_shape e3
                have sa := step_at (ks := ks) (us := us) e3
                have hv1 := hv.same (sT.trans s1)
                cases hv1 with
                | @tup b ys es hb hyz hes =>
                  match ys, hes with
                  | [y1, y2, y3, y4], .cons h1 (.cons h2 (.cons h3 (.cons h4 .nil))) =>
                    cases h1
                    cases h2
                    cases h4 with
                    | @lst l ws es2 hl4 hlz hes2 =>
                      have ew : ws = zs.map V.str := vals_words hes2
                      subst ew
                      have hk1 : H1 kA = some (kwO ks) := s1 _ _ (sT _ _ hk)
                      have hu1 : H1 uA = some (kiO us) := s1 _ _ (sT _ _ hu)
                      have gk : DGet H1 kA (.str na) ((ks.lookup na).map V.str) := by
                        have := DGet.k (k := .inr na) hk1
                        rwa [valV_words] at this
                      refine ⟨.ref b, rfl, b, _, _, _, rfl, rfl, SqT.of hb, atI_nat (j := 0) rfl, _, rfl, kA, _, rfl, gk, _, rfl, ?_⟩
                      cases e4 : ks.lookup na with
                      | some k0 =>
                        have z : step ks us (.tuple [.str na, .str kd, pr, .list (zs.map PyData.str)]) = none := by
                          rw [sa, e4]
                          rfl
                        exact ⟨_, rfl, _, rfl, fun dd nd' => qe _ (bad z) H1 dd s2 nd'⟩
                      | none =>
                        refine ⟨.ref b, rfl, b, _, _, _, rfl, rfl, SqT.of hb, atI_nat (j := 3) rfl, _, rfl, _, rfl, l, kA, uA, zs, ks, us, rfl, SqL.of hl4, hk1, hu1, _, rfl, ?_⟩
                        cases e5 : mayRead zs ks us with
                        | false =>
                          have z : step ks us (.tuple [.str na, .str kd, pr, .list (zs.map PyData.str)]) = none := by
                            rw [sa, e5, Bool.and_false]
                            rfl
                          exact ⟨_, rfl, _, rfl, fun dd nd' => qe _ (bad z) H1 dd s2 nd'⟩
                        | true =>
                          have z : step ks us (.tuple [.str na, .str kd, pr, .list (zs.map PyData.str)]) = some (na, kd, zs) := by
                            rw [sa, e4, e5]
                            rfl
                          have ck2 : checkFrom (j + 1) (ks ++ [(na, kd)]) (useAll us zs) (ds.drop (j + 1)) = checkFrom 0 [] [] ds := by
                            rw [← ck]
                            show _ = (match step ks us _ with | some r => _ | none => _)
                            rw [z]
                          have nb : b ≠ kA := fun q => by
                            rw [q, hk1] at hb
                            cases hb
                          have nl : l ≠ kA := fun q => by
                            rw [q, hk1] at hl4
                            cases hl4
                          have nlu : l ≠ uA := fun q => by
                            rw [q, hu1] at hl4
                            cases hl4
                          have hput : HO.dK (putK (ks.map fun p => ((.inr p.1 : Key), V.str p.2)) (.inr na) (.str kd)) = kwO (ks ++ [(na, kd)]) := by
                            rw [putK_new _ (by rw [valV_words, e4]; rfl)]
                            show _ = HO.dK ((ks ++ [(na, kd)]).map _)
                            rw [List.map_append]
                            rfl
                          refine ⟨.ref b, rfl, b, _, _, _, rfl, rfl, SqT.of hb, atI_nat (j := 1) rfl, _, rfl, .ref b, rfl, b, _, _, _, rfl, rfl, SqT.of hb, atI_nat (j := 0) rfl, kA, _, rfl, .inl ⟨_, .inr na, hk1, rfl, (by rw [List.length_map]; exact Nat.lt_of_le_of_lt (by omega : ks.length ≤ 1000) (by decide)), rfl⟩, ?_⟩
                          rw [hput]
                          have s3 : Same H (upd H1 kA (kwO (ks ++ [(na, kd)]))) := same_new s2 nK
                          have hb3 : upd H1 kA (kwO (ks ++ [(na, kd)])) b = some (.tup [.str na, .str kd, y3, .ref l]) := by
                            rw [upd_ne nb]
                            exact hb
                          have hl3 : upd H1 kA (kwO (ks ++ [(na, kd)])) l = some (.lst (zs.map V.str)) := by
                            rw [upd_ne nl]
                            exact hl4
                          refine ⟨.ref b, rfl, b, _, _, _, rfl, rfl, SqT.of hb3, atI_nat (j := 3) rfl, l, rfl, ⟨_, SqL.of hl3⟩, ?_⟩
                          refine for_it (walk_list (xs := zs.map V.str)) (fun i σ H3 => ∃ z6, σ = [some (.ref a), some (.ref kA), some (.ref uA), some (.int (j : Nat)), some (.ref b), z6] ∧ Same H H3 ∧ H3 kA = some (kwO (ks ++ [(na, kd)])) ∧ H3 uA = some (kiO (useAll us (zs.take i))) ∧ H3 l = some (.lst (zs.map V.str)))
                            ⟨z5, rfl, s3, upd_same, by rw [upd_ne (fun q => nKu q.symm)]; exact hu1, hl3⟩ (fun i σ H3 hi p => by obtain ⟨_, _, _, _, _, hq⟩ := p; exact SqL.of hq) (fun i x σ H3 H4 hi p y => ?_) (fun σ H3 p => ?_)
                          · obtain ⟨z6, rfl, s4, k4, u4, l4⟩ := p
                            obtain ⟨rfl, f5⟩ := y
                            rw [List.getElem?_map] at f5
                            obtain ⟨n, f6, rfl⟩ := Option.map_eq_some_iff.mp f5
                            have gu : DGet H4 uA (.str n) (((useAll us (zs.take i)).lookup n).map V.int) := by
                              have := DGet.k (k := .inr n) u4
                              rwa [valV_words] at this
                            have eu : (((useAll us (zs.take i)).lookup n).map V.int).getD (V.int 0) = V.int (usesOf (useAll us (zs.take i)) n) := by
                              unfold usesOf
                              cases (useAll us (zs.take i)).lookup n <;> rfl
                            refine ⟨_, rfl, uA, rfl, .inl ⟨_, .inl u4⟩, _, rfl, _, gu, ?_⟩
                            rw [eu]
                            have ll : (useAll us (zs.take i)).length ≤ 1000 := by
                              have h1 := useAll_len (zs.take i) us
                              have h2 : (zs.take i).length ≤ zs.length := by
                                rw [List.length_take]
                                omega
                              omega
                            refine ⟨_, _, rfl, rfl, _, rfl, _, rfl, uA, _, rfl, .inl ⟨_, .inr n, u4, rfl, (by rw [List.length_map]; exact Nat.lt_of_le_of_lt ll (by decide)), rfl⟩, ?_⟩
                            rw [putK_words]
                            refine ⟨_, rfl, same_new s4 nU', by rw [upd_ne nKu]; exact k4, ?_, by rw [upd_ne nlu]; exact l4⟩
                            rw [upd_same, List.take_add_one, f6]
                            show _ = some (kiO (useAll us (zs.take i ++ [n])))
                            unfold useAll
                            rw [List.foldl_append]
                            rfl
                          · obtain ⟨z6, rfl, s4, k4, u4, l4⟩ := p
                            rw [List.length_map, List.take_length] at u4
                            refine ⟨ks ++ [(na, kd)], useAll us zs, _, _, _, rfl, s4, k4, u4, ?_, ?_, ck2⟩
                            · rw [List.length_append]
                              show ks.length + 1 ≤ j + 1
                              omega
                            · have h1 := useAll_len zs us
                              omega
            · obtain ⟨ks, us, z3, z4, z5, rfl, sm, hk, hu, lk, lu, ck⟩ := p
              have ck : (if unusedSplit ks us = true then some (-1) else none) = checkFrom 0 [] [] ds := by
                rw [← ck, hl, List.drop_length]
                rfl
              have bad : ∀ p ∈ ks, (decide (ks.lookup p.1 = some "split") && (us.lookup p.1).isNone) = true → checkFrom 0 [] [] ds = some (-1) := fun p hp z => by
                have z2 : unusedSplit ks us = true := List.any_eq_true.mpr ⟨p, hp, z⟩
                rw [← ck, if_pos z2]
              refine ⟨kA, kwO ks, hk, trivial, fun od => ?_⟩
              have s2 : Same H (upd H' kA (.frz od (kwO ks))) := same_new sm nK
              have hkf : upd H' kA (.frz od (kwO ks)) kA = some (.frz od (.dK (ks.map fun p => ((.inr p.1 : Key), V.str p.2)))) := upd_same
              have huf : upd H' kA (.frz od (kwO ks)) uA = some (kiO us) := by
                rw [upd_ne (fun q => nKu q.symm)]
                exact hu
              refine ⟨_, rfl, kA, od, rfl, .inl ⟨_, hkf, ?_⟩⟩
              refine for_it (walk_keys (o := od) (d := kA) (kvs := ks.map fun p => ((.inr p.1 : Key), V.str p.2))) (fun i σ H3 => ∃ z6, σ = [some (.ref a), some (.ref kA), some (.ref uA), z3, z4, z6] ∧ H3 = upd H' kA (.frz od (kwO ks)) ∧ (ks.take i).any (fun p => decide (ks.lookup p.1 = some "split") && (us.lookup p.1).isNone) = false)
                ⟨z5, rfl, rfl, rfl⟩ (fun i σ H3 hi p => by obtain ⟨_, _, rfl, _⟩ := p; exact hkf) (fun i x σ H3 H4 hi p y => ?_) (fun σ H3 p => ?_)
              · obtain ⟨z6, rfl, rfl, ok⟩ := p
                obtain ⟨rfl, k0, v0, f1, rfl⟩ := y
                rw [List.getElem?_map] at f1
                obtain ⟨p, f2, f3⟩ := Option.map_eq_some_iff.mp f1
                cases f3
                have mem := List.mem_of_getElem? f2
                obtain ⟨kd, e1⟩ := lookup_mem mem
                have gk : DGet (upd H' kA (.frz od (kwO ks))) kA (.str p.1) (some (.str kd)) := .inl ⟨_, .inr p.1, .inr ⟨od, hkf⟩, rfl, by rw [valV_words, e1]; rfl⟩
                have gu : DGet (upd H' kA (.frz od (kwO ks))) uA (.str p.1) ((us.lookup p.1).map V.int) := by
                  have := DGet.k (k := .inr p.1) huf
                  rwa [valV_words] at this
                have go : (decide (ks.lookup p.1 = some "split") && (us.lookup p.1).isNone) = false → (ks.take (i + 1)).any (fun p => decide (ks.lookup p.1 = some "split") && (us.lookup p.1).isNone) = false := fun z => by
                  rw [List.take_add_one, f2]
                  show (ks.take i ++ [p]).any _ = false
                  rw [List.any_append, ok, List.any_cons, z]
                  rfl
                refine ⟨_, rfl, _, rfl, kA, _, rfl, gk, rfl, _, rfl, ite2 (fun e2 => ?_) (fun e2 => ?_)⟩
                · have e3 : kd = "split" := by
                    have z : V.str kd = V.str "split" := of_decide_eq_true e2
                    injection z
                  rw [e3] at e1
                  refine ⟨_, rfl, _, rfl, uA, _, rfl, gu, _, rfl, ?_⟩
                  cases e4 : us.lookup p.1 with
                  | none => exact ⟨_, rfl, _, rfl, fun dd nd' => qe _ (bad p mem (by rw [e1, e4]; decide)) _ dd s2 nd'⟩
                  | some n => exact ⟨_, rfl, rfl, go (by rw [e4]; exact Bool.and_false _)⟩
                · refine ⟨_, rfl, rfl, go ?_⟩
                  have e3 : ¬ ks.lookup p.1 = some "split" := fun z => by
                    rw [e1] at z
                    cases z
                    exact e2 (decide_eq_true rfl)
                  rw [decide_eq_false e3, Bool.false_and]
              · obtain ⟨z6, rfl, rfl, ok⟩ := p
                rw [List.length_map, List.take_length] at ok
                have z2 : unusedSplit ks us = false := ok
                rw [z2, if_neg Bool.false_ne_true] at ck
                exact ⟨hkf, q ck.symm _ (same_new s2 nK)⟩
        · have z1 : checkNodes (.list ds) = some (-1) := by
            show (if (_ && _) = true then _ else _) = _
            rw [← hl, Bool.eq_false_iff.mpr e1, Bool.false_and, if_neg Bool.false_ne_true]
          exact ⟨_, rfl, _, rfl, _, rfl, fun dd nd' => qe _ z1 H dd (Same.refl _) nd'⟩
      | _ => cases hd
end
end Pw
set_option maxHeartbeats 1000000
/-! copied -/
namespace Pw
open PySem PySem.Spec PyProof.Rows L2
abbrev sCopied : Stmt := topS 45
theorem scCopied : FnScope ["value", "part"] ["value"] (defScope sCopied) := ⟨rfl, rfl, rfl, by decide +kernel, rfl, by decide +kernel, by decide +kernel⟩
/-- what is new in H' -/
def newOf (H H' : Hp) : Hp := fun b => match H b with
  | none => H' b
  | some _ => none
theorem newOf_at {H H' : Hp} {b : Addr} {o : HO} (h : H b = none) (h' : H' b = some o) : newOf H H' b = some o := by
  unfold newOf
  rw [h]
  exact h'
theorem newOf_same {H H' : Hp} : Same (newOf H H') H' := fun b x e => by
  unfold newOf at e
  cases h : H b with
  | none =>
    rw [h] at e
    exact e
  | some o =>
    rw [h] at e
    cases e
theorem newOf_mono {H H1 H2 H3 : Hp} (s1 : Same H H1) (s2 : Same H2 H3) : Same (newOf H1 H2) (newOf H H3) := fun b x e => by
  have e2 := newOf_same b x e
  unfold newOf at e ⊢
  cases h : H b with
  | none => exact s2 b x e2
  | some o =>
    rw [s1 b o h] at e
    cases e
def dpB : Nat → PyData → Bool
  | 0, _ => false
  | n + 1, .list ds => ds.all (dpB n)
  | n + 1, .tuple ds => ds.all (dpB n)
  | _ + 1, .none => true
  | _ + 1, .bool _ => true
  | _ + 1, .int _ => true
  | _ + 1, .str _ => true
  | _ + 1, _ => false
theorem DvAll.snoc {K : PySem.W.Frag} {H : Hp} {y : V} {d : PyData} (hy : Dv K H y d) : ∀ {ys : List V} {ds : List PyData}, DvAll K H ys ds → DvAll K H (ys ++ [y]) (ds ++ [d])
  | [], _, h => by
    cases h
    exact .cons hy .nil
  | _ :: _, _, h => by
    cases h with
    | cons h1 h2 => exact .cons h1 (DvAll.snoc hy h2)
theorem lc_data {K : PySem.W.Frag} {J : It} {n : Nat} {G : Hp → Prop} {xs : List V} (w : Walk J n G (YAt xs)) {te : TE} {vs : List Nat} {j : Nat} {σ : L2.St} {H1 : Hp} {D : Addr} {Qd : Hp → Prop} {ds : List PyData} (hds : DvAll K H1 xs ds) (hn : xs.length = n) (hz : n < sizeLine) (nD : H1 D = none)
    (hG : ∀ H, Same H1 H → G H) (hw : ∀ x, wipe ((wipe σ vs).set j (some x)) vs = wipe σ vs)
    (hs : ∀ (i : Nat) (v : V) (d : PyData) (H : Hp) (Q : VK), ds[i]? = some d → Same H1 H → Dv K H v d → (∀ y H4, Same H H4 → Dv K (newOf H H4) y d → Q y H4) → te ((wipe σ vs).set j (some v)) H Q)
    (hd : ∀ (H : Hp) (ys : List V), Same H1 H → H D = some (.lst ys) → DvAll K (newOf (upd H1 D (.lst [])) H) ys ds → Qd H) :
    ∃ W : Nat → Nat → Hp → Prop, (∃ m, W 0 m (upd H1 D (.lst []))) ∧ ∀ i m H, W i m H →
      (J.stop i H ∧ Qd H) ∨ (J.go i H ∧ ∃ Nx : Hp → Prop, (∀ H', Nx H' → ∃ m', m' < m ∧ W (i + 1) m' H') ∧ ∀ x H', J.yld i H x H' → gName j x (wipe σ vs) H' fun σ2 H2 => wipe σ2 vs = wipe σ vs ∧ tYes σ2 H2 fun b H3 =>
        if b = true then te σ2 H3 fun y H4 => ∃ acc, H4 D = some (.lst acc) ∧ acc.length < sizeLine ∧ Nx (upd H4 D (.lst (acc ++ [y]))) else Nx H3) := by
  have hl := hds.length
  refine lc_it w (fun i H => Same H1 H ∧ ∃ ys, H D = some (.lst ys) ∧ DvAll K (newOf (upd H1 D (.lst [])) H) ys (ds.take i)) ⟨same_upd nD, [], upd_same, .nil⟩ (fun i H _ p => hG H p.1) (fun i x H H' hi p y => ?_) (fun H p => ?_)
  · obtain ⟨sm, ys, eD, hys⟩ := p
    obtain ⟨rfl, hx⟩ := y
    obtain ⟨d, e1, e2⟩ := (hds.same sm).getV hx
    refine ⟨hw x, ?_⟩
    show te _ _ _
    refine hs i x d H' _ e1 sm e2 fun y H4 s4 hy => ⟨ys, s4 _ _ eD, ?_, fun b o e => ?_, ys ++ [y], upd_same, ?_⟩
    · rw [hys.length, List.length_take]
      omega
    · rw [upd_ne (ne_of_none e nD)]
      exact s4 _ _ (sm _ _ e)
    · rw [List.take_add_one, e1]
      refine DvAll.snoc (hy.same fun b o e => ?_) (hys.same fun b o e => ?_)
      · have e3 := newOf_same b o e
        have nb : H' b = none := by
          unfold newOf at e
          cases h : H' b with
          | none => rfl
          | some z =>
            rw [h] at e
            cases e
        have bD : b ≠ D := fun q => by
          rw [q, eD] at nb
          cases nb
        refine newOf_at ?_ (by rw [upd_ne bD]; exact e3)
        rw [upd_ne bD]
        cases h : H1 b with
        | none => rfl
        | some z =>
          rw [sm b z h] at nb
          cases nb
      · have e3 := newOf_same b o e
        have nb : upd H1 D (.lst []) b = none := by
          unfold newOf at e
          cases h : upd H1 D (.lst []) b with
          | none => rfl
          | some z =>
            rw [h] at e
            cases e
        have bD : b ≠ D := fun q => by
          rw [q, upd_same] at nb
          cases nb
        exact newOf_at nb (by rw [upd_ne bD]; exact s4 _ _ e3)
  · obtain ⟨sm, ys, eD, hys⟩ := p
    rw [List.take_of_length_le (by omega)] at hys
    exact hd H ys sm eD hys
theorem newOf_drop {H H' : Hp} {D : Addr} {o : HO} (nD : H D = none) : Same (newOf (upd H D o) H') (newOf H H') := fun b x e => by
  have e2 := newOf_same b x e
  have nb : upd H D o b = none := by
    unfold newOf at e
    cases h : upd H D o b with
    | none => rfl
    | some z =>
      rw [h] at e
      cases e
  have bD : b ≠ D := fun q => by
    rw [q, upd_same] at nb
    cases nb
  rw [upd_ne bD] at nb
  exact newOf_at nb e2
section
variable {P : Program} {w : World} {K : PySem.W.Frag} {mg : Str → Option Value} {base : Heap}
def spCopied (K : PySem.W.Frag) (n : Nat) : Sp := fun vs H Q _ => ∃ x d, vs = [x] ∧ Dv K H x d ∧ dpB n d = true ∧ ∀ y H', Same H H' → Dv K (newOf H H') y d → Q y H'
theorem ok_copied (B : Blt mg) (D : Dfn K mg "copied" sCopied ["value"]) : ∀ n : Nat, DefOk P w K mg base CX0 n "copied" ["value"] (spCopied K n)
  | 0 => D.ok fun f fd F => ⟨fun vs H Q E h => (by obtain ⟨_, _, _, _, z, _⟩ := h; cases z), fun A outer s H args us vs Q E hr e0 hb hv h => (by obtain ⟨_, _, _, _, z, _⟩ := h; cases z)⟩
  | n + 1 => by
    have G := ok_copied B D n
    refine D.ok fun f fd F => ?_
    refine F.ok scCopied (fun vs H Q E h => ?_) (fun cdv A outer s H vs Q E hr h => ?_)
    · obtain ⟨x, d, rfl, _⟩ := h
      rfl
    · obtain ⟨x, d, rfl, hx, hn, q⟩ := h
      have nd := scCopied.nd
      refine ⟨_, pss_cons (ps_if (pt_val (pe_isi B.isi (pa_cons (pv 0) (pa_cons (pe_cls (n := "list") "list" B.list) pa_nil))))
          (pss_one (ps_ret (pe_lc (own := [("part", 1)]) (g := gName 1) (tt := tYes) rfl nd (pi_list (pv 0)) (blkOk_by (N := ["value", "part"]) (sc := defScope sCopied) (by decide +kernel))
            (fun _ _ _ _ _ => pg_name (i := 1) nd rfl (Or.inl rfl)) (fun _ _ _ _ _ => pts_nil)
            (fun _ _ _ _ _ => pe_def G hr pass0 (pa_cons (pv 1) pa_nil) (Nat.le_refl _))))) pss_nil)
        (pss_cons (ps_if (pt_val (pe_isi B.isi (pa_cons (pv 0) (pa_cons (pe_cls (n := "tuple") "tuple" B.tuple) pa_nil))))
          (pss_one (ps_ret (pe_tupleOf (by rfl) B.tuple (pe_lc (own := [("part", 1)]) (g := gName 1) (tt := tYes) rfl nd (pi_tup (pv 0)) (blkOk_by (N := ["value", "part"]) (sc := defScope sCopied) (by decide +kernel))
            (fun _ _ _ _ _ => pg_name (i := 1) nd rfl (Or.inl rfl)) (fun _ _ _ _ _ => pts_nil)
            (fun _ _ _ _ _ => pe_def G hr pass0 (pa_cons (pv 1) pa_nil) (Nat.le_refl _)))))) pss_nil)
        (pss_one (ps_ret (pv 0)))), ?_⟩
      refine ⟨x, rfl, _, _, _, _, _, rfl, .ty "list", hx.ty, kit_ty (isa_list d), _, rfl, ite2 (fun e1 => ?_) (fun e1 => ?_)⟩
      · cases hx with
        | @lst a xs ds ha hzz hds =>
          have hn2 : ∀ e ∈ ds, dpB n e = true := fun e he => List.all_eq_true.mp (show ds.all (dpB n) = true from hn) e he
          refine ⟨.ref a, rfl, a, rfl, ⟨_, SqL.of ha⟩, fun D1 nD1 => ?_⟩
          refine lc_data walk_list hds rfl (Nat.lt_of_le_of_lt hzz (by decide)) nD1 (fun H' s' => SqL.of (s' _ _ ha)) (fun _ => rfl) (fun i v e H' Q' he sm hv k => ?_) (fun H' ys s' eD hys => ?_)
          · exact ⟨v, rfl, v, e, rfl, hv, hn2 e (List.mem_of_getElem? he), k⟩
          · refine q _ _ s' (.lst (newOf_at nD1 eD) ?_ (hys.same (newOf_drop nD1)))
            rw [hys.length, ← hds.length]
            exact hzz
        | _ => cases e1
      · refine ⟨x, rfl, _, _, _, _, _, rfl, .ty "tuple", hx.ty, kit_ty (isa_tuple d), _, rfl, ite2 (fun e2 => ?_) (fun e2 => ?_)⟩
        · cases hx with
          | @tup a xs ds ha hzz hds =>
            have hn2 : ∀ e ∈ ds, dpB n e = true := fun e he => List.all_eq_true.mp (show ds.all (dpB n) = true from hn) e he
            refine ⟨.ref a, rfl, a, rfl, ⟨_, SqT.of ha⟩, fun D1 nD1 => ?_⟩
            refine lc_data walk_tup hds rfl (Nat.lt_of_le_of_lt hzz (by decide)) nD1 (fun H' s' => SqT.of (s' _ _ ha)) (fun _ => rfl) (fun i v e H' Q' he sm hv k => ?_) (fun H' ys s' eD hys => ?_)
            · exact ⟨v, rfl, v, e, rfl, hv, hn2 e (List.mem_of_getElem? he), k⟩
            · refine .inl ⟨D1, ys, rfl, SqL.of eD, fun T nT => ?_⟩
              have nT0 : H T = none := by
                cases h : H T with
                | none => rfl
                | some z =>
                  rw [s' T z h] at nT
                  cases nT
              refine q _ _ (same_new s' nT0) (.tup (newOf_at nT0 upd_same) ?_ (hys.same fun b o e => ?_))
              · rw [hys.length, ← hds.length]
                exact hzz
              · have e3 := newOf_drop nD1 b o e
                have e4 := newOf_same b o e
                have bT : b ≠ T := fun q' => by
                  rw [q', nT] at e4
                  cases e4
                have nb : H b = none := by
                  unfold newOf at e3
                  cases h : H b with
                  | none => rfl
                  | some z =>
                    rw [h] at e3
                    cases e3
                exact newOf_at nb (by rw [upd_ne bT]; exact e4)
          | _ => cases e2
        · refine ⟨x, rfl, q _ _ (Same.refl _) ?_⟩
          cases hx with
          | non => exact .non
          | bl b => exact .bl b
          | int i => exact .int i
          | str z => exact .str z
          | lst => exact absurd rfl e1
          | tup => exact absurd rfl e2
          | dct => cases hn
end
end Pw
set_option maxHeartbeats 1000000
/-! a value that is a test is the data of one -/
namespace Pw
open PySem PySem.Spec PyProof.Rows L2
theorem one_word {d : PyData} {ws : List Str} (h : oneOf d ws = true) : ∃ s, d = .str s ∧ s ∈ ws := by
  cases d with
  | str s => exact ⟨s, rfl, of_decide_eq_true h⟩
  | _ => cases h
theorem ints_data : ∀ {ds : List PyData} {lo hi : Int}, ds.all (fun e => between e lo hi) = true → ∃ ns : List Int, ds = ns.map PyData.int
  | [], _, _, _ => ⟨[], rfl⟩
  | d :: ds, lo, hi, h => by
    rw [List.all_cons, Bool.and_eq_true] at h
    obtain ⟨ns, e⟩ := ints_data h.2
    obtain ⟨n, rfl⟩ := int_of h.1
    exact ⟨n :: ns, by rw [e]; rfl⟩
theorem plain_shape {d : PyData} (h : isPlain d = true) : ∃ t : Tst, d = t.dat ∧ t.nots = 0 ∧ 1 ≤ modOf t ∧ modOf t ≤ 100 := by
  unfold isPlain at h
  split at h
  · rename_i a b
    rw [Bool.and_eq_true] at h
    obtain ⟨s, rfl, m⟩ := one_word h.1
    obtain ⟨n, rfl⟩ := int_of (d := b) (lo := -(10 ^ 30)) (hi := 10 ^ 30) h.2
    rcases List.mem_cons.mp m with rfl | m
    · exact ⟨.lt n, rfl, rfl, Int.le_refl _, (by decide : (1 : Int) ≤ 100)⟩
    · obtain rfl := List.mem_singleton.mp m
      exact ⟨.ge n, rfl, rfl, Int.le_refl _, (by decide : (1 : Int) ≤ 100)⟩
  · rename_i a m c
    rw [Bool.and_eq_true, Bool.and_eq_true] at h
    obtain ⟨⟨h1, h2⟩, h3⟩ := h
    obtain ⟨s, rfl, ms⟩ := one_word h1
    obtain rfl := List.mem_singleton.mp ms
    have hb : (decide (1 ≤ m) && decide (m ≤ 100)) = true := h2
    rw [Bool.and_eq_true] at hb
    cases c with
    | list ds =>
      have h4 : (ds.all (fun e => between e 0 (m - 1)) && ascD ds) = true := h3
      rw [Bool.and_eq_true] at h4
      obtain ⟨ns, rfl⟩ := ints_data h4.1
      exact ⟨.md m ns, rfl, rfl, of_decide_eq_true hb.1, of_decide_eq_true hb.2⟩
    | _ => cases h3
  · cases h
theorem unNot_shape : ∀ (n : Nat) {d : PyData} {t : Tst}, unNot n d = t.dat → t.nots = 0 → ∃ u : Tst, d = u.dat ∧ u.nots ≤ n ∧ modOf u = modOf t
  | 0, d, t, h, z => ⟨t, h, by omega, rfl⟩
  | n + 1, d, t, h, z => by
    unfold unNot at h
    split at h
    · rename_i e1 e2
      cases e2
    · rename_i n' a b e
      cases e
      by_cases ho : oneOf a ["not"] = true
      · rw [if_pos ho] at h
        obtain ⟨u, rfl, hu, hm⟩ := unNot_shape n h z
        obtain ⟨s, rfl, ms⟩ := one_word ho
        obtain rfl := List.mem_singleton.mp ms
        exact ⟨.neg u, rfl, by show u.nots + 1 ≤ _; omega, hm⟩
      · rw [if_neg ho] at h
        exact ⟨t, h, by omega, rfl⟩
    · exact ⟨t, h, by omega, rfl⟩
theorem test_shape {d : PyData} (h : isTest d = true) : ∃ t : Tst, d = t.dat ∧ t.nots < 4 ∧ 1 ≤ modOf t ∧ modOf t ≤ 100 := by
  obtain ⟨t, e, z, h1, h2⟩ := plain_shape h
  obtain ⟨u, e2, hu, hm⟩ := unNot_shape 3 e z
  exact ⟨u, e2, by omega, by omega, by omega⟩
end Pw
set_option maxHeartbeats 1000000
/-! own_weight -/
namespace Pw
open PySem PySem.Spec PyProof.Rows L2
abbrev sOwn : Stmt := topS 37
theorem scOwn : FnScope ["node", "_", "kind", "parameters", "inputs"] ["node"] (defScope sOwn) := ⟨rfl, rfl, rfl, by decide +kernel, rfl, by decide +kernel, by decide +kernel⟩
def modD : Nat → PyData → Int
  | n + 1, .tuple [a, t] => if oneOf a ["not"] = true then modD n t else 1
  | _, .tuple [_, .int m, _] => m
  | _, _ => 1
theorem modD_dat : ∀ (n : Nat) (t : Tst), t.nots < n → modD n t.dat = modOf t
  | 0, t, h => absurd h (Nat.not_lt_zero _)
  | n + 1, .neg t, h => modD_dat n t (Nat.lt_of_succ_lt_succ h)
  | n + 1, .lt v, _ => by
    show (if oneOf (.str "below") ["not"] = true then _ else (1 : Int)) = 1
    rw [if_neg (by decide +kernel)]
  | n + 1, .ge v, _ => by
    show (if oneOf (.str "from") ["not"] = true then _ else (1 : Int)) = 1
    rw [if_neg (by decide +kernel)]
  | n + 1, .md m rs, _ => rfl
def ownOf (k : Str) (ps is : List PyData) : Int :=
  if k ∈ [("ring" : Str), "table"] then (match ps with
    | [.list xs] => xs.length
    | _ => 1)
  else if k ∈ [("keep" : Str), "until", "after"] then (match ps with
    | [t] => modD 4 t
    | _ => 1)
  else if k = "stutter" then (match ps with
    | [.int n] => n
    | _ => 1)
  else if k = "batch" then (match ps with
    | [.int n, .str s, _] => if s = "sum" then n else 1
    | _ => 1)
  else if k = "turns" then is.length
  else if k = "choose" then (is.length : Int) - 1
  else 1
def ownW : PyData → Int
  | .tuple [_, .str k, .tuple ps, .list is] => ownOf k ps is
  | _ => 1
/-- what the parameters of a node are -/
theorem params_shape {d : PyData} (h : isNode d = true) : ∃ (a k : Str) (ps : List PyData) (zs : List Str) (ws : List Str), d = .tuple [.str a, .str k, .tuple ps, .list (zs.map PyData.str)] ∧ zs.length ≤ 10 ∧ kindsL.lookup k = some ws ∧ ps.length = ws.length ∧ fits ws ps = true := by
  obtain ⟨a, k, p, zs, rfl, lz⟩ := node_shape h
  have h1 : (isName (.str a) && ((kindsL.lookup k).isSome && (areParams k p && areInputs k (.list (zs.map PyData.str))))) = true := h
  rw [Bool.and_eq_true, Bool.and_eq_true, Bool.and_eq_true] at h1
  obtain ⟨_, h2, h3, _⟩ := h1
  obtain ⟨ws, hk⟩ := Option.isSome_iff_exists.mp h2
  unfold areParams at h3
  rw [hk] at h3
  cases p with
  | tuple ps =>
    have h4 : (decide (ps.length = ws.length) && (fits ws ps && batchOk k ps)) = true := h3
    rw [Bool.and_eq_true, Bool.and_eq_true] at h4
    exact ⟨a, k, ps, zs, ws, rfl, lz, hk, of_decide_eq_true h4.1, h4.2.1⟩
  | _ => exact absurd h3 Bool.false_ne_true
theorem fit_one {w : Str} {ps : List PyData} (hl : ps.length = 1) (h : fits [w] ps = true) : ∃ p, ps = [p] ∧ ofSort w p = true := by
  match ps, hl with
  | [p], _ =>
    have h' : (ofSort w p && true) = true := h
    rw [Bool.and_true] at h'
    exact ⟨p, rfl, h'⟩
theorem ring_shape {k : Str} {ps : List PyData} {ws : List Str} (hm : k ∈ [("ring" : Str), "table"]) (hk : kindsL.lookup k = some ws) (hl : ps.length = ws.length) (hf : fits ws ps = true) : ∃ xs, ps = [.list xs] := by
  have e : ws = [("some integers" : Str)] := by
    rcases List.mem_cons.mp hm with rfl | hm
    · exact Option.some.inj (hk.symm.trans (by decide +kernel))
    · obtain rfl := List.mem_singleton.mp hm
      exact Option.some.inj (hk.symm.trans (by decide +kernel))
  subst e
  obtain ⟨p, rfl, h⟩ := fit_one hl hf
  have h2 : areInts p 1 100 = true := h
  cases p with
  | list xs => exact ⟨xs, rfl⟩
  | _ => cases h2
theorem keep_shape {k : Str} {ps : List PyData} {ws : List Str} (hm : k ∈ [("keep" : Str), "until", "after"]) (hk : kindsL.lookup k = some ws) (hl : ps.length = ws.length) (hf : fits ws ps = true) : ∃ t : Tst, ps = [t.dat] ∧ t.nots < 4 := by
  have e : ws = [("test" : Str)] := by
    rcases List.mem_cons.mp hm with rfl | hm
    · exact Option.some.inj (hk.symm.trans (by decide +kernel))
    · rcases List.mem_cons.mp hm with rfl | hm
      · exact Option.some.inj (hk.symm.trans (by decide +kernel))
      · obtain rfl := List.mem_singleton.mp hm
        exact Option.some.inj (hk.symm.trans (by decide +kernel))
  subst e
  obtain ⟨p, rfl, h⟩ := fit_one hl hf
  obtain ⟨t, rfl, hn, _⟩ := test_shape (d := p) h
  exact ⟨t, rfl, hn⟩
end Pw
set_option maxHeartbeats 1000000
/-! own_weight: its contract -/
namespace Pw
open PySem PySem.Spec PyProof.Rows L2
section
variable {P : Program} {w : World} {K : PySem.W.Frag} {mg : Str → Option Value} {base : Heap}
def spOwn (K : PySem.W.Frag) : Sp := fun vs H Q _ => ∃ x d, vs = [x] ∧ Dv K H x d ∧ isNode d = true ∧ ∀ H', Same H H' → Q (.int (ownW d)) H'
theorem ok_own (B : Blt mg) (G : DefOk P w K mg base CX0 4 "modulus_of" ["test"] (spModulus K 4)) (D : Dfn K mg "own_weight" sOwn ["node"]) : DefOk P w K mg base CX0 5 "own_weight" ["node"] (spOwn K) := D.ok fun f fd F => by
  refine F.ok scOwn (fun vs H Q E h => ?_) (fun cdv A outer s H vs Q E hr h => ?_)
  · obtain ⟨x, d, rfl, _⟩ := h
    rfl
  · obtain ⟨x, d, rfl, hx, hn, q⟩ := h
    have nd := scOwn.nd
    refine ⟨_, pss_cons (ps_asg (pv 0) (pg_tup rfl (pgs_cons (pg_name (i := 1) nd rfl (Or.inl rfl)) (pgs_cons (pg_name (i := 2) nd rfl (Or.inl rfl)) (pgs_cons (pg_name (i := 3) nd rfl (Or.inl rfl)) (pgs_cons (pg_name (i := 4) nd rfl (Or.inl rfl)) pgs_nil))))))
      (pss_cons (ps_if (pt_cmpR op_in_seq (pv 2) (pe_tup (pa_cons pe_str (pa_cons pe_str pa_nil))) (by rfl)) (pss_one (ps_ret (pe_callB call_len_seq (by rfl) B.len PySem.boot_len (pa_cons (pe_ix ix_tup (pv 3) pe_int (fun _ _ => rfl)) pa_nil)))) pss_nil)
      (pss_cons (ps_if (pt_cmpR op_in_seq (pv 2) (pe_tup (pa_cons pe_str (pa_cons pe_str (pa_cons pe_str pa_nil)))) (by rfl)) (pss_one (ps_ret (pe_def G hr pass0 (pa_cons (pe_ix ix_tup (pv 3) pe_int (fun _ _ => rfl)) pa_nil)))) pss_nil)
      (pss_cons (ps_if (pt_cmpR op_eq (pv 2) pe_str (nomark _)) (pss_one (ps_ret (pe_ix ix_tup (pv 3) pe_int (fun _ _ => rfl)))) pss_nil)
      (pss_cons (ps_if (PW.pt (pw_and (pt_cmpR op_eq (pv 2) pe_str (nomark _)) (pw_and1 (pt_cmpR op_eq (pe_ix ix_tup (pv 3) pe_int (fun _ _ => rfl)) pe_str (nomark _))))) (pss_one (ps_ret (pe_ix ix_tup (pv 3) pe_int (fun _ _ => rfl)))) pss_nil)
      (pss_cons (ps_if (pt_cmpR op_eq (pv 2) pe_str (nomark _)) (pss_one (ps_ret (pe_callB call_len_seq (by rfl) B.len PySem.boot_len (pa_cons (pv 4) pa_nil)))) pss_nil)
      (pss_cons (ps_if (pt_cmpR op_eq (pv 2) pe_str (nomark _)) (pss_one (ps_ret (pe_op op_sub (pe_callB call_len_seq (by rfl) B.len PySem.boot_len (pa_cons (pv 4) pa_nil)) pe_int))) pss_nil)
      (pss_one (ps_ret pe_int)))))))), ?_⟩
    obtain ⟨a, k, ps, zs, ws, rfl, lz, hk, hl, hf⟩ := params_shape hn
    have q : ∀ H', Same H H' → Q (.int (ownOf k ps (zs.map PyData.str))) H' := q
    cases hx with
    | @tup b ys es hb hyz hes =>
      match ys, hes with
      | [y1, y2, y3, y4], .cons h1 (.cons h2 (.cons h3 (.cons h4 .nil))) =>
        cases h2
        cases h3 with
        | @tup c xs es3 hc hcz hps =>
          cases h4 with
          | @lst l vs4 es4 hl4 hlz hes4 =>
            refine ⟨_, rfl, b, _, rfl, SqT.of hb, rfl, _, _, rfl, _, _, rfl, _, _, rfl, _, _, rfl, rfl, ?_⟩
            refine ⟨_, rfl, by decide, fun T1 n1 => ?_⟩
            have s1 : Same H (upd H T1 (.tup [.str "ring", .str "table"])) := same_upd n1
            refine ⟨T1, [.str "ring", .str "table"], rfl, .inr (SqT.of upd_same), rfl, rfl, _, rfl, ite2 (fun e1 => ?_) (fun e1 => ?_)⟩
            · have m1 : k ∈ [("ring" : Str), "table"] := of_decide_eq_true ((in_strs k [("ring" : Str), "table"]).symm.trans e1)
              obtain ⟨ds, rfl⟩ := ring_shape m1 hk hl hf
              have o : ownOf k [.list ds] (zs.map PyData.str) = ds.length := by
                unfold ownOf
                rw [if_pos m1]
              rw [o] at q
              match xs, hps with
              | [p1], .cons g1 .nil =>
                cases g1 with
                | @lst m1 vs5 es5 hm hmz hvs5 =>
                  rw [← hvs5.length] at q
                  exact ⟨_, rfl, c, _, _, _, rfl, rfl, SqT.of (s1 _ _ hc), atI_nat (j := 0) rfl, m1, _, rfl, .inl (SqL.of (s1 _ _ hm)), q _ s1⟩
            · have m1 : ¬ k ∈ [("ring" : Str), "table"] := fun m => e1 ((in_strs k [("ring" : Str), "table"]).trans (decide_eq_true m))
              refine ⟨_, rfl, by decide, fun T2 n2 => ?_⟩
              have s2 : Same H (upd (upd H T1 (.tup [.str "ring", .str "table"])) T2 (.tup [.str "keep", .str "until", .str "after"])) := s1.trans (same_upd n2)
              refine ⟨T2, [.str "keep", .str "until", .str "after"], rfl, .inr (SqT.of upd_same), rfl, rfl, _, rfl, ite2 (fun e2 => ?_) (fun e2 => ?_)⟩
              · have m2 : k ∈ [("keep" : Str), "until", "after"] := of_decide_eq_true ((in_strs k [("keep" : Str), "until", "after"]).symm.trans e2)
                obtain ⟨t, rfl, ht⟩ := keep_shape m2 hk hl hf
                have o : ownOf k [t.dat] (zs.map PyData.str) = modOf t := by
                  unfold ownOf
                  rw [if_neg m1, if_pos m2]
                  exact modD_dat 4 t ht
                rw [o] at q
                match xs, hps with
                | [p1], .cons g1 .nil => exact ⟨_, rfl, c, _, _, _, rfl, rfl, SqT.of (s2 _ _ hc), atI_nat (j := 0) rfl, p1, t, rfl, g1.same s2, ht, q _ s2⟩
              · have m2 : ¬ k ∈ [("keep" : Str), "until", "after"] := fun m => e2 ((in_strs k [("keep" : Str), "until", "after"]).trans (decide_eq_true m))
                have eqw : ∀ z : Str, decide (V.str k = V.str z) = decide (k = z) := fun z => by
                  by_cases h : k = z
                  · rw [decide_eq_true h, decide_eq_true (congrArg V.str h)]
                  · rw [decide_eq_false h, decide_eq_false (fun y => h (V.str.inj y))]
                refine ⟨_, rfl, rfl, _, rfl, ite2 (fun e3 => ?_) (fun e3 => ?_)⟩
                · have m3 : k = "stutter" := of_decide_eq_true ((eqw _).symm.trans e3)
                  subst m3
                  have e : ws = [("1 to 50" : Str)] := Option.some.inj (hk.symm.trans (by decide +kernel))
                  subst e
                  obtain ⟨p, rfl, hp⟩ := fit_one hl hf
                  obtain ⟨n, rfl⟩ := int_of (d := p) (lo := 1) (hi := 50) hp
                  have o : ownOf "stutter" [.int n] (zs.map PyData.str) = n := by
                    unfold ownOf
                    rw [if_neg m1, if_neg m2, if_pos rfl]
                  rw [o] at q
                  match xs, hps with
                  | [p1], .cons g1 .nil =>
                    cases g1
                    exact ⟨_, rfl, c, _, _, _, rfl, rfl, SqT.of (s2 _ _ hc), atI_nat (j := 0) rfl, q _ s2⟩
                · have m3 : ¬ k = "stutter" := fun z => e3 ((eqw _).trans (decide_eq_true z))
                  refine ⟨_, rfl, rfl, _, rfl, ite2 (fun e4 => ?_) (fun e4 => ?_)⟩
                  · have m4 : k = "batch" := of_decide_eq_true ((eqw _).symm.trans e4)
                    subst m4
                    have e : ws = [("from 1" : Str), "batch how", "batch rest"] := Option.some.inj (hk.symm.trans (by decide +kernel))
                    subst e
                    obtain ⟨n, t, e, rfl⟩ := batch_shape hl hf
                    have o : ownOf "batch" [.int n, .str t, e] (zs.map PyData.str) = if t = "sum" then n else 1 := by
                      unfold ownOf
                      rw [if_neg m1, if_neg m2, if_neg m3, if_pos rfl]
                    rw [o] at q
                    match xs, hps with
                    | [p1, p2, p3], .cons g1 (.cons g2 (.cons g3 .nil)) =>
                      cases g1
                      cases g2
                      refine ⟨_, rfl, c, _, _, _, rfl, rfl, SqT.of (s2 _ _ hc), atI_nat (j := 1) rfl, rfl, _, rfl, ?_⟩
                      by_cases e5 : t = "sum"
                      · rw [if_pos e5] at q
                        rw [decide_eq_true (congrArg V.str e5)]
                        exact ⟨_, rfl, c, _, _, _, rfl, rfl, SqT.of (s2 _ _ hc), atI_nat (j := 0) rfl, q _ s2⟩
                      · rw [if_neg e5] at q
                        rw [decide_eq_false (fun y => e5 (V.str.inj y))]
                        exact ⟨_, rfl, rfl, _, rfl, _, rfl, rfl, _, rfl, q _ s2⟩
                  · have m4 : ¬ k = "batch" := fun z => e4 ((eqw _).trans (decide_eq_true z))
                    have lv : vs4.length = zs.length := by
                      rw [hes4.length, List.length_map]
                    refine ⟨_, rfl, rfl, _, rfl, ite2 (fun e5 => ?_) (fun e5 => ?_)⟩
                    · have m5 : k = "turns" := of_decide_eq_true ((eqw _).symm.trans e5)
                      have o : ownOf k ps (zs.map PyData.str) = vs4.length := by
                        unfold ownOf
                        rw [if_neg m1, if_neg m2, if_neg m3, if_neg m4, if_pos m5, List.length_map, lv]
                      rw [o] at q
                      exact ⟨_, rfl, l, _, rfl, .inl (SqL.of (s2 _ _ hl4)), q _ s2⟩
                    · have m5 : ¬ k = "turns" := fun z => e5 ((eqw _).trans (decide_eq_true z))
                      refine ⟨_, rfl, rfl, _, rfl, ite2 (fun e6 => ?_) (fun e6 => ?_)⟩
                      · have m6 : k = "choose" := of_decide_eq_true ((eqw _).symm.trans e6)
                        have o : ownOf k ps (zs.map PyData.str) = (vs4.length : Int) - 1 := by
                          unfold ownOf
                          rw [if_neg m1, if_neg m2, if_neg m3, if_neg m4, if_neg m5, if_pos m6, List.length_map, lv]
                        rw [o] at q
                        exact ⟨_, rfl, l, _, rfl, .inl (SqL.of (s2 _ _ hl4)), _, _, rfl, rfl, q _ s2⟩
                      · have m6 : ¬ k = "choose" := fun z => e6 ((eqw _).trans (decide_eq_true z))
                        have o : ownOf k ps (zs.map PyData.str) = 1 := by
                          unfold ownOf
                          rw [if_neg m1, if_neg m2, if_neg m3, if_neg m4, if_neg m5, if_neg m6]
                        rw [o] at q
                        exact q _ s2
end
end Pw
set_option maxHeartbeats 1000000
/-! the class Net: node_list -/
namespace Pw
open PySem PySem.Spec PyProof.Rows L2
abbrev sNet : Stmt := topS 44
def clsBody : Stmt → List Stmt
  | .ClassDef (body := b) .. => b
  | _ => []
def netM (i : Nat) : Stmt := (clsBody sNet).getD i (.Pass ⟨0, 0, 0, 0⟩)
abbrev sNetInit : Stmt := netM 0
abbrev sNodeList : Stmt := netM 6
theorem scNodeList : FnScope ["self"] ["self"] (defScope sNodeList) := ⟨rfl, rfl, rfl, by decide +kernel, rfl, by decide +kernel, by decide +kernel⟩
section
variable {P : Program} {w : World} {K : PySem.W.Frag} {mg : Str → Option Value} {base : Heap} {C : Addr}
/-- a net at a: its own list of nodes -/
def spNodeList (K : PySem.W.Frag) (C : Addr) (n : Nat) : Sp := fun vs H Q _ => ∃ (a dx : Addr) (fs : List (Str × V)) (v : V) (d : PyData), vs = [.ref a] ∧ H a = some (.ins C dx fs) ∧ fs.lookup ("_nodes" : Str) = some v ∧ Dv K H v d ∧ dpB n d = true ∧ ∀ y H', Same H H' → Dv K (newOf H H') y d → Q y H'
theorem ok_nodeList {f : Addr} {fd : FuncData} {n : Nat} (c : Cls K C) (na : NoAttr K C "_nodes") (G : DefOk P w K mg base CX0 n "copied" ["value"] (spCopied K n)) (F : Fun K "node_list" "Net.node_list" sNodeList f fd) : FnOk P w K mg base CX0 (n + 1) f fd ["self"] (spNodeList K C n) := by
  refine F.ok scNodeList (fun vs H Q E h => ?_) (fun cdv A outer s H vs Q E hr h => ?_)
  · obtain ⟨a, dx, fs, v, d, rfl, _⟩ := h
    rfl
  · obtain ⟨a, dx, fs, v, d, rfl, ha, hl, hv, hd, q⟩ := h
    refine ⟨_, pss_one (ps_ret (pe_def G hr pass0 (pa_cons (pe_fld (pv 0) (by rfl)) pa_nil) (Nat.le_refl _))), ?_⟩
    exact ⟨_, rfl, a, C, dx, fs, v, rfl, ha, c, na, hl, v, d, rfl, hv, hd, q⟩
end
end Pw
set_option maxHeartbeats 1000000
/-! a dict comprehension with two clauses -/
namespace Dc
open PySem PySem.Spec PyProof.Rows L2
section
variable {kx vx t0 i0 t1 i1 : Expr} {c0 c1 : List Expr} {sc : Scope} {ps : Pos} {it : Value} {D : Addr} {env : Env}
/-- the expression -/
abbrev two (kx vx t0 i0 t1 i1 : Expr) (c0 c1 : List Expr) (sc : Scope) (ps : Pos) : Expr := .DictComp kx vx [⟨t0, i0, c0, 0⟩, ⟨t1, i1, c1, 0⟩] sc ps
abbrev checks (env : Env) (cs : List Expr) : Sem Bool :=
  forIn cs true fun c r =>
    if r = true then do
      let b ← isTrue c env (eval c env)
      pure (ForInStep.yield b)
    else pure (ForInStep.yield r)
theorem outer_is : compTurn (two kx vx t0 i0 t1 i1 c0 c1 sc ps) 0 it (.ref D) env = (do
    standAt i0.pos
    match ← pyNext it with
    | none => pure (.done .next)
    | some x =>
      letOwnedTupleGo t0 it x
      assign t0 env x
      let b ← checks env c0
      if b then
        let y ← eval i1 env
        standAt i1.pos
        let y ← foldedSetIterable i1 env y
        let _ ← runOwn (.compStart (two kx vx t0 i0 t1 i1 c0 c1 sc ps) 1 (← holding [y] (pyIter y)) (.ref D) env) env
      again (.compLoop (two kx vx t0 i0 t1 i1 c0 c1 sc ps) 0 it (.ref D) env)) := by rfl
theorem inner_is : compTurn (two kx vx t0 i0 t1 i1 c0 c1 sc ps) 1 it (.ref D) env = (do
    standAt i1.pos
    match ← pyNext it with
    | none => pure (.done .next)
    | some x =>
      letOwnedTupleGo t1 it x
      assign t1 env x
      let b ← checks env c1
      if b then
        (do
          let k ← eval kx env
          let v ← holding [k] (eval vx env)
          standAt { kx.pos with endLine := vx.pos.endLine, endCol := vx.pos.endCol }
          holding [k, v] (dictSet D k v))
      again (.compLoop (two kx vx t0 i0 t1 i1 c0 c1 sc ps) 1 it (.ref D) env)) := by rfl
end
/-! ### the loops -/
section
variable {prog : Program} {w : World} {A : Around} {R : Result → Shared → Prop}
variable {kx vx t0 i0 t1 i1 : Expr} {c0 c1 : List Expr} {sc : Scope} {ps : Pos} {it : Value} {D : Addr} {env : Env}
/-- what is asked where something is raised -/
abbrev bad (prog : Program) (w : World) (A : Around) (env : Env) (R : Result → Shared → Prop) : Value → Shared → Prop :=
  notedBy (model prog w) A env fun e s => R (.error e) s
/-- a turn's head: the next item, its target, the tests -/
def head (prog : Program) (w : World) (A : Around) (env : Env) (R : Result → Shared → Prop) (tgt : Expr) (it : Value) (cs : List Expr) (yes no : Shared → Prop) (s : Shared) : Prop :=
  wpAny (model prog w) A (pyNext it) (fun r s1 => match r with
    | none => R (.ok .next) s1
    | some x => wpAny (model prog w) A (letOwnedTupleGo tgt it x) (fun _ s2 =>
        wpAny (model prog w) A (assign tgt env x) (fun _ s3 =>
          wpAny (model prog w) A (checks env cs) (fun b s4 => if b = true then yes s4 else no s4)
            (bad prog w A env R) s3) (bad prog w A env R) s2) (bad prog w A env R) s1) (bad prog w A env R) s
theorem inner_loop (J : Nat → Shared → Prop)
    (turn : ∀ n s, J n s → head prog w A env R t1 it c1
      (fun s4 => wpAny (model prog w) A (eval kx env) (fun k s5 => wpAny (model prog w) A (eval vx env) (fun v s6 =>
        wpAny (model prog w) A (dictSet D k v) (fun _ s7 => ∃ m, m < n ∧ J m s7) (bad prog w A env R) s6) (bad prog w A env R) s5) (bad prog w A env R) s4)
      (fun s4 => ∃ m, m < n ∧ J m s4) s) (n : Nat) {s : Shared} (h : J n s) :
    codeAny (model prog w) A (.compLoop (two kx vx t0 i0 t1 i1 c0 c1 sc ps) 1 it (.ref D) env) R s := by
  refine codeAny_loop rfl J (fun n s hJ => ?_) n h
  show wpAny _ A ((compTurn (two kx vx t0 i0 t1 i1 c0 c1 sc ps) 1 it (.ref D) env).onRaise _) _ _ s
  refine wpAny_noted ?_
  rw [inner_is]
  have go := turn n s hJ
  unfold head at go
  refine wpAny_bind (wpAny_standAt (wpAny_bind (wpAny_mono go (fun r s1 a1 => ?_) fun _ _ z => z)))
  cases r with
  | none => exact wpAny_pure a1
  | some x =>
    refine wpAny_bind (wpAny_mono a1 (fun _ s2 a2 => wpAny_bind (wpAny_mono a2 (fun _ s3 a3 => wpAny_bind (wpAny_mono a3 (fun b s4 a4 => ?_) fun _ _ z => z)) fun _ _ z => z)) fun _ _ z => z)
    cases b with
    | false => exact wpAny_pure ⟨rfl, a4⟩
    | true =>
      refine wpAny_bind (wpAny_bind (wpAny_mono a4 (fun k s5 a5 => ?_) fun _ _ z => z))
      refine wpAny_bind (wpAny_holding (wpAny_mono a5 (fun v s6 a6 => ?_) fun _ _ z => z))
      exact wpAny_bind (wpAny_standAt (wpAny_holding (wpAny_mono a6 (fun _ s7 a7 => wpAny_pure ⟨rfl, a7⟩) fun _ _ z => z)))
theorem outer_loop (fold : ∀ y, foldedSetIterable i1 env y = pure y) (J : Nat → Shared → Prop)
    (turn : ∀ n s, J n s → head prog w A env R t0 it c0
      (fun s4 => wpAny (model prog w) A (eval i1 env) (fun y s5 => wpAny (model prog w) A (pyIter y) (fun z s6 =>
        codeAny (model prog w) A (.compStart (two kx vx t0 i0 t1 i1 c0 c1 sc ps) 1 z (.ref D) env) (fun r s7 => match r with
          | .ok _ => ∃ m, m < n ∧ J m s7
          | .error _ => False) s6) (bad prog w A env R) s5) (bad prog w A env R) s4)
      (fun s4 => ∃ m, m < n ∧ J m s4) s) (n : Nat) {s : Shared} (h : J n s) :
    codeAny (model prog w) A (.compLoop (two kx vx t0 i0 t1 i1 c0 c1 sc ps) 0 it (.ref D) env) R s := by
  refine codeAny_loop rfl J (fun n s hJ => ?_) n h
  show wpAny _ A ((compTurn (two kx vx t0 i0 t1 i1 c0 c1 sc ps) 0 it (.ref D) env).onRaise _) _ _ s
  refine wpAny_noted ?_
  rw [outer_is]
  have go := turn n s hJ
  unfold head at go
  refine wpAny_bind (wpAny_standAt (wpAny_bind (wpAny_mono go (fun r s1 a1 => ?_) fun _ _ z => z)))
  cases r with
  | none => exact wpAny_pure a1
  | some x =>
    refine wpAny_bind (wpAny_mono a1 (fun _ s2 a2 => wpAny_bind (wpAny_mono a2 (fun _ s3 a3 => wpAny_bind (wpAny_mono a3 (fun b s4 a4 => ?_) fun _ _ z => z)) fun _ _ z => z)) fun _ _ z => z)
    cases b with
    | false => exact wpAny_pure ⟨rfl, a4⟩
    | true =>
      refine wpAny_bind (wpAny_mono a4 (fun y s5 a5 => ?_) fun _ _ z => z)
      refine wpAny_bind (wpAny_standAt (wpAny_bind (wpAny_of_eq (fold y) (wpAny_bind (wpAny_holding (wpAny_mono a5 (fun z s6 a6 => ?_) fun _ _ z => z))))))
      refine wpAny_bind (wpAny_runOwn ?_)
      rw [Around.mark_none]
      refine codeAny_mono a6 fun r s7 a7 => ?_
      cases r with
      | ok f => first | exact wpAny_pure ⟨rfl, a7⟩ | exact wpAny_bind (wpAny_pure (wpAny_pure ⟨rfl, a7⟩))
      | error e => exact a7.elim
/-- the second clause begins: its source is an iterator already -/
theorem second_start {s : Shared} (h0 : codeAny (model prog w) A (.compLoop (two kx vx t0 i0 t1 i1 c0 c1 sc ps) 1 it (.ref D) env) R s)
    (h : wpAny (model prog w) A (pyIter it) (fun z s1 => codeAny (model prog w) A (.compLoop (two kx vx t0 i0 t1 i1 c0 c1 sc ps) 1 z (.ref D) env) R s1) (bad prog w A env R) s) :
    codeAny (model prog w) A (.compStart (two kx vx t0 i0 t1 i1 c0 c1 sc ps) 1 it (.ref D) env) R s := by
  refine codeAny_of_tree ?_
  show wpAny _ A ((compStart (two kx vx t0 i0 t1 i1 c0 c1 sc ps) 1 it (.ref D) env).onRaise (fun x => do noteFrame x env; standAt theWindowsPlace)) _ _ s
  refine wpAny_notedAt ?_
  unfold compStart
  show wpAny _ A (ask >>= _) _ _ s
  refine wpAny_bind (wpAny_askSetting (wpAny_ite ?_))
  split
  · first
      | exact wpAny_bind (wpAny_pure (wpAny_pure (And.intro rfl h0)))
      | exact wpAny_pure (And.intro rfl h0)
  · have back : ∀ z s1, codeAny (model prog w) A (.compLoop (two kx vx t0 i0 t1 i1 c0 c1 sc ps) 1 z (.ref D) env) R s1 → True ∧ codeAny (model prog w) A (.compLoop (two kx vx t0 i0 t1 i1 c0 c1 sc ps) 1 z (.ref D) env) R s1 := fun z s1 x => ⟨trivial, x⟩
    refine wpAny_bind (wpAny_rule ?_)
    show wpAny _ _ (standAt i1.pos >>= _) _ _ s
    refine wpAny_bind (wpAny_standAt (wpAny_bind (wpAny_mono h (fun z s1 x => ?_) fun _ _ x => x)))
    exact wpAny_pure ⟨rfl, x⟩
end
/-! ### the rule -/
section
variable {X : Cx}
/-- a walk's questions: Go is asked for each item, Fin at the end; N: what a turn leads to -/
def tWalk (J : It) (H0 : Hp) (Fin : Hp → Prop) (Go : V → Hp → (Hp → Prop) → Prop) : Prop := ∃ W : Nat → Nat → Hp → Prop,
  (∃ m, W 0 m H0) ∧ ∀ i m H, W i m H → (J.stop i H ∧ Fin H) ∨ (J.go i H ∧ ∃ N : Hp → Prop, (∀ H', N H' → ∃ m', m' < m ∧ W (i + 1) m' H') ∧ ∀ x H', J.yld i H x H' → Go x H' N)
/-- {k: v for t0 in i0 if c0 for t1 in i1 if c1}; vs: the block's names, us: those of the second target -/
def tDc2 (wi : TI) (g : TG) (tt : TT) (wi1 : TI) (g1 : TG) (tt1 : TT) (tk tv : TE) (vs us : List Nat) : TE := fun σ H Q =>
  wi σ H fun J H1 => ∀ D, H1 D = none → tWalk J (upd H1 D (.dK [])) (Q (.ref D)) fun x H' N =>
    g x (wipe σ vs) H' fun σ2 H2 => wipe σ2 vs = wipe σ vs ∧ tt σ2 H2 fun b H3 =>
      if b = true then wi1 σ2 H3 fun J1 H4 => tWalk J1 H4 N fun x1 H5 N1 =>
        g1 x1 (wipe σ2 us) H5 fun σ3 H6 => wipe σ3 us = wipe σ2 us ∧ tt1 σ3 H6 fun b1 H7 =>
          if b1 = true then tk σ3 H7 fun y H8 => tv σ3 H8 fun z H9 => ∃ kvs k, y = kV k ∧ H9 D = some (.dK kvs) ∧ kvs.length < sizeLine ∧ N1 (upd H9 D (.dK (putK kvs k z)))
          else N1 H7
      else N H3
theorem kept_pin {Y : Cx} {pins : List (Addr × Obj)} {fp : List Addr} {hp : Heap} {σ : L2.St} {H : Hp} {s : Shared} (I : Inv Y (pins ++ pinsAt fp hp) σ H s) : ∀ b ∈ fp, ∀ o, hp.get? b = some o → s.heap.get? b = some o ∧ H b = none := fun b hb o e =>
  have z := I.pin (b, o) (List.mem_append_right _ (List.mem_append_right _ (mem_pinsAt hb e)))
  ⟨z.1, z.2.1⟩
variable {kx vx t0 i0 t1 i1 : Expr} {c0 c1 : List Expr} {scope : Scope} {ps pos' : Pos} {own : List (Str × Nat)} {us : List Nat} {wi wi1 : TI} {g g1 : TG} {tt tt1 : TT} {tk tv : TE}
/-- a turn that has an item -/
theorem head_go {Y : Cx} {R : Result → Shared → Prop} {tg : Expr} {cs : List Expr} {g : TG} {tt : TT} {J : It} {fp : List Addr} {it : Addr} {tn : Nat → Heap → Prop} {yes no : Shared → Prop} {pins : List (Addr × Obj)} {i : Nat} {H : Hp} {s : Shared} {σ0 : L2.St} {us : List Nat} {S : Bool → L2.St → Hp → Prop}
    (hx : ∀ e s, ¬ Y.xe e s) (hc : Y.calm = true) (pg : PG Y tg g) (pt : PTs Y cs tt) (T : Turn Y.prog Y.w Y.K tg J fp it tn) (I : Inv Y pins (wipe σ0 us) H s) (free : ∀ b ∈ fp, FpOk Y pins H b) (here : tn i s.heap) (go : J.go i H)
    (free' : ∀ H' s', Inv Y pins (wipe σ0 us) H' s' → (∀ b ∈ fp, H' b = none) → ∀ b ∈ fp, FpOk Y pins H' b)
    (step : ∀ x H', J.yld i H x H' → g x (wipe σ0 us) H' fun σ2 H2 => wipe σ2 us = wipe σ0 us ∧ tt σ2 H2 fun b H3 => S b σ2 H3)
    (rest : ∀ (b : Bool) (hp : Heap) (σ2 : L2.St) (H3 : Hp) (s' : Shared), tn (i + 1) hp → Inv Y (pins ++ pinsAt fp hp) σ2 H3 s' → wipe σ2 us = wipe σ0 us → S b σ2 H3 → if b = true then yes s' else no s') :
    head Y.prog Y.w Y.A Y.env R tg (.ref it) cs yes no s := by
  unfold head
  have none : ∀ {E : Value → Shared → Prop} e s, Y.xe e s → E e s := fun e s z => (hx e s z).elim
  refine thnF (T.item Y rfl rfl rfl hc i pins s _ H _ I free here go) fun r s1 got => ?_
  obtain ⟨u, rfl, more⟩ := got
  refine thnF more fun _ s2 got => ?_
  obtain ⟨x, H1, I1, rel, yld, at1, none1⟩ := got
  have I2 := I1.pinned (free' H1 s2 I1 none1) (T.obj _ _ at1)
  refine wpAny_mono (pg.run _ s2 _ H1 x u _ I2 rel (step x H1 yld)) (fun _ s3 got => ?_) none
  obtain ⟨σ2, H2, I3, wi, q⟩ := got
  refine wpAny_mono (pt.run _ s3 σ2 H2 _ I3 q) (fun b s4 got => ?_) none
  obtain ⟨H3, I4, q4⟩ := got
  exact rest b _ σ2 H3 s4 at1 I4 wi q4
theorem head_stop {Y : Cx} {R : Result → Shared → Prop} {tg : Expr} {cs : List Expr} {J : It} {fp : List Addr} {it : Addr} {tn : Nat → Heap → Prop} {yes no : Shared → Prop} {pins : List (Addr × Obj)} {i : Nat} {H : Hp} {s : Shared} {σ0 : L2.St}
    (hc : Y.calm = true) (T : Turn Y.prog Y.w Y.K tg J fp it tn) (I : Inv Y pins σ0 H s) (free : ∀ b ∈ fp, FpOk Y pins H b) (here : tn i s.heap) (stop : J.stop i H) (out : ∀ s', Inv Y pins σ0 H s' → R (.ok .next) s') :
    head Y.prog Y.w Y.A Y.env R tg (.ref it) cs yes no s := by
  unfold head
  refine thnF (T.done Y rfl rfl rfl hc i pins s _ H _ I free here stop) fun r s1 got => ?_
  obtain ⟨rfl, I1⟩ := got
  exact out s1 I1
/-- all of the second clause's turns -/
theorem inner_all {Y : Cx} {D : Addr} {it1 : Addr} {fp1 : List Addr} {tn1 : Nat → Heap → Prop} {J1 : It} {pins : List (Addr × Obj)} {σ8 : L2.St} {H : Hp} {s : Shared} {N : Hp → Prop} {R : Result → Shared → Prop} (hx : ∀ e s, ¬ Y.xe e s) (hc : Y.calm = true)
    (pg1 : PG Y t1 g1) (pt1 : PTs Y c1 tt1) (pk : PE Y kx tk) (pe : PE Y vx tv) (T1 : Turn Y.prog Y.w Y.K t1 J1 fp1 it1 tn1) (I : Inv Y pins σ8 H s) (here : tn1 0 s.heap) (free : ∀ b ∈ fp1, FpOk Y pins H b)
    (q : tWalk J1 H N fun x1 H5 N1 => g1 x1 (wipe σ8 us) H5 fun σ3 H6 => wipe σ3 us = wipe σ8 us ∧ tt1 σ3 H6 fun b1 H7 =>
      if b1 = true then tk σ3 H7 fun y H8 => tv σ3 H8 fun z H9 => ∃ kvs k, y = kV k ∧ H9 D = some (.dK kvs) ∧ kvs.length < sizeLine ∧ N1 (upd H9 D (.dK (putK kvs k z))) else N1 H7)
    (out : ∀ H' s', Inv Y pins (wipe σ8 us) H' s' → N H' → R (.ok .next) s') :
    codeAny (model Y.prog Y.w) Y.A (.compStart (two kx vx t0 i0 t1 i1 c0 c1 scope ps) 1 (.ref it1) (.ref D) Y.env) R s := by
  obtain ⟨W, ⟨m0, w0⟩, turn⟩ := q
  have all : codeAny (model Y.prog Y.w) Y.A (.compLoop (two kx vx t0 i0 t1 i1 c0 c1 scope ps) 1 (.ref it1) (.ref D) Y.env) R s := by
    refine inner_loop (fun k s' => ∃ j H', Inv Y pins (wipe σ8 us) H' s' ∧ tn1 j s'.heap ∧ (∀ b ∈ fp1, H' b = none) ∧ W j k H') ?_ m0 ⟨0, H, I.weak (wipe_length _ _) (fun j v e => (wipe_some e).1), here, fun b hb => (free b hb).1, w0⟩
    rintro k s1 ⟨j, H1, I1, at1, none1, w1⟩
    have fr : ∀ H' s', Inv Y pins (wipe σ8 us) H' s' → (∀ b ∈ fp1, H' b = none) → ∀ b ∈ fp1, FpOk Y pins H' b := fun H' s' _ hn b hb => ⟨hn b hb, (free b hb).2⟩
    rcases turn j k H1 w1 with ⟨stop, nx⟩ | ⟨go, N1, hN1, step⟩
    · exact head_stop hc T1 I1 (fr H1 s1 I1 none1) at1 stop fun s2 I2 => out H1 s2 I2 nx
    · refine head_go hx hc pg1 pt1 T1 I1 (fr H1 s1 I1 none1) at1 go fr step fun b hp σ3 H3 s3 at3 I3 wi q3 => ?_
      have fin : ∀ {s' : Shared} {H' : Hp}, Inv Y (pins ++ pinsAt fp1 hp) σ3 H' s' → N1 H' → ∃ m, m < k ∧ ∃ j H', Inv Y pins (wipe σ8 us) H' s' ∧ tn1 j s'.heap ∧ (∀ b ∈ fp1, H' b = none) ∧ W j m H' := fun {s' H'} I' nx => by
        obtain ⟨m', lt, w'⟩ := hN1 H' nx
        refine ⟨m', lt, j + 1, H', I'.unpinned.weak (by rw [← wi, wipe_length]) (fun j v e => by rw [← wi] at e; exact (wipe_some e).1), T1.keep _ _ _ at3 fun b hb o e => (kept_pin I' b hb o e).1, fun b hb => ?_, w'⟩
        obtain ⟨o, e, _⟩ := T1.obj _ _ at3 b hb
        exact (kept_pin I' b hb o e).2
      cases b with
      | false => exact fin I3 q3
      | true =>
        have none : ∀ {E : Value → Shared → Prop} e s, Y.xe e s → E e s := fun e s z => (hx e s z).elim
        refine wpAny_mono (pk.run _ s3 σ3 H3 _ I3 q3) (fun z s4 got => ?_) none
        obtain ⟨yk, H4, I4, r4, q4⟩ := got
        refine wpAny_mono (pe.run _ s4 σ3 H4 _ I4 q4) (fun z2 s5 got => ?_) none
        obtain ⟨yv, H5, I5, r5, kvs, k2, rfl, hD, hz, nx⟩ := got
        exact d_dictSet I5 hD hz r4 r5 fun s6 I6 => fin I6 nx
  exact second_start all (T1.self Y.A 0 _ _ _ here all)
theorem dc2_core {pins : List (Addr × Obj)} {s : Shared} {σ : L2.St} {H : Hp} {Q : VK} {use : Option (Value → Sem Unit)} {Qf : Value → Shared → Prop}
    (hc : X.calm = true) (hN : X.N.Nodup) (I : Inv X pins σ H s) (hi : PI X t0 i0 wi) (ok : BlkOk X.N X.env.scope scope own) (hv : ∀ i ∈ us, i ∈ own.map (·.2))
    (a0 : ∀ (s : Shared) (H : Hp) (C : Addr) (cl : List (Str × Addr)) (fp : List Addr), PG (X.blk s H scope (compEnvC scope cl C X.env) fp) t0 g)
    (a1 : ∀ (s : Shared) (H : Hp) (C : Addr) (cl : List (Str × Addr)) (fp : List Addr), PTs (X.blk s H scope (compEnvC scope cl C X.env) fp) c0 tt)
    (a2 : ∀ (s : Shared) (H : Hp) (C : Addr) (cl : List (Str × Addr)) (fp : List Addr), PI (X.blk s H scope (compEnvC scope cl C X.env) fp) t1 i1 wi1)
    (a3 : ∀ (s : Shared) (H : Hp) (C : Addr) (cl : List (Str × Addr)) (fp : List Addr), PG (X.blk s H scope (compEnvC scope cl C X.env) fp) t1 g1)
    (a4 : ∀ (s : Shared) (H : Hp) (C : Addr) (cl : List (Str × Addr)) (fp : List Addr), PTs (X.blk s H scope (compEnvC scope cl C X.env) fp) c1 tt1)
    (a5 : ∀ (s : Shared) (H : Hp) (C : Addr) (cl : List (Str × Addr)) (fp : List Addr), PE (X.blk s H scope (compEnvC scope cl C X.env) fp) kx tk)
    (a6 : ∀ (s : Shared) (H : Hp) (C : Addr) (cl : List (Str × Addr)) (fp : List Addr), PE (X.blk s H scope (compEnvC scope cl C X.env) fp) vx tv)
    (hs : ∀ x, foldedSetIterable i0 X.env x = pure x) (hs1 : ∀ env x, foldedSetIterable i1 env x = pure x)
    (h : tDc2 wi g tt wi1 g1 tt1 tk tv (own.map (·.2)) us σ H Q)
    (fin : ∀ D C s' m H', Inv X pins σ H' s' → Q (.ref D) H' → s'.heap.Ns C m → FpOk X pins H' C → compPost (model X.prog X.w) X.A X.xe use Qf (.ref D) C (.ok .next) s') :
    wpAny (model X.prog X.w) X.A (comprehension (two kx vx t0 i0 t1 i1 c0 c1 scope ps) scope X.env pos' newDict false (eval i0 X.env) use) Qf X.xe s := by
  have cellsOf : ∀ y ∈ scope.names, y.2 = .free → ∃ c, X.env.cells.lookup y.1 = some c := fun y hy e => (ok.free y hy e).elim (fun k => I.ok.has _ (.inl k)) (fun k => I.ok.has _ (.inr k))
  refine wpAny_comprehension_free (use := use) rfl hs (closure_ok cellsOf) ok.kind (fun y hy e => by rw [ok.uniq y hy, e])
    (thn (hi.run pins s σ H _ I h) fun xv s1 hx => thn hx fun itv s2 got => ?_)
  obtain ⟨it, fp, tn, J, H2, rfl, I2, T, at2, free2, ask⟩ := got
  refine wpAny_newObj_type (newEnv_comp ?_)
  generalize hD : s2.heap.objs.size = D
  obtain ⟨W, ⟨m0, w0⟩, turn⟩ := ask D (I2.hok.fresh (Nat.le_of_eq hD))
  -- the new dict
  generalize hs3 : ({ s2 with heap := s2.heap.push { cls := .type "dict", data := .dict #[] } } : Shared) = s3
  have h3 : s3.heap = s2.heap.push { cls := .type "dict", data := .dict #[] } := by rw [← hs3]
  have I3 : Inv X pins σ (upd H2 D (.dK [])) s3 := by
    subst hs3
    refine I2.laid (t' := s2.toks) (fun b o e => Heap.get?_push_of_some _ e) (Nat.le_of_eq hD) ?_
    subst hD
    exact dk_empty s2.heap I2.big
  have below : ∀ b ∈ fp, b < s2.heap.objs.size := fun b hb => (T.obj _ _ at2 b hb).elim fun o e => Heap.lt_size e.1
  generalize hH3 : upd H2 D (.dK []) = H3 at I3 w0
  have none3 : ∀ b ∈ fp, H3 b = none := fun b hb => by
    have ne : b ≠ D := Nat.ne_of_lt (Nat.lt_of_lt_of_le (below b hb) (Nat.le_of_eq hD))
    rw [← hH3, upd_ne ne]
    exact (free2 b hb).1
  have free3 : ∀ b ∈ fp, FpOk X pins H3 b ∧ b < s3.heap.objs.size := fun b hb => by
    refine ⟨⟨none3 b hb, (free2 b hb).2⟩, ?_⟩
    rw [h3, Heap.size_push]
    exact Nat.lt_succ_of_lt (below b hb)
  have at3 : tn 0 s3.heap := T.keep _ _ _ at2 fun b _ o e => by
    rw [h3]
    exact Heap.get?_push_of_some _ e
  have I4 := block_start I3 ok hN free3
  have arg : ∀ {p : Shared → Hp → Addr → List (Str × Addr) → List Addr → Prop}, (∀ s H C cl fp, p s H C cl fp) → p s3 H3 s3.heap.objs.size (cellsFrom (s3.heap.objs.size + 1) scope.names (cloFrom X.env.cells scope.names [])) fp := fun h => h _ _ _ _ _
  have pg := arg a0
  have pt := arg a1
  have pi1 := arg a2
  have pg1 := arg a3
  have pt1 := arg a4
  have pk := arg a5
  have pe := arg a6
  clear arg
  show codeAny _ _ (.compStart (two kx vx t0 i0 t1 i1 c0 c1 scope ps) 0 (.ref it) (.ref D) (compEnvC scope (cellsFrom (s3.heap.objs.size + 1) scope.names (cloFrom X.env.cells scope.names [])) s3.heap.objs.size X.env))
    (compPost (model X.prog X.w) X.A X.xe use Qf (.ref D) s3.heap.objs.size) { s3 with heap := pushCells (s3.heap.push { cls := .type "dict", data := .dict #[] }) scope.names }
  generalize hC : s3.heap.objs.size = C at I4 pg pt pi1 pg1 pt1 pk pe free3 ⊢
  generalize hce : compEnvC scope (cellsFrom (C + 1) scope.names (cloFrom X.env.cells scope.names [])) C X.env = ce at I4 pg pt pi1 pg1 pt1 pk pe ⊢
  have locs : ce.locals = C := by rw [← hce]; rfl
  generalize hs4 : ({ s3 with heap := pushCells (s3.heap.push { cls := .type "dict", data := .dict #[] }) scope.names } : Shared) = s4 at I4 ⊢
  have at4 : tn 0 s4.heap := T.keep _ _ _ at3 fun b _ o e => by
    rw [← hs4]
    exact pushCells_keeps _ _ _ _ (Heap.get?_push_of_some _ e)
  have stat : ∀ {pins' : List (Addr × Obj)} {σ' : L2.St} {H' : Hp} {s' : Shared}, pins' = [] → Inv (X.blk s3 H3 scope ce fp) pins' σ' H' s' → (∀ b ∈ fp, H' b = none) → ∀ b ∈ fp, FpOk (X.blk s3 H3 scope ce fp) pins' H' b := fun {pins' σ' H' s'} e I' hn b hb => by
    subst e
    exact ⟨hn b hb, (I'.ok.exf b hb).1, I'.ok.exfs b hb, .inl hb, fun x c e => (I'.ok.exf b hb).2 x c e, fun p hp => absurd (show p ∈ ([] : List (Addr × Obj)) ++ [] from hp) (by simp)⟩
  have calm : (X.blk s3 H3 scope ce fp).calm = true := hc
  have quiet : ∀ e s, ¬ (X.blk s3 H3 scope ce fp).xe e s := fun e s z => z
  have loop : codeAny (model X.prog X.w) X.A (.compLoop (two kx vx t0 i0 t1 i1 c0 c1 scope ps) 0 (.ref it) (.ref D) ce) (compPost (model X.prog X.w) X.A X.xe use Qf (.ref D) C) s4 := by
    refine outer_loop (hs1 ce) (fun n s' => ∃ i H', Inv (X.blk s3 H3 scope ce fp) [] (wipe σ (own.map (·.2))) H' s' ∧ tn i s'.heap ∧ (∀ b ∈ fp, H' b = none) ∧ W i n H') ?_ m0 ⟨0, H3, I4, at4, none3, w0⟩
    rintro n s5 ⟨i, H5, I5, at5, none5, w5⟩
    rcases turn i n H5 w5 with ⟨stop, qq⟩ | ⟨go, N, hN', step⟩
    · refine head_stop (Y := X.blk s3 H3 scope ce fp) calm T I5 (stat rfl I5 none5) at5 stop fun s6 I6 => ?_
      have I7 : Inv X pins σ H5 s6 := I3.call' (ch := fp) I6.os I6.base I6.hok I6.bare fun b hb => ⟨(free3 b hb).1.2.2.2.1, (free3 b hb).1.2.1, (free3 b hb).1.2.2.2.2.1, (free3 b hb).1.2.2.2.2.2⟩
      have nC : H5 C = none := by
        have z : H5 ce.locals = none := I6.free
        rwa [locs] at z
      obtain ⟨m, hn, _⟩ := I6.loc
      have hn : s6.heap.Ns ce.locals m := hn
      rw [locs] at hn
      exact fin D C s6 m H5 I7 qq hn (I3.fpOk (Nat.le_of_eq hC) nC)
    · refine head_go (Y := X.blk s3 H3 scope ce fp) quiet calm pg pt T I5 (stat rfl I5 none5) at5 go (fun H' s' I' hn => stat rfl I' hn) step fun b hp σ2 H6 s6 at6 I6 wi q6 => ?_
      have back : ∀ {σ9 : L2.St} {s' : Shared} {H' : Hp}, Inv (X.blk s3 H3 scope ce fp) ([] ++ pinsAt fp hp) σ9 H' s' → (wipe σ (own.map (·.2))).length = σ9.length → (∀ (j : Nat) v, (wipe σ (own.map (·.2)))[j]? = some (some v) → σ9[j]? = some (some v)) → N H' →
          ∃ m, m < n ∧ ∃ i H', Inv (X.blk s3 H3 scope ce fp) [] (wipe σ (own.map (·.2))) H' s' ∧ tn i s'.heap ∧ (∀ b ∈ fp, H' b = none) ∧ W i m H' := fun {σ9 s' H'} I' hl hk nx => by
        obtain ⟨m', lt, w'⟩ := hN' H' nx
        refine ⟨m', lt, i + 1, H', (I'.unpinned (pins := [])).weak hl hk, T.keep _ _ _ at6 fun b hb o e => (kept_pin I' b hb o e).1, fun b hb => ?_, w'⟩
        obtain ⟨o, e, _⟩ := T.obj _ _ at6 b hb
        exact (kept_pin I' b hb o e).2
      have len2 : (wipe σ (own.map (·.2))).length = σ2.length := by rw [← wi, wipe_length]
      cases b with
      | false => exact back I6 len2 (fun j v e => by rw [← wi] at e; exact (wipe_some e).1) q6
      | true =>
        have none : ∀ {E : Value → Shared → Prop} e s, (X.blk s3 H3 scope ce fp).xe e s → E e s := fun e s z => z.elim
        refine wpAny_mono (pi1.run _ s6 σ2 H6 _ I6 q6) (fun xv s7 got => wpAny_mono got (fun itv s8 got => ?_) none) none
        obtain ⟨it1, fp1, tn1, J1, H8, rfl, I8, T1, at8, free8, q8⟩ := got
        refine inner_all (Y := X.blk s3 H3 scope ce fp) (R := fun r s' => match r with
          | .ok _ => ∃ m, m < n ∧ ∃ i H', Inv (X.blk s3 H3 scope ce fp) [] (wipe σ (own.map (·.2))) H' s' ∧ tn i s'.heap ∧ (∀ b ∈ fp, H' b = Option.none) ∧ W i m H'
          | .error _ => False) quiet calm pg1 pt1 pk pe T1 I8 at8 free8 q8 fun H' s' I' nx => ?_
        refine back I' (len2.trans (wipe_length σ2 us).symm) (fun j v e => ?_) nx
        rw [← wi] at e
        obtain ⟨e1, e2⟩ := wipe_some e
        rw [wipe_out fun z => e2 (hv j z)]
        exact e1
  exact codeAny_compStart_dict loop (T.self X.A 0 _ _ _ at4 loop)
/-- as a value -/
theorem pe_dc2 (hc : X.calm = true) (hN : X.N.Nodup) (hi : PI X t0 i0 wi) (ok : BlkOk X.N X.env.scope scope own) (hv : ∀ i ∈ us, i ∈ own.map (·.2))
    (a0 : ∀ (s : Shared) (H : Hp) (C : Addr) (cl : List (Str × Addr)) (fp : List Addr), PG (X.blk s H scope (compEnvC scope cl C X.env) fp) t0 g)
    (a1 : ∀ (s : Shared) (H : Hp) (C : Addr) (cl : List (Str × Addr)) (fp : List Addr), PTs (X.blk s H scope (compEnvC scope cl C X.env) fp) c0 tt)
    (a2 : ∀ (s : Shared) (H : Hp) (C : Addr) (cl : List (Str × Addr)) (fp : List Addr), PI (X.blk s H scope (compEnvC scope cl C X.env) fp) t1 i1 wi1)
    (a3 : ∀ (s : Shared) (H : Hp) (C : Addr) (cl : List (Str × Addr)) (fp : List Addr), PG (X.blk s H scope (compEnvC scope cl C X.env) fp) t1 g1)
    (a4 : ∀ (s : Shared) (H : Hp) (C : Addr) (cl : List (Str × Addr)) (fp : List Addr), PTs (X.blk s H scope (compEnvC scope cl C X.env) fp) c1 tt1)
    (a5 : ∀ (s : Shared) (H : Hp) (C : Addr) (cl : List (Str × Addr)) (fp : List Addr), PE (X.blk s H scope (compEnvC scope cl C X.env) fp) kx tk)
    (a6 : ∀ (s : Shared) (H : Hp) (C : Addr) (cl : List (Str × Addr)) (fp : List Addr), PE (X.blk s H scope (compEnvC scope cl C X.env) fp) vx tv)
    (hs : ∀ x, foldedSetIterable i0 X.env x = pure x := by intro _; rfl) (hs1 : ∀ env x, foldedSetIterable i1 env x = pure x := by intro _ _; rfl) :
    PE X (two kx vx t0 i0 t1 i1 c0 c1 scope ps) (tDc2 wi g tt wi1 g1 tt1 tk tv (own.map (·.2)) us) := by
  refine ⟨fun pins s σ H Q I h => ?_⟩
  rw [arm_eval_DictComp]
  refine dc2_core hc hN I hi ok hv a0 a1 a2 a3 a4 a5 a6 hs hs1 h fun D C s' m H' I' q hn f => ⟨m, hn, fun h'' but => ?_⟩
  obtain ⟨f0, f1, f2, f3, f4, f5⟩ := f
  exact ⟨.ref D, H', I'.turned (t' := s'.toks) (fun b o hb e => (but.2 b hb).trans e) f0 f1 f3 f4 f5, rfl, q⟩
end
end Dc
set_option maxHeartbeats 1000000
/-! max of a list of ints, default=d -/
namespace Mx
open PySem PySem.Spec PyProof.Rows L2
section
variable {prog : Program} {w : World} {A : Around} {R : Result → Shared → Prop} {I S : Addr} {fp wr : List Addr} {n : Nat} {P : Nat → Value → Prop} {St : Nat → Heap → Prop} {bt : Nat → Nat → Bool} {kw : List (Str × Value)}
abbrev lst2 (xs : Array Value) (c : Nat) : Obj := { cls := .type "list", dict := none, data := .seq xs c, slots := #[] }
/-- the way out: the best of n -/
def Out (R : Result → Shared → Prop) (P : Nat → Value → Prop) (wr : List Addr) (S : Addr) (at_ : Nat) (s : Shared) : Prop :=
  ∀ v h tk, P at_ v → (∀ b o, b ∉ wr → b ≠ S → s.heap.get? b = some o → h.get? b = some o) → R (.ok (.ret v)) { s with heap := h, toks := tk }
theorem loop_on (W : Walks prog w A.in1 I fp wr n P St) (hc : CmpOf prog w A.in1 .Gt P bt) (nS : S ∉ fp) : ∀ (k j : Nat) (s : Shared) (vb : Value) (c : Nat), n = j + 1 + k → St (j + 1) s.heap → P (argBest bt j) vb →
    s.heap.get? S = some (lst2 #[vb, vb] c) → Out R P wr S (argBest bt (n - 1)) s → codeAny (model prog w) A (.builtin "max.loop" ⟨[.ref I, .none, .ref S], kw⟩) R s := by
  have nSw : S ∉ wr := fun z => nS (W.sub _ z)
  have nm : (toString "max" ++ toString ".loop" : String) = "max.loop" := by decide
  intro k
  induction k with
  | zero =>
    intro j s vb c e st pb hS out
    refine codeAny_builtin F.entry_max_loop ?_
    rw [Around.under_plainId F.plain_max_loop _]
    show wpAny _ A.in1 (seqItems? (.ref S) >>= _) _ _ s
    refine wpAny_bind (wpAny_seqItems hS rfl ?_)
    show wpAny _ A.in1 (tryCatch (pyNext (.ref I)) _ >>= _) _ _ s
    have e' : n = j + 1 := e
    refine wpAny_bind (wpAny_tryCatch (W.done s _ _ (e' ▸ st) fun h tk keep => ?_))
    have hS2 := keep S _ nSw hS
    show wpAny _ A.in1 (updateSeq S (fun _ => #[]) >>= _) _ _ _
    refine wpAny_bind (wpAny_updateSeq hS2 rfl (wpAny_bind (wpAny_letGo (wpAny_pure ?_))))
    refine out vb _ tk (by rw [e']; exact pb) fun b o nw nb x => ?_
    exact (Heap.get?_update_other _ _ (Ne.symm nb)).trans (keep b o nw x)
  | succ k ih =>
    intro j s vb c e st pb hS out
    have lt : j + 1 < n := by omega
    refine codeAny_builtin F.entry_max_loop ?_
    rw [Around.under_plainId F.plain_max_loop _]
    show wpAny _ A.in1 (seqItems? (.ref S) >>= _) _ _ s
    refine wpAny_bind (wpAny_seqItems hS rfl ?_)
    show wpAny _ A.in1 (tryCatch (pyNext (.ref I)) _ >>= _) _ _ s
    refine wpAny_bind (wpAny_tryCatch (W.item (j + 1) s _ _ lt st fun v h tk pv st2 keep => ?_))
    have hS2 := keep S _ nSw hS
    show wpAny _ A.in1 (tryCatch (holding [v, v] (richCompare .Gt v vb >>= _)) _ >>= _) _ _ _
    refine wpAny_bind (wpAny_tryCatch (wpAny_holding (wpAny_bind (hc (j + 1) (argBest bt j) v vb _ _ _ pv pb (wpAny_bind (wpAny_holding (wpAny_truthy_bool ?_)))))))
    refine wpAny_bind (wpAny_letGo (wpAny_pure ?_))
    by_cases hb : bt (j + 1) (argBest bt j) = true
    · rw [if_pos hb]
      refine wpAny_bind (wpAny_updateSeq hS2 rfl (wpAny_bind (wpAny_letGo ?_)))
      rw [nm]
      have best : argBest bt (j + 1) = j + 1 := by
        show (if _ then _ else _) = _
        rw [if_pos hb]
      refine wpAny_pure ⟨plainId_quiet F.plain_max_loop _, ih (j + 1) _ v _ (by omega) (W.frame _ _ _ st2 fun b hbf o x => ?_) (by rw [best]; exact pv) (Heap.get?_update_self _ hS2 rfl) fun v2 h2 tk2 p2 keep2 => ?_⟩
      · have ne : S ≠ b := fun z => nS (by rw [z]; exact hbf)
        exact (Heap.get?_update_other _ _ ne).trans x
      · refine out v2 h2 tk2 p2 fun b o nw nb x => keep2 b o nw nb ?_
        exact (Heap.get?_update_other _ _ (Ne.symm nb)).trans (keep b o nw x)
    · rw [if_neg hb]
      refine wpAny_bind (wpAny_letGo ?_)
      rw [nm]
      have best : argBest bt (j + 1) = argBest bt j := by
        show (if _ then _ else _) = _
        rw [if_neg hb]
      refine wpAny_pure ⟨plainId_quiet F.plain_max_loop _, ih (j + 1) _ vb c (by omega) st2 (by rw [best]; exact pb) hS2 fun v2 h2 tk2 p2 keep2 => ?_⟩
      exact out v2 h2 tk2 p2 fun b o nw nb x => keep2 b o nw nb (keep b o nw x)
theorem loop_first (W : Walks prog w A.in1 I fp wr n P St) (hc : CmpOf prog w A.in1 .Gt P bt) (nS : S ∉ fp) (hn : 0 < n) {s : Shared} {c : Nat} (st : St 0 s.heap) (hS : s.heap.get? S = some (lst2 #[] c)) (out : Out R P wr S (argBest bt (n - 1)) s) :
    codeAny (model prog w) A (.builtin "max.loop" ⟨[.ref I, .none, .ref S], kw⟩) R s := by
  have nSw : S ∉ wr := fun z => nS (W.sub _ z)
  have nm : (toString "max" ++ toString ".loop" : String) = "max.loop" := by decide
  refine codeAny_builtin F.entry_max_loop ?_
  rw [Around.under_plainId F.plain_max_loop _]
  show wpAny _ A.in1 (seqItems? (.ref S) >>= _) _ _ s
  refine wpAny_bind (wpAny_seqItems hS rfl ?_)
  show wpAny _ A.in1 (tryCatch (pyNext (.ref I)) _ >>= _) _ _ s
  refine wpAny_bind (wpAny_tryCatch (W.item 0 s _ _ hn st fun v h tk pv st2 keep => ?_))
  have hS2 := keep S _ nSw hS
  show wpAny _ A.in1 (updateSeq S (fun _ => #[v, v]) >>= _) _ _ _
  refine wpAny_bind (wpAny_updateSeq hS2 rfl ?_)
  rw [nm]
  refine wpAny_pure ⟨plainId_quiet F.plain_max_loop _, loop_on W hc nS (n - 1) 0 _ v _ (by omega) (W.frame _ _ _ st2 fun b hbf o x => ?_) pv (Heap.get?_update_self _ hS2 rfl) fun v2 h2 tk2 p2 keep2 => ?_⟩
  · have ne : S ≠ b := fun z => nS (by rw [z]; exact hbf)
    exact (Heap.get?_update_other _ _ ne).trans x
  · refine out v2 h2 tk2 p2 fun b o nw nb x => keep2 b o nw nb ?_
    exact (Heap.get?_update_other _ _ (Ne.symm nb)).trans (keep b o nw x)
/-- nothing to compare: the default -/
theorem loop_none {x : Str} {d : Value} (W : Walks prog w A.in1 I fp wr n P St) (nS : S ∉ fp) (hn : n = 0) {s : Shared} {c : Nat} (st : St 0 s.heap) (hS : s.heap.get? S = some (lst2 #[] c))
    (out : ∀ h tk, (∀ b o, b ∉ wr → s.heap.get? b = some o → h.get? b = some o) → R (.ok (.ret d)) { s with heap := h, toks := tk }) :
    codeAny (model prog w) A (.builtin "max.loop" ⟨[.ref I, .none, .ref S], [(x, d)]⟩) R s := by
  subst hn
  refine codeAny_builtin F.entry_max_loop ?_
  rw [Around.under_plainId F.plain_max_loop _]
  show wpAny _ A.in1 (seqItems? (.ref S) >>= _) _ _ s
  refine wpAny_bind (wpAny_seqItems hS rfl ?_)
  show wpAny _ A.in1 (tryCatch (pyNext (.ref I)) _ >>= _) _ _ s
  refine wpAny_bind (wpAny_tryCatch (W.done s _ _ st fun h tk keep => ?_))
  refine wpAny_bind (wpAny_rule ?_)
  exact wpAny_pure (out h tk keep)
end
theorem args_max {a d : Value} : argsOk "max" ⟨[a], [(Str.ofString "default", d)]⟩ := by unfold argsOk; kernel_rfl
section
variable {prog : Program} {w : World} {A : Around} {E : Value → Shared → Prop} {s : Shared}
theorem run_max {x d : Value} {Q : Value → Shared → Prop}
    (h : wpAny (model prog w) A.in1 (pyIter x) (fun it s2 => ∃ I fp wr n P St bt, it = .ref I ∧ Walks prog w A.in1 I fp wr n P St ∧ St 0 s2.heap ∧ (∀ b ∈ fp, b < s2.heap.objs.size) ∧ CmpOf prog w A.in1 .Gt P bt ∧
      ∀ v h tk, (n = 0 → v = d) → (0 < n → P (argBest bt (n - 1)) v) → (∀ b o, b ∉ wr → s2.heap.get? b = some o → h.get? b = some o) → Q v { s2 with heap := h, toks := tk }) E s) :
    wpAny (model prog w) A (call (.builtin "max") [x] [(Str.ofString "default", d)]) Q E s := by
  have nm : (toString "max" ++ toString ".loop" : String) = "max.loop" := by decide
  refine kmk_tree F.kind_max F.plain_max F.entry_max args_max ?_
  show wpAny _ A.in1 (Builtin.Builtins.bindParams "max" ["key", "default"] 0 ⟨[], [(Str.ofString "default", d)]⟩ >>= _) _ _ s
  have bound : Builtin.Builtins.bindParams "max" ["key", "default"] 0 ⟨[], [(Str.ofString "default", d)]⟩ = pure [none, some d] := by rfl
  refine wpAny_bind (wpAny_of_eq bound (wpAny_bind (wpAny_pure (wpAny_bind (wpAny_mono h (fun it s2 got => ?_) fun _ _ z => z)))))
  obtain ⟨I, fp, wr, n, P, St, bt, rfl, W, st, old, cmp, q⟩ := got
  refine wpAny_bind (wpAny_newObj_type ?_)
  have nS : s2.heap.objs.size ∉ fp := fun z => Nat.lt_irrefl _ (old _ z)
  have st2 : St 0 (s2.heap.push (lst2 #[] 0)) := W.frame _ _ _ st fun b _ o e => Heap.get?_push_of_some _ e
  have keepOld : ∀ {h : Heap}, (∀ b o, b ∉ wr → b ≠ s2.heap.objs.size → (s2.heap.push (lst2 #[] 0)).get? b = some o → h.get? b = some o) → ∀ b o, b ∉ wr → s2.heap.get? b = some o → h.get? b = some o := fun k b o nb e =>
    k b o nb (Nat.ne_of_lt (Heap.lt_size e)) (Heap.get?_push_of_some _ e)
  rw [nm]
  rcases Nat.eq_zero_or_pos n with e | e
  · refine wpAny_pure ⟨plainId_quiet F.plain_max_loop _, loop_none W nS e st2 (Heap.get?_push_size _ rfl) fun h tk k => ?_⟩
    exact q d h tk (fun _ => rfl) (fun z => absurd z (by omega)) (keepOld fun b o nb _ x => k b o nb x)
  · refine wpAny_pure ⟨plainId_quiet F.plain_max_loop _, loop_first W cmp nS e st2 (Heap.get?_push_size _ rfl) fun v h tk pv k => ?_⟩
    exact q v h tk (fun z => absurd e (by omega)) (fun _ => pv) (keepOld k)
theorem max_ints {l : Addr} {its : List Value} {ns : List Int} {d : Value} {Q : Value → Shared → Prop} (hh : A.handled = none) (hl : s.heap.IsList l its.toArray) (hi : IntsAre its ns)
    (h : ∀ h' tk v, (∀ b o, s.heap.get? b = some o → h'.get? b = some o) → (ns = [] → v = d) → (ns ≠ [] → ∃ M t, v = .int M t ∧ M ∈ ns ∧ ∀ a ∈ ns, a ≤ M) → Q v { s with heap := h', toks := tk }) :
    wpAny (model prog w) A (call (.builtin "max") [.ref l] [(Str.ofString "default", d)]) Q E s := by
  obtain ⟨xs, e⟩ := hi.allInts.items
  have hn : numsOf (intItems xs).toList = ns := by rw [← e]; exact hi.numsOf
  rw [nums_intItems] at hn
  subst hn
  rw [e] at hl
  refine run_max (iter_intList hl fun s2 e2 st old ne => ?_)
  subst e2
  refine ⟨_, _, _, _, _, _, _, rfl, Walks.list (A := A.in1) hh _ l ne (intItems xs), st, old, CmpOf.ints_gt (numAt xs) (fun _ _ => intItems_at), fun v h' tk z0 z1 keep => ?_⟩
  have size : (intItems xs).size = xs.size := by simp [intItems]
  have lenz : (xs.toList.map (·.1)) = [] ↔ xs.size = 0 := by simp
  refine h h' tk v (old_kept keep) (fun z => z0 (by rw [size]; exact lenz.mp z)) fun z => ?_
  have pos : 0 < xs.size := by
    rcases Nat.eq_zero_or_pos xs.size with q | q
    · exact absurd (lenz.mpr q) z
    · exact q
  have hv := z1 (by rw [size]; exact pos)
  rw [size] at hv
  obtain ⟨t, rfl⟩ := intItems_at hv
  obtain ⟨h1, h2⟩ := argBest_gt (numAt xs) (xs.size - 1)
  refine ⟨_, t, rfl, ?_, fun a ha => ?_⟩
  · rw [numAt_eq]
    exact PySem.getD_mem (by rw [List.length_map, Array.length_toList]; omega)
  · obtain ⟨j, hj, rfl⟩ := mem_getD ha
    rw [List.length_map, Array.length_toList] at hj
    rw [← numAt_eq]
    exact h2 j (by omega)
end
def rMaxDef (K : PySem.W.Frag) : List V → List V → Hp → VK → Prop := fun vs zs H Q => ∃ (a : Addr) (ns : List Int) (d : Int), vs = [V.ref a] ∧ zs = [.int d] ∧ SqL K H a (ns.map V.int) ∧ ∀ m, (ns = [] → m = d) → (ns ≠ [] → m ∈ ns ∧ ∀ y ∈ ns, y ≤ m) → Q (.int m) H
theorem cr_maxDef {X : Cx} (hc : X.calm = true) : CallRK X (.builtin "max") [Str.ofString "default"] (rMaxDef X.K) := by
  intro pins s σ H vs zs us ws Q I r rz h
  obtain ⟨a, ns, d, rfl, rfl, hs, q⟩ := h
  obtain ⟨its, rv, hl, _⟩ := I.list hs
  obtain rfl := Vals.ref1 r
  obtain ⟨w1, rfl, e1⟩ := vals1 rz
  obtain ⟨t0, rfl⟩ := e1
  refine max_ints (I.ok.hd hc) hl.isList rv.ints fun h' tk v keep z0 z1 => ?_
  by_cases e : ns = []
  · obtain rfl := z0 e
    exact ⟨.int d, H, I.kept keep, ⟨_, rfl⟩, q d (fun _ => rfl) fun z => absurd e z⟩
  · obtain ⟨M, t, rfl, h1, h2⟩ := z1 e
    exact ⟨.int M, H, I.kept keep, ⟨_, rfl⟩, q M (fun z => absurd z e) fun _ => ⟨h1, h2⟩⟩
end Mx
set_option maxHeartbeats 1000000
/-! nets as plain data: their numbers -/
namespace Pw
open PySem PySem.Spec PyProof.Rows L2
structure Nd where
  name : Str
  kind : Str
  ps : List PyData
  ins : List Str
def Nd.dat (n : Nd) : PyData := .tuple [.str n.name, .str n.kind, .tuple n.ps, .list (n.ins.map PyData.str)]
theorem nd_of {d : PyData} (h : isNode d = true) : ∃ n : Nd, d = n.dat ∧ n.ins.length ≤ 10 := by
  obtain ⟨a, k, ps, zs, ws, rfl, l, _⟩ := params_shape h
  exact ⟨⟨a, k, ps, zs⟩, rfl, l⟩
/-- names are new, inputs stand ahead -/
inductive Wired : List Str → List Nd → Prop
  | nil {seen : List Str} : Wired seen []
  | cons {seen : List Str} {n : Nd} {r : List Nd} : n.name ∉ seen → (∀ z ∈ n.ins, z ∈ seen) → isNode n.dat = true → n.ins.length ≤ 10 → Wired (seen ++ [n.name]) r → Wired seen (n :: r)
theorem lookup_none {α : Type} : ∀ {ks : List (Str × α)} {z : Str}, ks.lookup z = none ↔ z ∉ ks.map (·.1)
  | [], z => by simp
  | (a, b) :: r, z => by
    rw [List.lookup_cons, List.map_cons, List.mem_cons, not_or]
    by_cases e : z = a
    · subst e
      rw [beq_self_eq_true]
      simp
    · rw [beq_eq_false_iff_ne.mpr e]
      have := lookup_none (ks := r) (z := z)
      simp [e, this]
theorem lookup_isSome {α : Type} {ks : List (Str × α)} {z : Str} (h : z ∈ ks.map (·.1)) : ∃ v, ks.lookup z = some v := by
  cases e : ks.lookup z with
  | none => exact absurd h (lookup_none.mp e)
  | some v => exact ⟨v, rfl⟩
theorem wired_of : ∀ {ds : List PyData} {n : Nat} {ks : List (Str × Str)} {us : List (Str × Int)}, checkFrom n ks us ds = none → ∃ ns : List Nd, ds = ns.map Nd.dat ∧ Wired (ks.map (·.1)) ns
  | [], _, _, _, _ => ⟨[], rfl, .nil⟩
  | d :: ds, n, ks, us, h => by
    have h1 : (match step ks us d with | some r => checkFrom (n + 1) (ks ++ [(r.1, r.2.1)]) (useAll us r.2.2) ds | none => some (n : Int)) = none := h
    cases hd : isNode d with
    | false =>
      rw [step_no hd] at h1
      cases h1
    | true =>
      obtain ⟨m, rfl, lm⟩ := nd_of hd
      have e := step_at (ks := ks) (us := us) hd
      change step ks us m.dat = _ at e
      by_cases c : ((ks.lookup m.name).isNone && mayRead m.ins ks us) = true
      · rw [if_pos c] at e
        rw [e] at h1
        obtain ⟨ns, rfl, w⟩ := wired_of (ds := ds) h1
        rw [Bool.and_eq_true] at c
        refine ⟨m :: ns, rfl, .cons ?_ (fun z hz => ?_) hd lm ?_⟩
        · exact lookup_none.mp (Option.isNone_iff_eq_none.mp c.1)
        · have c2 : mayOne m.ins ks us z = true := List.all_eq_true.mp c.2 z hz
          unfold mayOne at c2
          cases e2 : ks.lookup z with
          | none =>
            rw [e2] at c2
            cases c2
          | some v =>
            by_cases q : z ∈ ks.map (·.1)
            · exact q
            · rw [lookup_none.mpr q] at e2
              cases e2
        · rw [List.map_append] at w
          exact w
      · rw [if_neg c] at e
        rw [e] at h1
        cases h1
theorem nodes_of {d : PyData} (h : checkNodes d = none) : ∃ ns : List Nd, d = .list (ns.map Nd.dat) ∧ 1 ≤ ns.length ∧ ns.length ≤ 30 ∧ Wired [] ns := by
  cases d with
  | list ds =>
    have h1 : (if (decide ((1 : Int) ≤ ds.length) && decide ((ds.length : Int) ≤ 30)) = true then checkFrom 0 [] [] ds else some (-1)) = none := h
    by_cases c : (decide ((1 : Int) ≤ ds.length) && decide ((ds.length : Int) ≤ 30)) = true
    · rw [if_pos c] at h1
      obtain ⟨ns, rfl, w⟩ := wired_of h1
      rw [Bool.and_eq_true, List.length_map] at c
      have c1 := of_decide_eq_true c.1
      have c2 := of_decide_eq_true c.2
      exact ⟨ns, rfl, by omega, by omega, w⟩
    · rw [if_neg c] at h1
      cases h1
  | _ => cases h
/-! ### what is below a node -/
def look (b : List (Str × Int)) (z : Str) : Int := (b.lookup z).getD 0
def belowBy (f : Nd → List Int → Int) : List (Str × Int) → List Nd → List (Str × Int)
  | b, [] => b
  | b, n :: r => belowBy f (b ++ [(n.name, f n (n.ins.map (look b)))]) r
def used (ns : List Nd) (z : Str) : Bool := ns.any fun n => decide (z ∈ n.ins)
def outs (ns : List Nd) : List Str := (ns.filter fun n => !used ns n.name).map (·.name)
def fC (_ : Nd) (xs : List Int) : Int := 1 + xs.sum
def fW (n : Nd) (xs : List Int) : Int := ownW n.dat * prodI xs
def maxI (xs : List Int) : Int := xs.foldl max 0
def loopsL : List Str := ["keep", "after", "drop", "step", "batch", "heads", "lengths"]
def fL (n : Nd) (xs : List Int) : Int := (if n.kind ∈ loopsL then 1 else 0) + maxI xs
def overOuts (f : Nd → List Int → Int) (ns : List Nd) : List Int := (outs ns).map (look (belowBy f [] ns))
def cellsN (ns : List Nd) : Int := (overOuts fC ns).sum
def weightN (ns : List Nd) : Int := prodI (overOuts fW ns)
def loopsN (ns : List Nd) : Int := maxI (overOuts fL ns)
def loadN (ns : List Nd) (d : Int) : Int := powI (2 * weightN ns + 3) (loopsN ns + d).toNat
def limitN (ns : List Nd) : Option Int := if cellsN ns > 100 then some 100 else if weightN ns > 200 then some 200 else if loadN ns 1 > 10000 then some 10000 else none
theorem look_snoc_ne {b : List (Str × Int)} {z y : Str} {v : Int} (h : z ≠ y) : look (b ++ [(y, v)]) z = look b z := by
  unfold look
  rw [List.lookup_append]
  have e : List.lookup z [(y, v)] = none := by
    rw [List.lookup_cons, beq_eq_false_iff_ne.mpr h]
    rfl
  rw [e, Option.or_none]
theorem look_snoc {b : List (Str × Int)} {y : Str} {v : Int} (h : y ∉ b.map (·.1)) : look (b ++ [(y, v)]) y = v := by
  unfold look
  rw [List.lookup_append, lookup_none.mpr h]
  have e : List.lookup y [(y, v)] = some v := by
    rw [List.lookup_cons, beq_self_eq_true]
  rw [e]
  rfl
theorem below_keys (f : Nd → List Int → Int) : ∀ (ns : List Nd) (b : List (Str × Int)), (belowBy f b ns).map (·.1) = b.map (·.1) ++ ns.map (·.name)
  | [], b => by simp [belowBy]
  | n :: r, b => by
    show (belowBy f (b ++ [(n.name, _)]) r).map (·.1) = _
    rw [below_keys f r]
    simp
theorem below_old (f : Nd → List Int → Int) : ∀ {ns : List Nd} {seen : List Str} {b : List (Str × Int)} {z : Str}, Wired seen ns → z ∈ seen → look (belowBy f b ns) z = look b z
  | [], _, _, _, _, _ => rfl
  | n :: r, seen, b, z, w, hz => by
    cases w with
    | cons h1 h2 h3 h4 h5 =>
      show look (belowBy f (b ++ [(n.name, _)]) r) z = _
      rw [below_old f h5 (List.mem_append_left _ hz), look_snoc_ne]
      exact fun e => h1 (by rw [← e]; exact hz)
/-- the value at a node is that of its inputs -/
theorem below_at (f : Nd → List Int → Int) : ∀ {ns : List Nd} {seen : List Str} {b : List (Str × Int)} {n : Nd}, Wired seen ns → b.map (·.1) = seen → n ∈ ns → look (belowBy f b ns) n.name = f n (n.ins.map (look (belowBy f b ns)))
  | m :: r, seen, b, n, w, hb, hn => by
    cases w with
    | cons h1 h2 h3 h4 h5 =>
      have hb2 : (b ++ [(m.name, f m (m.ins.map (look b)))]).map (·.1) = seen ++ [m.name] := by
        rw [List.map_append, hb]
        rfl
      show look (belowBy f (b ++ [(m.name, f m (m.ins.map (look b)))]) r) n.name = f n (n.ins.map (look (belowBy f (b ++ [(m.name, f m (m.ins.map (look b)))]) r)))
      rcases List.mem_cons.mp hn with rfl | hn
      · rw [below_old f h5 (by simp), look_snoc (by rw [hb]; exact h1)]
        congr 1
        apply List.map_congr_left
        intro z hz
        have hz2 := h2 z hz
        rw [below_old f h5 (List.mem_append_left _ hz2), look_snoc_ne]
        exact fun e => h1 (by rw [← e]; exact hz2)
      · exact below_at f h5 hb2 hn
/-- what holds of each node's value, from its inputs' -/
theorem below_all (f g : Nd → List Int → Int) (R : Int → Int → Prop) (step : ∀ (n : Nd) (xs ys : List Int), isNode n.dat = true → xs.length = ys.length → (∀ (i : Nat) (x y : Int), xs[i]? = some x → ys[i]? = some y → R x y) → R (f n xs) (g n ys)) :
    ∀ {ns : List Nd} {seen : List Str} {b c : List (Str × Int)}, Wired seen ns → b.map (·.1) = seen → c.map (·.1) = seen → (∀ z ∈ seen, R (look b z) (look c z)) → ∀ z ∈ seen ++ ns.map (·.name), R (look (belowBy f b ns) z) (look (belowBy g c ns) z)
  | [], seen, b, c, _, _, _, h, z, hz => h z (by simpa using hz)
  | m :: r, seen, b, c, w, hb, hc, h, z, hz => by
    cases w with
    | cons h1 h2 h3 h4 h5 =>
      refine below_all f g R step h5 (b := b ++ [(m.name, f m (m.ins.map (look b)))]) (c := c ++ [(m.name, g m (m.ins.map (look c)))]) (by rw [List.map_append, hb]; rfl) (by rw [List.map_append, hc]; rfl) (fun y hy => ?_) z (by simpa using hz)
      rcases List.mem_append.mp hy with hy | hy
      · have ne : y ≠ m.name := fun e => h1 (by rw [← e]; exact hy)
        rw [look_snoc_ne ne, look_snoc_ne ne]
        exact h y hy
      · obtain rfl := List.mem_singleton.mp hy
        rw [look_snoc (by rw [hb]; exact h1), look_snoc (by rw [hc]; exact h1)]
        refine step m _ _ h3 (by simp) fun i x y e1 e2 => ?_
        rw [List.getElem?_map] at e1 e2
        obtain ⟨u, f1, rfl⟩ := Option.map_eq_some_iff.mp e1
        obtain ⟨u2, f2, rfl⟩ := Option.map_eq_some_iff.mp e2
        cases f1.symm.trans f2
        exact h u (h2 u (List.mem_of_getElem? f1))
end Pw
set_option maxHeartbeats 1000000
/-! how great the numbers of a net can be -/
namespace Pw
open PySem PySem.Spec PyProof.Rows L2
theorem prodI_cons (a : Int) (xs : List Int) : prodI (a :: xs) = a * prodI xs := by
  have h : ∀ (xs : List Int) (b : Int), xs.foldl (fun a b => a * b) b = b * xs.foldl (fun a b => a * b) 1 := by
    intro xs
    induction xs with
    | nil => intro b; simp
    | cons x r ih =>
      intro b
      rw [List.foldl_cons, List.foldl_cons, ih (b * x), ih (1 * x), Int.one_mul, Int.mul_assoc]
  show (a :: xs).foldl _ 1 = _
  rw [List.foldl_cons, h, Int.one_mul]
  rfl
theorem sum_ge : ∀ {xs : List Int} {x : Int}, (∀ y ∈ xs, 0 ≤ y) → x ∈ xs → x ≤ xs.sum
  | y :: r, x, h, hx => by
    rw [List.sum_cons]
    have h0 : 0 ≤ y := h y List.mem_cons_self
    have hr : 0 ≤ r.sum := by
      clear hx
      have h2 : ∀ z ∈ r, 0 ≤ z := fun z hz => h z (List.mem_cons_of_mem _ hz)
      clear h h0
      induction r with
      | nil => exact Int.le_refl _
      | cons z r ih =>
        rw [List.sum_cons]
        have a1 := h2 z List.mem_cons_self
        have a2 := ih fun u hu => h2 u (List.mem_cons_of_mem _ hu)
        omega
    rcases List.mem_cons.mp hx with rfl | hx
    · omega
    · have := sum_ge (xs := r) (fun z hz => h z (List.mem_cons_of_mem _ hz)) hx
      omega
theorem fits3 {a b c : Str} {d e f : PyData} (h : fits [a, b, c] [d, e, f] = true) : ofSort a d = true ∧ ofSort b e = true := by
  have h' : (ofSort a d && (ofSort b e && (ofSort c f && true))) = true := h
  rw [Bool.and_eq_true, Bool.and_eq_true] at h'
  exact ⟨h'.1, h'.2.1⟩
theorem between_iff {n lo hi : Int} (h : between (.int n) lo hi = true) : lo ≤ n ∧ n ≤ hi := by
  have h' : (decide (lo ≤ n) && decide (n ≤ hi)) = true := h
  rw [Bool.and_eq_true] at h'
  exact ⟨of_decide_eq_true h'.1, of_decide_eq_true h'.2⟩
/-- a node's own weight is from 1 to 100 -/
theorem own_range {d : PyData} (h : isNode d = true) : 1 ≤ ownW d ∧ ownW d ≤ 100 := by
  obtain ⟨a, k, p, zs, rfl, lz⟩ := node_shape h
  have h1 : (isName (.str a) && ((kindsL.lookup k).isSome && (areParams k p && areInputs k (.list (zs.map PyData.str))))) = true := h
  rw [Bool.and_eq_true, Bool.and_eq_true, Bool.and_eq_true] at h1
  obtain ⟨_, h2, h3, h4⟩ := h1
  obtain ⟨ws, hk⟩ := Option.isSome_iff_exists.mp h2
  unfold areParams at h3
  rw [hk] at h3
  cases p with
  | tuple ps =>
    have h5 : (decide (ps.length = ws.length) && (fits ws ps && batchOk k ps)) = true := h3
    rw [Bool.and_eq_true, Bool.and_eq_true] at h5
    obtain ⟨hl, hf, hb⟩ := h5
    have hl := of_decide_eq_true hl
    have hi : (decide ((inRange k).1 ≤ (zs.map PyData.str).length) && decide (((zs.map PyData.str).length : Int) ≤ (inRange k).2) && (zs.map PyData.str).all isName) = true := h4
    rw [Bool.and_eq_true, Bool.and_eq_true, List.length_map] at hi
    have i1 := of_decide_eq_true hi.1.1
    have i2 := of_decide_eq_true hi.1.2
    show 1 ≤ ownOf k ps (zs.map PyData.str) ∧ ownOf k ps (zs.map PyData.str) ≤ 100
    unfold ownOf
    by_cases m1 : k ∈ [("ring" : Str), "table"]
    · rw [if_pos m1]
      obtain ⟨xs, rfl⟩ := ring_shape m1 hk hl hf
      have e : ws = [("some integers" : Str)] := by
        rcases List.mem_cons.mp m1 with rfl | m1
        · exact Option.some.inj (hk.symm.trans (by decide +kernel))
        · obtain rfl := List.mem_singleton.mp m1
          exact Option.some.inj (hk.symm.trans (by decide +kernel))
      subst e
      have hf' : (areInts (.list xs) 1 100 && true) = true := hf
      have h6 : (decide ((1 : Int) ≤ xs.length) && decide ((xs.length : Int) ≤ 100) && xs.all isParam) = true := by
        rw [Bool.and_true] at hf'
        exact hf'
      rw [Bool.and_eq_true, Bool.and_eq_true] at h6
      exact ⟨of_decide_eq_true h6.1.1, of_decide_eq_true h6.1.2⟩
    · rw [if_neg m1]
      by_cases m2 : k ∈ [("keep" : Str), "until", "after"]
      · rw [if_pos m2]
        have e : ws = [("test" : Str)] := by
          rcases List.mem_cons.mp m2 with rfl | m2
          · exact Option.some.inj (hk.symm.trans (by decide +kernel))
          · rcases List.mem_cons.mp m2 with rfl | m2
            · exact Option.some.inj (hk.symm.trans (by decide +kernel))
            · obtain rfl := List.mem_singleton.mp m2
              exact Option.some.inj (hk.symm.trans (by decide +kernel))
        subst e
        obtain ⟨p, rfl, hp⟩ := fit_one hl hf
        obtain ⟨t, rfl, hn, a1, a2⟩ := test_shape (d := p) hp
        show 1 ≤ modD 4 t.dat ∧ modD 4 t.dat ≤ 100
        rw [modD_dat 4 t hn]
        exact ⟨a1, a2⟩
      · rw [if_neg m2]
        by_cases m3 : k = "stutter"
        · rw [if_pos m3]
          subst m3
          have e : ws = [("1 to 50" : Str)] := Option.some.inj (hk.symm.trans (by decide +kernel))
          subst e
          obtain ⟨p, rfl, hp⟩ := fit_one hl hf
          obtain ⟨n, rfl⟩ := int_of (d := p) (lo := 1) (hi := 50) hp
          obtain ⟨b1, b2⟩ := between_iff (n := n) (lo := 1) (hi := 50) hp
          exact ⟨b1, by show n ≤ 100; omega⟩
        · rw [if_neg m3]
          by_cases m4 : k = "batch"
          · rw [if_pos m4]
            subst m4
            have e : ws = [("from 1" : Str), "batch how", "batch rest"] := Option.some.inj (hk.symm.trans (by decide +kernel))
            subst e
            obtain ⟨n, t, e, rfl⟩ := batch_shape hl hf
            have f1 := between_iff (n := n) (lo := 1) (hi := 10 ^ 30) (fits3 hf).1
            show 1 ≤ (if t = "sum" then n else 1) ∧ (if t = "sum" then n else 1) ≤ 100
            by_cases m5 : t = "sum"
            · rw [if_pos m5]
              have hb' : (!decide (("batch" : Str) = "batch") || (!decide (t = "sum") || decide (n ≤ 50))) = true := hb
              rw [decide_eq_true (rfl : ("batch" : Str) = "batch"), decide_eq_true m5] at hb'
              have := of_decide_eq_true (show decide (n ≤ 50) = true from hb')
              omega
            · rw [if_neg m5]
              exact ⟨by decide, by decide⟩
          · rw [if_neg m4]
            by_cases m5 : k = "turns"
            · rw [if_pos m5, List.length_map]
              subst m5
              have e : inRange "turns" = (1, 10) := by decide +kernel
              rw [e] at i1 i2
              dsimp only at i1 i2
              omega
            · rw [if_neg m5]
              by_cases m6 : k = "choose"
              · rw [if_pos m6, List.length_map]
                subst m6
                have e : inRange "choose" = (2, 10) := by decide +kernel
                rw [e] at i1 i2
                dsimp only at i1 i2
                omega
              · rw [if_neg m6]
                exact ⟨by decide, by decide⟩
  | _ => exact absurd h3 Bool.false_ne_true
/-! ### weights by cells -/
def RCW (x y : Int) : Prop := 1 ≤ x ∧ 1 ≤ y ∧ y ≤ 2 ^ (7 * x.toNat)
theorem pow_pos2 (k : Nat) : (1 : Int) ≤ 2 ^ k := by
  induction k with
  | zero => decide
  | succ k ih =>
    rw [Int.pow_succ]
    omega
theorem prod_by_sum : ∀ (xs ys : List Int), xs.length = ys.length → (∀ (i : Nat) (x y : Int), xs[i]? = some x → ys[i]? = some y → RCW x y) → 0 ≤ xs.sum ∧ 1 ≤ prodI ys ∧ prodI ys ≤ 2 ^ (7 * xs.sum.toNat)
  | [], [], _, _ => ⟨Int.le_refl _, by decide, by decide⟩
  | x :: xs, y :: ys, hl, h => by
    obtain ⟨a1, a2, a3⟩ := h 0 x y rfl rfl
    obtain ⟨b1, b2, b3⟩ := prod_by_sum xs ys (by simpa using hl) fun i u v e1 e2 => h (i + 1) u v (by simpa using e1) (by simpa using e2)
    rw [List.sum_cons, prodI_cons]
    have e : (x + xs.sum).toNat = x.toNat + xs.sum.toNat := by omega
    refine ⟨by omega, ?_, ?_⟩
    · have := Int.mul_le_mul a2 b2 (by decide) (by omega)
      omega
    · rw [e, Nat.mul_add, Int.pow_add]
      exact Int.mul_le_mul a3 b3 (by omega) (by have := pow_pos2 (7 * x.toNat); omega)
theorem cw_step (n : Nd) (xs ys : List Int) (hn : isNode n.dat = true) (hl : xs.length = ys.length) (h : ∀ (i : Nat) (x y : Int), xs[i]? = some x → ys[i]? = some y → RCW x y) : RCW (fC n xs) (fW n ys) := by
  obtain ⟨b1, b2, b3⟩ := prod_by_sum xs ys hl h
  obtain ⟨o1, o2⟩ := own_range hn
  have e : (fC n xs).toNat = 1 + xs.sum.toNat := by
    unfold fC
    omega
  refine ⟨by unfold fC; omega, ?_, ?_⟩
  · have := Int.mul_le_mul o1 b2 (by decide) (by omega)
    unfold fW
    omega
  · rw [e, Nat.mul_add, Int.pow_add]
    have o3 : ownW n.dat ≤ 2 ^ (7 * 1) := by
      have : (2 : Int) ^ (7 * 1) = 128 := by decide
      omega
    exact Int.mul_le_mul o3 b3 (by omega) (by decide)
theorem cw_all {ns : List Nd} (w : Wired [] ns) : ∀ z ∈ ns.map (·.name), RCW (look (belowBy fC [] ns) z) (look (belowBy fW [] ns) z) := fun z hz =>
  below_all fC fW RCW cw_step w (b := []) (c := []) rfl rfl (fun z hz => absurd hz (by simp)) z (by simpa using hz)
/-! ### each node's cells are among those of the net -/
theorem wired_split : ∀ {pre suf : List Nd} {seen : List Str}, Wired seen (pre ++ suf) → Wired (seen ++ pre.map (·.name)) suf
  | [], suf, seen, w => by simpa using w
  | n :: pre, suf, seen, w => by
    cases w with
    | cons h1 h2 h3 h4 h5 =>
      have := wired_split (pre := pre) h5
      rwa [List.append_assoc] at this
theorem wired_ins : ∀ {ns : List Nd} {seen : List Str} {n : Nd} {z : Str}, Wired seen ns → n ∈ ns → z ∈ n.ins → z ∈ seen ++ ns.map (·.name)
  | m :: r, seen, n, z, w, hn, hz => by
    cases w with
    | cons h1 h2 h3 h4 h5 =>
      rcases List.mem_cons.mp hn with rfl | hn
      · exact List.mem_append_left _ (h2 z hz)
      · have := wired_ins h5 hn hz
        simpa [List.append_assoc] using this
theorem wired_pre : ∀ {pre suf : List Nd} {seen : List Str}, Wired seen (pre ++ suf) → Wired seen pre
  | [], _, _, _ => .nil
  | n :: pre, suf, seen, w => by
    cases w with
    | cons h1 h2 h3 h4 h5 => exact .cons h1 h2 h3 h4 (wired_pre h5)
theorem wired_node : ∀ {ns : List Nd} {seen : List Str} {n : Nd}, Wired seen ns → n ∈ ns → isNode n.dat = true ∧ n.ins.length ≤ 10
  | m :: r, seen, n, w, hn => by
    cases w with
    | cons h1 h2 h3 h4 h5 =>
      rcases List.mem_cons.mp hn with rfl | hn
      · exact ⟨h3, h4⟩
      · exact wired_node h5 hn
theorem cells_within {all : List Nd} (w : Wired [] all) : ∀ (suf pre : List Nd), all = pre ++ suf → ∀ n ∈ suf, look (belowBy fC [] all) n.name ≤ cellsN all
  | [], _, _, n, hn => absurd hn (by simp)
  | m :: suf, pre, e, n, hn => by
    have ih := cells_within w suf (pre ++ [m]) (by rw [e, List.append_assoc]; rfl)
    rcases List.mem_cons.mp hn with rfl | hn
    · have mem : n ∈ all := by rw [e]; simp
      have pos : ∀ z ∈ all.map (·.name), 1 ≤ look (belowBy fC [] all) z := fun z hz => (cw_all w z hz).1
      cases hu : used all n.name with
      | false =>
        refine sum_ge (fun y hy => ?_) (List.mem_map.mpr ⟨n.name, List.mem_map.mpr ⟨n, List.mem_filter.mpr ⟨mem, by rw [hu]; rfl⟩, rfl⟩, rfl⟩)
        obtain ⟨z, hz, rfl⟩ := List.mem_map.mp hy
        obtain ⟨u, hu2, rfl⟩ := List.mem_map.mp hz
        have := pos u.name (List.mem_map.mpr ⟨u, (List.mem_filter.mp hu2).1, rfl⟩)
        omega
      | true =>
        obtain ⟨u, hu2, hin⟩ := List.any_eq_true.mp hu
        have hin := of_decide_eq_true hin
        have w2 : Wired [] (pre ++ n :: suf) := by rw [← e]; exact w
        have us : u ∈ suf := by
          rw [e] at hu2
          rcases List.mem_append.mp hu2 with hp | hp
          · exfalso
            have a := wired_ins (wired_pre w2) hp hin
            have b := wired_split w2
            cases b with
            | cons h1 h2 h3 h4 h5 => exact h1 a
          · rcases List.mem_cons.mp hp with rfl | hp
            · exfalso
              have b := wired_split w2
              cases b with
              | cons h1 h2 h3 h4 h5 => exact h1 (h2 _ hin)
            · exact hp
        have le := ih u us
        have eq := below_at fC w (b := []) rfl hu2
        rw [eq] at le
        have ge : look (belowBy fC [] all) n.name ≤ (u.ins.map (look (belowBy fC [] all))).sum := by
          refine sum_ge (fun y hy => ?_) (List.mem_map.mpr ⟨n.name, hin, rfl⟩)
          obtain ⟨z, hz, rfl⟩ := List.mem_map.mp hy
          have := pos z (by simpa using wired_ins w hu2 hz)
          omega
        unfold fC at le
        unfold fC at ge ⊢
        omega
    · exact ih n hn
end Pw
set_option maxHeartbeats 2000000
/-! a net object; outlets -/
namespace Pw
open PySem PySem.Spec PyProof.Rows L2 Dc
abbrev sOutlets : Stmt := topS 49
abbrev sCells : Stmt := topS 51
abbrev sWeight : Stmt := topS 52
abbrev sLoops : Stmt := topS 54
abbrev sLoad : Stmt := topS 55
theorem scOutlets : FnScope ["net", "nodes", "used", "node", "name"] ["net"] (defScope sOutlets) := ⟨rfl, rfl, rfl, by decide +kernel, rfl, by decide +kernel, by decide +kernel⟩
theorem scCells : FnScope ["net", "below", "node", "lower", "name"] ["net"] (defScope sCells) := ⟨rfl, rfl, rfl, by decide +kernel, rfl, by decide +kernel, by decide +kernel⟩
theorem scWeight : FnScope ["net", "below", "node", "lower", "name"] ["net"] (defScope sWeight) := ⟨rfl, rfl, rfl, by decide +kernel, rfl, by decide +kernel, by decide +kernel⟩
theorem scLoops : FnScope ["net", "below", "node", "own", "lower", "name"] ["net"] (defScope sLoops) := ⟨rfl, rfl, rfl, by decide +kernel, rfl, by decide +kernel, by decide +kernel⟩
theorem scLoad : FnScope ["net", "depth"] ["net", "depth"] (defScope sLoad) := ⟨rfl, rfl, rfl, by decide +kernel, rfl, by decide +kernel, by decide +kernel⟩
/-! ### data of bounded depth -/
theorem dp_mono : ∀ {n : Nat} {d : PyData}, dpB n d = true → dpB (n + 1) d = true
  | 0, _, h => by cases h
  | n + 1, .list ds, h => by
    have h' : ds.all (dpB n) = true := h
    show ds.all (dpB (n + 1)) = true
    rw [List.all_eq_true] at h' ⊢
    exact fun e he => dp_mono (h' e he)
  | n + 1, .tuple ds, h => by
    have h' : ds.all (dpB n) = true := h
    show ds.all (dpB (n + 1)) = true
    rw [List.all_eq_true] at h' ⊢
    exact fun e he => dp_mono (h' e he)
  | n + 1, .none, _ => rfl
  | n + 1, .bool _, _ => rfl
  | n + 1, .int _, _ => rfl
  | n + 1, .str _, _ => rfl
  | n + 1, .dict _, h => by cases h
theorem dp_le {n m : Nat} {d : PyData} (h : dpB n d = true) (l : n ≤ m) : dpB m d = true := by
  obtain ⟨k, rfl⟩ := Nat.exists_eq_add_of_le l
  clear l
  induction k with
  | zero => exact h
  | succ k ih => exact dp_mono ih
theorem dp_tst : ∀ (t : Tst), dpB (t.nots + 3) t.dat = true
  | .neg t => by
    have h := dp_tst t
    show (dpB (t.nots + 1 + 2) (.str "not") && (dpB (t.nots + 1 + 2) t.dat && true)) = true
    rw [show t.nots + 1 + 2 = t.nots + 3 from by omega, h]
    rfl
  | .lt _ => rfl
  | .ge _ => rfl
  | .md m rs => by
    show (dpB 2 (.str "mod") && (dpB 2 (.int m) && (dpB 2 (.list (rs.map PyData.int)) && true))) = true
    have h : (rs.map PyData.int).all (dpB 1) = true := by
      rw [List.all_eq_true]
      intro e he
      obtain ⟨i, _, rfl⟩ := List.mem_map.mp he
      rfl
    show (true && (true && ((rs.map PyData.int).all (dpB 1) && true))) = true
    rw [h]
    rfl
theorem dp_sort {z : Str} {d : PyData} (h : ofSort z d = true) : dpB 7 d = true := by
  unfold ofSort at h
  split at h
  · cases d <;> first | rfl | cases h
  · split at h
    · cases d with
      | list ds =>
        rename_i r _
        have h' : (decide (r.1 ≤ ds.length) && decide ((ds.length : Int) ≤ r.2) && ds.all isParam) = true := h
        rw [Bool.and_eq_true] at h'
        show ds.all (dpB 6) = true
        rw [List.all_eq_true]
        intro e he
        have := List.all_eq_true.mp h'.2 e he
        cases e <;> first | rfl | cases this
      | _ => cases h
    · split at h
      · cases d <;> first | rfl | cases h
      · split at h
        · obtain ⟨t, rfl, hn, _⟩ := test_shape h
          exact dp_le (dp_tst t) (by omega)
        · cases d <;> first | rfl | cases h
theorem fits_all : ∀ {ws : List Str} {ps : List PyData}, ps.length = ws.length → fits ws ps = true → ∀ p ∈ ps, ∃ w, ofSort w p = true
  | [], [], _, _, p, hp => by cases hp
  | w :: ws, q :: ps, hl, h, p, hp => by
    have h' : (ofSort w q && fits ws ps) = true := h
    rw [Bool.and_eq_true] at h'
    rcases List.mem_cons.mp hp with rfl | hp
    · exact ⟨w, h'.1⟩
    · exact fits_all (by simpa using hl) h'.2 p hp
theorem dp_node {d : PyData} (h : isNode d = true) : dpB 9 d = true := by
  obtain ⟨a, k, ps, zs, ws, rfl, lz, hk, hl, hf⟩ := params_shape h
  have h1 : ps.all (dpB 7) = true := by
    rw [List.all_eq_true]
    intro p hp
    obtain ⟨w, hw⟩ := fits_all hl hf p hp
    exact dp_sort hw
  have h2 : (zs.map PyData.str).all (dpB 7) = true := by
    rw [List.all_eq_true]
    intro e he
    obtain ⟨i, _, rfl⟩ := List.mem_map.mp he
    rfl
  show (true && (true && (ps.all (dpB 7) && ((zs.map PyData.str).all (dpB 7) && true)))) = true
  rw [h1, h2]
  rfl
theorem dp_nodes {ns : List Nd} (w : Wired [] ns) : dpB 10 (.list (ns.map Nd.dat)) = true := by
  show (ns.map Nd.dat).all (dpB 9) = true
  rw [List.all_eq_true]
  intro e he
  obtain ⟨n, hn, rfl⟩ := List.mem_map.mp he
  exact dp_node (wired_node w hn).1
/-! ### a net at an address -/
def NetAt (K : PySem.W.Frag) (H : Hp) (C a : Addr) (ns : List Nd) : Prop := ∃ (dx : Addr) (fs : List (Str × V)) (v : V),
  H a = some (.ins C dx fs) ∧ fs.lookup ("_nodes" : Str) = some v ∧ fs.lookup ("node_list" : Str) = none ∧ Dv K H v (.list (ns.map Nd.dat)) ∧ Wired [] ns ∧ 1 ≤ ns.length ∧ ns.length ≤ 30
theorem NetAt.same {K : PySem.W.Frag} {H H' : Hp} {C a : Addr} {ns : List Nd} (h : NetAt K H C a ns) (s : Same H H') : NetAt K H' C a ns := by
  obtain ⟨dx, fs, v, h1, h2, h3, h4, h5⟩ := h
  exact ⟨dx, fs, v, s _ _ h1, h2, h3, h4.same s, h5⟩
structure NetCls (P : Program) (w : World) (K : PySem.W.Frag) (mg : Str → Option Value) (base : Heap) (C : Addr) : Prop where
  c : Cls K C
  nl : ∃ f fd, Meth K C "node_list" f ∧ FnOk P w K mg base CX0 11 f fd ["self"] (spNodeList K C 10) ∧ Binds K fd ["self"] []
theorem pe_nodes {X : Cx} {C : Addr} {o : Expr} {ap pos : Pos} {ta : TE} {pl : Sem Bool} (N : NetCls X.prog X.w X.K X.mg X.base C) (hr : Room 11 X.A) (ho : PE X o ta)
    (ht : eval (.Call (.Attribute o "node_list" ap) [] [] pos) X.env = (do
      let x ← eval o X.env
      standAt ap.atName
      let (m, args) ← holding [x] (getMethod x "node_list" pl)
      callWith pos m args (backTo pos (starEach [] X.env)) (backToKw pos (keywordEach [] X.env))) := by rfl) :
    PE X (.Call (.Attribute o "node_list" ap) [] [] pos) (tMeth C "node_list" (spNodeList X.K C 10) [] E0 ta tNil) := by
  obtain ⟨f, fd, m, F, b⟩ := N.nl
  exact pe_meth0 ho N.c m F hr b .nil pass0 ht
/-- what is told of a fresh list of nodes -/
theorem nodes_of_net {K : PySem.W.Frag} {H : Hp} {C a : Addr} {ns : List Nd} {Q : VK} (h : NetAt K H C a ns) (q : ∀ (l : Addr) (xs : List V) (H' : Hp), Same H H' → H l = none → H' l = some (.lst xs) → xs.length ≤ 1000 → DvAll K (newOf H H') xs (ns.map Nd.dat) → Q (.ref l) H') :
    ∃ a' dx fs, V.ref a = .ref a' ∧ H a' = some (.ins C dx fs) ∧ fs.lookup ("node_list" : Str) = none ∧ spNodeList K C 10 (.ref a :: ([] ++ [])) H Q E0 := by
  obtain ⟨dx, fs, v, h1, h2, h3, h4, h5, h6, h7⟩ := h
  refine ⟨a, dx, fs, rfl, h1, h3, a, dx, fs, v, _, rfl, h1, h2, h4, dp_nodes h5, fun y H' s d => ?_⟩
  cases d with
  | @lst l xs ds hl hz hd =>
    have e := newOf_same l _ hl
    have n : H l = none := by
      unfold newOf at hl
      cases z : H l with
      | none => rfl
      | some u =>
        rw [z] at hl
        cases hl
    exact q l xs H' s n e hz hd
end Pw
set_option maxHeartbeats 2000000
/-! outlets -/
namespace Pw
open PySem PySem.Spec PyProof.Rows L2 Dc
theorem tWalk_by {J : It} {n : Nat} {G : Hp → Prop} {Y : Nat → Hp → V → Hp → Prop} (w : Walk J n G Y) {H0 : Hp} {Fin : Hp → Prop} {Go : V → Hp → (Hp → Prop) → Prop} (Pv : Nat → Hp → Prop) (h0 : Pv 0 H0) (hG : ∀ i H, i ≤ n → Pv i H → G H)
    (hs : ∀ i x H H', i < n → Pv i H → Y i H x H' → Go x H' (Pv (i + 1))) (hd : ∀ H, Pv n H → Fin H) : tWalk J H0 Fin Go := by
  refine ⟨fun i m H => m = n - i ∧ i ≤ n ∧ Pv i H, ⟨n, by omega, Nat.zero_le _, h0⟩, fun i m H q => ?_⟩
  obtain ⟨rfl, hi, p⟩ := q
  have g := hG i H hi p
  rcases Nat.lt_or_ge i n with lt | ge
  · exact .inr ⟨w.goes i H lt g, Pv (i + 1), fun H' p' => ⟨n - (i + 1), by omega, rfl, lt, p'⟩, fun x H' y => hs i x H H' lt p (w.yields i H x H' lt g y)⟩
  · obtain rfl : i = n := by omega
    exact .inl ⟨w.stops H g, hd H p⟩
theorem node_at {K : PySem.W.Frag} {H : Hp} {xs : List V} {ns : List Nd} (h : DvAll K H xs (ns.map Nd.dat)) {i : Nat} {x : V} (hx : xs[i]? = some x) :
    ∃ (n : Nd) (b l : Addr) (y : V), ns[i]? = some n ∧ x = .ref b ∧ H b = some (.tup [.str n.name, .str n.kind, y, .ref l]) ∧ H l = some (.lst (n.ins.map V.str)) ∧ Dv K H x n.dat := by
  obtain ⟨d, e, hd⟩ := h.getV hx
  rw [List.getElem?_map] at e
  obtain ⟨n, en, rfl⟩ := Option.map_eq_some_iff.mp e
  have hd0 := hd
  cases hd with
  | @tup b ys es hb hz hes =>
    match ys, hes with
    | [y1, y2, y3, y4], .cons h1 (.cons h2 (.cons h3 (.cons h4 .nil))) =>
      cases h1
      cases h2
      cases h4 with
      | @lst l vs es hl hlz hvs =>
        rw [vals_words hvs] at hl
        exact ⟨n, b, l, y3, en, rfl, hb, hl, hd0⟩
/-- rules in a comprehension's block: the written part is that of the def -/
theorem ixT {X : Cx} {K : PySem.W.Frag} (h : X.K = K) : IxR X (rIxT K) := by
  subst h
  exact ix_tup
theorem piL {X : Cx} {K : PySem.W.Frag} {tg l : Expr} {tl : TE} (h : X.K = K) (hl : PE X l tl) : PI X tg l (iList K tl) := by
  subst h
  exact pi_list hl
def flat (ns : List Nd) : List Str := ns.flatMap (·.ins)
theorem used_flat (ns : List Nd) (z : Str) : used ns z = decide (z ∈ flat ns) := by
  unfold used flat
  rw [Bool.eq_iff_iff, List.any_eq_true, decide_eq_true_eq, List.mem_flatMap]
  exact ⟨fun ⟨n, h1, h2⟩ => ⟨n, h1, of_decide_eq_true h2⟩, fun ⟨n, h1, h2⟩ => ⟨n, h1, decide_eq_true h2⟩⟩
/-- a dict that holds just these words -/
def Holds (kvs : List (Key × V)) (zs : List Str) : Prop := kvs.length ≤ zs.length ∧ ∀ z, valV kvs (.inr z) = if z ∈ zs then some (.bl true) else none
theorem Holds.put {kvs : List (Key × V)} {zs : List Str} (h : Holds kvs zs) (z : Str) : Holds (putK kvs (.inr z) (.bl true)) (zs ++ [z]) := by
  refine ⟨?_, fun y => ?_⟩
  · have h1 := h.1
    have h2 := length_putK kvs (.inr z) (.bl true)
    rw [List.length_append]
    show _ ≤ zs.length + 1
    omega
  · rw [valV_put, h.2 y]
    by_cases e : y = z
    · subst e
      rw [if_pos rfl, if_pos (by simp)]
    · rw [if_neg (fun q => e (Sum.inr.inj q))]
      by_cases m : y ∈ zs
      · rw [if_pos m, if_pos (List.mem_append_left _ m)]
      · rw [if_neg m, if_neg (fun q => (List.mem_append.mp q).elim m fun q => e (List.mem_singleton.mp q))]
theorem filterMap_range {α β : Type} (ys : List α) (f : α → Option β) : (List.range ys.length).filterMap (fun i => (ys[i]?).bind f) = ys.filterMap f := by
  induction ys with
  | nil => rfl
  | cons a r ih =>
    rw [List.length_cons, List.range_succ_eq_map, List.filterMap_cons, List.filterMap_map]
    simp only [List.getElem?_cons_zero, Option.bind_some, Function.comp_def, List.getElem?_cons_succ, ih]
    cases e : f a with
    | none => simp [e]
    | some b => simp [e]
theorem outs_is (ns : List Nd) : (ns.filterMap fun n => if used ns n.name = true then none else some (V.str n.name)) = (outs ns).map V.str := by
  unfold outs
  rw [List.map_map]
  generalize used ns = u
  induction ns with
  | nil => rfl
  | cons n r ih =>
    rw [List.filterMap_cons, List.filter_cons]
    cases e : u n.name with
    | true =>
      rw [if_pos rfl, if_neg (by simp)]
      exact ih
    | false =>
      rw [if_neg Bool.false_ne_true, if_pos (by simp), List.map_cons]
      dsimp only
      rw [ih]
      rfl
section
variable {P : Program} {w : World} {K : PySem.W.Frag} {mg : Str → Option Value} {base : Heap} {C : Addr}
def spOutlets (K : PySem.W.Frag) (C : Addr) : Sp := fun vs H Q _ => ∃ a ns, vs = [.ref a] ∧ NetAt K H C a ns ∧ ∀ (l : Addr) (H' : Hp), Same H H' → H l = none → H' l = some (.lst ((outs ns).map V.str)) → Q (.ref l) H'
theorem fn_outlets (N : NetCls P w K mg base C) {f : Addr} {fd : FuncData} (F : Fun K "outlets" "outlets" sOutlets f fd) : FnOk P w K mg base CX0 12 f fd ["net"] (spOutlets K C) := by
  refine F.ok scOutlets (fun vs H Q E h => ?_) (fun cdv A outer s H vs Q E hr h => ?_)
  · obtain ⟨a, ns, rfl, _⟩ := h
    rfl
  · obtain ⟨a, ns, rfl, ha, q⟩ := h
    have nd := scOutlets.nd
    have hu := Nat.lt_of_le_of_lt (Nat.add_le_add_left (by decide : 1 ≤ 64) _) hr.units
    refine ⟨_, pss_cons (ps_set (i := 1) nd rfl (.inl rfl) (pe_nodes N (hr.mono (by decide)) (pv 0)))
      (pss_cons (ps_set (i := 2) nd rfl (.inr rfl) (pe_dc2 (own := [("node", 3), ("name", 4)]) (us := [4]) (g := gName 3) (tt := tYes) (g1 := gName 4) (tt1 := tYes) rfl nd (pi_list (pv 1))
          (blkOk_by (N := ["net", "nodes", "used", "node", "name"]) (sc := defScope sOutlets) (by decide +kernel)) (by decide)
          (fun _ _ _ _ _ => pg_name (i := 3) nd rfl (Or.inl rfl)) (fun _ _ _ _ _ => pts_nil) (fun _ _ _ _ _ => piL (K := K) rfl (pe_ix (ixT (K := K) rfl) (pv 3) pe_int (fun _ _ => rfl))) (fun _ _ _ _ _ => pg_name (i := 4) nd rfl (Or.inl rfl)) (fun _ _ _ _ _ => pts_nil)
          (fun _ _ _ _ _ => pv 4) (fun _ _ _ _ _ => pe_bl)))
      (pss_one (ps_ret (pe_lc (own := [("node", 3)]) (g := gName 3) rfl nd (pi_list (pv 1)) (blkOk_by (N := ["net", "nodes", "used", "node", "name"]) (sc := defScope sOutlets) (by decide +kernel))
          (fun _ _ _ _ _ => pg_name (i := 3) nd rfl (Or.inl rfl)) (fun _ _ _ _ _ => pts_one (pt_cmp (pc_dnotin (by exact hu) (pe_ix (ixT (K := K) rfl) (pv 3) pe_int (fun _ _ => rfl)) (pv 2)) (by rfl)))
          (fun _ _ _ _ _ => pe_ix (ixT (K := K) rfl) (pv 3) pe_int (fun _ _ => rfl)))))), ?_⟩
    refine ⟨_, rfl, nodes_of_net ha fun l xs H1 s1 nl hl hz hds => ?_⟩
    have hds1 := hds.same newOf_same
    have hl30 : xs.length ≤ 30 := by
      obtain ⟨_, _, _, _, _, _, _, _, _, h30⟩ := ha
      have := hds.length
      rw [List.length_map] at this
      omega
    have hw : Wired [] ns := by
      obtain ⟨_, _, _, _, _, _, _, w, _⟩ := ha
      exact w
    have hlen : xs.length = ns.length := by rw [hds.length, List.length_map]
    refine ⟨.ref l, rfl, l, rfl, ⟨_, SqL.of hl⟩, fun D nD => ?_⟩
    refine tWalk_by (walk_list (xs := xs)) (fun i H' => Same H1 H' ∧ ∃ kvs, H' D = some (.dK kvs) ∧ Holds kvs (flat (ns.take i))) ⟨same_upd nD, [], upd_same, by show 0 ≤ _; exact Nat.zero_le _, fun z => rfl⟩ (fun i H' _ p => SqL.of (p.1 _ _ hl)) (fun i x H' H'' hi p y => ?_) (fun H' p => ?_)
    · obtain ⟨sm, kvs, hD, hk⟩ := p
      obtain ⟨rfl, hx⟩ := y
      obtain ⟨n, b, l2, y3, en, rfl, hb, hl2, _⟩ := node_at (hds1.same sm) hx
      have nD2 : l2 ≠ D := fun e => by
        rw [e, hD] at hl2
        cases hl2
      have hl2' : H1 l2 = some (.lst (n.ins.map V.str)) := by
        obtain ⟨n', b', l2', y', en', e', hb', hl', _⟩ := node_at hds1 hx
        cases en.symm.trans en'
        cases e'
        have := sm _ _ hb'
        cases hb.symm.trans this
        exact hl'
      refine ⟨rfl, ?_⟩
      refine ⟨.ref b, rfl, b, _, _, _, rfl, rfl, SqT.of hb, atI_nat (j := 3) rfl, l2, rfl, ⟨_, SqL.of hl2⟩, ?_⟩
      refine tWalk_by (walk_list (xs := n.ins.map V.str)) (fun j H' => Same H1 H' ∧ ∃ kvs, H' D = some (.dK kvs) ∧ Holds kvs (flat (ns.take i) ++ n.ins.take j)) ⟨sm, kvs, hD, by simpa using hk⟩ (fun j H' _ p => SqL.of (p.1 _ _ hl2')) (fun j x H3 H4 hj p y => ?_) (fun H' p => ?_)
      · obtain ⟨sm2, kvs2, hD2, hk2⟩ := p
        obtain ⟨rfl, hx2⟩ := y
        rw [List.getElem?_map] at hx2
        obtain ⟨z, ez, rfl⟩ := Option.map_eq_some_iff.mp hx2
        refine ⟨rfl, ?_⟩
        refine ⟨_, rfl, kvs2, .inr z, rfl, hD2, ?_, fun b' o e => ?_, _, upd_same, ?_⟩
        · have h1 := hk2.1
          have h2 : (flat (ns.take i)).length ≤ 30 * 10 := by
            unfold flat
            rw [List.length_flatMap]
            have h3 : ∀ (ms : List Nd), (∀ m ∈ ms, m.ins.length ≤ 10) → (ms.map fun m => m.ins.length).sum ≤ ms.length * 10 := by
              intro ms
              induction ms with
              | nil => intro _; exact Nat.le_refl _
              | cons m r ih =>
                intro h
                have a1 := h m List.mem_cons_self
                have a2 := ih fun u hu => h u (List.mem_cons_of_mem _ hu)
                rw [List.map_cons, List.sum_cons, List.length_cons, Nat.add_mul]
                omega
            have h4 := h3 (ns.take i) fun m hm => (wired_node hw (List.mem_of_mem_take hm)).2
            have h5 : (ns.take i).length ≤ 30 := by
              rw [List.length_take]
              omega
            have h6 : (ns.take i).length * 10 ≤ 30 * 10 := Nat.mul_le_mul_right 10 h5
            exact Nat.le_trans h4 h6
          have h7 := (wired_node hw (List.mem_of_getElem? en)).2
          rw [List.length_append, List.length_take] at h1
          exact Nat.lt_of_le_of_lt (by omega : kvs2.length ≤ 1000) (by decide)
        · rw [upd_ne (ne_of_none e nD)]
          exact sm2 _ _ e
        · rw [List.take_add_one, ez, ← List.append_assoc]
          exact hk2.put z
      · obtain ⟨sm2, kvs2, hD2, hk2⟩ := p
        refine ⟨sm2, kvs2, hD2, ?_⟩
        rw [List.length_map, List.take_length] at hk2
        rw [List.take_add_one, en]
        unfold flat at hk2 ⊢
        rw [List.flatMap_append]
        simpa using hk2
    · obtain ⟨sm, kvs, hD, hk⟩ := p
      rw [hlen, List.take_length] at hk
      refine ⟨.ref l, rfl, l, rfl, ⟨_, SqL.of (sm _ _ hl)⟩, fun D2 nD2 => ?_⟩
      have nl2 : ∀ {b : Addr} {o : HO}, H1 b = some o → b ≠ D2 := fun {b o} e z => by
        rw [z] at e
        rw [sm _ _ e] at nD2
        cases nD2
      refine lc_filtW (walk_list (xs := xs)) (fun i => (ns[i]?).bind fun n => if used ns n.name = true then none else some (V.str n.name)) nD2 (Nat.lt_of_le_of_lt hl30 (by decide)) (fun H' s' => SqL.of (s' _ _ (sm _ _ hl))) (fun i x H3 H4 Q2 N2 hi s3 y k1 k2 => ?_) (fun H3 s3 e3 => ?_)
      · obtain ⟨rfl, hx⟩ := y
        obtain ⟨n, b, l2, y3, en, rfl, hb, hl2, _⟩ := node_at (hds1.same (sm.trans s3)) hx
        have hb' := hb
        have hd : H4 D = some (.dK kvs) := s3 _ _ hD
        have g : DGet H4 D (.str n.name) (if n.name ∈ flat ns then some (.bl true) else none) := by
          have := DGet.k (k := .inr n.name) hd
          rwa [hk.2] at this
        refine ⟨rfl, .ref b, rfl, b, _, _, _, rfl, rfl, SqT.of hb', atI_nat (j := 0) rfl, _, rfl, D, _, rfl, g, _, rfl, ?_⟩
        rw [en] at k1 k2
        by_cases m : n.name ∈ flat ns
        · have u : used ns n.name = true := by rw [used_flat]; exact decide_eq_true m
          rw [if_pos m]
          exact k2 _ (by show (if used ns n.name = true then none else _) = none; rw [if_pos u]) (Same.refl _)
        · have u : used ns n.name = false := by rw [used_flat]; exact decide_eq_false m
          rw [if_neg m]
          refine ⟨.ref b, rfl, b, _, _, _, rfl, rfl, SqT.of hb', atI_nat (j := 0) rfl, ?_⟩
          exact k1 _ _ (by show (if used ns n.name = true then none else some (V.str n.name)) = _; rw [u, if_neg Bool.false_ne_true]) (Same.refl _)
      · rw [hlen, filterMap_range ns, outs_is] at e3
        refine q _ _ (s1.trans (sm.trans s3)) ?_ e3
        cases e : H D2 with
        | none => rfl
        | some o =>
          rw [sm _ _ (s1 _ _ e)] at nD2
          cases nD2
theorem ok_outlets (N : NetCls P w K mg base C) (D : Dfn K mg "outlets" sOutlets ["net"]) : DefOk P w K mg base CX0 12 "outlets" ["net"] (spOutlets K C) := D.ok fun f fd F => fn_outlets N F
end
end Pw
set_option maxHeartbeats 200000
/-! the law's own draws -/
namespace Pw
open PySem PySem.Spec PyProof.Rows L2
abbrev sSourceOf : Stmt := topS 57
abbrev sNext : Stmt := topS 58
abbrev sOne : Stmt := topS 59
abbrev sCellAt : Stmt := topS 60
/-- the heap without what stands at a -/
def hid (a : Addr) (H : Hp) : Hp := fun b => if b = a then none else H b
theorem hid_ne {a b : Addr} {H : Hp} (h : b ≠ a) : hid a H b = H b := if_neg h
theorem hid_of {a b : Addr} {H : Hp} {o : HO} (h : hid a H b = some o) : b ≠ a ∧ H b = some o := by
  unfold hid at h
  by_cases e : b = a
  · rw [if_pos e] at h
    cases h
  · rw [if_neg e] at h
    exact ⟨e, h⟩
theorem hid_same {a : Addr} {H : Hp} : Same (hid a H) H := fun b o h => (hid_of h).2
theorem hid_mono {a : Addr} {H H' : Hp} (e : Same (hid a H) H') : Same (hid a H) (hid a H') := fun b o h => by
  rw [hid_ne (hid_of h).1]
  exact e b o h
theorem Same.hid {a : Addr} {H H' : Hp} (e : Same H H') : Same (hid a H) (hid a H') := hid_mono (hid_same.trans e)
/-- a source at a, drawn from at most k times -/
def Src (H : Hp) (a : Addr) (k : Int) : Prop := ∃ A B C : Int, H a = some (.lst [.int A, .int B, .int C]) ∧ 0 ≤ B ∧ B < 2147483647 ∧ 0 ≤ C ∧ C ≤ k
theorem Src.same {H H' : Hp} {a : Addr} {k : Int} (s : Src H a k) (e : Same H H') : Src H' a k := by
  obtain ⟨A, B, C, h, r⟩ := s
  exact ⟨A, B, C, e _ _ h, r⟩
theorem Src.mono {H : Hp} {a : Addr} {k l : Int} (s : Src H a k) (e : k ≤ l) : Src H a l := by
  obtain ⟨A, B, C, h, h1, h2, h3, h4⟩ := s
  exact ⟨A, B, C, h, h1, h2, h3, by omega⟩
theorem scSourceOf : FnScope ["_law_cell"] ["_law_cell"] (defScope sSourceOf) := ⟨rfl, rfl, rfl, by decide +kernel, rfl, by decide +kernel, by decide +kernel⟩
theorem scNext : FnScope ["_law_source", "_law_many", "_law_found", "_law_prime", "_law_figure"] ["_law_source", "_law_many"] (defScope sNext) := ⟨rfl, rfl, rfl, by decide +kernel, rfl, by decide +kernel, by decide +kernel⟩
theorem scOne : FnScope ["_law_source", "_law_options"] ["_law_source", "_law_options"] (defScope sOne) := ⟨rfl, rfl, rfl, by decide +kernel, rfl, by decide +kernel, by decide +kernel⟩
theorem scCellAt : FnScope ["_law_script", "_law_k"] ["_law_script", "_law_k"] (defScope sCellAt) := ⟨rfl, rfl, rfl, by decide +kernel, rfl, by decide +kernel, by decide +kernel⟩
theorem fmod_in {i m : Int} (h : 0 < m) : 0 ≤ i.fmod m ∧ i.fmod m < m := ⟨Int.fmod_nonneg_of_pos i h, Int.fmod_lt_of_pos i h⟩
abbrev primes : List Int := [2147483647, 2147483629, 2147483587, 2147483579, 2147483563, 2147483549, 2147483543]
theorem prime_at {i : Int} (h0 : 0 ≤ i) (h1 : i < 7) : ∃ p : Int, atI (primes.map V.int) i = some (.int p) ∧ 0 < p ∧ p ≤ 2147483647 := by
  have e : i = 0 ∨ i = 1 ∨ i = 2 ∨ i = 3 ∨ i = 4 ∨ i = 5 ∨ i = 6 := by omega
  rcases e with rfl | rfl | rfl | rfl | rfl | rfl | rfl
  · exact ⟨_, atI_nat (j := 0) rfl, by decide, by decide⟩
  · exact ⟨_, atI_nat (j := 1) rfl, by decide, by decide⟩
  · exact ⟨_, atI_nat (j := 2) rfl, by decide, by decide⟩
  · exact ⟨_, atI_nat (j := 3) rfl, by decide, by decide⟩
  · exact ⟨_, atI_nat (j := 4) rfl, by decide, by decide⟩
  · exact ⟨_, atI_nat (j := 5) rfl, by decide, by decide⟩
  · exact ⟨_, atI_nat (j := 6) rfl, by decide, by decide⟩
theorem many_bits {m : Int} (h0 : 0 < m) (h1 : m ≤ 10 ^ 31) : m.natAbs < 2 ^ 200 := by
  have e : (10 : Int) ^ 31 < 2 ^ 200 := by decide
  have e2 : ((2 ^ 200 : Nat) : Int) = 2 ^ 200 := by norm_cast
  omega
section
variable {P : Program} {w : World} {K : PySem.W.Frag} {mg : Str → Option Value} {base : Heap}
/-! ### a new source -/
def spSourceOf : Sp := fun vs H Q _ => ∃ c : Int, vs = [.int c] ∧ ∀ p A, H p = none → Q (.ref p) (upd H p (.lst [.int A, .int (c.fmod 2147483647), .int 0]))
theorem ok_sourceOf (B : Blt mg) (D : Dfn K mg "_law_source_of" sSourceOf ["_law_cell"]) : DefOk P w K mg base CX0 1 "_law_source_of" ["_law_cell"] spSourceOf := D.ok fun f fd F => by
  refine F.ok scSourceOf (fun vs H Q E h => ?_) (fun cdv A outer s H vs Q E hr h => ?_)
  · obtain ⟨c, rfl, _⟩ := h
    rfl
  · obtain ⟨c, rfl, q⟩ := h
    refine ⟨_, pss_one (ps_ret (pe_lst (pa_cons (pe_op op_mul (pv 0) (pe_callTy call_int1 (by rfl) B.int boot_int (pa_cons (pe_cmpR op_ge (pv 0) (pe_op op_pow pe_int pe_int) (nomark _)) pa_nil)))
      (pa_cons (pe_op op_modN (pe_callTy call_int1 (by rfl) B.int boot_int (pa_cons (pv 0) pa_nil)) pe_int) (pa_cons pe_int pa_nil))))), ?_⟩
    refine ⟨_, rfl, _, rfl, _, _, rfl, rfl, ⟨by decide, by decide, by decide⟩, _, _, rfl, rfl, .inr ⟨_, rfl, ?_⟩⟩
    refine ⟨_, _, rfl, rfl, .inr ?_, _, rfl, .inl ⟨_, rfl, _, _, rfl, rfl, (by show (2147483647 : Int) ≠ 0; decide), ?_⟩⟩
    · split <;> exact ⟨by decide, by decide⟩
    · exact ⟨by show 3 ≤ sizeLine; decide, fun p hp => q p _ hp⟩
/-! ### a draw -/
def spNext : Sp := fun vs H Q _ => ∃ (a : Addr) (m k : Int), vs = [.ref a, .int m] ∧ Src H a k ∧ k < 1000000 ∧ 0 < m ∧ m ≤ 10 ^ 31 ∧
  ∀ r H', 0 ≤ r → r < m → Src H' a (k + 1) → Same (hid a H) H' → Q (.int r) H'
theorem ok_next (B : Blt mg) (D : Dfn K mg "_law_next" sNext ["_law_source", "_law_many"]) : DefOk P w K mg base CX0 1 "_law_next" ["_law_source", "_law_many"] spNext := D.ok fun f fd F => by
  refine F.ok scNext (fun vs H Q E h => ?_) (fun cdv A outer s H vs Q E hr h => ?_)
  · obtain ⟨a, m, k, rfl, _⟩ := h
    rfl
  · obtain ⟨a, m, k, rfl, ⟨A, B', C, ha, hB0, hB1, hC0, hC1⟩, hk, hm0, hm1, q⟩ := h
    have nd := scNext.nd
    refine ⟨_, pss_cons (ps_if (pt_cmpR op_gt (pe_ix ix_list (pv 0) pe_int (fun _ _ => rfl)) pe_int (nomark _))
        (pss_cons (ps_set (i := 2) nd rfl (.inl rfl) (pe_op op_modN (pe_callTy call_int1 (by rfl) B.int boot_int (pa_cons (pe_ix ix_list (pv 0) pe_int (fun _ _ => rfl)) pa_nil)) (pv 1)))
        (pss_cons (ps_asg (pe_op op_fdivW (pe_ix ix_list (pv 0) pe_int (fun _ _ => rfl)) (pv 1)) (pg_sub (pv 0) pe_int set_list))
        (pss_one (ps_ret (pv 2))))) pss_nil)
      (pss_cons (ps_asg (pe_op op_add (pe_ix ix_list (pv 0) pe_int (fun _ _ => rfl)) pe_int) (pg_sub (pv 0) pe_int set_list))
      (pss_cons (ps_set (i := 3) nd rfl (.inl rfl) (pe_ix ix_list (pe_lst (pa_cons pe_int (pa_cons pe_int (pa_cons pe_int (pa_cons pe_int (pa_cons pe_int (pa_cons pe_int (pa_cons pe_int pa_nil))))))))
        (pe_op op_modN (pe_callTy call_int1 (by rfl) B.int boot_int (pa_cons (pe_ix ix_list (pv 0) pe_int (fun _ _ => rfl)) pa_nil)) pe_int) (fun _ _ => rfl)))
      (pss_cons (ps_set (i := 4) nd rfl (.inl rfl) (pe_op op_modN (pe_callTy call_int1 (by rfl) B.int boot_int (pa_cons
        (pe_op op_pow (pe_op op_add (pe_op op_add (pe_ix ix_list (pv 0) pe_int (fun _ _ => rfl)) (pe_op op_mul pe_int (pe_ix ix_list (pv 0) pe_int (fun _ _ => rfl)))) pe_int) pe_int) pa_nil)) (pv 3)))
      (pss_cons (ps_set (i := 4) nd rfl (.inl rfl) (pe_op op_modN (pe_callTy call_int1 (by rfl) B.int boot_int (pa_cons
        (pe_op op_mul (pe_op op_add (pv 4) (pe_ix ix_list (pv 0) pe_int (fun _ _ => rfl))) (pe_op op_add (pe_op op_fdivN (pv 4) pe_int) pe_int)) pa_nil)) (pv 3)))
      (pss_one (ps_ret (pe_op op_modN (pe_callTy call_int1 (by rfl) B.int boot_int (pa_cons (pe_op op_fdivN (pv 4) pe_int) pa_nil)) (pv 1)))))))), ?_⟩
    refine ⟨.ref a, rfl, a, _, 0, .int A, rfl, rfl, SqL.of ha, atI_nat (j := 0) rfl, _, _, rfl, rfl, _, rfl, ite2 (fun e => ?_) (fun e => ?_)⟩
    · -- from the great number
      refine ⟨.ref a, rfl, a, _, 0, .int A, rfl, rfl, SqL.of ha, atI_nat (j := 0) rfl, .inl ⟨A, rfl, _, rfl, A, m, rfl, rfl, by omega, ?_⟩⟩
      refine ⟨.ref a, rfl, a, _, 0, .int A, rfl, rfl, SqL.of ha, atI_nat (j := 0) rfl, _, rfl, A, m, rfl, rfl, wide_div hm0 (many_bits hm0 hm1) (by decide) (by decide), ?_⟩
      refine ⟨.ref a, rfl, a, _, 0, 0, rfl, rfl, ha, rfl, _, rfl, ?_⟩
      have f := fmod_in (i := A) hm0
      refine q _ _ f.1 f.2 ⟨A / m, B', C, upd_same, hB0, hB1, hC0, by omega⟩ fun b o h => ?_
      rw [upd_ne (hid_of h).1]
      exact (hid_of h).2
    · -- a figure
      refine ⟨.ref a, rfl, a, _, 2, .int C, rfl, rfl, SqL.of ha, atI_nat (j := 2) rfl, C, 1, rfl, rfl, ?_⟩
      refine ⟨.ref a, rfl, a, _, 2, 2, rfl, rfl, ha, rfl, ?_⟩
      have ha2 : upd H a (.lst [.int A, .int B', .int (C + 1)]) a = some (.lst [.int A, .int B', .int (C + 1)]) := upd_same
      refine ⟨by show 7 ≤ sizeLine; decide, fun p np => ?_⟩
      have sp := same_upd (o := HO.lst (primes.map V.int)) np
      have ha3 := sp _ _ ha2
      have f7 := fmod_in (i := C + 1) (m := 7) (by decide)
      obtain ⟨pr, hp1, hp2, hp3⟩ := prime_at f7.1 f7.2
      refine ⟨.ref a, rfl, a, _, 2, .int (C + 1), rfl, rfl, SqL.of ha3, atI_nat (j := 2) rfl, .inl ⟨C + 1, rfl, C + 1, 7, rfl, rfl, (by show (7 : Int) ≠ 0; decide), ?_⟩⟩
      refine ⟨p, _, _, .int pr, rfl, rfl, SqL.of upd_same, hp1, ?_⟩
      -- the first figure
      refine ⟨.ref a, rfl, a, _, 1, .int B', rfl, rfl, SqL.of ha3, atI_nat (j := 1) rfl, .ref a, rfl, a, _, 2, .int (C + 1), rfl, rfl, SqL.of ha3, atI_nat (j := 2) rfl, 7919, C + 1, rfl, rfl, .inl ⟨by decide, by decide⟩, _, _, rfl, rfl, _, _, rfl, rfl, _, _, rfl, rfl, ⟨by decide, by decide, by omega⟩, .inl ⟨_, rfl, ?_⟩⟩
      refine ⟨_, rfl, _, _, rfl, rfl, by omega, ?_⟩
      have f1 := fmod_in (i := (B' + 7919 * (C + 1) + 1) ^ (5 : Int).toNat) hp2
      -- the second one
      refine ⟨_, rfl, .ref a, rfl, a, _, 2, .int (C + 1), rfl, rfl, SqL.of ha3, atI_nat (j := 2) rfl, _, _, rfl, rfl, _, rfl, _, _, rfl, rfl, ⟨by decide, by decide⟩, _, _, rfl, rfl, _, _, rfl, rfl, .inl ⟨by omega, by omega⟩, .inl ⟨_, rfl, ?_⟩⟩
      refine ⟨_, rfl, _, _, rfl, rfl, by omega, ?_⟩
      refine ⟨_, rfl, _, _, rfl, rfl, ⟨by decide, by decide⟩, .inl ⟨_, rfl, _, rfl, _, _, rfl, rfl, by omega, ?_⟩⟩
      have f := fmod_in (i := Int.fdiv (Int.fmod ((Int.fmod ((B' + 7919 * (C + 1) + 1) ^ (5 : Int).toNat) pr + (C + 1)) * (Int.fdiv (Int.fmod ((B' + 7919 * (C + 1) + 1) ^ (5 : Int).toNat) pr) 1009 + 69621)) pr) 7) hm0
      refine q _ _ f.1 f.2 ⟨A, B', C + 1, ha3, hB0, hB1, by omega, by omega⟩ fun b o h => ?_
      refine sp _ _ ?_
      rw [upd_ne (hid_of h).1]
      exact (hid_of h).2
/-! ### one of several -/
def spOne (K : PySem.W.Frag) : Sp := fun vs H Q _ => ∃ (a b : Addr) (k : Int) (xs : List V), vs = [.ref a, .ref b] ∧ Src H a k ∧ k < 1000000 ∧ hid a H b = some (.lst xs) ∧ 0 < xs.length ∧ xs.length ≤ 1000000 ∧
  ∀ (i : Nat) (v : V) H', xs[i]? = some v → Src H' a (k + 1) → Same (hid a H) H' → Q v H'
theorem ok_one (B : Blt mg) (G : DefOk P w K mg base CX0 1 "_law_next" ["_law_source", "_law_many"] spNext) (D : Dfn K mg "_law_one" sOne ["_law_source", "_law_options"]) : DefOk P w K mg base CX0 2 "_law_one" ["_law_source", "_law_options"] (spOne K) := D.ok fun f fd F => by
  refine F.ok scOne (fun vs H Q E h => ?_) (fun cdv A outer s H vs Q E hr h => ?_)
  · obtain ⟨a, b, k, xs, rfl, _⟩ := h
    rfl
  · obtain ⟨a, b, k, xs, rfl, src, hk, hb, h0, h1, q⟩ := h
    refine ⟨_, pss_one (ps_ret (pe_ix ix_list (pv 1) (pe_def G hr pass0 (pa_cons (pv 0) (pa_cons (pe_callB call_len_seq (by rfl) B.len PySem.boot_len (pa_cons (pv 1) pa_nil)) pa_nil))) (fun _ _ => rfl))), ?_⟩
    refine ⟨.ref b, rfl, .ref a, rfl, .ref b, rfl, b, xs, rfl, .inl (SqL.of (hid_of hb).2), a, xs.length, k, rfl, src, hk, by omega, ?_, fun r H' r0 r1 src' sm => ?_⟩
    · have e31 : (1000000 : Int) ≤ 10 ^ 31 := by decide
      omega
    · have hi : r.toNat < xs.length := by omega
      refine ⟨b, xs, r, xs[r.toNat], rfl, rfl, SqL.of (sm _ _ hb), ?_, q r.toNat _ H' (List.getElem?_eq_getElem hi) src' sm⟩
      have z := atI_nat (xs := xs) (j := r.toNat) (v := xs[r.toNat]) (List.getElem?_eq_getElem hi)
      rw [Int.toNat_of_nonneg r0] at z
      exact z
/-! ### a cell of the script -/
def spCellAt (K : PySem.W.Frag) : Sp := fun vs H Q _ => ∃ (a : Addr) (ns : List Int) (k : Nat), vs = [.ref a, .int k] ∧ SqL K H a (ns.map V.int) ∧ ∀ c : Int, Q (.int c) H
theorem ok_cellAt (B : Blt mg) (D : Dfn K mg "_law_cell_at" sCellAt ["_law_script", "_law_k"]) : DefOk P w K mg base CX0 1 "_law_cell_at" ["_law_script", "_law_k"] (spCellAt K) := D.ok fun f fd F => by
  refine F.ok scCellAt (fun vs H Q E h => ?_) (fun cdv A outer s H vs Q E hr h => ?_)
  · obtain ⟨a, ns, k, rfl, _⟩ := h
    rfl
  · obtain ⟨a, ns, k, rfl, hS, q⟩ := h
    refine ⟨_, pss_cons (ps_if (pt_cmpR op_lt (pv 1) (pe_callB call_len_seq (by rfl) B.len PySem.boot_len (pa_cons (pv 0) pa_nil)) (nomark _)) (pss_one (ps_ret (pe_ix ix_list (pv 0) (pv 1) (fun _ _ => rfl)))) pss_nil) (pss_one (ps_ret pe_int)), ?_⟩
    refine ⟨_, rfl, .ref a, rfl, a, _, rfl, .inl hS, _, _, rfl, rfl, _, rfl, ite2 (fun e => ?_) (fun e => ?_)⟩
    · have e1 : (k : Int) < ((ns.map V.int).length : Int) := of_decide_eq_true e
      rw [List.length_map] at e1
      have hk : k < ns.length := by omega
      exact ⟨.ref a, rfl, _, rfl, a, _, k, .int ns[k], rfl, rfl, hS, atI_nat (by rw [List.getElem?_map, List.getElem?_eq_getElem hk]; rfl), q _⟩
    · exact q 0
end
end Pw
set_option maxHeartbeats 2000000
/-! cells -/
namespace Pw
open PySem PySem.Spec PyProof.Rows L2 Dc
theorem wired_at {ns : List Nd} {i : Nat} {n : Nd} (w : Wired [] ns) (e : ns[i]? = some n) : n.name ∉ (ns.take i).map (·.name) ∧ ∀ z ∈ n.ins, z ∈ (ns.take i).map (·.name) := by
  have lt := (List.getElem?_eq_some_iff.mp e).1
  have e2 : ns = ns.take i ++ n :: ns.drop (i + 1) := by
    have h1 : ns.drop i = n :: ns.drop (i + 1) := by
      rw [List.drop_eq_getElem_cons lt, (List.getElem?_eq_some_iff.mp e).2]
    rw [← h1, List.take_append_drop]
  rw [e2] at w
  have w2 := wired_split w
  cases w2 with
  | cons h1 h2 _ _ _ => exact ⟨by simpa using h1, fun z hz => by simpa using h2 z hz⟩
theorem drop_at {ns : List Nd} {i : Nat} {n : Nd} (e : ns[i]? = some n) : ns.drop i = n :: ns.drop (i + 1) := by
  rw [List.drop_eq_getElem_cons (List.getElem?_eq_some_iff.mp e).1, (List.getElem?_eq_some_iff.mp e).2]
theorem take_at {ns : List Nd} {i : Nat} {n : Nd} (e : ns[i]? = some n) : ns.take (i + 1) = ns.take i ++ [n] := by
  rw [List.take_add_one, e]
  rfl
theorem put_new {b : List (Str × Int)} {z : Str} {v : Int} (h : z ∉ b.map (·.1)) : HO.dK (putK (b.map fun p => ((.inr p.1 : Key), V.int p.2)) (.inr z) (.int v)) = kiO (b ++ [(z, v)]) := by
  rw [putK_new _ (by rw [valV_words, lookup_none.mpr h]; rfl)]
  show HO.dK _ = HO.dK _
  rw [List.map_append]
  rfl
theorem get_known {H : Hp} {D : Addr} {b : List (Str × Int)} {z : Str} (hD : H D = some (kiO b)) (h : z ∈ b.map (·.1)) : DGet H D (.str z) (some (.int (look b z))) := by
  have g := DGet.k (k := .inr z) hD
  rw [valV_words] at g
  obtain ⟨v, e⟩ := lookup_isSome h
  unfold look
  rw [e] at g ⊢
  exact g
theorem outs_sub {ns : List Nd} {z : Str} (h : z ∈ outs ns) : z ∈ ns.map (·.name) := by
  obtain ⟨n, hn, rfl⟩ := List.mem_map.mp h
  exact List.mem_map.mpr ⟨n, (List.mem_filter.mp hn).1, rfl⟩
theorem outs_len (ns : List Nd) : (outs ns).length ≤ ns.length := by
  unfold outs
  rw [List.length_map]
  exact List.length_filter_le _ _
theorem sum_map_look (b : List (Str × Int)) (zs : List Str) : ((zs.map fun z => V.int (look b z))) = (zs.map (look b)).map V.int := by
  rw [List.map_map]
  rfl
section
variable {P : Program} {w : World} {K : PySem.W.Frag} {mg : Str → Option Value} {base : Heap} {C : Addr}
def spCells (K : PySem.W.Frag) (C : Addr) : Sp := fun vs H Q _ => ∃ a ns, vs = [.ref a] ∧ NetAt K H C a ns ∧ ∀ (H' : Hp), Same H H' → Q (.int (cellsN ns)) H'
theorem fn_cells (bS : mg "sum" = none) (N : NetCls P w K mg base C) (G : DefOk P w K mg base CX0 12 "outlets" ["net"] (spOutlets K C)) {f : Addr} {fd : FuncData} (F : Fun K "cells" "cells" sCells f fd) : FnOk P w K mg base CX0 13 f fd ["net"] (spCells K C) := by
  refine F.ok scCells (fun vs H Q E h => ?_) (fun cdv A outer s H vs Q E hr h => ?_)
  · obtain ⟨a, ns, rfl, _⟩ := h
    rfl
  · obtain ⟨a, ns, rfl, ha, q⟩ := h
    have nd := scCells.nd
    have hu := Nat.lt_of_le_of_lt (Nat.add_le_add_left (by decide : 1 ≤ 64) _) hr.units
    refine ⟨_, pss_cons (ps_set (i := 1) nd rfl (.inr rfl) pe_dnewK)
      (pss_cons (ps_for PassesOwn.never rfl (pi_list (pe_nodes N (hr.mono (by decide)) (pv 0))) (pg_name (i := 2) nd rfl (Or.inl rfl))
        (pss_one (ps_dput hu (pv 1) (pe_ix ix_tup (pv 2) pe_int (fun _ _ => rfl)) (pe_op op_add pe_int (pe_callB (cr_sum rfl) (by rfl) bS (by decide +kernel) (pa_cons
          (pe_lc (own := [("lower", 3)]) (g := gName 3) (tt := tYes) rfl nd (pi_list (pe_ix ix_tup (pv 2) pe_int (fun _ _ => rfl))) (blkOk_by (N := ["net", "below", "node", "lower", "name"]) (sc := defScope sCells) (by decide +kernel))
            (fun _ _ _ _ _ => pg_name (i := 3) nd rfl (Or.inl rfl)) (fun _ _ _ _ _ => pts_nil) (fun _ _ _ _ _ => pe_dget (by exact hu) (pv 1) (pv 3) (fun _ _ => rfl))) pa_nil))) (by rfl))))
      (pss_one (ps_ret (pe_callB (cr_sum rfl) (by rfl) bS (by decide +kernel) (pa_cons
          (pe_lc (own := [("name", 4)]) (g := gName 4) (tt := tYes) rfl nd (pi_list (pe_def G hr pass0 (pa_cons (pv 0) pa_nil))) (blkOk_by (N := ["net", "below", "node", "lower", "name"]) (sc := defScope sCells) (by decide +kernel))
            (fun _ _ _ _ _ => pg_name (i := 4) nd rfl (Or.inl rfl)) (fun _ _ _ _ _ => pts_nil) (fun _ _ _ _ _ => pe_dget (by exact hu) (pv 1) (pv 4) (fun _ _ => rfl))) pa_nil))))), ?_⟩
    have hw : Wired [] ns := by
      obtain ⟨_, _, _, _, _, _, _, w, _⟩ := ha
      exact w
    have h30 : ns.length ≤ 30 := by
      obtain ⟨_, _, _, _, _, _, _, _, _, h⟩ := ha
      exact h
    refine fun D nD => ?_
    have sD := same_upd (o := .dK []) nD
    refine ⟨_, rfl, nodes_of_net (ha.same sD) fun l xs H1 s1 nl hl hz hds => ?_⟩
    have hds1 := hds.same newOf_same
    have hlen : xs.length = ns.length := by rw [hds.length, List.length_map]
    have lD : l ≠ D := fun e => by
      rw [e, upd_same] at nl
      cases nl
    have s0 : Same H H1 := sD.trans s1
    have hD1 : H1 D = some (kiO []) := s1 _ _ upd_same
    -- what stays: all but the dict
    have key : ∀ {H' : Hp}, Same (hid D H1) H' → ∀ {b : Addr} {o : HO}, H1 b = some o → b ≠ D → H' b = some o := fun {H'} s {b o} e n => s _ _ (by rw [hid_ne n]; exact e)
    refine ⟨l, rfl, ⟨_, SqL.of hl⟩, ?_⟩
    refine for_it (walk_list (xs := xs)) (fun i σ H' => ∃ z b, σ = [some (.ref a), some (.ref D), z, none, none] ∧ Same (hid D H1) H' ∧ H' D = some (kiO b) ∧ b.map (·.1) = (ns.take i).map (·.name) ∧ belowBy fC b (ns.drop i) = belowBy fC [] ns)
      ⟨none, [], rfl, hid_same, hD1, by simp, rfl⟩ (fun i σ H' hi p => by obtain ⟨z, b, rfl, sm, _⟩ := p; exact SqL.of (key sm hl lD)) (fun i x σ H' H'' hi p y => ?_) (fun σ H' p => ?_)
    · obtain ⟨z, b, rfl, sm, hD, hb, hbel⟩ := p
      obtain ⟨rfl, hx⟩ := y
      obtain ⟨n, t, l2, y3, en, rfl, ht1, hl1, _⟩ := node_at hds1 hx
      have tD : t ≠ D := fun e => by
        rw [e, hD1] at ht1
        cases ht1
      have l2D : l2 ≠ D := fun e => by
        rw [e, hD1] at hl1
        cases hl1
      have ht := key sm ht1 tD
      have hl2 := key sm hl1 l2D
      obtain ⟨nw, sub⟩ := wired_at hw en
      have l10 := (wired_node hw (List.mem_of_getElem? en)).2
      refine ⟨.ref t, rfl, t, _, _, _, rfl, rfl, SqT.of ht, atI_nat (j := 3) rfl, l2, rfl, ⟨_, SqL.of hl2⟩, fun D1 nD1 => ?_⟩
      refine lc_mapW (ys := n.ins.map fun z => V.int (look b z)) (walk_list (xs := n.ins.map V.str)) nD1 (by rw [List.length_map, List.length_map]) (by rw [List.length_map]; exact Nat.lt_of_le_of_lt (by omega : n.ins.length ≤ 1000) (by decide)) (fun H3 s3 => SqL.of (s3 _ _ hl2)) (fun j v y H3 H4 Q2 hj ey s3 yv k => ?_) (fun H3 s3 eD => ?_)
      · obtain ⟨rfl, hv⟩ := yv
        rw [List.getElem?_map] at hv ey
        obtain ⟨u, eu, rfl⟩ := Option.map_eq_some_iff.mp hv
        obtain ⟨u2, eu2, rfl⟩ := Option.map_eq_some_iff.mp ey
        cases eu.symm.trans eu2
        refine ⟨rfl, .ref D, rfl, _, rfl, D, _, rfl, get_known (s3 _ _ hD) (by rw [hb]; exact sub u (List.mem_of_getElem? eu)), k _ (Same.refl _)⟩
      · refine ⟨D1, n.ins.map (look b), rfl, SqL.of (by rw [eD, sum_map_look]), 1, _, rfl, rfl, _, rfl, .ref t, rfl, t, _, _, _, rfl, rfl, SqT.of (s3 _ _ ht), atI_nat (j := 0) rfl, D, _, rfl, .inl ⟨_, .inr n.name, s3 _ _ hD, rfl, ?_, rfl⟩, ?_⟩
        · have : b.length = (ns.take i).length := by
            have := congrArg List.length hb
            simpa using this
          rw [List.length_map, this, List.length_take]
          exact Nat.lt_of_le_of_lt (by omega : min i ns.length ≤ 1000) (by decide)
        · rw [put_new (by rw [hb]; exact nw)]
          refine ⟨_, b ++ [(n.name, 1 + (n.ins.map (look b)).sum)], rfl, fun c o e => ?_, upd_same, ?_, ?_⟩
          · rw [upd_ne (hid_of e).1]
            exact s3 _ _ (sm _ _ e)
          · rw [List.map_append, hb, take_at en, List.map_append]
            rfl
          · rw [drop_at en] at hbel
            exact hbel
    · obtain ⟨z, b, rfl, sm, hD, hb, hbel⟩ := p
      rw [hlen, List.drop_length] at hbel
      rw [hlen, List.take_length] at hb
      have hbel : b = belowBy fC [] ns := hbel
      have sH : Same H H' := fun c o e => by
        have ne : c ≠ D := ne_of_none e nD
        exact key sm (s0 _ _ e) ne
      refine ⟨_, rfl, a, ns, rfl, ha.same sH, fun l3 H3 s3 n3 e3 => ?_⟩
      refine ⟨l3, rfl, ⟨_, SqL.of e3⟩, fun D1 nD1 => ?_⟩
      refine lc_mapW (ys := (outs ns).map fun z => V.int (look b z)) (walk_list (xs := (outs ns).map V.str)) nD1 (by rw [List.length_map, List.length_map]) (by rw [List.length_map]; exact Nat.lt_of_le_of_lt (by have := outs_len ns; omega : (outs ns).length ≤ 1000) (by decide)) (fun H4 s4 => SqL.of (s4 _ _ e3)) (fun j v y H4 H5 Q2 hj ey s4 yv k => ?_) (fun H4 s4 eD => ?_)
      · obtain ⟨rfl, hv⟩ := yv
        rw [List.getElem?_map] at hv ey
        obtain ⟨u, eu, rfl⟩ := Option.map_eq_some_iff.mp hv
        obtain ⟨u2, eu2, rfl⟩ := Option.map_eq_some_iff.mp ey
        cases eu.symm.trans eu2
        exact ⟨rfl, .ref D, rfl, _, rfl, D, _, rfl, get_known (s4 _ _ (s3 _ _ hD)) (by rw [hb]; exact outs_sub (List.mem_of_getElem? eu)), k _ (Same.refl _)⟩
      · refine ⟨D1, overOuts fC ns, rfl, SqL.of (by rw [eD, sum_map_look, hbel]; rfl), ?_⟩
        exact q _ (sH.trans (s3.trans s4))
theorem ok_cells (bS : mg "sum" = none) (N : NetCls P w K mg base C) (G : DefOk P w K mg base CX0 12 "outlets" ["net"] (spOutlets K C)) (D : Dfn K mg "cells" sCells ["net"]) : DefOk P w K mg base CX0 13 "cells" ["net"] (spCells K C) := D.ok fun f fd F => fn_cells bS N G F
end
end Pw
set_option maxHeartbeats 2000000
/-! weight -/
namespace Pw
open PySem PySem.Spec PyProof.Rows L2 Dc
/-! ### products of great numbers -/
theorem prodI_pos : ∀ {xs : List Int}, (∀ x ∈ xs, 1 ≤ x) → 1 ≤ prodI xs
  | [], _ => by decide
  | x :: r, h => by
    rw [prodI_cons]
    have a := h x List.mem_cons_self
    have b := prodI_pos (xs := r) fun y hy => h y (List.mem_cons_of_mem _ hy)
    have := Int.mul_le_mul a b (by decide) (by omega)
    omega
theorem prodI_snoc (xs : List Int) (x : Int) : prodI (xs ++ [x]) = prodI xs * x := by
  unfold prodI
  rw [List.foldl_append]
  rfl
theorem prodI_append (xs ys : List Int) : prodI (xs ++ ys) = prodI xs * prodI ys := by
  induction xs with
  | nil =>
    show prodI ys = 1 * prodI ys
    rw [Int.one_mul]
  | cons x r ih => rw [List.cons_append, prodI_cons, ih, prodI_cons, Int.mul_assoc]
theorem prodI_take_le {xs : List Int} (h : ∀ x ∈ xs, 1 ≤ x) (i : Nat) : prodI (xs.take i) ≤ prodI xs := by
  have e : prodI xs = prodI (xs.take i) * prodI (xs.drop i) := by rw [← prodI_append, List.take_append_drop]
  have a := prodI_pos (xs := xs.take i) fun y hy => h y (List.mem_of_mem_take hy)
  have b := prodI_pos (xs := xs.drop i) fun y hy => h y (List.mem_of_mem_drop hy)
  have := Int.mul_le_mul (Int.le_refl (prodI (xs.take i))) b (by decide) (by omega)
  omega
theorem prodI_mem_le : ∀ {xs : List Int} {x : Int}, (∀ x ∈ xs, 1 ≤ x) → x ∈ xs → x ≤ prodI xs
  | y :: r, x, h, hx => by
    rw [prodI_cons]
    have a := h y List.mem_cons_self
    have b := prodI_pos (xs := r) fun z hz => h z (List.mem_cons_of_mem _ hz)
    rcases List.mem_cons.mp hx with rfl | hx
    · have := Int.mul_le_mul (Int.le_refl x) b (by decide) (by omega)
      omega
    · have c := prodI_mem_le (fun z hz => h z (List.mem_cons_of_mem _ hz)) hx
      have d := h x (List.mem_cons_of_mem _ hx)
      have := Int.mul_le_mul a c (by omega) (by omega)
      omega
theorem abs_lt {x : Int} {B : Nat} (h1 : 1 ≤ x) (h2 : x < 2 ^ B) : x.natAbs < 2 ^ B := by
  have e : ((2 ^ B : Nat) : Int) = (2 : Int) ^ B := by norm_cast
  omega
def spProdW (K : PySem.W.Frag) : Sp := fun vs H Q _ => ∃ (a : Addr) (ns : List Int) (B : Nat), vs = [.ref a] ∧ SqL K H a (ns.map V.int) ∧ (∀ n ∈ ns, 1 ≤ n) ∧ 0 < B ∧ B ≤ 400000 ∧ prodI ns < 2 ^ B ∧ Q (.int (prodI ns)) H
section
variable {P : Program} {w : World} {K : PySem.W.Frag} {mg : Str → Option Value} {base : Heap} {C : Addr}
theorem ok_productW (D : Dfn K mg "product_of" sProduct ["numbers"]) : DefOk P w K mg base CX0 1 "product_of" ["numbers"] (spProdW K) := D.ok fun f fd F => by
  refine F.ok scProduct (fun vs H Q E h => ?_) (fun cdv A outer s H vs Q E hr h => ?_)
  · obtain ⟨a, ns, B, rfl, _⟩ := h
    rfl
  · obtain ⟨a, ns, B, rfl, ha, hp, b0, b1, hB, q⟩ := h
    refine ⟨_, pss_cons (ps_set (i := 1) scProduct.nd rfl (.inl rfl) pe_int)
      (pss_cons (ps_for PassesOwn.never rfl (pi_list (pv 0)) (pg_name (i := 2) scProduct.nd rfl (Or.inl rfl)) (pss_one (ps_set (i := 1) scProduct.nd rfl (.inl rfl) (pe_op op_mulW (pv 1) (pv 2)))))
      (pss_one (ps_ret (pv 1)))), ?_⟩
    refine ⟨_, rfl, a, rfl, ⟨_, ha⟩, ?_⟩
    refine for_it walk_list (fun i σ H' => ∃ z, σ = [some (.ref a), some (.int (prodI (ns.take i))), z] ∧ H' = H) ⟨none, rfl, rfl⟩ (fun i σ H' hi p => by obtain ⟨z, rfl, rfl⟩ := p; exact ha) (fun i x σ H' H'' hi p y => ?_) (fun σ H' p => ?_)
    · obtain ⟨z, rfl, rfl⟩ := p
      obtain ⟨rfl, hv⟩ := y
      rw [List.getElem?_map] at hv
      obtain ⟨n, hn, rfl⟩ := Option.map_eq_some_iff.mp hv
      have mem := List.mem_of_getElem? hn
      have c1 := prodI_take_le hp i
      have c2 := prodI_pos (xs := ns.take i) fun y hy => hp y (List.mem_of_mem_take hy)
      have c3 := prodI_mem_le hp mem
      have c4 := hp n mem
      refine ⟨_, rfl, _, rfl, _, _, rfl, rfl, wide_mul (a := B) (b := B) (abs_lt c2 (by omega)) (abs_lt c4 (by omega)) b0 b0 (by omega), some (.int n), ?_, rfl⟩
      rw [List.take_add_one, hn]
      show _ = [_, some (V.int (prodI (ns.take i ++ [n]))), _]
      rw [prodI_snoc]
      rfl
    · obtain ⟨z, rfl, rfl⟩ := p
      refine ⟨_, rfl, ?_⟩
      rw [List.length_map, List.take_length]
      exact q
end
/-! ### what the weights are bounded by -/
theorem rcw_ins {ns : List Nd} (w : Wired [] ns) {zs : List Str} (h : ∀ z ∈ zs, z ∈ ns.map (·.name)) : ∀ (i : Nat) (x y : Int), (zs.map (look (belowBy fC [] ns)))[i]? = some x → (zs.map (look (belowBy fW [] ns)))[i]? = some y → RCW x y := fun i x y e1 e2 => by
  rw [List.getElem?_map] at e1 e2
  obtain ⟨u, f1, rfl⟩ := Option.map_eq_some_iff.mp e1
  obtain ⟨u2, f2, rfl⟩ := Option.map_eq_some_iff.mp e2
  cases f1.symm.trans f2
  exact cw_all w u (h u (List.mem_of_getElem? f1))
theorem w_pos {ns : List Nd} (w : Wired [] ns) {zs : List Str} (h : ∀ z ∈ zs, z ∈ ns.map (·.name)) : ∀ x ∈ zs.map (look (belowBy fW [] ns)), 1 ≤ x := fun x hx => by
  obtain ⟨z, hz, rfl⟩ := List.mem_map.mp hx
  exact (cw_all w z (h z hz)).2.1
theorem pow_le2 {a b : Nat} (h : a ≤ b) : (2 : Int) ^ a ≤ 2 ^ b := by
  obtain ⟨k, rfl⟩ := Nat.exists_eq_add_of_le h
  rw [Int.pow_add]
  have a1 := pow_pos2 k
  have a2 := pow_pos2 a
  have := Int.mul_le_mul (Int.le_refl ((2 : Int) ^ a)) a1 (by decide) (by omega)
  omega
theorem w_ins {ns : List Nd} (w : Wired [] ns) (hc : cellsN ns ≤ 100) {n : Nd} (hn : n ∈ ns) : prodI (n.ins.map (look (belowBy fW [] ns))) < 2 ^ 701 := by
  have sub : ∀ z ∈ n.ins, z ∈ ns.map (·.name) := fun z hz => by simpa using wired_ins w hn hz
  obtain ⟨b1, b2, b3⟩ := prod_by_sum _ _ (by simp) (rcw_ins w sub)
  have le := cells_within w ns [] rfl n hn
  rw [below_at fC w (b := []) rfl hn] at le
  unfold fC at le b1 b3
  have e := pow_le2 (a := 7 * (n.ins.map (look (belowBy (fun _ xs => 1 + xs.sum) [] ns))).sum.toNat) (b := 700) (by omega)
  have e2 : (2 : Int) ^ 700 < 2 ^ 701 := by decide
  omega
theorem w_outs {ns : List Nd} (w : Wired [] ns) (hc : cellsN ns ≤ 100) : prodI (overOuts fW ns) < 2 ^ 701 := by
  obtain ⟨b1, b2, b3⟩ := prod_by_sum (overOuts fC ns) (overOuts fW ns) (by simp [overOuts]) (rcw_ins w fun z hz => outs_sub hz)
  have b4 : 7 * (overOuts fC ns).sum.toNat ≤ 700 := by
    unfold cellsN at hc
    omega
  have e := pow_le2 b4
  have e2 : (2 : Int) ^ 700 < 2 ^ 701 := by decide
  omega
theorem wired_drop {ns : List Nd} (w : Wired [] ns) (i : Nat) : Wired ((ns.take i).map (·.name)) (ns.drop i) := by
  have w' : Wired [] (ns.take i ++ ns.drop i) := by rw [List.take_append_drop]; exact w
  simpa using wired_split w'
theorem look_part {f : Nd → List Int → Int} {ns : List Nd} {b : List (Str × Int)} {i : Nat} (w : Wired [] ns) (h : belowBy f b (ns.drop i) = belowBy f [] ns) {zs : List Str} (hz : ∀ z ∈ zs, z ∈ (ns.take i).map (·.name)) : zs.map (look b) = zs.map (look (belowBy f [] ns)) := by
  apply List.map_congr_left
  intro z m
  rw [← h, below_old f (wired_drop w i) (hz z m)]
end Pw
set_option maxHeartbeats 2000000
/-! weight: its contract -/
namespace Pw
open PySem PySem.Spec PyProof.Rows L2 Dc
section
variable {P : Program} {w : World} {K : PySem.W.Frag} {mg : Str → Option Value} {base : Heap} {C : Addr}
def spWeight (K : PySem.W.Frag) (C : Addr) : Sp := fun vs H Q _ => ∃ a ns, vs = [.ref a] ∧ NetAt K H C a ns ∧ cellsN ns ≤ 100 ∧ ∀ (H' : Hp), Same H H' → Q (.int (weightN ns)) H'
theorem fn_weight (N : NetCls P w K mg base C) (G : DefOk P w K mg base CX0 12 "outlets" ["net"] (spOutlets K C)) (G1 : DefOk P w K mg base CX0 5 "own_weight" ["node"] (spOwn K)) (G2 : DefOk P w K mg base CX0 1 "product_of" ["numbers"] (spProdW K)) {f : Addr} {fd : FuncData} (F : Fun K "weight" "weight" sWeight f fd) : FnOk P w K mg base CX0 13 f fd ["net"] (spWeight K C) := by
  refine F.ok scWeight (fun vs H Q E h => ?_) (fun cdv A outer s H vs Q E hr h => ?_)
  · obtain ⟨a, ns, rfl, _⟩ := h
    rfl
  · obtain ⟨a, ns, rfl, ha, hc, q⟩ := h
    have nd := scWeight.nd
    have hu := Nat.lt_of_le_of_lt (Nat.add_le_add_left (by decide : 1 ≤ 64) _) hr.units
    refine ⟨_, pss_cons (ps_set (i := 1) nd rfl (.inr rfl) pe_dnewK)
      (pss_cons (ps_for PassesOwn.never rfl (pi_list (pe_nodes N (hr.mono (by decide)) (pv 0))) (pg_name (i := 2) nd rfl (Or.inl rfl))
        (pss_one (ps_dput hu (pv 1) (pe_ix ix_tup (pv 2) pe_int (fun _ _ => rfl)) (pe_op op_mulW (pe_def G1 hr pass0 (pa_cons (pv 2) pa_nil)) (pe_def G2 hr pass0 (pa_cons
          (pe_lc (own := [("lower", 3)]) (g := gName 3) (tt := tYes) rfl nd (pi_list (pe_ix ix_tup (pv 2) pe_int (fun _ _ => rfl))) (blkOk_by (N := ["net", "below", "node", "lower", "name"]) (sc := defScope sWeight) (by decide +kernel))
            (fun _ _ _ _ _ => pg_name (i := 3) nd rfl (Or.inl rfl)) (fun _ _ _ _ _ => pts_nil) (fun _ _ _ _ _ => pe_dget (by exact hu) (pv 1) (pv 3) (fun _ _ => rfl))) pa_nil))) (by rfl))))
      (pss_one (ps_ret (pe_def G2 hr pass0 (pa_cons
          (pe_lc (own := [("name", 4)]) (g := gName 4) (tt := tYes) rfl nd (pi_list (pe_def G hr pass0 (pa_cons (pv 0) pa_nil))) (blkOk_by (N := ["net", "below", "node", "lower", "name"]) (sc := defScope sWeight) (by decide +kernel))
            (fun _ _ _ _ _ => pg_name (i := 4) nd rfl (Or.inl rfl)) (fun _ _ _ _ _ => pts_nil) (fun _ _ _ _ _ => pe_dget (by exact hu) (pv 1) (pv 4) (fun _ _ => rfl))) pa_nil))))), ?_⟩
    have hw : Wired [] ns := by
      obtain ⟨_, _, _, _, _, _, _, w, _⟩ := ha
      exact w
    have h30 : ns.length ≤ 30 := by
      obtain ⟨_, _, _, _, _, _, _, _, _, h⟩ := ha
      exact h
    refine fun D nD => ?_
    have sD := same_upd (o := .dK []) nD
    refine ⟨_, rfl, nodes_of_net (ha.same sD) fun l xs H1 s1 nl hl hz hds => ?_⟩
    have hds1 := hds.same newOf_same
    have hlen : xs.length = ns.length := by rw [hds.length, List.length_map]
    have lD : l ≠ D := fun e => by
      rw [e, upd_same] at nl
      cases nl
    have s0 : Same H H1 := sD.trans s1
    have hD1 : H1 D = some (kiO []) := s1 _ _ upd_same
    -- what stays: all but the dict
    have key : ∀ {H' : Hp}, Same (hid D H1) H' → ∀ {b : Addr} {o : HO}, H1 b = some o → b ≠ D → H' b = some o := fun {H'} s {b o} e n => s _ _ (by rw [hid_ne n]; exact e)
    have lD' : newOf (upd H D (.dK [])) H1 D = none := by
      unfold newOf
      rw [upd_same]
    refine ⟨l, rfl, ⟨_, SqL.of hl⟩, ?_⟩
    refine for_it (walk_list (xs := xs)) (fun i σ H' => ∃ z b, σ = [some (.ref a), some (.ref D), z, none, none] ∧ Same (hid D H1) H' ∧ H' D = some (kiO b) ∧ b.map (·.1) = (ns.take i).map (·.name) ∧ belowBy fW b (ns.drop i) = belowBy fW [] ns)
      ⟨none, [], rfl, hid_same, hD1, by simp, rfl⟩ (fun i σ H' hi p => by obtain ⟨z, b, rfl, sm, _⟩ := p; exact SqL.of (key sm hl lD)) (fun i x σ H' H'' hi p y => ?_) (fun σ H' p => ?_)
    · obtain ⟨z, b, rfl, sm, hD, hb, hbel⟩ := p
      obtain ⟨rfl, hx⟩ := y
      have hN : Same (newOf (upd H D (.dK [])) H1) H'' := fun c o e => key sm (newOf_same _ _ e) fun z => by
        rw [z, lD'] at e
        cases e
      obtain ⟨n, t, l2, y3, en, rfl, ht0, hl0, hdv0⟩ := node_at (hds.same hN) hx
      obtain ⟨nw, sub⟩ := wired_at hw en
      have nin := List.mem_of_getElem? en
      have l10 := (wired_node hw nin).2
      have part := look_part hw hbel sub
      have sub' : ∀ z ∈ n.ins, z ∈ ns.map (·.name) := fun z hz => by simpa using wired_ins hw nin hz
      have pos : ∀ x ∈ n.ins.map (look b), 1 ≤ x := by rw [part]; exact w_pos hw sub'
      have top : prodI (n.ins.map (look b)) < 2 ^ 701 := by rw [part]; exact w_ins hw hc nin
      obtain ⟨o1, o2⟩ := own_range (wired_node hw nin).1
      refine ⟨.ref t, rfl, .ref t, n.dat, rfl, hdv0, (wired_node hw nin).1, fun H2 s2 => ?_⟩
      have ht := s2 _ _ ht0
      have hl2 := s2 _ _ hl0
      have hD2 := s2 _ _ hD
      refine ⟨.ref t, rfl, t, _, _, _, rfl, rfl, SqT.of ht, atI_nat (j := 3) rfl, l2, rfl, ⟨_, SqL.of hl2⟩, fun D1 nD1 => ?_⟩
      refine lc_mapW (ys := n.ins.map fun z => V.int (look b z)) (walk_list (xs := n.ins.map V.str)) nD1 (by rw [List.length_map, List.length_map]) (by rw [List.length_map]; exact Nat.lt_of_le_of_lt (by omega : n.ins.length ≤ 1000) (by decide)) (fun H3 s3 => SqL.of (s3 _ _ hl2)) (fun j v y H3 H4 Q2 hj ey s3 yv k => ?_) (fun H3 s3 eD => ?_)
      · obtain ⟨rfl, hv⟩ := yv
        rw [List.getElem?_map] at hv ey
        obtain ⟨u, eu, rfl⟩ := Option.map_eq_some_iff.mp hv
        obtain ⟨u2, eu2, rfl⟩ := Option.map_eq_some_iff.mp ey
        cases eu.symm.trans eu2
        refine ⟨rfl, .ref D, rfl, _, rfl, D, _, rfl, get_known (s3 _ _ hD2) (by rw [hb]; exact sub u (List.mem_of_getElem? eu)), k _ (Same.refl _)⟩
      · refine ⟨D1, n.ins.map (look b), 701, rfl, SqL.of (by rw [eD, sum_map_look]), pos, by decide, by decide, top, ?_⟩
        refine ⟨_, _, rfl, rfl, wide_mul (a := 7) (b := 701) (by omega) (abs_lt (prodI_pos pos) top) (by decide) (by decide) (by decide), _, rfl, .ref t, rfl, t, _, _, _, rfl, rfl, SqT.of (s3 _ _ ht), atI_nat (j := 0) rfl, D, _, rfl, .inl ⟨_, .inr n.name, s3 _ _ hD2, rfl, ?_, rfl⟩, ?_⟩
        · have : b.length = (ns.take i).length := by
            have := congrArg List.length hb
            simpa using this
          rw [List.length_map, this, List.length_take]
          exact Nat.lt_of_le_of_lt (by omega : min i ns.length ≤ 1000) (by decide)
        · rw [put_new (by rw [hb]; exact nw)]
          refine ⟨_, b ++ [(n.name, ownW n.dat * prodI (n.ins.map (look b)))], rfl, fun c o e => ?_, upd_same, ?_, ?_⟩
          · rw [upd_ne (hid_of e).1]
            exact s3 _ _ (s2 _ _ (sm _ _ e))
          · rw [List.map_append, hb, take_at en, List.map_append]
            rfl
          · rw [drop_at en] at hbel
            exact hbel
    · obtain ⟨z, b, rfl, sm, hD, hb, hbel⟩ := p
      rw [hlen, List.drop_length] at hbel
      rw [hlen, List.take_length] at hb
      have hbel : b = belowBy fW [] ns := hbel
      have sH : Same H H' := fun c o e => by
        have ne : c ≠ D := ne_of_none e nD
        exact key sm (s0 _ _ e) ne
      refine ⟨_, rfl, a, ns, rfl, ha.same sH, fun l3 H3 s3 n3 e3 => ?_⟩
      refine ⟨l3, rfl, ⟨_, SqL.of e3⟩, fun D1 nD1 => ?_⟩
      refine lc_mapW (ys := (outs ns).map fun z => V.int (look b z)) (walk_list (xs := (outs ns).map V.str)) nD1 (by rw [List.length_map, List.length_map]) (by rw [List.length_map]; exact Nat.lt_of_le_of_lt (by have := outs_len ns; omega : (outs ns).length ≤ 1000) (by decide)) (fun H4 s4 => SqL.of (s4 _ _ e3)) (fun j v y H4 H5 Q2 hj ey s4 yv k => ?_) (fun H4 s4 eD => ?_)
      · obtain ⟨rfl, hv⟩ := yv
        rw [List.getElem?_map] at hv ey
        obtain ⟨u, eu, rfl⟩ := Option.map_eq_some_iff.mp hv
        obtain ⟨u2, eu2, rfl⟩ := Option.map_eq_some_iff.mp ey
        cases eu.symm.trans eu2
        exact ⟨rfl, .ref D, rfl, _, rfl, D, _, rfl, get_known (s4 _ _ (s3 _ _ hD)) (by rw [hb]; exact outs_sub (List.mem_of_getElem? eu)), k _ (Same.refl _)⟩
      · refine ⟨D1, overOuts fW ns, 701, rfl, SqL.of (by rw [eD, sum_map_look, hbel]; rfl), w_pos hw (fun z hz => outs_sub hz), by decide, by decide, w_outs hw hc, ?_⟩
        exact q _ (sH.trans (s3.trans s4))
theorem ok_weight (N : NetCls P w K mg base C) (G : DefOk P w K mg base CX0 12 "outlets" ["net"] (spOutlets K C)) (G1 : DefOk P w K mg base CX0 5 "own_weight" ["node"] (spOwn K)) (G2 : DefOk P w K mg base CX0 1 "product_of" ["numbers"] (spProdW K)) (D : Dfn K mg "weight" sWeight ["net"]) : DefOk P w K mg base CX0 13 "weight" ["net"] (spWeight K C) := D.ok fun f fd F => fn_weight N G G1 G2 F
end
end Pw
set_option maxHeartbeats 2000000
/-! loops: the numbers -/
namespace Pw
open PySem PySem.Spec PyProof.Rows L2 Dc
theorem foldmax_ge : ∀ (xs : List Int) (a : Int), a ≤ xs.foldl max a ∧ ∀ x ∈ xs, x ≤ xs.foldl max a
  | [], a => ⟨Int.le_refl _, fun x hx => absurd hx (by simp)⟩
  | y :: r, a => by
    obtain ⟨h1, h2⟩ := foldmax_ge r (max a y)
    rw [List.foldl_cons]
    refine ⟨by omega, fun x hx => ?_⟩
    rcases List.mem_cons.mp hx with rfl | hx
    · omega
    · exact h2 x hx
theorem foldmax_mem : ∀ (xs : List Int) (a : Int), xs.foldl max a = a ∨ xs.foldl max a ∈ xs
  | [], a => .inl rfl
  | y :: r, a => by
    rw [List.foldl_cons]
    rcases foldmax_mem r (max a y) with h | h
    · rw [h]
      rcases Int.le_total a y with l | l
      · rw [Int.max_eq_right l]
        exact .inr List.mem_cons_self
      · rw [Int.max_eq_left l]
        exact .inl rfl
    · exact .inr (List.mem_cons_of_mem _ h)
theorem maxI_nonneg (xs : List Int) : 0 ≤ maxI xs := (foldmax_ge xs 0).1
theorem maxI_is {xs : List Int} {m : Int} (h0 : ∀ x ∈ xs, 0 ≤ x) (hm : m ∈ xs) (ht : ∀ y ∈ xs, y ≤ m) : maxI xs = m := by
  have a := (foldmax_ge xs 0).2 m hm
  have b := h0 m hm
  rcases foldmax_mem xs 0 with h | h
  · show xs.foldl max 0 = m
    have : xs.foldl max 0 = 0 := h
    omega
  · have c := ht _ h
    show xs.foldl max 0 = m
    omega
theorem max_dflt {xs : List Int} {m : Int} (h0 : ∀ x ∈ xs, 0 ≤ x) (z0 : xs = [] → m = 0) (z1 : xs ≠ [] → m ∈ xs ∧ ∀ y ∈ xs, y ≤ m) : maxI xs = m := by
  by_cases e : xs = []
  · rw [z0 e, e]
    rfl
  · exact maxI_is h0 (z1 e).1 (z1 e).2
/-- loops are no more than cells -/
def RCL (x y : Int) : Prop := 1 ≤ x ∧ 0 ≤ y ∧ y ≤ x
theorem max_by_sum : ∀ (xs ys : List Int), xs.length = ys.length → (∀ (i : Nat) (x y : Int), xs[i]? = some x → ys[i]? = some y → RCL x y) → 0 ≤ xs.sum ∧ ∀ y ∈ ys, 0 ≤ y ∧ y ≤ xs.sum
  | [], [], _, _ => ⟨Int.le_refl _, fun y hy => absurd hy (by simp)⟩
  | x :: xs, y :: ys, hl, h => by
    obtain ⟨a1, a2, a3⟩ := h 0 x y rfl rfl
    obtain ⟨b1, b2⟩ := max_by_sum xs ys (by simpa using hl) fun i u v e1 e2 => h (i + 1) u v (by simpa using e1) (by simpa using e2)
    rw [List.sum_cons]
    refine ⟨by omega, fun z hz => ?_⟩
    rcases List.mem_cons.mp hz with rfl | hz
    · omega
    · have := b2 z hz
      omega
theorem cl_step (n : Nd) (xs ys : List Int) (hn : isNode n.dat = true) (hl : xs.length = ys.length) (h : ∀ (i : Nat) (x y : Int), xs[i]? = some x → ys[i]? = some y → RCL x y) : RCL (fC n xs) (fL n ys) := by
  obtain ⟨b1, b2⟩ := max_by_sum xs ys hl h
  have c : maxI ys ≤ xs.sum := by
    rcases foldmax_mem ys 0 with q | q
    · show ys.foldl max 0 ≤ _
      omega
    · exact (b2 _ q).2
  have d := maxI_nonneg ys
  unfold fC fL
  refine ⟨by omega, ?_, ?_⟩ <;> split <;> omega
theorem cl_all {ns : List Nd} (w : Wired [] ns) : ∀ z ∈ ns.map (·.name), RCL (look (belowBy fC [] ns) z) (look (belowBy fL [] ns) z) := fun z hz =>
  below_all fC fL RCL cl_step w (b := []) (c := []) rfl rfl (fun z hz => absurd hz (by simp)) z (by simpa using hz)
theorem l_pos {ns : List Nd} (w : Wired [] ns) {zs : List Str} (h : ∀ z ∈ zs, z ∈ ns.map (·.name)) : ∀ x ∈ zs.map (look (belowBy fL [] ns)), 0 ≤ x := fun x hx => by
  obtain ⟨z, hz, rfl⟩ := List.mem_map.mp hx
  exact (cl_all w z (h z hz)).2.1
theorem loops_le {ns : List Nd} (w : Wired [] ns) : 0 ≤ loopsN ns ∧ loopsN ns ≤ cellsN ns := by
  have h : ∀ (i : Nat) (x y : Int), (overOuts fC ns)[i]? = some x → (overOuts fL ns)[i]? = some y → RCL x y := fun i x y e1 e2 => by
    unfold overOuts at e1 e2
    rw [List.getElem?_map] at e1 e2
    obtain ⟨u, f1, rfl⟩ := Option.map_eq_some_iff.mp e1
    obtain ⟨u2, f2, rfl⟩ := Option.map_eq_some_iff.mp e2
    cases f1.symm.trans f2
    exact cl_all w u (outs_sub (List.mem_of_getElem? f1))
  obtain ⟨b1, b2⟩ := max_by_sum (overOuts fC ns) (overOuts fL ns) (by simp [overOuts]) h
  refine ⟨maxI_nonneg _, ?_⟩
  show maxI (overOuts fL ns) ≤ (overOuts fC ns).sum
  rcases foldmax_mem (overOuts fL ns) 0 with q | q
  · show (overOuts fL ns).foldl max 0 ≤ _
    omega
  · exact (b2 _ q).2
/-- the last node is an outlet -/
theorem outs_some {ns : List Nd} (w : Wired [] ns) (h : 1 ≤ ns.length) : outs ns ≠ [] := by
  have e : ns ≠ [] := fun z => by
    rw [z] at h
    cases h
  have e2 : ns = ns.dropLast ++ [ns.getLast e] := (List.dropLast_concat_getLast e).symm
  generalize ns.dropLast = pre at e2
  generalize ns.getLast e = n at e2
  have w2 := w
  rw [e2] at w2
  have b := wired_split w2
  have nu : used ns n.name = false := by
    cases u : used ns n.name with
    | false => rfl
    | true =>
      exfalso
      obtain ⟨m, hm, hin⟩ := List.any_eq_true.mp u
      have hin := of_decide_eq_true hin
      rw [e2] at hm
      cases b with
      | cons h1 h2 h3 h4 h5 =>
        rcases List.mem_append.mp hm with hm | hm
        · exact h1 (wired_ins (wired_pre w2) hm hin)
        · obtain rfl := List.mem_singleton.mp hm
          exact h1 (h2 _ hin)
  intro z
  have : n.name ∈ outs ns := List.mem_map.mpr ⟨n, List.mem_filter.mpr ⟨by rw [e2]; simp, by rw [nu]; rfl⟩, rfl⟩
  rw [z] at this
  cases this
end Pw
set_option maxHeartbeats 2000000
/-! loops: the contract -/
namespace Pw
open PySem PySem.Spec PyProof.Rows L2 Dc
section
variable {P : Program} {w : World} {K : PySem.W.Frag} {mg : Str → Option Value} {base : Heap} {C : Addr}
def spLoops (K : PySem.W.Frag) (C : Addr) : Sp := fun vs H Q _ => ∃ a ns, vs = [.ref a] ∧ NetAt K H C a ns ∧ ∀ (H' : Hp), Same H H' → Q (.int (loopsN ns)) H'
theorem fn_loops (bM : mg "max" = none) {pL : Addr} (gL : mg "LOOPS" = some (.ref pL)) (tL : TupK K pL (loopsL.map V.str)) (N : NetCls P w K mg base C) (G : DefOk P w K mg base CX0 12 "outlets" ["net"] (spOutlets K C)) {f : Addr} {fd : FuncData} (F : Fun K "loops" "loops" sLoops f fd) : FnOk P w K mg base CX0 13 f fd ["net"] (spLoops K C) := by
  refine F.ok scLoops (fun vs H Q E h => ?_) (fun cdv A outer s H vs Q E hr h => ?_)
  · obtain ⟨a, ns, rfl, _⟩ := h
    rfl
  · obtain ⟨a, ns, rfl, ha, q⟩ := h
    have nd := scLoops.nd
    have hu := Nat.lt_of_le_of_lt (Nat.add_le_add_left (by decide : 1 ≤ 64) _) hr.units
    refine ⟨_, pss_cons (ps_set (i := 1) nd rfl (.inr rfl) pe_dnewK)
      (pss_cons (ps_for PassesOwn.never rfl (pi_list (pe_nodes N (hr.mono (by decide)) (pv 0))) (pg_name (i := 2) nd rfl (Or.inl rfl))
        (pss_cons (ps_set (i := 3) nd rfl (.inl rfl) (pe_ifExp (pt_cmpR op_in_seq (pe_ix ix_tup (pv 2) pe_int (fun _ _ => rfl)) (pe_glob (v := .ref pL) rfl gL rfl) (by rfl)) pe_int pe_int))
        (pss_one (ps_dput hu (pv 1) (pe_ix ix_tup (pv 2) pe_int (fun _ _ => rfl)) (pe_op op_add (pv 3) (pe_callBK (Mx.cr_maxDef rfl) (by rfl) bM (by decide +kernel) (pa_cons
          (pe_lc (own := [("lower", 4)]) (g := gName 4) (tt := tYes) rfl nd (pi_list (pe_ix ix_tup (pv 2) pe_int (fun _ _ => rfl))) (blkOk_by (N := ["net", "below", "node", "own", "lower", "name"]) (sc := defScope sLoops) (by decide +kernel))
            (fun _ _ _ _ _ => pg_name (i := 4) nd rfl (Or.inl rfl)) (fun _ _ _ _ _ => pts_nil) (fun _ _ _ _ _ => pe_dget (by exact hu) (pv 1) (pv 4) (fun _ _ => rfl))) pa_nil) (pk_cons pe_int pk_nil))) (by rfl)))))
      (pss_one (ps_ret (pe_callB (cr_max rfl) (by rfl) bM (by decide +kernel) (pa_cons
          (pe_lc (own := [("name", 5)]) (g := gName 5) (tt := tYes) rfl nd (pi_list (pe_def G hr pass0 (pa_cons (pv 0) pa_nil))) (blkOk_by (N := ["net", "below", "node", "own", "lower", "name"]) (sc := defScope sLoops) (by decide +kernel))
            (fun _ _ _ _ _ => pg_name (i := 5) nd rfl (Or.inl rfl)) (fun _ _ _ _ _ => pts_nil) (fun _ _ _ _ _ => pe_dget (by exact hu) (pv 1) (pv 5) (fun _ _ => rfl))) pa_nil))))), ?_⟩
    have hw : Wired [] ns := by
      obtain ⟨_, _, _, _, _, _, _, w, _⟩ := ha
      exact w
    have h30 : ns.length ≤ 30 := by
      obtain ⟨_, _, _, _, _, _, _, _, _, h⟩ := ha
      exact h
    refine fun D nD => ?_
    have sD := same_upd (o := .dK []) nD
    refine ⟨_, rfl, nodes_of_net (ha.same sD) fun l xs H1 s1 nl hl hz hds => ?_⟩
    have hds1 := hds.same newOf_same
    have hlen : xs.length = ns.length := by rw [hds.length, List.length_map]
    have lD : l ≠ D := fun e => by
      rw [e, upd_same] at nl
      cases nl
    have s0 : Same H H1 := sD.trans s1
    have hD1 : H1 D = some (kiO []) := s1 _ _ upd_same
    -- what stays: all but the dict
    have key : ∀ {H' : Hp}, Same (hid D H1) H' → ∀ {b : Addr} {o : HO}, H1 b = some o → b ≠ D → H' b = some o := fun {H'} s {b o} e n => s _ _ (by rw [hid_ne n]; exact e)
    refine ⟨l, rfl, ⟨_, SqL.of hl⟩, ?_⟩
    refine for_it (walk_list (xs := xs)) (fun i σ H' => ∃ z z2 b, σ = [some (.ref a), some (.ref D), z, z2, none, none] ∧ Same (hid D H1) H' ∧ H' D = some (kiO b) ∧ b.map (·.1) = (ns.take i).map (·.name) ∧ belowBy fL b (ns.drop i) = belowBy fL [] ns)
      ⟨none, none, [], rfl, hid_same, hD1, by simp, rfl⟩ (fun i σ H' hi p => by obtain ⟨z, z2, b, rfl, sm, _⟩ := p; exact SqL.of (key sm hl lD)) (fun i x σ H' H'' hi p y => ?_) (fun σ H' p => ?_)
    · obtain ⟨z, z2, b, rfl, sm, hD, hb, hbel⟩ := p
      obtain ⟨rfl, hx⟩ := y
      obtain ⟨n, t, l2, y3, en, rfl, ht1, hl1, _⟩ := node_at hds1 hx
      have tD : t ≠ D := fun e => by
        rw [e, hD1] at ht1
        cases ht1
      have l2D : l2 ≠ D := fun e => by
        rw [e, hD1] at hl1
        cases hl1
      have ht := key sm ht1 tD
      have hl2 := key sm hl1 l2D
      obtain ⟨nw, sub⟩ := wired_at hw en
      have l10 := (wired_node hw (List.mem_of_getElem? en)).2
      have part := look_part hw hbel sub
      have sub' : ∀ z ∈ n.ins, z ∈ ns.map (·.name) := fun z hz => by simpa using wired_ins hw (List.mem_of_getElem? en) hz
      have pos : ∀ x ∈ n.ins.map (look b), 0 ≤ x := by rw [part]; exact l_pos hw sub'
      have em : (if decide (n.kind ∈ loopsL) = true then V.int 1 else V.int 0) = V.int (if n.kind ∈ loopsL then 1 else 0) := by
        by_cases e : n.kind ∈ loopsL
        · rw [if_pos e, decide_eq_true e]
          rfl
        · rw [if_neg e, decide_eq_false e]
          rfl
      refine ⟨.ref t, rfl, t, _, _, _, rfl, rfl, SqT.of ht, atI_nat (j := 1) rfl, pL, _, rfl, .inr (tL.seq _), rfl, flat_strs loopsL, _, rfl, ?_⟩
      rw [in_strs]
      refine ifC em ?_
      refine ⟨_, rfl, .ref t, rfl, t, _, _, _, rfl, rfl, SqT.of ht, atI_nat (j := 3) rfl, l2, rfl, ⟨_, SqL.of hl2⟩, fun D1 nD1 => ?_⟩
      refine lc_mapW (ys := n.ins.map fun z => V.int (look b z)) (walk_list (xs := n.ins.map V.str)) nD1 (by rw [List.length_map, List.length_map]) (by rw [List.length_map]; exact Nat.lt_of_le_of_lt (by omega : n.ins.length ≤ 1000) (by decide)) (fun H3 s3 => SqL.of (s3 _ _ hl2)) (fun j v y H3 H4 Q2 hj ey s3 yv k => ?_) (fun H3 s3 eD => ?_)
      · obtain ⟨rfl, hv⟩ := yv
        rw [List.getElem?_map] at hv ey
        obtain ⟨u, eu, rfl⟩ := Option.map_eq_some_iff.mp hv
        obtain ⟨u2, eu2, rfl⟩ := Option.map_eq_some_iff.mp ey
        cases eu.symm.trans eu2
        refine ⟨rfl, .ref D, rfl, _, rfl, D, _, rfl, get_known (s3 _ _ hD) (by rw [hb]; exact sub u (List.mem_of_getElem? eu)), k _ (Same.refl _)⟩
      · refine ⟨D1, n.ins.map (look b), 0, rfl, rfl, SqL.of (by rw [eD, sum_map_look]), fun m z0 z1 => ?_⟩
        have em2 := max_dflt pos z0 z1
        subst em2
        refine ⟨_, _, rfl, rfl, _, rfl, .ref t, rfl, t, _, _, _, rfl, rfl, SqT.of (s3 _ _ ht), atI_nat (j := 0) rfl, D, _, rfl, .inl ⟨_, .inr n.name, s3 _ _ hD, rfl, ?_, rfl⟩, ?_⟩
        · have : b.length = (ns.take i).length := by
            have := congrArg List.length hb
            simpa using this
          rw [List.length_map, this, List.length_take]
          exact Nat.lt_of_le_of_lt (by omega : min i ns.length ≤ 1000) (by decide)
        · rw [put_new (by rw [hb]; exact nw)]
          refine ⟨_, _, b ++ [(n.name, (if n.kind ∈ loopsL then 1 else 0) + maxI (n.ins.map (look b)))], rfl, fun c o e => ?_, upd_same, ?_, ?_⟩
          · rw [upd_ne (hid_of e).1]
            exact s3 _ _ (sm _ _ e)
          · rw [List.map_append, hb, take_at en, List.map_append]
            rfl
          · rw [drop_at en] at hbel
            exact hbel
    · obtain ⟨z, z2, b, rfl, sm, hD, hb, hbel⟩ := p
      rw [hlen, List.drop_length] at hbel
      rw [hlen, List.take_length] at hb
      have hbel : b = belowBy fL [] ns := hbel
      have sH : Same H H' := fun c o e => by
        have ne : c ≠ D := ne_of_none e nD
        exact key sm (s0 _ _ e) ne
      refine ⟨_, rfl, a, ns, rfl, ha.same sH, fun l3 H3 s3 n3 e3 => ?_⟩
      refine ⟨l3, rfl, ⟨_, SqL.of e3⟩, fun D1 nD1 => ?_⟩
      refine lc_mapW (ys := (outs ns).map fun z => V.int (look b z)) (walk_list (xs := (outs ns).map V.str)) nD1 (by rw [List.length_map, List.length_map]) (by rw [List.length_map]; exact Nat.lt_of_le_of_lt (by have := outs_len ns; omega : (outs ns).length ≤ 1000) (by decide)) (fun H4 s4 => SqL.of (s4 _ _ e3)) (fun j v y H4 H5 Q2 hj ey s4 yv k => ?_) (fun H4 s4 eD => ?_)
      · obtain ⟨rfl, hv⟩ := yv
        rw [List.getElem?_map] at hv ey
        obtain ⟨u, eu, rfl⟩ := Option.map_eq_some_iff.mp hv
        obtain ⟨u2, eu2, rfl⟩ := Option.map_eq_some_iff.mp ey
        cases eu.symm.trans eu2
        exact ⟨rfl, .ref D, rfl, _, rfl, D, _, rfl, get_known (s4 _ _ (s3 _ _ hD)) (by rw [hb]; exact outs_sub (List.mem_of_getElem? eu)), k _ (Same.refl _)⟩
      · have h1 : 1 ≤ ns.length := by
          obtain ⟨_, _, _, _, _, _, _, _, h, _⟩ := ha
          exact h
        have ne := outs_some hw h1
        refine ⟨D1, overOuts fL ns, rfl, SqL.of (by rw [eD, sum_map_look, hbel]; rfl), ?_, fun m hm ht => ?_⟩
        · unfold overOuts
          rw [List.length_map]
          exact List.length_pos_iff.mpr ne
        · have e : loopsN ns = m := maxI_is (l_pos hw fun z hz => outs_sub hz) hm ht
          rw [← e]
          exact q _ (sH.trans (s3.trans s4))
theorem ok_loops (bM : mg "max" = none) {pL : Addr} (gL : mg "LOOPS" = some (.ref pL)) (tL : TupK K pL (loopsL.map V.str)) (N : NetCls P w K mg base C) (G : DefOk P w K mg base CX0 12 "outlets" ["net"] (spOutlets K C)) (D : Dfn K mg "loops" sLoops ["net"]) : DefOk P w K mg base CX0 13 "loops" ["net"] (spLoops K C) := D.ok fun f fd F => fn_loops bM gL tL N G F
end
end Pw
set_option maxHeartbeats 2000000
/-! load, check_limits -/
namespace Pw
open PySem PySem.Spec PyProof.Rows L2 Dc
abbrev sLimits : Stmt := topS 48
theorem scLimits : FnScope ["net"] ["net"] (defScope sLimits) := ⟨rfl, rfl, rfl, by decide +kernel, rfl, by decide +kernel, by decide +kernel⟩
theorem weight_pos {ns : List Nd} (w : Wired [] ns) : 1 ≤ weightN ns := prodI_pos (w_pos w fun z hz => outs_sub hz)
section
variable {P : Program} {w : World} {K : PySem.W.Frag} {mg : Str → Option Value} {base : Heap} {C CL fL' : Addr}
def spLoad (K : PySem.W.Frag) (C : Addr) : Sp := fun vs H Q _ => ∃ a ns d, vs = [.ref a, .int d] ∧ NetAt K H C a ns ∧ cellsN ns ≤ 100 ∧ weightN ns ≤ 200 ∧ 0 ≤ d ∧ d ≤ 1000 ∧ ∀ (H' : Hp), Same H H' → Q (.int (loadN ns d)) H'
theorem ok_load (G1 : DefOk P w K mg base CX0 13 "weight" ["net"] (spWeight K C)) (G2 : DefOk P w K mg base CX0 13 "loops" ["net"] (spLoops K C)) (G3 : DefOk P w K mg base CX0 1 "power" ["base", "exponent"] (spPower K)) (D : Dfn K mg "load" sLoad ["net", "depth"]) :
    DefOk P w K mg base CX0 14 "load" ["net", "depth"] (spLoad K C) := D.ok fun f fd F => by
  refine F.ok scLoad (fun vs H Q E h => ?_) (fun cdv A outer s H vs Q E hr h => ?_)
  · obtain ⟨a, ns, d, rfl, _⟩ := h
    rfl
  · obtain ⟨a, ns, d, rfl, ha, hc, hw, d0, d1, q⟩ := h
    refine ⟨_, pss_one (ps_ret (pe_def G3 hr pass0 (pa_cons (pe_op op_add (pe_op op_mul pe_int (pe_def G1 hr pass0 (pa_cons (pv 0) pa_nil))) pe_int) (pa_cons (pe_op op_add (pe_def G2 hr pass0 (pa_cons (pv 0) pa_nil)) (pv 1)) pa_nil)))), ?_⟩
    have hwd : Wired [] ns := by
      obtain ⟨_, _, _, _, _, _, _, w, _⟩ := ha
      exact w
    have p1 := weight_pos hwd
    obtain ⟨l0, l1⟩ := loops_le hwd
    refine ⟨_, rfl, a, ns, rfl, ha, hc, fun H1 s1 => ⟨_, _, rfl, rfl, .inl ⟨by decide, by decide⟩, _, _, rfl, rfl, _, rfl, a, ns, rfl, ha.same s1, fun H2 s2 => ⟨_, rfl, _, _, rfl, rfl, _, _, rfl, by omega, by omega, by omega, by omega, q H2 (s1.trans s2)⟩⟩⟩
/-! ### check_limits -/
def spLimits (K : PySem.W.Frag) (C CL : Addr) : Sp := fun vs H Q E => ∃ a ns, vs = [.ref a] ∧ NetAt K H C a ns ∧ (limitN ns = none → ∀ H', Same H H' → Q .non H') ∧
  ∀ n, limitN ns = some n → ∀ (H' : Hp) (dd : Addr), Same H H' → H' dd = none → E (.ref CL) (some dd) (upd H' dd (.xd [("limit", .int n)]))
theorem ok_limits (R : PySem.ErrX.ErrTxt K mg "LimitExceeded" "limit" CL fL') {t1 t2 t3 : Tok} (g1 : mg "MOST_CELLS" = some (.int 100 t1)) (g2 : mg "MOST_WEIGHT" = some (.int 200 t2)) (g3 : mg "MOST_LOAD" = some (.int 10000 t3))
    (G1 : DefOk P w K mg base CX0 13 "cells" ["net"] (spCells K C)) (G2 : DefOk P w K mg base CX0 13 "weight" ["net"] (spWeight K C)) (G3 : DefOk P w K mg base CX0 14 "load" ["net", "depth"] (spLoad K C)) (D : Dfn K mg "check_limits" sLimits ["net"]) :
    DefOk P w K mg base (L2.CX P w) 15 "check_limits" ["net"] (spLimits K C CL) := D.ok fun f fd F => by
  refine F.okX scLimits (fun vs H Q E h => ?_) (fun cdv A outer s H vs Q E hr h => ?_)
  · obtain ⟨a, ns, rfl, _⟩ := h
    rfl
  · obtain ⟨a, ns, rfl, ha, q, qe⟩ := h
    refine ⟨_, pss_cons (ps_if (pt_cmpR op_gt (pe_def G1 hr pass0 (pa_cons (pv 0) pa_nil)) (pe_glob (v := .int 100) rfl g1 ⟨_, rfl⟩) (nomark _)) (pss_one (ps_raiseErr (W := fun cls d _ H => E cls d H) rfl R hr (takes_of rfl rfl rfl rfl) (by exact (pa_cons (pe_glob (v := .int 100) rfl g1 ⟨_, rfl⟩) pa_nil)))) pss_nil)
      (pss_cons (ps_if (pt_cmpR op_gt (pe_def G2 hr pass0 (pa_cons (pv 0) pa_nil)) (pe_glob (v := .int 200) rfl g2 ⟨_, rfl⟩) (nomark _)) (pss_one (ps_raiseErr (W := fun cls d _ H => E cls d H) rfl R hr (takes_of rfl rfl rfl rfl) (by exact (pa_cons (pe_glob (v := .int 200) rfl g2 ⟨_, rfl⟩) pa_nil)))) pss_nil)
      (pss_one (ps_if (pt_cmpR op_gt (pe_def G3 hr pass0 (pa_cons (pv 0) (pa_cons pe_int pa_nil))) (pe_glob (v := .int 10000) rfl g3 ⟨_, rfl⟩) (nomark _)) (pss_one (ps_raiseErr (W := fun cls d _ H => E cls d H) rfl R hr (takes_of rfl rfl rfl rfl) (by exact (pa_cons (pe_glob (v := .int 10000) rfl g3 ⟨_, rfl⟩) pa_nil)))) pss_nil))), ?_⟩
    refine ⟨_, rfl, a, ns, rfl, ha, fun H1 s1 => ⟨_, _, rfl, rfl, _, rfl, ite2 (fun e1 => ?_) (fun e1 => ?_)⟩⟩
    · have e : limitN ns = some 100 := by
        unfold limitN
        rw [if_pos (of_decide_eq_true e1)]
      exact ⟨_, rfl, fun dd nd => qe _ e H1 dd s1 nd⟩
    · have c1 : ¬ cellsN ns > 100 := fun z => e1 (decide_eq_true z)
      refine ⟨_, rfl, a, ns, rfl, ha.same s1, by omega, fun H2 s2 => ⟨_, _, rfl, rfl, _, rfl, ite2 (fun e2 => ?_) (fun e2 => ?_)⟩⟩
      · have e : limitN ns = some 200 := by
          unfold limitN
          rw [if_neg c1, if_pos (of_decide_eq_true e2)]
        exact ⟨_, rfl, fun dd nd => qe _ e H2 dd (s1.trans s2) nd⟩
      · have c2 : ¬ weightN ns > 200 := fun z => e2 (decide_eq_true z)
        refine ⟨_, rfl, a, ns, 1, rfl, (ha.same s1).same s2, by omega, by omega, by decide, by decide, fun H3 s3 => ⟨_, _, rfl, rfl, _, rfl, ite2 (fun e3 => ?_) (fun e3 => ?_)⟩⟩
        · have e : limitN ns = some 10000 := by
            unfold limitN
            rw [if_neg c1, if_neg c2, if_pos (of_decide_eq_true e3)]
          exact ⟨_, rfl, fun dd nd => qe _ e H3 dd (s1.trans (s2.trans s3)) nd⟩
        · have c3 : ¬ loadN ns 1 > 10000 := fun z => e3 (decide_eq_true z)
          have e : limitN ns = none := by
            unfold limitN
            rw [if_neg c1, if_neg c2, if_neg c3]
          exact q e _ (s1.trans (s2.trans s3))
end
end Pw
set_option maxHeartbeats 2000000
/-! Net.__init__ -/
namespace Pw
open PySem PySem.Spec PyProof.Rows L2 Dc
theorem scNetInit : FnScope ["self", "nodes", "place", "node"] ["self", "nodes"] (defScope sNetInit) := ⟨rfl, rfl, rfl, by decide +kernel, rfl, by decide +kernel, by decide +kernel⟩
def placesN : Nat → List Nd → List (Str × Int)
  | _, [] => []
  | k, n :: r => (n.name, (k : Int)) :: placesN (k + 1) r
theorem placesN_snoc : ∀ (k : Nat) (ns : List Nd) (n : Nd), placesN k (ns ++ [n]) = placesN k ns ++ [(n.name, ((k + ns.length : Nat) : Int))]
  | k, [], n => rfl
  | k, m :: r, n => by
    show (m.name, (k : Int)) :: placesN (k + 1) (r ++ [n]) = _
    rw [placesN_snoc (k + 1) r n]
    show _ = (m.name, (k : Int)) :: (placesN (k + 1) r ++ _)
    rw [List.length_cons, show k + 1 + r.length = k + (r.length + 1) from by omega]
theorem placesN_keys : ∀ (k : Nat) (ns : List Nd), (placesN k ns).map (·.1) = ns.map (·.name)
  | _, [] => rfl
  | k, n :: r => by
    show n.name :: (placesN (k + 1) r).map (·.1) = _
    rw [placesN_keys (k + 1) r]
    rfl
theorem placesN_len (k : Nat) (ns : List Nd) : (placesN k ns).length = ns.length := by
  have := congrArg List.length (placesN_keys k ns)
  simpa using this
abbrev netFs (v : V) (pd : Addr) : List (Str × V) := [("_nodes", v), ("_places", .ref pd), ("plan", .non)]
/-- a net made anew at x -/
structure NetNew (K : PySem.W.Frag) (H H' : Hp) (C x : Addr) (ns : List Nd) : Prop where
  at_ : ∃ (dx : Addr) (v : V) (pd : Addr), H' x = some (.ins C dx (netFs v pd)) ∧ H' pd = some (kiO (placesN 0 ns)) ∧ H pd = none ∧ Dv K (newOf H H') v (.list (ns.map Nd.dat))
  wired : Wired [] ns
  some_ : 1 ≤ ns.length
  few : ns.length ≤ 30
theorem NetNew.net {K : PySem.W.Frag} {H H' : Hp} {C x : Addr} {ns : List Nd} (h : NetNew K H H' C x ns) : NetAt K H' C x ns := by
  obtain ⟨dx, v, pd, h1, h2, h3, h4⟩ := h.at_
  exact ⟨dx, _, v, h1, rfl, rfl, h4.same newOf_same, h.wired, h.some_, h.few⟩
/-! data is no instance -/
mutual
theorem Dv.data {K : PySem.W.Frag} {H H' : Hp} (e : ∀ b o, H b = some o → (∀ C dx fs, o ≠ .ins C dx fs) → H' b = some o) : ∀ {d : PyData} {v : V}, Dv K H v d → Dv K H' v d
  | .none, _, h => by cases h; exact .non
  | .bool _, _, h => by cases h; exact .bl _
  | .int _, _, h => by cases h; exact .int _
  | .str _, _, h => by cases h; exact .str _
  | .list ds, _, h => by
    cases h with
    | lst h1 hz h2 => exact .lst (e _ _ h1 (fun _ _ _ z => by cases z)) hz (DvAll.data e h2)
  | .tuple ds, _, h => by
    cases h with
    | tup h1 hz h2 => exact .tup (e _ _ h1 (fun _ _ _ z => by cases z)) hz (DvAll.data e h2)
  | .dict _, _, h => by
    cases h with
    | dct h1 => exact .dct (e _ _ h1 (fun _ _ _ z => by cases z))
theorem DvAll.data {K : PySem.W.Frag} {H H' : Hp} (e : ∀ b o, H b = some o → (∀ C dx fs, o ≠ .ins C dx fs) → H' b = some o) : ∀ {ds : List PyData} {vs : List V}, DvAll K H vs ds → DvAll K H' vs ds
  | [], _, h => by cases h; exact .nil
  | _ :: _, _, h => by
    cases h with
    | cons h1 h2 => exact .cons (Dv.data e h1) (DvAll.data e h2)
end
section
variable {P : Program} {w : World} {K : PySem.W.Frag} {mg : Str → Option Value} {base : Heap} {C CN CL : Addr}
def spInit (K : PySem.W.Frag) (C CN CL : Addr) : Sp := fun vs H Q E => ∃ (x dx : Addr) (v : V) (d : PyData), vs = [.ref x, v] ∧ H x = some (.ins C dx []) ∧ Dv K H v d ∧ smB d = true ∧
  (∀ n, checkNodes d = some n → ∀ (H' : Hp) (dd : Addr), Same (hid x H) H' → H' dd = none → E (.ref CN) (some dd) (upd H' dd (.xd [("at", .int n)]))) ∧
  (∀ ns, checkNodes d = none → d = .list (ns.map Nd.dat) → ∀ n, limitN ns = some n → ∀ (H' : Hp) (dd : Addr), Same (hid x H) H' → H' dd = none → E (.ref CL) (some dd) (upd H' dd (.xd [("limit", .int n)]))) ∧
  (∀ ns, checkNodes d = none → d = .list (ns.map Nd.dat) → limitN ns = none → ∀ (H' : Hp), Same (hid x H) H' → NetNew K H H' C x ns → Q .non H')
theorem fn_init (bE : mg "enumerate" = none) (c : Cls K C) (n1 : NoAttr K C "_nodes") (n2 : NoAttr K C "_places") (n3 : NoAttr K C "plan")
    (G1 : DefOk P w K mg base (L2.CX P w) 9 "check_nodes" ["nodes"] (spCheck K CN)) (G2 : DefOk P w K mg base CX0 10 "copied" ["value"] (spCopied K 10)) (G3 : DefOk P w K mg base (L2.CX P w) 15 "check_limits" ["net"] (spLimits K C CL))
    (f : Addr) (fd : FuncData) (F : Fun K "__init__" "Net.__init__" sNetInit f fd) : FnOk P w K mg base (L2.CX P w) 16 f fd ["self", "nodes"] (spInit K C CN CL) := by
  refine F.okX scNetInit (fun vs H Q E h => ?_) (fun cdv A outer s H vs Q E hr h => ?_)
  · obtain ⟨x, dx, v, d, rfl, _⟩ := h
    rfl
  · obtain ⟨x, dx, v, d, rfl, hx, hv, hs, q1, q2, q3⟩ := h
    have nd := scNetInit.nd
    have hu := Nat.lt_of_le_of_lt (Nat.add_le_add_left (by decide : 1 ≤ 64) _) hr.units
    refine ⟨_, pss_cons (ps_expr (pe_def G1 hr (passes_call (W := fun cls d _ H => E cls d H) (takes_of rfl rfl rfl rfl) (fun _ _ _ _ h => h)) (pa_cons (pv 1) pa_nil)))
      (pss_cons (ps_fld (pv 0) (pe_def G2 hr pass0 (pa_cons (pv 1) pa_nil)) (by rfl))
      (pss_cons (ps_fld (pv 0) (pe_dc (own := [("place", 2), ("node", 3)]) (g := gTup K 2 (gCons (gName 2) (gCons (gName 3) gNil))) (tt := tYes) rfl nd (pi_enum (by rfl) bE (pa_cons (pv 1) pa_nil)) (blkOk_by (N := ["self", "nodes", "place", "node"]) (sc := defScope sNetInit) (by decide +kernel))
          (fun _ _ _ _ _ => pg_tup rfl (pgs_cons (pg_name (i := 2) nd rfl (Or.inl rfl)) (pgs_cons (pg_name (i := 3) nd rfl (Or.inl rfl)) pgs_nil))) (fun _ _ _ _ _ => pts_nil)
          (fun _ _ _ _ _ => pe_ix (ixT (K := K) rfl) (pv 3) pe_int (fun _ _ => rfl)) (fun _ _ _ _ _ => pv 2)) (by rfl))
      (pss_cons (ps_fld (pv 0) pe_non (by rfl))
      (pss_one (ps_expr (pe_def G3 hr (passes_call (W := fun cls d _ H => E cls d H) (takes_of rfl rfl rfl rfl) (fun _ _ _ _ h => h)) (pa_cons (pv 0) pa_nil))))))), ?_⟩
    refine ⟨v, rfl, v, d, rfl, hv, hs, fun ck H1 s1 => ?_, fun n ck H1 dd s1 n1 => q1 n ck H1 dd (hid_same.trans s1) n1⟩
    obtain ⟨ns, rfl, l1, l30, wd⟩ := nodes_of ck
    refine ⟨v, rfl, v, _, rfl, hv.same s1, dp_nodes wd, fun y H2 s2 hy => ?_⟩
    have hx2 := s2 _ _ (s1 _ _ hx)
    refine ⟨_, rfl, x, C, dx, [], rfl, hx2, c, n1, by decide, ?_⟩
    have s12 := s1.trans s2
    cases hv with
    | @lst l xs ds hl hz hds =>
      have lx : l ≠ x := fun e => by
        rw [e, hx] at hl
        cases hl
      have hlen : xs.length = ns.length := by rw [hds.length, List.length_map]
      -- the instance has its nodes
      have keep3 : ∀ {b : Addr} {o : HO}, H2 b = some o → b ≠ x → upd H2 x (.ins C dx (putF "_nodes" y [])) b = some o := fun {b o} e n => by
        rw [upd_ne n]
        exact e
      have hl3 := keep3 (s12 _ _ hl) lx
      have hx3 : upd H2 x (.ins C dx (putF "_nodes" y [])) x = some (.ins C dx [("_nodes", y)]) := upd_same
      have sx3 : Same (hid x H2) (upd H2 x (.ins C dx (putF "_nodes" y []))) := fun b o e => keep3 (hid_of e).2 (hid_of e).1
      generalize upd H2 x (.ins C dx (putF "_nodes" y [])) = H3 at hl3 hx3 sx3 keep3
      refine ⟨_, rfl, l, xs, rfl, SqL.of hl3, fun D nD => ?_⟩
      have xD : x ≠ D := fun e => by
        rw [← e, hx3] at nD
        cases nD
      have hdsn : DvAll K H3 xs (ns.map Nd.dat) := DvAll.data (fun b o e nd => keep3 (s12 _ _ e) fun z => by
        rw [z, hx] at e
        cases e
        exact nd C dx [] rfl) hds
      refine tWalk_by (walk_enum (xs := xs)) (fun i H' => Same H3 H' ∧ H' D = some (kiO (placesN 0 (ns.take i)))) ⟨same_upd nD, upd_same⟩ (fun i H' _ p => SqL.of (p.1 _ _ hl3)) (fun i u H' H'' hi p y' => ?_) (fun H' p => ?_)
      · obtain ⟨sm, hD⟩ := p
        obtain ⟨T, i1, w1, rfl, nT, rfl, f1, f2⟩ := y'
        cases f1
        have f2 : xs[i]? = some w1 := f2
        have sT := same_upd (o := .tup [V.int (i : Nat), w1]) nT
        obtain ⟨n, b, l2, y3, en, rfl, hb, hl2, _⟩ := node_at (hdsn.same (sm.trans sT)) f2
        have hD2 := sT _ _ hD
        have lt : i < ns.length := (List.getElem?_eq_some_iff.mp en).1
        refine ⟨T, _, rfl, SqT.of upd_same, rfl, _, _, rfl, _, _, rfl, rfl, rfl, ?_⟩
        refine ⟨.ref b, rfl, b, _, _, _, rfl, rfl, SqT.of hb, atI_nat (j := 0) rfl, _, rfl, _, .inr n.name, rfl, hD2, ?_, fun c o e => ?_, ?_⟩
        · rw [List.length_map, placesN_len, List.length_take]
          exact Nat.lt_of_le_of_lt (by omega : min i ns.length ≤ 1000) (by decide)
        · rw [upd_ne (ne_of_none e nD)]
          exact sT _ _ (sm _ _ e)
        · rw [put_new (by rw [placesN_keys]; exact (wired_at wd en).1), upd_same, take_at en, placesN_snoc, List.length_take, show 0 + min i ns.length = i from by omega]
      · obtain ⟨sm, hD⟩ := p
        rw [hlen, List.take_length] at hD
        have hx4 := sm _ _ hx3
        refine ⟨_, rfl, x, C, dx, _, rfl, hx4, c, n2, by show 1 < 1000; decide, ?_⟩
        refine ⟨_, rfl, x, C, dx, _, rfl, upd_same, c, n3, by show 2 < 1000; decide, ?_⟩
        have hx5 : upd (upd H' x (.ins C dx (putF "_places" (.ref D) [("_nodes", y)]))) x (.ins C dx (putF "plan" .non (putF "_places" (.ref D) [("_nodes", y)]))) x = some (.ins C dx (netFs y D)) := by
          rw [upd_same]
          rfl
        have keep5 : ∀ {b : Addr} {o : HO}, H' b = some o → b ≠ x → upd (upd H' x (.ins C dx (putF "_places" (.ref D) [("_nodes", y)]))) x (.ins C dx (putF "plan" .non (putF "_places" (.ref D) [("_nodes", y)]))) b = some o := fun {b o} e n => by
          rw [upd_ne n, upd_ne n]
          exact e
        generalize upd (upd H' x (.ins C dx (putF "_places" (.ref D) [("_nodes", y)]))) x (.ins C dx (putF "plan" .non (putF "_places" (.ref D) [("_nodes", y)]))) = H5 at hx5 keep5
        have s5 : Same (hid x H) H5 := fun b o e => keep5 (sm _ _ (keep3 (s12 _ _ (hid_of e).2) (hid_of e).1)) (hid_of e).1
        have hD5 := keep5 hD (fun e => xD e.symm)
        have nD0 : H D = none := by
          cases e : H D with
          | none => rfl
          | some o =>
            rw [keep3 (s12 _ _ e) (fun e => xD e.symm)] at nD
            cases nD
        have hy5 : Dv K (newOf H H5) y (.list (ns.map Nd.dat)) := hy.same fun b o e => by
          have e2 := newOf_same b o e
          have nb : H1 b = none := by
            unfold newOf at e
            cases z : H1 b with
            | none => rfl
            | some u =>
              rw [z] at e
              cases e
          have nb0 : H b = none := by
            cases z : H b with
            | none => rfl
            | some u =>
              rw [s1 _ _ z] at nb
              cases nb
          have bx : b ≠ x := fun q => by
            rw [q, hx] at nb0
            cases nb0
          exact newOf_at nb0 (keep5 (sm _ _ (keep3 e2 bx)) bx)
        have net5 : NetNew K H H5 C x ns := ⟨⟨dx, y, D, hx5, hD5, nD0, hy5⟩, wd, l1, l30⟩
        refine ⟨_, rfl, x, ns, rfl, net5.net, fun e H6 s6 => ?_, fun n e H6 dd s6 nd6 => q2 ns ck rfl n e H6 dd (s5.trans s6) nd6⟩
        refine q3 ns ck rfl e H6 (s5.trans s6) ⟨⟨dx, y, D, s6 _ _ hx5, s6 _ _ hD5, nD0, hy5.same (newOf_mono (Same.refl _) s6)⟩, wd, l1, l30⟩
end
end Pw
set_option maxHeartbeats 2000000
/-! an object made in a try's body; _law_limit -/
namespace Mk2
open PySem PySem.Spec PyProof.Rows L2
section
variable {X : Cx} {CX : CXT} {k : Nat} {f C : Addr} {fd : FuncData} {ps : List Str} {sp : Sp}
/-- C(..) whose __init__ may raise what is wished for at the slots σ -/
theorem made_at {pins : List (Addr × Obj)} {σ : L2.St} {H : Hp} {s : Shared} {Q : VK} {us : List Value} {vs : List V} {E : XK} (M : Mk X.K C f) (F : FnOk X.prog X.w X.K X.mg X.base CX k f fd ps sp) (room : Room (k + 1) X.A) (bind : Binds X.K fd ps [])
    (out : PassesAt CX X σ E) (I : Inv X pins σ H s) (args : Vals vs us)
    (ask : ∀ x dx, H x = none → H dx = none → dx ≠ x → sp (.ref x :: vs) (upd (upd H dx (.own x)) x (.ins C dx [])) (fun v H2 => v = .non ∧ Q (.ref x) H2) E) :
    wpAny (model X.prog X.w) X.A (call (.ref C) us) (EP X pins σ Q) X.xe s := by
  obtain ⟨n, hn⟩ : ∃ n, s.heap.objs.size = n := ⟨_, rfl⟩
  have q := ask (s.heap.objs.size + 1) s.heap.objs.size (I.hok.fresh (Nat.le_succ _)) (I.hok.fresh (Nat.le_refl _)) (Nat.ne_of_lt (Nat.lt_succ_self _))
  have J := Inv.made (C := C) I
  have all : Vals (V.ref (s.heap.objs.size + 1) :: vs) (Value.ref (s.heap.objs.size + 1) :: us) := .cons rfl args
  have len : (Value.ref (s.heap.objs.size + 1) :: us).length = ps.length := by rw [← all.length]; exact F.len _ _ _ _ q
  have bound := bind _ (Value.ref (s.heap.objs.size + 1) :: us) J.kIn (by rw [List.append_nil]; exact len)
  rw [List.append_nil] at bound
  refine wpAny_call (make_map (f := f) I.kIn M.makes M.init (beq_iff_eq.mp M.fn) ?_)
  refine codeAny_mono (F.run _ X.stack _ _ ⟨Value.ref (s.heap.objs.size + 1) :: us, []⟩ (Value.ref (s.heap.objs.size + 1) :: us) _ _ E (room.make C us []) (J.env0.make C us []) bound all q) fun r s' got => ?_
  match r, got with
  | .error e, got => exact out pins _ _ e s' J got
  | .ok (.ret u), got =>
    obtain ⟨v, H', J', rv, ev, q'⟩ := J.after got
    cases ev
    exact ⟨rv, V.ref (s.heap.objs.size + 1), H', J', rfl, q'⟩
  | .ok .next, got => exact (show False from got).elim
  | .ok .brk, got => exact (show False from got).elim
  | .ok .cont, got => exact (show False from got).elim
def tMakeAt (C : Addr) (sp : Sp) (E : L2.St → XK) (t : TA) : TE := fun σ H Q => t σ H fun vs H1 => ∀ x dx, H1 x = none → H1 dx = none → dx ≠ x →
  sp (.ref x :: vs) (upd (upd H1 dx (.own x)) x (.ins C dx [])) (fun v H2 => v = .non ∧ Q (.ref x) H2) (E σ)
theorem pe_makeAt {x : Str} {p pos : Pos} {e : Expr} {es : List Expr} {t : TA} {E : L2.St → XK} (M : Mk X.K C f) (F : FnOk X.prog X.w X.K X.mg X.base CX k f fd ps sp) (room : Room (k + 1) X.A) (hm : X.mg x = some (.ref C)) (bind : Binds X.K fd ps [])
    (out : ∀ σ, PassesAt CX X σ (E σ)) (ha : PA X (e :: es) t) (hg : Gl X x := by rfl) (hdb : (x == ("__debug__" : Str)) = false := by decide)
    (star : starEach (e :: es) X.env = (false, eval e X.env) :: starEach es X.env := by rfl) (plain : (backTo pos (starEach es X.env)).any (·.1) = false := by rfl) :
    PE X (.Call (.Name x p) (e :: es) [] pos) (tMakeAt C sp E t) := by
  refine ⟨fun pins s σ H Q I h => ?_⟩
  refine wpAny_Call_Name_kw (ld_glob I hg hm ?_ hdb)
  have run := ha.run pos pins s σ H _ I h
  refine PySem.W.callWith_K (h₀ := X.base) I.ok.mod.kin M.kp (thn run fun us s1 got => ?_) star plain
  obtain ⟨vs, H1, I1, r, q⟩ := got
  exact ⟨I1.kIn, made_at M F room bind (out σ) I1 r q⟩
end
end Mk2
set_option maxHeartbeats 2000000
/-! displays read as data, apart from one object -/
namespace Ev
open PySem PySem.Spec PyProof.Rows L2 Pw
theorem low1000 {n : Nat} (h : n ≤ 1000) : n < sizeLine := Nat.lt_of_le_of_lt h (by decide)
/-- the part of the heap that is seen -/
def vis (U : Addr → Bool) (H : Hp) : Hp := fun b => if U b = true then H b else none
theorem vis_at {U : Addr → Bool} {H : Hp} {b : Addr} {o : HO} (u : U b = true) (h : H b = some o) : vis U H b = some o := by
  unfold vis
  rw [if_pos u]
  exact h
theorem vis_of {U : Addr → Bool} {H : Hp} {b : Addr} {o : HO} (h : vis U H b = some o) : U b = true ∧ H b = some o := by
  unfold vis at h
  by_cases u : U b = true
  · rw [if_pos u] at h
    exact ⟨u, h⟩
  · rw [if_neg u] at h
    cases h
theorem vis_same {U : Addr → Bool} {H : Hp} : Same (vis U H) H := fun b o h => (vis_of h).2
theorem vis_mono {U : Addr → Bool} {H H' : Hp} (s : Same (vis U H) H') : Same (vis U H) (vis U H') := fun b o h => vis_at (vis_of h).1 (s b o h)
theorem vis_grow {U : Addr → Bool} {H H' : Hp} (s : Same H H') : Same (vis U H) (vis U H') := vis_mono (vis_same.trans s)
/-- all that is new is seen -/
def Fresh (U : Addr → Bool) (H : Hp) : Prop := ∀ b, H b = none → U b = true
theorem Fresh.grow {U : Addr → Bool} {H H' : Hp} (f : Fresh U H) (s : Same H H') : Fresh U H' := fun b e => f b (by
  cases h : H b with
  | none => rfl
  | some o =>
    rw [s b o h] at e
    cases e)
/-- seen: what is not in H; what is not at a -/
def nu (H : Hp) : Addr → Bool := fun b => (H b).isNone
def but (a : Addr) : Addr → Bool := fun b => !decide (b = a)
theorem fresh_nu (H : Hp) : Fresh (nu H) H := fun b e => by
  unfold nu
  rw [e]
  rfl
theorem fresh_but {a : Addr} {H : Hp} {o : HO} (h : H a = some o) : Fresh (but a) H := fun b e => by
  unfold but
  rw [decide_eq_false (ne_of_none h e).symm]
  rfl
theorem vis_nu (H H' : Hp) : vis (nu H) H' = newOf H H' := by
  funext b
  unfold vis nu newOf
  cases H b <;> rfl
theorem vis_but (a : Addr) (H : Hp) : vis (but a) H = hid a H := by
  funext b
  unfold vis but hid
  by_cases e : b = a
  · rw [if_pos e, decide_eq_true e]
    rfl
  · rw [if_neg e, decide_eq_false e]
    rfl
variable {K : PySem.W.Frag} {U : Addr → Bool} {H0 : Hp} {σ : L2.St}
def E (K : PySem.W.Frag) (U : Addr → Bool) (H0 : Hp) (σ : L2.St) (te : TE) (d : PyData) : Prop :=
  ∀ (H : Hp) (Q : VK), Fresh U H → Same (vis U H0) H → (∀ v H', Same H H' → Dv K (vis U H') v d → Q v H') → te σ H Q
def A (K : PySem.W.Frag) (U : Addr → Bool) (H0 : Hp) (σ : L2.St) (ta : TA) (ds : List PyData) : Prop :=
  ∀ (H : Hp) (Q : List V → Hp → Prop), Fresh U H → Same (vis U H0) H → (∀ vs H', Same H H' → DvAll K (vis U H') vs ds → Q vs H') → ta σ H Q
theorem non : E K U H0 σ (tC .non) .none := fun H Q _ _ q => q _ _ (Same.refl _) .non
theorem bl {b : Bool} : E K U H0 σ (tC (.bl b)) (.bool b) := fun H Q _ _ q => q _ _ (Same.refl _) (.bl _)
theorem int {i : Int} : E K U H0 σ (tC (.int i)) (.int i) := fun H Q _ _ q => q _ _ (Same.refl _) (.int _)
theorem str {x : Str} : E K U H0 σ (tC (.str x)) (.str x) := fun H Q _ _ q => q _ _ (Same.refl _) (.str _)
theorem neg {i : Int} : E K U H0 σ (tUn (rU fun i => .int (-i)) (tC (.int i))) (.int (-i)) := fun H Q _ _ q => ⟨i, rfl, q _ _ (Same.refl _) (.int _)⟩
theorem far : E K U H0 σ (tOp (rI CPow fun i j => V.int (i ^ j.toNat)) (tC (.int 10)) (tC (.int 30))) (.int (10 ^ 30)) := fun H Q _ _ q => ⟨_, _, rfl, rfl, ⟨by decide, by decide, by decide⟩, q _ _ (Same.refl _) (.int _)⟩
theorem var {i : Nat} {v : V} {d : PyData} (hs : σ[i]? = some (some v)) (hd : Dv K (vis U H0) v d) : E K U H0 σ (tVar i) d := fun H Q _ sm q => ⟨v, hs, q v H (Same.refl _) (hd.same (vis_mono sm))⟩
theorem add {te tf : TE} {i j : Int} (h1 : E K U H0 σ te (.int i)) (h2 : E K U H0 σ tf (.int j)) : E K U H0 σ (tOp (rI0 fun i j => V.int (i + j)) te tf) (.int (i + j)) := fun H Q f sm q => by
  refine h1 H _ f sm fun v H1 s1 d1 => ?_
  refine h2 H1 _ (f.grow s1) (sm.trans s1) fun u H2 s2 d2 => ?_
  cases d1
  cases d2
  exact ⟨_, _, rfl, rfl, q _ _ (s1.trans s2) (.int _)⟩
theorem nil : A K U H0 σ tNil [] := fun H Q _ _ q => q _ _ (Same.refl _) .nil
theorem cons {te : TE} {ta : TA} {d : PyData} {ds : List PyData} (h1 : E K U H0 σ te d) (h2 : A K U H0 σ ta ds) : A K U H0 σ (tCons te ta) (d :: ds) := fun H Q f sm q => by
  refine h1 H _ f sm fun v H1 s1 d1 => ?_
  exact h2 H1 _ (f.grow s1) (sm.trans s1) fun vs H2 s2 d2 => q _ H2 (s1.trans s2) (.cons (d1.same (vis_grow s2)) d2)
theorem tup {ta : TA} {ds : List PyData} (h : A K U H0 σ ta ds) (hz : ds.length ≤ 1000 := by exact Nat.le_of_ble_eq_true rfl) : E K U H0 σ (tTup ta) (.tuple ds) := fun H Q f sm q => by
  refine h H _ f sm fun vs H1 s1 d1 => ?_
  have hl := d1.length
  refine ⟨by rw [hl]; exact Nat.le_of_lt (low1000 hz), fun t nt => q _ _ (s1.trans (same_upd nt)) ?_⟩
  exact .tup (vis_at (f.grow s1 t nt) upd_same) (by rw [hl]; exact hz) (d1.same (vis_grow (same_upd nt)))
theorem lst {ta : TA} {ds : List PyData} (h : A K U H0 σ ta ds) (hz : ds.length ≤ 1000 := by exact Nat.le_of_ble_eq_true rfl) : E K U H0 σ (tLst ta) (.list ds) := fun H Q f sm q => by
  refine h H _ f sm fun vs H1 s1 d1 => ?_
  have hl := d1.length
  refine ⟨by rw [hl]; exact Nat.le_of_lt (low1000 hz), fun t nt => q _ _ (s1.trans (same_upd nt)) ?_⟩
  exact .lst (vis_at (f.grow s1 t nt) upd_same) (by rw [hl]; exact hz) (d1.same (vis_grow (same_upd nt)))
/-- x + y of two lists -/
theorem cat {te tf : TE} {ds es : List PyData} (h1 : E K U H0 σ te (.list ds)) (h2 : E K U H0 σ tf (.list es)) (hz : ds.length + es.length ≤ 1000 := by exact Nat.le_of_ble_eq_true rfl) : E K U H0 σ (tOp rCat te tf) (.list (ds ++ es)) := fun H Q f sm q => by
  refine h1 H _ f sm fun v H1 s1 d1 => ?_
  refine h2 H1 _ (f.grow s1) (sm.trans s1) fun u H2 s2 d2 => ?_
  have d1 := d1.same (vis_grow s2)
  cases d1 with
  | @lst l vs _ hl hlz hvs =>
    cases d2 with
    | @lst m us _ hm hmz hus =>
      have e1 := hvs.length
      have e2 := hus.length
      refine ⟨l, m, vs, us, rfl, rfl, (vis_of hl).2, (vis_of hm).2, ?_, fun p np => ?_⟩
      · rw [e1, e2]
        exact Nat.le_of_lt (low1000 hz)
      · refine q _ _ ((s1.trans s2).trans (same_upd np)) (.lst (vis_at (f.grow (s1.trans s2) p np) upd_same) ?_ ?_)
        · rw [List.length_append, e1, e2]
          exact hz
        · exact (hvs.same (vis_grow (same_upd np))).append (hus.same (vis_grow (same_upd np)))
theorem rep_all {H : Hp} {v : V} {d : PyData} (h : Dv K H v d) : ∀ n : Nat, DvAll K H (List.replicate n v) (List.replicate n d)
  | 0 => .nil
  | n + 1 => .cons h (rep_all h n)
theorem rep_flat {α : Type} (x : α) : ∀ k : Nat, (List.replicate k [x]).flatten = List.replicate k x
  | 0 => rfl
  | k + 1 => by
    rw [List.replicate_succ, List.flatten_cons, rep_flat x k]
    rfl
/-- [x] * k -/
theorem rep {te tk : TE} {d : PyData} {k : Nat} (h1 : E K U H0 σ te (.list [d])) (h2 : E K U H0 σ tk (.int k)) (hz : k ≤ 1000) : E K U H0 σ (tOp rRep te tk) (.list (List.replicate k d)) := fun H Q f sm q => by
  refine h1 H _ f sm fun v H1 s1 d1 => ?_
  refine h2 H1 _ (f.grow s1) (sm.trans s1) fun u H2 s2 d2 => ?_
  have d1 := d1.same (vis_grow s2)
  cases d2
  cases d1 with
  | @lst l vs _ hl hlz hvs =>
    match vs, hvs with
    | [x], .cons hx1 .nil =>
      refine ⟨l, k, [x], rfl, rfl, (vis_of hl).2, by omega, by omega, ?_, fun p np => ?_⟩
      · show 1 * (k : Int).toNat ≤ sizeLine
        rw [Nat.one_mul]
        exact Nat.le_of_lt (low1000 (by omega))
      · have e : (List.replicate (k : Int).toNat [x]).flatten = List.replicate k x := by
          rw [Int.toNat_natCast]
          exact rep_flat x k
        rw [e] at *
        refine q _ _ ((s1.trans s2).trans (same_upd np)) (.lst (vis_at (f.grow (s1.trans s2) p np) upd_same) ?_ ?_)
        · rw [List.length_replicate]
          exact hz
        · exact rep_all (hx1.same (vis_grow (same_upd np))) k
/-- xs[i], xs[:i] -/
theorem ixl {te ti : TE} {i : Nat} {ds : List PyData} {d : PyData} (h1 : E K U H0 σ te (.list ds)) (h2 : E K U H0 σ ti (.int i)) (e : ds[i]? = some d) : E K U H0 σ (tOp (rIxL K) te ti) d := fun H Q f sm q => by
  refine h1 H _ f sm fun v H1 s1 d1 => ?_
  refine h2 H1 _ (f.grow s1) (sm.trans s1) fun u H2 s2 d2 => ?_
  have d1 := d1.same (vis_grow s2)
  cases d2
  cases d1 with
  | @lst l vs _ hl hlz hvs =>
    obtain ⟨y, ey, dy⟩ := hvs.get e
    exact ⟨l, vs, i, y, rfl, rfl, SqL.of (vis_of hl).2, atI_nat ey, q _ _ (s1.trans s2) dy⟩
theorem ixt {te ti : TE} {i : Nat} {ds : List PyData} {d : PyData} (h1 : E K U H0 σ te (.tuple ds)) (h2 : E K U H0 σ ti (.int i)) (e : ds[i]? = some d) : E K U H0 σ (tOp (rIxT K) te ti) d := fun H Q f sm q => by
  refine h1 H _ f sm fun v H1 s1 d1 => ?_
  refine h2 H1 _ (f.grow s1) (sm.trans s1) fun u H2 s2 d2 => ?_
  have d1 := d1.same (vis_grow s2)
  cases d2
  cases d1 with
  | @tup l vs _ hl hlz hvs =>
    obtain ⟨y, ey, dy⟩ := hvs.get e
    exact ⟨l, vs, i, y, rfl, rfl, SqT.of (vis_of hl).2, atI_nat ey, q _ _ (s1.trans s2) dy⟩
end Ev
namespace Pw
open PySem PySem.Spec PyProof.Rows L2
/-! ### list(text) -/
def lettersV (x : Str) : List V := x.cps.toList.map fun c => V.str ⟨#[c]⟩
theorem call_listText {X : Cx} (hc : X.calm = true) : CallR X (.type "list") (fun xs H Q => ∃ x, xs = [.str x] ∧ x.cps.size ≤ sizeLine ∧ ∀ l, H l = none → Q (.ref l) (upd H l (.lst (lettersV x)))) := by
  intro pins s σ H xs us Q I r h
  obtain ⟨x, rfl, hz, q⟩ := h
  obtain ⟨u, rfl, rx⟩ := vals1 r
  obtain ⟨t, rfl⟩ := rx
  refine PySem.call_list_str (I.ok.hd hc) x t (fun h' tk acc' c' keep e items => ?_) hz
  have v : Vals (lettersV x) acc'.toList := by
    obtain ⟨size, at_⟩ := items
    have all : ∀ (n : Nat), n ≤ x.cps.size → Vals ((x.cps.toList.take n).map fun c => V.str ⟨#[c]⟩) (acc'.toList.take n) := by
      intro n
      induction n with
      | zero => intro _; exact .nil
      | succ n ih =>
        intro hn
        have l1 : n < acc'.size := by omega
        have l2 : n < x.cps.size := by omega
        obtain ⟨c, u, e1, e2⟩ := at_ n acc'[n] (Array.getElem?_eq_getElem l1)
        rw [List.take_add_one, List.take_add_one]
        have f1 : x.cps.toList[n]? = some c := by rw [Array.getElem?_toList]; exact e1
        have f2 : acc'.toList[n]? = some acc'[n] := by rw [Array.getElem?_toList]; exact Array.getElem?_eq_getElem l1
        rw [f1, f2, List.map_append]
        refine (ih (by omega)).append (.cons ?_ .nil)
        rw [e2]
        exact ⟨u, rfl⟩
    have := all x.cps.size (Nat.le_refl _)
    rwa [List.take_of_length_le (by simp), List.take_of_length_le (by simp [size])] at this
  refine ⟨.ref s.heap.objs.size, _, I.laid (t' := tk) keep (Nat.le_refl _) (show ObjOk X.prog X.w _ h' _ (.lst (lettersV x)) from ⟨?_, acc'.toList, c', v, by rw [Array.toArray_toList]; exact e⟩), rfl, q _ (I.hok.fresh (Nat.le_refl _))⟩
  unfold lettersV
  rw [List.length_map, Array.length_toList]
  exact hz
end Pw
set_option maxHeartbeats 2000000
/-! displays that draw: what comes of them is told by a property of data -/
namespace Dr
open PySem PySem.Spec PyProof.Rows L2 Pw
abbrev Pd := PyData → Prop
inductive All2 : List Pd → List PyData → Prop
  | nil : All2 [] []
  | cons {S : Pd} {d : PyData} {Ss : List Pd} {ds : List PyData} : S d → All2 Ss ds → All2 (S :: Ss) (d :: ds)
theorem All2.length : ∀ {Ss : List Pd} {ds : List PyData}, All2 Ss ds → ds.length = Ss.length
  | _, _, .nil => rfl
  | _, _, .cons _ h => by rw [List.length_cons, List.length_cons, h.length]
theorem All2.append : ∀ {Ss Ts : List Pd} {ds es : List PyData}, All2 Ss ds → All2 Ts es → All2 (Ss ++ Ts) (ds ++ es)
  | _, _, _, _, .nil, q => q
  | _, _, _, _, .cons h1 h2, q => .cons h1 (h2.append q)
theorem All2.get : ∀ {Ss : List Pd} {ds : List PyData} {i : Nat} {d : PyData}, All2 Ss ds → ds[i]? = some d → ∃ S ∈ Ss, S d
  | _, _, i, d, .nil, e => by simp at e
  | _, _, 0, d, .cons (S := S) h1 h2, e => by
    simp at e
    subst e
    exact ⟨S, List.mem_cons_self, h1⟩
  | _, _, i + 1, d, .cons h1 h2, e => by
    obtain ⟨S, m, h⟩ := h2.get (i := i) (by simpa using e)
    exact ⟨S, List.mem_cons_of_mem _ m, h⟩
variable {K : PySem.W.Frag} {a : Addr} {U : Addr → Bool} {H0 : Hp} {σ : L2.St}
open Ev (vis vis_at vis_of vis_same vis_mono vis_grow Fresh nu fresh_nu vis_nu)
theorem vgo (ua : U a = false) {H H' : Hp} (s : Same (hid a H) H') : Same (vis U H) (vis U H') := vis_mono fun b o e => by
  obtain ⟨u, e⟩ := vis_of e
  refine s b o ?_
  rw [hid_ne (fun z => by rw [z, ua] at u; cases u)]
  exact e
theorem vgo' (ua : U a = false) {H H' : Hp} (s : Same (hid a H) H') : Same (vis U H) H' := (vgo ua s).trans vis_same
theorem fgo {H H' : Hp} {k : Int} (src : Src H' a k) (f : Fresh U H) (s : Same (hid a H) H') : Fresh U H' := fun b e => f b (by
  cases h : H b with
  | none => rfl
  | some o =>
    obtain ⟨A, B, C, ha, _⟩ := src
    by_cases z : b = a
    · rw [z, ha] at e
      cases e
    · have := s b o (by rw [hid_ne z]; exact h)
      rw [e] at this
      cases this)
theorem seen {H H' : Hp} (ua : U a = false) (sm : Same (vis U H0) H) (s : Same (hid a H) H') : Same (vis U H0) H' := (vis_mono sm).trans (vgo' ua s)
def E (K : PySem.W.Frag) (a : Addr) (U : Addr → Bool) (n : Nat) (H0 : Hp) (σ : L2.St) (te : TE) (S : Pd) : Prop :=
  ∀ (H : Hp) (Q : VK) (k : Int), U a = false → Fresh U H → Src H a k → k + n < 1000000 → Same (vis U H0) H → (∀ v H' d, S d → Src H' a (k + n) → Same (hid a H) H' → Dv K (vis U H') v d → Q v H') → te σ H Q
/-- the same, and the thing is new -/
def EN (K : PySem.W.Frag) (a : Addr) (U : Addr → Bool) (n : Nat) (H0 : Hp) (σ : L2.St) (te : TE) (Ss : List Pd) : Prop :=
  ∀ (H : Hp) (Q : VK) (k : Int), U a = false → Fresh U H → Src H a k → k + n < 1000000 → Same (vis U H0) H → (∀ p H' vs ds, H p = none → p ≠ a → H' p = some (.lst vs) → All2 Ss ds → Src H' a (k + n) → Same (hid a H) H' → DvAll K (hid p (vis U H')) vs ds → Q (.ref p) H') → te σ H Q
def A (K : PySem.W.Frag) (a : Addr) (U : Addr → Bool) (n : Nat) (H0 : Hp) (σ : L2.St) (ta : TA) (Ss : List Pd) : Prop :=
  ∀ (H : Hp) (Q : List V → Hp → Prop) (k : Int), U a = false → Fresh U H → Src H a k → k + n < 1000000 → Same (vis U H0) H → (∀ vs H' ds, All2 Ss ds → Src H' a (k + n) → Same (hid a H) H' → DvAll K (vis U H') vs ds → Q vs H') → ta σ H Q
/-- one thing just -/
abbrev Is (d : PyData) : Pd := fun e => e = d
/-- an integer from lo to hi - 1 -/
abbrev In (lo hi : Int) : Pd := fun d => ∃ i : Int, d = .int i ∧ lo ≤ i ∧ i < hi
theorem E.mono {n m : Nat} {te : TE} {S T : Pd} (h : E K a U n H0 σ te S) (hn : n ≤ m) (hS : ∀ d, S d → T d) : E K a U m H0 σ te T := fun H Q k ua fr src hk sm q => by
  refine h H Q k ua fr src (by omega) sm fun v H' d hd s' sm' dv => q v H' d (hS d hd) (s'.mono (by omega)) sm' dv
theorem hid_step {H1 H2 H3 : Hp} (s : Same (hid a H1) H2) (t : Same (hid a H2) H3) : Same (hid a H1) H3 := fun b o e => t b o (by
  rw [hid_ne (hid_of e).1]
  exact s b o e)
/-- what does not draw -/
theorem ofEv {te : TE} {d : PyData} (h : Ev.E K U H0 σ te d) : E K a U 0 H0 σ te (Is d) := fun H Q k ua fr src hk sm q => by
  exact h H Q fr sm fun v H' s' dv => q v H' d rfl ((src.same s').mono (by omega)) (hid_same.trans s') dv
theorem draw {i : Nat} {tm : TE} {m : Int} (hs : σ[i]? = some (some (.ref a))) (hm : Ev.E K U H0 σ tm (.int m)) (h0 : 0 < m := by decide) (h1 : m ≤ 10 ^ 31 := by decide) : E K a U 1 H0 σ (tCall spNext [] E0 (tCons (tVar i) (tCons tm tNil))) (In 0 m) := fun H Q k ua fr src hk sm q => by
  refine ⟨_, hs, hm H _ fr sm fun v H' s' dv => ?_⟩
  cases dv
  exact ⟨a, m, k, rfl, src.same s', by omega, h0, h1, fun r H2 r0 r1 src2 sm2 => q _ H2 _ ⟨r, rfl, r0, r1⟩ src2 (hid_step (hid_same.trans s') sm2) (.int r)⟩
theorem opI {n m : Nat} {f : Int → Int → Int} {te tf : TE} {S T W : Pd} (h1 : E K a U n H0 σ te S) (h2 : E K a U m H0 σ tf T) (hS : ∀ d, S d → ∃ i : Int, d = .int i) (hT : ∀ d, T d → ∃ i : Int, d = .int i) (hU : ∀ i j, S (.int i) → T (.int j) → W (.int (f i j))) :
    E K a U (n + m) H0 σ (tOp (rI0 fun i j => V.int (f i j)) te tf) W := fun H Q k ua fr src hk sm q => by
  refine h1 H _ k ua fr src (by omega) sm fun v H1 d sd src1 sm1 dv => ?_
  refine h2 H1 _ (k + n) ua (fgo src1 fr sm1) src1 (by omega) (seen ua sm sm1) fun u H2 e se src2 sm2 du => ?_
  obtain ⟨i, rfl⟩ := hS d sd
  obtain ⟨j, rfl⟩ := hT e se
  cases dv
  cases du
  exact ⟨i, j, rfl, rfl, q _ H2 _ (hU i j sd se) (src2.mono (by omega)) (hid_step sm1 sm2) (.int _)⟩
theorem in_int {lo hi : Int} (d : PyData) (h : In lo hi d) : ∃ i : Int, d = .int i := by
  obtain ⟨i, e, _⟩ := h
  exact ⟨i, e⟩
theorem is_int {i : Int} (d : PyData) (h : Is (.int i) d) : ∃ i : Int, d = .int i := ⟨i, h⟩
theorem nil : A K a U 0 H0 σ tNil [] := fun H Q k _ _ src _ _ q => q [] H [] .nil (src.mono (by omega)) hid_same .nil
theorem cons {n m : Nat} {te : TE} {ta : TA} {S : Pd} {Ss : List Pd} (h1 : E K a U n H0 σ te S) (h2 : A K a U m H0 σ ta Ss) : A K a U (n + m) H0 σ (tCons te ta) (S :: Ss) := fun H Q k ua fr src hk sm q => by
  refine h1 H _ k ua fr src (by omega) sm fun v H1 d sd src1 sm1 dv => ?_
  refine h2 H1 _ (k + n) ua (fgo src1 fr sm1) src1 (by omega) (seen ua sm sm1) fun vs H2 ds sds src2 sm2 dvs => ?_
  exact q (v :: vs) H2 (d :: ds) (.cons sd sds) (src2.mono (by omega)) (hid_step sm1 sm2) (.cons (dv.same (vgo ua sm2)) dvs)
abbrev Tup (Ss : List Pd) : Pd := fun d => ∃ ds, d = .tuple ds ∧ All2 Ss ds
abbrev Lst (Ss : List Pd) : Pd := fun d => ∃ ds, d = .list ds ∧ All2 Ss ds
theorem not_src {H : Hp} {k : Int} {t : Addr} (src : Src H a k) (nt : H t = none) : t ≠ a := by
  obtain ⟨A, B, C, ha, _⟩ := src
  exact fun e => by
    rw [e, ha] at nt
    cases nt
theorem none_before {H H' : Hp} {k : Int} {t : Addr} (src : Src H' a k) (s : Same (hid a H) H') (nt : H' t = none) : H t = none := by
  cases h : H t with
  | none => rfl
  | some o =>
    have := s t o (by rw [hid_ne (not_src src nt)]; exact h)
    rw [nt] at this
    cases this
theorem tup {n : Nat} {ta : TA} {Ss : List Pd} (h : A K a U n H0 σ ta Ss) (hz : Ss.length ≤ 1000 := by exact Nat.le_of_ble_eq_true rfl) : E K a U n H0 σ (tTup ta) (Tup Ss) := fun H Q k ua fr src hk sm q => by
  refine h H _ k ua fr src hk sm fun vs H1 ds sds src1 sm1 dvs => ?_
  have hl : vs.length ≤ 1000 := by rw [dvs.length, sds.length]; exact hz
  refine ⟨Nat.le_of_lt (Ev.low1000 hl), fun t nt => ?_⟩
  exact q _ _ _ ⟨ds, rfl, sds⟩ (src1.same (same_upd nt)) (sm1.trans (same_upd nt)) (.tup (vis_at (fgo src1 fr sm1 t nt) upd_same) hl (dvs.same (vis_grow (same_upd nt))))
theorem EN.e {n : Nat} {te : TE} {Ss : List Pd} (h : EN K a U n H0 σ te Ss) (hz : Ss.length ≤ 1000 := by exact Nat.le_of_ble_eq_true rfl) : E K a U n H0 σ te (Lst Ss) := fun H Q k ua fr src hk sm q => by
  refine h H Q k ua fr src hk sm fun p H' vs ds np pa hp sds src' sm' dvs => ?_
  refine q _ H' _ ⟨ds, rfl, sds⟩ src' sm' (.lst (vis_at (fr p np) hp) (by rw [dvs.length, sds.length]; exact hz) (dvs.same fun b o e => (hid_of e).2))
theorem lstN {n : Nat} {ta : TA} {Ss : List Pd} (h : A K a U n H0 σ ta Ss) (hz : Ss.length ≤ 1000 := by exact Nat.le_of_ble_eq_true rfl) : EN K a U n H0 σ (tLst ta) Ss := fun H Q k ua fr src hk sm q => by
  refine h H _ k ua fr src hk sm fun vs H1 ds sds src1 sm1 dvs => ?_
  have hl : vs.length ≤ 1000 := by rw [dvs.length, sds.length]; exact hz
  refine ⟨Nat.le_of_lt (Ev.low1000 hl), fun t nt => ?_⟩
  refine q t _ _ _ (none_before src1 sm1 nt) (not_src src1 nt) upd_same sds (src1.same (same_upd nt)) (sm1.trans (same_upd nt)) (dvs.same fun b o e => ?_)
  obtain ⟨u, e⟩ := vis_of e
  have bt := ne_of_none e nt
  rw [hid_ne bt]
  refine vis_at u ?_
  rw [upd_ne bt]
  exact e
theorem lst {n : Nat} {ta : TA} {Ss : List Pd} (h : A K a U n H0 σ ta Ss) (hz : Ss.length ≤ 1000 := by exact Nat.le_of_ble_eq_true rfl) : E K a U n H0 σ (tLst ta) (Lst Ss) := (lstN h hz).e hz
theorem catN {n m : Nat} {te tf : TE} {Ss Ts : List Pd} (h1 : E K a U n H0 σ te (Lst Ss)) (h2 : E K a U m H0 σ tf (Lst Ts)) (hz : Ss.length + Ts.length ≤ 1000 := by exact Nat.le_of_ble_eq_true rfl) : EN K a U (n + m) H0 σ (tOp rCat te tf) (Ss ++ Ts) := fun H Q k ua fr src hk sm q => by
  refine h1 H _ k ua fr src (by omega) sm fun v H1 d sd src1 sm1 dv => ?_
  refine h2 H1 _ (k + n) ua (fgo src1 fr sm1) src1 (by omega) (seen ua sm sm1) fun u H2 e se src2 sm2 du => ?_
  obtain ⟨ds, rfl, s1⟩ := sd
  obtain ⟨es, rfl, s2⟩ := se
  have dv := dv.same (vgo ua sm2)
  cases dv with
  | @lst l vs _ hl hlz hvs =>
    cases du with
    | @lst m' us _ hm hmz hus =>
      have e1 := hvs.length
      have e2 := hus.length
      have z1 := s1.length
      have z2 := s2.length
      have s12 := hid_step sm1 sm2
      refine ⟨l, m', vs, us, rfl, rfl, (vis_of hl).2, (vis_of hm).2, ?_, fun p np => ?_⟩
      · rw [e1, e2, z1, z2]
        exact Nat.le_of_lt (Ev.low1000 hz)
      · refine q p _ _ _ (none_before src2 s12 np) (not_src src2 np) upd_same (s1.append s2) ((src2.same (same_upd np)).mono (by omega)) (s12.trans (same_upd np)) ((hvs.append hus).same fun b o e => ?_)
        obtain ⟨u, e⟩ := vis_of e
        have bt := ne_of_none e np
        rw [hid_ne bt]
        refine vis_at u ?_
        rw [upd_ne bt]
        exact e
theorem cat {n m : Nat} {te tf : TE} {Ss Ts : List Pd} (h1 : E K a U n H0 σ te (Lst Ss)) (h2 : E K a U m H0 σ tf (Lst Ts)) (hz : Ss.length + Ts.length ≤ 1000 := by exact Nat.le_of_ble_eq_true rfl) : E K a U (n + m) H0 σ (tOp rCat te tf) (Lst (Ss ++ Ts)) := (catN h1 h2 hz).e (by rw [List.length_append]; exact hz)
theorem var {i : Nat} {v : V} {d : PyData} {S : Pd} (hs : σ[i]? = some (some v)) (hd : Dv K (vis U H0) v d) (hS : S d) : E K a U 0 H0 σ (tVar i) S := fun H Q k ua fr src hk sm q =>
  ⟨v, hs, q v H d hS (src.mono (by omega)) hid_same (hd.same (vis_mono sm))⟩
/-- one of a list -/
abbrev One (Ss : List Pd) : Pd := fun d => ∃ S ∈ Ss, S d
theorem one {n : Nat} {i : Nat} {te : TE} {Ss : List Pd} (hs : σ[i]? = some (some (.ref a))) (h : E K a U n H0 σ te (Lst Ss)) (h0 : 0 < Ss.length := by exact Nat.le_of_ble_eq_true rfl) (hz : Ss.length ≤ 1000 := by exact Nat.le_of_ble_eq_true rfl) :
    E K a U (n + 1) H0 σ (tCall (spOne K) [] E0 (tCons (tVar i) (tCons te tNil))) (One Ss) := fun H Q k ua fr src hk sm q => by
  refine ⟨_, hs, h H _ k ua fr src (by omega) sm fun v H1 d sd src1 sm1 dv => ?_⟩
  obtain ⟨ds, rfl, s1⟩ := sd
  cases dv with
  | @lst l vs _ hl hlz hvs =>
    have e1 := hvs.length
    have z1 := s1.length
    have la : l ≠ a := fun z => by
      have := (vis_of hl).1
      rw [z, ua] at this
      cases this
    refine ⟨a, l, k + n, vs, rfl, src1, by omega, by rw [hid_ne la]; exact (vis_of hl).2, by omega, by omega, fun j w H2 hj src2 sm2 => ?_⟩
    obtain ⟨d, ed, dw⟩ := hvs.getV hj
    exact q w H2 d (s1.get ed) (src2.mono (by omega)) (hid_step sm1 sm2) (dw.same (vgo ua sm2))
/-- [e for k in range(r)] -/
theorem comp {n R : Nat} {lo : Nat} {te0 te : TE} {vs : List Nat} {j : Nat} {S : Pd} (h0 : E K a U n H0 σ te0 (fun d => ∃ r : Nat, d = .int r ∧ lo ≤ r ∧ r ≤ R)) (hR : R ≤ 1000 := by exact Nat.le_of_ble_eq_true rfl) (hw : ∀ x, wipe ((wipe σ vs).set j (some x)) vs = wipe σ vs)
    (hS : ∀ d, S d → ∃ i : Int, d = .int i) (he : ∀ i : Int, E K a U 1 H0 ((wipe σ vs).set j (some (.int i))) te S) : E K a U (n + R) H0 σ (tLc (iRng1 (tCons te0 tNil)) (gName j) tYes te vs) (fun d => ∃ ds, d = .list ds ∧ lo ≤ ds.length ∧ ds.length ≤ R ∧ ∀ e ∈ ds, S e) := fun H Q k ua fr src hk sm q => by
  refine h0 H _ k ua fr src (by omega) sm fun v H1 d sd src1 sm1 dv => ?_
  obtain ⟨r, rfl, r0, r1⟩ := sd
  cases dv
  refine ⟨(r : Int), rfl, by omega, by omega, fun D nD => ?_⟩
  have Da := not_src src1 nD
  have uD := fgo src1 fr sm1 D nD
  rw [show (r : Int).toNat = r from Int.toNat_natCast r]
  refine lc_it (walk_range (lo := 0) (n := r)) (fun i H' => ∃ ys ds, Same (hid a H1) H' ∧ Src H' a (k + n + i) ∧ H' D = some (.lst ys) ∧ DvAll K (hid D (vis U H')) ys ds ∧ ds.length = i ∧ ∀ e ∈ ds, S e)
    ⟨[], [], (hid_same.trans (same_upd nD)), (src1.same (same_upd nD)).mono (by omega), upd_same, .nil, rfl, fun e he => absurd he (by simp)⟩ (fun i H' _ p => trivial) (fun i x H' H'' hi p y => ?_) (fun H' p => ?_)
  · obtain ⟨ys, ds, s1, src2, eD, dvs, ld, al⟩ := p
    obtain ⟨rfl, ex⟩ := y
    have ex : x = .int (0 + i) := ex
    subst ex
    refine ⟨hw _, ?_⟩
    refine he _ H'' _ (k + n + i) ua (fgo src2 fr (hid_step sm1 s1)) src2 (by omega) (seen ua sm (hid_step sm1 s1)) fun y H4 d sd src4 s4 dy => ?_
    obtain ⟨z, rfl⟩ := hS d sd
    cases dy
    refine ⟨ys, ?_, ?_, ys ++ [.int z], ds ++ [.int z], ?_, ?_, upd_same, ?_, ?_, ?_⟩
    · exact s4 _ _ (by rw [hid_ne Da]; exact eD)
    · rw [dvs.length, ld]
      exact Nat.lt_of_le_of_lt (by omega : i ≤ 1000) (by decide)
    · intro b o e
      rw [upd_ne (ne_of_none (hid_of e).2 nD)]
      exact hid_step s1 s4 b o e
    · obtain ⟨A4, B4, C4, h4, r1, r2, r3, r4⟩ := src4
      exact ⟨A4, B4, C4, by rw [upd_ne Da.symm]; exact h4, r1, r2, r3, by omega⟩
    · refine DvAll.snoc (.int z) (dvs.same fun b o e => ?_)
      have e1 := hid_of e
      have e2 := vgo ua s4 _ _ e1.2
      rw [hid_ne e1.1]
      obtain ⟨u, e2⟩ := vis_of e2
      refine vis_at u ?_
      rw [upd_ne e1.1]
      exact e2
    · rw [List.length_append, ld]
      rfl
    · intro e he
      rcases List.mem_append.mp he with he | he
      · exact al e he
      · rw [List.mem_singleton.mp he]
        exact sd
  · obtain ⟨ys, ds, s1, src2, eD, dvs, ld, al⟩ := p
    refine q _ H' _ ⟨ds, rfl, by omega, by omega, al⟩ (src2.mono (by omega)) (hid_step sm1 s1) (.lst (vis_at uD eD) (by rw [dvs.length, ld]; omega) (dvs.same (fun b o e => (hid_of e).2)))
end Dr
set_option maxHeartbeats 2000000
/-! kinds and parameters that are right -/
namespace Pw
open PySem PySem.Spec PyProof.Rows L2 Dr
theorem between_of {i lo hi : Int} (h1 : lo ≤ i) (h2 : i ≤ hi) : between (.int i) lo hi = true := by
  show (decide (lo ≤ i) && decide (i ≤ hi)) = true
  rw [decide_eq_true h1, decide_eq_true h2]
  rfl
theorem sort_range {z : Str} {lo hi i : Int} (e : ranges.lookup z = some (lo, hi)) (h1 : lo ≤ i) (h2 : i ≤ hi) : ofSort z (.int i) = true := by
  unfold ofSort
  rw [e]
  exact between_of h1 h2
theorem so_integer {i : Int} (h1 : -1000 ≤ i) (h2 : i ≤ 1000) : ofSort "integer" (.int i) = true := sort_range (lo := -(10 ^ 30)) (hi := 10 ^ 30) (by decide +kernel) (by omega) (by omega)
theorem so_from0 {i : Int} (h1 : 0 ≤ i) (h2 : i ≤ 1000) : ofSort "from 0" (.int i) = true := sort_range (lo := 0) (hi := 10 ^ 30) (by decide +kernel) h1 (by omega)
theorem so_from1 {i : Int} (h1 : 1 ≤ i) (h2 : i ≤ 1000) : ofSort "from 1" (.int i) = true := sort_range (lo := 1) (hi := 10 ^ 30) (by decide +kernel) h1 (by omega)
theorem so_50 {i : Int} (h1 : 1 ≤ i) (h2 : i ≤ 50) : ofSort "1 to 50" (.int i) = true := sort_range (lo := 1) (hi := 50) (by decide +kernel) h1 h2
theorem so_20 {i : Int} (h1 : 0 ≤ i) (h2 : i ≤ 20) : ofSort "0 to 20" (.int i) = true := sort_range (lo := 0) (hi := 20) (by decide +kernel) h1 h2
theorem sort_length {z : Str} {lo hi : Int} {ds : List PyData} (e0 : ranges.lookup z = none) (e : lengths.lookup z = some (lo, hi)) (h1 : lo ≤ ds.length) (h2 : (ds.length : Int) ≤ hi) (h3 : ∀ d ∈ ds, ∃ i : Int, d = .int i ∧ -1000 ≤ i ∧ i ≤ 1000) : ofSort z (.list ds) = true := by
  unfold ofSort
  rw [e0]
  dsimp only
  rw [e]
  show (decide (lo ≤ ds.length) && decide ((ds.length : Int) ≤ hi) && ds.all isParam) = true
  rw [decide_eq_true h1, decide_eq_true h2]
  refine List.all_eq_true.mpr fun d hd => ?_
  obtain ⟨i, rfl, i1, i2⟩ := h3 d hd
  exact between_of (by omega) (by omega)
theorem so_ints {ds : List PyData} (h2 : ds.length ≤ 100) (h3 : ∀ d ∈ ds, ∃ i : Int, d = .int i ∧ -1000 ≤ i ∧ i ≤ 1000) : ofSort "integers" (.list ds) = true := sort_length (lo := 0) (hi := 100) (by decide +kernel) (by decide +kernel) (by omega) (by omega) h3
theorem so_some {ds : List PyData} (h1 : 1 ≤ ds.length) (h2 : ds.length ≤ 100) (h3 : ∀ d ∈ ds, ∃ i : Int, d = .int i ∧ -1000 ≤ i ∧ i ≤ 1000) : ofSort "some integers" (.list ds) = true := sort_length (lo := 1) (hi := 100) (by decide +kernel) (by decide +kernel) (by omega) (by omega) h3
theorem so_test {d : PyData} (h : isTest d = true) : ofSort "test" d = true := by
  unfold ofSort
  rw [show ranges.lookup ("test" : Str) = none by decide +kernel]
  dsimp only
  rw [show lengths.lookup ("test" : Str) = none by decide +kernel]
  dsimp only
  rw [show choices.lookup ("test" : Str) = none by decide +kernel]
  dsimp only
  rw [if_pos rfl]
  exact h
/-- parameters of a kind with so many inputs -/
structure GoodK (cls : Int × Int) (k : Str) (ps : List PyData) : Prop where
  par : areParams k (.tuple ps) = true
  cls : inRange k = cls
  ns : k ≠ "split"
  sm : smB (.tuple ps) = true
abbrev DrawnK (cls : Int × Int) : Pd := fun d => ∃ k ps, d = .tuple [.str k, .tuple ps] ∧ GoodK cls k ps
theorem par_of {k : Str} {ws : List Str} {ps : List PyData} (e : kindsL.lookup k = some ws) (hl : ps.length = ws.length) (hf : fits ws ps = true) (hb : batchOk k ps = true) : areParams k (.tuple ps) = true := by
  unfold areParams
  rw [e]
  show (decide (ps.length = ws.length) && (fits ws ps && batchOk k ps)) = true
  rw [decide_eq_true hl, hf, hb]
  rfl
theorem fits0 : fits [] [] = true := rfl
theorem fitsC {w : Str} {ws : List Str} {d : PyData} {ds : List PyData} (h : ofSort w d = true) (hr : fits ws ds = true) : fits (w :: ws) (d :: ds) = true := by
  show (ofSort w d && fits ws ds) = true
  rw [h, hr]
  rfl
theorem batch_no {k : Str} {ps : List PyData} (h : k ≠ "batch") : batchOk k ps = true := by
  unfold batchOk
  first
    | (rw [if_neg h])
    | simp [h]
theorem sm_int {i : Int} : smB (.int i) = true := by
  unfold smB
  rfl
theorem sm_all {ds : List PyData} (h : ∀ d ∈ ds, smB d = true) : smAll ds = true := by
  induction ds with
  | nil => rw [smAll]
  | cons d r ih =>
    rw [smAll, h d List.mem_cons_self, ih fun e he => h e (List.mem_cons_of_mem _ he)]
    rfl
theorem sm_tup {ds : List PyData} (h : ∀ d ∈ ds, smB d = true) : smB (.tuple ds) = true := by rw [smB, sm_all h]
theorem sm_lst {ds : List PyData} (h : ∀ d ∈ ds, smB d = true) : smB (.list ds) = true := by rw [smB, sm_all h]
end Pw
set_option maxHeartbeats 2000000
/-! _law_test -/
namespace Pw
open PySem PySem.Spec PyProof.Rows L2 Dr
abbrev sTest2 : Stmt := topS 61
abbrev tsN : List Str := ["_law_source", "_law_wide", "_law_way", "_law_modulus", "_law_k"]
theorem scTest2 : FnScope tsN ["_law_source", "_law_wide"] (defScope sTest2) := ⟨rfl, rfl, rfl, by decide +kernel, rfl, by decide +kernel, by decide +kernel⟩
def ksOf (m : Nat) (p : Nat → Bool) : List PyData := ((List.range m).filter p).map fun k => PyData.int (k : Nat)
theorem mod_test {m : Nat} (h0 : 1 ≤ m) (h1 : m ≤ 4) (p : Nat → Bool) : isTest (.tuple [.str "mod", .int (m : Nat), .list (ksOf m p)]) = true ∧ smB (.tuple [.str "mod", .int (m : Nat), .list (ksOf m p)]) = true := by
  have e : m = 1 ∨ m = 2 ∨ m = 3 ∨ m = 4 := by omega
  rcases e with rfl | rfl | rfl | rfl
  · have e : ksOf 1 p = (if p 0 = true then [PyData.int (0 : Nat)] else []) := by
      unfold ksOf
      rw [show List.range 1 = [0] by decide, List.filter_cons]
      cases p 0 <;> rfl
    rw [e]
    cases p 0 <;> decide +kernel
  · have e : ksOf 2 p = (if p 0 = true then [PyData.int (0 : Nat)] else []) ++ (if p 1 = true then [PyData.int (1 : Nat)] else []) := by
      unfold ksOf
      rw [show List.range 2 = [0, 1] by decide, List.filter_cons, List.filter_cons]
      cases p 0 <;> cases p 1 <;> rfl
    rw [e]
    cases p 0 <;> cases p 1 <;> decide +kernel
  · have e : ksOf 3 p = (if p 0 = true then [PyData.int (0 : Nat)] else []) ++ (if p 1 = true then [PyData.int (1 : Nat)] else []) ++ (if p 2 = true then [PyData.int (2 : Nat)] else []) := by
      unfold ksOf
      rw [show List.range 3 = [0, 1, 2] by decide, List.filter_cons, List.filter_cons, List.filter_cons]
      cases p 0 <;> cases p 1 <;> cases p 2 <;> rfl
    rw [e]
    cases p 0 <;> cases p 1 <;> cases p 2 <;> decide +kernel
  · have e : ksOf 4 p = (if p 0 = true then [PyData.int (0 : Nat)] else []) ++ (if p 1 = true then [PyData.int (1 : Nat)] else []) ++ (if p 2 = true then [PyData.int (2 : Nat)] else []) ++ (if p 3 = true then [PyData.int (3 : Nat)] else []) := by
      unfold ksOf
      rw [show List.range 4 = [0, 1, 2, 3] by decide, List.filter_cons, List.filter_cons, List.filter_cons, List.filter_cons]
      cases p 0 <;> cases p 1 <;> cases p 2 <;> cases p 3 <;> rfl
    rw [e]
    cases p 0 <;> cases p 1 <;> cases p 2 <;> cases p 3 <;> decide +kernel
theorem plain_of {z : Str} {i : Int} (hz : z = "below" ∨ z = "from") (h1 : -1000 ≤ i) (h2 : i ≤ 1000) : isPlain (.tuple [.str z, .int i]) = true := by
  have e : isPlain (.tuple [.str z, .int i]) = (oneOf (.str z) ["below", "from"] && isParam (.int i)) := rfl
  rw [e, show isParam (.int i) = true from between_of (by omega) (by omega)]
  rcases hz with rfl | rfl <;> decide +kernel
theorem notNeg_of {z : Str} {i : Int} (hz : z = "below" ∨ z = "from") : isNeg (.tuple [.str z, .int i]) = false := by
  rcases hz with rfl | rfl
  · exact (by decide +kernel : oneOf (.str "below") ["not"] = false)
  · exact (by decide +kernel : oneOf (.str "from") ["not"] = false)
theorem bound_test {z : Str} {i : Int} (hz : z = "below" ∨ z = "from") (h1 : -1000 ≤ i) (h2 : i ≤ 1000) : isTest (.tuple [.str z, .int i]) = true := by
  unfold isTest
  rw [unNot_stop 3 _ (notNeg_of hz)]
  exact plain_of hz h1 h2
theorem neg_test {z : Str} {i : Int} (hz : z = "below" ∨ z = "from") (h1 : -1000 ≤ i) (h2 : i ≤ 1000) : isTest (.tuple [.str "not", .tuple [.str z, .int i]]) = true := by
  have e : unNot 3 (.tuple [.str "not", .tuple [.str z, .int i]]) = unNot 2 (.tuple [.str z, .int i]) := by
    show (if oneOf (.str "not") ["not"] = true then unNot 2 _ else _) = _
    rw [if_pos (by decide +kernel)]
  unfold isTest
  rw [e, unNot_stop 2 _ (notNeg_of hz)]
  exact plain_of hz h1 h2
theorem sm_short {z : Str} (h : z.length ≤ 1000) : smB (.str z) = true := by
  rw [smB]
  exact decide_eq_true h
section
variable {P : Program} {w : World} {K : PySem.W.Frag} {mg : Str → Option Value} {base : Heap}
def spTest2 (K : PySem.W.Frag) : Sp := fun vs H Q _ => ∃ (a : Addr) (k : Int), vs = [.ref a, .int 20] ∧ Src H a k ∧ k + 10 < 1000000 ∧
  ∀ v H' d, isTest d = true → smB d = true → Src H' a (k + 10) → Same (hid a H) H' → Dv K (newOf H H') v d → Q v H'
theorem yes_if {c : Bool} {A B : Prop} (hc : c = true) (h : A) : if c = true then A else B := by
  rw [hc, if_pos rfl]
  exact h
theorem no_if {c : Bool} {A B : Prop} (hc : c = false) (h : B) : if c = true then A else B := by
  rw [hc, if_neg Bool.false_ne_true]
  exact h
theorem ok_test2 (B : Blt mg) (G : DefOk P w K mg base CX0 1 "_law_next" ["_law_source", "_law_many"] spNext) (D : Dfn K mg "_law_test" sTest2 ["_law_source", "_law_wide"]) : DefOk P w K mg base CX0 2 "_law_test" ["_law_source", "_law_wide"] (spTest2 K) := D.ok fun f fd F => by
  refine F.ok scTest2 (fun vs H Q E h => ?_) (fun cdv A outer s H vs Q E hr h => ?_)
  · obtain ⟨a, k, rfl, _⟩ := h
    rfl
  · obtain ⟨a, k, rfl, src, hk, q⟩ := h
    have nd := scTest2.nd
    refine ⟨_, pss_cons (ps_set (i := 2) nd rfl (.inl rfl) (pe_def G hr pass0 (pa_cons (pv 0) (pa_cons pe_int pa_nil))))
      (pss_cons (ps_set (i := 3) nd rfl (.inl rfl) (pe_op op_add pe_int (pe_def G hr pass0 (pa_cons (pv 0) (pa_cons pe_int pa_nil)))))
      (pss_cons (ps_if (pt_cmpR op_eq (pv 2) pe_int (nomark _)) (pss_one (ps_ret (pe_tup (pa_cons pe_str (pa_cons (pv 3) (pa_cons (pe_lc (own := [("_law_k", 4)]) (g := gName 4) rfl nd (pi_range1 rfl B.range (pa_cons (pv 3) pa_nil)) (blkOk_by (N := tsN) (sc := defScope sTest2) (by decide +kernel)) (fun _ _ _ _ _ => (pg_name (i := 4) nd rfl (Or.inl rfl))) (fun _ _ _ _ _ => (pts_one (pt_cmpR op_eq (pe_def G hr pass0 (pa_cons (pv 0) (pa_cons pe_int pa_nil))) pe_int (nomark _)))) (fun _ _ _ _ _ => (pv 4))) pa_nil)))))) pss_nil)
      (pss_cons (ps_if (pt_cmpR op_eq (pv 2) pe_int (nomark _)) (pss_one (ps_ret (pe_tup (pa_cons pe_str (pa_cons (pe_tup (pa_cons pe_str (pa_cons (pe_def G hr pass0 (pa_cons (pv 0) (pa_cons (pv 1) pa_nil))) pa_nil))) pa_nil))))) pss_nil)
      (pss_one (ps_ret (pe_tup (pa_cons (pe_ix ix_list (pe_lst (pa_cons pe_str (pa_cons pe_str pa_nil))) (pe_op op_sub (pv 2) pe_int) (fun _ _ => rfl)) (pa_cons (pe_op op_sub (pe_def G hr pass0 (pa_cons (pv 0) (pa_cons (pv 1) pa_nil))) (pe_op op_fdivN (pv 1) pe_int)) pa_nil)))))))), ?_⟩
    refine ⟨_, rfl, a, 4, k, rfl, src, by omega, by decide, by decide, fun way H1 w0 w1 src1 s1 => ?_⟩
    refine ⟨_, rfl, a, 4, k + 1, rfl, src1, by omega, by decide, by decide, fun z H2 z0 z1 src2 s2 => ?_⟩
    have s12 := hid_step s1 s2
    refine ⟨_, _, rfl, rfl, ?_⟩
    obtain ⟨m, em⟩ : ∃ m : Nat, (1 + z : Int) = (m : Int) := ⟨(1 + z).toNat, by omega⟩
    show gName 3 (V.int (1 + z)) _ _ _
    rw [em]
    have m1 : 1 ≤ m := by omega
    have m4 : m ≤ 4 := by omega
    refine ⟨_, rfl, rfl, _, rfl, ?_⟩
    by_cases e0 : way = 0
    · subst e0
      refine yes_if (decide_eq_true rfl) ?_
      refine ⟨_, rfl, _, rfl, (m : Int), rfl, by omega, by omega, fun L nL => ?_⟩
      have La := not_src src2 nL
      rw [Int.toNat_natCast]
      refine lc_it (walk_range (lo := 0) (n := m)) (fun i H' => ∃ p : Nat → Bool, Same (hid a H2) H' ∧ Src H' a (k + 1 + 1 + i) ∧ H' L = some (.lst (((List.range i).filter p).map fun j => V.int (j : Nat))))
        ⟨fun _ => false, hid_same.trans (same_upd nL), (src2.same (same_upd nL)).mono (by omega), upd_same⟩ (fun i H' _ p => trivial) (fun i x H' H'' hi p y => ?_) (fun H' p => ?_)
      · obtain ⟨p, sm, src3, eL⟩ := p
        obtain ⟨rfl, ex⟩ := y
        have ex : x = .int (0 + i) := ex
        subst ex
        rw [Int.zero_add]
        refine ⟨rfl, _, rfl, a, 2, k + 1 + 1 + i, rfl, src3, by omega, by decide, by decide, fun r H4 r0 r1 src4 s4 => ?_⟩
        have eL4 := s4 L _ (by rw [hid_ne La]; exact eL)
        have snoc : ∀ b : Bool, ((List.range (i + 1)).filter fun j => if j = i then b else p j) = (List.range i).filter p ++ (if b = true then [i] else []) := fun b => by
          rw [List.range_succ, List.filter_append]
          congr 1
          · refine List.filter_congr fun j hj => ?_
            have := List.mem_range.mp hj
            rw [if_neg (by omega)]
          · rw [List.filter_cons, if_pos rfl]
            cases b <;> rfl
        refine ⟨rfl, _, rfl, ?_⟩
        by_cases er : r = 0
        · subst er
          refine yes_if (decide_eq_true rfl) ?_
          refine ⟨_, rfl, _, eL4, ?_, fun j => if j = i then true else p j, ?_, ?_, ?_⟩
          · rw [List.length_map]
            refine Nat.lt_of_le_of_lt (List.length_filter_le _ _) ?_
            rw [List.length_range]
            exact Nat.lt_of_le_of_lt (by omega : i ≤ 1000) (by decide)
          · exact fun b o e => by
              rw [upd_ne (ne_of_none (hid_of e).2 nL)]
              exact hid_step sm s4 b o e
          · obtain ⟨A4, B4, C4, h4, q1, q2, q3, q4⟩ := src4
            exact ⟨A4, B4, C4, by rw [upd_ne La.symm]; exact h4, q1, q2, q3, by omega⟩
          · rw [upd_same, snoc true, List.map_append]
            rfl
        · refine no_if (decide_eq_false fun z => er (by injection z)) ?_
          refine ⟨fun j => if j = i then false else p j, hid_step sm s4, src4.mono (by omega), ?_⟩
          rw [eL4, snoc false, List.map_append]
          simp
      · obtain ⟨p, sm, src3, eL⟩ := p
        refine ⟨by show 3 ≤ sizeLine; decide, fun t nt => ?_⟩
        have ta := not_src src3 nt
        obtain ⟨t1, t2⟩ := mod_test m1 m4 p
        refine q _ _ _ t1 t2 ((src3.same (same_upd nt)).mono (by omega)) ((hid_step s12 sm).trans (same_upd nt)) (.tup (newOf_at (none_before src3 (hid_step s12 sm) nt) upd_same) (by show 3 ≤ 1000; decide) (.cons (.str _) (.cons (.int _) (.cons ?_ .nil))))
        refine .lst (newOf_at (none_before src2 s12 nL) (by rw [upd_ne (ne_of_none eL nt)]; exact eL)) ?_ ?_
        · rw [List.length_map]
          refine Nat.le_trans (List.length_filter_le _ _) ?_
          rw [List.length_range]
          omega
        · unfold ksOf
          generalize (List.range m).filter p = ks
          induction ks with
          | nil => exact .nil
          | cons j r ih => exact .cons (.int _) ih
    · refine no_if (decide_eq_false fun z => e0 (by injection z)) ?_
      refine ⟨_, rfl, rfl, _, rfl, ?_⟩
      by_cases e1 : way = 1
      · subst e1
        refine yes_if (decide_eq_true rfl) ?_
        refine ⟨_, rfl, _, rfl, a, 20, k + 1 + 1, rfl, src2, by omega, by decide, by decide, fun r H4 r0 r1 src4 s4 => ?_⟩
        refine ⟨by show 2 ≤ sizeLine; decide, fun t nt => ⟨by show 2 ≤ sizeLine; decide, fun t2 nt2 => ?_⟩⟩
        have ta := not_src src4 nt
        have src5 := src4.same (same_upd (o := HO.tup [V.str "below", V.int r]) nt)
        have t2a := not_src src5 nt2
        refine q _ _ _ (neg_test (z := "below") (.inl rfl) (i := r) (by omega) (by omega)) (sm_tup fun d hd => ?_) ((src5.same (same_upd nt2)).mono (by omega)) (((hid_step s12 s4).trans (same_upd nt)).trans (same_upd nt2)) ?_
        · simp only [List.mem_cons, List.not_mem_nil, or_false] at hd
          rcases hd with rfl | rfl
          · exact sm_short (by decide)
          · refine sm_tup fun d hd => ?_
            simp only [List.mem_cons, List.not_mem_nil, or_false] at hd
            rcases hd with rfl | rfl
            · exact sm_short (by decide)
            · exact sm_int
        · have n1 := none_before src4 (hid_step s12 s4) nt
          refine .tup (newOf_at (none_before src5 ((hid_step s12 s4).trans (same_upd nt)) nt2) upd_same) (by show 2 ≤ 1000; decide) (.cons (.str _) (.cons (.tup (newOf_at n1 ?_) (by show 2 ≤ 1000; decide) (.cons (.str _) (.cons (.int _) .nil))) .nil))
          rw [upd_ne (ne_of_none upd_same nt2)]
          exact upd_same
      · refine no_if (decide_eq_false fun z => e1 (by injection z)) ?_
        refine ⟨by show 2 ≤ sizeLine; decide, fun l nl => ?_⟩
        have la := not_src src2 nl
        have src3 := src2.same (same_upd (o := HO.lst [V.str "below", V.str "from"]) nl)
        have word : ∃ zw : Str, atI [V.str "below", V.str "from"] (way - 2) = some (.str zw) ∧ (zw = "below" ∨ zw = "from") := by
          have e : way = 2 ∨ way = 3 := by omega
          rcases e with rfl | rfl
          · exact ⟨"below", atI_nat (j := 0) rfl, .inl rfl⟩
          · exact ⟨"from", atI_nat (j := 1) rfl, .inr rfl⟩
        obtain ⟨zw, ez, hz⟩ := word
        refine ⟨_, rfl, _, _, rfl, rfl, l, _, _, _, rfl, rfl, SqL.of upd_same, ez, ?_⟩
        refine ⟨_, rfl, _, rfl, a, 20, k + 1 + 1, rfl, src3, by omega, by decide, by decide, fun r H4 r0 r1 src4 s4 => ?_⟩
        refine ⟨_, rfl, ?_⟩
        refine ⟨_, _, rfl, rfl, ⟨by decide, by decide⟩, _, _, rfl, rfl, by show 2 ≤ sizeLine; decide, fun t nt => ?_⟩
        have ta := not_src src4 nt
        have e5 : (20 : Int).fdiv 4 = 5 := by decide
        refine q _ _ _ (bound_test hz (i := r - (20 : Int).fdiv 4) (by omega) (by omega)) (sm_tup fun d hd => ?_) ((src4.same (same_upd nt)).mono (by omega)) ((hid_step (s12.trans (same_upd nl)) s4).trans (same_upd nt)) ?_
        · simp only [List.mem_cons, List.not_mem_nil, or_false] at hd
          rcases hd with rfl | rfl
          · rcases hz with rfl | rfl <;> exact sm_short (by decide)
          · exact sm_int
        · exact .tup (newOf_at (none_before src4 (hid_step (s12.trans (same_upd nl)) s4) nt) upd_same) (by show 2 ≤ 1000; decide) (.cons (.str _) (.cons (.int _) .nil))
end
end Pw
set_option maxHeartbeats 2000000
/-! _law_source_node -/
namespace Dr
open PySem PySem.Spec PyProof.Rows L2 Pw
open Ev (vis vis_at vis_of vis_same vis_mono vis_grow Fresh nu fresh_nu vis_nu)
theorem seqasg_of {te : TE} {g : TG} {u : TS} {D : Ends} {σ : L2.St} {H : Hp} (h : te σ H fun x H1 => g x σ H1 (u D)) : tSeq (tAsg te g) u D σ H := h
theorem name_of {i : Nat} {v : V} {σ : L2.St} {H : Hp} {Q : L2.St → Hp → Prop} (h : Q (σ.set i (some v)) H) : gName i v σ H Q := h
theorem ret_of {te : TE} {D : Ends} {σ : L2.St} {H : Hp} (h : te σ H fun x H1 => D.rt x H1) : tRet te D σ H := h
theorem par_of {i j : Nat} {ta : TA} {u : TS} {D : Ends} {σ : L2.St} {H : Hp} (h : ta σ H fun vs H1 => ∃ v w, vs = [v, w] ∧ u D ((σ.set i (some v)).set j (some w)) H1) : tSeq (tPar i j ta) u D σ H := h
theorem next_of {D : Ends} {σ : L2.St} {H : Hp} (h : D.nx σ H) : tNext D σ H := h
theorem new_vis {K : PySem.W.Frag} {U : Addr → Bool} {H H' : Hp} {v : V} {d : PyData} (f : Fresh U H) (h : Dv K (newOf H H') v d) : Dv K (vis U H') v d := h.same fun b o e => by
  refine vis_at (f b ?_) (newOf_same b o e)
  unfold newOf at e
  cases z : H b with
  | none => rfl
  | some u =>
    rw [z] at e
    cases e
/-- seen: what is seen and is not at l -/
def les (U : Addr → Bool) (l : Addr) : Addr → Bool := fun c => U c && Ev.but l c
theorem les_of {U : Addr → Bool} {l c : Addr} (h : les U l c = true) : U c = true ∧ c ≠ l := by
  unfold les Ev.but at h
  rw [Bool.and_eq_true] at h
  exact ⟨h.1, fun e => by rw [decide_eq_true e] at h; cases h.2⟩
theorem les_at {U : Addr → Bool} {l c : Addr} (h : U c = true) (e : c ≠ l) : les U l c = true := by
  unfold les Ev.but
  rw [h, decide_eq_false e]
  rfl
theorem les_fresh {U : Addr → Bool} {l : Addr} {H : Hp} {o : HO} (f : Fresh U H) (h : H l = some o) : Fresh (les U l) H := fun c e => les_at (f c e) (ne_of_none h e).symm
theorem les_a {U : Addr → Bool} {l a : Addr} (h : U a = false) : les U l a = false := by
  unfold les
  rw [h]
  rfl
theorem les_vis {U : Addr → Bool} {l : Addr} {H : Hp} : Same (vis (les U l) H) (vis U H) := fun b o e => by
  obtain ⟨u, e⟩ := vis_of e
  exact vis_at (les_of u).1 e
theorem les_hid {U : Addr → Bool} {l : Addr} {H : Hp} : Same (hid l (vis U H)) (vis (les U l) H) := fun b o e => by
  obtain ⟨n, e⟩ := hid_of e
  obtain ⟨u, e⟩ := vis_of e
  exact vis_at (les_at u n) e
theorem nu_a {H : Hp} {a : Addr} {k : Int} (s : Src H a k) : nu H a = false := by
  obtain ⟨A, B, C, h, _⟩ := s
  unfold nu
  rw [h]
  rfl
/-- l.append(e): a list that is seen whole stays so -/
theorem app_of {K : PySem.W.Frag} {a l : Addr} {U : Addr → Bool} {n i : Nat} {H : Hp} {σ : L2.St} {te : TE} {u : TS} {D : Ends} {S : Pd} {vs : List V} {ds : List PyData} {k : Int}
    (hs : σ[i]? = some (some (.ref l))) (he : E K a (les U l) n H σ te S) (la : l ≠ a) (ua : U a = false) (fr : Fresh U H) (src : Src H a k) (hk : k + n < 1000000) (hl : H l = some (.lst vs)) (hd : DvAll K (vis (les U l) H) vs ds) (hz : ds.length < 1000)
    (h : ∀ v H' d, S d → Src H' a (k + n) → Same (hid l (hid a H)) H' → H' l = some (.lst (vs ++ [v])) → DvAll K (vis (les U l) H') (vs ++ [v]) (ds ++ [d]) → u D σ H') :
    tSeq (tDrop (tBM K "list" rAppend (tVar i) (tCons te tNil))) u D σ H := by
  refine ⟨_, hs, .inl ⟨rfl, vs, SqL.of hl⟩, ?_⟩
  refine he H _ k (les_a ua) (les_fresh fr hl) src hk vis_same fun v H1 d sd src1 sm1 dv => ?_
  have hl1 : H1 l = some (.lst vs) := sm1 _ _ (by rw [hid_ne la]; exact hl)
  have mv : Same (vis (les U l) H1) (vis (les U l) (upd H1 l (.lst (vs ++ [v])))) := fun b o e => by
    obtain ⟨u, e⟩ := vis_of e
    refine vis_at u ?_
    rw [upd_ne (les_of u).2]
    exact e
  refine ⟨l, vs, v, rfl, rfl, hl1, by rw [hd.length]; exact Nat.lt_of_lt_of_le hz (by decide), ?_⟩
  refine h v _ d sd ?_ ?_ upd_same ((((hd.same (vgo (les_a ua) sm1)).append (.cons dv .nil))).same mv)
  · obtain ⟨A4, B4, C4, h4, r1, r2, r3, r4⟩ := src1
    exact ⟨A4, B4, C4, by rw [upd_ne la.symm]; exact h4, r1, r2, r3, by omega⟩
  · intro b o e
    obtain ⟨n1, e⟩ := hid_of e
    rw [upd_ne n1]
    exact sm1 b o e
theorem quart {K : PySem.W.Frag} {U : Addr → Bool} {H0 : Hp} {σ : L2.St} (hs : σ[1]? = some (some (.int 20))) : Ev.E K U H0 σ (tOp (rI CDivN fun i j => V.int (i.fdiv j)) (tVar 1) (tC (.int 4))) (.int ((20 : Int).fdiv 4)) := fun H Q _ _ q => ⟨_, hs, _, _, rfl, rfl, ⟨by decide, by decide⟩, q _ _ (Same.refl _) (.int _)⟩
theorem v0 {K : PySem.W.Frag} {U : Addr → Bool} {H0 : Hp} {σ : L2.St} {i : Nat} {z : Int} (hs : σ[i]? = some (some (.int z))) : Ev.E K U H0 σ (tVar i) (.int z) := Ev.var hs (.int _)
end Dr
namespace Pw
open PySem PySem.Spec PyProof.Rows L2 Dr
open Ev (vis vis_at vis_of vis_same vis_mono vis_grow Fresh nu fresh_nu vis_nu)
abbrev sSrcNode : Stmt := topS 62
abbrev sSrcNodeN : List Str := ["_law_source", "_law_wide", "_law_start", "_law_step", "_law_kinds", "_law_k"]
theorem scSrcNode : FnScope sSrcNodeN ["_law_source", "_law_wide"] (defScope sSrcNode) := ⟨rfl, rfl, rfl, by decide +kernel, rfl, by decide +kernel, by decide +kernel⟩
def spDrawn (K : PySem.W.Frag) (cls : Int × Int) (n : Nat) : Sp := fun vs H Q _ => ∃ (a : Addr) (k : Int), vs = [.ref a, .int 20] ∧ Src H a k ∧ k + n < 1000000 ∧
  ∀ v H' d, DrawnK cls d → Src H' a (k + n) → Same (hid a H) H' → Dv K (newOf H H') v d → Q v H'
/-- a list of so many small whole numbers -/
abbrev IntsN (lo hi : Nat) (m : Int) : Pd := fun d => ∃ ds, d = .list ds ∧ lo ≤ ds.length ∧ ds.length ≤ hi ∧ ∀ e ∈ ds, In 0 m e
theorem ints_param {lo hi : Nat} {m : Int} {ds : List PyData} (hm : m ≤ 1000) (h : ∀ e ∈ ds, In 0 m e) : ∀ d ∈ ds, ∃ i : Int, d = .int i ∧ -1000 ≤ i ∧ i ≤ 1000 := fun d hd => by
  obtain ⟨i, e, h0, h1⟩ := h d hd
  exact ⟨i, e, by omega, by omega⟩
theorem ints_sm {m : Int} {ds : List PyData} (h : ∀ e ∈ ds, In 0 m e) : smB (.list ds) = true := sm_lst fun d hd => by
  obtain ⟨i, rfl, _⟩ := h d hd
  exact sm_int
theorem all1 {S : Pd} {ds : List PyData} (h : All2 [S] ds) : ∃ d, ds = [d] ∧ S d := by
  cases h with
  | cons a b =>
    cases b
    exact ⟨_, rfl, a⟩
theorem all2 {S T : Pd} {ds : List PyData} (h : All2 [S, T] ds) : ∃ d e, ds = [d, e] ∧ S d ∧ T e := by
  cases h with
  | cons a b =>
    obtain ⟨e, rfl, h⟩ := all1 b
    exact ⟨_, _, rfl, a, h⟩
theorem all3 {S T R : Pd} {ds : List PyData} (h : All2 [S, T, R] ds) : ∃ d e f, ds = [d, e, f] ∧ S d ∧ T e ∧ R f := by
  cases h with
  | cons a b =>
    obtain ⟨e, f, rfl, h⟩ := all2 b
    exact ⟨_, _, _, rfl, a, h⟩
/-- (k, (...)) -/
abbrev KPd (k : Str) (Ss : List Pd) : Pd := Tup [Is (.str k), Tup Ss]
theorem kpd_of {k : Str} {Ss : List Pd} {d : PyData} (h : KPd k Ss d) : ∃ ps, d = .tuple [.str k, .tuple ps] ∧ All2 Ss ps := by
  obtain ⟨ds, rfl, h⟩ := h
  obtain ⟨d1, d2, rfl, rfl, ps, rfl, h2⟩ := all2 h
  exact ⟨ps, rfl, h2⟩
theorem good_of {cls : Int × Int} {k : Str} {ws : List Str} {Ss : List Pd} (ek : kindsL.lookup k = some ws) (ec : inRange k = cls) (es : k ≠ "split") (eb : k ≠ "batch") (el : Ss.length = ws.length) (h : ∀ ps, All2 Ss ps → fits ws ps = true ∧ ∀ p ∈ ps, smB p = true) : ∀ d, KPd k Ss d → DrawnK cls d := fun d hd => by
  obtain ⟨ps, rfl, ha⟩ := kpd_of hd
  obtain ⟨h1, h2⟩ := h ps ha
  exact ⟨k, ps, rfl, par_of ek (by rw [ha.length, el]) h1 (batch_no eb), ec, es, sm_tup h2⟩
theorem sg_count {s t : Int} (h : -1000 ≤ s ∧ s ≤ 1000 ∧ -1000 ≤ t ∧ t ≤ 1000) : ∀ d, KPd "count" [Is (.int s), Is (.int t)] d → DrawnK (0, 0) d := good_of (ws := ["integer", "integer"]) (by decide +kernel) (by decide +kernel) (by decide) (by decide) rfl fun ps hp => by
  obtain ⟨d, e, rfl, rfl, rfl⟩ := all2 hp
  exact ⟨fitsC (so_integer (by omega) (by omega)) (fitsC (so_integer (by omega) (by omega)) fits0), fun p hp => by
    simp only [List.mem_cons, List.not_mem_nil, or_false] at hp
    rcases hp with rfl | rfl <;> exact sm_int⟩
theorem sg_span {s t : Int} (h : -1000 ≤ s ∧ s ≤ 1000 ∧ -1000 ≤ t ∧ t ≤ 1000) : ∀ d, KPd "span" [Is (.int s), Is (.int t), In 0 9] d → DrawnK (0, 0) d := good_of (ws := ["integer", "integer", "from 0"]) (by decide +kernel) (by decide +kernel) (by decide) (by decide) rfl fun ps hp => by
  obtain ⟨d, e, f, rfl, rfl, rfl, i, rfl, h1, h2⟩ := all3 hp
  exact ⟨fitsC (so_integer (by omega) (by omega)) (fitsC (so_integer (by omega) (by omega)) (fitsC (so_from0 (by omega) (by omega)) fits0)), fun p hp => by
    simp only [List.mem_cons, List.not_mem_nil, or_false] at hp
    rcases hp with rfl | rfl | rfl <;> exact sm_int⟩
theorem sg_ring : ∀ d, KPd "ring" [IntsN 1 3 5] d → DrawnK (0, 0) d := good_of (ws := ["some integers"]) (by decide +kernel) (by decide +kernel) (by decide) (by decide) rfl fun ps hp => by
  obtain ⟨d, rfl, ds, rfl, h1, h2, h3⟩ := all1 hp
  exact ⟨fitsC (so_some h1 (by omega) (ints_param (lo := 0) (hi := 0) (by decide) h3)) fits0, fun p hp => by
    simp only [List.mem_cons, List.not_mem_nil, or_false] at hp
    rcases hp with rfl
    exact ints_sm h3⟩
theorem sg_row : ∀ d, KPd "row" [IntsN 0 5 5] d → DrawnK (0, 0) d := good_of (ws := ["integers"]) (by decide +kernel) (by decide +kernel) (by decide) (by decide) rfl fun ps hp => by
  obtain ⟨d, rfl, ds, rfl, h1, h2, h3⟩ := all1 hp
  exact ⟨fitsC (so_ints (by omega) (ints_param (lo := 0) (hi := 0) (by decide) h3)) fits0, fun p hp => by
    simp only [List.mem_cons, List.not_mem_nil, or_false] at hp
    rcases hp with rfl
    exact ints_sm h3⟩
theorem dva2 {K : PySem.W.Frag} {H : Hp} {vs : List V} {i j : Int} (h : DvAll K H vs [.int i, .int j]) : vs = [.int i, .int j] := by
  cases h with
  | cons a r =>
    cases r with
    | cons b r =>
      cases r
      cases a
      cases b
      rfl
theorem all_of {T : Pd} : ∀ {Ss : List Pd} {d : PyData}, One Ss d → (∀ S ∈ Ss, ∀ d, S d → T d) → T d := fun h k => by
  obtain ⟨S, m, h⟩ := h
  exact k S m _ h
theorem draw_int {K : PySem.W.Frag} {a : Addr} {U : Addr → Bool} {H0 : Hp} {σ : L2.St} {m : Int} (hs : σ[0]? = some (some (.ref a))) (h0 : 0 < m := by decide) (h1 : m ≤ 10 ^ 31 := by decide) : Dr.E K a U 1 H0 σ (tCall spNext [] E0 (tCons (tVar 0) (tCons (tC (.int m)) tNil))) (In 0 m) := draw hs (Ev.int (i := m)) h0 h1
theorem draw_wide {K : PySem.W.Frag} {a : Addr} {U : Addr → Bool} {H0 : Hp} {σ : L2.St} (hs : σ[0]? = some (some (.ref a))) (h1 : σ[1]? = some (some (.int 20))) : Dr.E K a U 1 H0 σ (tCall spNext [] E0 (tCons (tVar 0) (tCons (tVar 1) tNil))) (In 0 20) := draw hs (v0 h1)
section
variable {P : Program} {w : World} {K : PySem.W.Frag} {mg : Str → Option Value} {base : Heap}
theorem ok_srcnode (B : Blt mg) (G : DefOk P w K mg base CX0 1 "_law_next" ["_law_source", "_law_many"] spNext) (GO : DefOk P w K mg base CX0 2 "_law_one" ["_law_source", "_law_options"] (spOne K)) (D : Dfn K mg "_law_source_node" sSrcNode ["_law_source", "_law_wide"]) :
    DefOk P w K mg base CX0 3 "_law_source_node" ["_law_source", "_law_wide"] (spDrawn K (0, 0) 30) := D.ok fun f fd F => by
  refine F.ok scSrcNode (fun vs H Q E h => ?_) (fun cdv A outer s H vs Q E hr h => ?_)
  · obtain ⟨a, k, rfl, _⟩ := h
    rfl
  · obtain ⟨a, k, rfl, src, hk, q⟩ := h
    have nd := scSrcNode.nd
    refine ⟨_, (pss_cons (ps_par (i := 2) (j := 3) rfl nd rfl rfl (by decide) rfl rfl (pa_cons (pe_op op_sub (pe_def G hr pass0 (pa_cons (pv 0) (pa_cons (pv 1) pa_nil))) (pe_op op_fdivN (pv 1) pe_int)) (pa_cons (pe_op op_sub (pe_def G hr pass0 (pa_cons (pv 0) (pa_cons pe_int pa_nil))) pe_int) pa_nil)) (by rfl))
      (pss_cons (ps_set (i := 4) nd rfl (.inl rfl) (pe_lst (pa_cons (pe_tup (pa_cons pe_str (pa_cons (pe_tup (pa_cons (pv 2) (pa_cons (pv 3) pa_nil))) pa_nil))) (pa_cons (pe_tup (pa_cons pe_str (pa_cons (pe_tup (pa_cons (pv 2) (pa_cons (pv 3) (pa_cons (pe_def G hr pass0 (pa_cons (pv 0) (pa_cons pe_int pa_nil))) pa_nil)))) pa_nil))) pa_nil))))
      (pss_cons (ps_set (i := 4) nd rfl (.inl rfl) (pe_op op_cat (pv 4) (pe_lst (pa_cons (pe_tup (pa_cons pe_str (pa_cons (pe_tup (pa_cons (pe_lc (own := [("_law_k", 5)]) (g := gName 5) (tt := tYes) rfl nd (pi_range1 rfl B.range (pa_cons (pe_op op_add pe_int (pe_def G hr pass0 (pa_cons (pv 0) (pa_cons pe_int pa_nil)))) pa_nil)) (blkOk_by (N := sSrcNodeN) (sc := defScope sSrcNode) (by decide +kernel)) (fun _ _ _ _ _ => (pg_name (i := 5) nd rfl (Or.inl rfl))) (fun _ _ _ _ _ => pts_nil) (fun _ _ _ _ _ => (pe_def G hr pass0 (pa_cons (pv 0) (pa_cons pe_int pa_nil))))) pa_nil)) pa_nil))) pa_nil))))
      (pss_cons (ps_expr (pe_bm PySem.F.plainAttrs_list PySem.F.slot_list_append PySem.F.type_list_append mt_append (pv 4) (pa_cons (pe_tup (pa_cons pe_str (pa_cons (pe_tup (pa_cons (pe_lc (own := [("_law_k", 5)]) (g := gName 5) (tt := tYes) rfl nd (pi_range1 rfl B.range (pa_cons (pe_def G hr pass0 (pa_cons (pv 0) (pa_cons pe_int pa_nil))) pa_nil)) (blkOk_by (N := sSrcNodeN) (sc := defScope sSrcNode) (by decide +kernel)) (fun _ _ _ _ _ => (pg_name (i := 5) nd rfl (Or.inl rfl))) (fun _ _ _ _ _ => pts_nil) (fun _ _ _ _ _ => (pe_def G hr pass0 (pa_cons (pv 0) (pa_cons pe_int pa_nil))))) pa_nil)) pa_nil))) pa_nil)))
      (pss_one (ps_ret (pe_def GO hr pass0 (pa_cons (pv 0) (pa_cons (pv 4) pa_nil))))))))), ?_⟩
    have ua := nu_a src
    refine Dr.par_of ?_
    refine (Dr.cons (Dr.opI (f := fun i j => i - j) (W := In (-5) 15) (draw_wide rfl rfl) (ofEv (quart rfl)) in_int is_int fun i j h1 h2 => ?w1) (Dr.cons (Dr.opI (f := fun i j => i - j) (W := In (-1) 4) (draw_int rfl) (ofEv Ev.int) in_int is_int fun i j h1 h2 => ?w2) Dr.nil) : Dr.A K a (nu H) _ H _ _ _) H _ k ua (fresh_nu H) src (by omega) vis_same fun vs H1 ds sds src1 s1 dvs => ?_
    case w1 =>
      obtain ⟨i, e, h0, h1⟩ := h1
      cases e
      cases h2
      have e5 : (20 : Int).fdiv 4 = 5 := by decide
      exact ⟨_, rfl, by omega, by omega⟩
    case w2 =>
      obtain ⟨i, e, h0, h1⟩ := h1
      cases e
      cases h2
      exact ⟨_, rfl, by omega, by omega⟩
    obtain ⟨d, e, rfl, ⟨i, rfl, i0, i1⟩, ⟨j, rfl, j0, j1⟩⟩ := all2 sds
    obtain rfl := dva2 dvs
    refine ⟨_, _, rfl, ?_⟩
    have hij : -1000 ≤ i ∧ i ≤ 1000 ∧ -1000 ≤ j ∧ j ≤ 1000 := ⟨by omega, by omega, by omega, by omega⟩
    have f1 := fgo src1 (fresh_nu H) s1
    refine seqasg_of ?_
    refine (Dr.lst (Dr.cons (Dr.tup (Dr.cons (ofEv Ev.str) (Dr.cons (Dr.tup (Dr.cons (ofEv (v0 rfl)) (Dr.cons (ofEv (v0 rfl)) Dr.nil))) Dr.nil)))
      (Dr.cons (Dr.tup (Dr.cons (ofEv Ev.str) (Dr.cons (Dr.tup (Dr.cons (ofEv (v0 rfl)) (Dr.cons (ofEv (v0 rfl)) (Dr.cons (draw_int rfl) Dr.nil)))) Dr.nil))) Dr.nil)) : Dr.E K a (nu H) _ H1 _ _ _) H1 _ _ ua f1 src1 (by omega) vis_same fun v2 H2 d2 sd2 src2 s2 dv2 => ?_
    refine name_of (seqasg_of ?_)
    have f2 := fgo src2 f1 s2
    refine (Dr.catN (Dr.var rfl dv2 sd2) (Dr.lst (Dr.cons (Dr.tup (Dr.cons (ofEv Ev.str) (Dr.cons (Dr.tup (Dr.cons (Dr.comp (lo := 1) (R := 3) (j := 5)
      ((Dr.opI (f := fun i j => i + j) (ofEv Ev.int) (draw_int rfl) is_int in_int fun i j h1 h2 => ?w3 : Dr.E _ _ _ _ _ _ _ (fun d => ∃ r : Nat, d = .int r ∧ 1 ≤ r ∧ r ≤ 3))) (by decide) (fun x => rfl) in_int (fun i => draw_int (m := 5) rfl)) Dr.nil)) Dr.nil))) Dr.nil)) : Dr.EN K a (nu H) _ H2 _ _ _) H2 _ _ ua f2 src2 (by omega) vis_same fun l H3 vs ds nl la hl sd3 src3 s3 dvs3 => ?_
    case w3 =>
      obtain ⟨j, e, g0, g1⟩ := h2
      cases h1
      cases e
      exact ⟨(1 + j).toNat, by rw [show ((1 + j).toNat : Int) = 1 + j by omega], by omega, by omega⟩
    refine name_of ?_
    have f3 := fgo src3 f2 s3
    have s13 := hid_step s1 (hid_step s2 s3)
    refine app_of (U := nu H) (k := _) rfl (Dr.tup (Dr.cons (ofEv Ev.str) (Dr.cons (Dr.tup (Dr.cons (Dr.comp (lo := 0) (R := 5) (j := 5) ((draw_int (m := 6) rfl).mono (m := 1) (by omega) fun d h => ?w4) (by decide) (fun x => rfl) in_int (fun i => draw_int (m := 5) rfl)) Dr.nil)) Dr.nil))) la ua f3 src3 (by omega) hl (dvs3.same les_hid) (by rw [sd3.length]; exact Nat.le_of_ble_eq_true rfl) fun v4 H4 d4 sd4 src4 s4 hl4 dvs4 => ?_
    case w4 =>
      obtain ⟨j, rfl, h0, h1⟩ := h
      exact ⟨j.toNat, by rw [show ((j.toNat : Nat) : Int) = j by omega], by omega, by omega⟩
    have nlH : H l = none := none_before src2 (hid_step s1 s2) nl
    have s14 : Same (hid a H) H4 := fun b o e => s4 b o (by
      have bn := ne_of_none (hid_of e).2 nlH
      rw [hid_ne bn, hid_ne (hid_of e).1]
      exact s13 b o e)
    have f4 := fgo src4 (fresh_nu H) s14
    have sd5 := sd3.append (.cons sd4 .nil)
    refine ret_of ?_
    refine (Dr.one rfl (Dr.var rfl (Dv.lst (vis_at (fresh_nu H l nlH) hl4) (by rw [dvs4.length, sd5.length]; exact Nat.le_of_ble_eq_true rfl) (dvs4.same les_vis)) ⟨_, rfl, sd5⟩) : Dr.E K a (nu H) _ H4 _ _ _) H4 _ _ ua f4 src4 (by omega) vis_same fun v5 H5 d5 sd6 src5 s5 dv5 => ?_
    rw [vis_nu] at dv5
    refine q v5 H5 d5 (all_of sd6 fun S hS => ?_) (src5.mono (by omega)) (hid_step s14 s5) dv5
    simp only [List.mem_cons, List.not_mem_nil, or_false, List.cons_append, List.nil_append] at hS
    rcases hS with rfl | rfl | rfl | rfl
    · exact sg_count hij
    · exact sg_span hij
    · exact sg_ring
    · exact sg_row
end
end Pw
set_option maxHeartbeats 4000000
/-! _law_single -/
namespace Pw
open PySem PySem.Spec PyProof.Rows L2 Dr
open Ev (vis vis_at vis_of vis_same vis_mono vis_grow Fresh nu fresh_nu vis_nu)
abbrev sSingle : Stmt := topS 63
abbrev sSingleN : List Str := ["_law_source", "_law_wide", "_law_number", "_law_kinds", "_law_k", "_law_how"]
theorem scSingle : FnScope sSingleN ["_law_source", "_law_wide"] (defScope sSingle) := ⟨rfl, rfl, rfl, by decide +kernel, rfl, by decide +kernel, by decide +kernel⟩
abbrev TPd : Pd := fun d => isTest d = true ∧ smB d = true
theorem dr_test {K : PySem.W.Frag} {a : Addr} {U : Addr → Bool} {H0 : Hp} {σ : L2.St} (h0 : σ[0]? = some (some (.ref a))) (h1 : σ[1]? = some (some (.int 20))) : Dr.E K a U 10 H0 σ (tCall (spTest2 K) [] E0 (tCons (tVar 0) (tCons (tVar 1) tNil))) TPd := fun H Q k ua fr src hk sm q =>
  ⟨_, h0, _, h1, a, k, rfl, src, hk, fun v H' d t1 t2 src' s' dv => q v H' d ⟨t1, t2⟩ src' s' (new_vis fr dv)⟩
theorem int_mod {K : PySem.W.Frag} {U : Addr → Bool} {H0 : Hp} {σ : L2.St} {i : Nat} {z : Int} (hs : σ[i]? = some (some (.int z))) : Ev.E K U H0 σ (tOp (rI (fun _ j => j ≠ 0) fun i j => V.int (i.fmod j)) (tCB (fun xs H Q => (∃ i, xs = [V.int i] ∧ Q (V.int i) H) ∨ ∃ k, xs = [V.bl k] ∧ Q (V.int (if k then 1 else 0)) H) (tCons (tVar i) tNil)) (tC (.int 3))) (.int (z.fmod 3)) := fun H Q _ _ q => ⟨_, hs, .inl ⟨_, rfl, _, _, rfl, rfl, (by show (3 : Int) ≠ 0; decide), q _ _ (Same.refl _) (.int _)⟩⟩
abbrev DK : Pd := DrawnK (1, 1)
theorem two {P : PyData → Prop} {d e : PyData} (h1 : P d) (h2 : P e) : ∀ p ∈ [d, e], P p := fun p hp => by
  simp only [List.mem_cons, List.not_mem_nil, or_false] at hp
  rcases hp with rfl | rfl
  · exact h1
  · exact h2
theorem sole {P : PyData → Prop} {d : PyData} (h1 : P d) : ∀ p ∈ [d], P p := fun p hp => by
  rw [List.mem_singleton.mp hp]
  exact h1
theorem none_of {P : PyData → Prop} : ∀ p ∈ ([] : List PyData), P p := fun p hp => absurd hp (by simp)
theorem sg_scale : ∀ d, KPd "scale" [In (-2) 3, In 0 20] d → DK d := good_of (ws := ["integer", "integer"]) (by decide +kernel) (by decide +kernel) (by decide) (by decide) rfl fun ps hp => by
  obtain ⟨d, e, rfl, ⟨i, rfl, h1, h2⟩, j, rfl, h3, h4⟩ := all2 hp
  exact ⟨fitsC (so_integer (by omega) (by omega)) (fitsC (so_integer (by omega) (by omega)) fits0), two sm_int sm_int⟩
theorem sg_tst {k : Str} (hk : k = "keep" ∨ k = "until" ∨ k = "after") : ∀ d, KPd k [TPd] d → DK d := good_of (ws := ["test"]) (by rcases hk with rfl | rfl | rfl <;> decide +kernel) (by rcases hk with rfl | rfl | rfl <;> decide +kernel) (by rcases hk with rfl | rfl | rfl <;> decide) (by rcases hk with rfl | rfl | rfl <;> decide) rfl fun ps hp => by
  obtain ⟨d, rfl, h1, h2⟩ := all1 hp
  exact ⟨fitsC (so_test h1) fits0, sole h2⟩
theorem sg_take {n : Int} (h : 0 ≤ n ∧ n < 5) : ∀ d, KPd "take" [Is (.int n)] d → DK d := good_of (ws := ["from 0"]) (by decide +kernel) (by decide +kernel) (by decide) (by decide) rfl fun ps hp => by
  obtain ⟨d, rfl, rfl⟩ := all1 hp
  exact ⟨fitsC (so_from0 (by omega) (by omega)) fits0, sole sm_int⟩
theorem sg_drop {n : Int} (h : 0 ≤ n ∧ n < 5) : ∀ d, KPd "drop" [Is (.int n)] d → DK d := good_of (ws := ["from 0"]) (by decide +kernel) (by decide +kernel) (by decide) (by decide) rfl fun ps hp => by
  obtain ⟨d, rfl, rfl⟩ := all1 hp
  exact ⟨fitsC (so_from0 (by omega) (by omega)) fits0, sole sm_int⟩
theorem sg_step {n : Int} (h : 0 ≤ n ∧ n < 5) : ∀ d, KPd "step" [Is (.int (1 + n))] d → DK d := good_of (ws := ["from 1"]) (by decide +kernel) (by decide +kernel) (by decide) (by decide) rfl fun ps hp => by
  obtain ⟨d, rfl, rfl⟩ := all1 hp
  exact ⟨fitsC (so_from1 (by omega) (by omega)) fits0, sole sm_int⟩
theorem sg_bare {k : Str} (hk : k = "pairs" ∨ k = "heads" ∨ k = "lengths" ∨ k = "dying") : ∀ d, KPd k [] d → DK d := good_of (ws := []) (by rcases hk with rfl | rfl | rfl | rfl <;> decide +kernel) (by rcases hk with rfl | rfl | rfl | rfl <;> decide +kernel) (by rcases hk with rfl | rfl | rfl | rfl <;> decide) (by rcases hk with rfl | rfl | rfl | rfl <;> decide) rfl fun ps hp => by
  cases hp
  exact ⟨fits0, none_of⟩
theorem sg_table : ∀ d, KPd "table" [IntsN 1 2 9] d → DK d := good_of (ws := ["some integers"]) (by decide +kernel) (by decide +kernel) (by decide) (by decide) rfl fun ps hp => by
  obtain ⟨d, rfl, ds, rfl, h1, h2, h3⟩ := all1 hp
  exact ⟨fitsC (so_some h1 (by omega) (ints_param (lo := 0) (hi := 0) (by decide) h3)) fits0, sole (ints_sm h3)⟩
theorem sg_stutter {n : Int} (h : 0 ≤ n ∧ n ≤ 2) : ∀ d, KPd "stutter" [Is (.int (1 + n))] d → DK d := good_of (ws := ["1 to 50"]) (by decide +kernel) (by decide +kernel) (by decide) (by decide) rfl fun ps hp => by
  obtain ⟨d, rfl, rfl⟩ := all1 hp
  exact ⟨fitsC (so_50 (by omega) (by omega)) fits0, sole sm_int⟩
theorem sg_ahead {n : Int} (h : 0 ≤ n ∧ n ≤ 2) : ∀ d, KPd "ahead" [Is (.int n)] d → DK d := good_of (ws := ["0 to 20"]) (by decide +kernel) (by decide +kernel) (by decide) (by decide) rfl fun ps hp => by
  obtain ⟨d, rfl, rfl⟩ := all1 hp
  exact ⟨fitsC (so_20 (by omega) (by omega)) fits0, sole sm_int⟩
theorem sg_fault {n : Int} (h : 0 ≤ n ∧ n < 5) : ∀ d, KPd "fault" [Is (.int n), Is (.str "net")] d → DK d := good_of (ws := ["from 0", "name"]) (by decide +kernel) (by decide +kernel) (by decide) (by decide) rfl fun ps hp => by
  obtain ⟨d, e, rfl, rfl, rfl⟩ := all2 hp
  exact ⟨fitsC (so_from0 (by omega) (by omega)) (fitsC (by decide +kernel) fits0), two sm_int (sm_short (by decide))⟩
theorem sg_disk : ∀ d, KPd "fault" [In 0 12, Is (.str "disk")] d → DK d := good_of (ws := ["from 0", "name"]) (by decide +kernel) (by decide +kernel) (by decide) (by decide) rfl fun ps hp => by
  obtain ⟨d, e, rfl, ⟨i, rfl, h1, h2⟩, rfl⟩ := all2 hp
  exact ⟨fitsC (so_from0 (by omega) (by omega)) (fitsC (by decide +kernel) fits0), two sm_int (sm_short (by decide))⟩
theorem sg_calm : ∀ d, KPd "calm" [One [Is (.str "stop"), Is (.str "skip")]] d → DK d := good_of (ws := ["calm word"]) (by decide +kernel) (by decide +kernel) (by decide) (by decide) rfl fun ps hp => by
  obtain ⟨d, rfl, S, m, h⟩ := all1 hp
  simp only [List.mem_cons, List.not_mem_nil, or_false] at m
  rcases m with rfl | rfl <;> (cases h; exact ⟨fitsC (by decide +kernel) fits0, sole (sm_short (by decide))⟩)
theorem sg_closing : ∀ d, KPd "closing" [One [Is (.str "note"), Is (.str "done")]] d → DK d := good_of (ws := ["name"]) (by decide +kernel) (by decide +kernel) (by decide) (by decide) rfl fun ps hp => by
  obtain ⟨d, rfl, S, m, h⟩ := all1 hp
  simp only [List.mem_cons, List.not_mem_nil, or_false] at m
  rcases m with rfl | rfl <;> (cases h; exact ⟨fitsC (by decide +kernel) fits0, sole (sm_short (by decide))⟩)
abbrev Hows : Pd := One [Is (.str "first"), Is (.str "last"), Is (.str "many"), Is (.str "sum")]
theorem sg_batch {n : Int} (h : 0 ≤ n ∧ n ≤ 2) {hw : PyData} (hh : Hows hw) : ∀ d, KPd "batch" [Is (.int (1 + n)), Is hw, One [Is (.str "give"), Is (.str "lose")]] d → DK d := fun d hd => by
  obtain ⟨ps, rfl, ha⟩ := kpd_of hd
  obtain ⟨d1, d2, d3, rfl, rfl, rfl, S, m, h3⟩ := all3 ha
  obtain ⟨T, m2, h2⟩ := hh
  simp only [List.mem_cons, List.not_mem_nil, or_false] at m m2
  have hb : batchOk "batch" [.int (1 + n), d2, d3] = true := by
    rcases m2 with rfl | rfl | rfl | rfl <;> (cases h2; show (!decide (_ = _) || (!decide (_ = _) || decide (1 + n ≤ 50))) = true; rw [decide_eq_true (show 1 + n ≤ 50 by omega), Bool.or_true, Bool.or_true])
  have hf : fits ["from 1", "batch how", "batch rest"] [.int (1 + n), d2, d3] = true := fitsC (so_from1 (by omega) (by omega)) (fitsC (by rcases m2 with rfl | rfl | rfl | rfl <;> (cases h2; decide +kernel)) (fitsC (by rcases m with rfl | rfl <;> (cases h3; decide +kernel)) fits0))
  refine ⟨"batch", _, rfl, par_of (ws := ["from 1", "batch how", "batch rest"]) (by decide +kernel) rfl hf hb, by decide +kernel, by decide, sm_tup fun p hp => ?_⟩
  simp only [List.mem_cons, List.not_mem_nil, or_false] at hp
  rcases hp with rfl | rfl | rfl
  · exact sm_int
  · rcases m2 with rfl | rfl | rfl | rfl <;> (cases h2; exact sm_short (by decide))
  · rcases m with rfl | rfl <;> (cases h3; exact sm_short (by decide))
abbrev Lk (n : Nat) : Pd := Lst (List.replicate n DK)
end Pw
namespace Dr
open PySem PySem.Spec PyProof.Rows L2 Pw
open Ev (vis vis_at vis_of vis_same vis_mono vis_grow Fresh nu fresh_nu vis_nu)
/-- xs = xs + [...] -/
theorem kcat {K : PySem.W.Frag} {a : Addr} {U : Addr → Bool} {n n0 m i : Nat} {H H0 : Hp} {σ : L2.St} {te : TE} {u : TS} {D : Ends} {k : Int} {v : V} {d : PyData} (he : E K a U n H σ te (Lk m)) (hs : σ[i]? = some (some v)) (dv : Dv K (vis U H) v d) (sd : Lk n0 d) (ua : U a = false) (fr : Fresh U H) (src : Src H a k) (s0 : Same (hid a H0) H) (hk : k + n < 1000000)
    (h : ∀ p H' vs ds, Dv K (vis U H') (.ref p) (.list ds) → H p = none → p ≠ a → H' p = some (.lst vs) → All2 (List.replicate (n0 + m) DK) ds → DvAll K (vis (les U p) H') vs ds → Src H' a (k + n) → Fresh U H' → Same (hid a H0) H' → u D (σ.set i (some (.ref p))) H') (hz : n0 + m ≤ 1000 := by exact Nat.le_of_ble_eq_true rfl) :
    tSeq (tAsg (tOp rCat (tVar i) te) (gName i)) u D σ H := by
  have z1 : (List.replicate n0 DK).length + (List.replicate m DK).length ≤ 1000 := by
    rw [List.length_replicate, List.length_replicate]
    exact hz
  refine seqasg_of ((catN (var hs dv sd) he z1 : EN K a U _ H _ _ _) H _ k ua fr src (by omega) vis_same fun p H' vs ds np pa hp sds src' s' dvs => ?_)
  rw [List.replicate_append_replicate] at sds
  refine name_of (h p H' vs ds (.lst (vis_at (fr p np) hp) ?_ (dvs.same fun b o e => (hid_of e).2)) np pa hp sds (dvs.same les_hid) (src'.mono (by omega)) (fgo src' fr s') (hid_step s0 s'))
  rw [dvs.length, sds.length, List.length_replicate]
  exact hz
end Dr

namespace Pw
open PySem PySem.Spec PyProof.Rows L2 Dr
open Ev (vis vis_at vis_of vis_same vis_mono vis_grow Fresh nu fresh_nu vis_nu)
section
variable {P : Program} {w : World} {K : PySem.W.Frag} {mg : Str → Option Value} {base : Heap}
theorem ok_single (B : Blt mg) (G : DefOk P w K mg base CX0 1 "_law_next" ["_law_source", "_law_many"] spNext) (GO : DefOk P w K mg base CX0 2 "_law_one" ["_law_source", "_law_options"] (spOne K)) (GT : DefOk P w K mg base CX0 2 "_law_test" ["_law_source", "_law_wide"] (spTest2 K)) (D : Dfn K mg "_law_single" sSingle ["_law_source", "_law_wide"]) :
    DefOk P w K mg base CX0 3 "_law_single" ["_law_source", "_law_wide"] (spDrawn K (1, 1) 60) := D.ok fun f fd F => by
  refine F.ok scSingle (fun vs H Q E h => ?_) (fun cdv A outer s H vs Q E hr h => ?_)
  · obtain ⟨a, k, rfl, _⟩ := h
    rfl
  · obtain ⟨a, k, rfl, src, hk, q⟩ := h
    have nd := scSingle.nd
    refine ⟨_, (pss_cons (ps_set (i := 2) nd rfl (.inl rfl) (pe_def G hr pass0 (pa_cons (pv 0) (pa_cons pe_int pa_nil))))
      (pss_cons (ps_set (i := 3) nd rfl (.inl rfl) (pe_lst (pa_cons (pe_tup (pa_cons pe_str (pa_cons (pe_tup (pa_cons (pe_op op_sub (pe_def G hr pass0 (pa_cons (pv 0) (pa_cons pe_int pa_nil))) pe_int) (pa_cons (pe_def G hr pass0 (pa_cons (pv 0) (pa_cons (pv 1) pa_nil))) pa_nil))) pa_nil))) pa_nil)))
      (pss_cons (ps_set (i := 3) nd rfl (.inl rfl) (pe_op op_cat (pv 3) (pe_lst (pa_cons (pe_tup (pa_cons pe_str (pa_cons (pe_tup (pa_cons (pe_def GT hr pass0 (pa_cons (pv 0) (pa_cons (pv 1) pa_nil))) pa_nil)) pa_nil))) pa_nil))))
      (pss_cons (ps_set (i := 3) nd rfl (.inl rfl) (pe_op op_cat (pv 3) (pe_lst (pa_cons (pe_tup (pa_cons pe_str (pa_cons (pe_tup (pa_cons (pe_def GT hr pass0 (pa_cons (pv 0) (pa_cons (pv 1) pa_nil))) pa_nil)) pa_nil))) (pa_cons (pe_tup (pa_cons pe_str (pa_cons (pe_tup (pa_cons (pe_def GT hr pass0 (pa_cons (pv 0) (pa_cons (pv 1) pa_nil))) pa_nil)) pa_nil))) pa_nil)))))
      (pss_cons (ps_set (i := 3) nd rfl (.inl rfl) (pe_op op_cat (pv 3) (pe_lst (pa_cons (pe_tup (pa_cons pe_str (pa_cons (pe_tup (pa_cons (pv 2) pa_nil)) pa_nil))) pa_nil))))
      (pss_cons (ps_set (i := 3) nd rfl (.inl rfl) (pe_op op_cat (pv 3) (pe_lst (pa_cons (pe_tup (pa_cons pe_str (pa_cons (pe_tup (pa_cons (pv 2) pa_nil)) pa_nil))) (pa_cons (pe_tup (pa_cons pe_str (pa_cons (pe_tup (pa_cons (pe_op op_add pe_int (pv 2)) pa_nil)) pa_nil))) (pa_cons (pe_tup (pa_cons pe_str (pa_cons (pe_tup pa_nil) pa_nil))) (pa_cons (pe_tup (pa_cons pe_str (pa_cons (pe_tup pa_nil) pa_nil))) pa_nil)))))))
      (pss_cons (ps_set (i := 3) nd rfl (.inl rfl) (pe_op op_cat (pv 3) (pe_lst (pa_cons (pe_tup (pa_cons pe_str (pa_cons (pe_tup pa_nil) pa_nil))) pa_nil))))
      (pss_cons (ps_set (i := 3) nd rfl (.inl rfl) (pe_op op_cat (pv 3) (pe_lst (pa_cons (pe_tup (pa_cons pe_str (pa_cons (pe_tup (pa_cons (pe_lc (own := [("_law_k", 4)]) (g := gName 4) (tt := tYes) rfl nd (pi_range1 rfl B.range (pa_cons (pe_op op_add pe_int (pe_def G hr pass0 (pa_cons (pv 0) (pa_cons pe_int pa_nil)))) pa_nil)) (blkOk_by (N := sSingleN) (sc := defScope sSingle) (by decide +kernel)) (fun _ _ _ _ _ => (pg_name (i := 4) nd rfl (Or.inl rfl))) (fun _ _ _ _ _ => pts_nil) (fun _ _ _ _ _ => (pe_def G hr pass0 (pa_cons (pv 0) (pa_cons pe_int pa_nil))))) pa_nil)) pa_nil))) pa_nil))))
      (pss_cons (ps_set (i := 3) nd rfl (.inl rfl) (pe_op op_cat (pv 3) (pe_lst (pa_cons (pe_tup (pa_cons pe_str (pa_cons (pe_tup pa_nil) pa_nil))) pa_nil))))
      (pss_cons (ps_set (i := 5) nd rfl (.inl rfl) (pe_def GO hr pass0 (pa_cons (pv 0) (pa_cons (pe_lst (pa_cons pe_str (pa_cons pe_str (pa_cons pe_str (pa_cons pe_str pa_nil))))) pa_nil))))
      (pss_cons (ps_expr (pe_bm PySem.F.plainAttrs_list PySem.F.slot_list_append PySem.F.type_list_append mt_append (pv 3) (pa_cons (pe_tup (pa_cons pe_str (pa_cons (pe_tup (pa_cons (pe_op op_add pe_int (pe_op op_modN (pe_callTy call_int1 (by rfl) B.int boot_int (pa_cons (pv 2) pa_nil)) pe_int)) (pa_cons (pv 5) (pa_cons (pe_def GO hr pass0 (pa_cons (pv 0) (pa_cons (pe_lst (pa_cons pe_str (pa_cons pe_str pa_nil))) pa_nil))) pa_nil)))) pa_nil))) pa_nil)))
      (pss_cons (ps_set (i := 3) nd rfl (.inl rfl) (pe_op op_cat (pv 3) (pe_lst (pa_cons (pe_tup (pa_cons pe_str (pa_cons (pe_tup (pa_cons (pe_op op_add pe_int (pe_op op_modN (pe_callTy call_int1 (by rfl) B.int boot_int (pa_cons (pv 2) pa_nil)) pe_int)) pa_nil)) pa_nil))) (pa_cons (pe_tup (pa_cons pe_str (pa_cons (pe_tup (pa_cons (pe_op op_modN (pe_callTy call_int1 (by rfl) B.int boot_int (pa_cons (pv 2) pa_nil)) pe_int) pa_nil)) pa_nil))) (pa_cons (pe_tup (pa_cons pe_str (pa_cons (pe_tup (pa_cons (pv 2) (pa_cons pe_str pa_nil))) pa_nil))) pa_nil))))))
      (pss_cons (ps_set (i := 3) nd rfl (.inl rfl) (pe_op op_cat (pv 3) (pe_lst (pa_cons (pe_tup (pa_cons pe_str (pa_cons (pe_tup (pa_cons (pe_def GO hr pass0 (pa_cons (pv 0) (pa_cons (pe_lst (pa_cons pe_str (pa_cons pe_str pa_nil))) pa_nil))) pa_nil)) pa_nil))) pa_nil))))
      (pss_cons (ps_set (i := 3) nd rfl (.inl rfl) (pe_op op_cat (pv 3) (pe_lst (pa_cons (pe_tup (pa_cons pe_str (pa_cons (pe_tup (pa_cons (pe_def GO hr pass0 (pa_cons (pv 0) (pa_cons (pe_lst (pa_cons pe_str (pa_cons pe_str pa_nil))) pa_nil))) pa_nil)) pa_nil))) pa_nil))))
      (pss_one (ps_ret (pe_def GO hr pass0 (pa_cons (pv 0) (pa_cons (pe_op op_cat (pv 3) (pe_lst (pa_cons (pe_tup (pa_cons pe_str (pa_cons (pe_tup (pa_cons (pe_def G hr pass0 (pa_cons (pv 0) (pa_cons pe_int pa_nil))) (pa_cons pe_str pa_nil))) pa_nil))) pa_nil))) pa_nil))))))))))))))))))), ?_⟩
    have ua := nu_a src
    -- number
    refine seqasg_of ?_
    refine (draw_int (m := 5) rfl : Dr.E K a (nu H) _ H _ _ _) H _ k ua (fresh_nu H) src (by omega) vis_same fun v1 H1 d1 sd1 src1 s1 dv1 => ?_
    obtain ⟨n, rfl, n0, n1⟩ := sd1
    cases dv1
    refine name_of ?_
    have f1 := fgo src1 (fresh_nu H) s1
    have hn : 0 ≤ n ∧ n < 5 := ⟨n0, n1⟩
    have hm : 0 ≤ n.fmod 3 ∧ n.fmod 3 ≤ 2 := by
      have e : n = 0 ∨ n = 1 ∨ n = 2 ∨ n = 3 ∨ n = 4 := by omega
      rcases e with rfl | rfl | rfl | rfl | rfl <;> decide
    -- scale
    refine seqasg_of ?_
    refine (Dr.lst (Dr.cons ((Dr.tup (Dr.cons (ofEv Ev.str) (Dr.cons (Dr.tup (Dr.cons (Dr.opI (f := fun i j => i - j) (W := In (-2) 3) (draw_int rfl) (ofEv Ev.int) in_int is_int fun i j h1 h2 => ?w1) (Dr.cons (draw_wide rfl rfl) Dr.nil))) Dr.nil))).mono (Nat.le_refl _) sg_scale) Dr.nil) : Dr.E K a (nu H) _ H1 _ _ _) H1 _ _ ua f1 src1 (by omega) vis_same fun v2 H2 d2 sd2 src2 s2 dv2 => ?_
    case w1 =>
      obtain ⟨i, e, g0, g1⟩ := h1
      cases e
      cases h2
      exact ⟨_, rfl, by omega, by omega⟩
    refine name_of ?_
    have f2 := fgo src2 f1 s2
    -- keep
    refine kcat (U := nu H) (n0 := 1) (m := 1) (Dr.lst (Dr.cons ((Dr.tup (Dr.cons (ofEv Ev.str) (Dr.cons (Dr.tup (Dr.cons (dr_test rfl rfl) Dr.nil)) Dr.nil))).mono (Nat.le_refl _) (sg_tst (.inl rfl))) Dr.nil)) rfl dv2 sd2 ua f2 src2 (hid_step s1 s2) (by omega) fun p3 H3 vs3 ds3 dv3 _ _ _ sd3 _ src3 f3 s3 => ?_
    refine kcat (U := nu H) (n0 := 2) (m := 2) (Dr.lst (Dr.cons ((Dr.tup (Dr.cons (ofEv Ev.str) (Dr.cons (Dr.tup (Dr.cons (dr_test rfl rfl) Dr.nil)) Dr.nil))).mono (Nat.le_refl _) (sg_tst (.inr (.inl rfl)))) (Dr.cons ((Dr.tup (Dr.cons (ofEv Ev.str) (Dr.cons (Dr.tup (Dr.cons (dr_test rfl rfl) Dr.nil)) Dr.nil))).mono (Nat.le_refl _) (sg_tst (.inr (.inr rfl)))) Dr.nil))) rfl dv3 ⟨_, rfl, sd3⟩ ua f3 src3 s3 (by omega) fun p4 H4 vs4 ds4 dv4 _ _ _ sd4 _ src4 f4 s4 => ?_
    refine kcat (U := nu H) (n0 := 4) (m := 1) (Dr.lst (Dr.cons ((Dr.tup (Dr.cons (ofEv Ev.str) (Dr.cons (Dr.tup (Dr.cons (ofEv (v0 rfl)) Dr.nil)) Dr.nil))).mono (Nat.le_refl _) (sg_take hn)) Dr.nil)) rfl dv4 ⟨_, rfl, sd4⟩ ua f4 src4 s4 (by omega) fun p5 H5 vs5 ds5 dv5 _ _ _ sd5 _ src5 f5 s5 => ?_
    refine kcat (U := nu H) (n0 := 5) (m := 4) (Dr.lst (Dr.cons ((Dr.tup (Dr.cons (ofEv Ev.str) (Dr.cons (Dr.tup (Dr.cons (ofEv (v0 rfl)) Dr.nil)) Dr.nil))).mono (Nat.le_refl _) (sg_drop hn)) (Dr.cons ((Dr.tup (Dr.cons (ofEv Ev.str) (Dr.cons (Dr.tup (Dr.cons (ofEv (Ev.add Ev.int (v0 rfl))) Dr.nil)) Dr.nil))).mono (Nat.le_refl _) (sg_step hn))
      (Dr.cons ((Dr.tup (Dr.cons (ofEv Ev.str) (Dr.cons (Dr.tup Dr.nil) Dr.nil))).mono (Nat.le_refl _) (sg_bare (.inl rfl))) (Dr.cons ((Dr.tup (Dr.cons (ofEv Ev.str) (Dr.cons (Dr.tup Dr.nil) Dr.nil))).mono (Nat.le_refl _) (sg_bare (.inr (.inl rfl)))) Dr.nil))))) rfl dv5 ⟨_, rfl, sd5⟩ ua f5 src5 s5 (by omega) fun p6 H6 vs6 ds6 dv6 _ _ _ sd6 _ src6 f6 s6 => ?_
    refine kcat (U := nu H) (n0 := 9) (m := 1) (Dr.lst (Dr.cons ((Dr.tup (Dr.cons (ofEv Ev.str) (Dr.cons (Dr.tup Dr.nil) Dr.nil))).mono (Nat.le_refl _) (sg_bare (.inr (.inr (.inl rfl))))) Dr.nil)) rfl dv6 ⟨_, rfl, sd6⟩ ua f6 src6 s6 (by omega) fun p7 H7 vs7 ds7 dv7 _ _ _ sd7 _ src7 f7 s7 => ?_
    refine kcat (U := nu H) (n0 := 10) (m := 1) (Dr.lst (Dr.cons ((Dr.tup (Dr.cons (ofEv Ev.str) (Dr.cons (Dr.tup (Dr.cons (Dr.comp (lo := 1) (R := 2) (j := 4)
      ((Dr.opI (f := fun i j => i + j) (ofEv Ev.int) (draw_int rfl) is_int in_int fun i j h1 h2 => ?w3 : Dr.E _ _ _ _ _ _ _ (fun d => ∃ r : Nat, d = .int r ∧ 1 ≤ r ∧ r ≤ 2))) (by decide) (fun x => rfl) in_int (fun i => draw_int (m := 9) rfl)) Dr.nil)) Dr.nil))).mono (Nat.le_refl _) sg_table) Dr.nil)) rfl dv7 ⟨_, rfl, sd7⟩ ua f7 src7 s7 (by omega) fun p8 H8 vs8 ds8 dv8 _ _ _ sd8 _ src8 f8 s8 => ?_
    case w3 =>
      obtain ⟨j, e, g0, g1⟩ := h2
      cases h1
      cases e
      exact ⟨(1 + j).toNat, by rw [show ((1 + j).toNat : Int) = 1 + j by omega], by omega, by omega⟩
    refine kcat (U := nu H) (n0 := 11) (m := 1) (Dr.lst (Dr.cons ((Dr.tup (Dr.cons (ofEv Ev.str) (Dr.cons (Dr.tup Dr.nil) Dr.nil))).mono (Nat.le_refl _) (sg_bare (.inr (.inr (.inr rfl))))) Dr.nil)) rfl dv8 ⟨_, rfl, sd8⟩ ua f8 src8 s8 (by omega) fun p9 H9 vs9 ds9 dv9 np9 pa9 hp9 sd9 dvs9 src9 f9 s9 => ?_
    -- how
    refine seqasg_of ?_
    refine (Dr.one rfl (Dr.lst (Dr.cons (ofEv Ev.str) (Dr.cons (ofEv Ev.str) (Dr.cons (ofEv Ev.str) (Dr.cons (ofEv Ev.str) Dr.nil))))) : Dr.E K a (les (nu H) p9) _ H9 _ _ _) H9 _ _ (les_a ua) (les_fresh f9 hp9) src9 (by omega) vis_same fun vh H10 dh sdh src10 s10 dvh => ?_
    refine name_of ?_
    have dvs10 := dvs9.same (vgo (les_a ua) s10)
    have hp10 := s10 _ _ (show hid a H9 p9 = _ by rw [hid_ne pa9]; exact hp9)
    have f10 := fgo src10 f9 s10
    have s10' := hid_step s9 s10
    have np0 : H p9 = none := none_before src8 s8 np9
    -- batch
    refine app_of (U := nu H) rfl ((Dr.tup (Dr.cons (ofEv Ev.str) (Dr.cons (Dr.tup (Dr.cons (ofEv (Ev.add Ev.int (int_mod rfl))) (Dr.cons (Dr.var (S := Is dh) rfl dvh rfl) (Dr.cons (Dr.one rfl (Dr.lst (Dr.cons (ofEv Ev.str) (Dr.cons (ofEv Ev.str) Dr.nil)))) Dr.nil)))) Dr.nil))).mono (Nat.le_refl _) (sg_batch hm sdh)) pa9 ua f10 src10 (by omega) hp10 dvs10 (by rw [sd9.length]; exact Nat.le_of_ble_eq_true rfl) fun v11 H11 d11 sd11 src11 s11 hp11 dvs11 => ?_
    have s11' : Same (hid a H) H11 := fun b o e => s11 b o (by
      have bn := ne_of_none (hid_of e).2 np0
      rw [hid_ne bn, hid_ne (hid_of e).1]
      exact s10' b o e)
    have f11 := fgo src11 (fresh_nu H) s11'
    have sd12 : All2 (List.replicate 13 DK) (ds9 ++ [d11]) := sd9.append (.cons sd11 .nil)
    have dv11 : Dv K (vis (nu H) H11) (.ref p9) (.list (ds9 ++ [d11])) := .lst (vis_at (fresh_nu H p9 np0) hp11) (by rw [dvs11.length, sd12.length]; exact Nat.le_of_ble_eq_true rfl) (dvs11.same les_vis)
    refine kcat (U := nu H) (n0 := 13) (m := 3) (Dr.lst (Dr.cons ((Dr.tup (Dr.cons (ofEv Ev.str) (Dr.cons (Dr.tup (Dr.cons (ofEv (Ev.add Ev.int (int_mod rfl))) Dr.nil)) Dr.nil))).mono (Nat.le_refl _) (sg_stutter hm)) (Dr.cons ((Dr.tup (Dr.cons (ofEv Ev.str) (Dr.cons (Dr.tup (Dr.cons (ofEv (int_mod rfl)) Dr.nil)) Dr.nil))).mono (Nat.le_refl _) (sg_ahead hm)) (Dr.cons ((Dr.tup (Dr.cons (ofEv Ev.str) (Dr.cons (Dr.tup (Dr.cons (ofEv (v0 rfl)) (Dr.cons (ofEv Ev.str) Dr.nil))) Dr.nil))).mono (Nat.le_refl _) (sg_fault hn)) Dr.nil)))) rfl dv11 ⟨_, rfl, sd12⟩ ua f11 src11 s11' (by omega) fun p13 H13 vs13 ds13 dv13 _ _ _ sd13 _ src13 f13 s13 => ?_
    refine kcat (U := nu H) (n0 := 16) (m := 1) (Dr.lst (Dr.cons ((Dr.tup (Dr.cons (ofEv Ev.str) (Dr.cons (Dr.tup (Dr.cons (Dr.one rfl (Dr.lst (Dr.cons (ofEv Ev.str) (Dr.cons (ofEv Ev.str) Dr.nil)))) Dr.nil)) Dr.nil))).mono (Nat.le_refl _) sg_calm) Dr.nil)) rfl dv13 ⟨_, rfl, sd13⟩ ua f13 src13 s13 (by omega) fun p14 H14 vs14 ds14 dv14 _ _ _ sd14 _ src14 f14 s14 => ?_
    refine kcat (U := nu H) (n0 := 17) (m := 1) (Dr.lst (Dr.cons ((Dr.tup (Dr.cons (ofEv Ev.str) (Dr.cons (Dr.tup (Dr.cons (Dr.one rfl (Dr.lst (Dr.cons (ofEv Ev.str) (Dr.cons (ofEv Ev.str) Dr.nil)))) Dr.nil)) Dr.nil))).mono (Nat.le_refl _) sg_closing) Dr.nil)) rfl dv14 ⟨_, rfl, sd14⟩ ua f14 src14 s14 (by omega) fun p15 H15 vs15 ds15 dv15 _ _ _ sd15 _ src15 f15 s15 => ?_
    refine ret_of ?_
    refine (Dr.one rfl (Dr.cat (Dr.var rfl dv15 ⟨_, rfl, sd15⟩) (Dr.lst (Ss := [DK]) (Dr.cons ((Dr.tup (Dr.cons (ofEv Ev.str) (Dr.cons (Dr.tup (Dr.cons (draw_int rfl) (Dr.cons (ofEv Ev.str) Dr.nil))) Dr.nil))).mono (Nat.le_refl _) sg_disk) Dr.nil))) : Dr.E K a (nu H) _ H15 _ _ _) H15 _ _ ua f15 src15 (by omega) vis_same fun v16 H16 d16 sd16 src16 s16 dv16 => ?_
    rw [vis_nu] at dv16
    refine q v16 H16 d16 (all_of sd16 fun S hS => ?_) (src16.mono (by omega)) (hid_step s15 s16) dv16
    rcases List.mem_append.mp hS with hS | hS
    · rw [(List.mem_replicate.mp hS).2]
      exact fun d h => h
    · rw [List.mem_singleton.mp hS]
      exact fun d h => h
end
end Pw
set_option maxHeartbeats 2000000
/-! nets that grow node by node -/
namespace Pw
open PySem PySem.Spec PyProof.Rows L2
abbrev kn (ns : List Nd) : List (Str × Str) := ns.map fun n => (n.name, n.kind)
theorem kn_names (ns : List Nd) : (kn ns).map (·.1) = ns.map (·.name) := by
  unfold kn
  rw [List.map_map]
  rfl
def Run (ns : List Nd) (us : List (Str × Int)) : Prop := ∀ rest, checkFrom 0 [] [] (ns.map Nd.dat ++ rest) = checkFrom ns.length (kn ns) us rest
theorem Run.nil : Run [] [] := fun rest => rfl
theorem Run.step {ns : List Nd} {us : List (Str × Int)} {n : Nd} (h : Run ns us) (hn : isNode n.dat = true) (hf : n.name ∉ ns.map (·.name)) (hm : mayRead n.ins (kn ns) us = true) : Run (ns ++ [n]) (useAll us n.ins) := fun rest => by
  rw [List.map_append, List.append_assoc, h]
  show checkFrom ns.length (kn ns) us (n.dat :: rest) = _
  have e : (kn ns).lookup n.name = none := lookup_none.mpr (by rw [kn_names]; exact hf)
  have es : Pw.step (kn ns) us n.dat = some (n.name, n.kind, n.ins) := by
    unfold Nd.dat
    rw [step_at hn, e, hm]
    rfl
  rw [checkFrom, es]
  dsimp only
  rw [List.length_append, List.length_singleton]
  congr 1
  unfold kn
  rw [List.map_append]
  rfl
theorem put_at (us : List (Str × Int)) (z : Str) (v : Int) : (putU us z v).lookup z = some v := by
  unfold putU
  by_cases h : (us.any fun p => decide (p.1 = z)) = true
  · rw [if_pos h]
    induction us with
    | nil => cases h
    | cons p r ih =>
      rw [List.map_cons]
      by_cases e : p.1 = z
      · rw [if_pos e, e, List.lookup_cons, beq_self_eq_true]
      · rw [if_neg e, List.lookup_cons, beq_eq_false_iff_ne.mpr (fun q => e q.symm)]
        refine ih ?_
        rw [List.any_cons, decide_eq_false e, Bool.false_or] at h
        exact h
  · rw [if_neg h]
    induction us with
    | nil => rw [List.nil_append, List.lookup_cons, beq_self_eq_true]
    | cons p r ih =>
      rw [List.any_cons, Bool.or_eq_true, not_or] at h
      have e : p.1 ≠ z := fun q => h.1 (decide_eq_true q)
      rw [List.cons_append, List.lookup_cons, beq_eq_false_iff_ne.mpr (fun q => e q.symm)]
      exact ih h.2
theorem put_ne (us : List (Str × Int)) {z y : Str} (v : Int) (hy : y ≠ z) : (putU us z v).lookup y = us.lookup y := by
  unfold putU
  by_cases h : (us.any fun p => decide (p.1 = z)) = true
  · rw [if_pos h]
    clear h
    induction us with
    | nil => rfl
    | cons p r ih =>
      rw [List.map_cons]
      by_cases e : p.1 = z
      · rw [if_pos e, List.lookup_cons, List.lookup_cons, e, beq_eq_false_iff_ne.mpr hy]
        exact ih
      · rw [if_neg e, List.lookup_cons, List.lookup_cons]
        cases y == p.1
        · exact ih
        · rfl
  · rw [if_neg h]
    clear h
    induction us with
    | nil => rw [List.nil_append, List.lookup_cons, beq_eq_false_iff_ne.mpr hy]
    | cons p r ih =>
      rw [List.cons_append, List.lookup_cons, List.lookup_cons]
      cases y == p.1
      · exact ih
      · rfl
theorem use_ne : ∀ (zs : List Str) (us : List (Str × Int)) {y : Str}, y ∉ zs → (useAll us zs).lookup y = us.lookup y
  | [], us, y, h => rfl
  | z :: r, us, y, h => by
    show (useAll (putU us z (usesOf us z + 1)) r).lookup y = _
    rw [List.mem_cons, not_or] at h
    rw [use_ne r _ h.2, put_ne us _ h.1]
theorem use_some : ∀ (zs : List Str) (us : List (Str × Int)) {y : Str}, y ∈ zs ∨ (us.lookup y).isSome = true → ((useAll us zs).lookup y).isSome = true
  | [], us, y, h => by
    rcases h with h | h
    · cases h
    · exact h
  | z :: r, us, y, h => by
    show ((useAll (putU us z (usesOf us z + 1)) r).lookup y).isSome = true
    refine use_some r _ ?_
    by_cases e : y = z
    · subst e
      exact .inr (by rw [put_at]; rfl)
    · rw [List.mem_cons] at h
      rcases h with (h | h) | h
      · exact absurd h e
      · exact .inl h
      · exact .inr (by rw [put_ne us _ e]; exact h)
theorem lookup_snoc {ks : List (Str × Str)} {a b z : Str} (h : z ≠ a ∨ (ks.lookup z).isSome = true) : (ks ++ [(a, b)]).lookup z = ks.lookup z := by
  induction ks with
  | nil =>
    rcases h with h | h
    · rw [List.nil_append, List.lookup_cons, beq_eq_false_iff_ne.mpr h]
    · cases h
  | cons p r ih =>
    rw [List.cons_append, List.lookup_cons, List.lookup_cons]
    rw [List.lookup_cons] at h
    cases e : z == p.1
    · rw [e] at h
      exact ih h
    · rfl
theorem lookup_last {ks : List (Str × Str)} {a b : Str} (h : ks.lookup a = none) : (ks ++ [(a, b)]).lookup a = some b := by
  induction ks with
  | nil => rw [List.nil_append, List.lookup_cons, beq_self_eq_true]
  | cons p r ih =>
    rw [List.lookup_cons] at h
    rw [List.cons_append, List.lookup_cons]
    cases e : a == p.1
    · rw [e] at h
      exact ih h
    · rw [e] at h
      cases h
/-- the nodes, what is free, and how far the names have come -/
structure Grown (ns : List Nd) (free : List Str) (nm : Str → Prop) : Prop where
  run : ∃ us, Run ns us ∧ unusedSplit (kn ns) us = false ∧ (∀ z ∈ free, us.lookup z = none) ∧ ∀ z, (us.lookup z).isSome = true → z ∈ ns.map (·.name)
  kinds : ∀ z ∈ free, ∃ k, (kn ns).lookup z = some k ∧ k ≠ "split"
  nodup : free.Nodup
  names : ∀ n ∈ ns, nm n.name
  sm : ∀ n ∈ ns, smB n.dat = true
theorem Grown.nil {nm : Str → Prop} : Grown [] [] nm := ⟨⟨[], .nil, rfl, fun z h => absurd h (by simp), fun z h => by cases h⟩, fun z h => absurd h (by simp), List.nodup_nil, fun n h => absurd h (by simp), fun n h => absurd h (by simp)⟩
theorem unused_of {ks : List (Str × Str)} {us : List (Str × Int)} : unusedSplit ks us = false ↔ ∀ p ∈ ks, ks.lookup p.1 = some "split" → (us.lookup p.1).isSome = true := by
  unfold unusedSplit
  rw [List.any_eq_false]
  constructor
  · intro h p hp e
    have := h p hp
    rw [decide_eq_true e, Bool.true_and] at this
    cases z : us.lookup p.1 with
    | none => rw [z] at this; exact absurd rfl this
    | some v => rfl
  · intro h p hp q
    rw [Bool.and_eq_true] at q
    have := h p hp (of_decide_eq_true q.1)
    rw [Option.isNone_iff_eq_none] at q
    rw [q.2] at this
    cases this
theorem may_once {ks : List (Str × Str)} {us : List (Str × Int)} {zs : List Str} (hn : zs.Nodup) (h : ∀ z ∈ zs, ∃ k, ks.lookup z = some k ∧ k ≠ "split") (hu : ∀ z ∈ zs, us.lookup z = none) : mayRead zs ks us = true := by
  refine List.all_eq_true.mpr fun z hz => ?_
  obtain ⟨k, e, ne⟩ := h z hz
  unfold mayOne usesOf mostOf
  rw [e, hu z hz]
  dsimp only
  rw [if_neg ne]
  have := List.nodup_iff_count.mp hn z
  exact decide_eq_true (by show (0 : Int) + (zs.count z : Nat) ≤ 1; omega)
/-- one more node, which reads what is free -/
theorem Grown.one {ns : List Nd} {free rest : List Str} {nm nm' : Str → Prop} {n : Nd} (g : Grown ns free nm) (hn : isNode n.dat = true) (sm : smB n.dat = true) (hf : ¬ nm n.name) (hk : n.kind ≠ "split") (hi : n.ins.Nodup) (hs : ∀ z ∈ n.ins, z ∈ free) (rn : rest.Nodup) (hr : ∀ z ∈ rest, z ∈ free ∧ z ∉ n.ins) (hm : ∀ z, nm z ∨ z = n.name → nm' z) : Grown (ns ++ [n]) (rest ++ [n.name]) nm' := by
  obtain ⟨us, r, un, fu, uk⟩ := g.run
  have nf : n.name ∉ ns.map (·.name) := fun h => by
    obtain ⟨m, hm, e⟩ := List.mem_map.mp h
    exact hf (e ▸ g.names m hm)
  have nl : (kn ns).lookup n.name = none := lookup_none.mpr (by rw [kn_names]; exact nf)
  have ek : kn (ns ++ [n]) = kn ns ++ [(n.name, n.kind)] := by
    unfold kn
    rw [List.map_append]
    rfl
  have fne : ∀ z ∈ free, z ≠ n.name := fun z hz e => by
    obtain ⟨k, hk, _⟩ := g.kinds z hz
    rw [e, nl] at hk
    cases hk
  refine ⟨⟨useAll us n.ins, r.step hn nf (may_once hi (fun z hz => g.kinds z (hs z hz)) fun z hz => fu z (hs z hz)), ?_, ?_, ?_⟩, ?_, ?_, ?_, ?_⟩
  · rw [unused_of] at un ⊢
    intro p hp e
    rw [ek] at hp e
    rcases List.mem_append.mp hp with hp | hp
    · obtain ⟨v, hv⟩ := lookup_mem hp
      rw [lookup_snoc (.inr (by rw [hv]; rfl))] at e
      exact use_some _ _ (.inr (un p hp e))
    · rw [List.mem_singleton.mp hp] at e
      rw [lookup_last nl] at e
      exact absurd (Option.some.inj e) hk
  · intro z hz
    rcases List.mem_append.mp hz with hz | hz
    · rw [use_ne _ _ (hr z hz).2]
      exact fu z (hr z hz).1
    · rw [List.mem_singleton.mp hz, use_ne _ _ (fun h => fne _ (hs _ h) rfl)]
      cases e : us.lookup n.name with
      | none => rfl
      | some v => exact absurd (uk _ (by rw [e]; rfl)) nf
  · intro z hz
    rw [List.map_append]
    refine List.mem_append_left _ ?_
    by_cases h : z ∈ n.ins
    · obtain ⟨k, e, _⟩ := g.kinds z (hs z h)
      rw [← kn_names]
      refine Classical.byContradiction fun q => ?_
      rw [lookup_none.mpr q] at e
      cases e
    · rw [use_ne _ _ h] at hz
      exact uk z hz
  · intro z hz
    rw [ek]
    rcases List.mem_append.mp hz with hz | hz
    · obtain ⟨k, e, ne⟩ := g.kinds z (hr z hz).1
      exact ⟨k, by rw [lookup_snoc (.inr (by rw [e]; rfl))]; exact e, ne⟩
    · rw [List.mem_singleton.mp hz, lookup_last nl]
      exact ⟨_, rfl, hk⟩
  · refine List.nodup_append.mpr ⟨rn, List.nodup_cons.mpr ⟨by simp, List.nodup_nil⟩, fun a ha b hb => ?_⟩
    rw [List.mem_singleton.mp hb]
    exact fne a (hr a ha).1
  · intro m hm'
    rcases List.mem_append.mp hm' with h | h
    · exact hm _ (.inl (g.names m h))
    · rw [List.mem_singleton.mp h]
      exact hm _ (.inr rfl)
  · intro m hm'
    rcases List.mem_append.mp hm' with h | h
    · exact g.sm m h
    · rw [List.mem_singleton.mp h]
      exact sm
/-- a split and what reads it -/
theorem Grown.pair {ns : List Nd} {free rest : List Str} {nm nm' : Str → Prop} {n : Nd} {s x : Str} {m : Nat} (g : Grown ns free nm) (h1 : isNode (⟨s, "split", [], [x]⟩ : Nd).dat = true) (sm1 : smB (⟨s, "split", [], [x]⟩ : Nd).dat = true) (hn : isNode n.dat = true) (sm : smB n.dat = true) (fs : ¬ nm s) (hf : ¬ nm n.name) (sn : s ≠ n.name)
    (hk : n.kind ≠ "split") (hi : n.ins = List.replicate m s) (m1 : 1 ≤ m) (m5 : m ≤ 5) (hx : x ∈ free) (rn : rest.Nodup) (hr : ∀ z ∈ rest, z ∈ free ∧ z ≠ x) (hm : ∀ z, nm z ∨ z = s ∨ z = n.name → nm' z) : Grown ((ns ++ [⟨s, "split", [], [x]⟩]) ++ [n]) (rest ++ [n.name]) nm' := by
  obtain ⟨us, r, un, fu, uk⟩ := g.run
  have sns : s ∉ ns.map (·.name) := fun h => by
    obtain ⟨m, hm, e⟩ := List.mem_map.mp h
    exact fs (e ▸ g.names m hm)
  have nf : n.name ∉ ns.map (·.name) := fun h => by
    obtain ⟨m, hm, e⟩ := List.mem_map.mp h
    exact hf (e ▸ g.names m hm)
  have sl : (kn ns).lookup s = none := lookup_none.mpr (by rw [kn_names]; exact sns)
  have nl0 : (kn ns).lookup n.name = none := lookup_none.mpr (by rw [kn_names]; exact nf)
  have ek1 : kn (ns ++ [⟨s, "split", [], [x]⟩]) = kn ns ++ [(s, ("split" : Str))] := by
    unfold kn
    rw [List.map_append]
    rfl
  have ek : kn ((ns ++ [⟨s, "split", [], [x]⟩]) ++ [n]) = (kn ns ++ [(s, ("split" : Str))]) ++ [(n.name, n.kind)] := by
    rw [← ek1]
    unfold kn
    rw [List.map_append]
    rfl
  have nl1 : (kn ns ++ [(s, ("split" : Str))]).lookup n.name = none := by rw [lookup_snoc (.inl (Ne.symm sn))]; exact nl0
  have usN : ∀ z, z ∉ ns.map (·.name) → us.lookup z = none := fun z h => by
    cases e : us.lookup z with
    | none => rfl
    | some v => exact absurd (uk _ (by rw [e]; rfl)) h
  have xk : x ∈ ns.map (·.name) := by
    obtain ⟨k, e, _⟩ := g.kinds x hx
    rw [← kn_names]
    refine Classical.byContradiction fun q => ?_
    rw [lookup_none.mpr q] at e
    cases e
  have fne : ∀ z ∈ free, z ∈ ns.map (·.name) := fun z hz => by
    obtain ⟨k, e, _⟩ := g.kinds z hz
    rw [← kn_names]
    refine Classical.byContradiction fun q => ?_
    rw [lookup_none.mpr q] at e
    cases e
  have sx : s ≠ x := fun e => sns (e ▸ xk)
  have r1 : Run (ns ++ [⟨s, "split", [], [x]⟩]) (useAll us [x]) := r.step h1 sns (may_once (List.nodup_cons.mpr ⟨by simp, List.nodup_nil⟩) (fun z hz => by rw [List.mem_singleton.mp hz]; exact g.kinds x hx) fun z hz => by rw [List.mem_singleton.mp hz]; exact fu x hx)
  have us1 : (useAll us [x]).lookup s = none := by
    rw [use_ne _ _ (by rw [List.mem_singleton]; exact sx)]
    exact usN s sns
  have r2 : Run ((ns ++ [⟨s, "split", [], [x]⟩]) ++ [n]) (useAll (useAll us [x]) n.ins) := by
    refine r1.step hn (fun h => ?_) ?_
    · rw [List.map_append] at h
      rcases List.mem_append.mp h with h | h
      · exact nf h
      · exact sn (List.mem_singleton.mp h).symm
    · rw [hi, ek1]
      refine List.all_eq_true.mpr fun z hz => ?_
      rw [(List.mem_replicate.mp hz).2]
      unfold mayOne usesOf mostOf
      rw [lookup_last sl, us1]
      dsimp only
      rw [if_pos rfl, List.count_replicate_self]
      exact decide_eq_true (by show (0 : Int) + (m : Nat) ≤ 5; omega)
  refine ⟨⟨_, r2, ?_, ?_, ?_⟩, ?_, ?_, ?_, ?_⟩
  · rw [unused_of] at un ⊢
    intro p hp e
    rw [ek] at hp e
    rcases List.mem_append.mp hp with hp | hp
    · rcases List.mem_append.mp hp with hp | hp
      · obtain ⟨v, hv⟩ := lookup_mem hp
        have q1 : (kn ns ++ [(s, ("split" : Str))]).lookup p.1 = (kn ns).lookup p.1 := lookup_snoc (.inr (by rw [hv]; rfl))
        rw [lookup_snoc (.inr (by rw [q1, hv]; rfl)), q1] at e
        exact use_some _ _ (.inr (use_some _ _ (.inr (un p hp e))))
      · rw [List.mem_singleton.mp hp]
        refine use_some _ _ (.inl ?_)
        rw [hi]
        exact List.mem_replicate.mpr ⟨by omega, rfl⟩
    · rw [List.mem_singleton.mp hp] at e
      rw [lookup_last nl1] at e
      exact absurd (Option.some.inj e) hk
  · intro z hz
    have h2 : ∀ y, y ≠ s → (useAll (useAll us [x]) n.ins).lookup y = (useAll us [x]).lookup y := fun y hy => use_ne _ _ (by
      rw [hi]
      exact fun h => hy (List.mem_replicate.mp h).2)
    rcases List.mem_append.mp hz with hz | hz
    · have zs : z ≠ s := fun e => sns (e ▸ fne z (hr z hz).1)
      rw [h2 z zs, use_ne _ _ (by rw [List.mem_singleton]; exact (hr z hz).2)]
      exact fu z (hr z hz).1
    · rw [List.mem_singleton.mp hz, h2 _ (Ne.symm sn), use_ne _ _ (by rw [List.mem_singleton]; exact fun e => nf (e ▸ xk))]
      exact usN _ nf
  · intro z hz
    rw [List.map_append, List.map_append]
    by_cases h : z = s
    · rw [h]
      exact List.mem_append_left _ (List.mem_append_right _ (List.mem_singleton.mpr rfl))
    · rw [use_ne _ _ (by rw [hi]; exact fun q => h (List.mem_replicate.mp q).2)] at hz
      refine List.mem_append_left _ (List.mem_append_left _ ?_)
      by_cases h : z = x
      · rw [h]
        exact xk
      · rw [use_ne _ _ (by rw [List.mem_singleton]; exact h)] at hz
        exact uk z hz
  · intro z hz
    rw [ek]
    rcases List.mem_append.mp hz with hz | hz
    · obtain ⟨k, e, ne⟩ := g.kinds z (hr z hz).1
      have q1 : (kn ns ++ [(s, ("split" : Str))]).lookup z = some k := by rw [lookup_snoc (.inr (by rw [e]; rfl))]; exact e
      exact ⟨k, by rw [lookup_snoc (.inr (by rw [q1]; rfl))]; exact q1, ne⟩
    · rw [List.mem_singleton.mp hz, lookup_last nl1]
      exact ⟨_, rfl, hk⟩
  · refine List.nodup_append.mpr ⟨rn, List.nodup_cons.mpr ⟨by simp, List.nodup_nil⟩, fun a ha b hb => ?_⟩
    rw [List.mem_singleton.mp hb]
    exact fun e => nf (e ▸ fne a (hr a ha).1)
  · intro m hm'
    rcases List.mem_append.mp hm' with h | h
    · rcases List.mem_append.mp h with h | h
      · exact hm _ (.inl (g.names m h))
      · rw [List.mem_singleton.mp h]
        exact hm _ (.inr (.inl rfl))
    · rw [List.mem_singleton.mp h]
      exact hm _ (.inr (.inr rfl))
  · intro m hm'
    rcases List.mem_append.mp hm' with h | h
    · rcases List.mem_append.mp h with h | h
      · exact g.sm m h
      · rw [List.mem_singleton.mp h]
        exact sm1
    · rw [List.mem_singleton.mp h]
      exact sm
/-- what is grown is right -/
theorem Grown.check {ns : List Nd} {free : List Str} {nm : Str → Prop} (g : Grown ns free nm) (h1 : 1 ≤ ns.length) (h2 : ns.length ≤ 30) : checkNodes (.list (ns.map Nd.dat)) = none ∧ smB (.list (ns.map Nd.dat)) = true := by
  obtain ⟨us, r, un, _⟩ := g.run
  constructor
  · unfold checkNodes
    dsimp only
    rw [if_pos (by rw [List.length_map, decide_eq_true (show (1 : Int) ≤ (ns.length : Nat) by omega), decide_eq_true (show ((ns.length : Nat) : Int) ≤ 30 by omega)]; rfl)]
    have := r []
    rw [List.append_nil] at this
    rw [this, checkFrom, un]
    rfl
  · refine sm_lst fun d hd => ?_
    obtain ⟨n, hn, rfl⟩ := List.mem_map.mp hd
    exact g.sm n hn
/-! ### one node -/
theorem node_of {a k : Str} {ps : List PyData} {zs : List Str} {cls : Int × Int} (ha : isName (.str a) = true) (g : GoodK cls k ps) (h1 : cls.1 ≤ zs.length) (h2 : (zs.length : Int) ≤ cls.2) (hz : ∀ z ∈ zs, isName (.str z) = true) : isNode (⟨a, k, ps, zs⟩ : Nd).dat = true := by
  have gp := g.par
  have hi : areInputs k (.list (zs.map PyData.str)) = true := by
    unfold areInputs
    dsimp only
    rw [g.cls, List.length_map, decide_eq_true h1, decide_eq_true h2]
    refine List.all_eq_true.mpr fun d hd => ?_
    obtain ⟨z, hz', rfl⟩ := List.mem_map.mp hd
    exact hz z hz'
  have hk : (kindsL.lookup k).isSome = true := by
    cases e : kindsL.lookup k with
    | some v => rfl
    | none =>
      unfold areParams at gp
      rw [e] at gp
      cases gp
  show (isName (.str a) && ((kindsL.lookup k).isSome && (areParams k (.tuple ps) && areInputs k (.list (zs.map PyData.str))))) = true
  rw [ha, hk, gp, hi]
  rfl
theorem name_short {a : Str} (h : isName (.str a) = true) : a.length ≤ 12 := by
  have h : (decide (1 ≤ a.length) && decide (a.length ≤ 12) && a.cps.toList.all aToZ) = true := h
  rw [Bool.and_eq_true, Bool.and_eq_true] at h
  exact of_decide_eq_true h.1.2
theorem kind_short {k : Str} (h : (kindsL.lookup k).isSome = true) : smB (.str k) = true := by
  have all : (kindsL.all fun p => smB (.str p.1)) = true := by decide +kernel
  have mem : ∀ {l : List (Str × List Str)}, (l.lookup k).isSome = true → ∃ p ∈ l, p.1 = k := fun {l} => by
    induction l with
    | nil => intro h; cases h
    | cons p r ih =>
      intro h
      by_cases e : k = p.1
      · exact ⟨p, List.mem_cons_self, e.symm⟩
      · rw [List.lookup_cons, beq_eq_false_iff_ne.mpr e] at h
        obtain ⟨q, m, e⟩ := ih h
        exact ⟨q, List.mem_cons_of_mem _ m, e⟩
  obtain ⟨p, m, e⟩ := mem h
  rw [← e]
  exact List.all_eq_true.mp all p m
theorem node_sm {a k : Str} {ps : List PyData} {zs : List Str} {cls : Int × Int} (ha : isName (.str a) = true) (g : GoodK cls k ps) (hz : ∀ z ∈ zs, isName (.str z) = true) : smB (⟨a, k, ps, zs⟩ : Nd).dat = true := by
  have gp := g.par
  have hk : (kindsL.lookup k).isSome = true := by
    cases e : kindsL.lookup k with
    | some v => rfl
    | none =>
      unfold areParams at gp
      rw [e] at gp
      cases gp
  refine sm_tup fun d hd => ?_
  simp only [List.mem_cons, List.not_mem_nil, or_false] at hd
  rcases hd with rfl | rfl | rfl | rfl
  · exact sm_short (Nat.le_trans (name_short ha) (by decide))
  · exact kind_short hk
  · exact g.sm
  · refine sm_lst fun d hd => ?_
    obtain ⟨z, hz', rfl⟩ := List.mem_map.mp hd
    exact sm_short (Nat.le_trans (name_short (hz z hz')) (by decide))
theorem split_node {s x : Str} (hs : isName (.str s) = true) (hx : isName (.str x) = true) : isNode (⟨s, "split", [], [x]⟩ : Nd).dat = true ∧ smB (⟨s, "split", [], [x]⟩ : Nd).dat = true := by
  have hi : areInputs "split" (.list [PyData.str x]) = true := by
    show (decide ((inRange "split").1 ≤ (1 : Nat)) && decide (((1 : Nat) : Int) ≤ (inRange "split").2) && ([PyData.str x] : List PyData).all isName) = true
    rw [show (([PyData.str x] : List PyData).all isName) = true by rw [List.all_cons, hx]; rfl, Bool.and_true]
    show (decide ((inRange "split").1 ≤ (1 : Nat)) && decide (((1 : Nat) : Int) ≤ (inRange "split").2)) = true
    decide +kernel
  refine ⟨?_, sm_tup fun d hd => ?_⟩
  · show (isName (.str s) && ((kindsL.lookup ("split" : Str)).isSome && (areParams "split" (.tuple []) && areInputs "split" (.list [PyData.str x])))) = true
    rw [hs, hi, Bool.true_and, Bool.and_true]
    decide +kernel
  · simp only [List.mem_cons, List.not_mem_nil, or_false] at hd
    rcases hd with rfl | rfl | rfl | rfl
    · exact sm_short (Nat.le_trans (name_short hs) (by decide))
    · exact sm_short (by decide)
    · exact sm_tup fun d hd => absurd hd (by simp)
    · refine sm_lst fun d hd => ?_
      rw [List.mem_singleton.mp hd]
      exact sm_short (Nat.le_trans (name_short hx) (by decide))
/-! ### the names -/
def nm12 : List Str := ["p", "h", "c", "g", "a", "m", "b", "k", "q", "d", "f", "e"]
def nmAt (i : Nat) : Str := nm12.getD i ""
def spAt (i : Nat) : Str := nmAt i ++ "s"
def upTo (i : Nat) (z : Str) : Prop := ∃ j, j < i ∧ (z = nmAt j ∨ z = spAt j)
theorem names_ok : ((List.range 12).all fun i => isName (.str (nmAt i)) && isName (.str (spAt i)) && !decide (spAt i = nmAt i) && (List.range i).all fun j => !decide (nmAt i = nmAt j) && !decide (nmAt i = spAt j) && !decide (spAt i = nmAt j) && !decide (spAt i = spAt j)) = true := by decide +kernel
theorem name_ok {i : Nat} (h : i < 12) : isName (.str (nmAt i)) = true ∧ isName (.str (spAt i)) = true ∧ spAt i ≠ nmAt i ∧ ¬ upTo i (nmAt i) ∧ ¬ upTo i (spAt i) := by
  have := List.all_eq_true.mp names_ok i (List.mem_range.mpr h)
  rw [Bool.and_eq_true, Bool.and_eq_true, Bool.and_eq_true] at this
  obtain ⟨⟨⟨a, b⟩, c⟩, d⟩ := this
  have far : ∀ j, j < i → nmAt i ≠ nmAt j ∧ nmAt i ≠ spAt j ∧ spAt i ≠ nmAt j ∧ spAt i ≠ spAt j := fun j hj => by
    have := List.all_eq_true.mp d j (List.mem_range.mpr hj)
    simp only [Bool.and_eq_true, Bool.not_eq_true', decide_eq_false_iff_not] at this
    exact ⟨this.1.1.1, this.1.1.2, this.1.2, this.2⟩
  refine ⟨a, b, by simpa using c, ?_, ?_⟩
  · rintro ⟨j, hj, e | e⟩
    · exact (far j hj).1 e
    · exact (far j hj).2.1 e
  · rintro ⟨j, hj, e | e⟩
    · exact (far j hj).2.2.1 e
    · exact (far j hj).2.2.2 e
theorem upTo_name {i : Nat} {z : Str} (h : upTo i z) (hi : i ≤ 12) : isName (.str z) = true := by
  obtain ⟨j, hj, rfl | rfl⟩ := h
  · exact (name_ok (by omega)).1
  · exact (name_ok (by omega)).2.1
theorem Grown.free_name {ns : List Nd} {free : List Str} {i : Nat} (g : Grown ns free (upTo i)) (hi : i ≤ 12) : ∀ z ∈ free, isName (.str z) = true := fun z hz => by
  obtain ⟨k, e, _⟩ := g.kinds z hz
  have : z ∈ (kn ns).map (·.1) := Classical.byContradiction fun q => by
    rw [lookup_none.mpr q] at e
    cases e
  rw [kn_names] at this
  obtain ⟨n, hn, rfl⟩ := List.mem_map.mp this
  exact upTo_name (g.names n hn) hi
end Pw
set_option maxHeartbeats 200000
/-! repr of data -/
namespace Pw
open PySem PySem.Spec PyProof.Rows L2
/-! ### how long a text is -/
mutual
def cost : PyData → Nat
  | .none => 5
  | .bool _ => 5
  | .int i => i.natAbs.log2 + 2
  | .str x => (reprText x).length
  | .list xs => costAll xs + 4
  | .tuple xs => costAll xs + 4
  | .dict kvs => (dictText (PyData.shownKv kvs)).length
def costAll : List PyData → Nat
  | [] => 0
  | x :: xs => cost x + 2 + costAll xs
end
theorem textFrom_le : ∀ (ts : List Str) (k : Nat) (acc : Str), (textFrom k acc ts).length ≤ acc.length + piled ts
  | [], k, acc => Nat.le_add_right _ _
  | t :: r, k, acc => by
    have ih := textFrom_le r (k + 1) (acc ++ (if k > 0 then ", " else "" : String) ++ t)
    have sep : ((if k > 0 then ", " else "" : String) : Str).length ≤ 2 := by
      split <;> decide +kernel
    rw [strLen_append, strLen_append] at ih
    rw [piled_cons]
    show (textFrom (k + 1) _ r).length ≤ _
    omega
theorem listText_le (ts : List Str) : (listText ts).length ≤ piled ts + 2 := by
  unfold listText
  rw [strLen_append]
  have h := textFrom_le ts 0 "["
  have e1 : (("[" : String) : Str).length = 1 := rfl
  have e2 : (("]" : String) : Str).length = 1 := rfl
  rw [e1] at h
  rw [e2]
  omega
theorem tupleText_le (ts : List Str) : (tupleText ts).length ≤ piled ts + 4 := by
  unfold tupleText
  rw [strLen_append, strLen_append]
  have e1 : (("(" : String) : Str).length = 1 := rfl
  have e2 : ((if ts.length == 1 then ",)" else ")" : String) : Str).length ≤ 2 := by
    split <;> decide +kernel
  rw [e1]
  by_cases h : ts = []
  · subst h
    have e3 : (Str.join ", " []).length = 0 := rfl
    rw [e3]
    omega
  · have := join_length_add ts h
    omega
mutual
theorem shown_le : ∀ d : PyData, d.shown.length ≤ cost d
  | .none => by decide +kernel
  | .bool b => by cases b <;> decide +kernel
  | .int i => by
    show (Str.ofString (toString i)).length ≤ i.natAbs.log2 + 2
    have h := int_text_length_le (a := i) (k := i.natAbs.log2 + 1) (Nat.succ_pos _) (Nat.lt_succ_self _)
    have e := PySem.ofString_length (toString i)
    rw [e]
    exact h
  | .str x => Nat.le_refl _
  | .list xs => by
    have h := shownAll_le xs
    have g := listText_le (PyData.shownAll xs)
    show (listText (PyData.shownAll xs)).length ≤ costAll xs + 4
    omega
  | .tuple xs => by
    have h := shownAll_le xs
    have g := tupleText_le (PyData.shownAll xs)
    show (tupleText (PyData.shownAll xs)).length ≤ costAll xs + 4
    omega
  | .dict kvs => Nat.le_refl _
theorem shownAll_le : ∀ xs : List PyData, piled (PyData.shownAll xs) ≤ costAll xs
  | [] => Nat.le_refl _
  | x :: xs => by
    have h1 := shown_le x
    have h2 := shownAll_le xs
    show piled (x.shown :: PyData.shownAll xs) ≤ cost x + 2 + costAll xs
    rw [piled_cons]
    omega
end
/-! ### its signs are signs -/
mutual
def okS : PyData → Bool
  | .none => true
  | .bool _ => true
  | .int _ => true
  | .str x => PyData.strOk (reprText x)
  | .list xs => okAll xs
  | .tuple xs => okAll xs
  | .dict kvs => kvs.isEmpty
def okAll : List PyData → Bool
  | [] => true
  | x :: xs => okS x && okAll xs
end
theorem ok_app {x y : Str} (h1 : PyData.strOk x = true) (h2 : PyData.strOk y = true) : PyData.strOk (x ++ y) = true := by
  unfold PyData.strOk at *
  show (x.cps ++ y.cps).all _ = true
  rw [Array.all_append, h1, h2]
  rfl
theorem ok_lit (s : String) : PyData.strOk (Str.ofString s) = true := by
  rw [Str.ofString_eq_toList]
  unfold PyData.strOk
  show (s.toList.map Char.toNat).toArray.all _ = true
  rw [List.all_toArray, List.all_map, List.all_eq_true]
  intro c _
  refine decide_eq_true ?_
  show c.val.toNat < 0x110000
  rcases c.valid with h | ⟨_, h⟩
  · exact Nat.lt_trans h (by decide)
  · exact h
theorem ok_from : ∀ (ts : List Str) (k : Nat) (acc : Str), PyData.strOk acc = true → (∀ t ∈ ts, PyData.strOk t = true) → PyData.strOk (textFrom k acc ts) = true
  | [], _, _, h, _ => h
  | t :: r, k, acc, h, hr => ok_from r (k + 1) _ (ok_app (ok_app h (ok_lit _)) (hr t List.mem_cons_self)) fun u hu => hr u (List.mem_cons_of_mem _ hu)
theorem ok_join : ∀ ts : List Str, (∀ t ∈ ts, PyData.strOk t = true) → PyData.strOk (Str.join ", " ts) = true
  | [], _ => by decide +kernel
  | [x], h => h x List.mem_cons_self
  | x :: y :: r, h => ok_app (ok_app (h x List.mem_cons_self) (ok_lit _)) (ok_join (y :: r) fun u hu => h u (List.mem_cons_of_mem _ hu))
mutual
theorem shown_ok : ∀ d : PyData, okS d = true → PyData.strOk d.shown = true
  | .none, _ => ok_lit _
  | .bool b, _ => by cases b <;> exact ok_lit _
  | .int i, _ => ok_lit _
  | .str x, h => h
  | .list xs, h => ok_app (ok_from _ _ _ (ok_lit _) (shownAll_ok xs h)) (ok_lit _)
  | .tuple xs, h => ok_app (ok_app (ok_lit _) (ok_join _ (shownAll_ok xs h))) (ok_lit _)
  | .dict [], _ => by decide +kernel
theorem shownAll_ok : ∀ xs : List PyData, okAll xs = true → ∀ t ∈ PyData.shownAll xs, PyData.strOk t = true
  | [], _, t, h => by cases h
  | x :: xs, h, t, ht => by
    have h' : (okS x && okAll xs) = true := h
    rw [Bool.and_eq_true] at h'
    have ht' : t ∈ x.shown :: PyData.shownAll xs := ht
    rcases List.mem_cons.mp ht' with e | e
    · rw [e]
      exact shown_ok x h'.1
    · exact shownAll_ok xs h'.2 t e
end
/-! ### the rule -/
mutual
theorem Dv.dp {K : PySem.W.Frag} {H : Hp} : ∀ {d : PyData} {v : V}, Dv K H v d → d.hasDict = false → Dp K H v d
  | .none, _, h, _ => by cases h; exact .non
  | .bool _, _, h, _ => by cases h; exact .bl _
  | .int _, _, h, _ => by cases h; exact .int _
  | .str _, _, h, _ => by cases h; exact .str _
  | .list ds, _, h, e => by
    cases h with
    | lst h1 hz h2 => exact .lst (SqL.of h1) (DvAll.dp h2 (by rw [PyData.hasDict] at e; exact e))
  | .tuple ds, _, h, e => by
    cases h with
    | tup h1 hz h2 => exact .tup (SqT.of h1) (DvAll.dp h2 (by rw [PyData.hasDict] at e; exact e))
  | .dict _, _, h, e => by
    rw [PyData.hasDict] at e
    cases e
theorem DvAll.dp {K : PySem.W.Frag} {H : Hp} : ∀ {ds : List PyData} {vs : List V}, DvAll K H vs ds → PyData.hasDictAll ds = false → DpAll K H vs ds
  | [], _, h, _ => by cases h; exact .nil
  | d :: ds, _, h, e => by
    cases h with
    | cons h1 h2 =>
      rw [PyData.hasDictAll, Bool.or_eq_false_iff] at e
      exact .cons (Dv.dp h1 e.1) (DvAll.dp h2 e.2)
end
/-- what may be told by repr here -/
structure Tells (d : PyData) : Prop where
  dct : d.hasDict = false ∨ d = .dict []
  showable : d.showable = true
  depth : d.depth ≤ 60
  cost : cost d ≤ 1000000
  oks : okS d = true
section
variable {X : Cx} {pins : List (Addr × Obj)} {σ : L2.St} {H : Hp} {s : Shared}
theorem Dv.reads (I : Inv X pins σ H s) {d : PyData} {v : V} {u : Value} (h : Dv X.K H v d) (r : L2.RelV v u) (t : d.hasDict = false ∨ d = .dict []) : ∃ as, Reads s.heap u d as ∧ (d.hasDict = true → sysModules ∉ as) := by
  rcases t with t | rfl
  · obtain ⟨as, q⟩ := Dp.reads I d v u (h.dp t) r
    exact ⟨as, q, fun z => by rw [t] at z; cases z⟩
  · cases h with
    | dct e =>
      cases r
      obtain ⟨_, ns, vs, kv, o, es, ep, e1, e2, e3, e4, e5, e6⟩ := (show ObjOk X.prog X.w H s.heap _ (.dK []) from I.hok _ _ e)
      cases kv
      have e7 : es.toList = [] := by
        cases hes : es.toList with
        | nil => rfl
        | cons x y =>
          rw [hes] at e5
          cases e5
      refine ⟨_, Reads.dict e1 e2.1 e3 (as := []) (bs := []) (kvs := []) (by rw [e7]; exact ReadsAll.nil) (by rw [e7]; exact ReadsAll.nil), fun _ hm => ?_⟩
      rw [List.append_nil, List.mem_singleton] at hm
      rw [hm] at ns
      simp at ns
theorem call_reprD (hg : X.A.guards = some []) (hu : X.A.units + 64 < cLine) : CallR X (.builtin "repr") (fun xs H Q => ∃ v d, xs = [v] ∧ Dv X.K H v d ∧ Tells d ∧ Q (.str d.shown) H) := by
  intro pins s σ H xs us Q I r h
  obtain ⟨v, d, rfl, hd, t, q⟩ := h
  obtain ⟨u, rfl, rv⟩ := vals1 r
  have sz : d.shown.length ≤ sizeLine := by
    have h1 := shown_le d
    have h2 := t.cost
    have h3 : (1000000 : Nat) ≤ sizeLine := by decide
    omega
  have fin : ∀ (h' : Heap) (u' : Tok) (tk : Nat), (∀ b o, s.heap.get? b = some o → h'.get? b = some o) → EP X pins σ Q (.str d.shown u') { s with heap := h', toks := tk } := fun h' u' tk keep => ⟨.str d.shown, H, I.kept keep, ⟨_, rfl⟩, q⟩
  have leaf : ∀ tk u', EP X pins σ Q (.str d.shown u') { s with toks := tk } := fun tk u' => fin s.heap u' tk fun _ _ e => e
  have ref : ∀ a, u = .ref a → wpAny (model X.prog X.w) X.A (call (.builtin "repr") [u]) (EP X pins σ Q) X.xe s := fun a e => by
    subst e
    obtain ⟨as, rd, hsm⟩ := hd.reads I rv t.dct
    exact repr_of_reads' rd t.showable hsm hg (by have := t.depth; omega) (fun _ _ e => e) (fun h' u' tk keep => fin h' u' tk keep) sz
  cases hd with
  | non =>
    cases rv
    exact PySem.P.repr_of_none (leaf _ _)
  | bl b =>
    cases rv
    refine PySem.P.repr_of_bool ?_
    cases b <;> exact leaf _ _
  | int i =>
    obtain ⟨tk, rfl⟩ := rv
    refine PySem.P.repr_of_int ?_ (leaf _ _)
    have := t.showable
    simpa [PyData.showable] using this
  | str x =>
    obtain ⟨tk, rfl⟩ := rv
    exact PySem.P.repr_of_str (leaf _ _) sz
  | lst _ _ _ => exact ref _ rv
  | tup _ _ _ => exact ref _ rv
  | dct _ => exact ref _ rv
end
end Pw
set_option maxHeartbeats 2000000
/-! nodes as data can be compared -/
namespace Pw
open PySem PySem.Spec PyProof.Rows L2
open PySem.PyData (strOk canLay0 canLayAll0 depth depthAll)
def okD : Nat → PyData → Bool
  | 0, _ => false
  | n + 1, .list ds => ds.all (okD n)
  | n + 1, .tuple ds => ds.all (okD n)
  | _ + 1, .none => true
  | _ + 1, .bool _ => true
  | _ + 1, .int _ => true
  | _ + 1, .str x => strOk x
  | _ + 1, _ => false
theorem okD_lay : ∀ (n : Nat) (d : PyData), okD n d = true → canLay0 d = true ∧ depth d ≤ n := by
  have all : ∀ (n : Nat), (∀ d, okD n d = true → canLay0 d = true ∧ depth d ≤ n) → ∀ ds : List PyData, ds.all (okD n) = true → canLayAll0 ds = true ∧ depthAll ds ≤ n := by
    intro n ih ds
    induction ds with
    | nil => intro _; simp [canLayAll0, depthAll]
    | cons d ds hi =>
      intro h
      rw [List.all_cons, Bool.and_eq_true] at h
      have h1 := ih d h.1
      have h2 := hi h.2
      simp only [canLayAll0, depthAll, h1.1, h2.1, Bool.and_self, true_and]
      have a1 := h1.2
      have a2 := h2.2
      omega
  intro n
  induction n with
  | zero => intro d h; simp [okD] at h
  | succ n ih =>
    intro d h
    cases d with
    | none => simp [canLay0, depth]
    | bool b => simp [canLay0, depth]
    | int i => simp [canLay0, depth]
    | str x => simp [okD] at h; simp [canLay0, depth, h]
    | tuple ds =>
      have q := all n ih ds (by simpa [okD] using h)
      have q2 := q.2
      simp only [canLay0, depth, q.1, true_and]
      omega
    | list ds =>
      have q := all n ih ds (by simpa [okD] using h)
      have q2 := q.2
      simp only [canLay0, depth, q.1, true_and]
      omega
    | dict kvs => simp [okD] at h
theorem okD_shaped {n : Nat} {d : PyData} (h : okD n d = true) (hn : n ≤ 64) : SeqAt.shaped d = true := by
  obtain ⟨a, b⟩ := okD_lay n d h
  unfold SeqAt.shaped
  rw [a, decide_eq_true (Nat.le_trans b hn)]
  rfl
theorem okD_noDict : ∀ (n : Nat) (d : PyData), okD n d = true → d.hasDict = false := by
  intro n
  induction n with
  | zero => intro d h; simp [okD] at h
  | succ n ih =>
    have all : ∀ ds : List PyData, ds.all (okD n) = true → PyData.hasDictAll ds = false := by
      intro ds
      induction ds with
      | nil => intro _; rfl
      | cons d ds hi =>
        intro h
        rw [List.all_cons, Bool.and_eq_true] at h
        simp only [PyData.hasDictAll, ih d h.1, hi h.2, Bool.or_self]
    intro d h
    cases d with
    | tuple ds => simpa [PyData.hasDict] using all ds (by simpa [okD] using h)
    | list ds => simpa [PyData.hasDict] using all ds (by simpa [okD] using h)
    | dict kvs => simp [okD] at h
    | _ => rfl
theorem okD_mono : ∀ {n : Nat} {d : PyData}, okD n d = true → okD (n + 1) d = true
  | 0, _, h => by cases h
  | n + 1, .list ds, h => by
    have h' : ds.all (okD n) = true := h
    show ds.all (okD (n + 1)) = true
    rw [List.all_eq_true] at h' ⊢
    exact fun e he => okD_mono (h' e he)
  | n + 1, .tuple ds, h => by
    have h' : ds.all (okD n) = true := h
    show ds.all (okD (n + 1)) = true
    rw [List.all_eq_true] at h' ⊢
    exact fun e he => okD_mono (h' e he)
  | n + 1, .none, _ => rfl
  | n + 1, .bool _, _ => rfl
  | n + 1, .int _, _ => rfl
  | n + 1, .str _, h => h
  | n + 1, .dict _, h => by cases h
theorem okD_le {n m : Nat} {d : PyData} (h : okD n d = true) (l : n ≤ m) : okD m d = true := by
  obtain ⟨k, rfl⟩ := Nat.exists_eq_add_of_le l
  clear l
  induction k with
  | zero => exact h
  | succ k ih => exact okD_mono ih
theorem okD_tst : ∀ (t : Tst), okD (t.nots + 3) t.dat = true
  | .neg t => by
    have h := okD_tst t
    show (okD (t.nots + 1 + 2) (.str "not") && (okD (t.nots + 1 + 2) t.dat && true)) = true
    rw [show t.nots + 1 + 2 = t.nots + 3 from by omega, h]
    show (strOk "not" && (true && true)) = true
    decide +kernel
  | .lt _ => by
    show (strOk "below" && (true && true)) = true
    decide +kernel
  | .ge _ => by
    show (strOk "from" && (true && true)) = true
    decide +kernel
  | .md m rs => by
    have h : (rs.map PyData.int).all (okD 1) = true := by
      rw [List.all_eq_true]
      intro e he
      obtain ⟨i, _, rfl⟩ := List.mem_map.mp he
      rfl
    show (strOk "mod" && (true && ((rs.map PyData.int).all (okD 1) && true))) = true
    rw [h]
    decide +kernel
theorem name_strOk {s : Str} (h : isName (.str s) = true) : strOk s = true := by
  have h : (decide (1 ≤ s.length) && decide (s.length ≤ 12) && s.cps.toList.all aToZ) = true := h
  rw [Bool.and_eq_true] at h
  unfold strOk
  rw [Array.all_eq_true_iff_forall_mem]
  intro c hc
  have := List.all_eq_true.mp h.2 c (Array.mem_toList_iff.mpr hc)
  unfold aToZ at this
  rw [Bool.and_eq_true] at this
  have := of_decide_eq_true this.2
  exact decide_eq_true (by omega)
theorem choice_strOk : (choices.all fun p => p.2.all strOk) = true := by decide +kernel
theorem kind_strOk' : (kindsL.all fun p => strOk p.1) = true := by decide +kernel
theorem look_mem {α : Type} {k : Str} {v : α} : ∀ {l : List (Str × α)}, l.lookup k = some v → (k, v) ∈ l
  | [], h => by cases h
  | p :: r, h => by
    rw [List.lookup_cons] at h
    cases e : k == p.1 with
    | true =>
      rw [e] at h
      have : v = p.2 := (Option.some.inj h).symm
      rw [this, beq_iff_eq.mp e]
      exact List.mem_cons_self
    | false =>
      rw [e] at h
      exact List.mem_cons_of_mem _ (look_mem h)
theorem kind_strOk {k : Str} {ws : List Str} (h : kindsL.lookup k = some ws) : strOk k = true := List.all_eq_true.mp kind_strOk' _ (look_mem h)
theorem okD_sort {z : Str} {d : PyData} (h : ofSort z d = true) : okD 7 d = true := by
  unfold ofSort at h
  split at h
  · cases d <;> first | rfl | cases h
  · split at h
    · cases d with
      | list ds =>
        rename_i r _
        have h' : (decide (r.1 ≤ ds.length) && decide ((ds.length : Int) ≤ r.2) && ds.all isParam) = true := h
        rw [Bool.and_eq_true] at h'
        show ds.all (okD 6) = true
        rw [List.all_eq_true]
        intro e he
        have := List.all_eq_true.mp h'.2 e he
        cases e <;> first | rfl | cases this
      | _ => cases h
    · split at h
      · rename_i ws hw
        cases d with
        | str s =>
          have h : decide (s ∈ ws) = true := h
          exact List.all_eq_true.mp (List.all_eq_true.mp choice_strOk _ (look_mem hw)) s (of_decide_eq_true h)
        | _ => cases h
      · split at h
        · obtain ⟨t, rfl, hn, _⟩ := test_shape h
          exact okD_le (okD_tst t) (by omega)
        · cases d with
          | str s => exact name_strOk h
          | _ => cases h
theorem okD_words {n : Nat} {zs : List Str} (h : ∀ z ∈ zs, isName (.str z) = true) : okD (n + 2) (.list (zs.map PyData.str)) = true := by
  show (zs.map PyData.str).all (okD (n + 1)) = true
  rw [List.all_eq_true]
  intro e he
  obtain ⟨i, hi, rfl⟩ := List.mem_map.mp he
  exact name_strOk (h i hi)
theorem okD_node {n : Nd} (h : isNode n.dat = true) : okD 9 n.dat = true := by
  have h0 : (isName (.str n.name) && ((kindsL.lookup n.kind).isSome && (areParams n.kind (.tuple n.ps) && areInputs n.kind (.list (n.ins.map PyData.str))))) = true := h
  rw [Bool.and_eq_true, Bool.and_eq_true, Bool.and_eq_true] at h0
  obtain ⟨a1, a2, a3, a4⟩ := h0
  cases hk : kindsL.lookup n.kind with
  | none => rw [hk] at a2; cases a2
  | some ws =>
    unfold areParams at a3
    rw [hk] at a3
    have a3 : (decide (n.ps.length = ws.length) && (fits ws n.ps && batchOk n.kind n.ps)) = true := a3
    rw [Bool.and_eq_true, Bool.and_eq_true] at a3
    have h1 : n.ps.all (okD 7) = true := by
      rw [List.all_eq_true]
      intro p hp
      obtain ⟨w, hw⟩ := fits_all (of_decide_eq_true a3.1) a3.2.1 p hp
      exact okD_sort hw
    have a4 : (decide ((inRange n.kind).1 ≤ ((n.ins.map PyData.str).length : Nat)) && decide (((n.ins.map PyData.str).length : Int) ≤ (inRange n.kind).2) && (n.ins.map PyData.str).all isName) = true := a4
    rw [Bool.and_eq_true] at a4
    have h2 : okD 8 (.list (n.ins.map PyData.str)) = true := okD_words (n := 6) fun z hz => List.all_eq_true.mp a4.2 _ (List.mem_map_of_mem hz)
    show (okD 8 (.str n.name) && (okD 8 (.str n.kind) && (okD 8 (.tuple n.ps) && (okD 8 (.list (n.ins.map PyData.str)) && true)))) = true
    rw [h2, show okD 8 (.str n.name) = true from name_strOk a1, show okD 8 (.str n.kind) = true from kind_strOk hk, show okD 8 (.tuple n.ps) = true from h1]
    rfl
theorem okD_nodes {ns : List Nd} (w : Wired [] ns) : okD 10 (.list (ns.map Nd.dat)) = true := by
  show (ns.map Nd.dat).all (okD 9) = true
  rw [List.all_eq_true]
  intro e he
  obtain ⟨n, hn, rfl⟩ := List.mem_map.mp he
  exact okD_node (wired_node w hn).1
end Pw
set_option maxHeartbeats 4000000
/-! _law_nodes -/
namespace Pw
open PySem PySem.Spec PyProof.Rows L2 Dr
open Ev (vis vis_at vis_of vis_same vis_mono vis_grow Fresh nu fresh_nu vis_nu)
abbrev sNodes : Stmt := topS 64
abbrev sNodesN : List Str := ["_law_source", "_law_most", "_law_wide", "_law_names", "_law_list_of", "_law_free", "_law_at", "_law_way", "_law_kind", "_law_some", "_law_inputs", "_law_taken", "_law_k", "_law_joins"]
theorem scNodes : FnScope sNodesN ["_law_source", "_law_most", "_law_wide"] (defScope sNodes) := ⟨rfl, rfl, rfl, by decide +kernel, rfl, by decide +kernel, by decide +kernel⟩
theorem vis_upd {U : Addr → Bool} {H : Hp} {b : Addr} {o : HO} (h : U b = false) : vis U (upd H b o) = vis U H := by
  funext c
  unfold vis
  by_cases e : c = b
  · subst e
    rw [h]
    rfl
  · rw [upd_ne e]
theorem pe_bmK {X : Cx} {K : PySem.W.Frag} {o e : Expr} {es : List Expr} {to : TE} {t : TA} {name : Str} {apos cpos : Pos} {T id : String} {r : V → List V → Hp → VK → Prop} (hK : X.K = K) (pa : PlainAttrs T) (slot : Slot T name id) (hty : typeOf (.builtin id) = pure (.type "method_descriptor")) (hm : MtM X id r) (ho : PE X o to) (ha : PA X (e :: es) t)
    (hbase : attributeBase o name X.env (eval o X.env) = eval o X.env := by rfl)
    (hfew : ((backTo cpos (starEach (e :: es) X.env)).all (fun x => !x.1) && (backToKw cpos (keywordEach [] X.env)).all (fun x => x.1.isSome)
      && decide ((e :: es).length + ([] : List Keyword).length + (if ([] : List Keyword).isEmpty then 0 else 1) < 30)) = true := by rfl)
    (hline : (apos.endLine == cpos.line) = true := by rfl) (hs : starEach (e :: es) X.env = (false, eval e X.env) :: starEach es X.env := by rfl) (hplain : (backTo cpos (starEach es X.env)).any (·.1) = false := by rfl) :
    PE X (.Call (.Attribute o name apos) (e :: es) [] cpos) (tBM K T r to t) := by
  subst hK
  exact pe_bm pa slot hty hm ho ha hbase hfew hline hs hplain
theorem lenK {X : Cx} {K : PySem.W.Frag} (h : X.K = K) : CallR X (.builtin "len") (fun xs H Q => ∃ p ys, xs = [V.ref p] ∧ (SqL K H p ys ∨ SqT K H p ys) ∧ Q (V.int ys.length) H) := by
  subst h
  exact call_len_seq
/-- while nodes are drawn: their list at l, the free names at f -/
abbrev Zl (H0 : Hp) (l f : Addr) : Addr → Bool := les (les (nu H0) l) f
structure NSt (K : PySem.W.Frag) (H0 : Hp) (a l f : Addr) (k : Int) (ns : List Nd) (free : List Str) (H : Hp) : Prop where
  src : Src H a k
  s : Same (hid a H0) H
  nl : H0 l = none
  nf : H0 f = none
  lf : l ≠ f
  la : l ≠ a
  fa : f ≠ a
  xs : ∃ xs, H l = some (.lst xs) ∧ DvAll K (vis (Zl H0 l f) H) xs (ns.map Nd.dat)
  fr : H f = some (.lst (free.map V.str))
section
variable {K : PySem.W.Frag} {H0 H H' : Hp} {a l f : Addr} {k k' : Int} {ns : List Nd} {free : List Str}
theorem NSt.za (g : NSt K H0 a l f k ns free H) (src0 : nu H0 a = false) : Zl H0 l f a = false := les_a (les_a src0)
theorem zl_f {l f : Addr} : Zl H0 l f f = false := by
  cases e : Zl H0 l f f with
  | false => rfl
  | true => exact absurd rfl (les_of e).2
theorem zl_l {l f : Addr} : Zl H0 l f l = false := by
  cases e : Zl H0 l f l with
  | false => rfl
  | true => exact absurd rfl (les_of (les_of e).1).2
theorem NSt.fresh (g : NSt K H0 a l f k ns free H) : Fresh (Zl H0 l f) H := by
  obtain ⟨xs, hl, _⟩ := g.xs
  exact les_fresh (les_fresh (fgo g.src (fresh_nu H0) g.s) hl) g.fr
theorem NSt.go (g : NSt K H0 a l f k ns free H) (ua : nu H0 a = false) (src : Src H' a k') (s : Same (hid a H) H') : NSt K H0 a l f k' ns free H' := by
  obtain ⟨xs, hl, hd⟩ := g.xs
  exact ⟨src, hid_step g.s s, g.nl, g.nf, g.lf, g.la, g.fa, ⟨xs, s _ _ (by rw [hid_ne g.la]; exact hl), hd.same (vgo (g.za ua) s)⟩, s _ _ (by rw [hid_ne g.fa]; exact g.fr)⟩
theorem src_upd {b : Addr} {o : HO} (src : Src H a k) (h : a ≠ b) : Src (upd H b o) a k := by
  obtain ⟨A4, B4, C4, h4, r⟩ := src
  exact ⟨A4, B4, C4, by rw [upd_ne h]; exact h4, r⟩
theorem same_late {b : Addr} {o : HO} (s : Same (hid a H0) H) (h : H0 b = none) : Same (hid a H0) (upd H b o) := fun c x e => by
  rw [upd_ne (ne_of_none (hid_of e).2 h)]
  exact s c x e
theorem NSt.app (g : NSt K H0 a l f k ns free H) {xs : List V} {v : V} {n : Nd} (hl : H l = some (.lst xs)) (hv : Dv K (vis (Zl H0 l f) H) v n.dat) : NSt K H0 a l f k (ns ++ [n]) free (upd H l (.lst (xs ++ [v]))) := by
  obtain ⟨ys, hl', hd⟩ := g.xs
  rw [hl] at hl'
  cases hl'
  refine ⟨src_upd g.src g.la.symm, same_late g.s g.nl, g.nl, g.nf, g.lf, g.la, g.fa, ⟨_, upd_same, ?_⟩, by rw [upd_ne g.lf.symm]; exact g.fr⟩
  rw [vis_upd zl_l, List.map_append]
  exact hd.append (.cons hv .nil)
theorem NSt.put (g : NSt K H0 a l f k ns free H) {free' : List Str} : NSt K H0 a l f k ns free' (upd H f (.lst (free'.map V.str))) := by
  obtain ⟨xs, hl, hd⟩ := g.xs
  refine ⟨src_upd g.src g.fa.symm, same_late g.s g.nf, g.nl, g.nf, g.lf, g.la, g.fa, ⟨xs, by rw [upd_ne g.lf]; exact hl, ?_⟩, upd_same⟩
  rw [vis_upd zl_f]
  exact hd
end

abbrev lenR (K : PySem.W.Frag) : List V → Hp → VK → Prop := fun xs H Q => ∃ p ys, xs = [V.ref p] ∧ (SqL K H p ys ∨ SqT K H p ys) ∧ Q (V.int ys.length) H
/-- free.pop(next(len(free))) -/
abbrev popT (K : PySem.W.Frag) : TE := tBM K "list" rPopAt (tVar 5) (tCons (tCall spNext [] E0 (tCons (tVar 0) (tCons (tCB (lenR K) (tCons (tVar 5) tNil)) tNil))) tNil)
section
variable {K : PySem.W.Frag} {H0 H H' : Hp} {a l f : Addr} {k k' : Int} {ns : List Nd} {free : List Str} {σ : L2.St}
theorem NSt.zk (g : NSt K H0 a l f k ns free H) (ua : nu H0 a = false) (s : Same (hid a H) H') : Same (vis (Zl H0 l f) H) H' := vgo' (g.za ua) s
theorem map_erase {α β : Type} (f : α → β) : ∀ (xs : List α) (j : Nat), (xs.map f).eraseIdx j = (xs.eraseIdx j).map f
  | [], j => rfl
  | x :: r, 0 => rfl
  | x :: r, j + 1 => by
    show f x :: (r.map f).eraseIdx j = _
    rw [map_erase f r j]
    rfl
theorem pop_of {Q : VK} (h0 : σ[0]? = some (some (.ref a))) (h5 : σ[5]? = some (some (.ref f))) (g : NSt K H0 a l f k ns free H) (ua : nu H0 a = false) (hk : k + 1 < 1000000) (ne : 0 < free.length) (hl : free.length ≤ 1000)
    (q : ∀ j z H', free[j]? = some z → NSt K H0 a l f (k + 1) ns (free.eraseIdx j) H' → Same (vis (Zl H0 l f) H) H' → H' l = H l → Q (.str z) H') : popT K σ H Q := by
  have ll : (free.map V.str).length = free.length := List.length_map _
  refine ⟨_, h5, .inl ⟨rfl, _, SqL.of g.fr⟩, _, h0, _, h5, f, _, rfl, .inl (SqL.of g.fr), a, _, k, rfl, g.src, by omega, by rw [ll]; omega, ?_, fun r H1 r0 r1 src1 s1 => ?_⟩
  · rw [ll]
    have : (free.length : Int) ≤ 1000 := by omega
    exact Int.le_trans this (by decide)
  · have g1 := g.go ua src1 s1
    have r1 : r < free.length := by rw [ll] at r1; exact r1
    obtain ⟨j, rfl⟩ : ∃ j : Nat, r = (j : Int) := ⟨r.toNat, by omega⟩
    have hj : j < free.length := by omega
    refine ⟨f, _, (j : Int), j, .str free[j], rfl, rfl, g1.fr, by omega, ?_, ?_, ?_, ?_⟩
    · have : (j : Int) < 1000 := by omega
      exact Int.lt_of_lt_of_le this (by decide)
    · have := PySem.StrLaws.seqIndex_nonneg (i := (j : Int)) (n := (free.map V.str).length) (by omega) (by rw [ll]; omega)
      rw [Int.toNat_natCast] at this
      exact this
    · rw [List.getElem?_map, List.getElem?_eq_getElem hj]
      rfl
    · rw [map_erase]
      refine q j _ _ (List.getElem?_eq_getElem hj) g1.put (fun b o e => ?_) ?_
      · have e' := g.zk ua s1 b o e
        obtain ⟨u, _⟩ := vis_of e
        rw [upd_ne (les_of u).2]
        exact e'
      · obtain ⟨xs, hl, _⟩ := g.xs
        rw [upd_ne g.lf, hl]
        exact s1 _ _ (by rw [hid_ne g.la]; exact hl)
theorem nameAt_of {U : Addr → Bool} {v3 : V} {i : Nat} (h3 : σ[3]? = some (some v3)) (h6 : σ[6]? = some (some (.int (i : Int)))) (d3 : Dv K (vis U H0) v3 (.list (nm12.map PyData.str))) (hi : i < 12) : Ev.E K U H0 σ (tOp (rIxL K) (tVar 3) (tVar 6)) (.str (nmAt i)) := fun H Q fr sm q => by
  have d3 := d3.same (vis_mono sm)
  cases d3 with
  | @lst p vs _ hp hz hvs =>
    have e : vs = nm12.map V.str := vals_words hvs
    subst e
    refine ⟨_, h3, _, h6, p, _, (i : Int), .str (nmAt i), rfl, rfl, SqL.of (vis_of hp).2, ?_, q _ H (Same.refl _) (.str _)⟩
    refine atI_nat ?_
    rw [List.getElem?_map]
    unfold nmAt
    rw [List.getD_eq_getElem?_getD, List.getElem?_eq_getElem (show i < nm12.length from hi)]
    rfl
/-- the node is put behind, its name is free -/
theorem nodes_tail {D : Ends} {v3 v9 v10 : V} {i : Nat} {kd : Str} {ps : List PyData} {zs : List Str} (h3 : σ[3]? = some (some v3)) (h4 : σ[4]? = some (some (.ref l))) (h5 : σ[5]? = some (some (.ref f))) (h6 : σ[6]? = some (some (.int (i : Int)))) (h8 : σ[8]? = some (some (.str kd))) (h9 : σ[9]? = some (some v9)) (h10 : σ[10]? = some (some v10))
    (g : NSt K H0 a l f k ns free H) (d3 : Dv K (vis (Zl H0 l f) H) v3 (.list (nm12.map PyData.str))) (d9 : Dv K (vis (Zl H0 l f) H) v9 (.tuple ps)) (d10 : Dv K (vis (Zl H0 l f) H) v10 (.list (zs.map PyData.str))) (hi : i < 12) (hn : ns.length < 1000) (hf : free.length < 1000)
    (q : ∀ H', NSt K H0 a l f k (ns ++ [⟨nmAt i, kd, ps, zs⟩]) (free ++ [nmAt i]) H' → Dv K (vis (Zl H0 l f) H') v3 (.list (nm12.map PyData.str)) → D.nx σ H') :
    tSeq (tDrop (tBM K "list" rAppend (tVar 4) (tCons (tTup (tCons (tOp (rIxL K) (tVar 3) (tVar 6)) (tCons (tVar 8) (tCons (tVar 9) (tCons (tVar 10) tNil))))) tNil))) (tDrop (tBM K "list" rAppend (tVar 5) (tCons (tOp (rIxL K) (tVar 3) (tVar 6)) tNil))) D σ H := by
  obtain ⟨xs, hl, hd⟩ := g.xs
  refine ⟨_, h4, .inl ⟨rfl, _, SqL.of hl⟩, ?_⟩
  refine (Ev.tup (Ev.cons (nameAt_of h3 h6 d3 hi) (Ev.cons (Ev.var h8 (.str _)) (Ev.cons (Ev.var h9 d9) (Ev.cons (Ev.var h10 d10) Ev.nil)))) : Ev.E K (Zl H0 l f) H σ _ (Nd.dat ⟨nmAt i, kd, ps, zs⟩)) H _ g.fresh vis_same fun v H1 s1 dv => ?_
  have g1 : NSt K H0 a l f k ns free H1 := ⟨g.src.same s1, g.s.trans s1, g.nl, g.nf, g.lf, g.la, g.fa, ⟨xs, s1 _ _ hl, hd.same (vis_grow s1)⟩, s1 _ _ g.fr⟩
  have lx : xs.length = ns.length := by rw [hd.length, List.length_map]
  refine ⟨l, xs, v, rfl, rfl, s1 _ _ hl, by rw [lx]; exact Nat.lt_of_lt_of_le hn (by decide), ?_⟩
  have g2 := g1.app (s1 _ _ hl) dv
  have d3' := d3.same (vis_grow s1)
  generalize eH : upd H1 l (.lst (xs ++ [v])) = H2 at g2 ⊢
  have d32 : Dv K (vis (Zl H0 l f) H2) v3 (.list (nm12.map PyData.str)) := by
    rw [← eH, vis_upd zl_l]
    exact d3'
  show tDrop (tBM K "list" rAppend (tVar 5) (tCons (tOp (rIxL K) (tVar 3) (tVar 6)) tNil)) D σ H2
  refine ⟨_, h5, .inl ⟨rfl, _, SqL.of g2.fr⟩, ?_⟩
  refine (Ev.cons (nameAt_of h3 h6 d32 hi) Ev.nil : Ev.A K (Zl H0 l f) H2 σ _ [.str (nmAt i)]) H2 _ g2.fresh vis_same fun vs H3 s3 dvs => ?_
  have evs : vs = [.str (nmAt i)] := vals_words (zs := [nmAt i]) dvs
  subst evs
  have g3 : NSt K H0 a l f k (ns ++ [⟨nmAt i, kd, ps, zs⟩]) free H3 := by
    obtain ⟨xs, hl, hd⟩ := g2.xs
    exact ⟨g2.src.same s3, g2.s.trans s3, g.nl, g.nf, g.lf, g.la, g.fa, ⟨xs, s3 _ _ hl, hd.same (vis_grow s3)⟩, s3 _ _ g2.fr⟩
  refine ⟨f, _, _, rfl, rfl, g3.fr, by rw [List.length_map]; exact Nat.lt_of_lt_of_le hf (by decide), ?_⟩
  have := g3.put (free' := free ++ [nmAt i])
  rw [List.map_append] at this
  refine q _ this ?_
  rw [show ((free.map V.str ++ [V.str (nmAt i)]) : List V) = free.map V.str ++ [nmAt i].map V.str from rfl, vis_upd zl_f]
  exact d32.same (vis_grow s3)
/-- what was drawn: a kind and its parameters -/
theorem kind_of {U : Addr → Bool} {v : V} {cls : Int × Int} {d : PyData} {n : Nat} {i j : Nat} {Q : L2.St → Hp → Prop} (hd : DrawnK cls d) (dv : Dv K (vis U H) v d) (hn : n = 2) (q : ∀ kd ps v9, GoodK cls kd ps → Dv K (vis U H) v9 (.tuple ps) → Q ((σ.set i (some (.str kd))).set j (some v9)) H) : gTup K n (gCons (gName i) (gCons (gName j) gNil)) v σ H Q := by
  obtain ⟨kd, ps, rfl, g⟩ := hd
  cases dv with
  | @tup t ts _ ht htz hts =>
    match ts, hts with
    | [t1, t2], .cons ht1 (.cons ht2 .nil) =>
      cases ht1
      exact ⟨t, _, rfl, SqT.of (vis_of ht).2, hn.symm, _, _, rfl, _, _, rfl, rfl, q kd ps _ g ht2⟩
end
end Pw
set_option maxHeartbeats 4000000
/-! _law_nodes: its steps -/
namespace Pw
open PySem PySem.Spec PyProof.Rows L2 Dr
open Ev (vis vis_at vis_of vis_same vis_mono vis_grow Fresh nu fresh_nu vis_nu)
section
variable {K : PySem.W.Frag} {H0 H H' : Hp} {a l f : Addr} {k k' : Int} {ns : List Nd} {free : List Str} {σ : L2.St}
theorem NSt.ext (g : NSt K H0 a l f k ns free H) (s : Same H H') : NSt K H0 a l f k ns free H' := by
  obtain ⟨xs, hl, hd⟩ := g.xs
  exact ⟨g.src.same s, g.s.trans s, g.nl, g.nf, g.lf, g.la, g.fa, ⟨xs, s _ _ hl, hd.same (vis_grow s)⟩, s _ _ g.fr⟩
theorem NSt.mono (g : NSt K H0 a l f k ns free H) (h : k ≤ k') : NSt K H0 a l f k' ns free H := ⟨g.src.mono h, g.s, g.nl, g.nf, g.lf, g.la, g.fa, g.xs, g.fr⟩
theorem seqif_of {tt : TT} {t u r : TS} {D : Ends} {σ : L2.St} {H : Hp} (h : tt σ H fun b H1 => if b = true then t { D with nx := r D } σ H1 else u { D with nx := r D } σ H1) : tSeq (tIfS tt t u) r D σ H := h
theorem if_of' {tt : TT} {t u : TS} {D : Ends} {σ : L2.St} {H : Hp} (h : tt σ H fun b H1 => if b = true then t D σ H1 else u D σ H1) : tIfS tt t u D σ H := h
theorem asg_of' {te : TE} {g : TG} {D : Ends} {σ : L2.St} {H : Hp} (h : te σ H fun x H1 => g x σ H1 D.nx) : tAsg te g D σ H := h
/-- range(e) in a loop -/
theorem rng_for {U : Addr → Bool} {n : Nat} {te : TE} {g : TG} {tb u : TS} {D : Ends} (he : Dr.E K a U n H σ te (In 1 10)) (ua : U a = false) (fr : Fresh U H) (src : Src H a k) (hk : k + n < 1000000) (Pv : Nat → L2.St → Hp → Prop)
    (h : ∀ r : Nat, 1 ≤ r → r ≤ 9 → ∀ H4, Src H4 a (k + n) → Same (hid a H) H4 → Pv 0 σ H4 ∧ (∀ i σ H, i < r → Pv i σ H → g (.int (0 + (i : Nat))) σ H fun σ2 H2 => tb { D with nx := Pv (i + 1), ct := Pv (i + 1), bk := u D } σ2 H2) ∧ ∀ σ H, Pv r σ H → u D σ H) :
    tSeq (tFor (iRng1 (tCons te tNil)) g tb) u D σ H := by
  refine he H _ k ua fr src hk vis_same fun v H4 d sd src4 s4 dv => ?_
  obtain ⟨r, rfl, r1, r2⟩ := sd
  cases dv
  obtain ⟨m, rfl⟩ : ∃ m : Nat, r = (m : Int) := ⟨r.toNat, by omega⟩
  obtain ⟨p0, ps, pd⟩ := h m (by omega) (by omega) H4 src4 s4
  refine ⟨_, rfl, by omega, by omega, ?_⟩
  rw [Int.toNat_natCast]
  exact for_range (D := { D with nx := u D }) Pv p0 ps pd
/-- free == [] or way == 0 -/
theorem none_free {way : Int} {A B : Hp → Prop} (h5 : σ[5]? = some (some (.ref f))) (h7 : σ[7]? = some (some (.int way))) (g : NSt K H0 a l f k ns free H) (hn : ∀ z ∈ free, isName (.str z) = true) (hl : free.length ≤ 1000) (hA : ∀ H1, Same H H1 → A H1) (hB : ∀ H1, Same H H1 → free ≠ [] → way ≠ 0 → B H1) :
    tOr (tTest (tOp (rEqD K) (tVar 5) (tLst tNil))) (tTest (tOp rEq (tVar 7) (tC (.int 0)))) σ H fun b H1 => if b = true then A H1 else B H1 := by
  refine ⟨_, h5, by decide, fun p np => ?_⟩
  have s1 : Same H (upd H p (.lst [])) := same_upd np
  have ok1 : okD 2 (.list (free.map PyData.str)) = true := okD_words (n := 0) hn
  have dvs : ∀ zs : List Str, DvAll K (upd H p (.lst [])) (zs.map V.str) (zs.map PyData.str) := fun zs => by
    induction zs with
    | nil => exact .nil
    | cons z r ih => exact .cons (.str z) ih
  refine ⟨.list (free.map PyData.str), .list [], Dv.dp (.lst (s1 _ _ g.fr) (by rw [List.length_map]; exact hl) (dvs free)) (okD_noDict 2 _ ok1), Dv.dp (.lst upd_same (by decide) .nil) rfl, okD_shaped ok1 (by decide), by decide, _, rfl, ?_⟩
  by_cases e : free = []
  · subst e
    exact hA _ s1
  · have ef : PyData.eqv (.list (free.map PyData.str)) (.list []) = false := by
      cases free with
      | nil => exact absurd rfl e
      | cons z r => rfl
    rw [ef]
    refine ⟨_, h7, rfl, _, rfl, ?_⟩
    by_cases e0 : way = 0
    · subst e0
      exact yes_if (decide_eq_true rfl) (hA _ s1)
    · exact no_if (decide_eq_false fun z => e0 (by injection z)) (hB _ s1 e e0)
/-- way == 1 and len(free) > 1 -/
theorem two_free {way : Int} {A B : Hp → Prop} (h5 : σ[5]? = some (some (.ref f))) (h7 : σ[7]? = some (some (.int way))) (g : NSt K H0 a l f k ns free H) (hA : 1 < free.length → A H) (hB : B H) :
    tAnd (tTest (tOp rEq (tVar 7) (tC (.int 1)))) (tTest (tOp (rI0 fun i j => V.bl (decide (j < i))) (tCB (lenR K) (tCons (tVar 5) tNil)) (tC (.int 1)))) σ H fun b H1 => if b = true then A H1 else B H1 := by
  refine ⟨_, h7, rfl, _, rfl, ?_⟩
  by_cases e : way = 1
  · subst e
    refine yes_if (decide_eq_true rfl) ?_
    refine ⟨_, h5, f, _, rfl, .inl (SqL.of g.fr), _, _, rfl, rfl, _, rfl, ?_⟩
    rw [List.length_map]
    by_cases e : (1 : Int) < free.length
    · exact yes_if (decide_eq_true e) (hA (by omega))
    · exact no_if (decide_eq_false e) hB
  · exact no_if (decide_eq_false fun z => e (by injection z)) (no_if rfl hB)
/-- min(10, 2 + next(len(free) - 1)) -/
theorem taken_of {Q : VK} (h0 : σ[0]? = some (some (.ref a))) (h5 : σ[5]? = some (some (.ref f))) (g : NSt K H0 a l f k ns free H) (ua : nu H0 a = false) (hk : k + 1 < 1000000) (h2 : 1 < free.length) (hl : free.length ≤ 1000)
    (q : ∀ (t : Nat) H', 2 ≤ t → t ≤ 10 → t ≤ free.length → NSt K H0 a l f (k + 1) ns free H' → Same (vis (Zl H0 l f) H) H' → Q (.int t) H') :
    tCB (fun xs H Q => ∃ i j, xs = [V.int i, V.int j] ∧ Q (V.int (if j < i then j else i)) H) (tCons (tC (.int 10)) (tCons (tOp (rI0 fun i j => V.int (i + j)) (tC (.int 2)) (tCall spNext [] E0 (tCons (tVar 0) (tCons (tOp (rI0 fun i j => V.int (i - j)) (tCB (lenR K) (tCons (tVar 5) tNil)) (tC (.int 1))) tNil)))) tNil)) σ H Q := by
  refine ⟨_, h0, _, h5, f, _, rfl, .inl (SqL.of g.fr), _, _, rfl, rfl, a, _, k, rfl, g.src, by omega, ?_, ?_, fun r H1 r0 r1 src1 s1 => ?_⟩
  · rw [List.length_map]
    omega
  · rw [List.length_map]
    have : (free.length : Int) - 1 ≤ 1000 := by omega
    exact Int.le_trans this (by decide)
  · rw [List.length_map] at r1
    refine ⟨_, _, rfl, rfl, _, _, rfl, ?_⟩
    have g1 := g.go ua src1 s1
    have z1 := g.zk ua s1
    by_cases e : 2 + r < 10
    · rw [if_pos e]
      have := q (2 + r).toNat H1 (by omega) (by omega) (by omega) g1 z1
      rw [show (((2 + r).toNat : Nat) : Int) = 2 + r by omega] at this
      exact this
    · rw [if_neg e]
      exact q 10 H1 (by omega) (by omega) (by omega) g1 z1
theorem erase_perm {α : Type} : ∀ {xs : List α} {j : Nat} {z : α}, xs[j]? = some z → (z :: xs.eraseIdx j).Perm xs
  | [], j, z, h => by simp at h
  | x :: r, 0, z, h => by
    simp at h
    subst h
    exact List.Perm.refl _
  | x :: r, j + 1, z, h => by
    have h' : r[j]? = some z := by simpa using h
    show (z :: x :: r.eraseIdx j).Perm (x :: r)
    exact (List.Perm.swap x z _).trans (List.Perm.cons x (erase_perm h'))
/-- [free.pop(..) for k in range(taken)] -/
theorem takes_of {Q : VK} {t : Nat} (h11 : σ[11]? = some (some (.int (t : Nat)))) (hw : ∀ x, wipe ((wipe σ [12]).set 12 (some x)) [12] = wipe σ [12]) (h0 : ∀ x, ((wipe σ [12]).set 12 (some x))[0]? = some (some (.ref a))) (h5 : ∀ x, ((wipe σ [12]).set 12 (some x))[5]? = some (some (.ref f)))
    (g : NSt K H0 a l f k ns free H) (ua : nu H0 a = false) (hk : k + t < 1000000) (ht : t ≤ free.length) (hl : free.length ≤ 1000)
    (q : ∀ p zs rest H', zs.length = t → (zs ++ rest).Perm free → NSt K H0 a l f (k + t) ns rest H' → Same (vis (Zl H0 l f) H) H' → Dv K (vis (Zl H0 l f) H') (.ref p) (.list (zs.map PyData.str)) → Q (.ref p) H') :
    tLc (iRng1 (tCons (tVar 11) tNil)) (gName 12) tYes (popT K) [12] σ H Q := by
  refine ⟨_, h11, (t : Int), rfl, by omega, by omega, fun D nD => ?_⟩
  have gD := g.ext (same_upd (o := HO.lst []) nD)
  have zD : Zl H0 l f D = true := g.fresh D nD
  rw [show (t : Int).toNat = t from Int.toNat_natCast t]
  refine lc_it (walk_range (lo := 0) (n := t)) (fun i H' => ∃ zs rest, zs.length = i ∧ (zs ++ rest).Perm free ∧ NSt K H0 a l f (k + i) ns rest H' ∧ Same (vis (Zl H0 l f) H) H' ∧ H' l = H l ∧ H' D = some (.lst (zs.map V.str)))
    ⟨[], free, rfl, List.Perm.refl _, gD.mono (by omega), vis_same.trans (same_upd nD), upd_ne (fun e => by rw [← e, zl_l] at zD; cases zD), upd_same⟩ (fun i H' _ p => trivial) (fun i x H' H'' hi p y => ?_) (fun H' p => ?_)
  · obtain ⟨zs, rest, lz, pm, gi, si, el, eD⟩ := p
    obtain ⟨rfl, ex⟩ := y
    have ex : x = .int (0 + i) := ex
    subst ex
    refine ⟨hw _, ?_⟩
    have lp := pm.length_eq
    rw [List.length_append] at lp
    refine pop_of (h0 _) (h5 _) gi ua (by omega) (by omega) (by omega) fun j z H4 hj g4 s4 el4 => ?_
    have Dl : D ≠ l := fun e => by
      rw [e, zl_l] at zD
      cases zD
    have Df : D ≠ f := fun e => by
      rw [e, zl_f] at zD
      cases zD
    have Da : D ≠ a := fun e => by
      rw [e, g.za ua] at zD
      cases zD
    have eD4 := s4 D _ (vis_at zD eD)
    have sN : Same (vis (Zl H0 l f) H) (upd H4 D (.lst (zs.map V.str ++ [.str z]))) := fun b o e => by
      have bD : b ≠ D := fun e2 => by
        obtain ⟨_, e⟩ := vis_of e
        rw [e2, nD] at e
        cases e
      rw [upd_ne bD]
      exact (vis_mono si).trans s4 b o e
    refine ⟨_, eD4, by rw [List.length_map]; exact Nat.lt_of_le_of_lt (by omega : zs.length ≤ 1000) (by decide), zs ++ [z], rest.eraseIdx j, by rw [List.length_append, lz]; rfl, ?_, ?_, sN, by rw [upd_ne Dl.symm, el4, el], by rw [upd_same, List.map_append]; rfl⟩
    · refine List.Perm.trans ?_ pm
      rw [List.append_assoc]
      exact List.Perm.append_left zs (erase_perm hj)
    · obtain ⟨xs, hl0, hd0⟩ := g.xs
      have nDH0 : H0 D = none := none_before g.src g.s nD
      refine ⟨(src_upd g4.src Da.symm).mono (by omega), same_late g4.s nDH0, g4.nl, g4.nf, g4.lf, g4.la, g4.fa, ⟨xs, by rw [upd_ne Dl.symm, el4, el]; exact hl0, hd0.same (vis_mono sN)⟩, by rw [upd_ne Df.symm]; exact g4.fr⟩
  · obtain ⟨zs, rest, lz, pm, gi, si, el, eD⟩ := p
    have dvs : ∀ zs : List Str, DvAll K (vis (Zl H0 l f) H') (zs.map V.str) (zs.map PyData.str) := fun zs => by
      induction zs with
      | nil => exact .nil
      | cons z r ih => exact .cons (.str z) ih
    exact q D zs rest H' lz pm gi si (.lst (vis_at zD eD) (by rw [List.length_map]; omega) (dvs zs))
end
end Pw
set_option maxHeartbeats 8000000
/-! _law_nodes -/
namespace Pw
open PySem PySem.Spec PyProof.Rows L2 Dr
open Ev (vis vis_at vis_of vis_same vis_mono vis_grow Fresh nu fresh_nu vis_nu)
abbrev DJ : Pd := fun d => ∃ cls : Int × Int, cls.1 ≤ 2 ∧ cls.2 = 10 ∧ DrawnK cls d
abbrev DS : Pd := DrawnK (1, 10)
theorem ds_bare {k : Str} (hk : k = "chain" ∨ k = "turns") : ∀ d, KPd k [] d → DS d := good_of (ws := []) (by rcases hk with rfl | rfl <;> decide +kernel) (by rcases hk with rfl | rfl <;> decide +kernel) (by rcases hk with rfl | rfl <;> decide) (by rcases hk with rfl | rfl <;> decide) rfl fun ps hp => by
  cases hp
  exact ⟨fits0, none_of⟩
theorem dj_ds {d : PyData} (h : DS d) : DJ d := ⟨(1, 10), by decide, rfl, h⟩
theorem dj_choose : ∀ d, KPd "choose" [] d → DJ d := fun d h => ⟨(2, 10), by decide, rfl, good_of (k := "choose") (ws := []) (by decide +kernel) (by decide +kernel) (by decide) (by decide) rfl (fun ps hp => by
  cases hp
  exact ⟨fits0, none_of⟩) d h⟩
theorem dj_zip : ∀ d, KPd "zip" [One [Is (.str "first"), Is (.str "last"), Is (.str "sum")]] d → DJ d := fun d h => dj_ds (good_of (k := "zip") (ws := ["zip how"]) (by decide +kernel) (by decide +kernel) (by decide) (by decide) rfl (fun ps hp => by
  obtain ⟨d, rfl, S, m, h⟩ := all1 hp
  simp only [List.mem_cons, List.not_mem_nil, or_false] at m
  rcases m with rfl | rfl | rfl <;> (cases h; exact ⟨fitsC (by decide +kernel) fits0, sole (sm_short (by decide))⟩)) d h)
theorem ds_zip : ∀ d, KPd "zip" [Is (.str "sum")] d → DS d := good_of (k := "zip") (ws := ["zip how"]) (by decide +kernel) (by decide +kernel) (by decide) (by decide) rfl (fun ps hp => by
  obtain ⟨d, rfl, h⟩ := all1 hp
  cases h
  exact ⟨fitsC (by decide +kernel) fits0, sole (sm_short (by decide))⟩)
theorem dj_longest : ∀ d, KPd "longest" [In 0 9, Is (.str "sum")] d → DJ d := fun d h => dj_ds (good_of (k := "longest") (ws := ["integer", "zip how"]) (by decide +kernel) (by decide +kernel) (by decide) (by decide) rfl (fun ps hp => by
  obtain ⟨d, e, rfl, ⟨i, rfl, h1, h2⟩, rfl⟩ := all2 hp
  exact ⟨fitsC (so_integer (by omega) (by omega)) (fitsC (by decide +kernel) fits0), two sm_int (sm_short (by decide))⟩) d h)
theorem ds_longest : ∀ d, KPd "longest" [Is (.int 0), Is (.str "last")] d → DS d := good_of (k := "longest") (ws := ["integer", "zip how"]) (by decide +kernel) (by decide +kernel) (by decide) (by decide) rfl (fun ps hp => by
  obtain ⟨d, e, rfl, rfl, rfl⟩ := all2 hp
  exact ⟨fitsC (so_integer (by omega) (by omega)) (fitsC (by decide +kernel) fits0), two sm_int (sm_short (by decide))⟩)
theorem upTo_one {i : Nat} {z : Str} (h : upTo i z ∨ z = nmAt i) : upTo (i + 1) z := by
  rcases h with ⟨j, hj, e⟩ | e
  · exact ⟨j, by omega, e⟩
  · exact ⟨i, by omega, .inl e⟩
theorem upTo_two {i : Nat} {z : Str} (h : upTo i z ∨ z = spAt i ∨ z = nmAt i) : upTo (i + 1) z := by
  rcases h with ⟨j, hj, e⟩ | e | e
  · exact ⟨j, by omega, e⟩
  · exact ⟨i, by omega, .inr e⟩
  · exact ⟨i, by omega, .inl e⟩
/-- what is left of the free names when some are taken -/
theorem left_of {zs rest free : List Str} (hn : free.Nodup) (pm : (zs ++ rest).Perm free) : zs.Nodup ∧ rest.Nodup ∧ (∀ z ∈ zs, z ∈ free) ∧ ∀ z ∈ rest, z ∈ free ∧ z ∉ zs := by
  have h := pm.nodup_iff.mpr hn
  obtain ⟨a, b, c⟩ := List.nodup_append.mp h
  exact ⟨a, b, fun z hz => pm.mem_iff.mp (List.mem_append_left _ hz), fun z hz => ⟨pm.mem_iff.mp (List.mem_append_right _ hz), fun hz' => c z hz' z hz rfl⟩⟩
theorem good_split {cls : Int × Int} {kd : Str} {ps : List PyData} (g : GoodK cls kd ps) : kd ≠ "split" := g.ns
theorem drop_of {te : TE} {u : TS} {D : Ends} {σ : L2.St} {H : Hp} (h : te σ H fun _ H1 => u D σ H1) : tSeq (tDrop te) u D σ H := h
section
variable {P : Program} {w : World} {K : PySem.W.Frag} {mg : Str → Option Value} {base : Heap}
def spNodes (K : PySem.W.Frag) : Sp := fun vs H Q _ => ∃ (a : Addr) (k : Int), vs = [.ref a, .int 9, .int 20] ∧ Src H a k ∧ k + 1000 < 1000000 ∧
  ∀ v H' (ns : List Nd), checkNodes (.list (ns.map Nd.dat)) = none → smB (.list (ns.map Nd.dat)) = true → (∀ n ∈ ns, upTo 12 n.name) → Same (hid a H) H' → Dv K (newOf H H') v (.list (ns.map Nd.dat)) → Q v H'
theorem ok_nodes (B : Blt mg) (bMin : mg "min" = none) (G : DefOk P w K mg base CX0 1 "_law_next" ["_law_source", "_law_many"] spNext) (GO : DefOk P w K mg base CX0 2 "_law_one" ["_law_source", "_law_options"] (spOne K)) (GN : DefOk P w K mg base CX0 3 "_law_source_node" ["_law_source", "_law_wide"] (spDrawn K (0, 0) 30)) (GS : DefOk P w K mg base CX0 3 "_law_single" ["_law_source", "_law_wide"] (spDrawn K (1, 1) 60)) (D : Dfn K mg "_law_nodes" sNodes ["_law_source", "_law_most", "_law_wide"]) :
    DefOk P w K mg base CX0 4 "_law_nodes" ["_law_source", "_law_most", "_law_wide"] (spNodes K) := D.ok fun f fd F => by
  refine F.ok scNodes (fun vs H Q E h => ?_) (fun cdv A outer s H vs Q E hr h => ?_)
  · obtain ⟨a, k, rfl, _⟩ := h
    rfl
  · obtain ⟨a, k, rfl, src, hk, q⟩ := h
    have nd := scNodes.nd
    have ua := nu_a src
    refine ⟨_, (pss_cons (ps_set (i := 3) nd rfl (.inl rfl) (pe_lst (pa_cons pe_str (pa_cons pe_str (pa_cons pe_str (pa_cons pe_str (pa_cons pe_str (pa_cons pe_str (pa_cons pe_str (pa_cons pe_str (pa_cons pe_str (pa_cons pe_str (pa_cons pe_str (pa_cons pe_str pa_nil))))))))))))))
      (pss_cons (ps_set (i := 4) nd rfl (.inl rfl) (pe_lst pa_nil))
      (pss_cons (ps_set (i := 5) nd rfl (.inr rfl) (pe_lst pa_nil))
      (pss_cons (ps_for PassesOwn.never rfl (pi_range1 rfl B.range (pa_cons (pe_op op_add pe_int (pe_def G hr pass0 (pa_cons (pv 0) (pa_cons (pv 1) pa_nil)))) pa_nil)) (pg_name (i := 6) nd rfl (Or.inl rfl))
        (pss_cons (ps_set (i := 7) nd rfl (.inl rfl) (pe_def G hr pass0 (pa_cons (pv 0) (pa_cons pe_int pa_nil))))
          (pss_cons (ps_if (PW.pt (pw_or (pt_cmpR (op_eqD hr.units) (pv 5) (pe_lst pa_nil) (nomark _)) (pw_or1 (pt_cmpR op_eq (pv 7) pe_int (nomark _))))) (pss_cons (ps_asg (pe_def GN hr pass0 (pa_cons (pv 0) (pa_cons (pv 2) pa_nil))) (pg_tup rfl (pgs_cons (pg_name (i := 8) nd rfl (Or.inl rfl)) (pgs_cons (pg_name (i := 9) nd rfl (Or.inl rfl)) pgs_nil))))
            (pss_one (ps_set (i := 10) nd rfl (.inl rfl) (pe_lst pa_nil)))) (pss_one (ps_if (PW.pt (pw_and (pt_cmpR op_eq (pv 7) pe_int (nomark _)) (pw_and1 (pt_cmpR op_gt (pe_callB call_len_seq (by rfl) B.len PySem.boot_len (pa_cons (pv 5) pa_nil)) pe_int (nomark _))))) (pss_cons (ps_set (i := 11) nd rfl (.inl rfl) (pe_callB (call_min2 rfl) (by rfl) bMin PyProof.Rows.boot_min (pa_cons pe_int (pa_cons (pe_op op_add pe_int (pe_def G hr pass0 (pa_cons (pv 0) (pa_cons (pe_op op_sub (pe_callB call_len_seq (by rfl) B.len PySem.boot_len (pa_cons (pv 5) pa_nil)) pe_int) pa_nil)))) pa_nil))))
              (pss_cons (ps_setLc (i := 10) (own := [("_law_k", 12)]) (g := gName 12) (tt := tYes) (by rfl) nd rfl rfl (sw_true rfl rfl rfl (by decide +kernel)) (pi_range1 rfl B.range (pa_cons (pv 11) pa_nil)) (blkOk_by (N := sNodesN) (sc := defScope sNodes) (by decide +kernel)) (fun _ _ _ _ _ => (pg_name (i := 12) nd rfl (Or.inl rfl))) (fun _ _ _ _ _ => pts_nil) (fun _ _ _ _ _ => (pe_bmK (K := K) rfl PySem.F.plainAttrs_list PySem.F.slot_list_pop PySem.F.type_list_pop mt_popAt (pv 5) (pa_cons (pe_def G hr pass0 (pa_cons (pv 0) (pa_cons (pe_callB (lenK (K := K) rfl) (by rfl) B.len PySem.boot_len (pa_cons (pv 5) pa_nil)) pa_nil))) pa_nil))))
              (pss_cons (ps_set (i := 13) nd rfl (.inl rfl) (pe_lst (pa_cons (pe_tup (pa_cons pe_str (pa_cons (pe_tup pa_nil) pa_nil))) (pa_cons (pe_tup (pa_cons pe_str (pa_cons (pe_tup (pa_cons (pe_def GO hr pass0 (pa_cons (pv 0) (pa_cons (pe_lst (pa_cons pe_str (pa_cons pe_str (pa_cons pe_str pa_nil)))) pa_nil))) pa_nil)) pa_nil))) pa_nil))))
              (pss_cons (ps_set (i := 13) nd rfl (.inl rfl) (pe_op op_cat (pv 13) (pe_lst (pa_cons (pe_tup (pa_cons pe_str (pa_cons (pe_tup pa_nil) pa_nil))) (pa_cons (pe_tup (pa_cons pe_str (pa_cons (pe_tup pa_nil) pa_nil))) pa_nil)))))
              (pss_one (ps_asg (pe_def GO hr pass0 (pa_cons (pv 0) (pa_cons (pe_op op_cat (pv 13) (pe_lst (pa_cons (pe_tup (pa_cons pe_str (pa_cons (pe_tup (pa_cons (pe_def G hr pass0 (pa_cons (pv 0) (pa_cons pe_int pa_nil))) (pa_cons pe_str pa_nil))) pa_nil))) pa_nil))) pa_nil))) (pg_tup rfl (pgs_cons (pg_name (i := 8) nd rfl (Or.inl rfl)) (pgs_cons (pg_name (i := 9) nd rfl (Or.inl rfl)) pgs_nil))))))))) (pss_one (ps_if (pt_cmpR op_eq (pv 7) pe_int (nomark _)) (pss_cons (ps_expr (pe_bm PySem.F.plainAttrs_list PySem.F.slot_list_append PySem.F.type_list_append mt_append (pv 4) (pa_cons (pe_tup (pa_cons (pe_op op_add_str (pe_ix ix_list (pv 3) (pv 6) (fun _ _ => rfl)) pe_str) (pa_cons pe_str (pa_cons (pe_tup pa_nil) (pa_cons (pe_lst (pa_cons (pe_bm PySem.F.plainAttrs_list PySem.F.slot_list_pop PySem.F.type_list_pop mt_popAt (pv 5) (pa_cons (pe_def G hr pass0 (pa_cons (pv 0) (pa_cons (pe_callB call_len_seq (by rfl) B.len PySem.boot_len (pa_cons (pv 5) pa_nil)) pa_nil))) pa_nil)) pa_nil)) pa_nil))))) pa_nil)))
                (pss_cons (ps_asg (pe_def GO hr pass0 (pa_cons (pv 0) (pa_cons (pe_lst (pa_cons (pe_tup (pa_cons pe_str (pa_cons (pe_tup (pa_cons pe_str pa_nil)) pa_nil))) (pa_cons (pe_tup (pa_cons pe_str (pa_cons (pe_tup pa_nil) pa_nil))) (pa_cons (pe_tup (pa_cons pe_str (pa_cons (pe_tup pa_nil) pa_nil))) (pa_cons (pe_tup (pa_cons pe_str (pa_cons (pe_tup (pa_cons pe_int (pa_cons pe_str pa_nil))) pa_nil))) pa_nil))))) pa_nil))) (pg_tup rfl (pgs_cons (pg_name (i := 8) nd rfl (Or.inl rfl)) (pgs_cons (pg_name (i := 9) nd rfl (Or.inl rfl)) pgs_nil))))
                (pss_one (ps_set (i := 10) nd rfl (.inl rfl) (pe_op op_rep (pe_lst (pa_cons (pe_op op_add_str (pe_ix ix_list (pv 3) (pv 6) (fun _ _ => rfl)) pe_str) pa_nil)) (pe_op op_add pe_int (pe_def G hr pass0 (pa_cons (pv 0) (pa_cons pe_int pa_nil))))))))) (pss_cons (ps_asg (pe_def GS hr pass0 (pa_cons (pv 0) (pa_cons (pv 2) pa_nil))) (pg_tup rfl (pgs_cons (pg_name (i := 8) nd rfl (Or.inl rfl)) (pgs_cons (pg_name (i := 9) nd rfl (Or.inl rfl)) pgs_nil))))
                (pss_one (ps_set (i := 10) nd rfl (.inl rfl) (pe_lst (pa_cons (pe_bm PySem.F.plainAttrs_list PySem.F.slot_list_pop PySem.F.type_list_pop mt_popAt (pv 5) (pa_cons (pe_def G hr pass0 (pa_cons (pv 0) (pa_cons (pe_callB call_len_seq (by rfl) B.len PySem.boot_len (pa_cons (pv 5) pa_nil)) pa_nil))) pa_nil)) pa_nil))))))))))
          (pss_cons (ps_expr (pe_bm PySem.F.plainAttrs_list PySem.F.slot_list_append PySem.F.type_list_append mt_append (pv 4) (pa_cons (pe_tup (pa_cons (pe_ix ix_list (pv 3) (pv 6) (fun _ _ => rfl)) (pa_cons (pv 8) (pa_cons (pv 9) (pa_cons (pv 10) pa_nil))))) pa_nil)))
          (pss_one (ps_expr (pe_bm PySem.F.plainAttrs_list PySem.F.slot_list_append PySem.F.type_list_append mt_append (pv 5) (pa_cons (pe_ix ix_list (pv 3) (pv 6) (fun _ _ => rfl)) pa_nil))))))))
      (pss_one (ps_ret (pv 4))))))), ?_⟩
    -- names
    refine seqasg_of ?_
    refine (Ev.lst (Ev.cons Ev.str (Ev.cons Ev.str (Ev.cons Ev.str (Ev.cons Ev.str (Ev.cons Ev.str (Ev.cons Ev.str (Ev.cons Ev.str (Ev.cons Ev.str (Ev.cons Ev.str (Ev.cons Ev.str (Ev.cons Ev.str (Ev.cons Ev.str Ev.nil)))))))))))) : Ev.E K (nu H) H _ _ (.list (nm12.map PyData.str))) H _ (fresh_nu H) vis_same fun v3 H1 s1 d3 => ?_
    refine name_of (seqasg_of ?_)
    refine ⟨by decide, fun l nl => name_of (seqasg_of ?_)⟩
    refine ⟨by decide, fun f nf => name_of ?_⟩
    have s2 : Same H1 (upd H1 l (.lst [])) := same_upd nl
    have nlH : H l = none := by
      cases e : H l with
      | none => rfl
      | some o => rw [s1 _ _ e] at nl; cases nl
    have lf : l ≠ f := fun e => by
      rw [← e, upd_same] at nf
      cases nf
    have nfH1 : H1 f = none := by rw [upd_ne lf.symm] at nf; exact nf
    have nfH : H f = none := by
      cases e : H f with
      | none => rfl
      | some o => rw [s1 _ _ e] at nfH1; cases nfH1
    obtain ⟨H3, eH3⟩ : ∃ H3, upd (upd H1 l (.lst [])) f (.lst []) = H3 := ⟨_, rfl⟩
    rw [eH3]
    have s13 : Same H1 H3 := by rw [← eH3]; exact s2.trans (same_upd nf)
    have s3 : Same H H3 := s1.trans s13
    have g0 : NSt K H a l f k [] [] H3 := ⟨src.same s3, hid_same.trans s3, nlH, nfH, lf, not_src src nlH, not_src src nfH, ⟨[], by rw [← eH3, upd_ne lf]; exact upd_same, .nil⟩, by rw [← eH3]; exact upd_same⟩
    have za : Zl H l f a = false := g0.za ua
    have d30 : Dv K (vis (Zl H l f) H3) v3 (.list (nm12.map PyData.str)) := d3.same fun b o e => by
      obtain ⟨u, e⟩ := vis_of e
      have bl := ne_of_none e nl
      have bf := ne_of_none e nfH1
      exact vis_at (les_at (les_at u bl) bf) (s13 _ _ e)
    refine rng_for (U := Zl H l f) (n := 1) ((Dr.opI (f := fun i j => i + j) (W := In 1 10) (ofEv (Ev.int (i := 1))) (draw rfl (v0 (z := 9) rfl)) is_int in_int fun i j h1 h2 => ?w1 : Dr.E K a (Zl H l f) _ H3 _ _ _).mono (by decide) fun d h => h) za g0.fresh g0.src (by omega)
      (fun i σ H' => ∃ (z6 z7 z8 z9 z10 z11 z12 z13 : Option V) (ns : List Nd) (free : List Str), σ = [some (.ref a), some (.int 9), some (.int 20), some v3, some (.ref l), some (.ref f), z6, z7, z8, z9, z10, z11, z12, z13] ∧ NSt K H a l f (k + 1 + 100 * (i : Nat)) ns free H' ∧ Grown ns free (upTo i) ∧ Dv K (vis (Zl H l f) H') v3 (.list (nm12.map PyData.str)) ∧ i ≤ ns.length ∧ ns.length ≤ 2 * i ∧ free.length ≤ i)
      fun r r1 r9 H4 src4 s4 => ⟨?_, fun i σ Hc hi p => ?_, fun σ Hc p => ?_⟩
    case w1 =>
      obtain ⟨j, e, g0, g1⟩ := h2
      cases h1
      cases e
      exact ⟨1 + j, rfl, by omega, by omega⟩
    · exact ⟨none, none, none, none, none, none, none, none, [], [], rfl, (g0.go ua src4 s4).mono (by omega), .nil, d30.same (vgo za s4), by simp, by simp, by simp⟩
    · obtain ⟨z6, z7, z8, z9, z10, z11, z12, z13, ns, free, rfl, g, gr, d3, l1, l2, l3⟩ := p
      have e0 : (0 + ((i : Nat) : Int)) = ((i : Nat) : Int) := by omega
      rw [e0]
      have hi12 : i < 12 := by omega
      obtain ⟨nm1, nm2, nm3, nm4, nm5⟩ := name_ok hi12
      have fnm := gr.free_name (by omega)
      refine name_of (seqasg_of ?_)
      refine (draw_int (m := 6) rfl : Dr.E K a (Zl H l f) _ Hc _ _ _) Hc _ _ za g.fresh g.src (by omega) vis_same fun v7 Hd d7 sd7 srcd sd dv7 => ?_
      obtain ⟨way, rfl, w0, w1⟩ := sd7
      cases dv7
      have gd := g.go ua srcd sd
      have d3d := d3.same (vgo za sd)
      refine name_of (seqif_of ?_)
      refine none_free (l := l) rfl rfl gd fnm (by omega) (fun H1 s1 => ?_) (fun H1 s1 ne w0 => ?_)
      · -- a source
        have g1 := gd.ext s1
        have d31 := d3d.same (vis_grow s1)
        refine seqasg_of ⟨_, rfl, _, rfl, a, _, rfl, g1.src, by omega, fun v H2 d hd src2 s2 dv => ?_⟩
        refine kind_of hd (new_vis g1.fresh dv) rfl fun kd ps v9 gk dp => ?_
        have g2 := g1.go ua src2 s2
        have d32 := d31.same (vgo za s2)
        refine asg_of' ⟨by decide, fun p np => name_of ?_⟩
        have s3 : Same H2 (upd H2 p (.lst [])) := same_upd np
        have g3 := g2.ext s3
        refine nodes_tail (zs := []) rfl rfl rfl rfl rfl rfl rfl g3 (d32.same (vis_grow s3)) (dp.same (vis_grow s3)) (.lst (vis_at (g2.fresh p np) upd_same) (by decide) .nil) hi12 (by omega) (by omega) fun H5 g5 d35 => ?_
        exact ⟨_, _, _, _, _, _, _, _, _, _, rfl, g5.mono (by omega), gr.one (node_of nm1 gk (by decide) (by decide) (fun z h => absurd h (by simp))) (node_sm nm1 gk (fun z h => absurd h (by simp))) nm4 gk.ns List.nodup_nil (fun z h => absurd h (by simp)) gr.nodup (fun z h => ⟨h, by simp⟩) (fun z h => upTo_one h), d35, by rw [List.length_append]; simp; omega, by rw [List.length_append]; simp; omega, by rw [List.length_append]; simp; omega⟩
      · have g1 := gd.ext s1
        have d31 := d3d.same (vis_grow s1)
        have nel : 0 < free.length := List.length_pos_iff.mpr ne
        refine if_of' (two_free rfl rfl g1 (fun h2 => ?_) ?_)
        · -- a join
          refine seqasg_of (taken_of rfl rfl g1 ua (by omega) h2 (by omega) fun t H2 t2 t10 tl g2 z2 => name_of (seqasg_of ?_))
          have d32 := d31.same (vis_mono z2)
          refine takes_of (t := t) rfl (fun x => rfl) (fun x => rfl) (fun x => rfl) g2 ua (by omega) tl (by omega) fun p zs rest H3 lz pm g3 z3 dz => name_of (seqasg_of ?_)
          have d33 := d32.same (vis_mono z3)
          refine (Dr.lst (Ss := [DJ, DJ]) (Dr.cons ((Dr.tup (Dr.cons (ofEv Ev.str) (Dr.cons (Dr.tup Dr.nil) Dr.nil))).mono (Nat.le_refl _) fun d h => dj_ds (ds_bare (.inl rfl) d h)) (Dr.cons ((Dr.tup (Dr.cons (ofEv Ev.str) (Dr.cons (Dr.tup (Dr.cons (Dr.one rfl (Dr.lst (Dr.cons (ofEv Ev.str) (Dr.cons (ofEv Ev.str) (Dr.cons (ofEv Ev.str) Dr.nil))))) Dr.nil)) Dr.nil))).mono (Nat.le_refl _) dj_zip) Dr.nil)) : Dr.E K a (Zl H l f) _ H3 _ _ _) H3 _ _ za g3.fresh g3.src (by omega) vis_same fun v4 H4 d4 sd4 src4 s4 dv4 => ?_
          have g4 := g3.go ua src4 s4
          refine name_of (seqasg_of ?_)
          refine (Dr.cat (Dr.var rfl dv4 sd4) (Dr.lst (Ss := [DJ, DJ]) (Dr.cons ((Dr.tup (Dr.cons (ofEv Ev.str) (Dr.cons (Dr.tup Dr.nil) Dr.nil))).mono (Nat.le_refl _) fun d h => dj_ds (ds_bare (.inr rfl) d h)) (Dr.cons ((Dr.tup (Dr.cons (ofEv Ev.str) (Dr.cons (Dr.tup Dr.nil) Dr.nil))).mono (Nat.le_refl _) dj_choose) Dr.nil))) : Dr.E K a (Zl H l f) _ H4 _ _ _) H4 _ _ za g4.fresh g4.src (by omega) vis_same fun v5 H5 d5 sd5 src5 s5 dv5 => ?_
          have g5 := g4.go ua src5 s5
          refine name_of (asg_of' ?_)
          refine (Dr.one rfl (Dr.cat (Dr.var rfl dv5 sd5) (Dr.lst (Ss := [DJ]) (Dr.cons ((Dr.tup (Dr.cons (ofEv Ev.str) (Dr.cons (Dr.tup (Dr.cons (draw_int rfl) (Dr.cons (ofEv Ev.str) Dr.nil))) Dr.nil))).mono (Nat.le_refl _) dj_longest) Dr.nil))) : Dr.E K a (Zl H l f) _ H5 _ _ _) H5 _ _ za g5.fresh g5.src (by omega) vis_same fun v6 H6 d6 sd6 src6 s6 dv6 => ?_
          have g6 := g5.go ua src6 s6
          have sd6 : DJ d6 := all_of sd6 fun S hS => by
            simp only [List.mem_cons, List.not_mem_nil, or_false, List.cons_append, List.nil_append] at hS
            rcases hS with rfl | rfl | rfl | rfl | rfl <;> exact fun d h => h
          obtain ⟨cls, c1, c2, hd⟩ := sd6
          refine kind_of hd dv6 rfl fun kd ps v9 gk dp => ?_
          have z36 : Same (vis (Zl H l f) H3) (vis (Zl H l f) H6) := (vgo za s4).trans ((vgo za s5).trans (vgo za s6))
          obtain ⟨q1, q2, q3, q4⟩ := left_of gr.nodup pm
          have lp := pm.length_eq
          rw [List.length_append] at lp
          refine nodes_tail (zs := zs) rfl rfl rfl rfl rfl rfl rfl g6 (d33.same z36) dp (dz.same z36) hi12 (by omega) (by omega) fun H7 g7 d37 => ?_
          exact ⟨_, _, _, _, _, _, _, _, _, _, rfl, g7.mono (by omega), gr.one (node_of nm1 gk (by omega) (by omega) (fun z h => fnm z (q3 z h))) (node_sm nm1 gk (fun z h => fnm z (q3 z h))) nm4 gk.ns q1 q3 q2 q4 (fun z h => upTo_one h), d37, by rw [List.length_append]; simp; omega, by rw [List.length_append]; simp; omega, by rw [List.length_append]; simp; omega⟩
        · refine if_of' ⟨_, rfl, rfl, _, rfl, ?_⟩
          by_cases e2 : way = 2
          · subst e2
            refine yes_if (decide_eq_true rfl) ?_
            -- a split and what reads it
            obtain ⟨xs, hl, hd⟩ := g1.xs
            refine drop_of ⟨_, rfl, .inl ⟨rfl, _, SqL.of hl⟩, ?_⟩
            refine (nameAt_of rfl rfl d31 hi12 : Ev.E K (Zl H l f) H1 _ _ _) H1 _ g1.fresh vis_same fun vn H2 s2 dn => ?_
            cases dn
            have g2 := g1.ext s2
            have d32 := d31.same (vis_grow s2)
            have shn : (nmAt i).length + ("s" : Str).length ≤ sizeLine := by
              have := name_short nm1
              have e1 : ("s" : Str).length = 1 := by decide
              rw [e1]
              exact Nat.le_trans (by omega : _ ≤ 13) (by decide)
            refine ⟨_, _, rfl, rfl, shn, by decide, fun t0 nt0 => ?_⟩
            have s3 : Same H2 (upd H2 t0 (.tup [])) := same_upd nt0
            have g3 := g2.ext s3
            have d33 := d32.same (vis_grow s3)
            have dt0 : Dv K (vis (Zl H l f) (upd H2 t0 (.tup []))) (.ref t0) (.tuple []) := .tup (vis_at (g2.fresh t0 nt0) upd_same) (by decide) .nil
            generalize upd H2 t0 (.tup []) = H3 at *
            refine pop_of rfl rfl g3 ua (by omega) nel (by omega) fun j z H4 hj g4 z4 el => ?_
            have d34 := d33.same (vis_mono z4)
            have dt4 := dt0.same (vis_mono z4)
            refine ⟨by show 1 ≤ sizeLine; decide, fun t1 nt1 => ⟨by show 4 ≤ sizeLine; decide, fun t2 nt2 => ?_⟩⟩
            have s5 : Same H4 (upd H4 t1 (.lst [.str z])) := same_upd nt1
            have g5 := g4.ext s5
            have dt5 : Dv K (vis (Zl H l f) (upd H4 t1 (.lst [.str z]))) (.ref t1) (.list [.str z]) := .lst (vis_at (g4.fresh t1 nt1) upd_same) (by show 1 ≤ 1000; decide) (.cons (.str _) .nil)
            have d35 := (d34.same (vis_grow s5))
            have dt6 := dt4.same (vis_grow s5)
            generalize upd H4 t1 (.lst [.str z]) = H5 at *
            have s6 : Same H5 (upd H5 t2 (.tup [.str (nmAt i ++ "s"), .str "split", .ref t0, .ref t1])) := same_upd nt2
            have g6 := g5.ext s6
            have dn6 : Dv K (vis (Zl H l f) (upd H5 t2 (.tup [.str (nmAt i ++ "s"), .str "split", .ref t0, .ref t1]))) (.ref t2) (Nd.dat ⟨nmAt i ++ "s", "split", [], [z]⟩) := .tup (vis_at (g5.fresh t2 nt2) upd_same) (by show 4 ≤ 1000; decide) (.cons (.str _) (.cons (.str _) (.cons (dt6.same (vis_grow s6)) (.cons (dt5.same (vis_grow s6)) .nil))))
            have d36 := d35.same (vis_grow s6)
            generalize upd H5 t2 (.tup [.str (nmAt i ++ "s"), .str "split", .ref t0, .ref t1]) = H6 at *
            obtain ⟨xs6, hl6, hd6⟩ := g6.xs
            have lx6 : xs6.length = ns.length := by rw [hd6.length, List.length_map]
            refine ⟨l, xs6, .ref t2, rfl, rfl, hl6, by rw [lx6]; exact Nat.lt_of_le_of_lt (by omega : ns.length ≤ 1000) (by decide), ?_⟩
            have g7 := g6.app hl6 dn6
            have d37 : Dv K (vis (Zl H l f) (upd H6 l (.lst (xs6 ++ [.ref t2])))) v3 (.list (nm12.map PyData.str)) := by
              rw [vis_upd zl_l]
              exact d36
            generalize upd H6 l (.lst (xs6 ++ [.ref t2])) = H7 at *
            refine seqasg_of ?_
            refine (Dr.one rfl (Dr.lst (Ss := [DS, DS, DS, DS]) (Dr.cons ((Dr.tup (Dr.cons (ofEv Ev.str) (Dr.cons (Dr.tup (Dr.cons (ofEv Ev.str) Dr.nil)) Dr.nil))).mono (Nat.le_refl _) ds_zip) (Dr.cons ((Dr.tup (Dr.cons (ofEv Ev.str) (Dr.cons (Dr.tup Dr.nil) Dr.nil))).mono (Nat.le_refl _) (ds_bare (.inl rfl))) (Dr.cons ((Dr.tup (Dr.cons (ofEv Ev.str) (Dr.cons (Dr.tup Dr.nil) Dr.nil))).mono (Nat.le_refl _) (ds_bare (.inr rfl)))
              (Dr.cons ((Dr.tup (Dr.cons (ofEv Ev.str) (Dr.cons (Dr.tup (Dr.cons (ofEv Ev.int) (Dr.cons (ofEv Ev.str) Dr.nil))) Dr.nil))).mono (Nat.le_refl _) ds_longest) Dr.nil))))) : Dr.E K a (Zl H l f) _ H7 _ _ _) H7 _ _ za g7.fresh g7.src (by omega) vis_same fun v8 H8 d8 sd8 src8 s8 dv8 => ?_
            have g8 := g7.go ua src8 s8
            have sd8 : DS d8 := all_of sd8 fun S hS => by
              simp only [List.mem_cons, List.not_mem_nil, or_false] at hS
              rcases hS with rfl | rfl | rfl | rfl <;> exact fun d h => h
            refine kind_of sd8 dv8 rfl fun kd ps v9 gk dp => asg_of' ?_
            have d38 := d37.same (vgo za s8)
            -- the inputs
            refine (nameAt_of rfl rfl d38 hi12 : Ev.E K (Zl H l f) H8 _ _ _) H8 _ g8.fresh vis_same fun vn H9 s9 dn => ?_
            cases dn
            have g9 := g8.ext s9
            refine ⟨_, _, rfl, rfl, shn, by show 1 ≤ sizeLine; decide, fun t3 nt3 => ?_⟩
            have s10 : Same H9 (upd H9 t3 (.lst [.str (nmAt i ++ "s")])) := same_upd nt3
            have g10 := g9.ext s10
            have et3 : upd H9 t3 (.lst [.str (nmAt i ++ "s")]) t3 = some (.lst [.str (nmAt i ++ "s")]) := upd_same
            have s810 := s9.trans s10
            generalize upd H9 t3 (.lst [.str (nmAt i ++ "s")]) = H10 at *
            refine ⟨_, rfl, a, 3, _, rfl, g10.src, by omega, by decide, by decide, fun m H11 m0 m1 src11 s11 => ?_⟩
            have g11 := g10.go ua src11 s11
            have t3a : t3 ≠ a := not_src g9.src nt3
            have et11 := s11 _ _ (show hid a H10 t3 = _ by rw [hid_ne t3a]; exact et3)
            obtain ⟨c, ec⟩ : ∃ c : Nat, (1 + m : Int) = (c : Int) := ⟨(1 + m).toNat, by omega⟩
            refine ⟨_, _, rfl, rfl, ?_⟩
            refine ⟨t3, 1 + m, _, rfl, rfl, et11, by omega, by omega, ?_, fun p np => name_of ?_⟩
            · show 1 * (1 + m).toNat ≤ sizeLine
              rw [Nat.one_mul]
              exact Nat.le_trans (by omega : (1 + m).toNat ≤ 4) (by decide)
            · have ef : (List.replicate (1 + m).toNat [V.str (nmAt i ++ "s")]).flatten = (List.replicate c (spAt i)).map V.str := by
                rw [ec, Int.toNat_natCast, List.map_replicate]
                exact Ev.rep_flat _ c
              rw [ef]
              have s12 : Same H11 (upd H11 p (.lst ((List.replicate c (spAt i)).map V.str))) := same_upd np
              have g12 := g11.ext s12
              have dvs : ∀ zs : List Str, DvAll K (vis (Zl H l f) (upd H11 p (.lst ((List.replicate c (spAt i)).map V.str)))) (zs.map V.str) (zs.map PyData.str) := fun zs => by
                induction zs with
                | nil => exact .nil
                | cons z r ih => exact .cons (.str z) ih
              have dp12 : Dv K (vis (Zl H l f) (upd H11 p (.lst ((List.replicate c (spAt i)).map V.str)))) (.ref p) (.list ((List.replicate c (spAt i)).map PyData.str)) := .lst (vis_at (g11.fresh p np) upd_same) (by rw [List.length_map, List.length_replicate]; omega) (dvs _)
              have z811 : Same (vis (Zl H l f) H8) (vis (Zl H l f) H11) := (vis_grow s810).trans (vgo za s11)
              obtain ⟨q1, q2, q3, q4⟩ := left_of (zs := [z]) gr.nodup (erase_perm hj)
              have hj' := List.getElem?_eq_some_iff.mp hj
              have le := List.length_eraseIdx_of_lt hj'.1
              have zn : isName (.str z) = true := fnm z (q3 z (List.mem_singleton.mpr rfl))
              obtain ⟨b1, b2⟩ := split_node nm2 zn
              have insN : ∀ y ∈ List.replicate c (spAt i), isName (.str y) = true := fun y hy => by
                rw [(List.mem_replicate.mp hy).2]
                exact nm2
              refine nodes_tail (zs := List.replicate c (spAt i)) rfl rfl rfl rfl rfl rfl rfl g12 ((d38.same z811).same (vis_grow s12)) ((dp.same z811).same (vis_grow s12)) dp12 hi12 (by rw [List.length_append]; simp; omega) (by omega) fun H13 g13 d313 => ?_
              exact ⟨_, _, _, _, _, _, _, _, _, _, rfl, g13.mono (by omega), gr.pair b1 b2 (node_of nm1 gk (by rw [List.length_replicate]; show (1 : Int) ≤ c; omega) (by rw [List.length_replicate]; show (c : Int) ≤ 10; omega) insN) (node_sm nm1 gk insN) nm5 nm4 nm3 gk.ns rfl (by omega) (by omega) (q3 z (List.mem_singleton.mpr rfl)) q2 (fun y hy => ⟨(q4 y hy).1, fun e => (q4 y hy).2 (by rw [e]; exact List.mem_singleton.mpr rfl)⟩) (fun y hy => upTo_two hy), d313, by rw [List.length_append, List.length_append]; simp; omega, by rw [List.length_append, List.length_append]; simp; omega, by rw [List.length_append]; simp; omega⟩
          · refine no_if (decide_eq_false fun z => e2 (by injection z)) ?_
            -- a single one
            refine seqasg_of ⟨_, rfl, _, rfl, a, _, rfl, g1.src, by omega, fun v H2 d hd src2 s2 dv => ?_⟩
            refine kind_of hd (new_vis g1.fresh dv) rfl fun kd ps v9 gk dp => asg_of' ?_
            have g2 := g1.go ua src2 s2
            have d32 := d31.same (vgo za s2)
            refine pop_of rfl rfl g2 ua (by omega) nel (by omega) fun j z H3 hj g3 z3 el => ?_
            have d33 := d32.same (vis_mono z3)
            refine ⟨by show 1 ≤ sizeLine; decide, fun t1 nt1 => name_of ?_⟩
            have s4 : Same H3 (upd H3 t1 (.lst [.str z])) := same_upd nt1
            have g4 := g3.ext s4
            obtain ⟨q1, q2, q3, q4⟩ := left_of (zs := [z]) gr.nodup (erase_perm hj)
            have hj' := List.getElem?_eq_some_iff.mp hj
            have le := List.length_eraseIdx_of_lt hj'.1
            refine nodes_tail (zs := [z]) rfl rfl rfl rfl rfl rfl rfl g4 (d33.same (vis_grow s4)) ((dp.same (vis_mono z3)).same (vis_grow s4)) (.lst (vis_at (g3.fresh t1 nt1) upd_same) (by show 1 ≤ 1000; decide) (.cons (.str _) .nil)) hi12 (by omega) (by omega) fun H5 g5 d35 => ?_
            exact ⟨_, _, _, _, _, _, _, _, _, _, rfl, g5.mono (by omega), gr.one (node_of nm1 gk (by show (1 : Int) ≤ 1; decide) (by show (1 : Int) ≤ 1; decide) (fun z h => fnm z (q3 z h))) (node_sm nm1 gk (fun z h => fnm z (q3 z h))) nm4 gk.ns q1 q3 q2 q4 (fun z h => upTo_one h), d35, by rw [List.length_append]; simp; omega, by rw [List.length_append]; simp; omega, by rw [List.length_append]; simp; omega⟩
    · obtain ⟨z6, z7, z8, z9, z10, z11, z12, z13, ns, free, rfl, g, gr, d3, l1, l2, l3⟩ := p
      obtain ⟨c1, c2⟩ := gr.check (by omega) (by omega)
      obtain ⟨xs, hl, hd⟩ := g.xs
      refine ret_of ⟨_, rfl, ?_⟩
      refine q _ Hc ns c1 c2 (fun n hn => by
        obtain ⟨j, hj, e⟩ := gr.names n hn
        exact ⟨j, by omega, e⟩) g.s (.lst (newOf_at nlH hl) (by rw [hd.length, List.length_map]; omega) (hd.same fun b o e => ?_))
      have := les_vis b o (les_vis b o e)
      rw [vis_nu] at this
      exact this
end
end Pw
set_option maxHeartbeats 2000000
/-! _law_copied -/
namespace Pw
open PySem PySem.Spec PyProof.Rows L2
abbrev sLCopied : Stmt := topS 67
theorem scLCopied : FnScope ["_law_value", "_law_one_here"] ["_law_value"] (defScope sLCopied) := ⟨rfl, rfl, rfl, by decide +kernel, rfl, by decide +kernel, by decide +kernel⟩
section
variable {P : Program} {w : World} {K : PySem.W.Frag} {mg : Str → Option Value} {base : Heap}
theorem ok_lcopied (B : Blt mg) (D : Dfn K mg "_law_copied" sLCopied ["_law_value"]) : ∀ n : Nat, DefOk P w K mg base CX0 n "_law_copied" ["_law_value"] (spCopied K n)
  | 0 => D.ok fun f fd F => ⟨fun vs H Q E h => (by obtain ⟨_, _, _, _, z, _⟩ := h; cases z), fun A outer s H args us vs Q E hr e0 hb hv h => (by obtain ⟨_, _, _, _, z, _⟩ := h; cases z)⟩
  | n + 1 => by
    have G := ok_lcopied B D n
    refine D.ok fun f fd F => ?_
    refine F.ok scLCopied (fun vs H Q E h => ?_) (fun cdv A outer s H vs Q E hr h => ?_)
    · obtain ⟨x, d, rfl, _⟩ := h
      rfl
    · obtain ⟨x, d, rfl, hx, hn, q⟩ := h
      have nd := scLCopied.nd
      refine ⟨_, pss_cons (ps_if (pt_val (pe_isi B.isi (pa_cons (pv 0) (pa_cons (pe_cls (n := "list") "list" B.list) pa_nil))))
          (pss_one (ps_ret (pe_lc (own := [("_law_one_here", 1)]) (g := gName 1) (tt := tYes) rfl nd (pi_list (pv 0)) (blkOk_by (N := ["_law_value", "_law_one_here"]) (sc := defScope sLCopied) (by decide +kernel))
            (fun _ _ _ _ _ => pg_name (i := 1) nd rfl (Or.inl rfl)) (fun _ _ _ _ _ => pts_nil)
            (fun _ _ _ _ _ => pe_def G hr pass0 (pa_cons (pv 1) pa_nil) (Nat.le_refl _))))) pss_nil)
        (pss_one (ps_ret (pe_ifExp (pt_val (pe_isi B.isi (pa_cons (pv 0) (pa_cons (pe_cls (n := "tuple") "tuple" B.tuple) pa_nil))))
          (pe_tupleOf (by rfl) B.tuple (pe_lc (own := [("_law_one_here", 1)]) (g := gName 1) (tt := tYes) rfl nd (pi_tup (pv 0)) (blkOk_by (N := ["_law_value", "_law_one_here"]) (sc := defScope sLCopied) (by decide +kernel))
            (fun _ _ _ _ _ => pg_name (i := 1) nd rfl (Or.inl rfl)) (fun _ _ _ _ _ => pts_nil)
            (fun _ _ _ _ _ => pe_def G hr pass0 (pa_cons (pv 1) pa_nil) (Nat.le_refl _)))) (pv 0)))), ?_⟩
      refine ⟨x, rfl, _, _, _, _, _, rfl, .ty "list", hx.ty, kit_ty (isa_list d), _, rfl, ite2 (fun e1 => ?_) (fun e1 => ?_)⟩
      · cases hx with
        | @lst a xs ds ha hzz hds =>
          have hn2 : ∀ e ∈ ds, dpB n e = true := fun e he => List.all_eq_true.mp (show ds.all (dpB n) = true from hn) e he
          refine ⟨.ref a, rfl, a, rfl, ⟨_, SqL.of ha⟩, fun D1 nD1 => ?_⟩
          refine lc_data walk_list hds rfl (Nat.lt_of_le_of_lt hzz (by decide)) nD1 (fun H' s' => SqL.of (s' _ _ ha)) (fun _ => rfl) (fun i v e H' Q' he sm hv k => ?_) (fun H' ys s' eD hys => ?_)
          · exact ⟨v, rfl, v, e, rfl, hv, hn2 e (List.mem_of_getElem? he), k⟩
          · refine q _ _ s' (.lst (newOf_at nD1 eD) ?_ (hys.same (newOf_drop nD1)))
            rw [hys.length, ← hds.length]
            exact hzz
        | _ => cases e1
      · refine ⟨x, rfl, _, _, _, _, _, rfl, .ty "tuple", hx.ty, kit_ty (isa_tuple d), _, rfl, ite2 (fun e2 => ?_) (fun e2 => ?_)⟩
        · cases hx with
          | @tup a xs ds ha hzz hds =>
            have hn2 : ∀ e ∈ ds, dpB n e = true := fun e he => List.all_eq_true.mp (show ds.all (dpB n) = true from hn) e he
            refine ⟨.ref a, rfl, a, rfl, ⟨_, SqT.of ha⟩, fun D1 nD1 => ?_⟩
            refine lc_data walk_tup hds rfl (Nat.lt_of_le_of_lt hzz (by decide)) nD1 (fun H' s' => SqT.of (s' _ _ ha)) (fun _ => rfl) (fun i v e H' Q' he sm hv k => ?_) (fun H' ys s' eD hys => ?_)
            · exact ⟨v, rfl, v, e, rfl, hv, hn2 e (List.mem_of_getElem? he), k⟩
            · refine .inl ⟨D1, ys, rfl, SqL.of eD, fun T nT => ?_⟩
              have nT0 : H T = none := by
                cases h : H T with
                | none => rfl
                | some z =>
                  rw [s' T z h] at nT
                  cases nT
              refine q _ _ (same_new s' nT0) (.tup (newOf_at nT0 upd_same) ?_ (hys.same fun b o e => ?_))
              · rw [hys.length, ← hds.length]
                exact hzz
              · have e3 := newOf_drop nD1 b o e
                have e4 := newOf_same b o e
                have bT : b ≠ T := fun q' => by
                  rw [q', nT] at e4
                  cases e4
                have nb : H b = none := by
                  unfold newOf at e3
                  cases h : H b with
                  | none => rfl
                  | some z =>
                    rw [h] at e3
                    cases e3
                exact newOf_at nb (by rw [upd_ne bT]; exact e4)
          | _ => cases e2
        · refine ⟨x, rfl, q _ _ (Same.refl _) ?_⟩
          cases hx with
          | non => exact .non
          | bl b => exact .bl b
          | int i => exact .int i
          | str z => exact .str z
          | lst => exact absurd rfl e1
          | tup => exact absurd rfl e2
          | dct => cases hn
end
end Pw
set_option maxHeartbeats 2000000
/-! own operators: len, in, not in, ==, != -/
namespace Own
open PySem PySem.Spec PyProof.Rows L2
section
variable {X : Cx} {CX : CXT} {k : Nat} {C f : Addr} {fd : FuncData} {ps : List Str} {sp : Sp} {E : XK}
theorem run_at {A : Around} {pins : List (Addr × Obj)} {σ : L2.St} {H : Hp} {s : Shared} {Q : VK} {us : List Value} {vs : List V} (F : FnOk X.prog X.w X.K X.mg X.base CX k f fd ps sp) (hr : Room k A) (fr : A.frames = X.A.frames) (hb : Binds X.K fd ps []) (hx : Passes CX X E)
    (I : Inv X pins σ H s) (r : Vals vs us) (h : sp vs H Q E) : wpAny (model X.prog X.w) A (call (.ref f) us) (EP X pins σ Q) X.xe s := by
  have hl : us.length = ps.length := by rw [← r.length]; exact F.len _ _ _ _ h
  have e0 : Env0 X.prog X.w X.K X.mg X.base A X.stack s H := by
    have e := I.env0
    exact ⟨by rw [fr]; exact e.frames, e.mod, e.bs, e.bsz, e.funs, e.frf, e.hok, e.bare⟩
  refine wpAny_call (codeAny_mono (F.run A X.stack s H ⟨us, []⟩ us vs Q E hr e0 (by
    have := hb s us I.kIn (by simpa using hl)
    simpa using this) r h) fun r s' hq => ?_)
  cases r with
  | error e => exact hx pins σ H s e s' I hq
  | ok fl =>
    cases fl with
    | ret u => exact I.after hq
    | next => exact False.elim hq
    | brk => exact False.elim hq
    | cont => exact False.elim hq
/-- contains(x, v) by an own __contains__ -/
theorem contains_own {pins : List (Addr × Obj)} {σ : L2.St} {H : Hp} {s : Shared} {a dx : Addr} {fs : List (Str × V)} {x : V} {u : Value} {Q : Bool → Hp → Prop} (m : Meth X.K C "__contains__" f) (F : FnOk X.prog X.w X.K X.mg X.base CX k f fd ps sp) (hr : Room k X.A) (hb : Binds X.K fd ps []) (hx : Passes CX X E)
    (I : Inv X pins σ H s) (ha : H a = some (.ins C dx fs)) (rx : RelV x u) (h : sp [.ref a, x] H (fun v H' => ∃ b, v = .bl b ∧ Q b H') E) :
    wpAny (model X.prog X.w) X.A (contains (.ref a) u) (fun b s' => ∃ H', Inv X pins σ H' s' ∧ Q b H') X.xe s := by
  obtain ⟨mA, J, _⟩ := ins_get I.hok ha
  obtain ⟨od, J, _⟩ := J.look
  unfold contains
  refine wpAny_holding (wpAny_bind (wpAny_bind (J.type.here ((PySem.W.looks_findIn I.kIn m.at_).here ?_))))
  rw [if_neg (by simp)]
  refine wpAny_bind ?_
  refine PySem.W.unlessNone_K I.kIn J m.at_ m.fn ?_
  refine thn (run_fn (us := [.ref a, u]) (vs := [.ref a, x]) F hr hb .nil hx I (.cons rfl (.cons rx .nil)) h) fun r s' got => ?_
  obtain ⟨v, H', I', rv, b, rfl, q⟩ := got
  obtain rfl : r = Value.bool b := rv
  exact wpAny_truthy_bool ⟨H', I', q⟩
def rInOwn (C : Addr) (sp : Sp) (E : XK) (neg : Bool) : R2 := fun x y H Q => ∃ (a dx : Addr) (fs : List (Str × V)), y = .ref a ∧ H a = some (.ins C dx fs) ∧ sp [.ref a, x] H (fun v H' => ∃ b, v = .bl b ∧ Q (.bl (if neg = true then !b else b)) H') E
theorem op_inOwn (m : Meth X.K C "__contains__" f) (F : FnOk X.prog X.w X.K X.mg X.base CX k f fd ps sp) (hr : Room k X.A) (hb : Binds X.K fd ps []) (hx : Passes CX X E) : OpR X (compareOp .In) (rInOwn C sp E false) := by
  intro pins s σ H x y v u Q I rx ry h
  obtain ⟨a, dx, fs, rfl, ha, q⟩ := h
  obtain rfl : u = Value.ref a := ry
  refine wpAny_bind (wpAny_mono (contains_own m F hr hb hx I ha rx q) (fun b s' z => ?_) fun _ _ z => z)
  obtain ⟨H', I', q'⟩ := z
  exact wpAny_pure ⟨.bl b, H', I', rfl, q'⟩
theorem op_ninOwn (m : Meth X.K C "__contains__" f) (F : FnOk X.prog X.w X.K X.mg X.base CX k f fd ps sp) (hr : Room k X.A) (hb : Binds X.K fd ps []) (hx : Passes CX X E) : OpR X (compareOp .NotIn) (rInOwn C sp E true) := by
  intro pins s σ H x y v u Q I rx ry h
  obtain ⟨a, dx, fs, rfl, ha, q⟩ := h
  obtain rfl : u = Value.ref a := ry
  refine wpAny_bind (wpAny_mono (contains_own m F hr hb hx I ha rx q) (fun b s' z => ?_) fun _ _ z => z)
  obtain ⟨H', I', q'⟩ := z
  exact wpAny_pure ⟨.bl (!b), H', I', rfl, q'⟩
/-- len(x) by an own __len__ -/
def rLenOwn (C : Addr) (sp : Sp) (E : XK) : List V → Hp → VK → Prop := fun xs H Q => ∃ (a dx : Addr) (fs : List (Str × V)), xs = [.ref a] ∧ H a = some (.ins C dx fs) ∧ sp [.ref a] H (fun v H' => ∃ n : Int, v = .int n ∧ 0 ≤ n ∧ n < 2 ^ 63 ∧ Q (.int n) H') E
theorem call_lenOwn (m : Meth X.K C "__len__" f) (F : FnOk X.prog X.w X.K X.mg X.base CX k f fd ps sp) (hr : Room (k + 1) X.A) (hb : Binds X.K fd ps []) (hx : Passes CX X E) : CallR X (.builtin "len") (rLenOwn C sp E) := by
  intro pins s σ H xs us Q I r h
  obtain ⟨a, dx, fs, rfl, ha, q⟩ := h
  obtain ⟨u, rfl, rv⟩ := r.one
  obtain rfl : u = Value.ref a := rv
  obtain ⟨mA, J, _⟩ := ins_get I.hok ha
  obtain ⟨od, J, _⟩ := J.look
  refine Calls.call_function_entry kind_len plain_len entry_len (args_len1 _) ?_
  unfold Builtin.«len»
  refine wpAny_bind (m := oneArg "len" _) (wpAny_pure ?_)
  refine wpAny_bind (m := callSpecial? (.ref a) (Str.ofString "__len__")) (PySem.W.special_fn I.kIn J m.at_ (beq_iff_eq.mp m.fn) (wpAny_mono (run_at (us := [.ref a]) (vs := [.ref a]) F hr.in1 rfl hb hx I (.cons rfl .nil) q) (fun r s' hr' => ?_) fun _ _ y => y))
  obtain ⟨v, H', I', rv, n, rfl, n0, n1, q'⟩ := hr'
  obtain ⟨t, rfl⟩ := rv
  refine wpAny_bind (wpAny_holding (wpAny_pure ?_))
  refine wpAny_bind (wpAny_letGo ?_)
  show wpAny _ _ (if n < 0 then _ else _) _ _ _
  rw [if_neg (by omega)]
  show wpAny _ _ (if n ≥ 2 ^ 63 then _ else _) _ _ _
  rw [if_neg (by omega)]
  exact wpAny_bind (wpAny_mkInt (wpAny_pure ⟨_, rfl, .int n, H', I'.tok _, ⟨_, rfl⟩, q'⟩))
/-! ### own == and what follows for != -/
def rEqOwn (C : Addr) (sp : Sp) (E : XK) (neg : Bool) : R2 := fun x y H Q => ∃ (a b dx dy : Addr) (fs gs : List (Str × V)), x = .ref a ∧ y = .ref b ∧ H a = some (.ins C dx fs) ∧ H b = some (.ins C dy gs) ∧ sp [.ref a, .ref b] H (fun v H' => ∃ c, v = .bl c ∧ Q (.bl (if neg = true then !c else c)) H') E
theorem op_eqOwn (m : Meth X.K C "__eq__" f) (F : FnOk X.prog X.w X.K X.mg X.base CX k f fd ps sp) (hr : Room k X.A) (hb : Binds X.K fd ps []) (hx : Passes CX X E) : OpR X (compareOp .Eq) (rEqOwn C sp E false) := by
  intro pins s σ H x y u v Q I rx ry h
  obtain ⟨a, b, dx, dy, fs, gs, rfl, rfl, ha, hb', q⟩ := h
  cases rx
  cases ry
  obtain ⟨mA, J, _⟩ := ins_get I.hok ha
  obtain ⟨mB, J', _⟩ := ins_get I.hok hb'
  obtain ⟨od, J, _⟩ := J.look
  obtain ⟨od', J', _⟩ := J'.look
  obtain ⟨mf, hF⟩ := I.fr
  show wpAny (model X.prog X.w) X.A (richCompare .Eq (.ref a) (.ref b)) (EP X pins σ Q) X.xe s
  refine PySem.W.cmp_K (op := .Eq) (tb := .ref C) hr.units0 hF I.ok.mod.kin J J'.type (by simp [PySem.W.notFirst]) m.at_ m.fn ?_
  refine thn (run_at (us := [.ref a, .ref b]) (vs := [.ref a, .ref b]) F hr rfl hb hx I (.cons rfl (.cons rfl .nil)) q) fun r s' got => ?_
  obtain ⟨w, H', I', rv, c, rfl, q'⟩ := got
  obtain rfl : r = Value.bool c := rv
  exact ⟨.bl c, H', I', rfl, q'⟩
theorem ifBound_ne {M : Model} {A : Around} {Ex : Value → Shared → Prop} {s : Shared} {K : PySem.W.Frag} {x C : Addr} {ox : Obj} {od : Option Obj} {args : List Value} {Q : Option Value → Shared → Prop} (Xk : K.In s.heap) (I : PySem.W.InstAt s.heap x ox C od) (hs : PySem.W.findIn K (.ref C) "__ne__" = some (some (.builtin "object.__ne__")))
    (h : wpAny M A (call (.builtin "object.__ne__") (.ref x :: args)) (fun v => Q (some v)) Ex s) : wpAny M A (callSpecialIfBound? (.ref x) "__ne__" args) Q Ex s := by
  simp only [callSpecialIfBound?, bindSpecialIfBound?]
  refine wpAny_holding (wpAny_bind (wpAny_bind (wpAny_bind (I.type.here ((PySem.W.looks_findIn Xk hs).here ?_)))))
  refine wpAny_bind (wpAny_askSetting (wpAny_ite ?_))
  have fin : wpAny M A (call (.builtin "object.__ne__") ([.ref x] ++ args) >>= fun v => pure (some v)) Q Ex s := wpAny_bind (wpAny_mono h (fun v s' h' => wpAny_pure h') fun _ _ h' => h')
  split
  · exact wpAny_bind (wpAny_of_eq (PySem.F.cmp_object.ne.bind _) (wpAny_pure (by exact fin)))
  · exact wpAny_tryCatch (wpAny_bind (wpAny_of_eq (PySem.F.cmp_object.ne.bind _) (wpAny_pure (by exact fin))))
theorem op_neOwn (m : Meth X.K C "__eq__" f) (hn : PySem.W.findIn X.K (.ref C) "__ne__" = some (some (.builtin "object.__ne__"))) (hm : PySem.W.mroIn X.K C (.type "object") = some true)
    (F : FnOk X.prog X.w X.K X.mg X.base CX k f fd ps sp) (hr : Room (k + 1) X.A) (hb : Binds X.K fd ps []) (hx : Passes CX X E) : OpR X (compareOp .NotEq) (rEqOwn C sp E true) := by
  intro pins s σ H x y u v Q I rx ry h
  obtain ⟨a, b, dx, dy, fs, gs, rfl, rfl, ha, hb', q⟩ := h
  cases rx
  cases ry
  obtain ⟨mA, J, _⟩ := ins_get I.hok ha
  obtain ⟨mB, J', _⟩ := ins_get I.hok hb'
  obtain ⟨od, J, _⟩ := J.look
  obtain ⟨od', J', _⟩ := J'.look
  show wpAny (model X.prog X.w) X.A (richCompare .NotEq (.ref a) (.ref b)) (EP X pins σ Q) X.xe s
  have one : wpAny (model X.prog X.w) X.A (tryCompare (.ref a) "__ne__" (.ref b)) (fun r s' => ∃ c, r = some (.bool c) ∧ EP X pins σ Q (.bool c) s') X.xe s := by
    unfold tryCompare
    refine wpAny_bind (ifBound_ne I.kIn J hn ?_)
    refine wpAny_call (codeAny_call_builtin PySem.F.cmp_object.ne.plain PySem.F.cmpEntry_ne (PySem.W.check_slot PySem.F.cmpKind_ne PySem.F.cmpSplit_ne (J.type.andThen (PySem.W.looks_mroIn I.kIn hm)) (PySem.F.cmpArgs_ne _ _) ?_))
    unfold Builtin.«object.__ne__»
    refine wpAny_bind (m := slotArgs "__ne__" 1 _) (wpAny_pure ?_)
    refine wpAny_bind (wpAny_cRoomFor hr.in1.units0 ?_)
    refine wpAny_bind (PySem.W.ifBound_K I.kIn J m.at_ m.fn ?_)
    refine thn (run_at (us := [.ref a, .ref b]) (vs := [.ref a, .ref b]) F hr.in1 rfl hb hx I (.cons rfl (.cons rfl .nil)) q) fun r s' got => ?_
    obtain ⟨w, H', I', rv, c, rfl, q'⟩ := got
    obtain rfl : r = Value.bool c := rv
    refine wpAny_bind (wpAny_truthy_bool ?_)
    exact wpAny_pure (fun Γ p hΓ => (wpAny_pure (M := model X.prog X.w) (A := X.A) (E := X.xe) (s := s') (a := some (Value.bool !c)) (Q := fun r s' => ∃ c, r = some (Value.bool c) ∧ EP X pins σ Q (Value.bool c) s') ⟨!c, rfl, .bl (!c), H', I', rfl, q'⟩) Γ p hΓ)
  unfold richCompare
  simp only [oneThing_ref]
  refine wpAny_holding (wpAny_bind (wpAny_cRoomFor hr.units0 ?_))
  refine wpAny_bind (J.type.here (wpAny_bind (J'.type.here ?_)))
  rw [show (Value.ref C != Value.ref C) = false from by simp]
  simp only [Bool.false_eq_true, if_false]
  refine wpAny_bind (wpAny_pure ?_)
  simp only [Bool.false_eq_true, if_false]
  refine wpAny_bind (wpAny_mono one (fun r s' z => ?_) fun _ _ e => e)
  obtain ⟨c, rfl, hq⟩ := z
  exact wpAny_pure hq
end
end Own
set_option maxHeartbeats 2000000
/-! a net with its places: in, len, == -/
namespace Pw
open PySem PySem.Spec PyProof.Rows L2 Own
abbrev sNetEq : Stmt := netM 1
abbrev sNetLen : Stmt := netM 2
abbrev sNetHas : Stmt := netM 3
theorem scNetEq : FnScope ["self", "other"] ["self", "other"] (defScope sNetEq) := ⟨rfl, rfl, rfl, by decide +kernel, rfl, by decide +kernel, by decide +kernel⟩
theorem scNetLen : FnScope ["self"] ["self"] (defScope sNetLen) := ⟨rfl, rfl, rfl, by decide +kernel, rfl, by decide +kernel, by decide +kernel⟩
theorem scNetHas : FnScope ["self", "name"] ["self", "name"] (defScope sNetHas) := ⟨rfl, rfl, rfl, by decide +kernel, rfl, by decide +kernel, by decide +kernel⟩
/-- what isinstance and != ask of the class -/
structure ClsTy (K : PySem.W.Frag) (C : Addr) : Prop where
  ha : PySem.W.findIn K (.ref C) "__class__" = some (some (.builtin "object.__class__"))
  hn : PySem.W.specialIn K (.builtin "object.__class__") "__get__" = some (some (.builtin "getset_descriptor.__get__"))
  ht : PySem.W.takesIn K (.builtin "object.__class__") = some true
  hm : PySem.W.mroIn K C (.type "object") = some true
  ne : PySem.W.findIn K (.ref C) "__ne__" = some (some (.builtin "object.__ne__"))
  self : PySem.W.kitOne K (.ref C) (.ref C) = some true
structure NetF (K : PySem.W.Frag) (H : Hp) (C a pd : Addr) (ns : List Nd) : Prop where
  at_ : ∃ (dx : Addr) (v : V), H a = some (.ins C dx (netFs v pd)) ∧ Dv K H v (.list (ns.map Nd.dat))
  pl : H pd = some (kiO (placesN 0 ns))
  wired : Wired [] ns
  some_ : 1 ≤ ns.length
  few : ns.length ≤ 30
theorem NetF.same {K : PySem.W.Frag} {H H' : Hp} {C a pd : Addr} {ns : List Nd} (h : NetF K H C a pd ns) (s : Same H H') : NetF K H' C a pd ns := by
  obtain ⟨dx, v, h1, h2⟩ := h.at_
  exact ⟨⟨dx, v, s _ _ h1, h2.same s⟩, s _ _ h.pl, h.wired, h.some_, h.few⟩
theorem NetF.net {K : PySem.W.Frag} {H : Hp} {C a pd : Addr} {ns : List Nd} (h : NetF K H C a pd ns) : NetAt K H C a ns := by
  obtain ⟨dx, v, h1, h2⟩ := h.at_
  exact ⟨dx, _, v, h1, rfl, rfl, h2, h.wired, h.some_, h.few⟩
theorem NetNew.full {K : PySem.W.Frag} {H H' : Hp} {C x : Addr} {ns : List Nd} (h : NetNew K H H' C x ns) : ∃ pd, NetF K H' C x pd ns ∧ H pd = none := by
  obtain ⟨dx, v, pd, h1, h2, h3, h4⟩ := h.at_
  exact ⟨pd, ⟨⟨dx, v, h1, h4.same newOf_same⟩, h2, h.wired, h.some_, h.few⟩, h3⟩
def hasName (ns : List Nd) (d : PyData) : Bool := match d with
  | .str s => ns.any fun n => decide (n.name = s)
  | _ => false
theorem places_has (s : Str) : ∀ (k : Nat) (ns : List Nd), ((placesN k ns).lookup s).isSome = ns.any fun n => decide (n.name = s)
  | _, [] => rfl
  | k, n :: r => by
    show (List.lookup s ((n.name, (k : Int)) :: placesN (k + 1) r)).isSome = _
    rw [List.lookup_cons, List.any_cons, ← places_has s (k + 1) r]
    by_cases e : n.name = s
    · rw [decide_eq_true e, beq_iff_eq.mpr e.symm]
      rfl
    · rw [decide_eq_false e, beq_eq_false_iff_ne.mpr (fun z => e z.symm)]
      rfl
section
variable {P : Program} {w : World} {K : PySem.W.Frag} {mg : Str → Option Value} {base : Heap} {C : Addr}
def spHas (K : PySem.W.Frag) (C : Addr) : Sp := fun vs H Q _ => ∃ (a pd : Addr) (ns : List Nd) (x : V) (d : PyData), vs = [.ref a, x] ∧ NetF K H C a pd ns ∧ Dv K H x d ∧ Q (.bl (hasName ns d)) H
theorem fn_has (B : Blt mg) (c : Cls K C) (n2 : NoAttr K C "_places") {f : Addr} {fd : FuncData} (F : Fun K "__contains__" "Net.__contains__" sNetHas f fd) : FnOk P w K mg base CX0 1 f fd ["self", "name"] (spHas K C) := by
  refine F.ok scNetHas (fun vs H Q E h => ?_) (fun cdv A outer s H vs Q E hr h => ?_)
  · obtain ⟨a, pd, ns, x, d, rfl, _⟩ := h
    rfl
  · obtain ⟨a, pd, ns, x, d, rfl, N, hx, q⟩ := h
    have hu := Nat.lt_of_le_of_lt (Nat.add_le_add_left (by decide : 1 ≤ 64) _) hr.units
    obtain ⟨dx, v, h1, h2⟩ := N.at_
    refine ⟨_, pss_one (ps_ret (pe_and (pe_isi B.isi (pa_cons (pv 1) (pa_cons (pe_cls (n := "str") "str" B.str) pa_nil))) (pe_one (pe_cmp (pc_din hu (pv 1) (pe_fld (pv 0) (by rfl))) (by rfl))))), ?_⟩
    refine ⟨x, rfl, _, _, _, _, _, rfl, .ty "str", hx.ty, kit_ty (isa_str d), _, rfl, ite2 (fun e => ?_) (fun e => ?_)⟩
    · cases hx with
      | str z =>
        have g := DGet.k (k := .inr z) N.pl
        rw [valV_words] at g
        refine ⟨_, rfl, _, rfl, a, C, dx, _, _, rfl, h1, c, n2, rfl, pd, _, rfl, g, ?_⟩
        have e2 : (((placesN 0 ns).lookup z).map V.int).isSome = hasName ns (.str z) := by
          rw [Option.isSome_map]
          exact places_has z 0 ns
        exact Qb e2 q
      | _ => cases e
    · have e2 : false = hasName ns d := by
        cases d <;> first | rfl | exact absurd rfl e
      exact Qb e2 q
def spLenN (K : PySem.W.Frag) (C : Addr) : Sp := fun vs H Q _ => ∃ (a pd : Addr) (ns : List Nd), vs = [.ref a] ∧ NetF K H C a pd ns ∧ Q (.int ns.length) H
theorem fn_len (B : Blt mg) (c : Cls K C) (n1 : NoAttr K C "_nodes") {f : Addr} {fd : FuncData} (F : Fun K "__len__" "Net.__len__" sNetLen f fd) : FnOk P w K mg base CX0 1 f fd ["self"] (spLenN K C) := by
  refine F.ok scNetLen (fun vs H Q E h => ?_) (fun cdv A outer s H vs Q E hr h => ?_)
  · obtain ⟨a, pd, ns, rfl, _⟩ := h
    rfl
  · obtain ⟨a, pd, ns, rfl, N, q⟩ := h
    obtain ⟨dx, v, h1, h2⟩ := N.at_
    refine ⟨_, pss_one (ps_ret (pe_callB call_len_seq (by rfl) B.len PySem.boot_len (pa_cons (pe_fld (pv 0) (by rfl)) pa_nil))), ?_⟩
    cases h2 with
    | @lst l xs ds hl hz hds =>
      refine ⟨_, rfl, a, C, dx, _, .ref l, rfl, h1, c, n1, rfl, l, xs, rfl, .inl (SqL.of hl), ?_⟩
      rw [show xs.length = ns.length by rw [hds.length, List.length_map]]
      exact q
def spEqN (K : PySem.W.Frag) (C : Addr) : Sp := fun vs H Q _ => ∃ (a b pd pe : Addr) (ns ms : List Nd), vs = [.ref a, .ref b] ∧ NetF K H C a pd ns ∧ NetF K H C b pe ms ∧
  SeqAt.shaped (.list (ns.map Nd.dat)) = true ∧ SeqAt.shaped (.list (ms.map Nd.dat)) = true ∧ PyData.hasDict (.list (ns.map Nd.dat)) = false ∧ PyData.hasDict (.list (ms.map Nd.dat)) = false ∧ Q (.bl (PyData.eqv (.list (ns.map Nd.dat)) (.list (ms.map Nd.dat)))) H
theorem fn_eq (B : Blt mg) (c : Cls K C) (n1 : NoAttr K C "_nodes") (gC : mg "Net" = some (.ref C)) (T : ClsTy K C) {f : Addr} {fd : FuncData} (F : Fun K "__eq__" "Net.__eq__" sNetEq f fd) : FnOk P w K mg base CX0 1 f fd ["self", "other"] (spEqN K C) := by
  refine F.ok scNetEq (fun vs H Q E h => ?_) (fun cdv A outer s H vs Q E hr h => ?_)
  · obtain ⟨a, b, pd, pe, ns, ms, rfl, _⟩ := h
    rfl
  · obtain ⟨a, b, pd, pe, ns, ms, rfl, N, M, s1, s2, nd1, nd2, q⟩ := h
    obtain ⟨dx, v, h1, h2⟩ := N.at_
    obtain ⟨dy, u, k1, k2⟩ := M.at_
    refine ⟨_, pss_one (ps_ret (pe_and (pe_isi B.isi (pa_cons (pv 1) (pa_cons (pe_glob (v := .ref C) rfl gC rfl) pa_nil))) (pe_one (pe_cmpR (op_eqD hr.units) (pe_fld (pv 0) (by rfl)) (pe_fld (pv 1) (by rfl)) (nomark _))))), ?_⟩
    refine ⟨_, rfl, .ref b, .ref C, .ref C, .ref C, true, rfl, .own C, .base (.ins k1 c T.ha T.hn T.ht T.hm), T.self, _, rfl, ?_⟩
    rw [if_pos rfl]
    exact ⟨_, rfl, a, C, dx, _, v, rfl, h1, c, n1, rfl, _, rfl, b, C, dy, _, u, rfl, k1, c, n1, rfl, _, _, h2.dp nd1, k2.dp nd2, s1, s2, q⟩
end
end Pw
set_option maxHeartbeats 2000000
/-! _law_made -/
namespace Pw
open PySem PySem.Spec PyProof.Rows L2 Mk2 Own
abbrev sMade : Stmt := topS 70
theorem scMade : FnScope ["_law_list_of", "_law_found", "e"] ["_law_list_of"] (defScope sMade) := ⟨rfl, rfl, rfl, by decide +kernel, rfl, by decide +kernel, by decide +kernel⟩
/-- a net that is wholly new -/
structure NewNet (K : PySem.W.Frag) (H H' : Hp) (C x pd : Addr) (ns : List Nd) : Prop where
  nx : H x = none
  npd : H pd = none
  at_ : ∃ (dx : Addr) (v : V), H' x = some (.ins C dx (netFs v pd)) ∧ Dv K (newOf H H') v (.list (ns.map Nd.dat))
  pl : H' pd = some (kiO (placesN 0 ns))
  wired : Wired [] ns
  some_ : 1 ≤ ns.length
  few : ns.length ≤ 30
theorem NewNet.full {K : PySem.W.Frag} {H H' : Hp} {C x pd : Addr} {ns : List Nd} (h : NewNet K H H' C x pd ns) : NetF K H' C x pd ns := by
  obtain ⟨dx, v, h1, h4⟩ := h.at_
  exact ⟨⟨dx, v, h1, h4.same newOf_same⟩, h.pl, h.wired, h.some_, h.few⟩
structure Env2 (P : Program) (w : World) (K : PySem.W.Frag) (mg : Str → Option Value) (base : Heap) (C CN CL fL' : Addr) : Prop where
  l : PySem.ErrX.ErrTxt K mg "LimitExceeded" "limit" CL fL'
  xL : PySem.W.exmOne K (.ref CL) (.ref CL) = some true
  gC : mg "Net" = some (.ref C)
  made : ∃ f fd, Mk K C f ∧ FnOk P w K mg base (L2.CX P w) 16 f fd ["self", "nodes"] (spInit K C CN CL) ∧ Binds K fd ["self", "nodes"] []
section
variable {P : Program} {w : World} {K : PySem.W.Frag} {mg : Str → Option Value} {base : Heap} {C CN CL fL' : Addr}
def spMade (K : PySem.W.Frag) (C : Addr) : Sp := fun vs H Q _ => ∃ (x : V) (ns : List Nd), vs = [x] ∧ Dv K H x (.list (ns.map Nd.dat)) ∧ smB (.list (ns.map Nd.dat)) = true ∧ checkNodes (.list (ns.map Nd.dat)) = none ∧
  (∀ H', limitN ns ≠ none → Same H H' → Q .non H') ∧ ∀ y pd H', limitN ns = none → Same H H' → NewNet K H H' C y pd ns → Q (.ref y) H'
theorem nds_inj {ns ms : List Nd} (h : ns.map Nd.dat = ms.map Nd.dat) : ns = ms := by
  have inj : ∀ n m : Nd, n.dat = m.dat → n = m := fun n m e => by
    unfold Nd.dat at e
    injection e with e
    injection e with e1 e
    injection e with e2 e
    injection e with e3 e
    injection e with e4 e
    injection e1 with e1
    injection e2 with e2
    injection e3 with e3
    injection e4 with e4
    have e4 : n.ins = m.ins := by rw [← wordsOf_map n.ins, e4, wordsOf_map]
    cases n
    cases m
    simp_all
  induction ns generalizing ms with
  | nil =>
    cases ms with
    | nil => rfl
    | cons m r => cases h
  | cons n r ih =>
    cases ms with
    | nil => cases h
    | cons m s =>
      rw [List.map_cons, List.map_cons] at h
      injection h with h1 h2
      rw [inj n m h1, ih h2]
theorem ok_made (B : Blt mg) (T : Env2 P w K mg base C CN CL fL') (D : Dfn K mg "_law_made" sMade ["_law_list_of"]) : DefOk P w K mg base CX0 18 "_law_made" ["_law_list_of"] (spMade K C) := D.ok fun f fd F => by
  refine F.ok scMade (fun vs H Q E h => ?_) (fun cdv A outer s H vs Q E hr h => ?_)
  · obtain ⟨x, ns, rfl, _⟩ := h
    rfl
  · obtain ⟨x, ns, rfl, hx, hs, ck, q0, q1⟩ := h
    have nd := scMade.nd
    obtain ⟨fi, fdi, M, FI, bi⟩ := T.made
    refine ⟨_, pss_cons (ps_set (i := 1) nd rfl (.inl rfl) pe_non)
      (pss_cons (ps_try_as (i := 2) (c := .ref CL) (Wout := fun _ _ _ _ => False) rfl rfl nd rfl rfl ⟨rfl, by decide, .inl T.l.gC⟩ L2.takes0
        (fun W pn xe tk _ => pss_one (ps_set (i := 1) nd rfl (.inl rfl) (pe_makeAt M FI hr T.gC bi (fun σ => passAt tk σ) (pa_cons (pv 0) pa_nil))))
        (fun a oe cls d pn hz hf => pss_one (ps_set (i := 1) nd rfl (.inl rfl) pe_non)))
      (pss_one (ps_ret (pv 1)))), ?_⟩
    refine ⟨x, rfl, fun y dy ny ndy ne => ?_⟩
    have s1 : Same H (upd (upd H dy (.own y)) y (.ins C dy [])) := (same_upd ndy).trans (same_upd (by rw [upd_ne (fun e => ne e.symm)]; exact ny))
    have back : ∀ {H' : Hp}, Same (hid y (upd (upd H dy (.own y)) y (.ins C dy []))) H' → Same H H' := fun {H'} s b o e => s _ _ (by
      rw [hid_ne (ne_of_none e ny)]
      exact s1 _ _ e)
    refine ⟨y, dy, x, _, rfl, upd_same, hx.same s1, hs, fun n ck' H' dd s' nd' => ?_, fun ms ck' ed n en H' dd s' nd' => ?_, fun ms ck' ed en H' s' net => ?_⟩
    · rw [ck] at ck'
      cases ck'
    · have e : ns = ms := nds_inj (by injection ed)
      subst e
      have s2 := (back s').trans (same_upd (o := HO.xd [("limit", V.int n)]) nd')
      refine ⟨true, T.xL, fun _ a na => ?_, fun z => Bool.noConfusion z⟩
      exact ⟨_, rfl, q0 _ (by rw [en]; exact fun z => by cases z) s2⟩
    · have e : ns = ms := nds_inj (by injection ed)
      subst e
      obtain ⟨dx, v, pd, h1, h2, h3, h4⟩ := net.at_
      have nn : ∀ {b : Addr}, upd (upd H dy (.own y)) y (.ins C dy []) b = none → H b = none := fun {b} e => by
        cases z : H b with
        | none => rfl
        | some o =>
          rw [s1 _ _ z] at e
          cases e
      have sub : Same (newOf (upd (upd H dy (.own y)) y (.ins C dy [])) H') (newOf H H') := fun b o e => by
        have e1 := newOf_same b o e
        refine newOf_at ?_ e1
        unfold newOf at e
        cases z : H b with
        | none => rfl
        | some o =>
          rw [s1 _ _ z] at e
          cases e
      exact ⟨rfl, _, rfl, q1 y pd H' en (back s') ⟨ny, nn h3, ⟨dx, v, h1, h4.same sub⟩, h2, net.wired, net.some_, net.few⟩⟩
end
end Pw
set_option maxHeartbeats 2000000
/-! _law_spoil -/
namespace Pw
open PySem PySem.Spec PyProof.Rows L2
abbrev sSpoil : Stmt := topS 68
theorem scSpoil : FnScope ["_law_value", "_law_one_here"] ["_law_value"] (defScope sSpoil) := ⟨rfl, rfl, rfl, by decide +kernel, rfl, by decide +kernel, by decide +kernel⟩
def flatV : V → Bool
  | .non => true
  | .bl _ => true
  | .int _ => true
  | .str _ => true
  | _ => false
mutual
/-- what may be spoiled: within a part of the heap, so deep, with so many lists -/
inductive Ld (U : Addr → Bool) (L : Nat) (H : Hp) : V → Nat → Nat → Prop
  | sc {v : V} {n : Nat} : flatV v = true → Ld U L H v (n + 1) 0
  | tup {p : Addr} {xs : List V} {n c : Nat} : U p = true → H p = some (.tup xs) → LdAll U L H xs (n + 1) c → Ld U L H (.ref p) (n + 2) c
  | lst {p : Addr} {xs : List V} {n c : Nat} : U p = true → H p = some (.lst xs) → xs.length ≤ L → LdAll U L H xs (n + 1) c → Ld U L H (.ref p) (n + 2) (c + 1)
inductive LdAll (U : Addr → Bool) (L : Nat) (H : Hp) : List V → Nat → Nat → Prop
  | nil {n : Nat} : LdAll U L H [] n 0
  | cons {x : V} {xs : List V} {n c d : Nat} : Ld U L H x n c → LdAll U L H xs n d → LdAll U L H (x :: xs) n (c + d)
end
/-- lists of a part may have grown by flat things, at most so many -/
def Gr (U : Addr → Bool) (m : Nat) (H H' : Hp) : Prop := ∀ b o, H b = some o → H' b = some o ∨ ∃ xs es, o = .lst xs ∧ U b = true ∧ H' b = some (.lst (xs ++ es)) ∧ es.length ≤ m ∧ ∀ e ∈ es, flatV e = true
theorem Gr.refl {U : Addr → Bool} {H : Hp} : Gr U 0 H H := fun b o e => .inl e
theorem Gr.of {U : Addr → Bool} {H H' : Hp} (s : Same H H') : Gr U 0 H H' := fun b o e => .inl (s b o e)
theorem Gr.mono {U : Addr → Bool} {m n : Nat} {H H' : Hp} (g : Gr U m H H') (h : m ≤ n) : Gr U n H H' := fun b o e => by
  rcases g b o e with e | ⟨xs, es, e1, u, e2, l, f⟩
  · exact .inl e
  · exact .inr ⟨xs, es, e1, u, e2, by omega, f⟩
theorem Gr.trans {U : Addr → Bool} {m n : Nat} {H1 H2 H3 : Hp} (g : Gr U m H1 H2) (h : Gr U n H2 H3) : Gr U (m + n) H1 H3 := fun b o e => by
  rcases g b o e with e | ⟨xs, es, e1, u, e2, l, f⟩
  · exact (h.mono (by omega)) b o e
  · rcases h b _ e2 with e | ⟨ys, fs, e3, u2, e4, l2, f2⟩
    · exact .inr ⟨xs, es, e1, u, e, by omega, f⟩
    · cases e3
      exact .inr ⟨xs, es ++ fs, e1, u, by rw [e4, List.append_assoc], by rw [List.length_append]; omega, fun z hz => (List.mem_append.mp hz).elim (f z) (f2 z)⟩
theorem Gr.out {U : Addr → Bool} {m : Nat} {H H' : Hp} (g : Gr U m H H') {b : Addr} {o : HO} (h : H b = some o) (u : U b = false) : H' b = some o := by
  rcases g b o h with e | ⟨xs, es, e1, u2, _⟩
  · exact e
  · rw [u] at u2
    cases u2
theorem Gr.occ {U : Addr → Bool} {m : Nat} {H H' : Hp} (g : Gr U m H H') {b : Addr} (h : H' b = none) : H b = none := by
  cases e : H b with
  | none => rfl
  | some o =>
    rcases g b o e with e | ⟨xs, es, e1, u2, e2, _⟩
    · rw [h] at e
      cases e
    · rw [h] at e2
      cases e2
theorem LdAll.append {U : Addr → Bool} {L : Nat} {H : Hp} : ∀ {xs ys : List V} {n c d : Nat}, LdAll U L H xs n c → LdAll U L H ys n d → LdAll U L H (xs ++ ys) n (c + d)
  | [], _, _, _, _, .nil, q => by rw [Nat.zero_add]; exact q
  | _ :: _, _, _, _, _, .cons a b, q => by rw [Nat.add_assoc]; exact .cons a (b.append q)
theorem LdAll.flats {U : Addr → Bool} {L : Nat} {H : Hp} {n : Nat} : ∀ {es : List V}, (∀ e ∈ es, flatV e = true) → LdAll U L H es (n + 1) 0
  | [], _ => .nil
  | e :: r, h => .cons (c := 0) (d := 0) (.sc (h e List.mem_cons_self)) (LdAll.flats fun z hz => h z (List.mem_cons_of_mem _ hz))
mutual
theorem Ld.gr {U : Addr → Bool} {L m : Nat} {H H' : Hp} (g : Gr U m H H') : ∀ {v : V} {n c : Nat}, Ld U L H v n c → Ld U (L + m) H' v n c
  | _, _, _, .sc h => .sc h
  | _, _, _, .tup (p := p) u e a => by
    rcases g p _ e with e2 | ⟨xs, es, e1, _⟩
    · exact .tup u e2 (LdAll.gr g a)
    · cases e1
  | _, _, _, .lst (p := p) (xs := xs) (n := n) (c := c) u e l a => by
    rcases g p _ e with e2 | ⟨ys, es, e1, _, e2, l2, f⟩
    · exact .lst u e2 (by omega) (LdAll.gr g a)
    · cases e1
      have a' := LdAll.gr g a
      refine .lst u e2 (by rw [List.length_append]; omega) ?_
      exact a'.append (d := 0) (LdAll.flats f)
theorem LdAll.gr {U : Addr → Bool} {L m : Nat} {H H' : Hp} (g : Gr U m H H') : ∀ {xs : List V} {n c : Nat}, LdAll U L H xs n c → LdAll U (L + m) H' xs n c
  | _, _, _, .nil => .nil
  | _, _, _, .cons a b => .cons (Ld.gr g a) (LdAll.gr g b)
end
theorem LdAll.mem {U : Addr → Bool} {L : Nat} {H : Hp} : ∀ {xs : List V} {n c : Nat}, LdAll U L H xs n c → ∃ cs : List Nat, cs.length = xs.length ∧ cs.sum = c ∧ ∀ (i : Nat) (x : V), xs[i]? = some x → ∃ k : Nat, cs[i]? = some k ∧ Ld U L H x n k
  | _, _, _, .nil => ⟨[], rfl, rfl, fun i x h => by simp at h⟩
  | x :: xs, _, _, .cons (c := c) a b => by
    obtain ⟨cs, l, s, h⟩ := b.mem
    refine ⟨c :: cs, by rw [List.length_cons, l, List.length_cons], by rw [List.sum_cons, s], fun i y e => ?_⟩
    cases i with
    | zero =>
      have e : x = y := by simpa using e
      subst e
      exact ⟨c, rfl, a⟩
    | succ i => exact h i y (by simpa using e)
theorem Ld.le {U : Addr → Bool} {L M : Nat} {H : Hp} {v : V} {n c : Nat} (h : Ld U L H v n c) (l : L ≤ M) : Ld U M H v n c := by
  have := h.gr (m := M - L) ((Gr.refl (U := U) (H := H)).mono (Nat.zero_le _))
  rw [Nat.add_sub_cancel' l] at this
  exact this
section
variable {P : Program} {w : World} {K : PySem.W.Frag} {mg : Str → Option Value} {base : Heap}
def spSpoil (n : Nat) : Sp := fun vs H Q _ => ∃ (v : V) (U : Addr → Bool) (L c : Nat), vs = [v] ∧ Ld U L H v n c ∧ (∀ b, H b = none → U b = false) ∧ L + c < 100000 ∧ ∀ H', Gr U c H H' → Q .non H'
theorem flat_ty {K : PySem.W.Frag} {H : Hp} {v : V} (h : flatV v = true) : ∃ d : PyData, TyX K H v (.type (tyName d)) ∧ isList d = false ∧ isTuple d = false := by
  cases v with
  | non => exact ⟨.none, .base .non, rfl, rfl⟩
  | bl b => exact ⟨.bool b, .base (.bl b), rfl, rfl⟩
  | int i => exact ⟨.int i, .base (.int i), rfl, rfl⟩
  | str x => exact ⟨.str x, .base (.str x), rfl, rfl⟩
  | _ => cases h
theorem iteE {c : Bool} {A B : Prop} {b : Bool} (e : c = b) (h : if b = true then A else B) : if c = true then A else B := by
  rw [e]
  exact h
theorem sum_take {cs : List Nat} {i k : Nat} (h : cs[i]? = some k) : (cs.take (i + 1)).sum = (cs.take i).sum + k ∧ (cs.take i).sum + k ≤ cs.sum := by
  have e1 : (cs.take (i + 1)).sum = (cs.take i).sum + k := by
    rw [List.take_add_one, h, List.sum_append]
    simp
  refine ⟨e1, ?_⟩
  rw [← e1]
  have := congrArg List.sum (List.take_append_drop (i + 1) cs)
  rw [List.sum_append] at this
  omega
theorem spoil_loop {D : Ends} {H : Hp} {U : Addr → Bool} {L c m : Nat} {p : Addr} {xs : List V} {w1 : Option V} (hx : LdAll U L H xs (m + 1) c) (hp : SqL K H p xs ∨ SqT K H p xs) (old : ∀ b, H b = none → U b = false) (hL : L + c < 100000)
    (hq : ∀ (H' : Hp) (z : Option V), Gr U c H H' → D.nx [some (.ref p), z] H') :
    tFor (iList K (tCB (fun xs H Q => ∃ p ys, xs = [V.ref p] ∧ (SqL K H p ys ∨ SqT K H p ys) ∧ ∀ l, H l = none → Q (.ref l) (upd H l (.lst ys))) (tCons (tVar 0) tNil))) (gName 1) (tDrop (tCall (spSpoil (m + 1)) [] E0 (tCons (tVar 1) tNil))) D [some (.ref p), w1] H := by
  obtain ⟨cs, lc, sc, hcs⟩ := hx.mem
  refine ⟨_, rfl, p, xs, rfl, hp, fun l nl => ⟨l, rfl, ⟨xs, SqL.of upd_same⟩, ?_⟩⟩
  have g0 : Gr U 0 H (upd H l (.lst xs)) := Gr.of (same_upd nl)
  refine for_list (xs := xs) (fun i σ H' => ∃ z : Option V, σ = [some (.ref p), z] ∧ Gr U (cs.take i).sum H H' ∧ H' l = some (.lst xs)) ⟨w1, rfl, g0, upd_same⟩ (fun i σ H' _ h => ?_) (fun i x σ H' hi h => ?_) (fun σ H' h => ?_)
  · obtain ⟨z, rfl, g, hl⟩ := h
    exact SqL.of hl
  · obtain ⟨z, rfl, g, hl⟩ := h
    obtain ⟨k, hk, ld⟩ := hcs i x hi
    obtain ⟨t1, t2⟩ := sum_take hk
    refine ⟨x, rfl, x, U, L + (cs.take i).sum, k, rfl, ld.gr g, fun b e => old b (g.occ e), by omega, fun H2 g2 => ?_⟩
    exact ⟨_, rfl, by rw [t1]; exact g.trans g2, g2.out hl (old l nl)⟩
  · obtain ⟨z, rfl, g, hl⟩ := h
    refine hq H' z ?_
    rw [← lc, List.take_length, sc] at g
    exact g
theorem ok_spoil (B : Blt mg) (D : Dfn K mg "_law_spoil" sSpoil ["_law_value"]) : ∀ n : Nat, DefOk P w K mg base CX0 n "_law_spoil" ["_law_value"] (spSpoil n)
  | 0 => D.ok fun f fd F => ⟨fun vs H Q E h => (by obtain ⟨v, _, _, _, rfl, _⟩ := h; rfl), fun A outer s H args us vs Q E hr e0 hb hv h => (by obtain ⟨v, _, _, _, rfl, z, _⟩ := h; cases z)⟩
  | n + 1 => by
    have G := ok_spoil B D n
    refine D.ok fun f fd F => ?_
    refine F.ok scSpoil (fun vs H Q E h => ?_) (fun cdv A outer s H vs Q E hr h => ?_)
    · obtain ⟨v, _, _, _, rfl, _⟩ := h
      rfl
    · obtain ⟨v, U, L, c, rfl, hv, old, hL, q⟩ := h
      have nd := scSpoil.nd
      refine ⟨_, pss_cons (ps_if (PW.pt (pw_or (pt_val (pe_isi B.isi (pa_cons (pv 0) (pa_cons (pe_cls (n := "list") "list" B.list) pa_nil)))) (pw_or1 (pt_val (pe_isi B.isi (pa_cons (pv 0) (pa_cons (pe_cls (n := "tuple") "tuple" B.tuple) pa_nil)))))))
          (pss_one (ps_for PassesOwn.never rfl (pi_list (pe_callTy call_list_of (by rfl) B.list (by decide +kernel) (pa_cons (pv 0) pa_nil))) (pg_name (i := 1) nd rfl (Or.inl rfl))
            (pss_one (ps_expr (pe_def G hr pass0 (pa_cons (pv 1) pa_nil) (Nat.le_refl _)))))) pss_nil)
        (pss_one (ps_if (pt_val (pe_isi B.isi (pa_cons (pv 0) (pa_cons (pe_cls (n := "list") "list" B.list) pa_nil))))
          (pss_one (ps_expr (pe_bm PySem.F.plainAttrs_list PySem.F.slot_list_append PySem.F.type_list_append mt_append (pv 0) (pa_cons pe_int pa_nil)))) pss_nil)), ?_⟩
      cases hv with
      | sc hf =>
        obtain ⟨d, ty, e1, e2⟩ := flat_ty (K := K) (H := H) hf
        refine ⟨_, rfl, _, _, _, _, _, rfl, .ty "list", ty, kit_ty (isa_list d), _, rfl, iteE e1 ?_⟩
        refine ⟨_, rfl, _, _, _, _, _, rfl, .ty "tuple", ty, kit_ty (isa_tuple d), _, rfl, iteE e2 ?_⟩
        refine ⟨_, rfl, _, _, _, _, _, rfl, .ty "list", ty, kit_ty (isa_list d), _, rfl, iteE e1 ?_⟩
        exact q _ Gr.refl
      | @tup p xs m c' u e a =>
        have ty : TyX K H (.ref p) (.type (tyName (.tuple []))) := .base (.tup e)
        refine ⟨_, rfl, _, _, _, _, _, rfl, .ty "list", ty, kit_ty (isa_list (.tuple [])), _, rfl, iteE rfl ?_⟩
        refine ⟨_, rfl, _, _, _, _, _, rfl, .ty "tuple", ty, kit_ty (isa_tuple (.tuple [])), _, rfl, iteE rfl ?_⟩
        refine spoil_loop a (.inr (SqT.of e)) old hL fun H' z g => ?_
        have e' : H' p = some (.tup xs) := by
          rcases g p _ e with e2 | ⟨_, _, e1, _⟩
          · exact e2
          · cases e1
        have ty' : TyX K H' (.ref p) (.type (tyName (.tuple []))) := .base (.tup e')
        refine ⟨_, rfl, _, _, _, _, _, rfl, .ty "list", ty', kit_ty (isa_list (.tuple [])), _, rfl, iteE rfl ?_⟩
        exact q _ g
      | @lst p xs m c' u e l a =>
        have ty : TyX K H (.ref p) (.type (tyName (.list []))) := .base (.lst e)
        refine ⟨_, rfl, _, _, _, _, _, rfl, .ty "list", ty, kit_ty (isa_list (.list [])), _, rfl, iteE rfl ?_⟩
        refine spoil_loop a (.inl (SqL.of e)) old (by omega) fun H' z g => ?_
        obtain ⟨ys, e', ly⟩ : ∃ ys, H' p = some (.lst ys) ∧ ys.length ≤ L + c' := by
          rcases g p _ e with e2 | ⟨zs, es, e1, _, e2, l2, _⟩
          · exact ⟨xs, e2, by omega⟩
          · cases e1
            exact ⟨_, e2, by rw [List.length_append]; omega⟩
        have ty' : TyX K H' (.ref p) (.type (tyName (.list []))) := .base (.lst e')
        refine ⟨_, rfl, _, _, _, _, _, rfl, .ty "list", ty', kit_ty (isa_list (.list [])), _, rfl, iteE rfl ?_⟩
        refine ⟨_, rfl, .inl ⟨rfl, ys, SqL.of e'⟩, p, ys, .int 1, rfl, rfl, e', Nat.lt_of_le_of_lt (by omega : ys.length ≤ 100000) (by decide), ?_⟩
        refine q _ (g.trans fun b o h => ?_)
        by_cases eb : b = p
        · subst eb
          rw [e'] at h
          cases h
          exact .inr ⟨ys, [.int 1], rfl, u, upd_same, by decide, fun z hz => by rw [List.mem_singleton.mp hz]; rfl⟩
        · exact .inl (by rw [upd_ne eb]; exact h)
end
mutual
/-- how many lists a datum holds -/
def lists : PyData → Nat
  | .list ds => listsAll ds + 1
  | .tuple ds => listsAll ds
  | _ => 0
def listsAll : List PyData → Nat
  | [] => 0
  | d :: r => lists d + listsAll r
end
mutual
theorem ld_of {K : PySem.W.Frag} {H G : Hp} {U : Addr → Bool} (sub : ∀ b o, H b = some o → U b = true ∧ G b = some o) : ∀ {d : PyData} {v : V} {n : Nat}, Dv K H v d → dpB n d = true → Ld U 1000 G v (n + 1) (lists d)
  | .none, _, _, .non, _ => by unfold lists; exact .sc rfl
  | .bool _, _, _, .bl _, _ => by unfold lists; exact .sc rfl
  | .int _, _, _, .int _, _ => by unfold lists; exact .sc rfl
  | .str _, _, _, .str _, _ => by unfold lists; exact .sc rfl
  | .list ds, _, 0, _, hn => by cases hn
  | .list ds, _, n + 1, .lst (a := p) hp hz hs, hn => by
    unfold lists
    exact .lst (sub _ _ hp).1 (sub _ _ hp).2 hz (ldAll_of sub hs (List.all_eq_true.mp (show ds.all (dpB n) = true from hn)))
  | .tuple ds, _, 0, _, hn => by cases hn
  | .tuple ds, _, n + 1, .tup (a := p) hp hz hs, hn => by
    unfold lists
    exact .tup (sub _ _ hp).1 (sub _ _ hp).2 (ldAll_of sub hs (List.all_eq_true.mp (show ds.all (dpB n) = true from hn)))
  | .dict _, _, 0, _, hn => by cases hn
  | .dict _, _, _ + 1, _, hn => by cases hn
theorem ldAll_of {K : PySem.W.Frag} {H G : Hp} {U : Addr → Bool} (sub : ∀ b o, H b = some o → U b = true ∧ G b = some o) : ∀ {ds : List PyData} {vs : List V} {n : Nat}, DvAll K H vs ds → (∀ d ∈ ds, dpB n d = true) → LdAll U 1000 G vs (n + 1) (listsAll ds)
  | [], _, _, .nil, _ => by unfold listsAll; exact .nil
  | d :: r, _, _, .cons h1 h2, h => by
    unfold listsAll
    exact .cons (ld_of sub h1 (h d List.mem_cons_self)) (ldAll_of sub h2 fun e he => h e (List.mem_cons_of_mem _ he))
end
/-- what is new between two heaps -/
def fresh2 (H H' : Hp) : Addr → Bool := fun b => (H b).isNone && (H' b).isSome
theorem fresh2_sub {H H' : Hp} : ∀ b o, newOf H H' b = some o → fresh2 H H' b = true ∧ H' b = some o := fun b o e => by
  have e1 := newOf_same b o e
  refine ⟨?_, e1⟩
  unfold fresh2
  unfold newOf at e
  cases z : H b with
  | none =>
    rw [e1]
    rfl
  | some u =>
    rw [z] at e
    cases e
theorem fresh2_old {H H' : Hp} : ∀ b, H' b = none → fresh2 H H' b = false := fun b e => by
  unfold fresh2
  rw [e, Bool.and_comm]
  rfl
theorem fresh2_not {H H' : Hp} {b : Addr} {o : HO} (h : H b = some o) : fresh2 H H' b = false := by
  unfold fresh2
  rw [h]
  rfl
/-- what was there before stays when the new is spoiled -/
theorem Gr.keep {H0 H1 H2 H3 : Hp} {m : Nat} (s : Same H1 H2) (g : Gr (fresh2 H0 H1) m H2 H3) (h : Same H0 H2) : Same H0 H3 := fun b o e => g.out (h b o e) (fresh2_not e)
theorem Gr.after {H0 H1 H2 H3 : Hp} {m : Nat} (g : Gr (fresh2 H0 H1) m H2 H3) : Same (newOf H1 H2) H3 := fun b o e => by
  have e1 := newOf_same b o e
  refine g.out e1 ?_
  unfold newOf at e
  cases z : H1 b with
  | none => exact fresh2_old b z
  | some u =>
    rw [z] at e
    cases e
/-! how many lists a node holds -/
def isFlatD : PyData → Bool
  | .int _ => true
  | .str _ => true
  | _ => false
theorem lists_ints : ∀ {ds : List PyData}, (∀ d ∈ ds, lists d = 0) → listsAll ds = 0
  | [], _ => by unfold listsAll; rfl
  | d :: r, h => by
    unfold listsAll
    rw [h d List.mem_cons_self, lists_ints fun e he => h e (List.mem_cons_of_mem _ he)]
theorem lists_tst : ∀ t : Tst, lists t.dat ≤ 1
  | .neg t => by
    have := lists_tst t
    unfold Tst.dat
    simp only [lists, listsAll]
    omega
  | .lt _ => by simp [Tst.dat, lists, listsAll]
  | .ge _ => by simp [Tst.dat, lists, listsAll]
  | .md m rs => by
    unfold Tst.dat
    simp only [lists, listsAll]
    rw [lists_ints fun d hd => by
      obtain ⟨i, _, rfl⟩ := List.mem_map.mp hd
      simp [lists]]
    decide
theorem lists_sort {z : Str} {d : PyData} (h : ofSort z d = true) : lists d ≤ 1 := by
  unfold ofSort at h
  split at h
  · cases d <;> first | (simp [lists]; done) | cases h
  · split at h
    · cases d with
      | list ds =>
        rename_i r _
        have h' : (decide (r.1 ≤ ds.length) && decide ((ds.length : Int) ≤ r.2) && ds.all isParam) = true := h
        rw [Bool.and_eq_true] at h'
        unfold lists
        rw [lists_ints fun d hd => by
          have := List.all_eq_true.mp h'.2 d hd
          cases d <;> first | (simp [lists]; done) | cases this]
        exact Nat.le_refl _
      | _ => cases h
    · split at h
      · cases d <;> first | (simp [lists]; done) | cases h
      · split at h
        · obtain ⟨t, rfl, hn, _⟩ := test_shape h
          exact lists_tst t
        · cases d <;> first | (simp [lists]; done) | cases h
theorem lists_len : ∀ {ds : List PyData} {k : Nat}, (∀ d ∈ ds, lists d ≤ k) → listsAll ds ≤ ds.length * k
  | [], k, _ => by unfold listsAll; exact Nat.zero_le _
  | d :: r, k, h => by
    unfold listsAll
    have h1 := h d List.mem_cons_self
    have h2 := lists_len fun e he => h e (List.mem_cons_of_mem _ he)
    rw [List.length_cons, Nat.succ_mul]
    omega
theorem kinds_few : (kindsL.all fun p => decide (p.2.length ≤ 3)) = true := by decide +kernel
theorem lists_node {n : Nd} (h : isNode n.dat = true) : lists n.dat ≤ 4 := by
  obtain ⟨a, k, ps, zs, ws, e, lz, hk, hl, hf⟩ := params_shape h
  have l3 : ws.length ≤ 3 := by
    have mem : ∀ {l : List (Str × List Str)}, l.lookup k = some ws → (l.all fun p => decide (p.2.length ≤ 3)) = true → ws.length ≤ 3 := fun {l} => by
      induction l with
      | nil => intro h; cases h
      | cons p r ih =>
        intro h a
        rw [List.all_cons, Bool.and_eq_true] at a
        rw [List.lookup_cons] at h
        cases z : k == p.1 with
        | true =>
          rw [z] at h
          have : p.2 = ws := Option.some.inj h
          rw [← this]
          exact of_decide_eq_true a.1
        | false =>
          rw [z] at h
          exact ih h a.2
    exact mem hk kinds_few
  have e2 : n.dat = .tuple [.str a, .str k, .tuple ps, .list (zs.map PyData.str)] := e
  rw [e2]
  have p1 : listsAll ps ≤ ps.length * 1 := lists_len fun p hp => by
    obtain ⟨w, hw⟩ := fits_all hl hf p hp
    exact lists_sort hw
  have p2 : listsAll (zs.map PyData.str) = 0 := lists_ints fun d hd => by
    obtain ⟨i, _, rfl⟩ := List.mem_map.mp hd
    simp [lists]
  simp only [lists, listsAll]
  rw [p2]
  omega
theorem lists_nodes {ns : List Nd} (w : Wired [] ns) (h : ns.length ≤ 30) : lists (.list (ns.map Nd.dat)) ≤ 121 := by
  unfold lists
  have := lists_len (ds := ns.map Nd.dat) (k := 4) fun d hd => by
    obtain ⟨n, hn, rfl⟩ := List.mem_map.mp hd
    exact lists_node (wired_node w hn).1
  rw [List.length_map] at this
  omega
end Pw
set_option maxHeartbeats 4000000
/-! _law_factor -/
namespace Pw
open PySem PySem.Spec PyProof.Rows L2
abbrev sFact : Stmt := topS 65
abbrev factN : List Str := ["_law_node", "_law_kind", "_law_some", "_law_inputs", "_law_test_here"]
theorem scFact : FnScope factN ["_law_node"] (defScope sFact) := ⟨rfl, rfl, rfl, by decide +kernel, rfl, by decide +kernel, by decide +kernel⟩
def tstW : Tst → Str
  | .neg _ => "not"
  | .lt _ => "below"
  | .ge _ => "from"
  | .md _ _ => "mod"
def tstI : Tst → Int
  | .neg _ => 0
  | .lt v => v
  | .ge v => v
  | .md m _ => m
theorem tst_head {K : PySem.W.Frag} {H : Hp} {v : V} {t : Tst} (h : Dv K H v t.dat) : ∃ p xs y, v = .ref p ∧ H p = some (.tup xs) ∧ xs[0]? = some (.str (tstW t)) ∧ xs[1]? = some y ∧ (∀ u, t = .neg u → Dv K H y u.dat) ∧ (t.nots = 0 → y = .int (tstI t)) := by
  cases t with
  | neg u =>
    cases h with
    | @tup a xs ds ha hz hds =>
      match xs, hds with
      | [x1, x2], .cons h1 (.cons h2 .nil) =>
        cases h1
        exact ⟨a, _, x2, rfl, ha, rfl, rfl, fun w e => by cases e; exact h2, fun e => absurd e (by show ¬ (u.nots + 1 = 0); omega)⟩
  | lt b =>
    cases h with
    | @tup a xs ds ha hz hds =>
      match xs, hds with
      | [x1, x2], .cons h1 (.cons h2 .nil) =>
        cases h1
        cases h2
        exact ⟨a, _, _, rfl, ha, rfl, rfl, fun w e => (by cases e), fun e => rfl⟩
  | ge b =>
    cases h with
    | @tup a xs ds ha hz hds =>
      match xs, hds with
      | [x1, x2], .cons h1 (.cons h2 .nil) =>
        cases h1
        cases h2
        exact ⟨a, _, _, rfl, ha, rfl, rfl, fun w e => (by cases e), fun e => rfl⟩
  | md m rs =>
    cases h with
    | @tup a xs ds ha hz hds =>
      match xs, hds with
      | [x1, x2, x3], .cons h1 (.cons h2 (.cons h3 .nil)) =>
        cases h1
        cases h2
        exact ⟨a, _, _, rfl, ha, rfl, rfl, fun w e => (by cases e), fun e => rfl⟩
theorem eqw {k z : Str} : decide (V.str k = V.str z) = decide (k = z) := by
  by_cases h : k = z
  · rw [decide_eq_true h, decide_eq_true (congrArg V.str h)]
  · rw [decide_eq_false h, decide_eq_false (fun y => h (V.str.inj y))]
section
variable {P : Program} {w : World} {K : PySem.W.Frag} {mg : Str → Option Value} {base : Heap}
theorem ok_factor (B : Blt mg) (D : Dfn K mg "_law_factor" sFact ["_law_node"]) : DefOk P w K mg base CX0 1 "_law_factor" ["_law_node"] (spOwn K) := D.ok fun f fd F => by
  refine F.ok scFact (fun vs H Q E h => ?_) (fun cdv A outer s H vs Q E hr h => ?_)
  · obtain ⟨x, d, rfl, _⟩ := h
    rfl
  · obtain ⟨x, d, rfl, hx, hn, q⟩ := h
    have nd := scFact.nd
    refine ⟨_, (pss_cons (ps_par3 (i := 1) (j := 2) (l := 3) rfl nd rfl rfl rfl (by decide) (by decide) (by decide) rfl rfl rfl (pa_cons (pe_ix ix_tup (pv 0) pe_int (fun _ _ => rfl)) (pa_cons (pe_ix ix_tup (pv 0) pe_int (fun _ _ => rfl)) (pa_cons (pe_ix ix_tup (pv 0) pe_int (fun _ _ => rfl)) pa_nil))) (by rfl))
      (pss_cons (ps_if (pt_cmpR op_in_seq (pv 1) (pe_tup (pa_cons pe_str (pa_cons pe_str pa_nil))) (by rfl)) (pss_one (ps_ret (pe_callB call_len_seq (by rfl) B.len PySem.boot_len (pa_cons (pe_ix ix_tup (pv 2) pe_int (fun _ _ => rfl)) pa_nil)))) pss_nil)
      (pss_cons (ps_if (pt_cmpR op_in_seq (pv 1) (pe_tup (pa_cons pe_str (pa_cons pe_str (pa_cons pe_str pa_nil)))) (by rfl)) (pss_cons (ps_set (i := 4) nd rfl (.inl rfl) (pe_ix ix_tup (pv 2) pe_int (fun _ _ => rfl)))
        (pss_cons (ps_while PassesOwn.never (pt_cmpR op_eq (pe_ix ix_tup (pv 4) pe_int (fun _ _ => rfl)) pe_str (nomark _)) (pss_one (ps_set (i := 4) nd rfl (.inl rfl) (pe_ix ix_tup (pv 4) pe_int (fun _ _ => rfl)))))
        (pss_one (ps_ret (pe_ix ix_list (pe_lst (pa_cons pe_int (pa_cons (pe_ix ix_tup (pv 4) pe_int (fun _ _ => rfl)) pa_nil))) (pe_callTy call_int1 (by rfl) B.int boot_int (pa_cons (pe_cmpR op_eq (pe_ix ix_tup (pv 4) pe_int (fun _ _ => rfl)) pe_str (nomark _)) pa_nil)) (fun _ _ => rfl)))))) pss_nil)
      (pss_cons (ps_if (PW.pt (pw_or (pt_cmpR op_eq (pv 1) pe_str (nomark _)) (pw_or1 (PW.pt (pw_and (pt_cmpR op_eq (pv 1) pe_str (nomark _)) (pw_and1 (pt_cmpR op_eq (pe_ix ix_tup (pv 2) pe_int (fun _ _ => rfl)) pe_str (nomark _)))))))) (pss_one (ps_ret (pe_ix ix_tup (pv 2) pe_int (fun _ _ => rfl)))) pss_nil)
      (pss_cons (ps_if (pt_cmpR op_in_seq (pv 1) (pe_tup (pa_cons pe_str (pa_cons pe_str pa_nil))) (by rfl)) (pss_one (ps_ret (pe_op op_sub (pe_callB call_len_seq (by rfl) B.len PySem.boot_len (pa_cons (pv 3) pa_nil)) (pe_callTy call_int1 (by rfl) B.int boot_int (pa_cons (pe_cmpR op_eq (pv 1) pe_str (nomark _)) pa_nil))))) pss_nil)
      (pss_one (ps_ret pe_int))))))), ?_⟩
    obtain ⟨a, k, ps, zs, ws, rfl, lz, hk, hl, hf⟩ := params_shape hn
    have q : ∀ H', Same H H' → Q (.int (ownOf k ps (zs.map PyData.str))) H' := q
    cases hx with
    | @tup b ys es hb hyz hes =>
      match ys, hes with
      | [y1, y2, y3, y4], .cons h1 (.cons h2 (.cons h3 (.cons h4 .nil))) =>
        cases h2
        cases h3 with
        | @tup c xs es3 hc hcz hps =>
          cases h4 with
          | @lst l vs4 es4 hl4 hlz hes4 =>
            refine ⟨_, rfl, b, _, _, _, rfl, rfl, SqT.of hb, atI_nat (j := 1) rfl, _, rfl, b, _, _, _, rfl, rfl, SqT.of hb, atI_nat (j := 2) rfl, _, rfl, b, _, _, _, rfl, rfl, SqT.of hb, atI_nat (j := 3) rfl, _, _, _, rfl, ?_⟩
            refine ⟨_, rfl, by decide, fun T1 n1 => ?_⟩
            have s1 : Same H (upd H T1 (.tup [.str "ring", .str "table"])) := same_upd n1
            refine ⟨T1, [.str "ring", .str "table"], rfl, .inr (SqT.of upd_same), rfl, rfl, _, rfl, ite2 (fun e1 => ?_) (fun e1 => ?_)⟩
            · have m1 : k ∈ [("ring" : Str), "table"] := of_decide_eq_true ((in_strs k [("ring" : Str), "table"]).symm.trans e1)
              obtain ⟨ds, rfl⟩ := ring_shape m1 hk hl hf
              have o : ownOf k [.list ds] (zs.map PyData.str) = ds.length := by
                unfold ownOf
                rw [if_pos m1]
              rw [o] at q
              match xs, hps with
              | [p1], .cons g1 .nil =>
                cases g1 with
                | @lst m1 vs5 es5 hm hmz hvs5 =>
                  rw [← hvs5.length] at q
                  exact ⟨_, rfl, c, _, _, _, rfl, rfl, SqT.of (s1 _ _ hc), atI_nat (j := 0) rfl, m1, _, rfl, .inl (SqL.of (s1 _ _ hm)), q _ s1⟩
            · have m1 : ¬ k ∈ [("ring" : Str), "table"] := fun m => e1 ((in_strs k [("ring" : Str), "table"]).trans (decide_eq_true m))
              refine ⟨_, rfl, by decide, fun T2 n2 => ?_⟩
              have s2 : Same H (upd (upd H T1 (.tup [.str "ring", .str "table"])) T2 (.tup [.str "keep", .str "until", .str "after"])) := s1.trans (same_upd n2)
              refine ⟨T2, [.str "keep", .str "until", .str "after"], rfl, .inr (SqT.of upd_same), rfl, rfl, _, rfl, ite2 (fun e2 => ?_) (fun e2 => ?_)⟩
              · have m2 : k ∈ [("keep" : Str), "until", "after"] := of_decide_eq_true ((in_strs k [("keep" : Str), "until", "after"]).symm.trans e2)
                obtain ⟨t, rfl, ht⟩ := keep_shape m2 hk hl hf
                have o : ownOf k [t.dat] (zs.map PyData.str) = modOf t := by
                  unfold ownOf
                  rw [if_neg m1, if_pos m2]
                  exact modD_dat 4 t ht
                rw [o] at q
                match xs, hps with
                | [p1], .cons g1 .nil =>
                  have g1 := g1.same s2
                  have hc2 := s2 _ _ hc
                  generalize upd (upd H T1 (.tup [.str "ring", .str "table"])) T2 (.tup [.str "keep", .str "until", .str "after"]) = H2 at *
                  refine ⟨_, rfl, c, _, _, _, rfl, rfl, SqT.of hc2, atI_nat (j := 0) rfl, ?_⟩
                  refine ⟨fun m σ H' => H' = H2 ∧ ∃ z u, σ = [some (.ref b), some (.str k), some (.ref c), some (.ref l), some z] ∧ Dv K H2 z u.dat ∧ u.nots = m ∧ modOf u = modOf t, ⟨t.nots, rfl, p1, t, rfl, g1, rfl, rfl⟩, ?_⟩
                  rintro m σ H3 ⟨rfl, z, u, rfl, hz, rfl, hm⟩
                  obtain ⟨p, xs, y, rfl, hp, x0, x1, hneg, hflat⟩ := tst_head hz
                  refine ⟨_, rfl, p, _, _, _, rfl, rfl, SqT.of hp, atI_nat (j := 0) x0, rfl, _, rfl, ?_⟩
                  cases u with
                  | neg w =>
                    refine iteE (decide_eq_true rfl) ?_
                    exact ⟨fun σ H' => H' = H3 ∧ ∃ z, σ = [some (.ref b), some (.str k), some (.ref c), some (.ref l), some z] ∧ Dv K H3 z w.dat, fun σ' H' ⟨e, z, e2, hz⟩ => ⟨w.nots, Nat.lt_succ_self _, e, z, w, e2, hz, rfl, hm⟩, _, rfl, p, _, _, _, rfl, rfl, SqT.of hp, atI_nat (j := 1) x1, rfl, y, rfl, hneg w rfl⟩
                  | lt v =>
                    refine iteE (decide_eq_false (fun z => absurd (V.str.inj z) (show ¬ ("below" : Str) = "not" by decide))) ?_
                    have e := hflat rfl
                    subst e
                    refine ⟨_, rfl, p, _, _, _, rfl, rfl, SqT.of hp, atI_nat (j := 1) x1, by show 2 ≤ sizeLine; decide, fun L nL => ?_⟩
                    refine ⟨_, rfl, p, _, _, _, rfl, rfl, SqT.of ((same_upd nL) _ _ hp), atI_nat (j := 0) x0, rfl, .inr ⟨_, rfl, ?_⟩⟩
                    have em : modOf t = 1 := hm.symm
                    rw [em] at q
                    refine ⟨L, _, _, _, rfl, rfl, SqL.of upd_same, ?_, q _ (s2.trans (same_upd nL))⟩
                    rw [show decide (V.str (tstW (.lt v)) = V.str "mod") = false from decide_eq_false (fun z => absurd (V.str.inj z) (show ¬ ("below" : Str) = "mod" by decide))]
                    exact atI_nat (j := 0) rfl
                  | ge v =>
                    refine iteE (decide_eq_false (fun z => absurd (V.str.inj z) (show ¬ ("from" : Str) = "not" by decide))) ?_
                    have e := hflat rfl
                    subst e
                    refine ⟨_, rfl, p, _, _, _, rfl, rfl, SqT.of hp, atI_nat (j := 1) x1, by show 2 ≤ sizeLine; decide, fun L nL => ?_⟩
                    refine ⟨_, rfl, p, _, _, _, rfl, rfl, SqT.of ((same_upd nL) _ _ hp), atI_nat (j := 0) x0, rfl, .inr ⟨_, rfl, ?_⟩⟩
                    have em : modOf t = 1 := hm.symm
                    rw [em] at q
                    refine ⟨L, _, _, _, rfl, rfl, SqL.of upd_same, ?_, q _ (s2.trans (same_upd nL))⟩
                    rw [show decide (V.str (tstW (.ge v)) = V.str "mod") = false from decide_eq_false (fun z => absurd (V.str.inj z) (show ¬ ("from" : Str) = "mod" by decide))]
                    exact atI_nat (j := 0) rfl
                  | md m' rs =>
                    refine iteE (decide_eq_false (fun z => absurd (V.str.inj z) (show ¬ ("mod" : Str) = "not" by decide))) ?_
                    have e := hflat rfl
                    subst e
                    refine ⟨_, rfl, p, _, _, _, rfl, rfl, SqT.of hp, atI_nat (j := 1) x1, by show 2 ≤ sizeLine; decide, fun L nL => ?_⟩
                    refine ⟨_, rfl, p, _, _, _, rfl, rfl, SqT.of ((same_upd nL) _ _ hp), atI_nat (j := 0) x0, rfl, .inr ⟨_, rfl, ?_⟩⟩
                    have em : modOf t = m' := hm.symm
                    rw [em] at q
                    refine ⟨L, _, _, _, rfl, rfl, SqL.of upd_same, ?_, q _ (s2.trans (same_upd nL))⟩
                    rw [show decide (V.str (tstW (.md m' rs)) = V.str "mod") = true from decide_eq_true rfl]
                    exact atI_nat (j := 1) rfl
              · have m2 : ¬ k ∈ [("keep" : Str), "until", "after"] := fun m => e2 ((in_strs k [("keep" : Str), "until", "after"]).trans (decide_eq_true m))
                generalize upd (upd H T1 (.tup [.str "ring", .str "table"])) T2 (.tup [.str "keep", .str "until", .str "after"]) = H2 at *
                refine ⟨_, rfl, rfl, _, rfl, ?_⟩
                have ret0 : ∀ {R : VK} {n : Int} {p1 : V} {rest : List V}, xs = p1 :: rest → p1 = .int n → ownOf k ps (zs.map PyData.str) = n → (∀ v H, R v H = Q v H) → tOp (rIxT K) (tVar 2) (tC (.int 0)) [some (.ref b), some (.str k), some (.ref c), some (.ref l), none] H2 R := fun {R n p1 rest} e1 e2 e3 e4 => by
                  refine ⟨_, rfl, c, _, _, _, rfl, rfl, SqT.of (s2 _ _ hc), atI_nat (j := 0) (by rw [e1]; rfl), ?_⟩
                  rw [e4, e2, ← e3]
                  exact q _ s2
                by_cases m3 : k = "stutter"
                · refine iteE (eqw.trans (decide_eq_true m3)) ?_
                  subst m3
                  have e : ws = [("1 to 50" : Str)] := Option.some.inj (hk.symm.trans (by decide +kernel))
                  subst e
                  obtain ⟨p, rfl, hp⟩ := fit_one hl hf
                  obtain ⟨n, rfl⟩ := int_of (d := p) (lo := 1) (hi := 50) hp
                  have o : ownOf "stutter" [.int n] (zs.map PyData.str) = n := by
                    unfold ownOf
                    rw [if_neg m1, if_neg m2, if_pos rfl]
                  match xs, hps with
                  | [p1], .cons g1 .nil =>
                    cases g1
                    exact ret0 rfl rfl o fun _ _ => rfl
                · refine iteE (eqw.trans (decide_eq_false m3)) ?_
                  refine ⟨_, rfl, rfl, _, rfl, ?_⟩
                  by_cases m4 : k = "batch"
                  · refine iteE (eqw.trans (decide_eq_true m4)) ?_
                    subst m4
                    have e : ws = [("from 1" : Str), "batch how", "batch rest"] := Option.some.inj (hk.symm.trans (by decide +kernel))
                    subst e
                    obtain ⟨n, t, e, rfl⟩ := batch_shape hl hf
                    have o : ownOf "batch" [.int n, .str t, e] (zs.map PyData.str) = if t = "sum" then n else 1 := by
                      unfold ownOf
                      rw [if_neg m1, if_neg m2, if_neg m3, if_pos rfl]
                    match xs, hps with
                    | [p1, p2, p3], .cons g1 (.cons g2 (.cons g3 .nil)) =>
                      cases g1
                      cases g2
                      refine ⟨_, rfl, c, _, _, _, rfl, rfl, SqT.of (s2 _ _ hc), atI_nat (j := 1) rfl, rfl, _, rfl, ?_⟩
                      by_cases e5 : t = "sum"
                      · refine iteE (eqw.trans (decide_eq_true e5)) ?_
                        rw [if_pos e5] at o
                        exact ret0 rfl rfl o fun _ _ => rfl
                      · refine iteE (eqw.trans (decide_eq_false e5)) ?_
                        rw [if_neg e5] at o
                        rw [o] at q
                        refine ⟨_, rfl, by decide, fun T3 n3 => ⟨T3, [.str "turns", .str "choose"], rfl, .inr (SqT.of upd_same), rfl, rfl, _, rfl, iteE ((in_strs "batch" [("turns" : Str), "choose"]).trans (decide_eq_false (by decide))) ?_⟩⟩
                        exact q _ (s2.trans (same_upd n3))
                  · refine iteE (eqw.trans (decide_eq_false m4)) ?_
                    have lv : vs4.length = zs.length := by
                      rw [hes4.length, List.length_map]
                    have o : ownOf k ps (zs.map PyData.str) = (if k = "turns" then (vs4.length : Int) else if k = "choose" then (vs4.length : Int) - 1 else 1) := by
                      unfold ownOf
                      rw [if_neg m1, if_neg m2, if_neg m3, if_neg m4, List.length_map, lv]
                    rw [o] at q
                    refine ⟨_, rfl, by decide, fun T3 n3 => ⟨T3, [.str "turns", .str "choose"], rfl, .inr (SqT.of upd_same), rfl, rfl, _, rfl, ?_⟩⟩
                    have s3 := s2.trans (same_upd (o := HO.tup [V.str "turns", V.str "choose"]) n3)
                    by_cases m5 : k = "turns"
                    · subst m5
                      refine iteE ((in_strs "turns" [("turns" : Str), "choose"]).trans (decide_eq_true (by decide))) ?_
                      rw [if_pos rfl] at q
                      refine ⟨_, rfl, l, _, rfl, .inl (SqL.of (s3 _ _ hl4)), _, rfl, rfl, .inr ⟨_, rfl, _, _, rfl, rfl, ?_⟩⟩
                      rw [show decide (V.str "turns" = V.str "choose") = false from decide_eq_false (fun z => absurd (V.str.inj z) (show ¬ ("turns" : Str) = "choose" by decide))]
                      have := q _ s3
                      rw [show (vs4.length : Int) = vs4.length - 0 by omega] at this
                      exact this
                    · by_cases m6 : k = "choose"
                      · subst m6
                        refine iteE ((in_strs "choose" [("turns" : Str), "choose"]).trans (decide_eq_true (by decide))) ?_
                        rw [if_neg m5, if_pos rfl] at q
                        refine ⟨_, rfl, l, _, rfl, .inl (SqL.of (s3 _ _ hl4)), _, rfl, rfl, .inr ⟨_, rfl, _, _, rfl, rfl, ?_⟩⟩
                        rw [show decide (V.str "choose" = V.str "choose") = true from decide_eq_true rfl]
                        exact q _ s3
                      · refine iteE ((in_strs k [("turns" : Str), "choose"]).trans (decide_eq_false (by simp only [List.mem_cons, List.not_mem_nil, or_false]; exact fun z => z.elim m5 m6))) ?_
                        rw [if_neg m5, if_neg m6] at q
                        exact q _ s3
end
end Pw
set_option maxHeartbeats 4000000
/-! roots of nodes; dicts of lists -/
namespace Pw
open PySem PySem.Spec PyProof.Rows L2 Dc
open Ev (vis vis_at vis_of vis_same vis_mono)
def refK (c : List (Str × Addr)) : HO := .dK (c.map fun p => (.inr p.1, V.ref p.2))
structure RootD (H : Hp) (D : Addr) (ks : List Str) (f : Str → List Str) : Prop where
  at_ : ∃ c : List (Str × Addr), H D = some (refK c) ∧ c.map (·.1) = ks ∧ ∀ z p, c.lookup z = some p → p ≠ D ∧ H p = some (.lst ((f z).map V.str))
theorem RootD.nil {H : Hp} {D : Addr} {f : Str → List Str} (h : H D = some (.dK [])) : RootD H D [] f := ⟨[], h, rfl, fun z p h => by cases h⟩
theorem RootD.get {H : Hp} {D : Addr} {ks : List Str} {f : Str → List Str} {z : Str} (r : RootD H D ks f) (hz : z ∈ ks) : ∃ p, p ≠ D ∧ H p = some (.lst ((f z).map V.str)) ∧ DGet H D (.str z) (some (.ref p)) := by
  obtain ⟨c, hc, ek, hp⟩ := r.at_
  obtain ⟨p, e⟩ := lookup_isSome (ks := c) (z := z) (by rw [ek]; exact hz)
  obtain ⟨h1, h2⟩ := hp z p e
  refine ⟨p, h1, h2, ?_⟩
  have g := DGet.k (k := .inr z) hc
  rw [valV_words V.ref] at g
  rw [e] at g
  exact g
theorem RootD.same {H H' : Hp} {D : Addr} {ks : List Str} {f : Str → List Str} (r : RootD H D ks f) (s : Same H H') : RootD H' D ks f := by
  obtain ⟨c, hc, ek, hp⟩ := r.at_
  exact ⟨c, s _ _ hc, ek, fun z p e => ⟨(hp z p e).1, s _ _ (hp z p e).2⟩⟩
/-- another dict is written -/
theorem RootD.other {H : Hp} {D b : Addr} {o u : HO} {ks : List Str} {f : Str → List Str} (r : RootD H D ks f) (hb : H b = some u) (nl : ∀ xs, u ≠ .lst xs) (h : D ≠ b) : RootD (upd H b o) D ks f := by
  obtain ⟨c, hc, ek, hp⟩ := r.at_
  refine ⟨c, by rw [upd_ne h]; exact hc, ek, fun z p e => ⟨(hp z p e).1, ?_⟩⟩
  rw [upd_ne (fun q => by
    have := (hp z p e).2
    rw [q, hb] at this
    exact nl _ (Option.some.inj this))]
  exact (hp z p e).2
theorem refK_len {H : Hp} {D : Addr} {c : List (Str × Addr)} : (c.map fun p => ((.inr p.1 : Key), V.ref p.2)).length = (c.map (·.1)).length := by rw [List.length_map, List.length_map]
theorem RootD.put {H : Hp} {D p : Addr} {ks : List Str} {f : Str → List Str} {z : Str} {xs : List Str} (r : RootD H D ks f) (hp : H p = some (.lst (xs.map V.str))) (pd : p ≠ D) (hl : ks.length ≤ 1000) :
    ∃ H', DPut H D (.str z) (.ref p) H' ∧ (∀ b, b ≠ D → H' b = H b) ∧ RootD H' D (if z ∈ ks then ks else ks ++ [z]) (fun y => if y = z then xs else f y) := by
  obtain ⟨c, hc, ek, hq⟩ := r.at_
  refine ⟨_, DPut.k (k := .inr z) hc (by rw [refK_len (H := H) (D := D), ek]; exact Nat.lt_of_le_of_lt hl (by decide)), fun b hb => upd_ne hb, ?_⟩
  by_cases hz : z ∈ ks
  · rw [if_pos hz]
    refine ⟨c.map fun q => if q.1 = z then (q.1, p) else q, ?_, ?_, fun y q e => ?_⟩
    · rw [upd_same]
      have h : ((c.map fun p => ((.inr p.1 : Key), V.ref p.2)).any fun kv => decide (kv.1 = .inr z)) = true := by
        rw [← ek] at hz
        obtain ⟨q, hq', e⟩ := List.mem_map.mp hz
        exact List.any_eq_true.mpr ⟨_, List.mem_map_of_mem hq', decide_eq_true (by rw [← e])⟩
      unfold refK putK
      rw [if_pos h, List.map_map, List.map_map]
      congr 2
      refine List.map_congr_left fun q hq' => ?_
      show (if (Sum.inr q.1 : Key) = .inr z then _ else _) = _
      by_cases e : q.1 = z
      · rw [if_pos (by rw [e])]
        show _ = ((.inr (if q.1 = z then (q.1, p) else q).1 : Key), V.ref (if q.1 = z then (q.1, p) else q).2)
        rw [if_pos e]
      · rw [if_neg (fun h => e (Sum.inr.inj h))]
        show _ = ((.inr (if q.1 = z then (q.1, p) else q).1 : Key), V.ref (if q.1 = z then (q.1, p) else q).2)
        rw [if_neg e]
    · rw [List.map_map, ← ek]
      refine List.map_congr_left fun q hq' => ?_
      show (if q.1 = z then (q.1, p) else q).1 = q.1
      by_cases e : q.1 = z
      · rw [if_pos e]
      · rw [if_neg e]
    · have lk : ∀ (c : List (Str × Addr)) (y : Str), (c.map fun q => if q.1 = z then (q.1, p) else q).lookup y = if y = z then (c.lookup z).map (fun _ => p) else c.lookup y := by
        intro c y
        induction c with
        | nil => by_cases e : y = z <;> simp [e]
        | cons a t ih =>
          rw [List.map_cons, List.lookup_cons, List.lookup_cons, List.lookup_cons]
          by_cases e1 : a.1 = z
          · rw [if_pos e1]
            by_cases e2 : y = z
            · rw [if_pos e2, e1, e2, beq_self_eq_true]
              rfl
            · rw [if_neg e2]
              have : (y == a.1) = false := beq_eq_false_iff_ne.mpr (fun q => e2 (q.trans e1))
              rw [this]
              rw [if_neg e2] at ih
              exact ih
          · rw [if_neg e1]
            by_cases e2 : y = z
            · rw [if_pos e2] at ih ⊢
              have h1 : (y == a.1) = false := beq_eq_false_iff_ne.mpr (fun q => e1 (q.symm.trans e2))
              have h2 : (z == a.1) = false := beq_eq_false_iff_ne.mpr (fun q => e1 q.symm)
              rw [h1, h2]
              exact ih
            · rw [if_neg e2] at ih ⊢
              cases y == a.1
              · exact ih
              · rfl
      rw [lk] at e
      by_cases e2 : y = z
      · rw [if_pos e2] at e
        cases hc2 : c.lookup z with
        | none =>
          rw [hc2] at e
          cases e
        | some w =>
          rw [hc2] at e
          cases e
          exact ⟨pd, by rw [upd_ne pd]; show H p = some (.lst ((if y = z then xs else f y).map V.str)); rw [if_pos e2]; exact hp⟩
      · rw [if_neg e2] at e
        obtain ⟨h1, h2⟩ := hq y q e
        exact ⟨h1, by rw [upd_ne h1]; show H q = some (.lst ((if y = z then xs else f y).map V.str)); rw [if_neg e2]; exact h2⟩
  · rw [if_neg hz]
    have hn : c.lookup z = none := lookup_none.mpr (by rw [ek]; exact hz)
    refine ⟨c ++ [(z, p)], ?_, by rw [List.map_append, ek]; rfl, fun y q e => ?_⟩
    · rw [upd_same, putK_new _ (by rw [valV_words V.ref, hn]; rfl)]
      unfold refK
      rw [List.map_append]
      rfl
    · have lk : ∀ (c : List (Str × Addr)), c.lookup z = none → (c ++ [(z, p)]).lookup y = if y = z then some p else c.lookup y := by
        intro c
        induction c with
        | nil =>
          intro _
          by_cases e : y = z
          · simp [e]
          · rw [if_neg e, List.nil_append, List.lookup_cons, beq_eq_false_iff_ne.mpr e]
        | cons a t ih =>
          intro hn
          rw [List.lookup_cons] at hn
          rw [List.cons_append, List.lookup_cons, List.lookup_cons]
          cases e1 : z == a.1 with
          | true => rw [e1] at hn; cases hn
          | false =>
            rw [e1] at hn
            by_cases e : y = z
            · rw [if_pos e, e, e1]
              have := ih hn
              rw [if_pos e, e] at this
              exact this
            · have := ih hn
              rw [if_neg e] at this ⊢
              rw [this]
      rw [lk c hn] at e
      by_cases e2 : y = z
      · rw [if_pos e2] at e
        cases e
        exact ⟨pd, by rw [upd_ne pd]; show H p = some (.lst ((if y = z then xs else f y).map V.str)); rw [if_pos e2]; exact hp⟩
      · rw [if_neg e2] at e
        obtain ⟨h1, h2⟩ := hq y q e
        exact ⟨h1, by rw [upd_ne h1]; show H q = some (.lst ((if y = z then xs else f y).map V.str)); rw [if_neg e2]; exact h2⟩
/-- what the roots of a node are, by those of its inputs -/
def rootEq (f : Str → List Str) (n : Nd) : List Str := (if n.ins = [] then [n.name] else []) ++ n.ins.flatMap f
end Pw
set_option maxHeartbeats 8000000
/-! _law_numbers -/
namespace Pw
open PySem PySem.Spec PyProof.Rows L2 Dc
open Ev (vis vis_at vis_of vis_same vis_mono vis_grow)
abbrev sNums : Stmt := topS 66
abbrev numsN : List Str := ["_law_list_of", "_law_sizes", "_law_depths", "_law_roots", "_law_called", "_law_kind", "_law_some", "_law_inputs", "_law_one_here", "_law_looping"]
theorem scNums : FnScope numsN ["_law_list_of"] (defScope sNums) := ⟨rfl, rfl, rfl, by decide +kernel, rfl, by decide +kernel, by decide +kernel⟩
/-- all but three objects -/
def bt3 (a b c : Addr) : Addr → Bool := fun d => !decide (d = a) && (!decide (d = b) && !decide (d = c))
theorem bt3_at {a b c d : Addr} (h1 : d ≠ a) (h2 : d ≠ b) (h3 : d ≠ c) : bt3 a b c d = true := by
  unfold bt3
  rw [decide_eq_false h1, decide_eq_false h2, decide_eq_false h3]
  rfl
theorem bt3_of {a b c d : Addr} (h : bt3 a b c d = true) : d ≠ a ∧ d ≠ b ∧ d ≠ c := by
  unfold bt3 at h
  simp only [Bool.and_eq_true, Bool.not_eq_true', decide_eq_false_iff_not] at h
  exact h
theorem max_own {xs : List Int} {m : Int} (h0 : ∀ x ∈ xs, 0 ≤ x) (hm : m ∈ (0 : Int) :: xs) (ht : ∀ y ∈ (0 : Int) :: xs, y ≤ m) : maxI xs = m := by
  have e : maxI ((0 : Int) :: xs) = m := maxI_is (fun x hx => by
    rcases List.mem_cons.mp hx with rfl | hx
    · exact Int.le_refl _
    · exact h0 x hx) hm ht
  rw [← e]
  unfold maxI
  rw [List.foldl_cons]
  rfl
/-- [d[z] for z in inputs] -/
theorem look_comp {K : PySem.W.Frag} {σ : L2.St} {H : Hp} {Q : VK} {l2 D : Addr} {zs : List Str} {b : List (Str × Int)} {dI : Nat} (h7 : σ[7]? = some (some (.ref l2))) (hw : ∀ x, wipe ((wipe σ [8]).set 8 (some x)) [8] = wipe σ [8]) (hd : ∀ x, ((wipe σ [8]).set 8 (some x))[dI]? = some (some (.ref D))) (h8 : ∀ x, ((wipe σ [8]).set 8 (some x))[8]? = some (some x))
    (hl : H l2 = some (.lst (zs.map V.str))) (hD : H D = some (kiO b)) (sub : ∀ z ∈ zs, z ∈ b.map (·.1)) (hz : zs.length ≤ 1000) (q : ∀ D1 H', Same H H' → H D1 = none → H' D1 = some (.lst ((zs.map (look b)).map V.int)) → Q (.ref D1) H') :
    tLc (iList K (tVar 7)) (gName 8) tYes (tDGet (tVar dI) (tVar 8)) [8] σ H Q := by
  refine ⟨_, h7, l2, rfl, ⟨_, SqL.of hl⟩, fun D1 nD1 => ?_⟩
  refine lc_mapW (ys := zs.map fun z => V.int (look b z)) (walk_list (xs := zs.map V.str)) nD1 (by rw [List.length_map, List.length_map]) (by rw [List.length_map]; exact Nat.lt_of_le_of_lt hz (by decide)) (fun H3 s3 => SqL.of (s3 _ _ hl)) (fun j v y H3 H4 Q2 hj ey s3 yv k => ?_) (fun H3 s3 eD => ?_)
  · obtain ⟨rfl, hv⟩ := yv
    rw [List.getElem?_map] at hv ey
    obtain ⟨u, eu, rfl⟩ := Option.map_eq_some_iff.mp hv
    obtain ⟨u2, eu2, rfl⟩ := Option.map_eq_some_iff.mp ey
    cases eu.symm.trans eu2
    refine ⟨hw _, .ref D, hd _, _, h8 _, D, _, rfl, get_known (s3 _ _ hD) (sub u (List.mem_of_getElem? eu)), k _ (Same.refl _)⟩
  · exact q D1 H3 s3 nD1 (by rw [eD, sum_map_look])
theorem put_of {td ty tv : TE} {u : TS} {D : Ends} {σ : L2.St} {H : Hp} (h : tv σ H fun v H1 => td σ H1 fun x H2 => ty σ H2 fun y H3 => ∃ a H4, x = .ref a ∧ DPut H3 a y v H4 ∧ u D σ H4) : tSeq (sDPut td ty tv) u D σ H := h
theorem opr_of {R : R2} {te tf : TE} {σ : L2.St} {H : Hp} {Q : VK} (h : te σ H fun x H1 => tf σ H1 fun y H2 => R x y H2 Q) : tOp R te tf σ H Q := h
theorem con_of {x : V} {σ : L2.St} {H : Hp} {Q : VK} (h : Q x H) : tC x σ H Q := h
theorem cb_of {r : List V → Hp → VK → Prop} {te : TE} {σ : L2.St} {H : Hp} {Q : VK} (h : te σ H fun x H1 => r [x] H1 Q) : tCB r (tCons te tNil) σ H Q := h
theorem flat_rep (x : V) (k : Nat) : (List.replicate k [x]).flatten = List.replicate k x := Ev.rep_flat x k
theorem words_dv {K : PySem.W.Frag} {H : Hp} : ∀ zs : List Str, DvAll K H (zs.map V.str) (zs.map PyData.str)
  | [] => .nil
  | z :: r => .cons (.str z) (words_dv r)
theorem node_names {n : Nd} (h : isNode n.dat = true) : isName (.str n.name) = true ∧ ∀ z ∈ n.ins, isName (.str z) = true := by
  have h0 : (isName (.str n.name) && ((kindsL.lookup n.kind).isSome && (areParams n.kind (.tuple n.ps) && areInputs n.kind (.list (n.ins.map PyData.str))))) = true := h
  rw [Bool.and_eq_true, Bool.and_eq_true, Bool.and_eq_true] at h0
  obtain ⟨a1, a2, a3, a4⟩ := h0
  have a4 : (decide ((inRange n.kind).1 ≤ ((n.ins.map PyData.str).length : Nat)) && decide (((n.ins.map PyData.str).length : Int) ≤ (inRange n.kind).2) && (n.ins.map PyData.str).all isName) = true := a4
  rw [Bool.and_eq_true] at a4
  exact ⟨a1, fun z hz => List.all_eq_true.mp a4.2 _ (List.mem_map_of_mem hz)⟩
theorem eqv_nil (zs : List Str) : PyData.eqv (.list (zs.map PyData.str)) (.list []) = decide (zs = []) := by
  cases zs with
  | nil => rfl
  | cons z r => rfl
theorem length_flatMap_le {f : Str → List Str} {g : Str → Int} : ∀ {zs : List Str}, (∀ z ∈ zs, ((f z).length : Int) ≤ g z) → ((zs.flatMap f).length : Int) ≤ (zs.map g).sum
  | [], _ => Int.le_refl _
  | z :: r, h => by
    have h1 := h z List.mem_cons_self
    have h2 := length_flatMap_le fun y hy => h y (List.mem_cons_of_mem _ hy)
    rw [List.flatMap_cons, List.length_append, List.map_cons, List.sum_cons]
    omega
theorem flatMap_same {f g : Str → List Str} : ∀ {zs : List Str}, (∀ z ∈ zs, f z = g z) → zs.flatMap f = zs.flatMap g
  | [], _ => rfl
  | z :: r, h => by rw [List.flatMap_cons, List.flatMap_cons, h z List.mem_cons_self, flatMap_same fun y hy => h y (List.mem_cons_of_mem _ hy)]
theorem take_sum_le {lk : Str → Int} : ∀ (zs : List Str) (j : Nat), (∀ z ∈ zs, 0 ≤ lk z) → ((zs.take j).map lk).sum ≤ (zs.map lk).sum
  | [], j, _ => by simp
  | z :: r, 0, h => by
    have h1 := h z List.mem_cons_self
    have h2 := take_sum_le r 0 fun y hy => h y (List.mem_cons_of_mem _ hy)
    simp at h2 ⊢
    omega
  | z :: r, j + 1, h => by
    have h2 := take_sum_le r j fun y hy => h y (List.mem_cons_of_mem _ hy)
    rw [List.take_succ_cons, List.map_cons, List.map_cons, List.sum_cons, List.sum_cons]
    omega
theorem once_or {b : Bool} {c : Prop} [Decidable c] {x : Str} (e : b = decide c) : (List.replicate (if b = true then (1 : Int) else 0).toNat [V.str x]).flatten = (if c then [x] else []).map V.str := by
  subst e
  by_cases h : c
  · rw [if_pos h, if_pos (decide_eq_true h)]
    rfl
  · rw [if_neg h, if_neg (by rw [decide_eq_false h]; exact Bool.false_ne_true)]
    rfl
section
variable {P : Program} {w : World} {K : PySem.W.Frag} {mg : Str → Option Value} {base : Heap}
def spNums (K : PySem.W.Frag) : Sp := fun vs H Q _ => ∃ (x : V) (ns : List Nd), vs = [x] ∧ Dv K H x (.list (ns.map Nd.dat)) ∧ Wired [] ns ∧ ns.length ≤ 30 ∧ cellsN ns ≤ 100 ∧
  ∀ (T DS DD DR : Addr) (f : Str → List Str) (H' : Hp), Same H H' → H' T = some (.tup [.ref DS, .ref DD, .ref DR]) → H' DS = some (kiO (belowBy fC [] ns)) → H' DD = some (kiO (belowBy fL [] ns)) → RootD H' DR (ns.map (·.name)) f → (∀ n ∈ ns, f n.name = rootEq f n) → Q (.ref T) H'
theorem ok_numbers (B : Blt mg) (bS : mg "sum" = none) (bMax : mg "max" = none) (D : Dfn K mg "_law_numbers" sNums ["_law_list_of"]) : DefOk P w K mg base CX0 1 "_law_numbers" ["_law_list_of"] (spNums K) := D.ok fun f fd F => by
  refine F.ok scNums (fun vs H Q E h => ?_) (fun cdv A outer s H vs Q E hr h => ?_)
  · obtain ⟨x, ns, rfl, _⟩ := h
    rfl
  · obtain ⟨x, ns, rfl, hx, hw, h30, hc, q⟩ := h
    have nd := scNums.nd
    have hu := Nat.lt_of_le_of_lt (Nat.add_le_add_left (by decide : 1 ≤ 64) _) hr.units
    refine ⟨_, (pss_cons (ps_asg (pe_tup (pa_cons pe_dnewK (pa_cons pe_dnewK (pa_cons pe_dnewK pa_nil)))) (pg_tup rfl (pgs_cons (pg_name (i := 1) nd rfl (Or.inr rfl)) (pgs_cons (pg_name (i := 2) nd rfl (Or.inr rfl)) (pgs_cons (pg_name (i := 3) nd rfl (Or.inl rfl)) pgs_nil)))))
      (pss_cons (ps_for PassesOwn.never rfl (pi_list (pv 0)) (pg_tup rfl (pgs_cons (pg_name (i := 4) nd rfl (Or.inl rfl)) (pgs_cons (pg_name (i := 5) nd rfl (Or.inl rfl)) (pgs_cons (pg_name (i := 6) nd rfl (Or.inl rfl)) (pgs_cons (pg_name (i := 7) nd rfl (Or.inl rfl)) pgs_nil)))))
        (pss_cons (ps_dput hu (pv 1) (pv 4) (pe_op op_add pe_int (pe_callB (cr_sum rfl) (by rfl) bS (by decide +kernel) (pa_cons (pe_lc (own := [("_law_one_here", 8)]) (g := gName 8) (tt := tYes) rfl nd (pi_list (pv 7)) (blkOk_by (N := numsN) (sc := defScope sNums) (by decide +kernel)) (fun _ _ _ _ _ => (pg_name (i := 8) nd rfl (Or.inl rfl))) (fun _ _ _ _ _ => pts_nil) (fun _ _ _ _ _ => (pe_dget (by exact hu) (pv 1) (pv 8) (fun _ _ => rfl)))) pa_nil))) (by rfl))
          (pss_cons (ps_set (i := 9) nd rfl (.inl rfl) (pe_lst (pa_cons pe_str (pa_cons pe_str (pa_cons pe_str (pa_cons pe_str (pa_cons pe_str (pa_cons pe_str (pa_cons pe_str pa_nil)))))))))
          (pss_cons (ps_dput hu (pv 2) (pv 4) (pe_op op_add (pe_callB (cr_max rfl) (by rfl) bMax (by decide +kernel) (pa_cons (pe_op op_cat (pe_lst (pa_cons pe_int pa_nil)) (pe_lc (own := [("_law_one_here", 8)]) (g := gName 8) (tt := tYes) rfl nd (pi_list (pv 7)) (blkOk_by (N := numsN) (sc := defScope sNums) (by decide +kernel)) (fun _ _ _ _ _ => (pg_name (i := 8) nd rfl (Or.inl rfl))) (fun _ _ _ _ _ => pts_nil) (fun _ _ _ _ _ => (pe_dget (by exact hu) (pv 2) (pv 8) (fun _ _ => rfl))))) pa_nil)) (pe_callTy call_int1 (by rfl) B.int boot_int (pa_cons (pe_cmpR op_in_seq (pv 5) (pv 9) (by rfl)) pa_nil))) (by rfl))
          (pss_cons (ps_dput hu (pv 3) (pv 4) (pe_op op_rep (pe_lst (pa_cons (pv 4) pa_nil)) (pe_callTy call_int1 (by rfl) B.int boot_int (pa_cons (pe_cmpR (op_eqD hr.units) (pv 7) (pe_lst pa_nil) (nomark _)) pa_nil))) (by rfl))
          (pss_one (ps_for PassesOwn.never rfl (pi_list (pv 7)) (pg_name (i := 8) nd rfl (Or.inl rfl))
            (pss_one (ps_dput hu (pv 3) (pv 4) (pe_op op_cat (pe_dget (by exact hu) (pv 3) (pv 4) (fun _ _ => rfl)) (pe_dget (by exact hu) (pv 3) (pv 8) (fun _ _ => rfl))) (by rfl))))))))))
      (pss_one (ps_ret (pe_tup (pa_cons (pv 1) (pa_cons (pv 2) (pa_cons (pv 3) pa_nil)))))))), ?_⟩
    cases hx with
    | @lst l xs _ hl hlz hds =>
    have hlen : xs.length = ns.length := by rw [hds.length, List.length_map]
    refine fun DS nS => fun DD nD => fun DR nR => ⟨by show 3 ≤ sizeLine; decide, fun T0 n0 => ⟨T0, _, rfl, SqT.of upd_same, rfl, _, _, rfl, _, _, rfl, _, _, rfl, rfl, ?_⟩⟩
    have sD1 := same_upd (o := .dK []) nS
    have sD2 := same_upd (o := .dK []) nD
    have sD3 := same_upd (o := .dK []) nR
    have SD : DS ≠ DD := fun e => by rw [← e, upd_same] at nD; cases nD
    have SR : DS ≠ DR := fun e => by rw [← e, sD2 _ _ upd_same] at nR; cases nR
    have DRne : DD ≠ DR := fun e => by rw [← e, upd_same] at nR; cases nR
    have nD0 : H DD = none := by rw [upd_ne SD.symm] at nD; exact nD
    have nR0 : H DR = none := by rw [upd_ne DRne.symm, upd_ne SR.symm] at nR; exact nR
    obtain ⟨H1, eH1⟩ : ∃ H1, upd (upd (upd (upd H DS (.dK [])) DD (.dK [])) DR (.dK [])) T0 (.tup [.ref DS, .ref DD, .ref DR]) = H1 := ⟨_, rfl⟩
    have sD4 := same_upd (o := .tup [.ref DS, .ref DD, .ref DR]) n0
    rw [eH1]
    have s0 : Same H H1 := by rw [← eH1]; exact sD1.trans (sD2.trans (sD3.trans sD4))
    have hS1 : H1 DS = some (kiO []) := by rw [← eH1]; exact (sD2.trans (sD3.trans sD4)) _ _ upd_same
    have hD1 : H1 DD = some (kiO []) := by rw [← eH1]; exact (sD3.trans sD4) _ _ upd_same
    have hR1 : H1 DR = some (.dK []) := by rw [← eH1]; exact sD4 _ _ upd_same
    have hds1 := hds.same s0
    have hl1 := s0 _ _ hl
    have old : ∀ {b : Addr} {o : HO}, H b = some o → bt3 DS DD DR b = true := fun {b o} e => bt3_at (ne_of_none e nS) (ne_of_none e nD0) (ne_of_none e nR0)
    refine ⟨_, rfl, l, rfl, ⟨_, SqL.of hl1⟩, ?_⟩
    refine for_list (xs := xs) (fun i σ H' => ∃ (z4 z5 z6 z7 z8 z9 : Option V) (b1 b2 : List (Str × Int)) (fr : Str → List Str), σ = [some (.ref l), some (.ref DS), some (.ref DD), some (.ref DR), z4, z5, z6, z7, z8, z9] ∧ Same (vis (bt3 DS DD DR) H1) H' ∧
        (H' DS = some (kiO b1) ∧ b1.map (·.1) = (ns.take i).map (·.name) ∧ belowBy fC b1 (ns.drop i) = belowBy fC [] ns) ∧ (H' DD = some (kiO b2) ∧ b2.map (·.1) = (ns.take i).map (·.name) ∧ belowBy fL b2 (ns.drop i) = belowBy fL [] ns) ∧
        RootD H' DR ((ns.take i).map (·.name)) fr ∧ ∀ n ∈ ns.take i, fr n.name = rootEq fr n ∧ ((fr n.name).length : Int) ≤ look (belowBy fC [] ns) n.name)
      ⟨none, none, none, none, none, none, [], [], fun _ => [], rfl, vis_same, ⟨hS1, by simp, rfl⟩, ⟨hD1, by simp, rfl⟩, RootD.nil hR1, fun n h => absurd h (by simp)⟩ (fun i σ H' hi p => ?_) (fun i x σ H' hi p => ?_) (fun σ H' p => ?_)
    · obtain ⟨z4, z5, z6, z7, z8, z9, b1, b2, fr, rfl, sm, _⟩ := p
      exact SqL.of (sm _ _ (vis_at (old hl) hl1))
    · obtain ⟨z4, z5, z6, z7, z8, z9, b1, b2, fr, rfl, sm, ⟨hS, k1, be1⟩, ⟨hD, k2, be2⟩, hR, hf⟩ := p
      obtain ⟨n, t, l2, y3, en, rfl, ht1, hl2, _⟩ := node_at hds hi
      have ht := sm _ _ (vis_at (old ht1) (s0 _ _ ht1))
      have hl2' := sm _ _ (vis_at (old hl2) (s0 _ _ hl2))
      obtain ⟨nw, sub⟩ := wired_at hw en
      have mem := List.mem_of_getElem? en
      have l10 := (wired_node hw mem).2
      have i30 : i < ns.length := (List.getElem?_eq_some_iff.mp en).1
      refine ⟨t, _, rfl, SqT.of ht, rfl, _, _, rfl, _, _, rfl, _, _, rfl, _, _, rfl, rfl, ?_⟩
      have lnm : ∀ {b : List (Str × Int)}, b.map (·.1) = (ns.take i).map (·.name) → b.length ≤ 1000 := fun {b} e => by
        have := congrArg List.length e
        rw [List.length_map, List.length_map, List.length_take] at this
        omega
      have vS : bt3 DS DD DR DS = false := by unfold bt3; rw [decide_eq_true rfl]; rfl
      have vD : bt3 DS DD DR DD = false := by unfold bt3; rw [decide_eq_true (show DD = DD from rfl)]; simp
      have vR : bt3 DS DD DR DR = false := by unfold bt3; rw [decide_eq_true (show DR = DR from rfl)]; simp
      have occ : ∀ {b : Addr} {o : HO}, H' b = some o → bt3 DS DD DR b = true → True := fun _ _ => trivial
      have l2v : bt3 DS DD DR l2 = true := old hl2
      -- sizes
      refine put_of (opr_of (con_of (cb_of (look_comp (b := b1) (D := DS) rfl (fun x => rfl) (fun x => rfl) (fun x => rfl) hl2' hS (fun z hz => by rw [k1]; exact sub z hz) (by omega) fun D1 H2 s2 nD1 e1 => ?_))))
      refine ⟨D1, n.ins.map (look b1), rfl, SqL.of e1, 1, _, rfl, rfl, _, rfl, _, rfl, DS, _, rfl, .inl ⟨_, .inr n.name, s2 _ _ hS, rfl, by rw [List.length_map]; exact Nat.lt_of_le_of_lt (lnm k1) (by decide), rfl⟩, ?_⟩
      rw [put_new (by rw [k1]; exact nw)]
      have hS3 : upd H2 DS (kiO (b1 ++ [(n.name, 1 + (n.ins.map (look b1)).sum)])) DS = some (kiO (b1 ++ [(n.name, 1 + (n.ins.map (look b1)).sum)])) := upd_same
      have hD3 : upd H2 DS (kiO (b1 ++ [(n.name, 1 + (n.ins.map (look b1)).sum)])) DD = some (kiO b2) := by rw [upd_ne SD.symm]; exact s2 _ _ hD
      have hR3 : RootD (upd H2 DS (kiO (b1 ++ [(n.name, 1 + (n.ins.map (look b1)).sum)]))) DR ((ns.take i).map (·.name)) fr := (hR.same s2).other (s2 _ _ hS) (fun xs e => by cases e) SR.symm
      have sm3 : Same (vis (bt3 DS DD DR) H') (upd H2 DS (kiO (b1 ++ [(n.name, 1 + (n.ins.map (look b1)).sum)]))) := fun b o e => by
        obtain ⟨u, e⟩ := vis_of e
        rw [upd_ne (bt3_of u).1]
        exact s2 _ _ e
      generalize upd H2 DS (kiO (b1 ++ [(n.name, 1 + (n.ins.map (look b1)).sum)])) = H3 at *
      have hl3 := sm3 _ _ (vis_at l2v hl2')
      -- looping
      refine Dr.seqasg_of ⟨by show 7 ≤ sizeLine; decide, fun p np => Dr.name_of ?_⟩
      have s4 : Same H3 (upd H3 p (.lst (loopsL.map V.str))) := same_upd np
      have hp4 : upd H3 p (.lst (loopsL.map V.str)) p = some (.lst (loopsL.map V.str)) := upd_same
      show tSeq _ _ _ _ (upd H3 p (.lst (loopsL.map V.str)))
      generalize upd H3 p (.lst (loopsL.map V.str)) = H4 at *
      -- depths
      refine put_of (opr_of (cb_of (opr_of ⟨by show 1 ≤ sizeLine; decide, fun p0 np0 => ?_⟩)))
      have s5 : Same H4 (upd H4 p0 (.lst [.int 0])) := same_upd np0
      have hp5 : upd H4 p0 (.lst [.int 0]) p0 = some (.lst [.int 0]) := upd_same
      generalize upd H4 p0 (.lst [.int 0]) = H5 at *
      have s35 := s4.trans s5
      refine look_comp (b := b2) (D := DD) rfl (fun x => rfl) (fun x => rfl) (fun x => rfl) (s35 _ _ hl3) (s35 _ _ hD3) (fun z hz => by rw [k2]; exact sub z hz) (by omega) fun D2 H6 s6 nD2 e2 => ?_
      refine ⟨p0, D2, _, _, rfl, rfl, s6 _ _ hp5, e2, ?_, fun p3 np3 => ?_⟩
      · rw [List.length_map, List.length_map]
        exact Nat.le_trans (by show 1 + n.ins.length ≤ 1000; omega) (by decide)
      have s7 : Same H6 (upd H6 p3 (.lst ([.int 0] ++ (n.ins.map (look b2)).map V.int))) := same_upd np3
      have hp7 : upd H6 p3 (.lst ([.int 0] ++ (n.ins.map (look b2)).map V.int)) p3 = some (.lst (((0 : Int) :: n.ins.map (look b2)).map V.int)) := upd_same
      generalize upd H6 p3 (.lst ([.int 0] ++ (n.ins.map (look b2)).map V.int)) = H7 at *
      refine ⟨p3, (0 : Int) :: n.ins.map (look b2), rfl, SqL.of hp7, by simp, fun m hm ht => ?_⟩
      have s47 := s5.trans (s6.trans s7)
      have s37 := s4.trans s47
      refine ⟨_, rfl, _, rfl, p, loopsL.map V.str, rfl, .inl (SqL.of (s47 _ _ hp4)), rfl, rfl, .inr ⟨_, rfl, ?_⟩⟩
      have em : m + (if (if false = true then !inV (.str n.kind) (loopsL.map V.str) else inV (.str n.kind) (loopsL.map V.str)) = true then (1 : Int) else 0) = fL n (n.ins.map (look b2)) := by
        have e := look_part hw be2 (zs := n.ins) sub
        have := max_own (xs := n.ins.map (look b2)) (fun x hx => by
          rw [e] at hx
          exact l_pos hw (fun z hz => by
            obtain ⟨m, hm, e⟩ := List.mem_map.mp (sub z hz)
            exact List.mem_map.mpr ⟨m, List.mem_of_mem_take hm, e⟩) x hx) hm ht
        unfold fL
        rw [this, if_neg Bool.false_ne_true, in_strs, Int.add_comm]
        congr 1
        by_cases h : n.kind ∈ loopsL
        · rw [if_pos (decide_eq_true h), if_pos h]
        · rw [if_neg (by rw [decide_eq_false h]; exact Bool.false_ne_true), if_neg h]
      refine ⟨_, _, rfl, rfl, _, rfl, _, rfl, DD, _, rfl, .inl ⟨_, .inr n.name, s37 _ _ hD3, rfl, by rw [List.length_map]; exact Nat.lt_of_le_of_lt (lnm k2) (by decide), rfl⟩, ?_⟩
      show tSeq _ _ _ _ (upd H7 DD (.dK (putK _ (.inr n.name) (V.int (m + _)))))
      rw [em, put_new (by rw [k2]; exact nw)]
      have hS8 : upd H7 DD (kiO (b2 ++ [(n.name, fL n (n.ins.map (look b2)))])) DS = some (kiO (b1 ++ [(n.name, 1 + (n.ins.map (look b1)).sum)])) := by rw [upd_ne SD]; exact s37 _ _ hS3
      have hD8 : upd H7 DD (kiO (b2 ++ [(n.name, fL n (n.ins.map (look b2)))])) DD = some (kiO (b2 ++ [(n.name, fL n (n.ins.map (look b2)))])) := upd_same
      have hR8 : RootD (upd H7 DD (kiO (b2 ++ [(n.name, fL n (n.ins.map (look b2)))]))) DR ((ns.take i).map (·.name)) fr := (hR3.same s37).other (s37 _ _ hD3) (fun xs e => by cases e) DRne.symm
      have sm8 : Same (vis (bt3 DS DD DR) H') (upd H7 DD (kiO (b2 ++ [(n.name, fL n (n.ins.map (look b2)))]))) := fun b o e => by
        obtain ⟨u, _⟩ := vis_of e
        rw [upd_ne (bt3_of u).2.1]
        exact s37 _ _ (sm3 _ _ e)
      generalize upd H7 DD (kiO (b2 ++ [(n.name, fL n (n.ins.map (look b2)))])) = H8 at *
      have hl8 := sm8 _ _ (vis_at l2v hl2')
      -- roots
      have hne : n.name ∉ (ns.take i).map (·.name) := nw
      refine put_of (opr_of ⟨_, rfl, by show 1 ≤ sizeLine; decide, fun p9 np9 => ?_⟩)
      have s9 : Same H8 (upd H8 p9 (.lst [.str n.name])) := same_upd np9
      have hp9 : upd H8 p9 (.lst [.str n.name]) p9 = some (.lst [.str n.name]) := upd_same
      show tCB _ _ _ (upd H8 p9 (.lst [.str n.name])) _
      generalize upd H8 p9 (.lst [.str n.name]) = H9 at *
      refine cb_of (opr_of ⟨_, rfl, by decide, fun p10 np10 => ?_⟩)
      have s10 : Same H9 (upd H9 p10 (.lst [])) := same_upd np10
      have hp10 : upd H9 p10 (.lst []) p10 = some (.lst []) := upd_same
      generalize upd H9 p10 (.lst []) = H10 at *
      have s810 := s9.trans s10
      obtain ⟨nmn, nmi⟩ := node_names (wired_node hw mem).1
      have ok1 : okD 2 (.list (n.ins.map PyData.str)) = true := okD_words (n := 0) nmi
      refine ⟨.list (n.ins.map PyData.str), .list [], Dv.dp (.lst (s810 _ _ hl8) (by rw [List.length_map]; omega) (words_dv _)) (okD_noDict 2 _ ok1), Dv.dp (.lst hp10 (by decide) .nil) rfl, okD_shaped ok1 (by decide), by decide, .inr ⟨_, rfl, ?_⟩⟩
      refine ⟨p9, _, [.str n.name], rfl, rfl, s10 _ _ hp9, ?_, ?_, ?_, fun p11 np11 => ?_⟩
      · split <;> omega
      · split <;> omega
      · show 1 * _ ≤ sizeLine
        rw [Nat.one_mul]
        split <;> decide
      rw [once_or (c := n.ins = []) (eqv_nil n.ins)]
      have s11 : Same H10 (upd H10 p11 (.lst ((if n.ins = [] then [n.name] else []).map V.str))) := same_upd np11
      have hp11 : upd H10 p11 (.lst ((if n.ins = [] then [n.name] else []).map V.str)) p11 = some (.lst ((if n.ins = [] then [n.name] else []).map V.str)) := upd_same
      have s811 := s810.trans s11
      have p11R : p11 ≠ DR := fun e => by
        obtain ⟨c, hc, _⟩ := hR8.at_
        have := s810 _ _ hc
        rw [← e, np11] at this
        cases this
      generalize upd H10 p11 (.lst ((if n.ins = [] then [n.name] else []).map V.str)) = H11 at *
      have lnk : ((ns.take i).map (·.name)).length ≤ 1000 := by
        rw [List.length_map, List.length_take]
        omega
      obtain ⟨H12, hput, hoth, hR12⟩ := (hR8.same s811).put (z := n.name) hp11 p11R lnk
      rw [if_neg hne] at hR12
      refine ⟨_, rfl, _, rfl, DR, H12, rfl, hput, ?_⟩
      have sm12 : Same (vis (bt3 DS DD DR) H') H12 := fun b o e => by
        obtain ⟨u, _⟩ := vis_of e
        rw [hoth b (bt3_of u).2.2]
        exact s811 _ _ (sm8 _ _ e)
      have hS12 : H12 DS = some (kiO (b1 ++ [(n.name, 1 + (n.ins.map (look b1)).sum)])) := by rw [hoth DS SR]; exact s811 _ _ hS8
      have hD12 : H12 DD = some (kiO (b2 ++ [(n.name, fL n (n.ins.map (look b2)))])) := by rw [hoth DD DRne]; exact s811 _ _ hD8
      -- sizes of lists
      have lkn : look (belowBy fC [] ns) n.name = 1 + (n.ins.map (look (belowBy fC [] ns))).sum := below_at fC hw rfl mem
      have lkc : look (belowBy fC [] ns) n.name ≤ 100 := Int.le_trans (cells_within hw ns [] rfl n mem) hc
      have lkf : ∀ z ∈ n.ins, ((fr z).length : Int) ≤ look (belowBy fC [] ns) z := fun z hz => by
        obtain ⟨m, hm, e⟩ := List.mem_map.mp (sub z hz)
        rw [← e]
        exact (hf m hm).2
      have lk0 : ∀ z ∈ n.ins, 0 ≤ look (belowBy fC [] ns) z := fun z hz => Int.le_trans (Int.natCast_nonneg _) (lkf z hz)
      have lenJ : ∀ j, (((n.ins.take j).flatMap fr).length : Int) ≤ 99 := fun j => by
        have h1 := length_flatMap_le (f := fr) (g := look (belowBy fC [] ns)) (zs := n.ins.take j) fun z hz => lkf z (List.mem_of_mem_take hz)
        have h2 := take_sum_le n.ins j lk0
        omega
      have len0 : ((if n.ins = [] then [n.name] else []) : List Str).length ≤ 1 := by split <;> simp
      refine ⟨_, rfl, l2, rfl, ⟨_, SqL.of (sm12 _ _ (vis_at l2v hl2'))⟩, ?_⟩
      refine for_list (xs := n.ins.map V.str) (fun j σ Hj => ∃ (z8 : Option V) (g : Str → List Str), σ = [some (.ref l), some (.ref DS), some (.ref DD), some (.ref DR), some (.str n.name), some (.str n.kind), some y3, some (.ref l2), z8, some (.ref p)] ∧ Same (vis (bt3 DS DD DR) H') Hj ∧
          Hj DS = some (kiO (b1 ++ [(n.name, 1 + (n.ins.map (look b1)).sum)])) ∧ Hj DD = some (kiO (b2 ++ [(n.name, fL n (n.ins.map (look b2)))])) ∧ RootD Hj DR ((ns.take i).map (·.name) ++ [n.name]) g ∧ g n.name = (if n.ins = [] then [n.name] else []) ++ (n.ins.take j).flatMap fr ∧ ∀ y, y ≠ n.name → g y = fr y)
        ⟨z8, _, rfl, sm12, hS12, hD12, hR12, by rw [if_pos rfl]; simp, fun y hy => by rw [if_neg hy]⟩ (fun j σ Hj _ p => ?_) (fun j x σ Hj hj p => ?_) (fun σ Hj p => ?_)
      · obtain ⟨z8, g, rfl, smj, _⟩ := p
        exact SqL.of (smj _ _ (vis_at l2v hl2'))
      · obtain ⟨z8, g, rfl, smj, hSj, hDj, hRj, gn, go⟩ := p
        rw [List.getElem?_map] at hj
        obtain ⟨z, ez, rfl⟩ := Option.map_eq_some_iff.mp hj
        have hz := sub z (List.mem_of_getElem? ez)
        have zn : z ≠ n.name := fun e => hne (e ▸ hz)
        obtain ⟨pa, pa1, pa2, pa3⟩ := hRj.get (z := n.name) (List.mem_append_right _ (List.mem_singleton.mpr rfl))
        obtain ⟨pb, pb1, pb2, pb3⟩ := hRj.get (z := z) (List.mem_append_left _ hz)
        refine ⟨_, rfl, _, rfl, DR, _, rfl, pa3, _, rfl, _, rfl, DR, _, rfl, pb3, pa, pb, _, _, rfl, rfl, pa2, pb2, ?_, fun pc npc => ?_⟩
        · have h1 := lenJ j
          have h2 := lkf z (List.mem_of_getElem? ez)
          have h3 : look (belowBy fC [] ns) z ≤ 100 := by
            obtain ⟨m, hm, e⟩ := List.mem_map.mp hz
            rw [← e]
            exact Int.le_trans (cells_within hw ns [] rfl m (List.mem_of_mem_take hm)) hc
          rw [List.length_map, List.length_map, gn, go z zn, List.length_append]
          exact Nat.le_trans (by omega : _ ≤ 1000) (by decide)
        · have sc : Same Hj (upd Hj pc (.lst ((g n.name).map V.str ++ (g z).map V.str))) := same_upd npc
          have hpc : upd Hj pc (.lst ((g n.name).map V.str ++ (g z).map V.str)) pc = some (.lst ((g n.name ++ g z).map V.str)) := by
            rw [upd_same, List.map_append]
          have pcR : pc ≠ DR := fun e => by
            obtain ⟨c, hc, _⟩ := hRj.at_
            rw [← e, npc] at hc
            cases hc
          generalize upd Hj pc (.lst ((g n.name).map V.str ++ (g z).map V.str)) = Hk at *
          obtain ⟨Hm, mput, moth, mR⟩ := (hRj.same sc).put (z := n.name) hpc pcR (by rw [List.length_append, List.length_map, List.length_take]; simp; omega)
          rw [if_pos (List.mem_append_right _ (List.mem_singleton.mpr rfl))] at mR
          refine ⟨_, rfl, _, rfl, DR, Hm, rfl, mput, _, _, rfl, fun b o e => ?_, ?_, ?_, mR, ?_, fun y hy => ?_⟩
          · obtain ⟨u, _⟩ := vis_of e
            rw [moth b (bt3_of u).2.2]
            exact sc _ _ (smj _ _ e)
          · rw [moth DS SR]
            exact sc _ _ hSj
          · rw [moth DD DRne]
            exact sc _ _ hDj
          · rw [if_pos rfl, gn, go z zn, List.append_assoc]
            congr 1
            rw [List.take_add_one, ez, List.flatMap_append]
            simp
          · rw [if_neg hy]
            exact go y hy
      · obtain ⟨z8, g, rfl, smj, hSj, hDj, hRj, gn, go⟩ := p
        rw [List.length_map, List.take_length] at gn
        have gi : ∀ z ∈ (ns.take i).map (·.name), g z = fr z := fun z hz => go z fun e => hne (e ▸ hz)
        have re : ∀ m : Nd, (∀ z ∈ m.ins, z ∈ (ns.take i).map (·.name)) → rootEq g m = rootEq fr m := fun m h => by
          unfold rootEq
          congr 1
          exact flatMap_same fun z hz => gi z (h z hz)
        have tk := take_at en
        refine ⟨_, _, _, _, _, _, _, _, g, rfl, fun b o e => smj _ _ (vis_mono sm _ _ e), ⟨hSj, ?_, ?_⟩, ⟨hDj, ?_, ?_⟩, ?_, fun m hm => ?_⟩
        · rw [List.map_append, k1, tk, List.map_append]
          rfl
        · rw [drop_at en] at be1
          exact be1
        · rw [List.map_append, k2, tk, List.map_append]
          rfl
        · rw [drop_at en] at be2
          exact be2
        · rw [tk, List.map_append]
          exact hRj
        · rw [tk] at hm
          rcases List.mem_append.mp hm with hm | hm
          · obtain ⟨h1, h2⟩ := hf m hm
            have mi : m.name ∈ (ns.take i).map (·.name) := List.mem_map.mpr ⟨m, hm, rfl⟩
            rw [gi _ mi]
            refine ⟨?_, h2⟩
            rw [h1]
            refine (re m fun z hz => ?_).symm
            have w2 := wired_pre (pre := ns.take i) (suf := ns.drop i) (by rw [List.take_append_drop]; exact hw)
            have := wired_ins w2 hm hz
            simpa using this
          · rw [List.mem_singleton.mp hm]
            have e : g n.name = rootEq g n := by
              rw [re n sub, gn]
              rfl
            refine ⟨e, ?_⟩
            rw [gn, lkn, List.length_append]
            have h1 := length_flatMap_le (f := fr) (g := look (belowBy fC [] ns)) (zs := n.ins) lkf
            omega
    · obtain ⟨z4, z5, z6, z7, z8, z9, b1, b2, fr, rfl, sm, ⟨hS, k1, be1⟩, ⟨hD, k2, be2⟩, hR, hf⟩ := p
      rw [hlen] at *
      rw [List.drop_length] at be1 be2
      rw [List.take_length] at hR hf
      have e1 : b1 = belowBy fC [] ns := be1
      have e2 : b2 = belowBy fL [] ns := be2
      refine ⟨_, rfl, _, rfl, _, rfl, by show 3 ≤ sizeLine; decide, fun T nT => ?_⟩
      have sT := same_upd (o := HO.tup [V.ref DS, V.ref DD, V.ref DR]) nT
      have sH : Same H H' := fun b o e => sm _ _ (vis_at (old e) (s0 _ _ e))
      exact q T DS DD DR fr _ (sH.trans sT) upd_same (sT _ _ (by rw [← e1]; exact hS)) (sT _ _ (by rw [← e2]; exact hD)) (hR.same sT) fun n hn => (hf n hn).1
end
end Pw
set_option maxHeartbeats 8000000
/-! sources_of -/
namespace Pw
open PySem PySem.Spec PyProof.Rows L2 Dc Own
abbrev sSrs : Stmt := topS 50
abbrev srsN : List Str := ["net", "name", "nodes", "read", "node", "lower"]
theorem scSrs : FnScope srsN ["net", "name"] (defScope sSrs) := ⟨rfl, rfl, rfl, by decide +kernel, rfl, by decide +kernel, by decide +kernel⟩
/-- what is read, from the back -/
def readBy : List Str → List Nd → List Str
  | zs, [] => zs
  | zs, n :: r => readBy (if n.name ∈ zs then zs ++ n.ins else zs) r
def readOf (ns : List Nd) (z : Str) : List Str := readBy [z] ns.reverse
def srcs (ns : List Nd) (z : Str) : List Str := (ns.filter fun n => decide (n.name ∈ readOf ns z) && decide (n.kind ∈ sources)).map (·.name)
theorem op_in_seqK {X : Cx} {K : PySem.W.Frag} (h : X.K = K) : OpR X (compareOp .In) (rIn K false) := by
  subst h
  exact op_in_seq
theorem readBy_snoc : ∀ (ms : List Nd) (zs : List Str) (n : Nd), readBy zs (ms ++ [n]) = if n.name ∈ readBy zs ms then readBy zs ms ++ n.ins else readBy zs ms
  | [], zs, n => rfl
  | m :: r, zs, n => readBy_snoc r _ n
theorem srcs_is (ns : List Nd) (p : Nd → Bool) : (ns.filterMap fun n => if p n = true then some (V.str n.name) else none) = ((ns.filter p).map (·.name)).map V.str := by
  induction ns with
  | nil => rfl
  | cons n r ih =>
    rw [List.filterMap_cons, List.filter_cons]
    cases e : p n with
    | true =>
      rw [if_pos rfl, if_pos rfl, List.map_cons, List.map_cons]
      dsimp only
      rw [ih]
    | false =>
      rw [if_neg Bool.false_ne_true, if_neg Bool.false_ne_true]
      exact ih
theorem DvAll.reverse {K : PySem.W.Frag} {H : Hp} : ∀ {vs : List V} {ds : List PyData}, DvAll K H vs ds → DvAll K H vs.reverse ds.reverse
  | [], _, h => by
    cases h
    exact .nil
  | v :: r, _, h => by
    cases h with
    | cons a b =>
      rw [List.reverse_cons, List.reverse_cons]
      exact b.reverse.append (.cons a .nil)
structure HasM (P : Program) (w : World) (K : PySem.W.Frag) (mg : Str → Option Value) (base : Heap) (C : Addr) : Prop where
  has : ∃ f fd, Meth K C "__contains__" f ∧ FnOk P w K mg base CX0 1 f fd ["self", "name"] (spHas K C) ∧ Binds K fd ["self", "name"] []
section
variable {P : Program} {w : World} {K : PySem.W.Frag} {mg : Str → Option Value} {base : Heap} {C CI fI pS : Addr}
def spSrs (K : PySem.W.Frag) (C CI : Addr) : Sp := fun vs H Q E => ∃ (a pd : Addr) (ns : List Nd) (x : V) (d : PyData), vs = [.ref a, x] ∧ NetF K H C a pd ns ∧ Dv K H x d ∧
  (hasName ns d = false → ∀ dd, H dd = none → E (.ref CI) (some dd) (upd H dd (.xd [("name", x)]))) ∧
  ∀ z, d = .str z → hasName ns d = true → ∀ (l : Addr) (H' : Hp), Same H H' → H l = none → H' l = some (.lst ((srcs ns z).map V.str)) → Q (.ref l) H'
theorem fn_srs (M : HasM P w K mg base C) (R : PySem.ErrX.ErrTxt K mg "InvalidName" "name" CI fI) (gS : mg "SOURCES" = some (.ref pS)) (tS : TupK K pS (sources.map V.str)) (N : NetCls P w K mg base C) {f : Addr} {fd : FuncData} (F : Fun K "sources_of" "sources_of" sSrs f fd) : FnOk P w K mg base (L2.CX P w) 12 f fd ["net", "name"] (spSrs K C CI) := by
  refine F.okX scSrs (fun vs H Q E h => ?_) (fun cdv A outer s H vs Q E hr h => ?_)
  · obtain ⟨a, pd, ns, x, d, rfl, _⟩ := h
    rfl
  · obtain ⟨a, pd, ns, x, d, rfl, ha, hx, qe, q⟩ := h
    have nd := scSrs.nd
    have hu := Nat.lt_of_le_of_lt (Nat.add_le_add_left (by decide : 1 ≤ 64) _) hr.units
    obtain ⟨f1, fd1, m1, F1, b1⟩ := M.has
    refine ⟨_, pss_cons (ps_if (pt_cmpR (op_ninOwn m1 F1 (hr.mono (by decide)) b1 pass0) (pv 1) (pv 0) (by rfl)) (pss_one (ps_raiseErr (W := fun cls d _ H => E cls d H) rfl R hr (L2.takes_of rfl rfl rfl rfl) (by exact (pa_cons (pv 1) pa_nil)))) pss_nil)
      (pss_cons (ps_set (i := 2) nd rfl (.inl rfl) (pe_nodes N (hr.mono (by decide)) (pv 0)))
      (pss_cons (ps_set (i := 3) nd rfl (.inr rfl) (pe_disp (pps_cons (pv 1) pe_bl pps_nil) rfl rfl (fun z => nomatch z) (by decide)))
      (pss_cons (ps_for (passes_of rfl) rfl (pi_list (pe_revL (pv 2))) (pg_name (i := 4) nd rfl (Or.inl rfl))
        (pss_one (ps_if (pt_cmp (pc_din hu (pe_ix ix_tup (pv 4) pe_int (fun _ _ => rfl)) (pv 3)) (by rfl))
          (pss_one (ps_for (passes_of rfl) rfl (pi_list (pe_ix ix_tup (pv 4) pe_int (fun _ _ => rfl))) (pg_name (i := 5) nd rfl (Or.inl rfl)) (pss_one (ps_dput hu (pv 3) (pv 5) pe_bl (by rfl))))) pss_nil)))
      (pss_one (ps_ret (pe_lc (own := [("node", 4)]) (g := gName 4) rfl nd (pi_list (pv 2)) (blkOk_by (N := srsN) (sc := defScope sSrs) (by decide +kernel))
          (fun _ _ _ _ _ => pg_name (i := 4) nd rfl (Or.inl rfl))
          (fun _ _ _ _ _ => pts_one (PW.pt (pw_and (pt_cmp (pc_din (by exact hu) (pe_ix (ixT (K := K) rfl) (pv 4) pe_int (fun _ _ => rfl)) (pv 3)) (by rfl)) (pw_and1 (pt_cmpR (op_in_seqK (K := K) rfl) (pe_ix (ixT (K := K) rfl) (pv 4) pe_int (fun _ _ => rfl)) (pe_glob (v := .ref pS) rfl gS rfl) (by rfl))))))
          (fun _ _ _ _ _ => pe_ix (ixT (K := K) rfl) (pv 4) pe_int (fun _ _ => rfl)))))))), ?_⟩
    obtain ⟨dx, v, h1, h2⟩ := ha.at_
    refine ⟨_, rfl, _, rfl, a, dx, _, rfl, h1, ⟨a, pd, ns, x, d, rfl, ha, hx, _, rfl, _, rfl, ?_⟩⟩
    cases hn : hasName ns d with
    | false => exact ⟨_, rfl, _, rfl, fun dd nd' => qe hn dd nd'⟩
    | true =>
      have hz : ∃ z, d = .str z := by
        cases d with
        | str z => exact ⟨z, rfl⟩
        | _ => cases hn
      obtain ⟨z, rfl⟩ := hz
      cases hx
      refine ⟨_, rfl, nodes_of_net ha.net fun l xs H1 s1 nl hl hz hds => ?_⟩
      have hds1 := hds.same newOf_same
      have hlen : xs.length = ns.length := by rw [hds.length, List.length_map]
      have hw := ha.wired
      have hl30 : xs.length ≤ 30 := by rw [hlen]; exact ha.few
      refine fun RD nRD => ?_
      refine ⟨_, rfl, upd_same, [(.inr z, .bl true)], rfl, by show 1 ≤ 15; decide, Dr.name_of ?_⟩
      have e0 : upd (upd H1 RD (.dK [])) RD (.dK (mergeK [] [((.inr z : Key), V.bl true)])) = upd H1 RD (.dK [(.inr z, .bl true)]) := by
        funext b
        by_cases e : b = RD
        · subst e
          rw [upd_same, upd_same]
          rfl
        · rw [upd_ne e, upd_ne e, upd_ne e]
      rw [e0]
      have s2 : Same H1 (upd H1 RD (.dK [(.inr z, .bl true)])) := same_upd nRD
      have hR2 : upd H1 RD (.dK [(.inr z, .bl true)]) RD = some (.dK [(.inr z, .bl true)]) := upd_same
      generalize upd H1 RD (.dK [(.inr z, .bl true)]) = H2 at *
      refine ⟨_, rfl, l, xs, rfl, SqL.of (s2 _ _ hl), fun l2 nl2 => ⟨l2, rfl, ⟨_, SqL.of upd_same⟩, ?_⟩⟩
      have s3 : Same H2 (upd H2 l2 (.lst xs.reverse)) := same_upd nl2
      have hl23 : upd H2 l2 (.lst xs.reverse) l2 = some (.lst xs.reverse) := upd_same
      have l2R : l2 ≠ RD := fun e => by
        rw [e, hR2] at nl2
        cases nl2
      generalize upd H2 l2 (.lst xs.reverse) = H3 at *
      have s13 := s2.trans s3
      have hdr : DvAll K H1 xs.reverse (ns.reverse.map Nd.dat) := by
        have := hds1.reverse
        rw [← List.map_reverse] at this
        exact this
      have lR : ∀ {b : Addr} {o : HO}, H1 b = some o → b ≠ RD := fun {b o} e => ne_of_none e nRD
      refine for_list (xs := xs.reverse) (fun i σ H' => ∃ (z4 z5 : Option V) (kvs : List (Key × V)), σ = [some (.ref a), some (.str z), some (.ref l), some (.ref RD), z4, z5] ∧ Same (hid RD H3) H' ∧ H' RD = some (.dK kvs) ∧ Holds kvs (readBy [z] (ns.reverse.take i)) ∧ (readBy [z] (ns.reverse.take i)).length ≤ 1 + 10 * i)
        ⟨none, none, [(.inr z, .bl true)], rfl, hid_same, s3 _ _ hR2, ⟨Nat.le_refl _, fun y => ?_⟩, by show 1 ≤ 1 + 10 * 0; decide⟩ (fun i σ H' _ p => ?_) (fun i x σ H' hi p => ?_) (fun σ H' p => ?_)
      · show valV [((.inr z : Key), V.bl true)] (.inr y) = if y ∈ [z] then some (.bl true) else none
        by_cases e : y = z
        · subst e
          rw [if_pos (List.mem_singleton.mpr rfl)]
          exact valV_pos rfl
        · rw [if_neg (by rw [List.mem_singleton]; exact e), valV_neg (fun q => e (Sum.inr.inj q).symm)]
          rfl
      · obtain ⟨z4, z5, kvs, rfl, sm, _⟩ := p
        exact SqL.of (sm _ _ (by rw [hid_ne l2R]; exact hl23))
      · obtain ⟨z4, z5, kvs, rfl, sm, hR, hk, hzl⟩ := p
        obtain ⟨n, t, l3, y3, en, rfl, ht1, hl3, _⟩ := node_at hdr hi
        have ht := sm _ _ (show hid RD H3 t = _ by rw [hid_ne (lR ht1)]; exact s13 _ _ ht1)
        have hl3' := sm _ _ (show hid RD H3 l3 = _ by rw [hid_ne (lR hl3)]; exact s13 _ _ hl3)
        have il : i < 30 := by
          have h1 := (List.getElem?_eq_some_iff.mp hi).1
          rw [List.length_reverse] at h1
          omega
        have mem : n ∈ ns := List.mem_reverse.mp (List.mem_of_getElem? en)
        have l10 := (wired_node hw mem).2
        have tk : ns.reverse.take (i + 1) = ns.reverse.take i ++ [n] := take_at en
        have g : DGet H' RD (.str n.name) (if n.name ∈ readBy [z] (ns.reverse.take i) then some (.bl true) else none) := by
          have := DGet.k (k := .inr n.name) hR
          rwa [hk.2] at this
        refine ⟨.ref t, rfl, t, _, _, _, rfl, rfl, SqT.of ht, atI_nat (j := 0) rfl, _, rfl, RD, _, rfl, g, _, rfl, ?_⟩
        by_cases m : n.name ∈ readBy [z] (ns.reverse.take i)
        · rw [if_pos m]
          refine yes_if rfl ?_
          refine ⟨.ref t, rfl, t, _, _, _, rfl, rfl, SqT.of ht, atI_nat (j := 3) rfl, l3, rfl, ⟨_, SqL.of hl3'⟩, ?_⟩
          refine for_list (xs := n.ins.map V.str) (fun j σ Hj => ∃ (z5 : Option V) (kvs : List (Key × V)), σ = [some (.ref a), some (.str z), some (.ref l), some (.ref RD), some (.ref t), z5] ∧ Same (hid RD H3) Hj ∧ Hj RD = some (.dK kvs) ∧ Holds kvs (readBy [z] (ns.reverse.take i) ++ n.ins.take j))
            ⟨z5, kvs, rfl, sm, hR, by simpa using hk⟩ (fun j σ Hj _ p => ?_) (fun j x σ Hj hj p => ?_) (fun σ Hj p => ?_)
          · obtain ⟨z5, kvs, rfl, sj, _⟩ := p
            exact SqL.of (sj _ _ (show hid RD H3 l3 = _ by rw [hid_ne (lR hl3)]; exact s13 _ _ hl3))
          · obtain ⟨z5, kvs, rfl, sj, hj2, hk2⟩ := p
            rw [List.getElem?_map] at hj
            obtain ⟨y, ey, rfl⟩ := Option.map_eq_some_iff.mp hj
            refine ⟨_, rfl, _, rfl, RD, _, rfl, .inl ⟨kvs, .inr y, hj2, rfl, ?_, rfl⟩, _, _, rfl, fun b o e => ?_, upd_same, ?_⟩
            · have h1 := hk2.1
              rw [List.length_append, List.length_take] at h1
              exact Nat.lt_of_le_of_lt (by omega : kvs.length ≤ 1000) (by decide)
            · rw [upd_ne (hid_of e).1]
              exact sj _ _ e
            · rw [List.take_add_one, ey, ← List.append_assoc]
              exact hk2.put y
          · obtain ⟨z5, kvs, rfl, sj, hj2, hk2⟩ := p
            rw [List.length_map, List.take_length] at hk2
            refine ⟨_, _, kvs, rfl, sj, hj2, ?_, ?_⟩
            · rw [tk, readBy_snoc, if_pos m]
              exact hk2
            · rw [tk, readBy_snoc, if_pos m, List.length_append]
              omega
        · rw [if_neg m]
          refine no_if rfl ?_
          refine ⟨_, _, kvs, rfl, sm, hR, ?_, ?_⟩
          · rw [tk, readBy_snoc, if_neg m]
            exact hk
          · rw [tk, readBy_snoc, if_neg m]
            omega
      · obtain ⟨z4, z5, kvs, rfl, sm, hR, hk, _⟩ := p
        have lr : xs.reverse.length = ns.reverse.length := by rw [List.length_reverse, List.length_reverse, hlen]
        rw [lr, List.take_length] at hk
        have sH : Same H1 H' ∨ True := .inr trivial
        have key : ∀ {b : Addr} {o : HO}, H1 b = some o → H' b = some o := fun {b o} e => sm _ _ (by rw [hid_ne (lR e)]; exact s13 _ _ e)
        refine ⟨_, rfl, l, rfl, ⟨_, SqL.of (key hl)⟩, fun D2 nD2 => ?_⟩
        refine lc_filtW (walk_list (xs := xs)) (fun i => (ns[i]?).bind fun n => if (decide (n.name ∈ readOf ns z) && decide (n.kind ∈ sources)) = true then some (V.str n.name) else none) nD2 (Nat.lt_of_le_of_lt hl30 (by decide)) (fun H3 s' => SqL.of (s' _ _ (key hl))) (fun i x H3 H4 Q2 N2 hi s4 y k1 k2 => ?_) (fun H4 s4 e4 => ?_)
        · obtain ⟨rfl, hx⟩ := y
          obtain ⟨n, b, l2, y3, en, rfl, hb, hl2, _⟩ := node_at hds1 hx
          have hb' := s4 _ _ (key hb)
          have g : DGet H4 RD (.str n.name) (if n.name ∈ readOf ns z then some (.bl true) else none) := by
            have := DGet.k (k := .inr n.name) (s4 _ _ hR)
            rwa [hk.2] at this
          rw [en] at k1 k2
          refine ⟨rfl, .ref b, rfl, b, _, _, _, rfl, rfl, SqT.of hb', atI_nat (j := 0) rfl, _, rfl, RD, _, rfl, g, _, rfl, ?_⟩
          by_cases m : n.name ∈ readOf ns z
          · rw [if_pos m]
            refine yes_if rfl ?_
            refine ⟨.ref b, rfl, b, _, _, _, rfl, rfl, SqT.of hb', atI_nat (j := 1) rfl, pS, _, rfl, .inr (tS.seq _), rfl, flat_strs sources, _, rfl, ?_⟩
            by_cases m2 : n.kind ∈ sources
            · refine iteE (b := true) ?_ ?_
              · exact (in_strs n.kind sources).trans (decide_eq_true m2)
              · refine ⟨.ref b, rfl, b, _, _, _, rfl, rfl, SqT.of hb', atI_nat (j := 0) rfl, k1 _ _ ?_ (Same.refl _)⟩
                show (if (decide _ && decide _) = true then some (V.str n.name) else none) = _
                rw [decide_eq_true m, decide_eq_true m2]
                rfl
            · refine iteE (b := false) ?_ ?_
              · exact (in_strs n.kind sources).trans (decide_eq_false m2)
              · refine k2 _ ?_ (Same.refl _)
                show (if (decide _ && decide _) = true then some (V.str n.name) else none) = _
                rw [decide_eq_true m, decide_eq_false m2]
                rfl
          · rw [if_neg m]
            refine no_if rfl ?_
            refine k2 _ ?_ (Same.refl _)
            show (if (decide _ && decide _) = true then some (V.str n.name) else none) = _
            rw [decide_eq_false m]
            rfl
        · rw [hlen, filterMap_range ns, srcs_is] at e4
          have nk : H1 D2 = none := by
            cases e : H1 D2 with
            | none => rfl
            | some o =>
              rw [key e] at nD2
              cases nD2
          refine q z rfl hn D2 H4 (fun b o e => s4 _ _ (key (s1 _ _ e))) ?_ e4
          cases e : H D2 with
          | none => rfl
          | some o =>
            rw [s1 _ _ e] at nk
            cases nk
theorem ok_srs (M : HasM P w K mg base C) (R : PySem.ErrX.ErrTxt K mg "InvalidName" "name" CI fI) (gS : mg "SOURCES" = some (.ref pS)) (tS : TupK K pS (sources.map V.str)) (N : NetCls P w K mg base C) (D : Dfn K mg "sources_of" sSrs ["net", "name"]) : DefOk P w K mg base (L2.CX P w) 12 "sources_of" ["net", "name"] (spSrs K C CI) := D.ok fun f fd F => fn_srs M R gS tS N F
end
end Pw
set_option maxHeartbeats 2000000
/-! the sources below a node: two ways to find them -/
namespace Pw
open PySem PySem.Spec PyProof.Rows L2
inductive Reach (ns : List Nd) : Str → Str → Prop
  | refl {z : Str} : Reach ns z z
  | head {n : Nd} {y z : Str} : n ∈ ns → y ∈ n.ins → Reach ns y z → Reach ns n.name z
theorem Reach.trans {ns : List Nd} {x y z : Str} (h : Reach ns x y) (k : Reach ns y z) : Reach ns x z := by
  induction h with
  | refl => exact k
  | head m i _ ih => exact .head m i (ih k)
theorem Reach.split {ns : List Nd} {x z : Str} (h : Reach ns x z) : x = z ∨ ∃ n ∈ ns, n.name = x ∧ ∃ y ∈ n.ins, Reach ns y z := by
  cases h with
  | refl => exact .inl rfl
  | head a b c => exact .inr ⟨_, a, rfl, _, b, c⟩
def Back : List Nd → Prop
  | [] => True
  | n :: r => (∀ m ∈ r, n.name ∉ m.ins) ∧ Back r
theorem back_of {ns : List Nd} (w : Wired [] ns) : ∀ k, Back (ns.take k).reverse
  | 0 => trivial
  | k + 1 => by
    cases e : ns[k]? with
    | none =>
      have : ns.take (k + 1) = ns.take k := by
        rw [List.take_add_one, e]
        simp
      rw [this]
      exact back_of w k
    | some n =>
      rw [take_at e, List.reverse_append]
      refine ⟨fun m hm h => ?_, back_of w k⟩
      have hm : m ∈ ns.take k := List.mem_reverse.mp hm
      have w2 := wired_pre (pre := ns.take k) (suf := ns.drop k) (by rw [List.take_append_drop]; exact w)
      have := wired_ins w2 hm h
      rw [List.nil_append] at this
      exact (wired_at w e).1 this
theorem read_facts : ∀ (ms : List Nd) (zs : List Str), Back ms → (∀ z ∈ zs, z ∈ readBy zs ms) ∧ (∀ y ∈ readBy zs ms, y ∈ zs ∨ ∃ m ∈ ms, y ∈ m.ins) ∧ ∀ m ∈ ms, m.name ∈ readBy zs ms → ∀ y ∈ m.ins, y ∈ readBy zs ms
  | [], zs, _ => ⟨fun z h => h, fun y h => .inl h, fun m h => absurd h (by simp)⟩
  | n :: r, zs, b => by
    obtain ⟨i1, i2, i3⟩ := read_facts r (if n.name ∈ zs then zs ++ n.ins else zs) b.2
    have e : readBy zs (n :: r) = readBy (if n.name ∈ zs then zs ++ n.ins else zs) r := rfl
    rw [e]
    by_cases h : n.name ∈ zs
    · rw [if_pos h] at i1 i2 i3 ⊢
      refine ⟨fun z hz => i1 z (List.mem_append_left _ hz), fun y hy => ?_, fun m hm hy y hi => ?_⟩
      · rcases i2 y hy with hy | ⟨m, hm, hy⟩
        · rcases List.mem_append.mp hy with hy | hy
          · exact .inl hy
          · exact .inr ⟨n, List.mem_cons_self, hy⟩
        · exact .inr ⟨m, List.mem_cons_of_mem _ hm, hy⟩
      · rcases List.mem_cons.mp hm with rfl | hm
        · exact i1 y (List.mem_append_right _ hi)
        · exact i3 m hm hy y hi
    · rw [if_neg h] at i1 i2 i3 ⊢
      refine ⟨i1, fun y hy => ?_, fun m hm hy y hi => ?_⟩
      · rcases i2 y hy with hy | ⟨m, hm, hy⟩
        · exact .inl hy
        · exact .inr ⟨m, List.mem_cons_of_mem _ hm, hy⟩
      · rcases List.mem_cons.mp hm with rfl | hm
        · rcases i2 _ hy with hy | ⟨k, hk, hy⟩
          · exact absurd hy h
          · exact absurd hy (b.1 k hk)
        · exact i3 m hm hy y hi
theorem read_sound (ns : List Nd) (x : Str) : ∀ (ms : List Nd) (zs : List Str), (∀ m ∈ ms, m ∈ ns) → (∀ z ∈ zs, Reach ns x z) → ∀ y ∈ readBy zs ms, Reach ns x y
  | [], zs, _, h => h
  | n :: r, zs, hm, h => by
    refine read_sound ns x r _ (fun m h => hm m (List.mem_cons_of_mem _ h)) fun z hz => ?_
    by_cases e : n.name ∈ zs
    · rw [if_pos e] at hz
      rcases List.mem_append.mp hz with hz | hz
      · exact h z hz
      · exact (h _ e).trans (.head (hm n List.mem_cons_self) hz .refl)
    · rw [if_neg e] at hz
      exact h z hz
theorem read_iff {ns : List Nd} (w : Wired [] ns) (x y : Str) : y ∈ readOf ns x ↔ Reach ns x y := by
  have b : Back ns.reverse := by
    have := back_of w ns.length
    rw [List.take_length] at this
    exact this
  obtain ⟨i1, i2, i3⟩ := read_facts ns.reverse [x] b
  constructor
  · exact read_sound ns x ns.reverse [x] (fun m h => List.mem_reverse.mp h) (fun z hz => by rw [List.mem_singleton.mp hz]; exact .refl) y
  · intro h
    have : ∀ u v, Reach ns u v → u ∈ readBy [x] ns.reverse → v ∈ readBy [x] ns.reverse := by
      intro u v h
      induction h with
      | refl => exact fun h => h
      | head m i _ ih => exact fun h => ih (i3 _ (List.mem_reverse.mpr m) h _ i)
    exact this x y h (i1 x (List.mem_singleton.mpr rfl))
theorem wired_inj {ns : List Nd} (w : Wired [] ns) {n m : Nd} (hn : n ∈ ns) (hm : m ∈ ns) (e : n.name = m.name) : n = m := by
  obtain ⟨i, hi, rfl⟩ := List.getElem_of_mem hn
  obtain ⟨j, hj, rfl⟩ := List.getElem_of_mem hm
  have h1 := (wired_at w (List.getElem?_eq_getElem hi)).1
  have h2 := (wired_at w (List.getElem?_eq_getElem hj)).1
  by_cases l : i < j
  · exact absurd (List.mem_map.mpr ⟨ns[i], List.mem_take_iff_getElem.mpr ⟨i, by omega, rfl⟩, e⟩) h2
  · by_cases l2 : j < i
    · exact absurd (List.mem_map.mpr ⟨ns[j], List.mem_take_iff_getElem.mpr ⟨j, by omega, rfl⟩, e.symm⟩) h1
    · have : i = j := by omega
      subst this
      rfl
/-- roots are the reachable nodes without inputs -/
theorem roots_iff {ns : List Nd} (w : Wired [] ns) {f : Str → List Str} (hf : ∀ n ∈ ns, f n.name = rootEq f n) : ∀ (i : Nat) (n : Nd), ns[i]? = some n → ∀ z, z ∈ f n.name ↔ (Reach ns n.name z ∧ ∃ m ∈ ns, m.name = z ∧ m.ins = []) := by
  intro i
  induction i using Nat.strongRecOn with
  | _ i ih =>
    intro n en z
    have mem := List.mem_of_getElem? en
    rw [hf n mem]
    unfold rootEq
    rw [List.mem_append, List.mem_flatMap]
    constructor
    · rintro (h | ⟨y, hy, h⟩)
      · by_cases e : n.ins = []
        · rw [if_pos e] at h
          rw [List.mem_singleton.mp h]
          exact ⟨.refl, n, mem, rfl, e⟩
        · rw [if_neg e] at h
          cases h
      · obtain ⟨m, hm, e⟩ := List.mem_map.mp ((wired_at w en).2 y hy)
        obtain ⟨j, hj, e2⟩ := List.mem_take_iff_getElem.mp hm
        have := (ih j (by omega) m (by rw [List.getElem?_eq_getElem (by omega), e2]) z).mp (by rw [e]; exact h)
        rw [e] at this
        exact ⟨.head mem hy this.1, this.2⟩
    · rintro ⟨h, m, hm, em, ei⟩
      rcases h.split with e | ⟨n2, h1, e, y, h2, h3⟩
      · have := wired_inj w hm mem (em.trans e.symm)
        subst this
        left
        rw [if_pos ei]
        exact List.mem_singleton.mpr em.symm
      · have := wired_inj w h1 mem e
        subst this
        right
        obtain ⟨k, hk, e2⟩ := List.mem_map.mp ((wired_at w en).2 y h2)
        obtain ⟨j, hj, e3⟩ := List.mem_take_iff_getElem.mp hk
        refine ⟨y, h2, ?_⟩
        have := (ih j (by omega) k (by rw [List.getElem?_eq_getElem (by omega), e3]) z).mpr ⟨by rw [e2]; exact h3, m, hm, em, ei⟩
        rw [e2] at this
        exact this
theorem source_iff {n : Nd} (h : isNode n.dat = true) : n.kind ∈ sources ↔ n.ins = [] := by
  have h0 : (isName (.str n.name) && ((kindsL.lookup n.kind).isSome && (areParams n.kind (.tuple n.ps) && areInputs n.kind (.list (n.ins.map PyData.str))))) = true := h
  rw [Bool.and_eq_true, Bool.and_eq_true, Bool.and_eq_true] at h0
  obtain ⟨a1, a2, a3, a4⟩ := h0
  have a4 : (decide ((inRange n.kind).1 ≤ ((n.ins.map PyData.str).length : Nat)) && decide (((n.ins.map PyData.str).length : Int) ≤ (inRange n.kind).2) && (n.ins.map PyData.str).all isName) = true := a4
  rw [Bool.and_eq_true, Bool.and_eq_true, List.length_map] at a4
  have b1 := of_decide_eq_true a4.1.1
  have b2 := of_decide_eq_true a4.1.2
  constructor
  · intro m
    have e : inRange n.kind = (0, 0) := if_pos m
    rw [e] at b2
    have b2 : (n.ins.length : Int) ≤ 0 := b2
    exact List.eq_nil_of_length_eq_zero (by omega)
  · intro e
    rw [e] at b1
    refine Classical.byContradiction fun m => ?_
    have b1 : (inRange n.kind).1 ≤ 0 := b1
    have : 1 ≤ (inRange n.kind).1 := by
      unfold inRange
      rw [if_neg m]
      by_cases e1 : n.kind = "choose"
      · rw [if_pos e1]
        decide
      · rw [if_neg e1]
        by_cases e2 : n.kind ∈ joins
        · rw [if_pos e2]
          decide
        · rw [if_neg e2]
          decide
    omega
/-- the law's way and the program's way agree -/
theorem due_is {ns : List Nd} (w : Wired [] ns) {f : Str → List Str} (hf : ∀ n ∈ ns, f n.name = rootEq f n) {n : Nd} (hn : n ∈ ns) : (ns.filter fun m => decide (m.name ∈ f n.name)).map (·.name) = srcs ns n.name := by
  unfold srcs
  congr 1
  refine List.filter_congr fun m hm => ?_
  obtain ⟨i, hi, rfl⟩ := List.getElem_of_mem hn
  have r := roots_iff w hf i _ (List.getElem?_eq_getElem hi) m.name
  have rd := read_iff w ns[i].name m.name
  have so := source_iff (wired_node w hm).1
  rw [Bool.eq_iff_iff, Bool.and_eq_true, decide_eq_true_eq, decide_eq_true_eq, decide_eq_true_eq, r, rd, so]
  constructor
  · rintro ⟨h, k, hk, ek, ei⟩
    have := wired_inj w hk hm ek
    subst this
    exact ⟨h, ei⟩
  · rintro ⟨h, ei⟩
    exact ⟨h, m, hm, rfl, ei⟩
end Pw
set_option maxHeartbeats 2000000
/-! own [] -/
namespace Own
open PySem PySem.Spec PyProof.Rows L2
section
variable {X : Cx} {CX : CXT} {k : Nat} {C f : Addr} {fd : FuncData} {ps : List Str} {sp : Sp} {E : XK}
def rIxOwn (C : Addr) (sp : Sp) (E : XK) : R2 := fun x y H Q => ∃ (p dx : Addr) (fs : List (Str × V)), x = .ref p ∧ H p = some (.ins C dx fs) ∧ sp [.ref p, y] H Q E
theorem pe_ixOwn {a b : Expr} {ta tb : TE} {pos : Pos} (m : Meth X.K C "__getitem__" f) (hfn : PySem.W.fnIn X.K f = true) (F : FnOk X.prog X.w X.K X.mg X.base CX k f fd ps sp) (hr : Room (k + 1) X.A) (hb : Binds X.K fd ps []) (hx : Passes CX X E) (ha : PE X a ta) (hb' : PE X b tb)
    (hsl : ∀ x i, subscripted b true (.ref x) i = runValue (.builtin "lifetime.subscript" ⟨[.ref x, i], []⟩) := by intro _ _; with_unfolding_all rfl) : PE X (.Subscript a b pos) (tOp (rIxOwn C sp E) ta tb) := by
  refine ⟨fun pins s σ H Q I h => ?_⟩
  refine Subscript_ (binT ha hb' I h fun v u s2 x y H2 I2 rx ry q => ?_)
  obtain ⟨p, dx, fs, rfl, hp, q⟩ := q
  cases rx
  obtain ⟨mA, J, _⟩ := ins_get I2.hok hp
  obtain ⟨od, J, _⟩ := J.look
  have hf := hfn
  unfold PySem.W.fnIn at hf
  split at hf
  · rename_i e
    unfold subscriptTail getitemInPython
    refine wpAny_bind (wpAny_bind (wpAny_bind (J.type.here ((PySem.W.looks_findIn I2.kIn m.at_).here ?_))))
    dsimp only
    refine wpAny_bind (wpAny_load (I2.kIn _ _ e) (wpAny_pure ?_))
    dsimp only
    rw [hsl]
    refine wpAny_bind (wpAny_runValue (codeAny_builtin PySem.W.entry_sub ?_))
    unfold Builtin.«lifetime.subscript»
    refine wpAny_bind (PySem.W.special_fn I2.kIn J m.at_ (beq_iff_eq.mp m.fn) (wpAny_mono (run_at (us := [.ref p, u]) (vs := [.ref p, y]) F hr.in1 rfl hb hx I2 (.cons rfl (.cons ry .nil)) q) (fun v s' z => ?_) fun _ _ z => z))
    refine wpAny_pure ?_
    exact wpAny_bind (wpAny_letTemporaryGo (wpAny_pure z))
  · cases hf
end
end Own
namespace Pw
open PySem PySem.Spec PyProof.Rows L2 Own Dc
abbrev sNetGet : Stmt := netM 4
theorem scNetGet : FnScope ["self", "name"] ["self", "name"] (defScope sNetGet) := ⟨rfl, rfl, rfl, by decide +kernel, rfl, by decide +kernel, by decide +kernel⟩
theorem places_at : ∀ (ns : List Nd) (k : Nat) (seen : List Str) {n : Nd} {i : Nat}, Wired seen ns → ns[i]? = some n → (placesN k ns).lookup n.name = some ((k + i : Nat) : Int)
  | [], k, seen, n, i, w, e => by simp at e
  | m :: r, k, seen, n, 0, w, e => by
    have e : m = n := by simpa using e
    subst e
    show List.lookup m.name ((m.name, (k : Int)) :: _) = _
    rw [List.lookup_cons, beq_self_eq_true]
    rfl
  | m :: r, k, seen, n, i + 1, w, e => by
    have e : r[i]? = some n := by simpa using e
    cases w with
    | cons h1 h2 h3 h4 h5 =>
      have ih := places_at r (k + 1) _ h5 e
      show List.lookup n.name ((m.name, (k : Int)) :: placesN (k + 1) r) = _
      have ne : n.name ≠ m.name := by
        have mem := List.mem_of_getElem? e
        intro q
        obtain ⟨pre, post, hsplit⟩ := List.append_of_mem mem
        subst hsplit
        have w2 := wired_split h5
        cases w2 with
        | cons g1 _ _ _ _ =>
          refine g1 ?_
          rw [q]
          exact List.mem_append_left _ (List.mem_append_right _ (List.mem_singleton.mpr rfl))
      rw [List.lookup_cons, beq_eq_false_iff_ne.mpr ne, ih, show k + 1 + i = k + (i + 1) by omega]
section
variable {P : Program} {w : World} {K : PySem.W.Frag} {mg : Str → Option Value} {base : Heap} {C CI fI : Addr}
def spGet (K : PySem.W.Frag) (C CI : Addr) : Sp := fun vs H Q E => ∃ (a pd : Addr) (ns : List Nd) (x : V) (d : PyData), vs = [.ref a, x] ∧ NetF K H C a pd ns ∧ Dv K H x d ∧
  (hasName ns d = false → ∀ dd, H dd = none → E (.ref CI) (some dd) (upd H dd (.xd [("name", x)]))) ∧
  ∀ n ∈ ns, d = .str n.name → ∀ (y : V) (H' : Hp), Same H H' → Dv K (newOf H H') y n.dat → Q y H'
theorem fn_get (c : Cls K C) (n1 : NoAttr K C "_nodes") (n2 : NoAttr K C "_places") (M : HasM P w K mg base C) (R : PySem.ErrX.ErrTxt K mg "InvalidName" "name" CI fI) (GC : DefOk P w K mg base CX0 10 "copied" ["value"] (spCopied K 10)) {f : Addr} {fd : FuncData} (F : Fun K "__getitem__" "Net.__getitem__" sNetGet f fd) : FnOk P w K mg base (L2.CX P w) 11 f fd ["self", "name"] (spGet K C CI) := by
  refine F.okX scNetGet (fun vs H Q E h => ?_) (fun cdv A outer s H vs Q E hr h => ?_)
  · obtain ⟨a, pd, ns, x, d, rfl, _⟩ := h
    rfl
  · obtain ⟨a, pd, ns, x, d, rfl, ha, hx, qe, q⟩ := h
    have nd := scNetGet.nd
    have hu := Nat.lt_of_le_of_lt (Nat.add_le_add_left (by decide : 1 ≤ 64) _) hr.units
    obtain ⟨f1, fd1, m1, F1, b1⟩ := M.has
    refine ⟨_, pss_cons (ps_if (pt_cmpR (op_ninOwn m1 F1 (hr.mono (by decide)) b1 pass0) (pv 1) (pv 0) (by rfl)) (pss_one (ps_raiseErr (W := fun cls d _ H => E cls d H) rfl R hr (L2.takes_of rfl rfl rfl rfl) (by exact (pa_cons (pv 1) pa_nil)))) pss_nil)
      (pss_one (ps_ret (pe_def GC hr pass0 (pa_cons (pe_ix ix_list (pe_fld (pv 0) (by rfl)) (pe_dget hu (pe_fld (pv 0) (by rfl)) (pv 1) (fun _ _ => rfl)) (fun _ _ => rfl)) pa_nil)))), ?_⟩
    obtain ⟨dx, v, h1, h2⟩ := ha.at_
    refine ⟨_, rfl, _, rfl, a, dx, _, rfl, h1, ⟨a, pd, ns, x, d, rfl, ha, hx, _, rfl, _, rfl, ?_⟩⟩
    cases hn : hasName ns d with
    | false => exact ⟨_, rfl, _, rfl, fun dd nd' => qe hn dd nd'⟩
    | true =>
      have hz : ∃ z, d = .str z := by
        cases d with
        | str z => exact ⟨z, rfl⟩
        | _ => cases hn
      obtain ⟨z, rfl⟩ := hz
      cases hx
      obtain ⟨n, hm, e⟩ := List.any_eq_true.mp (show (ns.any fun n => decide (n.name = z)) = true from hn)
      have e : n.name = z := of_decide_eq_true e
      subst e
      obtain ⟨i, hi, en⟩ := List.getElem_of_mem hm
      have pl := places_at ns 0 [] ha.wired (by rw [List.getElem?_eq_getElem hi, en])
      rw [Nat.zero_add] at pl
      have g := DGet.k (k := .inr n.name) ha.pl
      rw [valV_words, pl] at g
      cases h2 with
      | @lst l xs _ hl hlz hds =>
        have hlen : xs.length = ns.length := by rw [hds.length, List.length_map]
        obtain ⟨d2, ed, dw⟩ := hds.getV (i := i) (v := xs[i]'(by omega)) (List.getElem?_eq_getElem (by omega))
        rw [List.getElem?_map, List.getElem?_eq_getElem hi, en] at ed
        cases ed
        refine ⟨_, rfl, a, C, dx, _, .ref l, rfl, h1, c, n1, rfl, _, rfl, a, C, dx, _, .ref pd, rfl, h1, c, n2, rfl, _, rfl, pd, _, rfl, g, l, xs, _, _, rfl, rfl, SqL.of hl, atI_nat (List.getElem?_eq_getElem (by omega)), _, _, rfl, dw, dp_le (dp_node (wired_node ha.wired hm).1) (by decide), fun y H' s' dv => q n hm rfl y H' s' dv⟩
end
end Pw
set_option maxHeartbeats 2000000
namespace Pw
open PySem PySem.Spec PyProof.Rows L2
/-! ### a call by keywords alone -/
structure DefKw (P : Program) (w : World) (K : PySem.W.Frag) (mg : Str → Option Value) (base : Heap) (CX : CXT) (k : Nat) (x : Str) (ps ks : List Str) (g : {α : Type} → List α → List α) (sp : Sp) : Prop where
  ex : ∃ (f : Addr) (fd : FuncData), mg x = some (.ref f) ∧ PySem.W.keepIn K (.ref f) = true ∧ (∀ (s : Shared) (us : List Value), us.length = ks.length → BindsTo s fd ⟨[], ks.zip us⟩ (ps.zip (g us))) ∧ (∀ {vs : List V} {us : List Value}, Vals vs us → Vals (g vs) (g us)) ∧ (∀ us : List Value, us.length = ks.length → (g us).length = ps.length) ∧ FnOk P w K mg base CX k f fd ps sp
def tKw (sp : Sp) (n : Nat) (g : {α : Type} → List α → List α) (E : XK) (tk : TA) : TE := fun σ H Q => tk σ H fun zs H1 => zs.length = n ∧ sp (g zs) H1 Q E
theorem pe_kw {X : Cx} {CX : CXT} {j k : Nat} {x : Str} {ps ks : List Str} {g : {α : Type} → List α → List α} {sp : Sp} {E : XK} {kws : List Keyword} {p pos : Pos} {tk : TA} (D : DefKw X.prog X.w X.K X.mg X.base CX j x ps ks g sp) (hr : Room k X.A) (hx : Passes CX X E) (hkw : PK X kws tk) (hk : j ≤ k := by decide) (hg : Gl X x := by rfl)
    (hall : (backToKw pos (keywordEach kws X.env)).all (·.1.isSome) = true := by rfl) (hks : (backToKw pos (keywordEach kws X.env)).filterMap (·.1) = ks := by rfl) (hdb : (x == ("__debug__" : Str)) = false := by decide)
    (hpl : ((backTo pos (starEach [] X.env)).any (·.1) || (backToKw pos (keywordEach kws X.env)).any (·.1.isNone)) = false := by rfl) :
    PE X (.Call (.Name x p) [] kws pos) (tKw sp ks.length g E tk) := by
  obtain ⟨f, fd, gf, kp, bd, rel, lg, F⟩ := D.ex
  refine ⟨fun pins s σ H Q I h => wpAny_Call_Name_kw (ld_glob I hg gf ?_ hdb)⟩
  refine PySem.W.callWith_KW0 (h₀ := X.base) I.ok.mod.kin kp hall (thn (hkw.run pos pins s σ H _ I h) fun us s2 q => ?_) hpl
  obtain ⟨zs, H2, I2, r, len, q⟩ := q
  refine ⟨I2.kIn, ?_⟩
  rw [hks]
  have lu : us.length = ks.length := by
    rw [← r.length]
    exact len
  show wpAny _ _ (call (.ref f) [] (ks.zip us)) _ _ _
  refine wpAny_call (codeAny_mono (F.run X.A X.stack s2 H2 ⟨[], ks.zip us⟩ (g us) (g zs) Q E (hr.mono hk) I2.env0 (bd s2 us lu) (rel r) q) fun res s' out => ?_)
  cases res with
  | error e => exact hx pins σ H2 s2 e s' I2 out
  | ok fl =>
    cases fl with
    | ret u => exact I2.after out
    | next => exact False.elim out
    | brk => exact False.elim out
    | cont => exact False.elim out
end Pw
set_option maxHeartbeats 8000000
/-! _law_each_right -/
namespace Pw
open PySem PySem.Spec PyProof.Rows L2 Dc Own
abbrev sEach : Stmt := topS 72
abbrev eachN : List Str := ["_law_mesh", "_law_list_of", "_law_roots", "_law_node", "_law_one_here", "_law_due"]
theorem scEach : FnScope eachN ["_law_mesh", "_law_list_of", "_law_roots"] (defScope sEach) := ⟨rfl, rfl, rfl, by decide +kernel, rfl, by decide +kernel, by decide +kernel⟩
structure Srs2 (P : Program) (w : World) (K : PySem.W.Frag) (mg : Str → Option Value) (base : Heap) (C CI : Addr) : Prop where
  G : DefOk P w K mg base (L2.CX P w) 12 "sources_of" ["net", "name"] (spSrs K C CI)
  KW : DefKw P w K mg base (L2.CX P w) 12 "sources_of" ["net", "name"] ["name", "net"] List.reverse (spSrs K C CI)
  get : ∃ f fd, Meth K C "__getitem__" f ∧ PySem.W.fnIn K f = true ∧ FnOk P w K mg base (L2.CX P w) 11 f fd ["self", "name"] (spGet K C CI) ∧ Binds K fd ["self", "name"] []
theorem skip_if {tt : TT} {t r : TS} {D : Ends} {σ : L2.St} {H : Hp} (h : tt σ H fun b H1 => if b = true then t { D with nx := r D } σ H1 else r D σ H1) : tSeq (tIfS tt t tNext) r D σ H := h
theorem eqvT {d : PyData} {n : Nat} (h : okD n d = true) : (!PyData.eqv d d) = false := by
  rw [PySem.SeqAt.eqv_refl d (okD_lay n d h).1]
  rfl
theorem has_name {ns : List Nd} {n : Nd} (h : n ∈ ns) : hasName ns (.str n.name) = true := List.any_eq_true.mpr ⟨n, h, decide_eq_true rfl⟩
theorem srcs_names {ns : List Nd} (w : Wired [] ns) (z : Str) : ∀ y ∈ srcs ns z, isName (.str y) = true := fun y hy => by
  obtain ⟨m, hm, rfl⟩ := List.mem_map.mp hy
  exact (node_names (wired_node w (List.mem_filter.mp hm).1).1).1
theorem srcs_len (ns : List Nd) (z : Str) : (srcs ns z).length ≤ ns.length := by
  unfold srcs
  rw [List.length_map]
  exact List.length_filter_le _ _
section
variable {P : Program} {w : World} {K : PySem.W.Frag} {mg : Str → Option Value} {base : Heap} {C CI : Addr}
def spEach (K : PySem.W.Frag) (C : Addr) : Sp := fun vs H Q _ => ∃ (a pd DR : Addr) (x : V) (ns : List Nd) (f : Str → List Str), vs = [.ref a, x, .ref DR] ∧ NetF K H C a pd ns ∧ Dv K H x (.list (ns.map Nd.dat)) ∧ RootD H DR (ns.map (·.name)) f ∧ (∀ n ∈ ns, f n.name = rootEq f n) ∧ ∀ H', Same H H' → Q (.bl true) H'
theorem ok_each (B : Blt mg) (S : Srs2 P w K mg base C CI) (M : HasM P w K mg base C) (GSp : DefOk P w K mg base CX0 10 "_law_spoil" ["_law_value"] (spSpoil 10)) (D : Dfn K mg "_law_each_right" sEach ["_law_mesh", "_law_list_of", "_law_roots"]) : DefOk P w K mg base CX0 13 "_law_each_right" ["_law_mesh", "_law_list_of", "_law_roots"] (spEach K C) := D.ok fun f fd F => by
  refine F.ok scEach (fun vs H Q E h => ?_) (fun cdv A outer s H vs Q E hr h => ?_)
  · obtain ⟨a, pd, DR, x, ns, f, rfl, _⟩ := h
    rfl
  · obtain ⟨a, pd, DR, x, ns, fr, rfl, ha, hx, hR, hf, q⟩ := h
    have nd := scEach.nd
    have hu := Nat.lt_of_le_of_lt (Nat.add_le_add_left (by decide : 1 ≤ 64) _) hr.units
    obtain ⟨f1, fd1, m1, F1, b1⟩ := M.has
    obtain ⟨f2, fd2, m2, hfn2, F2, b2⟩ := S.get
    have hxP : Passes (L2.CX P w) (cxOf CX0 P w K mg base eachN "_law_each_right" (defScope sEach) f cdv A outer s H E).nox E0 := passes_call L2.takes0 fun _ _ _ _ h => h
    refine ⟨_, pss_cons (ps_for PassesOwn.never rfl (pi_list (pv 1)) (pg_name (i := 3) nd rfl (Or.inr rfl))
        (pss_cons (ps_setLc (i := 5) (own := [("_law_one_here", 4)]) (g := gName 4) (by rfl) nd rfl rfl (sw_true rfl rfl rfl (by decide +kernel)) (pi_list (pv 1)) (blkOk_by (N := eachN) (sc := defScope sEach) (by decide +kernel)) (fun _ _ _ _ _ => pg_name (i := 4) nd rfl (Or.inl rfl))
          (fun _ _ _ _ _ => pts_one (pt_cmpR (op_in_seqK (K := K) rfl) (pe_ix (ixT (K := K) rfl) (pv 4) pe_int (fun _ _ => rfl)) (pe_dget (by exact hu) (pv 2) (pe_ix (ixT (K := K) rfl) (pv 3) pe_int (fun _ _ => rfl)) (fun _ _ => rfl)) (by rfl)))
          (fun _ _ _ _ _ => pe_ix (ixT (K := K) rfl) (pv 4) pe_int (fun _ _ => rfl)))
        (pss_cons (ps_if (PW.pt (pw_or (pt_cmpR (op_neD hr.units) (pe_ixOwn m2 hfn2 F2 hr b2 hxP (pv 0) (pe_ix ix_tup (pv 3) pe_int (fun _ _ => rfl))) (pv 3) (nomark _))
            (pw_or (pt_cmpR (op_ninOwn m1 F1 (hr.mono (by decide)) b1 pass0) (pe_ix ix_tup (pv 3) pe_int (fun _ _ => rfl)) (pv 0) (by rfl))
            (pw_or1 (pt_cmpR (op_neD hr.units) (pe_def S.G hr hxP (pa_cons (pv 0) (pa_cons (pe_ix ix_tup (pv 3) pe_int (fun _ _ => rfl)) pa_nil))) (pv 5) (nomark _)))))) (pss_one (ps_ret pe_bl)) pss_nil)
        (pss_cons (ps_if (pt_cmpR (op_neD hr.units) (pe_kw S.KW hr hxP (pk_cons (pe_ix ix_tup (pv 3) pe_int (fun _ _ => rfl)) (pk_cons (pv 0) pk_nil))) (pv 5) (nomark _)) (pss_one (ps_ret pe_bl)) pss_nil)
        (pss_cons (ps_expr (pe_def GSp hr pass0 (pa_cons (pe_ixOwn m2 hfn2 F2 hr b2 hxP (pv 0) (pe_ix ix_tup (pv 3) pe_int (fun _ _ => rfl))) pa_nil)))
        (pss_one (ps_expr (pe_bm PySem.F.plainAttrs_list PySem.F.slot_list_append PySem.F.type_list_append mt_append (pe_def S.G hr hxP (pa_cons (pv 0) (pa_cons (pe_ix ix_tup (pv 3) pe_int (fun _ _ => rfl)) pa_nil))) (pa_cons pe_non pa_nil)))))))))
      (pss_one (ps_ret pe_bl)), ?_⟩
    cases hx with
    | @lst l xs _ hl hlz hds =>
    have hlen : xs.length = ns.length := by rw [hds.length, List.length_map]
    have hw := ha.wired
    refine ⟨_, rfl, l, rfl, ⟨_, SqL.of hl⟩, ?_⟩
    refine for_list (xs := xs) (fun i σ H' => ∃ z3 z4 z5 : Option V, σ = [some (.ref a), some (.ref l), some (.ref DR), z3, z4, z5] ∧ Same H H') ⟨none, none, none, rfl, Same.refl _⟩ (fun i σ H' _ p => ?_) (fun i x σ H1 hi p => ?_) (fun σ H' p => ?_)
    · obtain ⟨z3, z4, z5, rfl, sm⟩ := p
      exact SqL.of (sm _ _ hl)
    · obtain ⟨z3, z4, z5, rfl, sm⟩ := p
      obtain ⟨n, t, l2, y3, en, rfl, ht0, _, hd0⟩ := node_at hds hi
      have mem := List.mem_of_getElem? en
      have hn9 := okD_node (wired_node hw mem).1
      obtain ⟨nmn, _⟩ := node_names (wired_node hw mem).1
      refine Dr.name_of (Dr.seqasg_of ⟨_, rfl, l, rfl, ⟨_, SqL.of (sm _ _ hl)⟩, fun D2 nD2 => ?_⟩)
      refine lc_filtW (walk_list (xs := xs)) (fun j => (ns[j]?).bind fun m => if decide (m.name ∈ fr n.name) = true then some (V.str m.name) else none) nD2 (by rw [hlen]; exact Nat.lt_of_le_of_lt ha.few (by decide)) (fun H3 s' => SqL.of (s' _ _ (sm _ _ hl))) (fun j x H3 H4 Q2 N2 hj s4 y k1 k2 => ?_) (fun H4 s4 e4 => ?_)
      · obtain ⟨rfl, hx⟩ := y
        obtain ⟨m, b, l3, y4, em, rfl, hb, hl3, _⟩ := node_at hds hx
        have hb' := s4 _ _ (sm _ _ hb)
        have ht' := s4 _ _ (sm _ _ ht0)
        rw [em] at k1 k2
        obtain ⟨pr, pr1, hpr, pg⟩ := (hR.same (sm.trans s4)).get (z := n.name) (List.mem_map.mpr ⟨n, mem, rfl⟩)
        refine ⟨rfl, .ref b, rfl, b, _, _, _, rfl, rfl, SqT.of hb', atI_nat (j := 0) rfl, _, rfl, .ref t, rfl, t, _, _, _, rfl, rfl, SqT.of ht', atI_nat (j := 0) rfl, DR, _, rfl, pg, pr, _, rfl, .inl (SqL.of hpr), rfl, flat_strs _, _, rfl, ?_⟩
        by_cases m0 : m.name ∈ fr n.name
        · refine iteE (b := true) ((in_strs m.name (fr n.name)).trans (decide_eq_true m0)) ?_
          refine ⟨.ref b, rfl, b, _, _, _, rfl, rfl, SqT.of hb', atI_nat (j := 0) rfl, k1 _ _ ?_ (Same.refl _)⟩
          show (if decide _ = true then some (V.str m.name) else none) = _
          rw [decide_eq_true m0, if_pos rfl]
        · refine iteE (b := false) ((in_strs m.name (fr n.name)).trans (decide_eq_false m0)) ?_
          refine k2 _ ?_ (Same.refl _)
          show (if decide _ = true then some (V.str m.name) else none) = _
          rw [decide_eq_false m0, if_neg Bool.false_ne_true]
      · rw [hlen, filterMap_range ns, srcs_is, due_is hw hf mem] at e4
        have s14 := sm.trans s4
        have hat := ha.same s14
        obtain ⟨dx, v, h1, h2⟩ := hat.at_
        have ht := s14 _ _ ht0
        have hd4 := hd0.same s14
        have okd : okD 2 (.list ((srcs ns n.name).map PyData.str)) = true := okD_words (n := 0) (srcs_names hw n.name)
        have dvd : Dv K H4 (.ref D2) (.list ((srcs ns n.name).map PyData.str)) := .lst e4 (by rw [List.length_map]; have := srcs_len ns n.name; have := ha.few; omega) (words_dv _)
        have no : ∀ {A : Prop}, hasName ns (.str n.name) = false → A := fun {A} e => by
          rw [has_name mem] at e
          cases e
        refine Dr.name_of (skip_if ?_)
        refine ⟨_, rfl, .ref t, rfl, t, _, _, _, rfl, rfl, SqT.of ht, atI_nat (j := 0) rfl, a, dx, _, rfl, h1, a, pd, ns, .str n.name, .str n.name, rfl, hat, .str _, fun e => no e, fun n2 hn2 e2 y H5 s5 dy => ?_⟩
        have := wired_inj hw hn2 mem (by injection e2 with e2; exact e2.symm)
        subst this
        refine ⟨_, rfl, n2.dat, n2.dat, (dy.same newOf_same).dp (okD_noDict 9 _ hn9), (hd4.same s5).dp (okD_noDict 9 _ hn9), okD_shaped hn9 (by decide), okD_shaped hn9 (by decide), _, rfl, no_if (eqvT hn9) ?_⟩
        have hat5 := hat.same s5
        have ht5 := s5 _ _ ht
        refine ⟨.ref t, rfl, t, _, _, _, rfl, rfl, SqT.of ht5, atI_nat (j := 0) rfl, _, rfl, a, dx, _, rfl, s5 _ _ h1, a, pd, ns, .str n2.name, .str n2.name, rfl, hat5, .str _, _, rfl, _, rfl, no_if (by rw [has_name mem]; rfl) ?_⟩
        refine ⟨_, rfl, .ref t, rfl, t, _, _, _, rfl, rfl, SqT.of ht5, atI_nat (j := 0) rfl, a, pd, ns, .str n2.name, .str n2.name, rfl, hat5, .str _, fun e => no e, fun z ez _ l6 H6 s6 nl6 el6 => ?_⟩
        have ez : n2.name = z := by injection ez
        subst ez
        have dvl : ∀ {l7 : Addr} {H7 : Hp}, H7 l7 = some (.lst ((srcs ns n2.name).map V.str)) → Dv K H7 (.ref l7) (.list ((srcs ns n2.name).map PyData.str)) := fun {l7 H7} e => .lst e (by rw [List.length_map]; have := srcs_len ns n2.name; have := ha.few; omega) (words_dv _)
        refine ⟨_, rfl, _, _, (dvl el6).dp (okD_noDict 2 _ okd), ((dvd.same s5).same s6).dp (okD_noDict 2 _ okd), okD_shaped okd (by decide), okD_shaped okd (by decide), _, rfl, no_if (eqvT okd) ?_⟩
        refine skip_if ?_
        have s16 := s5.trans s6
        refine ⟨.ref t, rfl, t, _, _, _, rfl, rfl, SqT.of (s16 _ _ ht), atI_nat (j := 0) rfl, _, rfl, rfl, a, pd, ns, .str n2.name, .str n2.name, rfl, hat.same s16, .str _, fun e => no e, fun z ez _ l7 H7 s7 nl7 el7 => ?_⟩
        have ez : n2.name = z := by injection ez
        subst ez
        refine ⟨_, rfl, _, _, (dvl el7).dp (okD_noDict 2 _ okd), ((dvd.same s16).same s7).dp (okD_noDict 2 _ okd), okD_shaped okd (by decide), okD_shaped okd (by decide), _, rfl, no_if (eqvT okd) ?_⟩
        have s47 := s16.trans s7
        have hat7 := hat.same s47
        refine (drop_of ⟨_, rfl, .ref t, rfl, t, _, _, _, rfl, rfl, SqT.of (s47 _ _ ht), atI_nat (j := 0) rfl, a, dx, _, rfl, s47 _ _ h1, a, pd, ns, .str n2.name, .str n2.name, rfl, hat7, .str _, fun e => no e, fun n3 hn3 e3 y8 H8 s8 dy8 => ?_⟩)
        have := wired_inj hw hn3 mem (by injection e3 with e3; exact e3.symm)
        subst this
        refine ⟨y8, fresh2 H7 H8, 1000, lists n3.dat, rfl, ld_of fresh2_sub dy8 (dp_node (wired_node hw mem).1), fresh2_old, by have := lists_node (wired_node hw mem).1; omega, fun H9 g9 => ?_⟩
        have s79 : Same H7 H9 := Gr.keep (Same.refl _) g9 s8
        have s49 := s47.trans s79
        refine ⟨_, rfl, .ref t, rfl, t, _, _, _, rfl, rfl, SqT.of (s49 _ _ ht), atI_nat (j := 0) rfl, a, pd, ns, .str n3.name, .str n3.name, rfl, hat.same s49, .str _, fun e => no e, fun z ez _ l10 H10 s10 nl10 el10 => ?_⟩
        have ez : n3.name = z := by injection ez
        subst ez
        refine ⟨.inl ⟨rfl, _, SqL.of el10⟩, l10, _, .non, rfl, rfl, el10, ?_, _, _, _, rfl, ?_⟩
        · rw [List.length_map]
          have := srcs_len ns n3.name
          have := ha.few
          exact Nat.lt_of_le_of_lt (by omega : _ ≤ 1000) (by decide)
        · intro b o e
          have e9 := s49 _ _ (s14 _ _ e)
          rw [upd_ne (ne_of_none e9 nl10)]
          exact s10 _ _ e9
    · obtain ⟨z3, z4, z5, rfl, sm⟩ := p
      exact q _ sm
end
end Pw
set_option maxHeartbeats 8000000
/-! _law_names_right -/
namespace Own
open PySem PySem.Spec PyProof.Rows L2
section
variable {X : Cx} {CX : CXT} {k : Nat} {C f : Addr} {fd : FuncData} {ps : List Str} {sp : Sp} {E : L2.St → XK}
/-- the same at the slots σ: what is wished for may depend on them -/
def tIxOwnS (C : Addr) (sp : Sp) (E : L2.St → XK) (ta tb : TE) : TE := fun σ H Q => ta σ H fun x H1 => tb σ H1 fun y H2 => ∃ (p dx : Addr) (fs : List (Str × V)), x = .ref p ∧ H2 p = some (.ins C dx fs) ∧ sp [.ref p, y] H2 Q (E σ)
theorem run_atS {A : Around} {pins : List (Addr × Obj)} {σ : L2.St} {H : Hp} {s : Shared} {Q : VK} {us : List Value} {vs : List V} (F : FnOk X.prog X.w X.K X.mg X.base CX k f fd ps sp) (hr : Room k A) (fr : A.frames = X.A.frames) (hb : Binds X.K fd ps []) (hx : PassesAt CX X σ (E σ))
    (I : Inv X pins σ H s) (r : Vals vs us) (h : sp vs H Q (E σ)) : wpAny (model X.prog X.w) A (call (.ref f) us) (EP X pins σ Q) X.xe s := by
  have hl : us.length = ps.length := by rw [← r.length]; exact F.len _ _ _ _ h
  have e0 : Env0 X.prog X.w X.K X.mg X.base A X.stack s H := by
    have e := I.env0
    exact ⟨by rw [fr]; exact e.frames, e.mod, e.bs, e.bsz, e.funs, e.frf, e.hok, e.bare⟩
  refine wpAny_call (codeAny_mono (F.run A X.stack s H ⟨us, []⟩ us vs Q (E σ) hr e0 (by
    have := hb s us I.kIn (by simpa using hl)
    simpa using this) r h) fun r s' hq => ?_)
  cases r with
  | error e => exact hx pins H s e s' I hq
  | ok fl =>
    cases fl with
    | ret u => exact I.after hq
    | next => exact False.elim hq
    | brk => exact False.elim hq
    | cont => exact False.elim hq
theorem pe_ixOwnS {a b : Expr} {ta tb : TE} {pos : Pos} (m : Meth X.K C "__getitem__" f) (hfn : PySem.W.fnIn X.K f = true) (F : FnOk X.prog X.w X.K X.mg X.base CX k f fd ps sp) (hr : Room (k + 1) X.A) (hb : Binds X.K fd ps []) (hx : ∀ σ, PassesAt CX X σ (E σ)) (ha : PE X a ta) (hb' : PE X b tb)
    (hsl : ∀ x i, subscripted b true (.ref x) i = runValue (.builtin "lifetime.subscript" ⟨[.ref x, i], []⟩) := by intro _ _; with_unfolding_all rfl) : PE X (.Subscript a b pos) (tIxOwnS C sp E ta tb) := by
  refine ⟨fun pins s σ H Q I h => ?_⟩
  refine Subscript_ (binT ha hb' I h fun v u s2 x y H2 I2 rx ry q => ?_)
  obtain ⟨p, dx, fs, rfl, hp, q⟩ := q
  cases rx
  obtain ⟨mA, J, _⟩ := ins_get I2.hok hp
  obtain ⟨od, J, _⟩ := J.look
  have hf := hfn
  unfold PySem.W.fnIn at hf
  split at hf
  · rename_i e
    unfold subscriptTail getitemInPython
    refine wpAny_bind (wpAny_bind (wpAny_bind (J.type.here ((PySem.W.looks_findIn I2.kIn m.at_).here ?_))))
    dsimp only
    refine wpAny_bind (wpAny_load (I2.kIn _ _ e) (wpAny_pure ?_))
    dsimp only
    rw [hsl]
    refine wpAny_bind (wpAny_runValue (codeAny_builtin PySem.W.entry_sub ?_))
    unfold Builtin.«lifetime.subscript»
    refine wpAny_bind (PySem.W.special_fn I2.kIn J m.at_ (beq_iff_eq.mp m.fn) (wpAny_mono (run_atS (us := [.ref p, u]) (vs := [.ref p, y]) F hr.in1 rfl hb (hx σ) I2 (.cons rfl (.cons ry .nil)) q) (fun v s' z => ?_) fun _ _ z => z))
    refine wpAny_pure ?_
    exact wpAny_bind (wpAny_letTemporaryGo (wpAny_pure z))
  · cases hf
end
end Own
namespace Pw
open PySem PySem.Spec PyProof.Rows L2 Own Dc
/-- a call of a def whose body wants to know where it is called -/
theorem pe_defA {X : Cx} {x : Str} {st : Stmt} {N ps : List Str} {k : Nat} {sp : List V → Hp → VK → Prop} {e : Expr} {es : List Expr} {t : TA} {p pos : Pos} (D : Dfn X.K X.mg x st ps) (S : FnScope N ps (defScope st)) (hr : Room (k + 1) X.A) (ha : PA X (e :: es) t) (len : ∀ vs H Q, sp vs H Q → vs.length = ps.length)
    (hbody : ∀ (f : Addr) (cdv : Value) (s : Shared) (H : Hp) (vs : List V) (Q : VK), Room k (X.A.deeper (envOfC x (defScope st) s.heap.objs.size f cdv)) → sp vs H Q → ∃ t, PSs (cxOf CX0 X.prog X.w X.K X.mg X.base N x (defScope st) f cdv X.A X.stack s H E0).nox (defBody st) t ∧ t { nx := fun _ H' => Q .non H', rt := Q } (L2.start N vs) H)
    (hg : Gl X x := by rfl) (hdb : (x == ("__debug__" : Str)) = false := by decide) (he : starEach (e :: es) X.env = (false, eval e X.env) :: starEach es X.env := by rfl) (hpl : (backTo pos (starEach es X.env)).any (·.1) = false := by rfl) :
    PE X (.Call (.Name x p) (e :: es) [] pos) (fun σ H Q => t σ H fun vs H1 => sp vs H1 Q) := by
  obtain ⟨f, fd, F, m, b⟩ := D.ex
  have kp := F.kp
  obtain ⟨oc, od, kV, doc, pm, an, cdv, ct, osl, rfl, lk, hcd⟩ := F.ex
  refine ⟨fun pins s σ H Q I h => ?_⟩
  refine wpAny_Call_Name_kw (ld_glob I hg m ?_ hdb)
  refine PySem.W.callWith_K (h₀ := X.base) I.ok.mod.kin kp (thn (ha.run pos pins s σ H _ I h) fun us s1 ⟨vs, H1, I1, r, q⟩ => ⟨I1.kIn, ?_⟩) he hpl
  have hl : us.length = ps.length := by rw [← r.length]; exact len _ _ _ q
  have rc : codeAny (model X.prog X.w) X.A (.call (.ref f) ⟨us, []⟩) (CR CX0 X.stack X.prog X.w H1 s1 Q E0) s1 := by
    refine LamX.run_ofS (N := N) (ps := ps) (us := us) (vs := vs) lk hcd S hr I1.env0 (by
      have := b s1 us I1.kIn (by simpa using hl)
      simpa using this) r (len _ _ _ q) fun hr' => ?_
    obtain ⟨t', ht', hq'⟩ := hbody f cdv s1 H1 vs Q hr' q
    exact ⟨t', ht'.nox, hq'⟩
  refine wpAny_call (codeAny_mono rc fun r s2 hq => ?_)
  cases r with
  | error e => exact (show False from hq).elim
  | ok fl =>
    cases fl with
    | ret u => exact I1.after hq
    | next => exact False.elim hq
    | brk => exact False.elim hq
    | cont => exact False.elim hq
abbrev sNmsR : Stmt := topS 71
abbrev nmsN : List Str := ["_law_mesh", "_law_odd", "_law_found", "e", "_law_again"]
theorem scNmsR : FnScope nmsN ["_law_mesh"] (defScope sNmsR) := ⟨rfl, rfl, rfl, by decide +kernel, rfl, by decide +kernel, by decide +kernel⟩
def oddsD : List PyData := [.none, .str "zz", .str "", .int 0, .bool true, .list [.str "a"], .dict [], .tuple [.str "a"], .str "A"]
theorem odds_tell : ∀ d ∈ oddsD, Tells d := fun d hd => by
  have all : (oddsD.all fun d => (!d.hasDict || (match d with | .dict [] => true | _ => false)) && d.showable && decide (d.depth ≤ 60) && decide (cost d ≤ 1000000) && okS d) = true := by decide +kernel
  have := List.all_eq_true.mp all d hd
  simp only [Bool.and_eq_true, Bool.or_eq_true, Bool.not_eq_true', decide_eq_true_eq] at this
  refine ⟨?_, this.1.1.1.2, this.1.1.2, this.1.2, this.2⟩
  rcases this.1.1.1.1 with h | h
  · exact .inl h
  · right
    split at h
    · rfl
    · cases h
theorem odds_none {ns : List Nd} (h : ∀ n ∈ ns, upTo 12 n.name) : ∀ d ∈ oddsD, hasName ns d = false := fun d hd => by
  have no : ∀ z : Str, ((List.range 12).all fun j => !decide (z = nmAt j) && !decide (z = spAt j)) = true → hasName ns (.str z) = false := fun z hz => by
    refine Bool.eq_false_iff.mpr fun q => ?_
    obtain ⟨n, hn, e⟩ := List.any_eq_true.mp (show (ns.any fun n => decide (n.name = z)) = true from q)
    obtain ⟨j, hj, e2⟩ := h n hn
    have := List.all_eq_true.mp hz j (List.mem_range.mpr hj)
    simp only [Bool.and_eq_true, Bool.not_eq_true', decide_eq_false_iff_not] at this
    have e : n.name = z := of_decide_eq_true e
    rw [e] at e2
    rcases e2 with e2 | e2
    · exact this.1 e2
    · exact this.2 e2
  unfold oddsD at hd
  simp only [List.mem_cons, List.not_mem_nil, or_false] at hd
  rcases hd with rfl | rfl | rfl | rfl | rfl | rfl | rfl | rfl | rfl
  · rfl
  · exact no _ (by decide +kernel)
  · exact no _ (by decide +kernel)
  · rfl
  · rfl
  · rfl
  · rfl
  · rfl
  · exact no _ (by decide +kernel)
theorem _root_.Ev.dct0 {K : PySem.W.Frag} {U : Addr → Bool} {H0 : Hp} {σ : L2.St} : Ev.E K U H0 σ tDNewK (.dict []) := fun H Q f sm q t nt => q _ _ (same_upd nt) (.dct (Ev.vis_at (f t nt) upd_same))
theorem call_reprDs {Y : Cx} {a : Addr} {pn : List (Addr × Obj)} (hg : Y.A.guards = some []) (hu : Y.A.units + 64 < cLine) : CallR (Y.suite a pn) (.builtin "repr") (fun xs H Q => ∃ v d, xs = [v] ∧ Dv Y.K H v d ∧ Tells d ∧ Q (.str d.shown) H) := call_reprD (X := Y.suite a pn) hg hu
theorem for_ev {K : PySem.W.Frag} {U : Addr → Bool} {H : Hp} {σ : L2.St} {tl : TE} {ds : List PyData} {g : TG} {tb u : TS} {D : Ends} (he : Ev.E K U H σ tl (.list ds)) (fr : Ev.Fresh U H)
    (h : ∀ l xs H1, Same H H1 → H1 l = some (.lst xs) → DvAll K (Ev.vis U H1) xs ds → ∃ Pv : Nat → L2.St → Hp → Prop, Pv 0 σ H1 ∧ (∀ i σ H, i ≤ xs.length → Pv i σ H → SqL K H l xs) ∧ (∀ i x σ H, xs[i]? = some x → Pv i σ H → g x σ H fun σ2 H2 => tb { D with nx := Pv (i + 1), ct := Pv (i + 1), bk := u D } σ2 H2) ∧ ∀ σ H, Pv xs.length σ H → u D σ H) : tSeq (tFor (iList K tl) g tb) u D σ H := by
  refine he H _ fr Ev.vis_same fun v H1 s1 d1 => ?_
  cases d1 with
  | @lst l xs _ hl hz hds =>
    obtain ⟨Pv, p0, pl, ps, pd⟩ := h l xs H1 s1 (Ev.vis_of hl).2 hds
    exact ⟨l, rfl, ⟨xs, SqL.of (Ev.vis_of hl).2⟩, for_list (D := { D with nx := u D }) Pv p0 pl ps pd⟩
theorem fn_of' {t u : TS} {D : Ends} {σ : L2.St} {H : Hp} (h : t { D with nx := u D } σ H) : tSeq t u D σ H := h
structure Nms2 (P : Program) (w : World) (K : PySem.W.Frag) (mg : Str → Option Value) (base : Heap) (C CI fI : Addr) : Prop where
  R : PySem.ErrX.ErrTxt K mg "InvalidName" "name" CI fI
  xI : PySem.W.exmOne K (.ref CI) (.ref CI) = some true
section
variable {C CI fI : Addr}
def spNms (K : PySem.W.Frag) (C : Addr) : List V → Hp → VK → Prop := fun vs H Q => ∃ (a pd : Addr) (ns : List Nd), vs = [.ref a] ∧ NetF K H C a pd ns ∧ (∀ n ∈ ns, upTo 12 n.name) ∧ ∀ H', Same H H' → Q (.bl true) H'
theorem pe_names {X : Cx} {e : Expr} {t : TA} {p pos : Pos} (hgd : X.A.guards = some []) (hu70 : X.A.units + 70 < cLine) (B : Blt X.mg) (S : Srs2 X.prog X.w X.K X.mg X.base C CI) (M : HasM X.prog X.w X.K X.mg X.base C) (W2 : Nms2 X.prog X.w X.K X.mg X.base C CI fI) (D : Dfn X.K X.mg "_law_names_right" sNmsR ["_law_mesh"]) (hr : Room 13 X.A) (ha : PA X [e] t) (hg : Gl X "_law_names_right" := by rfl)
    (he : starEach [e] X.env = (false, eval e X.env) :: starEach [] X.env := by rfl) (hpl : (backTo pos (starEach [] X.env)).any (·.1) = false := by rfl) :
    PE X (.Call (.Name "_law_names_right" p) [e] [] pos) (fun σ H Q => t σ H fun vs H1 => spNms X.K C vs H1 Q) := by
  refine pe_defA D scNmsR hr ha (fun vs H Q h => ?_) (fun f cdv s H vs Q hr h => ?_) hg (by decide) he hpl
  · obtain ⟨a, pd, ns, rfl, _⟩ := h
    rfl
  · obtain ⟨a, pd, ns, rfl, hn, hup, q⟩ := h
    have nd := scNmsR.nd
    obtain ⟨f1, fd1, m1, F1, b1⟩ := M.has
    obtain ⟨f2, fd2, m2, hfn2, F2, b2⟩ := S.get
    obtain ⟨f3, fd3, g3, k3, b3, F3⟩ := S.G.ex
    have hu64 : (X.A.deeper (envOfC "_law_names_right" (defScope sNmsR) s.heap.objs.size f cdv)).units + 64 < cLine := by
      show X.A.units + 3 + 64 < cLine
      omega
    have hg1 : (X.A.deeper (envOfC "_law_names_right" (defScope sNmsR) s.heap.objs.size f cdv)).guards = some [] := by
      first | exact hgd | (show X.A.guards = some []; exact hgd) | simp [Around.deeper, hgd]
    refine ⟨_, pss_cons (ps_for PassesOwn.never rfl (pi_list (pe_lst (pa_cons pe_non (pa_cons pe_str (pa_cons pe_str (pa_cons pe_int (pa_cons pe_bl (pa_cons (pe_lst (pa_cons pe_str pa_nil)) (pa_cons pe_dnewK (pa_cons (pe_tup (pa_cons pe_str pa_nil)) (pa_cons pe_str pa_nil))))))))))) (pg_name (i := 1) nd rfl (Or.inl rfl))
        (pss_cons (ps_set (i := 2) nd rfl (.inl rfl) pe_non)
        (pss_cons (ps_try_as (i := 3) (c := .ref CI) (Wout := fun _ _ _ _ => False) rfl rfl nd rfl rfl ⟨rfl, by decide, .inl W2.R.gC⟩ L2.takes0
          (fun W pn xe tk _ => pss_one (ps_expr (pe_ixOwnS m2 hfn2 F2 hr b2 (fun σ => passAt tk σ) (pv 0) (pv 1))))
          (fun a oe cls d pn hz hf => pss_one (ps_set (i := 2) nd rfl (.inl rfl) (pe_callB (call_reprDs hg1 hu64) (by rfl) B.repr boot_repr (pa_cons (pe_errFld W2.R hz hf (pv 3)) pa_nil)))))
        (pss_cons (ps_set (i := 4) nd rfl (.inl rfl) pe_non)
        (pss_cons (ps_try_as (i := 3) (c := .ref CI) (Wout := fun _ _ _ _ => False) rfl rfl nd rfl rfl ⟨rfl, by decide, .inl W2.R.gC⟩ L2.takes0
          (fun W pn xe tk _ => pss_one (ps_expr (pe_callS F3 hr rfl g3 k3 b3 (fun σ => passAt tk σ) (pa_cons (pv 0) (pa_cons (pv 1) pa_nil)))))
          (fun a oe cls d pn hz hf => pss_one (ps_set (i := 4) nd rfl (.inl rfl) (pe_callB (call_reprDs hg1 hu64) (by rfl) B.repr boot_repr (pa_cons (pe_errFld W2.R hz hf (pv 3)) pa_nil)))))
        (pss_one (ps_if (PW.pt (pw_or (pt_cmpR (op_inOwn m1 F1 (hr.mono (by decide)) b1 pass0) (pv 1) (pv 0) (by rfl)) (pw_or (pt_cmpR op_ne (pv 2) (pe_callB (call_reprD hg1 hu64) (by rfl) B.repr boot_repr (pa_cons (pv 1) pa_nil)) (nomark _))
          (pw_or1 (pt_cmpR op_ne (pv 4) (pe_callB (call_reprD hg1 hu64) (by rfl) B.repr boot_repr (pa_cons (pv 1) pa_nil)) (nomark _)))))) (pss_one (ps_ret pe_bl)) pss_nil)))))))
      (pss_one (ps_ret pe_bl)), ?_⟩
    refine for_ev (U := Ev.nu H) (ds := oddsD) (Ev.lst (Ev.cons Ev.non (Ev.cons Ev.str (Ev.cons Ev.str (Ev.cons Ev.int (Ev.cons Ev.bl (Ev.cons (Ev.lst (Ev.cons Ev.str Ev.nil)) (Ev.cons Ev.dct0 (Ev.cons (Ev.tup (Ev.cons Ev.str Ev.nil)) (Ev.cons Ev.str Ev.nil)))))))))) (Ev.fresh_nu H) fun l xs H1 s1 hl hds => ⟨fun i σ H' => ∃ z1 z2 z3 z4 : Option V, σ = [some (.ref a), z1, z2, z3, z4] ∧ Same H1 H', ⟨none, none, none, none, rfl, Same.refl _⟩, fun i σ H' _ p => ?_, fun i x σ H2 hi p => ?_, fun σ H' p => ?_⟩
    · obtain ⟨z1, z2, z3, z4, rfl, sm⟩ := p
      exact SqL.of (sm _ _ hl)
    · obtain ⟨z1, z2, z3, z4, rfl, sm⟩ := p
      obtain ⟨d, ed, hd0⟩ := hds.getV hi
      have dm : d ∈ oddsD := List.mem_of_getElem? ed
      have hd := (hd0.same Ev.vis_same).same sm
      have no := odds_none hup d dm
      have tl := odds_tell d dm
      have hN := hn.same (s1.trans sm)
      obtain ⟨dx, v, h1, h2⟩ := hN.at_
      have bad : ∀ {A : Prop} (n : Nd), n ∈ ns → d = .str n.name → A := fun {A} n hn e => by
        rw [e, has_name hn] at no
        cases no
      refine Dr.name_of (Dr.seqasg_of (Dr.name_of (fn_of' ?_)))
      refine ⟨_, rfl, _, rfl, a, dx, _, rfl, h1, a, pd, ns, x, d, rfl, hN, hd, fun _ dd ndd => ⟨true, W2.xI, fun _ a' na' => ?_, fun z => Bool.noConfusion z⟩, fun n hn e => bad n hn e⟩
      have s3 : Same H2 (upd H2 dd (.xd [("name", x)])) := same_upd ndd
      refine ⟨.ref a', rfl, rfl, rfl, dd, x, rfl, upd_same, x, d, rfl, hd.same s3, tl, Dr.name_of ?_⟩
      dsimp only
      generalize upd H2 dd (.xd [("name", x)]) = H3 at *
      have hN3 := hN.same s3
      refine Dr.seqasg_of (Dr.name_of (fn_of' ?_))
      refine ⟨_, rfl, _, rfl, a, pd, ns, x, d, rfl, hN3, hd.same s3, fun _ dd2 ndd2 => ⟨true, W2.xI, fun _ a2 na2 => ?_, fun z => Bool.noConfusion z⟩, fun z e hz => by rw [no] at hz; cases hz⟩
      have s4 : Same H3 (upd H3 dd2 (.xd [("name", x)])) := same_upd ndd2
      refine ⟨.ref a2, rfl, rfl, rfl, dd2, x, rfl, upd_same, x, d, rfl, (hd.same s3).same s4, tl, Dr.name_of ?_⟩
      have s24 := s3.trans s4
      have hN4 := hN.same s24
      dsimp only
      generalize upd H3 dd2 (.xd [("name", x)]) = H4 at *
      obtain ⟨dx4, v4, h14, _⟩ := hN4.at_
      refine if_of' ⟨_, rfl, _, rfl, a, dx4, _, rfl, h14, a, pd, ns, x, d, rfl, hN4, hd.same s24, _, rfl, _, rfl, no_if no ?_⟩
      have ne : (!decide (V.str d.shown = V.str d.shown)) = false := by
        rw [decide_eq_true rfl]
        rfl
      refine ⟨_, rfl, _, rfl, x, d, rfl, hd.same s24, tl, rfl, _, rfl, no_if ne ?_⟩
      refine ⟨_, rfl, _, rfl, x, d, rfl, hd.same s24, tl, rfl, _, rfl, no_if ne ?_⟩
      exact ⟨_, _, _, _, rfl, sm.trans s24⟩
    · obtain ⟨z1, z2, z3, z4, rfl, sm⟩ := p
      exact q _ (s1.trans sm)
end
end Pw
set_option maxHeartbeats 2000000
/-! own == and != with what is no object of the class -/
namespace Own
open PySem PySem.Spec PyProof.Rows L2
/-- a plain value, and its type -/
inductive Pln (H : Hp) : V → String → Prop
  | non : Pln H .non "NoneType"
  | int (i : Int) : Pln H (.int i) "int"
  | str (x : Str) : Pln H (.str x) "str"
  | lst {a : Addr} {xs : List V} : H a = some (.lst xs) → Pln H (.ref a) "list"
theorem Pln.ty {K : PySem.W.Frag} {H : Hp} {v : V} {T : String} (h : Pln H v T) : TyX K H v (.type T) := by
  cases h with
  | non => exact .base .non
  | int i => exact .base (.int i)
  | str x => exact .base (.str x)
  | lst e => exact .base (.lst e)
section
variable {X : Cx} {CX : CXT} {k : Nat} {C f : Addr} {fd : FuncData} {ps : List Str} {sp : Sp} {E : XK}
theorem Pln.looks {M : Model} {pins : List (Addr × Obj)} {σ : L2.St} {H : Hp} {s : Shared} {v : V} {u : Value} {T : String} (h : Pln H v T) (I : Inv X pins σ H s) (r : RelV v u) : PySem.W.Looks M s.heap (typeOf u) (.type T) := by
  cases h with
  | non =>
    cases r
    exact PySem.W.Looks.of_pure rfl
  | int i =>
    obtain ⟨t, rfl⟩ := r
    exact PySem.W.Looks.of_pure rfl
  | str x =>
    obtain ⟨t, rfl⟩ := r
    exact PySem.W.Looks.of_pure rfl
  | lst e =>
    cases r
    obtain ⟨_, its, n, _, _, g⟩ := I.lstM e
    exact (PySem.W.Looks.ld g).andThen .now
def rEqPln (C : Addr) (sp : Sp) (E : XK) (neg : Bool) : R2 := fun x y H Q => ∃ (a dx : Addr) (fs : List (Str × V)) (T : String), x = .ref a ∧ H a = some (.ins C dx fs) ∧ Pln H y T ∧ T ∈ ["NoneType", "int", "str", "list"] ∧ sp [.ref a, y] H (fun v H' => ∃ c, v = .bl c ∧ Q (.bl (if neg = true then !c else c)) H') E
theorem op_eqPln (m : Meth X.K C "__eq__" f) (nf : (["NoneType", "int", "str", "list"].all fun T => PySem.W.subIn X.K (.type T) (.ref C) == some false) = true) (F : FnOk X.prog X.w X.K X.mg X.base CX k f fd ps sp) (hr : Room k X.A) (hb : Binds X.K fd ps []) (hx : Passes CX X E) : OpR X (compareOp .Eq) (rEqPln C sp E false) := by
  intro pins s σ H x y u v Q I rx ry h
  obtain ⟨a, dx, fs, T, rfl, ha, py, mT, q⟩ := h
  cases rx
  have J' := py.looks (M := model X.prog X.w) I ry
  obtain ⟨mA, J, _⟩ := ins_get I.hok ha
  obtain ⟨od, J, _⟩ := J.look
  obtain ⟨mf, hF⟩ := I.fr
  show wpAny (model X.prog X.w) X.A (richCompare .Eq (.ref a) v) (EP X pins σ Q) X.xe s
  refine PySem.W.cmp_K (op := .Eq) (tb := .type T) hr.units0 hF I.ok.mod.kin J J' (by
    unfold PySem.W.notFirst
    rw [List.all_eq_true.mp nf T mT, Bool.or_true]) m.at_ m.fn ?_
  refine thn (run_at (us := [.ref a, v]) (vs := [.ref a, y]) F hr rfl hb hx I (.cons rfl (.cons ry .nil)) q) fun r s' got => ?_
  obtain ⟨w, H', I', rv, c, rfl, q'⟩ := got
  obtain rfl : r = Value.bool c := rv
  exact ⟨.bl c, H', I', rfl, q'⟩
theorem op_nePln (m : Meth X.K C "__eq__" f) (nf : (["NoneType", "int", "str", "list"].all fun T => PySem.W.subIn X.K (.type T) (.ref C) == some false) = true) (hn : PySem.W.findIn X.K (.ref C) "__ne__" = some (some (.builtin "object.__ne__"))) (hm : PySem.W.mroIn X.K C (.type "object") = some true)
    (F : FnOk X.prog X.w X.K X.mg X.base CX k f fd ps sp) (hr : Room (k + 1) X.A) (hb : Binds X.K fd ps []) (hx : Passes CX X E) : OpR X (compareOp .NotEq) (rEqPln C sp E true) := by
  intro pins s σ H x y u v Q I rx ry h
  obtain ⟨a, dx, fs, T, rfl, ha, py, mT, q⟩ := h
  cases rx
  have J' := py.looks (M := model X.prog X.w) I ry
  have ns : PySem.W.subIn X.K (.type T) (.ref C) = some false := beq_iff_eq.mp (List.all_eq_true.mp nf T mT)
  obtain ⟨mA, J, _⟩ := ins_get I.hok ha
  obtain ⟨od, J, _⟩ := J.look
  show wpAny (model X.prog X.w) X.A (richCompare .NotEq (.ref a) v) (EP X pins σ Q) X.xe s
  have one : wpAny (model X.prog X.w) X.A (tryCompare (.ref a) "__ne__" v) (fun r s' => ∃ c, r = some (.bool c) ∧ EP X pins σ Q (.bool c) s') X.xe s := by
    unfold tryCompare
    refine wpAny_bind (ifBound_ne I.kIn J hn ?_)
    refine wpAny_call (codeAny_call_builtin PySem.F.cmp_object.ne.plain PySem.F.cmpEntry_ne (PySem.W.check_slot PySem.F.cmpKind_ne PySem.F.cmpSplit_ne (J.type.andThen (PySem.W.looks_mroIn I.kIn hm)) (PySem.F.cmpArgs_ne _ _) ?_))
    unfold Builtin.«object.__ne__»
    refine wpAny_bind (m := slotArgs "__ne__" 1 _) (wpAny_pure ?_)
    refine wpAny_bind (wpAny_cRoomFor hr.in1.units0 ?_)
    refine wpAny_bind (PySem.W.ifBound_K I.kIn J m.at_ m.fn ?_)
    refine thn (run_at (us := [.ref a, v]) (vs := [.ref a, y]) F hr.in1 rfl hb hx I (.cons rfl (.cons ry .nil)) q) fun r s' got => ?_
    obtain ⟨w, H', I', rv, c, rfl, q'⟩ := got
    obtain rfl : r = Value.bool c := rv
    refine wpAny_bind (wpAny_truthy_bool ?_)
    exact wpAny_pure (fun Γ p hΓ => (wpAny_pure (M := model X.prog X.w) (A := X.A) (E := X.xe) (s := s') (a := some (Value.bool !c)) (Q := fun r s' => ∃ c, r = some (Value.bool c) ∧ EP X pins σ Q (Value.bool c) s') ⟨!c, rfl, .bl (!c), H', I', rfl, q'⟩) Γ p hΓ)
  unfold richCompare
  simp only [oneThing_ref]
  refine wpAny_holding (wpAny_bind (wpAny_cRoomFor hr.units0 ?_))
  refine wpAny_bind (J.type.here (wpAny_bind (J'.here ?_)))
  split
  · refine wpAny_bind ((PySem.W.looks_subIn I.kIn ns).here ?_)
    simp only [Bool.false_eq_true, if_false]
    refine wpAny_bind (wpAny_mono one (fun r s' z => ?_) fun _ _ e => e)
    obtain ⟨c, rfl, hq⟩ := z
    exact wpAny_pure hq
  · refine wpAny_bind (wpAny_pure ?_)
    simp only [Bool.false_eq_true, if_false]
    refine wpAny_bind (wpAny_mono one (fun r s' z => ?_) fun _ _ e => e)
    obtain ⟨c, rfl, hq⟩ := z
    exact wpAny_pure hq
end
end Own
namespace Pw
open PySem PySem.Spec PyProof.Rows L2 Own
section
variable {P : Program} {w : World} {K : PySem.W.Frag} {mg : Str → Option Value} {base : Heap} {C : Addr}
def spEqP (K : PySem.W.Frag) (C : Addr) : Sp := fun vs H Q _ => ∃ (a pd : Addr) (ns : List Nd) (y : V) (T : String), vs = [.ref a, y] ∧ NetF K H C a pd ns ∧ Pln H y T ∧ T ∈ ["NoneType", "int", "str", "list"] ∧ Q (.bl false) H
theorem fn_eqP (B : Blt mg) (gC : mg "Net" = some (.ref C)) (T : ClsTy K C) (ko : (["NoneType", "int", "str", "list"].all fun T => PySem.W.kitOne K (.type T) (.ref C) == some false) = true) {f : Addr} {fd : FuncData} (F : Fun K "__eq__" "Net.__eq__" sNetEq f fd) : FnOk P w K mg base CX0 1 f fd ["self", "other"] (spEqP K C) := by
  refine F.ok scNetEq (fun vs H Q E h => ?_) (fun cdv A outer s H vs Q E hr h => ?_)
  · obtain ⟨a, pd, ns, y, T, rfl, _⟩ := h
    rfl
  · obtain ⟨a, pd, ns, y, Ty, rfl, N, py, mT, q⟩ := h
    refine ⟨_, pss_one (ps_ret (pe_and (pe_isi B.isi (pa_cons (pv 1) (pa_cons (pe_glob (v := .ref C) rfl gC rfl) pa_nil))) (pe_one (pe_cmpR (op_eqD hr.units) (pe_fld (pv 0) (by rfl)) (pe_fld (pv 1) (by rfl)) (nomark _))))), ?_⟩
    refine ⟨_, rfl, y, .ref C, .type Ty, .ref C, false, rfl, .own C, py.ty, beq_iff_eq.mp (List.all_eq_true.mp ko Ty mT), _, rfl, ?_⟩
    rw [if_neg Bool.false_ne_true]
    exact q
end
end Pw
set_option maxHeartbeats 4000000
/-! more of displays read as data; slots by their number -/
namespace Ev
open PySem PySem.Spec PyProof.Rows L2 Pw
theorem catS {K : PySem.W.Frag} {U : Addr → Bool} {H0 : Hp} {σ : L2.St} {te tf : TE} {x y : Str} (h1 : E K U H0 σ te (.str x)) (h2 : E K U H0 σ tf (.str y)) (hz : x.length + y.length ≤ sizeLine) :
    E K U H0 σ (tOp (fun x y H Q => ∃ i j, x = .str i ∧ y = .str j ∧ i.length + j.length ≤ sizeLine ∧ Q (.str (i ++ j)) H) te tf) (.str (x ++ y)) := fun H Q f sm q => by
  refine h1 H _ f sm fun v H1 s1 d1 => ?_
  refine h2 H1 _ (f.grow s1) (sm.trans s1) fun u H2 s2 d2 => ?_
  cases d1
  cases d2
  exact ⟨_, _, rfl, rfl, hz, q _ _ (s1.trans s2) (.str _)⟩
theorem take_all {K : PySem.W.Frag} {H : Hp} : ∀ {ds : List PyData} {vs : List V}, DvAll K H vs ds → ∀ n : Nat, DvAll K H (vs.take n) (ds.take n)
  | _, _, _, 0 => by simpa using DvAll.nil
  | [], _, h, n + 1 => by
    cases h
    simpa using DvAll.nil
  | _ :: _, _, h, n + 1 => by
    cases h with
    | cons h1 h2 => exact .cons h1 (take_all h2 n)
/-- xs[:n] -/
theorem cut {K : PySem.W.Frag} {U : Addr → Bool} {H0 : Hp} {σ : L2.St} {te : TE} {ds : List PyData} {n : Nat} (h1 : E K U H0 σ te (.list ds)) : E K U H0 σ (tSl (rSlL K) te tNoPart (tPart (tC (.int n)))) (.list (ds.take n)) := fun H Q f sm q => by
  refine h1 H _ f sm fun v H1 s1 d1 => ?_
  cases d1 with
  | @lst l vs _ hl hlz hvs =>
    refine ⟨(n : Int), rfl, l, vs, rfl, SqL.of (vis_of hl).2, fun p np => ?_⟩
    have e : cutV vs none (some (n : Int)) = vs.take n := by
      unfold cutV
      rw [HT.sIx_none, HT.sIx_nat, List.drop_zero, Nat.sub_zero]
      rcases Nat.le_total n vs.length with h | h
      · rw [Nat.min_eq_left h]
      · rw [Nat.min_eq_right h, List.take_length, List.take_of_length_le h]
    rw [e]
    refine q _ _ (s1.trans (same_upd np)) (.lst (vis_at (f.grow s1 p np) upd_same) ?_ ((take_all hvs n).same (vis_grow (same_upd np))))
    rw [List.length_take]
    omega
/-- xs[n:] -/
theorem drop_all {K : PySem.W.Frag} {H : Hp} : ∀ {ds : List PyData} {vs : List V}, DvAll K H vs ds → ∀ n : Nat, DvAll K H (vs.drop n) (ds.drop n)
  | _, _, h, 0 => h
  | [], _, h, n + 1 => by
    cases h
    simpa using DvAll.nil
  | _ :: _, _, h, n + 1 => by
    cases h with
    | cons h1 h2 => exact drop_all h2 n
section
variable {K : PySem.W.Frag} {U : Addr → Bool} {H0 : Hp} {σ : L2.St}
theorem cutTo {te ti : TE} {ds : List PyData} {n : Nat} (h1 : E K U H0 σ te (.list ds)) (h2 : E K U H0 σ ti (.int n)) : E K U H0 σ (tSl (rSlL K) te tNoPart (tPart ti)) (.list (ds.take n)) := fun H Q f sm q => by
  refine h1 H _ f sm fun v H1 s1 d1 => ?_
  refine h2 H1 _ (f.grow s1) (sm.trans s1) fun u H2 s2 d2 => ?_
  have d1 := d1.same (vis_grow s2)
  have s12 := s1.trans s2
  cases d2
  cases d1 with
  | @lst l vs _ hl hlz hvs =>
    refine ⟨(n : Int), rfl, l, vs, rfl, SqL.of (vis_of hl).2, fun p np => ?_⟩
    have e : cutV vs none (some (n : Int)) = vs.take n := by
      unfold cutV
      rw [HT.sIx_none, HT.sIx_nat, List.drop_zero, Nat.sub_zero]
      rcases Nat.le_total n vs.length with h | h
      · rw [Nat.min_eq_left h]
      · rw [Nat.min_eq_right h, List.take_length, List.take_of_length_le h]
    rw [e]
    refine q _ _ (s12.trans (same_upd np)) (.lst (vis_at (f.grow s12 p np) upd_same) ?_ ((take_all hvs n).same (vis_grow (same_upd np))))
    rw [List.length_take]
    omega
theorem cutFrom {te ti : TE} {ds : List PyData} {n : Nat} (h1 : E K U H0 σ te (.list ds)) (h2 : E K U H0 σ ti (.int n)) : E K U H0 σ (tSl (rSlL K) te (tPart ti) tNoPart) (.list (ds.drop n)) := fun H Q f sm q => by
  refine h1 H _ f sm fun v H1 s1 d1 => ?_
  refine h2 H1 _ (f.grow s1) (sm.trans s1) fun u H2 s2 d2 => ?_
  have d1 := d1.same (vis_grow s2)
  have s12 := s1.trans s2
  cases d2
  cases d1 with
  | @lst l vs _ hl hlz hvs =>
    refine ⟨(n : Int), rfl, l, vs, rfl, SqL.of (vis_of hl).2, fun p np => ?_⟩
    have e : cutV vs (some (n : Int)) none = vs.drop n := by
      unfold cutV
      rw [HT.sIx_none, HT.sIx_nat]
      rcases Nat.le_total n vs.length with h | h
      · rw [Nat.min_eq_left h, List.take_of_length_le (by rw [List.length_drop]; exact Nat.le_refl _)]
      · rw [Nat.min_eq_right h, Nat.sub_self, List.take_zero, List.drop_of_length_le h]
    rw [e]
    refine q _ _ (s12.trans (same_upd np)) (.lst (vis_at (f.grow s12 p np) upd_same) ?_ ((drop_all hvs n).same (vis_grow (same_upd np))))
    rw [List.length_drop]
    omega
theorem negE {te : TE} {i : Int} (h : E K U H0 σ te (.int i)) : E K U H0 σ (tUn (rU fun i => .int (-i)) te) (.int (-i)) := fun H Q f sm q => by
  refine h H _ f sm fun v H1 s1 d1 => ?_
  cases d1
  exact ⟨i, rfl, q _ _ s1 (.int _)⟩
theorem sub {te tf : TE} {i j : Int} (h1 : E K U H0 σ te (.int i)) (h2 : E K U H0 σ tf (.int j)) : E K U H0 σ (tOp (rI0 fun i j => V.int (i - j)) te tf) (.int (i - j)) := fun H Q f sm q => by
  refine h1 H _ f sm fun v H1 s1 d1 => ?_
  refine h2 H1 _ (f.grow s1) (sm.trans s1) fun u H2 s2 d2 => ?_
  cases d1
  cases d2
  exact ⟨_, _, rfl, rfl, q _ _ (s1.trans s2) (.int _)⟩
theorem dct : E K U H0 σ tDNewK (.dict []) := fun H Q f sm q => fun d nd => q _ _ (same_upd nd) (.dct (vis_at (f d nd) upd_same))
theorem rep_many {H : Hp} {vs : List V} {ds : List PyData} (h : DvAll K H vs ds) : ∀ n : Nat, DvAll K H (List.replicate n vs).flatten (List.replicate n ds).flatten
  | 0 => .nil
  | n + 1 => by
    rw [List.replicate_succ, List.replicate_succ, List.flatten_cons, List.flatten_cons]
    exact h.append (rep_many h n)
theorem rep_len {α : Type} (xs : List α) : ∀ n : Nat, (List.replicate n xs).flatten.length = n * xs.length
  | 0 => by simp
  | n + 1 => by
    rw [List.replicate_succ, List.flatten_cons, List.length_append, rep_len xs n, Nat.succ_mul]
    omega
/-- xs * k -/
theorem repN {te tk : TE} {ds : List PyData} {k : Nat} (h1 : E K U H0 σ te (.list ds)) (h2 : E K U H0 σ tk (.int k)) (hz : k * ds.length ≤ 1000 := by exact Nat.le_of_ble_eq_true rfl) (hk : k ≤ 1000 := by exact Nat.le_of_ble_eq_true rfl) :
    E K U H0 σ (tOp rRep te tk) (.list (List.replicate k ds).flatten) := fun H Q f sm q => by
  refine h1 H _ f sm fun v H1 s1 d1 => ?_
  refine h2 H1 _ (f.grow s1) (sm.trans s1) fun u H2 s2 d2 => ?_
  have d1 := d1.same (vis_grow s2)
  cases d2
  cases d1 with
  | @lst l vs _ hl hlz hvs =>
    have e := hvs.length
    refine ⟨l, k, vs, rfl, rfl, (vis_of hl).2, by omega, by omega, ?_, fun p np => ?_⟩
    · show vs.length * (k : Int).toNat ≤ sizeLine
      rw [Int.toNat_natCast, e, Nat.mul_comm]
      exact Nat.le_of_lt (low1000 hz)
    · rw [Int.toNat_natCast] at *
      refine q _ _ ((s1.trans s2).trans (same_upd np)) (.lst (vis_at (f.grow (s1.trans s2) p np) upd_same) ?_ ((rep_many hvs k).same (vis_grow (same_upd np))))
      rw [rep_len, e]
      exact hz
end
end Ev
set_option maxHeartbeats 4000000
/-! twelve nets that are not equal: facts about their data -/
namespace Pw
open PySem PySem.Spec PyProof.Rows L2
def unlN12 : List (List Nd) := [[⟨"a", "ring", [.list [.int 1, .int 2]], []⟩, ⟨"b", "count", [.int 0, .int 1], []⟩, ⟨"c", "keep", [.tuple [.str "mod", .int 3, .list [.int 0, .int 1]]], ["a"]⟩, ⟨"d", "take", [.int 5], ["b"]⟩, ⟨"e", "row", [.list []], []⟩],
  [⟨"a", "ring", [.list [.int 1, .int 2]], []⟩, ⟨"b", "count", [.int 0, .int 1], []⟩, ⟨"c", "keep", [.tuple [.str "mod", .int 3, .list [.int 0, .int 1]]], ["a"]⟩, ⟨"e", "row", [.list []], []⟩, ⟨"d", "take", [.int 5], ["b"]⟩],
  [⟨"a", "ring", [.list [.int 1, .int 2]], []⟩, ⟨"b", "count", [.int 0, .int 1], []⟩, ⟨"c", "keep", [.tuple [.str "mod", .int 3, .list [.int 0, .int 1]]], ["a"]⟩, ⟨"d", "take", [.int 5], ["b"]⟩],
  [⟨"a", "ring", [.list [.int 1, .int 2]], []⟩, ⟨"b", "count", [.int 0, .int 1], []⟩, ⟨"c", "keep", [.tuple [.str "mod", .int 3, .list [.int 0, .int 1]]], ["a"]⟩, ⟨"d", "take", [.int 5], ["b"]⟩, ⟨"f", "row", [.list []], []⟩],
  [⟨"a", "ring", [.list [.int 1, .int 2]], []⟩, ⟨"b", "count", [.int 0, .int 1], []⟩, ⟨"c", "keep", [.tuple [.str "mod", .int 3, .list [.int 0, .int 1]]], ["a"]⟩, ⟨"d", "take", [.int 6], ["b"]⟩, ⟨"e", "row", [.list []], []⟩],
  [⟨"a", "ring", [.list [.int 1, .int 2]], []⟩, ⟨"b", "count", [.int 0, .int 1], []⟩, ⟨"c", "keep", [.tuple [.str "mod", .int 3, .list [.int 0, .int 1]]], ["a"]⟩, ⟨"d", "drop", [.int 5], ["b"]⟩, ⟨"e", "row", [.list []], []⟩],
  [⟨"a", "ring", [.list [.int 1, .int 3]], []⟩, ⟨"b", "count", [.int 0, .int 1], []⟩, ⟨"c", "keep", [.tuple [.str "mod", .int 3, .list [.int 0, .int 1]]], ["a"]⟩, ⟨"d", "take", [.int 5], ["b"]⟩, ⟨"e", "row", [.list []], []⟩],
  [⟨"a", "row", [.list [.int 1, .int 2]], []⟩, ⟨"b", "count", [.int 0, .int 1], []⟩, ⟨"c", "keep", [.tuple [.str "mod", .int 3, .list [.int 0, .int 1]]], ["a"]⟩, ⟨"d", "take", [.int 5], ["b"]⟩, ⟨"e", "row", [.list []], []⟩],
  [⟨"a", "ring", [.list [.int 1, .int 2]], []⟩, ⟨"b", "count", [.int 0, .int 1], []⟩, ⟨"c", "keep", [.tuple [.str "mod", .int 3, .list [.int 0]]], ["a"]⟩, ⟨"d", "take", [.int 5], ["b"]⟩, ⟨"e", "row", [.list []], []⟩],
  [⟨"a", "ring", [.list [.int 1, .int 2]], []⟩, ⟨"b", "count", [.int 0, .int 1], []⟩, ⟨"c", "keep", [.tuple [.str "mod", .int 3, .list [.int 0, .int 2]]], ["a"]⟩, ⟨"d", "take", [.int 5], ["b"]⟩, ⟨"e", "row", [.list []], []⟩],
  [⟨"a", "ring", [.list [.int 1, .int 2]], []⟩, ⟨"b", "count", [.int 0, .int 1], []⟩, ⟨"c", "keep", [.tuple [.str "mod", .int 3, .list [.int 0, .int 1, .int 2]]], ["a"]⟩, ⟨"d", "take", [.int 5], ["b"]⟩, ⟨"e", "row", [.list []], []⟩],
  [⟨"a", "ring", [.list [.int 1, .int 2]], []⟩, ⟨"b", "count", [.int 0, .int 1], []⟩, ⟨"c", "keep", [.tuple [.str "mod", .int 3, .list [.int 0, .int 1]]], ["b"]⟩, ⟨"d", "take", [.int 5], ["a"]⟩, ⟨"e", "row", [.list []], []⟩]]
def unlD : List PyData := unlN12.map fun ns => .list (ns.map Nd.dat)
theorem unl_ok : (unlN12.all fun ns => decide (checkNodes (.list (ns.map Nd.dat)) = none) && smB (.list (ns.map Nd.dat)) && decide (limitN ns = none) && okD 10 (.list (ns.map Nd.dat))) = true := by decide +kernel
theorem unl_len : unlN12.length = 12 := rfl
theorem unl_ne : ((List.range 12).all fun j => (List.range j).all fun i => !PyData.eqv (unlD.getD i .none) (unlD.getD j .none)) = true := by decide +kernel
theorem unl_at {ns : List Nd} (h : ns ∈ unlN12) : checkNodes (.list (ns.map Nd.dat)) = none ∧ smB (.list (ns.map Nd.dat)) = true ∧ limitN ns = none ∧ okD 10 (.list (ns.map Nd.dat)) = true := by
  have := List.all_eq_true.mp unl_ok ns h
  simp only [Bool.and_eq_true, decide_eq_true_eq] at this
  exact ⟨this.1.1.1, this.1.1.2, this.1.2, this.2⟩
theorem unl_differ {i j : Nat} {a b : List Nd} (h : i < j) (ea : unlN12[i]? = some a) (eb : unlN12[j]? = some b) : PyData.eqv (.list (a.map Nd.dat)) (.list (b.map Nd.dat)) = false := by
  have lj : j < 12 := by
    have := (List.getElem?_eq_some_iff.mp eb).1
    exact this
  have := List.all_eq_true.mp (List.all_eq_true.mp unl_ne j (List.mem_range.mpr lj)) i (List.mem_range.mpr h)
  have e1 : unlD.getD i .none = .list (a.map Nd.dat) := by
    unfold unlD
    rw [List.getD_eq_getElem?_getD, List.getElem?_map, ea]
    rfl
  have e2 : unlD.getD j .none = .list (b.map Nd.dat) := by
    unfold unlD
    rw [List.getD_eq_getElem?_getD, List.getElem?_map, eb]
    rfl
  rw [e1, e2] at this
  simpa using this
end Pw
set_option maxHeartbeats 4000000
/-! lists of nets -/
namespace Pw
open PySem PySem.Spec PyProof.Rows L2 Own
/-- what the law wants of the class -/
structure NetMk (P : Program) (w : World) (K : PySem.W.Frag) (mg : Str → Option Value) (base : Heap) (C CN CL fi fe : Addr) (fdi fde : FuncData) : Prop where
  gC : mg "Net" = some (.ref C)
  M : Mk K C fi
  FI : FnOk P w K mg base (L2.CX P w) 16 fi fdi ["self", "nodes"] (spInit K C CN CL)
  bi : Binds K fdi ["self", "nodes"] []
  mE : Meth K C "__eq__" fe
  FE : FnOk P w K mg base CX0 1 fe fde ["self", "other"] (spEqN K C)
  FP : FnOk P w K mg base CX0 1 fe fde ["self", "other"] (spEqP K C)
  bE : Binds K fde ["self", "other"] []
  T : ClsTy K C
  nf : (["NoneType", "int", "str", "list"].all fun T => PySem.W.subIn K (.type T) (.ref C) == some false) = true
section
variable {K : PySem.W.Frag} {C CN CL : Addr}
theorem NetF.off {H : Hp} {a pd D : Addr} {o : HO} {ns : List Nd} (h : NetF K (hid D H) C a pd ns) : NetF K (hid D (upd H D o)) C a pd ns := by
  have e : hid D (upd H D o) = hid D H := by
    funext b
    unfold hid
    by_cases z : b = D
    · rw [if_pos z, if_pos z]
    · rw [if_neg z, if_neg z, upd_ne z]
  rw [e]
  exact h
theorem nets_comp {H : Hp} {σ : L2.St} {Q : VK} {ls : Addr} {xs : List V} (h1 : σ[1]? = some (some (.ref ls))) (hw : ∀ x, wipe ((wipe σ [4]).set 4 (some x)) [4] = wipe σ [4]) (h4 : ∀ x, ((wipe σ [4]).set 4 (some x))[4]? = some (some x)) (hl : H ls = some (.lst xs)) (hd : DvAll K H xs unlD)
    (q : ∀ (D1 : Addr) (ps : List Addr) (H' : Hp), Same H H' → H D1 = none → H' D1 = some (.lst (ps.map V.ref)) → ps.length = 12 → (∀ (i : Nat) (p : Addr) (ns : List Nd), ps[i]? = some p → unlN12[i]? = some ns → H p = none ∧ ∃ pd, NetF K H' C p pd ns) → Q (.ref D1) H') :
    tLc (iList K (tVar 1)) (gName 4) tYes (tMake C (spInit K C CN CL) [] E0 (tCons (tVar 4) tNil)) [4] σ H Q := by
  refine ⟨_, h1, ls, rfl, ⟨_, SqL.of hl⟩, fun D nD => ?_⟩
  have hlen : xs.length = 12 := by rw [hd.length]; rfl
  refine lc_it (walk_list (xs := xs)) (fun i H' => ∃ ps : List Addr, ps.length = i ∧ Same H H' ∧ H' D = some (.lst (ps.map V.ref)) ∧ ∀ (j : Nat) (p : Addr) (ns : List Nd), ps[j]? = some p → unlN12[j]? = some ns → H p = none ∧ ∃ pd, NetF K (hid D H') C p pd ns)
    ⟨[], rfl, same_upd nD, upd_same, fun j p ns e => by simp at e⟩ (fun i H' _ p => ?_) (fun i x H1 H2 hi p y => ?_) (fun H' p => ?_)
  · obtain ⟨ps, _, sm, _⟩ := p
    exact SqL.of (sm _ _ hl)
  · obtain ⟨ps, lp, sm, hD, hps⟩ := p
    obtain ⟨rfl, hx⟩ := y
    have hD : H2 D = some (.lst (ps.map V.ref)) := hD
    have i12 : i < unlN12.length := by rw [unl_len]; omega
    obtain ⟨d, ed, dx⟩ := hd.getV hx
    have ed : d = .list ((unlN12[i]'i12).map Nd.dat) := by
      unfold unlD at ed
      rw [List.getElem?_map, List.getElem?_eq_getElem i12] at ed
      exact (Option.some.inj ed).symm
    subst ed
    obtain ⟨c1, c2, c3, c4⟩ := unl_at (List.getElem_mem i12)
    refine ⟨hw _, ?_⟩
    refine ⟨_, h4 _, fun y dy ny ndy ne => ?_⟩
    have s1 : Same H2 (upd (upd H2 dy (.own y)) y (.ins C dy [])) := (same_upd ndy).trans (same_upd (by rw [upd_ne (fun e => ne e.symm)]; exact ny))
    have back : ∀ {H' : Hp}, Same (hid y (upd (upd H2 dy (.own y)) y (.ins C dy []))) H' → Same H2 H' := fun {H'} s b o e => s _ _ (by
      rw [hid_ne (ne_of_none e ny)]
      exact s1 _ _ e)
    refine ⟨y, dy, x, _, rfl, upd_same, (dx.same sm).same s1, c2, fun n ck' H' dd s' nd' => ?_, fun ms ck' ed n en H' dd s' nd' => ?_, fun ms ck' ed en H4 s' net => ⟨rfl, ?_⟩⟩
    · rw [c1] at ck'
      cases ck'
    · have e : unlN12[i] = ms := nds_inj (by injection ed)
      subst e
      rw [c3] at en
      cases en
    · have e : unlN12[i] = ms := nds_inj (by injection ed)
      subst e
      have s24 := back s'
      obtain ⟨dx2, v, pd, g1, g2, g3, g4⟩ := net.at_
      have yD : y ≠ D := fun e => by rw [e, hD] at ny; cases ny
      have pdD : pd ≠ D := fun e => by
        rw [e, s1 _ _ hD] at g3
        cases g3
      have full : NetF K (hid D H4) C y pd unlN12[i] := by
        refine ⟨⟨dx2, v, by rw [hid_ne yD]; exact g1, g4.same fun b o e => ?_⟩, by rw [hid_ne pdD]; exact g2, net.wired, net.some_, net.few⟩
        have bD : b ≠ D := fun z => by
          unfold newOf at e
          rw [z, s1 _ _ hD] at e
          cases e
        rw [hid_ne bD]
        exact newOf_same b o e
      refine ⟨_, s24 _ _ hD, by rw [List.length_map, lp]; exact Nat.lt_of_lt_of_le hi (by rw [hlen]; decide), ps ++ [y], by rw [List.length_append, lp]; rfl, fun b o e => ?_, by rw [upd_same, List.map_append]; rfl, fun j p ns ej en2 => ?_⟩
      · rw [upd_ne (ne_of_none e nD)]
        exact s24 _ _ (sm _ _ e)
      · by_cases hj : j < ps.length
        · rw [List.getElem?_append_left hj] at ej
          obtain ⟨n1, pd', f'⟩ := hps j p ns ej en2
          refine ⟨n1, pd', (f'.same fun b o e => ?_).off⟩
          obtain ⟨z, e⟩ := hid_of e
          rw [hid_ne z]
          exact s24 _ _ e
        · have ej2 : j = i := by
            have := (List.getElem?_eq_some_iff.mp ej).1
            rw [List.length_append, lp] at this
            simp at this
            omega
          subst ej2
          rw [List.getElem?_append_right (by omega), lp, Nat.sub_self] at ej
          have : y = p := by simpa using ej
          subst this
          rw [List.getElem?_eq_getElem i12] at en2
          cases en2
          refine ⟨?_, pd, full.off⟩
          cases z : H y with
          | none => rfl
          | some o =>
            rw [sm _ _ z] at ny
            cases ny
  · obtain ⟨ps, lp, sm, hD, hps⟩ := p
    refine q D ps H' sm nD hD (by rw [lp, hlen]) fun i p ns e1 e2 => ?_
    obtain ⟨n1, pd, f⟩ := hps i p ns e1 e2
    exact ⟨n1, pd, f.same fun b o e => (hid_of e).2⟩
end
end Pw
set_option maxHeartbeats 16000000
/-! _law_unlike_right -/
namespace Pw
open PySem PySem.Spec PyProof.Rows L2 Own
open Ev (vis vis_at vis_of vis_same vis_mono vis_grow Fresh nu fresh_nu vis_nu)
abbrev sUnl : Stmt := topS 69
abbrev unlN : List Str := ["_law_base", "_law_some", "_law_residues", "_law_crossed", "_law_nodes_here", "_law_nets", "_law_k", "_law_j"]
theorem scUnl : FnScope unlN [] (defScope sUnl) := ⟨rfl, rfl, rfl, by decide +kernel, rfl, by decide +kernel, by decide +kernel⟩
theorem ixL {X : Cx} {K : PySem.W.Frag} (h : X.K = K) : IxR X (rIxL K) := by
  subst h
  exact ix_list
theorem for_ev2 {K : PySem.W.Frag} {U : Addr → Bool} {H : Hp} {σ : L2.St} {tl : TE} {ds : List PyData} {g : TG} {tb u : TS} {D : Ends} (he : Ev.E K U H σ tl (.list ds)) (fr : Ev.Fresh U H)
    (h : ∀ l xs H1, Same H H1 → Ev.vis U H1 l = some (.lst xs) → DvAll K (Ev.vis U H1) xs ds → ∃ Pv : Nat → L2.St → Hp → Prop, Pv 0 σ H1 ∧ (∀ i σ H, i ≤ xs.length → Pv i σ H → SqL K H l xs) ∧ (∀ i x σ H, xs[i]? = some x → Pv i σ H → g x σ H fun σ2 H2 => tb { D with nx := Pv (i + 1), ct := Pv (i + 1), bk := u D } σ2 H2) ∧ ∀ σ H, Pv xs.length σ H → u D σ H) : tSeq (tFor (iList K tl) g tb) u D σ H := by
  refine he H _ fr Ev.vis_same fun v H1 s1 d1 => ?_
  cases d1 with
  | @lst l xs _ hl hz hds =>
    obtain ⟨Pv, p0, pl, ps, pd⟩ := h l xs H1 s1 hl hds
    exact ⟨l, rfl, ⟨xs, SqL.of (Ev.vis_of hl).2⟩, for_list (D := { D with nx := u D }) Pv p0 pl ps pd⟩
def baseL : List PyData := (unlN12.getD 0 []).map Nd.dat
def appD (r : PyData) : PyData := .list ((baseL.take 2 ++ [.tuple [.str "c", .str "keep", .tuple [.tuple [.str "mod", .int 3, r]], .list [.str "a"]]]) ++ baseL.drop 3)
def REq (K : PySem.W.Frag) (C : Addr) (a b : Addr) (H : Hp) : Prop := ∃ (pd pe : Addr) (ns : List Nd), NetF K H C a pd ns ∧ NetF K H C b pe ns ∧ okD 10 (.list (ns.map Nd.dat)) = true
section
variable {P : Program} {w : World} {K : PySem.W.Frag} {mg : Str → Option Value} {base : Heap} {C CN CL fi fe : Addr} {fdi fde : FuncData}
theorem ins_mon : Mon (DIns C (REq K C)) := fun x y H H' e d => by
  obtain ⟨a, b, dx, dy, fs, gs, rfl, rfl, ha, hb, pd, pe, ns, h1, h2, h3⟩ := d
  exact ⟨a, b, dx, dy, fs, gs, rfl, rfl, e _ _ ha, e _ _ hb, pd, pe, ns, h1.same e, h2.same e, h3⟩
theorem nets_rc {X : Cx} (Cs : NetMk X.prog X.w X.K X.mg X.base C CN CL fi fe fdi fde) (hx : Passes CX0 X E0) : RcG X 2 (DList (DIns C (REq X.K C))) := by
  refine rcG_list ins_mon (eqG_ins (CX := CX0) (E := E0) (FnOk.imp Cs.FE fun vs H Q E h => ?_) Cs.mE.at_ Cs.mE.fn Cs.bE hx)
  obtain ⟨a, b, rfl, ⟨pd, pe, ns, h1, h2, h3⟩, k⟩ := h
  refine ⟨a, b, pd, pe, ns, ns, rfl, h1, h2, okD_shaped h3 (by decide), okD_shaped h3 (by decide), okD_noDict 10 _ h3, okD_noDict 10 _ h3, ?_⟩
  rw [PySem.SeqAt.eqv_refl _ (okD_lay 10 _ h3).1]
  exact k H fun b o e => e
def spUnl : Sp := fun vs H Q _ => vs = [] ∧ ∀ H', Same H H' → Q (.bl true) H'
theorem ok_unl (B : Blt mg) (Cs : NetMk P w K mg base C CN CL fi fe fdi fde) (D : Dfn K mg "_law_unlike_right" sUnl []) : DefOk P w K mg base CX0 18 "_law_unlike_right" [] spUnl := D.ok fun f fd F => by
  refine F.ok scUnl (fun vs H Q E h => ?_) (fun cdv A outer s H vs Q E hr h => ?_)
  · obtain ⟨rfl, _⟩ := h
    rfl
  · obtain ⟨rfl, q⟩ := h
    have nd := scUnl.nd
    have hxP : Passes (L2.CX P w) (cxOf CX0 P w K mg base unlN "_law_unlike_right" (defScope sUnl) f cdv A outer s H E).nox E0 := passes_call L2.takes0 fun _ _ _ _ h => h
    refine ⟨_, (pss_cons (ps_set (i := 0) nd rfl (.inl rfl) (pe_lst (pa_cons (pe_tup (pa_cons pe_str (pa_cons pe_str (pa_cons (pe_tup (pa_cons (pe_lst (pa_cons pe_int (pa_cons pe_int pa_nil))) pa_nil)) (pa_cons (pe_lst pa_nil) pa_nil))))) (pa_cons (pe_tup (pa_cons pe_str (pa_cons pe_str (pa_cons (pe_tup (pa_cons pe_int (pa_cons pe_int pa_nil))) (pa_cons (pe_lst pa_nil) pa_nil))))) pa_nil))))
      (pss_cons (ps_set (i := 0) nd rfl (.inl rfl) (pe_op op_cat (pv 0) (pe_lst (pa_cons (pe_tup (pa_cons pe_str (pa_cons pe_str (pa_cons (pe_tup (pa_cons (pe_tup (pa_cons pe_str (pa_cons pe_int (pa_cons (pe_lst (pa_cons pe_int (pa_cons pe_int pa_nil))) pa_nil)))) pa_nil)) (pa_cons (pe_lst (pa_cons pe_str pa_nil)) pa_nil))))) pa_nil))))
      (pss_cons (ps_set (i := 0) nd rfl (.inl rfl) (pe_op op_cat (pv 0) (pe_lst (pa_cons (pe_tup (pa_cons pe_str (pa_cons pe_str (pa_cons (pe_tup (pa_cons pe_int pa_nil)) (pa_cons (pe_lst (pa_cons pe_str pa_nil)) pa_nil))))) (pa_cons (pe_tup (pa_cons pe_str (pa_cons pe_str (pa_cons (pe_tup (pa_cons (pe_lst pa_nil) pa_nil)) (pa_cons (pe_lst pa_nil) pa_nil))))) pa_nil)))))
      (pss_cons (ps_set (i := 1) nd rfl (.inl rfl) (pe_lst (pa_cons (pv 0) (pa_cons (pe_op op_cat (pe_slice sl_list (pv 0) po_none (po_some pe_int)) (pe_lst (pa_cons (pe_ix ix_list (pv 0) pe_int (fun _ _ => rfl)) (pa_cons (pe_ix ix_list (pv 0) pe_int (fun _ _ => rfl)) pa_nil)))) (pa_cons (pe_slice sl_list (pv 0) po_none (po_some pe_int)) (pa_cons (pe_op op_cat (pe_slice sl_list (pv 0) po_none (po_some pe_int)) (pe_lst (pa_cons (pe_tup (pa_cons pe_str (pa_cons pe_str (pa_cons (pe_tup (pa_cons (pe_lst pa_nil) pa_nil)) (pa_cons (pe_lst pa_nil) pa_nil))))) pa_nil))) pa_nil))))))
      (pss_cons (ps_set (i := 1) nd rfl (.inl rfl) (pe_op op_cat (pv 1) (pe_lst (pa_cons (pe_op op_cat (pe_slice sl_list (pv 0) po_none (po_some pe_int)) (pe_lst (pa_cons (pe_tup (pa_cons pe_str (pa_cons pe_str (pa_cons (pe_tup (pa_cons pe_int pa_nil)) (pa_cons (pe_lst (pa_cons pe_str pa_nil)) pa_nil))))) (pa_cons (pe_ix ix_list (pv 0) pe_int (fun _ _ => rfl)) pa_nil)))) pa_nil))))
      (pss_cons (ps_set (i := 1) nd rfl (.inl rfl) (pe_op op_cat (pv 1) (pe_lst (pa_cons (pe_op op_cat (pe_slice sl_list (pv 0) po_none (po_some pe_int)) (pe_lst (pa_cons (pe_tup (pa_cons pe_str (pa_cons pe_str (pa_cons (pe_tup (pa_cons pe_int pa_nil)) (pa_cons (pe_lst (pa_cons pe_str pa_nil)) pa_nil))))) (pa_cons (pe_ix ix_list (pv 0) pe_int (fun _ _ => rfl)) pa_nil)))) pa_nil))))
      (pss_cons (ps_set (i := 1) nd rfl (.inl rfl) (pe_op op_cat (pv 1) (pe_lst (pa_cons (pe_op op_cat (pe_lst (pa_cons (pe_tup (pa_cons pe_str (pa_cons pe_str (pa_cons (pe_tup (pa_cons (pe_lst (pa_cons pe_int (pa_cons pe_int pa_nil))) pa_nil)) (pa_cons (pe_lst pa_nil) pa_nil))))) pa_nil)) (pe_slice sl_list (pv 0) (po_some pe_int) po_none)) (pa_cons (pe_op op_cat (pe_lst (pa_cons (pe_tup (pa_cons pe_str (pa_cons pe_str (pa_cons (pe_tup (pa_cons (pe_lst (pa_cons pe_int (pa_cons pe_int pa_nil))) pa_nil)) (pa_cons (pe_lst pa_nil) pa_nil))))) pa_nil)) (pe_slice sl_list (pv 0) (po_some pe_int) po_none)) pa_nil)))))
      (pss_cons (ps_for PassesOwn.never rfl (pi_list (pe_lst (pa_cons (pe_lst (pa_cons pe_int pa_nil)) (pa_cons (pe_lst (pa_cons pe_int (pa_cons pe_int pa_nil))) (pa_cons (pe_lst (pa_cons pe_int (pa_cons pe_int (pa_cons pe_int pa_nil)))) pa_nil))))) (pg_name (i := 2) nd rfl (Or.inl rfl))
        (pss_one (ps_expr (pe_bm PySem.F.plainAttrs_list PySem.F.slot_list_append PySem.F.type_list_append mt_append (pv 1) (pa_cons (pe_op op_cat (pe_op op_cat (pe_slice sl_list (pv 0) po_none (po_some pe_int)) (pe_lst (pa_cons (pe_tup (pa_cons pe_str (pa_cons pe_str (pa_cons (pe_tup (pa_cons (pe_tup (pa_cons pe_str (pa_cons pe_int (pa_cons (pv 2) pa_nil)))) pa_nil)) (pa_cons (pe_lst (pa_cons pe_str pa_nil)) pa_nil))))) pa_nil))) (pe_slice sl_list (pv 0) (po_some pe_int) po_none)) pa_nil)))))
      (pss_cons (ps_set (i := 3) nd rfl (.inl rfl) (pe_lst (pa_cons (pe_tup (pa_cons pe_str (pa_cons pe_str (pa_cons (pe_tup (pa_cons (pe_tup (pa_cons pe_str (pa_cons pe_int (pa_cons (pe_lst (pa_cons pe_int (pa_cons pe_int pa_nil))) pa_nil)))) pa_nil)) (pa_cons (pe_lst (pa_cons pe_str pa_nil)) pa_nil))))) (pa_cons (pe_tup (pa_cons pe_str (pa_cons pe_str (pa_cons (pe_tup (pa_cons pe_int pa_nil)) (pa_cons (pe_lst (pa_cons pe_str pa_nil)) pa_nil))))) pa_nil))))
      (pss_cons (ps_expr (pe_bm PySem.F.plainAttrs_list PySem.F.slot_list_append PySem.F.type_list_append mt_append (pv 1) (pa_cons (pe_op op_cat (pe_op op_cat (pe_slice sl_list (pv 0) po_none (po_some pe_int)) (pv 3)) (pe_slice sl_list (pv 0) (po_some pe_int) po_none)) pa_nil)))
      (pss_cons (ps_set (i := 5) nd rfl (.inr rfl) (pe_lc (own := [("_law_nodes_here", 4)]) (g := gName 4) (tt := tYes) rfl nd (pi_list (pv 1)) (blkOk_by (N := unlN) (sc := defScope sUnl) (by decide +kernel)) (fun _ _ _ _ _ => (pg_name (i := 4) nd rfl (Or.inl rfl))) (fun _ _ _ _ _ => pts_nil) (fun _ _ _ _ _ => (pe_make Cs.M Cs.FI (hr.mono (by decide)) (by rfl) Cs.gC Cs.bi .nil (passes_call L2.takes0 fun _ _ _ _ h => h) (pa_cons (pv 4) pa_nil)))))
      (pss_cons (ps_for PassesOwn.never rfl (pi_range1 rfl B.range (pa_cons (pe_callB call_len_seq (by rfl) B.len PySem.boot_len (pa_cons (pv 5) pa_nil)) pa_nil)) (pg_name (i := 6) nd rfl (Or.inr rfl))
        (pss_one (ps_if (pt_cmpR (op_neD hr.units) (pe_lc (own := [("_law_j", 7)]) (g := gName 7) rfl nd (pi_range1 rfl B.range (pa_cons (pv 6) pa_nil)) (blkOk_by (N := unlN) (sc := defScope sUnl) (by decide +kernel)) (fun _ _ _ _ _ => (pg_name (i := 7) nd rfl (Or.inl rfl))) (fun _ _ _ _ _ => (pts_one (PW.pt (pw_or (pt_cmpR (op_eqOwn Cs.mE Cs.FE (hr.mono (by decide)) Cs.bE pass0) (pe_ix (ixL (K := K) rfl) (pv 5) (pv 7) (fun _ _ => rfl)) (pe_ix (ixL (K := K) rfl) (pv 5) (pv 6) (fun _ _ => rfl)) (nomark _)) (pw_or1 (pt_not (pt_cmpR (op_neOwn Cs.mE Cs.T.ne Cs.T.hm Cs.FE (hr.mono (by decide)) Cs.bE pass0) (pe_ix (ixL (K := K) rfl) (pv 5) (pv 7) (fun _ _ => rfl)) (pe_ix (ixL (K := K) rfl) (pv 5) (pv 6) (fun _ _ => rfl)) (nomark _)))))))) (fun _ _ _ _ _ => pe_int)) (pe_lst pa_nil) (nomark _)) (pss_one (ps_ret pe_bl)) pss_nil)))
      (pss_one (ps_ret (pe_cmpR (op_eqG (nets_rc Cs pass0) (hr.mono (by decide))) (pe_lc (own := [("_law_nodes_here", 4)]) (g := gName 4) (tt := tYes) rfl nd (pi_list (pv 1)) (blkOk_by (N := unlN) (sc := defScope sUnl) (by decide +kernel)) (fun _ _ _ _ _ => (pg_name (i := 4) nd rfl (Or.inl rfl))) (fun _ _ _ _ _ => pts_nil) (fun _ _ _ _ _ => (pe_make Cs.M Cs.FI (hr.mono (by decide)) (by rfl) Cs.gC Cs.bi .nil (passes_call L2.takes0 fun _ _ _ _ h => h) (pa_cons (pv 4) pa_nil)))) (pv 5) (nomark _)))))))))))))))), ?_⟩
    refine Dr.seqasg_of ?_
    refine ((Ev.lst (Ev.cons (Ev.tup (Ev.cons Ev.str (Ev.cons Ev.str (Ev.cons (Ev.tup (Ev.cons (Ev.lst (Ev.cons Ev.int (Ev.cons Ev.int Ev.nil))) Ev.nil)) (Ev.cons (Ev.lst Ev.nil) Ev.nil))))) (Ev.cons (Ev.tup (Ev.cons Ev.str (Ev.cons Ev.str (Ev.cons (Ev.tup (Ev.cons Ev.int (Ev.cons Ev.int Ev.nil))) (Ev.cons (Ev.lst Ev.nil) Ev.nil))))) Ev.nil))) : Ev.E K (nu H) H _ _ _) H _ (fresh_nu H) vis_same fun v1 H1 t1 d1 => ?_
    refine Dr.name_of ?_
    have s1 : Same H H1 := t1
    refine Dr.seqasg_of ?_
    refine ((Ev.cat (Ev.var rfl d1) (Ev.lst (Ev.cons (Ev.tup (Ev.cons Ev.str (Ev.cons Ev.str (Ev.cons (Ev.tup (Ev.cons (Ev.tup (Ev.cons Ev.str (Ev.cons Ev.int (Ev.cons (Ev.lst (Ev.cons Ev.int (Ev.cons Ev.int Ev.nil))) Ev.nil)))) Ev.nil)) (Ev.cons (Ev.lst (Ev.cons Ev.str Ev.nil)) Ev.nil))))) Ev.nil))) : Ev.E K (nu H) H1 _ _ _) H1 _ (fresh_nu H |>.grow s1) vis_same fun v2 H2 t2 d2 => ?_
    refine Dr.name_of ?_
    have s2 : Same H H2 := s1.trans t2
    refine Dr.seqasg_of ?_
    refine ((Ev.cat (Ev.var rfl d2) (Ev.lst (Ev.cons (Ev.tup (Ev.cons Ev.str (Ev.cons Ev.str (Ev.cons (Ev.tup (Ev.cons Ev.int Ev.nil)) (Ev.cons (Ev.lst (Ev.cons Ev.str Ev.nil)) Ev.nil))))) (Ev.cons (Ev.tup (Ev.cons Ev.str (Ev.cons Ev.str (Ev.cons (Ev.tup (Ev.cons (Ev.lst Ev.nil) Ev.nil)) (Ev.cons (Ev.lst Ev.nil) Ev.nil))))) Ev.nil)))) : Ev.E K (nu H) H2 _ _ _) H2 _ (fresh_nu H |>.grow s2) vis_same fun v3 H3 t3 d3 => ?_
    refine Dr.name_of ?_
    have s3 : Same H H3 := s2.trans t3
    refine Dr.seqasg_of ?_
    refine ((Ev.lst (Ev.cons (Ev.var rfl d3) (Ev.cons (Ev.cat (Ev.cutTo (n := 3) (Ev.var rfl d3) (Ev.int (i := 3))) (Ev.lst (Ev.cons (Ev.ixl (i := 4) (Ev.var rfl d3) (Ev.int (i := 4)) rfl) (Ev.cons (Ev.ixl (i := 3) (Ev.var rfl d3) (Ev.int (i := 3)) rfl) Ev.nil)))) (Ev.cons (Ev.cutTo (n := 4) (Ev.var rfl d3) (Ev.int (i := 4))) (Ev.cons (Ev.cat (Ev.cutTo (n := 4) (Ev.var rfl d3) (Ev.int (i := 4))) (Ev.lst (Ev.cons (Ev.tup (Ev.cons Ev.str (Ev.cons Ev.str (Ev.cons (Ev.tup (Ev.cons (Ev.lst Ev.nil) Ev.nil)) (Ev.cons (Ev.lst Ev.nil) Ev.nil))))) Ev.nil))) Ev.nil))))) : Ev.E K (nu H) H3 _ _ _) H3 _ (fresh_nu H |>.grow s3) vis_same fun v4 H4 t4 d4 => ?_
    refine Dr.name_of ?_
    have s4 : Same H H4 := s3.trans t4
    have b4 := d3.same (vis_grow t4)
    refine Dr.seqasg_of ?_
    refine ((Ev.cat (Ev.var rfl d4) (Ev.lst (Ev.cons (Ev.cat (Ev.cutTo (n := 3) (Ev.var rfl b4) (Ev.int (i := 3))) (Ev.lst (Ev.cons (Ev.tup (Ev.cons Ev.str (Ev.cons Ev.str (Ev.cons (Ev.tup (Ev.cons Ev.int Ev.nil)) (Ev.cons (Ev.lst (Ev.cons Ev.str Ev.nil)) Ev.nil))))) (Ev.cons (Ev.ixl (i := 4) (Ev.var rfl b4) (Ev.int (i := 4)) rfl) Ev.nil)))) Ev.nil))) : Ev.E K (nu H) H4 _ _ _) H4 _ (fresh_nu H |>.grow s4) vis_same fun v5 H5 t5 d5 => ?_
    refine Dr.name_of ?_
    have s5 : Same H H5 := s4.trans t5
    have b5 := b4.same (vis_grow t5)
    refine Dr.seqasg_of ?_
    refine ((Ev.cat (Ev.var rfl d5) (Ev.lst (Ev.cons (Ev.cat (Ev.cutTo (n := 3) (Ev.var rfl b5) (Ev.int (i := 3))) (Ev.lst (Ev.cons (Ev.tup (Ev.cons Ev.str (Ev.cons Ev.str (Ev.cons (Ev.tup (Ev.cons Ev.int Ev.nil)) (Ev.cons (Ev.lst (Ev.cons Ev.str Ev.nil)) Ev.nil))))) (Ev.cons (Ev.ixl (i := 4) (Ev.var rfl b5) (Ev.int (i := 4)) rfl) Ev.nil)))) Ev.nil))) : Ev.E K (nu H) H5 _ _ _) H5 _ (fresh_nu H |>.grow s5) vis_same fun v6 H6 t6 d6 => ?_
    refine Dr.name_of ?_
    have s6 : Same H H6 := s5.trans t6
    have b6 := b5.same (vis_grow t6)

    refine Dr.seqasg_of ?_
    refine opr_of ⟨_, rfl, ?_⟩
    refine ((Ev.lst (Ev.cons (Ev.cat (Ev.lst (Ev.cons (Ev.tup (Ev.cons Ev.str (Ev.cons Ev.str (Ev.cons (Ev.tup (Ev.cons (Ev.lst (Ev.cons Ev.int (Ev.cons Ev.int Ev.nil))) Ev.nil)) (Ev.cons (Ev.lst Ev.nil) Ev.nil))))) Ev.nil)) (Ev.cutFrom (n := 1) (Ev.var rfl b6) (Ev.int (i := 1)))) (Ev.cons (Ev.cat (Ev.lst (Ev.cons (Ev.tup (Ev.cons Ev.str (Ev.cons Ev.str (Ev.cons (Ev.tup (Ev.cons (Ev.lst (Ev.cons Ev.int (Ev.cons Ev.int Ev.nil))) Ev.nil)) (Ev.cons (Ev.lst Ev.nil) Ev.nil))))) Ev.nil)) (Ev.cutFrom (n := 1) (Ev.var rfl b6) (Ev.int (i := 1)))) Ev.nil))) : Ev.E K (nu H) H6 _ _ _) H6 _ (fresh_nu H |>.grow s6) vis_same fun v7 H7 t7 d7 => ?_
    have s7 : Same H H7 := s6.trans t7
    have b7 := b6.same (vis_grow t7)
    have d67 := d6.same (vis_grow t7)
    have f7 : Fresh (nu H) H7 := (fresh_nu H).grow s7
    cases d67 with
    | @lst l6 xs6 _ hl6 hz6 hx6 =>
    cases d7 with
    | @lst l7 xs7 _ hl7 hz7 hx7 =>
    refine ⟨l6, l7, xs6, xs7, rfl, rfl, (vis_of hl6).2, (vis_of hl7).2, by rw [hx6.length, hx7.length]; exact Nat.le_of_ble_eq_true rfl, fun ls nls => Dr.name_of ?_⟩
    have nlsH : H ls = none := by
      cases e : H ls with
      | none => rfl
      | some o => rw [s7 _ _ e] at nls; cases nls
    have t8 : Same H7 (upd H7 ls (.lst (xs6 ++ xs7))) := same_upd nls
    have hls8 : upd H7 ls (.lst (xs6 ++ xs7)) ls = some (.lst (xs6 ++ xs7)) := upd_same
    have grow8 : Same (vis (nu H) H7) (vis (Dr.les (nu H) ls) (upd H7 ls (.lst (xs6 ++ xs7)))) := fun b o e => by
      obtain ⟨u, e⟩ := vis_of e
      have bl := ne_of_none e nls
      refine vis_at (Dr.les_at u bl) ?_
      rw [upd_ne bl]
      exact e
    have hx8 := (hx6.append hx7).same grow8
    have b8 := b7.same grow8
    have f8 : Fresh (Dr.les (nu H) ls) (upd H7 ls (.lst (xs6 ++ xs7))) := Dr.les_fresh (f7.grow t8) hls8
    have s8 := s7.trans t8
    generalize upd H7 ls (.lst (xs6 ++ xs7)) = H8 at *
    -- the three more
    refine for_ev2 (U := Dr.les (nu H) ls) ((Ev.lst (Ev.cons (Ev.lst (Ev.cons Ev.int Ev.nil)) (Ev.cons (Ev.lst (Ev.cons Ev.int (Ev.cons Ev.int Ev.nil))) (Ev.cons (Ev.lst (Ev.cons Ev.int (Ev.cons Ev.int (Ev.cons Ev.int Ev.nil)))) Ev.nil))))) f8 fun lr xr H9 t9 hlr hxr => ⟨fun j σ H' => ∃ (z2 : Option V) (xs : List V), σ = [some v3, some (.ref ls), z2, none, none, none, none, none] ∧ Same (vis (Dr.les (nu H) ls) H9) H' ∧ Same H H' ∧ Fresh (Dr.les (nu H) ls) H' ∧ H' ls = some (.lst xs) ∧ DvAll K (vis (Dr.les (nu H) ls) H') xs (unlD.take (8 + j)),
      ⟨none, _, rfl, vis_same, s8.trans t9, f8.grow t9, t9 _ _ hls8, hx8.same (vis_grow t9)⟩, fun i σ H' _ p => ?_, fun i x σ H' hi p => ?_, fun σ H' p => ?_⟩
    · obtain ⟨z2, xs, rfl, sm, _⟩ := p
      exact SqL.of (sm _ _ hlr)
    · obtain ⟨z2, xs, rfl, sm, sH, fr, hl, hx⟩ := p
      obtain ⟨r, er, hr0⟩ := hxr.getV hi
      have i2 : i ≤ 2 ∧ unlD.take (8 + i) ++ [appD r] = unlD.take (8 + (i + 1)) := by
        match i, er with
        | 0, er => cases er; exact ⟨by decide, rfl⟩
        | 1, er => cases er; exact ⟨by decide, rfl⟩
        | 2, er => cases er; exact ⟨by decide, rfl⟩
      have dr := hr0.same (vis_mono sm)
      have bj := (b8.same (vis_grow t9)).same (vis_mono sm)
      refine Dr.name_of ?_
      refine ⟨_, rfl, .inl ⟨rfl, _, SqL.of hl⟩, ?_⟩
      refine ((Ev.cat (Ev.cat (Ev.cutTo (n := 2) (Ev.var rfl bj) (Ev.int (i := 2))) (Ev.lst (Ev.cons (Ev.tup (Ev.cons Ev.str (Ev.cons Ev.str (Ev.cons (Ev.tup (Ev.cons (Ev.tup (Ev.cons Ev.str (Ev.cons Ev.int (Ev.cons (Ev.var rfl dr) Ev.nil)))) Ev.nil)) (Ev.cons (Ev.lst (Ev.cons Ev.str Ev.nil)) Ev.nil))))) Ev.nil))) (Ev.cutFrom (n := 3) (Ev.var rfl bj) (Ev.int (i := 3)))) : Ev.E K (Dr.les (nu H) ls) H' _ _ (appD r)) H' _ fr vis_same fun v H10 t10 d10 => ?_
      have lx : xs.length ≤ 20 := by
        rw [hx.length, List.length_take]
        omega
      refine ⟨ls, xs, v, rfl, rfl, t10 _ _ hl, Nat.lt_of_le_of_lt lx (by decide), some x, xs ++ [v], rfl, fun b o e => ?_, fun b o e => ?_, fun b e => ?_, upd_same, ?_⟩
      · have e' := t10 _ _ (sm _ _ e)
        obtain ⟨u, _⟩ := vis_of e
        rw [upd_ne (Dr.les_of u).2]
        exact e'
      · rw [upd_ne (ne_of_none e nlsH)]
        exact t10 _ _ (sH _ _ e)
      · have bl : b ≠ ls := fun z => by
          rw [z, upd_same] at e
          cases e
        rw [upd_ne bl] at e
        refine fr b ?_
        cases z : H' b with
        | none => rfl
        | some o => rw [t10 _ _ z] at e; cases e
      · rw [← i2.2]
        have eU : vis (Dr.les (nu H) ls) (upd H10 ls (.lst (xs ++ [v]))) = vis (Dr.les (nu H) ls) H10 := vis_upd (by
          cases z : Dr.les (nu H) ls ls with
          | false => rfl
          | true => exact absurd rfl (Dr.les_of z).2)
        rw [eU]
        exact (hx.same (vis_grow t10)).append (.cons d10 .nil)
    · obtain ⟨z2, xs, rfl, sm, sH, fr, hl, hx⟩ := p
      have len3 : xr.length = 3 := hxr.length
      rw [len3] at hx
      have bj := (b8.same (vis_grow t9)).same (vis_mono sm)
      refine Dr.seqasg_of ?_
      refine ((Ev.lst (Ev.cons (Ev.tup (Ev.cons Ev.str (Ev.cons Ev.str (Ev.cons (Ev.tup (Ev.cons (Ev.tup (Ev.cons Ev.str (Ev.cons Ev.int (Ev.cons (Ev.lst (Ev.cons Ev.int (Ev.cons Ev.int Ev.nil))) Ev.nil)))) Ev.nil)) (Ev.cons (Ev.lst (Ev.cons Ev.str Ev.nil)) Ev.nil))))) (Ev.cons (Ev.tup (Ev.cons Ev.str (Ev.cons Ev.str (Ev.cons (Ev.tup (Ev.cons Ev.int Ev.nil)) (Ev.cons (Ev.lst (Ev.cons Ev.str Ev.nil)) Ev.nil))))) Ev.nil))) : Ev.E K (Dr.les (nu H) ls) H' _ _ _) H' _ fr vis_same fun v11 H11 t11 d11 => ?_
      have b11 := bj.same (vis_grow t11)
      refine Dr.name_of ?_
      refine drop_of ⟨_, rfl, .inl ⟨rfl, _, SqL.of (t11 _ _ hl)⟩, ?_⟩
      refine ((Ev.cat (Ev.cat (Ev.cutTo (n := 2) (Ev.var rfl b11) (Ev.int (i := 2))) (Ev.var rfl d11)) (Ev.cutFrom (n := 4) (Ev.var rfl b11) (Ev.int (i := 4)))) : Ev.E K (Dr.les (nu H) ls) H11 _ _ (unlD.getD 11 .none)) H11 _ (fr.grow t11) vis_same fun v12 H12 t12 d12 => ?_
      have t12' := t11.trans t12
      have lx : xs.length ≤ 20 := by
        rw [hx.length, List.length_take]
        omega
      refine ⟨ls, xs, v12, rfl, rfl, t12' _ _ hl, Nat.lt_of_le_of_lt lx (by decide), ?_⟩
      have hx13 : DvAll K (upd H12 ls (.lst (xs ++ [v12]))) (xs ++ [v12]) unlD := by
        have eU : vis (Dr.les (nu H) ls) (upd H12 ls (.lst (xs ++ [v12]))) = vis (Dr.les (nu H) ls) H12 := vis_upd (by
          cases z : Dr.les (nu H) ls ls with
          | false => rfl
          | true => exact absurd rfl (Dr.les_of z).2)
        have h : DvAll K (vis (Dr.les (nu H) ls) H12) (xs ++ [v12]) (unlD.take 11 ++ [unlD.getD 11 .none]) := (hx.same (vis_grow t12')).append (.cons d12 .nil)
        rw [← eU] at h
        exact h.same vis_same
      have s13 : Same H (upd H12 ls (.lst (xs ++ [v12]))) := fun b o e => by
        rw [upd_ne (ne_of_none e nlsH)]
        exact t12' _ _ (sH _ _ e)
      have hl13 : upd H12 ls (.lst (xs ++ [v12])) ls = some (.lst (xs ++ [v12])) := upd_same
      generalize upd H12 ls (.lst (xs ++ [v12])) = H13 at *
      generalize xs ++ [v12] = ys at *
      refine Dr.seqasg_of ?_
      refine nets_comp (K := K) (C := C) (CN := CN) (CL := CL) (ls := ls) rfl (fun x => rfl) (fun x => rfl) hl13 hx13 fun D1 ps H14 s14 nD1 e14 lp hps => ?_
      refine Dr.name_of ?_
      have hps' : ∀ (i : Nat) (p : Addr) (ns : List Nd), ps[i]? = some p → unlN12[i]? = some ns → ∃ pd, NetF K H14 C p pd ns := fun i p ns e1 e2 => (hps i p ns e1 e2).2
      have at12 : ∀ {k : Nat}, k < 12 → ∃ (p pd : Addr) (ns : List Nd), ps[k]? = some p ∧ unlN12[k]? = some ns ∧ NetF K H14 C p pd ns ∧ okD 10 (.list (ns.map Nd.dat)) = true := fun {k} hk => by
        have h1 : k < ps.length := by omega
        have h2 : k < unlN12.length := by rw [unl_len]; exact hk
        obtain ⟨pd, f⟩ := hps' k _ _ (List.getElem?_eq_getElem h1) (List.getElem?_eq_getElem h2)
        exact ⟨_, pd, _, List.getElem?_eq_getElem h1, List.getElem?_eq_getElem h2, f, (unl_at (List.getElem_mem h2)).2.2.2⟩
      have getP : ∀ {k : Nat} {p : Addr}, ps[k]? = some p → (ps.map V.ref)[k]? = some (.ref p) := fun {k p} e => by
        rw [List.getElem?_map, e]
        rfl
      refine fn_of' ⟨_, rfl, D1, _, rfl, .inl (SqL.of e14), _, rfl, by omega, by rw [List.length_map, lp]; decide, ?_⟩
      rw [List.length_map, lp]
      refine for_range (lo := 0) (n := ((12 : Nat) : Int).toNat) (fun k σ H' => ∃ (z6 z7 : Option V), σ = [some v3, some (.ref ls), z2, some v11, none, some (.ref D1), z6, z7] ∧ Same H14 H') ⟨none, none, rfl, Same.refl _⟩ (fun k σ H15 hk p => ?_) (fun σ H15 p => ?_)
      · obtain ⟨z6, z7, rfl, s15⟩ := p
        have hk : k < 12 := hk
        refine Dr.name_of (if_of' ?_)
        have e0 : (0 + ((k : Nat) : Int)) = (k : Int) := by omega
        refine opr_of ⟨_, rfl, _, rfl, by omega, by omega, fun D2 nD2 => ?_⟩
        rw [show (0 + ((k : Nat) : Int)).toNat = k by omega]
        refine lc_filtW (walk_range (lo := 0) (n := k)) (fun _ => none) nD2 (Nat.lt_trans hk (by decide)) (fun _ _ => trivial) (fun j x H16 H17 Q2 N2 hj s16 y k1 k2 => ?_) (fun H16 s16 e16 => ?_)
        · obtain ⟨rfl, ex⟩ := y
          have ex : x = .int (0 + j) := ex
          subst ex
          have f1 : (0 + ((j : Nat) : Int)) = (j : Int) := by omega
          obtain ⟨pa, pda, na, ea, ena, fa, oka⟩ := at12 (k := j) (by omega)
          obtain ⟨pb, pdb, nb, eb, enb, fb, okb⟩ := at12 (k := k) hk
          have sAll := s15.trans s16
          have ga := fa.same sAll
          have gb := fb.same sAll
          obtain ⟨dxa, va, a1, _⟩ := ga.at_
          obtain ⟨dxb, vb, b1, _⟩ := gb.at_
          have e14' := sAll _ _ e14
          have df := unl_differ hj ena enb
          rw [f1, e0]
          refine ⟨rfl, ?_⟩
          refine ⟨_, rfl, _, rfl, D1, _, _, _, rfl, rfl, SqL.of e14', atI_nat (getP ea), _, rfl, _, rfl, D1, _, _, _, rfl, rfl, SqL.of e14', atI_nat (getP eb), pa, pb, dxa, dxb, _, _, rfl, rfl, a1, b1,
            pa, pb, pda, pdb, na, nb, rfl, ga, gb, okD_shaped oka (by decide), okD_shaped okb (by decide), okD_noDict 10 _ oka, okD_noDict 10 _ okb, _, rfl, _, rfl, no_if df ?_⟩
          refine ⟨_, rfl, _, rfl, D1, _, _, _, rfl, rfl, SqL.of e14', atI_nat (getP ea), _, rfl, _, rfl, D1, _, _, _, rfl, rfl, SqL.of e14', atI_nat (getP eb), pa, pb, dxa, dxb, _, _, rfl, rfl, a1, b1,
            pa, pb, pda, pdb, na, nb, rfl, ga, gb, okD_shaped oka (by decide), okD_shaped okb (by decide), okD_noDict 10 _ oka, okD_noDict 10 _ okb, _, rfl, _, rfl, no_if (by rw [df]; rfl) (k2 _ rfl (Same.refl _))⟩
        · have e16' : H16 D2 = some (.lst []) := by
            rw [e16]
            congr 2
            generalize List.range k = l
            induction l with
            | nil => rfl
            | cons a r ih => exact ih
          refine ⟨by decide, fun p17 np17 => ?_⟩
          have s17 : Same H16 (upd H16 p17 (.lst [])) := same_upd np17
          refine ⟨.list [], .list [], Dv.dp (.lst (s17 _ _ e16') (by decide) .nil) rfl, Dv.dp (.lst upd_same (by decide) .nil) rfl, by decide, by decide, _, rfl, no_if rfl ?_⟩
          exact ⟨_, _, rfl, s15.trans (s16.trans s17)⟩
      · obtain ⟨z6, z7, rfl, s15⟩ := p
        dsimp only
        refine Dr.ret_of (opr_of ?_)
        have s1315 := s14.trans s15
        refine nets_comp (K := K) (C := C) (CN := CN) (CL := CL) (ls := ls) rfl (fun x => rfl) (fun x => rfl) (s1315 _ _ hl13) (hx13.same s1315) fun D2 ps2 H16 s16 nD2 e16 lp2 hps2 => ?_
        refine ⟨_, rfl, ⟨D2, D1, _, _, rfl, rfl, e16, (s15.trans s16) _ _ e14, by rw [List.length_map, List.length_map, lp, lp2], fun i x y ex ey => ?_⟩, fun H17 ext => q _ (s13.trans (s1315.trans (s16.trans ext)))⟩
        rw [List.getElem?_map] at ex ey
        obtain ⟨pa, ea, rfl⟩ := Option.map_eq_some_iff.mp ex
        obtain ⟨pb, eb, rfl⟩ := Option.map_eq_some_iff.mp ey
        have hi : i < 12 := by
          have := (List.getElem?_eq_some_iff.mp eb).1
          omega
        have h2 : i < unlN12.length := by rw [unl_len]; exact hi
        obtain ⟨_, pda, fa⟩ := hps2 i pa _ ea (List.getElem?_eq_getElem h2)
        obtain ⟨pdb, fb⟩ := hps' i pb _ eb (List.getElem?_eq_getElem h2)
        have fb := fb.same (s15.trans s16)
        obtain ⟨dxa, va, a1, _⟩ := fa.at_
        obtain ⟨dxb, vb, b1, _⟩ := fb.at_
        exact ⟨pa, pb, dxa, dxb, _, _, rfl, rfl, a1, b1, pda, pdb, _, fa, fb, (unl_at (List.getElem_mem h2)).2.2.2⟩
end
end Pw
set_option maxHeartbeats 2000000
/-! the greatest of all depths is that of the outlets -/
namespace Pw
open PySem PySem.Spec PyProof.Rows L2
theorem maxI_le {xs : List Int} {x : Int} (h : x ∈ xs) : x ≤ maxI xs := (foldmax_ge xs 0).2 x h
theorem not_used {ns : List Nd} {z : Str} (h : used ns z = true) : ∃ p ∈ ns, z ∈ p.ins := by
  obtain ⟨p, hp, e⟩ := List.any_eq_true.mp h
  exact ⟨p, hp, of_decide_eq_true e⟩
/-- each node stands below an outlet that is as deep -/
theorem depth_up {ns : List Nd} (w : Wired [] ns) : ∀ (k i : Nat) (n : Nd), ns.length - i ≤ k → ns[i]? = some n → ∃ o ∈ outs ns, look (belowBy fL [] ns) n.name ≤ look (belowBy fL [] ns) o
  | 0, i, n, hk, e => by
    have := (List.getElem?_eq_some_iff.mp e).1
    omega
  | k + 1, i, n, hk, e => by
    have mem := List.mem_of_getElem? e
    cases u : used ns n.name with
    | false => exact ⟨n.name, List.mem_map.mpr ⟨n, List.mem_filter.mpr ⟨mem, by rw [u]; rfl⟩, rfl⟩, Int.le_refl _⟩
    | true =>
      obtain ⟨p, hp, hz⟩ := not_used u
      obtain ⟨j, hj, ej⟩ := List.getElem_of_mem hp
      have ej2 : ns[j]? = some p := by rw [List.getElem?_eq_getElem hj, ej]
      have lt : i < j := by
        have h1 := (wired_at w ej2).2 n.name hz
        obtain ⟨m, hm, em⟩ := List.mem_map.mp h1
        obtain ⟨l, hl, el⟩ := List.mem_take_iff_getElem.mp hm
        have lN : l < ns.length := by omega
        have hm2 : m ∈ ns := List.mem_of_mem_take hm
        have := wired_inj w hm2 mem em
        subst this
        -- one place only
        by_cases q : l = i
        · omega
        · exfalso
          have e1 : ns[l]? = some m := by rw [List.getElem?_eq_getElem lN, el]
          by_cases q2 : l < i
          · exact (wired_at w e).1 (List.mem_map.mpr ⟨m, List.mem_take_iff_getElem.mpr ⟨l, by omega, el⟩, rfl⟩)
          · have hi := (List.getElem?_eq_some_iff.mp e)
            obtain ⟨hi, ei⟩ := hi
            exact (wired_at w e1).1 (List.mem_map.mpr ⟨m, List.mem_take_iff_getElem.mpr ⟨i, by omega, ei⟩, rfl⟩)
      obtain ⟨o, ho, le⟩ := depth_up w k j p (by omega) ej2
      refine ⟨o, ho, Int.le_trans ?_ le⟩
      rw [below_at fL w rfl hp]
      have h2 : look (belowBy fL [] ns) n.name ≤ maxI (p.ins.map (look (belowBy fL [] ns))) := maxI_le (List.mem_map_of_mem hz)
      unfold fL at h2 ⊢
      split
      · omega
      · omega
theorem look_vals {ks : List (Str × Int)} (h : (ks.map (·.1)).Nodup) : ks.map (·.2) = (ks.map (·.1)).map (look ks) := by
  induction ks with
  | nil => rfl
  | cons p r ih =>
    rw [List.map_cons, List.nodup_cons] at h
    rw [List.map_cons, List.map_cons, List.map_cons]
    congr 1
    · unfold look
      rw [List.lookup_cons, beq_self_eq_true]
      rfl
    · rw [ih h.2]
      refine List.map_congr_left fun z hz => ?_
      have : z ≠ p.1 := fun e => h.1 (e ▸ hz)
      unfold look
      rw [List.lookup_cons, beq_eq_false_iff_ne.mpr this]
theorem wired_nodup : ∀ {ns : List Nd} {seen : List Str}, Wired seen ns → (ns.map (·.name)).Nodup ∧ ∀ z ∈ ns.map (·.name), z ∉ seen
  | [], _, _ => ⟨List.nodup_nil, fun z h => absurd h (by simp)⟩
  | n :: r, seen, w => by
    cases w with
    | cons h1 h2 h3 h4 h5 =>
      obtain ⟨i1, i2⟩ := wired_nodup h5
      refine ⟨List.nodup_cons.mpr ⟨fun h => i2 _ h (List.mem_append_right _ (List.mem_singleton.mpr rfl)), i1⟩, fun z hz => ?_⟩
      rcases List.mem_cons.mp hz with rfl | hz
      · exact h1
      · exact fun h => i2 z hz (List.mem_append_left _ h)
theorem depths_max {ns : List Nd} (w : Wired [] ns) (h1 : 1 ≤ ns.length) {m : Int} (hm : m ∈ (belowBy fL [] ns).map (·.2)) (ht : ∀ y ∈ (belowBy fL [] ns).map (·.2), y ≤ m) : m = loopsN ns := by
  have ks : (belowBy fL [] ns).map (·.1) = ns.map (·.name) := by
    rw [below_keys]
    rfl
  have nd : ((belowBy fL [] ns).map (·.1)).Nodup := by rw [ks]; exact (wired_nodup w).1
  rw [look_vals nd, ks] at hm ht
  have pos : ∀ x ∈ overOuts fL ns, 0 ≤ x := l_pos w fun z hz => outs_sub hz
  unfold loopsN
  symm
  obtain ⟨z, hz, rfl⟩ := List.mem_map.mp hm
  obtain ⟨n, hn, rfl⟩ := List.mem_map.mp hz
  obtain ⟨i, hi, en⟩ := List.getElem_of_mem hn
  obtain ⟨o, ho, le⟩ := depth_up w ns.length i n (by omega) (by rw [List.getElem?_eq_getElem hi, en])
  have ge : look (belowBy fL [] ns) o ≤ look (belowBy fL [] ns) n.name := ht _ (List.mem_map_of_mem (outs_sub ho))
  have eq : look (belowBy fL [] ns) n.name = look (belowBy fL [] ns) o := Int.le_antisymm le ge
  rw [eq]
  refine maxI_is pos (List.mem_map_of_mem ho) fun y hy => ?_
  obtain ⟨u, hu, rfl⟩ := List.mem_map.mp hy
  rw [← eq]
  exact ht _ (List.mem_map_of_mem (outs_sub hu))
end Pw
set_option maxHeartbeats 2000000
/-! list(d.values()) -/
namespace L2
open PySem PySem.Spec PyProof.Rows
section
variable {X : Cx} {o : Expr} {p pos apos mpos : Pos} {td : TE}
def tListVals (td : TE) : TE := fun σ H Q => td σ H fun x H1 => ∃ a kvs, x = V.ref a ∧ H1 a = some (.dK kvs) ∧ ∀ q, H1 q = none → Q (.ref q) (upd H1 q (.lst (kvs.map (·.2))))
theorem pe_listVals (hc : X.calm = true) (hg : Gl X "list") (hm : X.mg "list" = none) (hd : PE X o td) (hbase : attributeBase o "values" X.env (eval o X.env) = eval o X.env := by rfl) (hline : (apos.endLine == mpos.line) = true := by rfl)
    (hse : starEach [Expr.Call (.Attribute o "values" apos) [] [] mpos] X.env = [(false, eval (Expr.Call (.Attribute o "values" apos) [] [] mpos) X.env)] := by rfl) :
    PE X (.Call (.Name "list" p) [.Call (.Attribute o "values" apos) [] [] mpos] [] pos) (tListVals td) := by
  refine ⟨fun pins s σ H Q I h => ?_⟩
  refine wpAny_Call_Name_kw (ld_blt I hg hm (u := .type "list") (by first | rfl | decide +kernel) ?_ (by first | decide +kernel | decide) (by first | decide +kernel | decide))
  rw [hse]
  refine PySem.callWith_type1 (wpAny_Call_method0_late hbase hline (thn (hd.run pins s σ H _ I h) fun v s1 ⟨x, H1, I1, r1, a, kvs, ex, ha, q⟩ => ?_))
  subst ex
  obtain rfl : v = Value.ref a := r1
  obtain ⟨hz, hsys, vs, rel, dof⟩ := dk_of I1.hok ha
  obtain ⟨ep, dat⟩ := dof.dictAt
  have dat' := dat
  obtain ⟨ob, es, ho, ex, hdat, hko, hpr, hnd⟩ := dat'
  refine ⟨"dict", "dict.values", F.plainAttrs_dict, F.slot_dict_values, F.type_dict_values, ⟨ob, ho, ex.1⟩, fun b e => ?_, Calls.callWith_builtin rfl (PySem.evalArgs_none ?_)⟩
  · cases e
    exact ⟨ob, ho, ex.2.1⟩
  refine call_meetsIn F.slot_dict_values ⟨ob, ho, ex.1⟩ F.entry_dict_values (F.args_dict_values_1 _) (meets_dict_values (mixKind X.prog X.w) a hsys) ⟨⟨vs, dof⟩, ?_⟩
  have k1 : ∀ b u, s1.heap.get? b = some u → (s1.heap.push { cls := .type "dict_values", data := .fields #[.ref a] }).get? b = some u := fun b u e => Heap.get?_push_of_some _ e
  have dat1 : (s1.heap.push { cls := .type "dict_values", data := .fields #[.ref a] }).DictAt (mixKind X.prog X.w) a vs ep := dat.keep k1
  have hlt : a < s1.heap.objs.size := Heap.lt_size ho
  have hl : kvs.length = vs.length := Paired.length rel
  have I2 : Inv X pins σ H1 { s1 with heap := s1.heap.push { cls := .type "dict_values", data := .fields #[.ref a] } } := I1.kept (t' := s1.toks) k1
  refine PySem.W.kdl_call (PySem.W.kdl_values (knd := mixKind X.prog X.w) (kvs := vs) (ep := ep) (r := s1.heap.objs.size) (d := a)) (I1.ok.hd hc) ⟨⟨_, Heap.get?_push_size _ rfl, rfl, rfl⟩, dat1⟩ (by rw [← hl]; exact hz) fun h' tk acc' c' hkeep hS hacc => ?_
  · have nf := I2.hok.fresh (Nat.le_refl _)
    refine ⟨.ref _, upd H1 _ (.lst (kvs.map (·.2))), I2.laid hkeep (Nat.le_refl _) (show ObjOk X.prog X.w _ _ _ (.lst (kvs.map (·.2))) from ⟨?_, acc'.toList, c', ?_, ?_⟩), rfl, q _ nf⟩
    · rw [List.length_map]
      exact hz
    · have el : acc'.toList.length = acc'.size := by simp
      refine vals_of_at (by rw [List.length_map, el, hacc.1, hl]) fun j x w h1 h2 => ?_
      obtain ⟨k, hky⟩ := hacc.2 j w (by rw [← Array.getElem?_toList]; exact h2)
      obtain ⟨y, e1, e2⟩ := KV.at' rel hky
      have e3 : (kvs.map (·.2))[j]? = some y := by rw [List.getElem?_map, e1] <;> rfl
      rw [e3] at h1
      cases h1
      exact e2
    · rw [Array.toArray_toList]
      exact hS
end
end L2
set_option maxHeartbeats 2000000
/-! sum(lists, []) -/
namespace PySem
open Sem (wp)
section
variable {prog : Program} {w : World} {A : Around} {R : Result → Shared → Prop} {I : Addr} {fp wr : List Addr} {n : Nat} {P : Nat → Value → Prop} {St : Nat → Heap → Prop}
def catFrom (it : Nat → List Value) : Nat → Nat → List Value
  | _, 0 => []
  | i, k + 1 => it i ++ catFrom it (i + 1) k
theorem sum_lists_loop (W : Walks prog w A.in1 I fp wr n P St) (S : Addr) (hSf : S ∉ fp) (ad : Nat → Addr) (it : Nat → List Value) (cn : Nat → Nat) (hval : ∀ i v, P i v → i < n → v = .ref (ad i)) (hS0 : ∀ i, i < n → ad i ≠ S ∧ ad i ∉ fp) (hBf : ∀ b ∈ fp, b < S) (hS1 : ∀ i, i < n → ad i < S) :
    ∀ (k i : Nat) (s : Shared) (L : Addr) (tot : List Value) (c cL : Nat) (st : Int), (st = 0 ∨ st = 2) → n - i = k → i ≤ n → St i s.heap → L ≠ S → L ∉ fp → s.heap.get? S = some { cls := .type "list", dict := none, data := .seq #[.ref L] c, slots := #[] } →
    IsL s.heap L tot.toArray cL → (∀ j, i ≤ j → j < n → IsL s.heap (ad j) (it j).toArray (cn j)) → tot.length + (catFrom it i k).length ≤ sizeLine →
    (∀ h' tk L' c', (∀ b o, b ∉ wr → b ≠ S → s.heap.get? b = some o → h'.get? b = some o) → IsL h' L' (tot ++ catFrom it i k).toArray c' → (k = 0 → L' = L) → (0 < k → S < L') → R (.ok (.ret (.ref L'))) { s with heap := h', toks := tk }) →
    codeAny (model prog w) A (.builtin "sum.loop" ⟨[.ref I, .ref S, rawInt st, rawInt 0], []⟩) R s := by
  have hSw : S ∉ wr := fun h => hSf (W.sub _ h)
  intro k
  induction k with
  | zero =>
    intro i s L tot c cL st hst2 hk hi hst hLS hLf hS hL had hz hR
    have hin : i = n := by omega
    subst hin
    refine codeAny_builtin F.entry_sum_loop ?_
    rw [Around.under_plainId F.plain_sum_loop _]
    show wpAny _ A.in1 (seqItems? (.ref S) >>= _) _ _ s
    refine wpAny_bind (wpAny_seqItems hS rfl ?_)
    show wpAny _ A.in1 (tryCatch (pyNext (.ref I)) _ >>= _) _ _ s
    refine wpAny_bind (wpAny_tryCatch (W.done s _ _ hst fun h' tk hk' => ?_))
    exact wpAny_pure (hR h' tk L cL (fun b o hbw _ e => hk' b o hbw e) (by
      show IsL h' L (tot ++ []).toArray cL
      rw [List.append_nil]
      exact hk' L _ (fun h => hLf (W.sub _ h)) hL) (fun _ => rfl) fun h => absurd h (Nat.lt_irrefl _))
  | succ k ih =>
    intro i s L tot c cL st hst2 hk hi hst hLS hLf hS hL had hz hR
    have hlt : i < n := by omega
    refine codeAny_builtin F.entry_sum_loop ?_
    rw [Around.under_plainId F.plain_sum_loop _]
    show wpAny _ A.in1 (seqItems? (.ref S) >>= _) _ _ s
    refine wpAny_bind (wpAny_seqItems hS rfl ?_)
    show wpAny _ A.in1 (tryCatch (pyNext (.ref I)) _ >>= _) _ _ s
    refine wpAny_bind (wpAny_tryCatch (W.item i s _ _ hlt hst fun v h' tk hP hst' hk' => ?_))
    obtain rfl := hval i v hP hlt
    have hS' := hk' S _ hSw hS
    have hL' : IsL h' L tot.toArray cL := hk' L _ (fun h => hLf (W.sub _ h)) hL
    have hA' : IsL h' (ad i) (it i).toArray (cn i) := hk' _ _ (fun h => (hS0 i hlt).2 (W.sub _ h)) (had i (Nat.le_refl _) hlt)
    have lc : (catFrom it i (k + 1)).length = (it i).length + (catFrom it (i + 1) k).length := by
      show (it i ++ catFrom it (i + 1) k).length = _
      rw [List.length_append]
    show wpAny _ A.in1 ((holding [Value.ref (ad i)] (binaryOp .Add (.ref L) (.ref (ad i)))).attempt >>= _) _ _ _
    refine wpAny_bind (wpAny_attempt (wpAny_holding (PySem.P.add_list (s := { s with heap := h', toks := tk }) hL' hA' ?_ (by rw [List.size_toArray, List.size_toArray]; omega))))
    have hSlt : S < h'.objs.size := Heap.lt_size hS'
    obtain ⟨L2, eL2⟩ : ∃ L2, h'.objs.size = L2 := ⟨_, rfl⟩
    show wpAny _ A.in1 (updateSeq S (fun _ => #[.ref h'.objs.size]) >>= _) _ _ _
    have hSp : (h'.push { cls := .type "list", data := .seq (tot.toArray ++ (it i).toArray) }).get? S = some { cls := .type "list", dict := none, data := .seq #[.ref L] c, slots := #[] } := Heap.get?_push_of_some _ hS'
    refine wpAny_bind (wpAny_updateSeq hSp rfl ?_)
    have hS₂ := Heap.get?_update_self (Obj.mapSeq fun _ => #[Value.ref h'.objs.size]) hSp rfl
    refine wpAny_bind (wpAny_letGo ?_)
    have old : ∀ {b : Addr} {o : Obj}, b ≠ S → h'.get? b = some o → (((h'.push { cls := .type "list", data := .seq (tot.toArray ++ (it i).toArray) }).update S (Obj.mapSeq fun _ => #[Value.ref h'.objs.size])).update S (Obj.mapSeq fun _ => #[Value.ref h'.objs.size])).get? b = some o := fun {b o} ne e =>
      (Heap.get?_update_other _ _ (Ne.symm ne)).trans ((Heap.get?_update_other _ _ (Ne.symm ne)).trans (Heap.get?_push_of_some _ e))
    have newL : (((h'.push { cls := .type "list", data := .seq (tot.toArray ++ (it i).toArray) }).update S (Obj.mapSeq fun _ => #[Value.ref h'.objs.size])).update S (Obj.mapSeq fun _ => #[Value.ref h'.objs.size])).get? h'.objs.size = some { cls := .type "list", data := .seq (tot.toArray ++ (it i).toArray) } :=
      (Heap.get?_update_other _ _ (Nat.ne_of_lt hSlt)).trans ((Heap.get?_update_other _ _ (Nat.ne_of_lt hSlt)).trans (Heap.get?_push_size _ rfl))
    refine wpAny_bind (wpAny_updateSeq hS₂ rfl (wpAny_pure ⟨plainId_quiet F.plain_sum_loop _, ih (i + 1) _ h'.objs.size (tot ++ it i) _ 0 2 (.inr rfl) (by omega) hlt (W.frame _ _ _ hst' fun b hb o e => old (fun z => hSf (z ▸ hb)) e) (Nat.ne_of_gt hSlt) (fun h => Nat.lt_asymm (hBf _ h) hSlt) (Heap.get?_update_self _ hS₂ rfl) ?_ (fun j h1 h2 => ?_) (by rw [List.length_append]; rw [lc] at hz; omega) fun h'' tk'' L'' c'' hk'' hL'' hL0 hL3 => ?_⟩))
    · show Heap.get? _ _ = _
      rw [newL]
      simp
    · exact old (hS0 j h2).1 (hk' _ _ (fun h => (hS0 j h2).2 (W.sub _ h)) (had j (by omega) h2))
    · refine hR h'' tk'' L'' c'' (fun b o hbw hbS e => hk'' b o hbw hbS (old hbS (hk' b o hbw e))) ?_ (fun h => by omega) fun _ => ?_
      · have : (tot ++ it i) ++ catFrom it (i + 1) k = tot ++ catFrom it i (k + 1) := by
          rw [List.append_assoc]
          rfl
        rw [← this]
        exact hL''
      · by_cases hk0 : k = 0
        · subst hk0
          rw [hL0 rfl]
          exact hSlt
        · exact hL3 (by omega)
end
end PySem
set_option maxHeartbeats 2000000
/-! sum(lists, []): the call -/
namespace PySem
open Sem (wp)
namespace F
theorem args_sum2 (a b : Value) : argsOk "sum" ⟨[a, b], []⟩ := by unfold argsOk; kernel_rfl
theorem sub_list_str' : isSubtype (.type "list") (.type "str") = pure false := by rw [isSubtype_type]; kernel_rfl
theorem sub_list_bytes' : isSubtype (.type "list") (.type "bytes") = pure false := by rw [isSubtype_type]; kernel_rfl
theorem sub_list_bytearray' : isSubtype (.type "list") (.type "bytearray") = pure false := by rw [isSubtype_type]; kernel_rfl
end F
section
variable {prog : Program} {w : World} {A : Around} {E : Value → Shared → Prop} {s : Shared}
theorem call_sum_lists {x : Value} {L : Addr} {Q : Value → Shared → Prop}
    (h : wpAny (model prog w) A.in1 (pyIter x) (fun it s₂ => ∃ (I : Addr) (fp wr : List Addr) (n : Nat) (P : Nat → Value → Prop) (St : Nat → Heap → Prop) (ad : Nat → Addr) (its : Nat → List Value) (cn : Nat → Nat) (cL : Nat), it = .ref I ∧ Walks prog w A.in1 I fp wr n P St ∧ St 0 s₂.heap ∧ (∀ b ∈ fp, b < s₂.heap.objs.size) ∧
      L ∉ fp ∧ IsL s₂.heap L #[] cL ∧ (∀ i v, P i v → i < n → v = .ref (ad i)) ∧ (∀ i, i < n → ad i ∉ fp ∧ IsL s₂.heap (ad i) (its i).toArray (cn i)) ∧
      (catFrom its 0 n).length ≤ sizeLine ∧
      ∀ h' tk L' c', (∀ b o, b ∉ wr → s₂.heap.get? b = some o → h'.get? b = some o) → IsL h' L' (catFrom its 0 n).toArray c' → (n = 0 → L' = L) → (0 < n → s₂.heap.objs.size < L') → Q (.ref L') { s₂ with heap := h', toks := tk }) E s) :
    wpAny (model prog w) A (call (.builtin "sum") [x, .ref L]) Q E s := by
  refine call_function_tree F.kind_sum F.plain_sum F.entry_sum (F.args_sum2 _ _) ?_
  unfold Builtin.«sum»
  simp only [List.length_cons, List.length_nil]
  rw [if_neg (by decide)]
  refine wpAny_bind (wpAny_of_eq (show Builtin.Builtins.bindParams "sum" ["start"] 0 ⟨[.ref L], []⟩ = pure [some (.ref L)] from rfl) ?_)
  refine wpAny_bind (wpAny_mono h (fun it s₂ h₂ => ?_) fun _ _ e => e)
  obtain ⟨I, fp, wr, n, P, St, ad, its, cn, cL, rfl, W, hst, hfp, hLf, hL, hval, had, hz, hQ⟩ := h₂
  refine wpAny_bind (wpAny_pure ?_)
  simp only [List.forIn_cons, List.forIn_nil]
  have ty : s₂.TypeIs (.ref L) "list" := ⟨_, hL, rfl⟩
  have hLlt : L < s₂.heap.objs.size := Heap.lt_size hL
  refine wpAny_bind (wpAny_bind (wpAny_bind (wpAny_isInstance (T := "list") (b := false) ty F.sub_list_str' ?_)))
  simp only [Bool.false_eq_true, if_false]
  refine wpAny_pure (wpAny_bind (wpAny_bind (wpAny_isInstance (T := "list") (b := false) ty F.sub_list_bytes' ?_)))
  simp only [Bool.false_eq_true, if_false]
  refine wpAny_pure (wpAny_bind (wpAny_bind (wpAny_isInstance (T := "list") (b := false) ty F.sub_list_bytearray' ?_)))
  simp only [Bool.false_eq_true, if_false]
  refine wpAny_pure (wpAny_pure ?_)
  refine wpAny_bind (wpAny_newObj_type ?_)
  have hSf : s₂.heap.objs.size ∉ fp := fun hm => Nat.lt_irrefl _ (hfp _ hm)
  refine wpAny_pure ⟨plainId_quiet F.plain_sum_loop _, sum_lists_loop W s₂.heap.objs.size hSf ad its cn hval (fun i hi => ⟨Nat.ne_of_lt (Heap.lt_size (had i hi).2), (had i hi).1⟩) hfp (fun i hi => Heap.lt_size (had i hi).2) n 0 _ L [] 0 cL 2 (.inr rfl) rfl (Nat.zero_le _)
    (W.frame _ _ _ hst fun b _ o e => Heap.get?_push_of_some _ e) (Nat.ne_of_lt hLlt) hLf (Heap.get?_push_size _ rfl) (Heap.get?_push_of_some _ hL) (fun j _ hj => Heap.get?_push_of_some _ (had j hj).2) (by rw [List.length_nil, Nat.zero_add]; exact hz) fun h' tk L' c' hk hL' h0 h1 => ?_⟩
  exact hQ h' tk L' c' (fun b o hbw e => hk b o hbw (Nat.ne_of_lt (Heap.lt_size e)) (Heap.get?_push_of_some _ e)) hL' h0 h1
end
end PySem
set_option maxHeartbeats 2000000
/-! sum(lists, []): the call's rule by values -/
namespace L2
open PySem PySem.Spec PyProof.Rows
def rSumL (K : PySem.W.Frag) : List V → Hp → VK → Prop := fun vs H Q => ∃ (a b : Addr) (ms : List Addr) (ls : List (List V)), vs = [V.ref a, V.ref b] ∧ SqL K H a (ms.map V.ref) ∧ Rd H b (.lst []) ∧
  0 < ms.length ∧ a ∉ ms ∧ a ≠ b ∧ ls.length = ms.length ∧ (∀ (i : Nat) m l, ms[i]? = some m → ls[i]? = some l → Rd H m (.lst l)) ∧ ls.flatten.length ≤ sizeLine ∧
  ∀ q, H q = none → Q (.ref q) (upd H q (.lst ls.flatten))
theorem cat_vals (its : Nat → List Value) : ∀ (ls : List (List V)) (i : Nat), (∀ (j : Nat) l, ls[j]? = some l → Vals l (its (i + j))) → Vals ls.flatten (catFrom its i ls.length)
  | [], _, _ => by show Vals [] []; first | exact .nil | trivial | constructor
  | l :: ls, i, h => by
    rw [List.flatten_cons]
    show Vals _ (its i ++ catFrom its (i + 1) ls.length)
    refine Vals.append (h 0 l rfl) (cat_vals its ls (i + 1) fun j l' e => ?_)
    have := h (j + 1) l' (by simpa using e)
    rwa [show i + 1 + j = i + (j + 1) from by omega]
theorem ref2 {a b : Addr} {us : List Value} (r : Vals [V.ref a, V.ref b] us) : us = [Value.ref a, Value.ref b] := by
  obtain ⟨u, v, rfl, r1, r2⟩ := Vals.two r
  obtain rfl : u = Value.ref a := r1
  obtain rfl : v = Value.ref b := r2
  rfl
section
variable {X : Cx}
theorem cr_sumL (hc : X.calm = true) : CallR X (.builtin "sum") (rSumL X.K) := by
  intro pins s σ H vs us Q I r h
  obtain ⟨a, b, ms, ls, rfl, hs, hb, hpos, ham, hab, hlen, hin, hz, q⟩ := h
  obtain ⟨its, rv, hl, _⟩ := I.list hs
  rw [ref2 r]
  obtain ⟨_, itb, cb, rb, eb⟩ := hb.ok I.hok
  obtain rfl := Vals.zero rb
  have hil : ms.length = its.length := by rw [← rv.length, List.length_map]
  have ex : ∀ i : Nat, ∃ p : Addr × List Value × Nat, i < ms.length → ms[i]? = some p.1 ∧ its[i]? = some (.ref p.1) ∧ Vals (ls.getD i []) p.2.1 ∧ IsL s.heap p.1 p.2.1.toArray p.2.2 := by
    intro i
    by_cases hi : i < ms.length
    · have e1 : ms[i]? = some ms[i] := List.getElem?_eq_getElem hi
      have e2 : ls[i]? = some ls[i] := List.getElem?_eq_getElem (by omega)
      obtain ⟨_, it, c, r1, e⟩ := (hin i _ _ e1 e2).ok I.hok
      obtain ⟨u, e3, e4⟩ := Vals.get rv (i := i) (x := V.ref ms[i]) (by rw [List.getElem?_map, e1]; rfl)
      obtain rfl : u = Value.ref ms[i] := e4
      refine ⟨⟨ms[i], it, c⟩, fun _ => ⟨e1, e3, ?_, e⟩⟩
      rw [List.getD_eq_getElem?_getD, e2]
      exact r1
    · exact ⟨⟨0, [], 0⟩, fun h => absurd h hi⟩
  obtain ⟨p, hp⟩ := Classical.skolem.mp ex
  have hcv : Vals ls.flatten (catFrom (fun i => (p i).2.1) 0 ms.length) := by
    rw [← hlen]
    refine cat_vals _ ls 0 fun j l e => ?_
    have hj : j < ms.length := by
      rw [← hlen]
      exact (List.getElem?_eq_some_iff.mp e).1
    have := (hp j hj).2.2.1
    rw [List.getD_eq_getElem?_getD, e] at this
    rw [Nat.zero_add]
    exact this
  have hlt : a < s.heap.objs.size := by obtain ⟨_, _, e, _⟩ := hl; exact Heap.lt_size e
  have hbl : b < s.heap.objs.size := Heap.lt_size eb
  have hsz : its.toArray.size = ms.length := by rw [List.size_toArray, hil]
  refine call_sum_lists (PySem.W.iter_listW (I.ok.hd hc) hl.isList fun s₂ e W st hfp _ hkeep => ?_)
  subst e
  refine ⟨_, _, _, _, _, _, fun i => (p i).1, fun i => (p i).2.1, fun i => (p i).2.2, cb, rfl, Walks.list (A := X.A.in1) (I.ok.hd hc) _ a (Nat.ne_of_lt hlt) its.toArray, st, hfp, ?_, hkeep _ _ eb, ?_, ?_, ?_, ?_⟩
  · intro hm
    rcases List.mem_cons.mp hm with e | hm
    · exact Nat.ne_of_lt hbl e
    · exact hab (List.mem_singleton.mp hm).symm
  · intro i v hv hi
    rw [hsz] at hi
    have e := (hp i hi).2.1
    have hv' : its[i]? = some v := by simpa using hv
    rw [hv'] at e
    cases e
    rfl
  · intro i hi
    rw [hsz] at hi
    obtain ⟨e1, _, _, e4⟩ := hp i hi
    refine ⟨fun hm => ?_, hkeep _ _ e4⟩
    rcases List.mem_cons.mp hm with e | hm
    · exact Nat.ne_of_lt (Heap.lt_size e4) e
    · exact ham (List.mem_singleton.mp hm ▸ List.mem_of_getElem? e1)
  · rw [hsz, ← hcv.length]
    exact hz
  · intro h' tk L' c' hk hL' _ hlt'
    rw [hsz] at hL' hlt'
    have hge : s.heap.objs.size ≤ L' := by
      have h2 : (s.heap.push { cls := .type "list_iterator", data := .fields #[.ref a, .int 0 0] }).objs.size < L' := hlt' hpos
      rw [Heap.size_push] at h2
      exact Nat.le_of_lt (Nat.lt_of_succ_lt h2)
    have kk : ∀ b o, s.heap.get? b = some o → h'.get? b = some o := fun b o e => by
      refine hk b o (fun hm => ?_) (hkeep b o e)
      exact Nat.ne_of_lt (Heap.lt_size e) (List.mem_singleton.mp hm)
    exact ⟨.ref L', upd H L' (.lst ls.flatten), I.laid kk hge (show ObjOk X.prog X.w _ _ _ (.lst ls.flatten) from ⟨hz, _, c', hcv, hL'⟩), rfl, q L' (I.hok.fresh hge)⟩
end
end L2
set_option maxHeartbeats 2000000
/-! the law's products: pure facts -/
namespace Pw
open PySem PySem.Spec PyProof.Rows L2
/-- the newest key written anew -/
theorem put_last {b : List (Str × Int)} {z : Str} {x v : Int} (h : z ∉ b.map (·.1)) : HO.dK (putK ((b ++ [(z, x)]).map fun p => ((.inr p.1 : Key), V.int p.2)) (.inr z) (.int v)) = kiO (b ++ [(z, v)]) := by
  have ha : (((b ++ [(z, x)]).map fun p => ((.inr p.1 : Key), V.int p.2)).any fun kv => decide (kv.1 = .inr z)) = true := by
    refine List.any_eq_true.mpr ⟨(.inr z, V.int x), List.mem_map.mpr ⟨(z, x), by simp, rfl⟩, decide_eq_true rfl⟩
  unfold putK kiO
  rw [if_pos ha, List.map_map, List.map_append, List.map_append]
  congr 2
  · refine List.map_congr_left fun q hq => ?_
    show (if (Sum.inr q.1 : Key) = .inr z then _ else _) = _
    rw [if_neg fun e => h (by rw [← Sum.inr.inj e]; exact List.mem_map_of_mem hq)]
  · show [if (Sum.inr z : Key) = .inr z then _ else _] = _
    rw [if_pos rfl]
    rfl
theorem look_last {b : List (Str × Int)} {z y : Str} {x : Int} (h : z ∉ b.map (·.1)) (hy : y ∈ b.map (·.1)) : look (b ++ [(z, x)]) y = look b y := look_snoc_ne fun e => h (e ▸ hy)
theorem keys_snoc {b : List (Str × Int)} {z y : Str} {x : Int} : y ∈ (b ++ [(z, x)]).map (·.1) ↔ y ∈ b.map (·.1) ∨ y = z := by simp
theorem prod_step {lk : Str → Int} {zs : List Str} {j : Nat} {z : Str} (e : zs[j]? = some z) : prodI ((zs.take (j + 1)).map lk) = prodI ((zs.take j).map lk) * lk z := by
  rw [List.take_add_one, e]
  show prodI ((zs.take j ++ [z]).map lk) = _
  rw [List.map_append]
  exact prodI_snoc _ _
theorem fW_step (n : Nd) {lk : Str → Int} {j : Nat} {z : Str} (e : n.ins[j]? = some z) : ownW n.dat * prodI ((n.ins.take (j + 1)).map lk) = ownW n.dat * prodI ((n.ins.take j).map lk) * lk z := by
  rw [prod_step e, Int.mul_assoc]
/-- a node's product, every input taken, is the next of the table -/
theorem fW_end {n : Nd} {b : List (Str × Int)} : b ++ [(n.name, ownW n.dat * prodI ((n.ins.take n.ins.length).map (look b)))] = b ++ [(n.name, fW n (n.ins.map (look b)))] := by
  rw [List.take_length]
  rfl
theorem below_step {f : Nd → List Int → Int} {ns : List Nd} {b : List (Str × Int)} {i : Nat} {n : Nd} (en : ns[i]? = some n) (h : belowBy f b (ns.drop i) = belowBy f [] ns) :
    belowBy f (b ++ [(n.name, f n (n.ins.map (look b)))]) (ns.drop (i + 1)) = belowBy f [] ns := by
  rw [drop_at en] at h
  exact h
theorem below_end {f : Nd → List Int → Int} {ns : List Nd} {b : List (Str × Int)} (h : belowBy f b (ns.drop ns.length) = belowBy f [] ns) : b = belowBy f [] ns := by
  rw [List.drop_length] at h
  exact h
/-- partial products stay in bounds -/
theorem part_bounds {ns : List Nd} (w : Wired [] ns) (hc : cellsN ns ≤ 100) {n : Nd} (hn : n ∈ ns) (hs : ∀ z ∈ n.ins, z ∈ ns.map (·.name)) (j : Nat) :
    1 ≤ prodI ((n.ins.take j).map (look (belowBy fW [] ns))) ∧ prodI ((n.ins.take j).map (look (belowBy fW [] ns))) < 2 ^ 701 := by
  have pos := w_pos w hs
  have e : (n.ins.take j).map (look (belowBy fW [] ns)) = (n.ins.map (look (belowBy fW [] ns))).take j := by rw [List.map_take]
  rw [e]
  exact ⟨prodI_pos fun x hx => pos x (List.mem_of_mem_take hx), Int.lt_of_le_of_lt (prodI_take_le pos j) (w_ins w hc hn)⟩
theorem one_bounds {ns : List Nd} (w : Wired [] ns) (hc : cellsN ns ≤ 100) {n : Nd} (hn : n ∈ ns) (hs : ∀ z ∈ n.ins, z ∈ ns.map (·.name)) {z : Str} (hz : z ∈ n.ins) :
    1 ≤ look (belowBy fW [] ns) z ∧ look (belowBy fW [] ns) z < 2 ^ 701 := by
  have pos := w_pos w hs
  have m : look (belowBy fW [] ns) z ∈ n.ins.map (look (belowBy fW [] ns)) := List.mem_map_of_mem hz
  exact ⟨pos _ m, Int.lt_of_le_of_lt (prodI_mem_le pos m) (w_ins w hc hn)⟩
/-- the load, over the outlets -/
theorem load_bounds {ns : List Nd} (w : Wired [] ns) (hc : cellsN ns ≤ 100) (j : Nat) :
    1 ≤ prodI (((outs ns).take j).map (look (belowBy fW [] ns))) ∧ prodI (((outs ns).take j).map (look (belowBy fW [] ns))) < 2 ^ 701 := by
  have pos : ∀ x ∈ (outs ns).map (look (belowBy fW [] ns)), 1 ≤ x := w_pos w fun z hz => outs_sub hz
  have e : ((outs ns).take j).map (look (belowBy fW [] ns)) = ((outs ns).map (look (belowBy fW [] ns))).take j := by rw [List.map_take]
  rw [e]
  exact ⟨prodI_pos fun x hx => pos x (List.mem_of_mem_take hx), Int.lt_of_le_of_lt (prodI_take_le pos j) (w_outs w hc)⟩
theorem load_end (ns : List Nd) : prodI (((outs ns).take (outs ns).length).map (look (belowBy fW [] ns))) = weightN ns := by
  rw [List.take_length]
  rfl
theorem cells_end (ns : List Nd) : ((outs ns).map (look (belowBy fC [] ns))).sum = cellsN ns := rfl
end Pw
set_option maxHeartbeats 2000000
/-! the law's products: the two loops -/
namespace Pw
open PySem PySem.Spec PyProof.Rows L2 Dc
abbrev rTimes : R2 := rI CMulW fun i j => .int (i * j)
/-- products[node[0]] -/
abbrev tKey0 (K : PySem.W.Frag) (iN : Nat) : TE := tOp (rIxT K) (tVar iN) (tC (.int 0))
theorem key_of {K : PySem.W.Frag} {iN : Nat} {σ : L2.St} {H : Hp} {Q : VK} {t : Addr} {x : V} {xs : List V} (e : σ[iN]? = some (some (.ref t))) (ht : H t = some (.tup (x :: xs))) (q : Q x H) : tKey0 K iN σ H Q :=
  ⟨_, e, t, _, _, _, rfl, rfl, SqT.of ht, atI_nat (j := 0) rfl, q⟩
/-- for below in node[3]: products[node[0]] = products[node[0]] * products[below] -/
abbrev tPrd (K : PySem.W.Frag) (iN iP iB : Nat) : TS := tFor (iList K (tOp (rIxT K) (tVar iN) (tC (.int 3)))) (gName iB) (sDPut (tVar iP) (tKey0 K iN) (tOp rTimes (tDGet (tVar iP) (tKey0 K iN)) (tDGet (tVar iP) (tVar iB))))
theorem prd_inner {K : PySem.W.Frag} {iN iP iB : Nat} {D : Ends} {σ : L2.St} {H : Hp} {t l2 DP : Addr} {n : Nd} {y2 y3 : V} {b : List (Str × Int)} (hNB : iB ≠ iN) (hPB : iB ≠ iP) (hB : iB < σ.length)
    (eN : σ[iN]? = some (some (.ref t))) (eP : σ[iP]? = some (some (.ref DP))) (ht : H t = some (.tup [.str n.name, y2, y3, .ref l2])) (hl2 : H l2 = some (.lst (n.ins.map V.str))) (tP : t ≠ DP) (lP : l2 ≠ DP)
    (hP : H DP = some (kiO (b ++ [(n.name, ownW n.dat)]))) (nw : n.name ∉ b.map (·.1)) (sub : ∀ z ∈ n.ins, z ∈ b.map (·.1)) (hb : b.length ≤ 900)
    (own1 : 1 ≤ ownW n.dat) (own2 : ownW n.dat < 2 ^ 7) (bd : ∀ j, 1 ≤ prodI ((n.ins.take j).map (look b)) ∧ prodI ((n.ins.take j).map (look b)) < 2 ^ 701) (bo : ∀ z ∈ n.ins, 1 ≤ look b z ∧ look b z < 2 ^ 701)
    (q : ∀ σ' H', (σ' = σ ∨ ∃ z, σ' = σ.set iB (some z)) → (∀ c, c ≠ DP → H' c = H c) → H' DP = some (kiO (b ++ [(n.name, fW n (n.ins.map (look b)))])) → D.nx σ' H') : tPrd K iN iP iB D σ H := by
  refine ⟨_, eN, t, _, _, _, rfl, rfl, SqT.of ht, atI_nat (j := 3) rfl, l2, rfl, ⟨_, SqL.of hl2⟩, ?_⟩
  refine for_list (xs := n.ins.map V.str) (fun j σ' H' => (σ' = σ ∨ ∃ z, σ' = σ.set iB (some z)) ∧ (∀ c, c ≠ DP → H' c = H c) ∧ H' DP = some (kiO (b ++ [(n.name, ownW n.dat * prodI ((n.ins.take j).map (look b)))])))
    ⟨.inl rfl, fun _ _ => rfl, by rw [hP]; show some (kiO (b ++ [(n.name, ownW n.dat)])) = some (kiO (b ++ [(n.name, ownW n.dat * 1)])); rw [Int.mul_one]⟩ (fun j σ' H' _ p => ?_) (fun j x σ' H' hj p => ?_) (fun σ' H' p => ?_)
  · exact SqL.of (by rw [p.2.1 _ lP]; exact hl2)
  · obtain ⟨hs, ho, hD⟩ := p
    rw [List.getElem?_map] at hj
    obtain ⟨z, ez, rfl⟩ := Option.map_eq_some_iff.mp hj
    have hz := List.mem_of_getElem? ez
    have hset : σ'.set iB (some (.str z)) = σ.set iB (some (.str z)) := by
      rcases hs with rfl | ⟨w, rfl⟩
      · rfl
      · rw [List.set_set]
    show sDPut _ _ _ _ (σ'.set iB (some (.str z))) H'
    rw [hset]
    have eN' : (σ.set iB (some (.str z)))[iN]? = some (some (.ref t)) := by rw [List.getElem?_set_ne hNB]; exact eN
    have eP' : (σ.set iB (some (.str z)))[iP]? = some (some (.ref DP)) := by rw [List.getElem?_set_ne hPB]; exact eP
    have eB' : (σ.set iB (some (.str z)))[iB]? = some (some (.str z)) := by rw [List.getElem?_set_self hB]
    have ht' : H' t = some (.tup [.str n.name, y2, y3, .ref l2]) := by rw [ho _ tP]; exact ht
    obtain ⟨p1, p2⟩ := bd j
    obtain ⟨o1, o2⟩ := bo z hz
    have x1 : 1 ≤ ownW n.dat * prodI ((n.ins.take j).map (look b)) := by
      have := Int.mul_le_mul own1 p1 (by decide) (by omega)
      omega
    have x2 : ownW n.dat * prodI ((n.ins.take j).map (look b)) < 2 ^ 708 := by
      have h1 : ownW n.dat * prodI ((n.ins.take j).map (look b)) ≤ 2 ^ 7 * prodI ((n.ins.take j).map (look b)) := Int.mul_le_mul_of_nonneg_right (by omega) (by omega)
      have h2 : (2 : Int) ^ 7 * prodI ((n.ins.take j).map (look b)) < 2 ^ 7 * 2 ^ 701 := Int.mul_lt_mul_of_pos_left p2 (by decide)
      have h3 : (2 : Int) ^ 7 * 2 ^ 701 = 2 ^ 708 := by rw [← Int.pow_add]
      omega
    refine ⟨_, eP', key_of eN' ht' ⟨DP, _, rfl, get_known hD (keys_snoc.mpr (.inr rfl)), ⟨_, eP', _, eB', DP, _, rfl, get_known hD (keys_snoc.mpr (.inl (sub z hz))), ?_⟩⟩⟩
    rw [look_snoc nw, look_last nw (sub z hz)]
    refine ⟨_, _, rfl, rfl, wide_mul (a := 708) (b := 701) (abs_lt x1 x2) (abs_lt o1 o2) (by decide) (by decide) (by decide), _, eP', key_of eN' ht' ⟨DP, _, rfl, .inl ⟨_, .inr n.name, hD, rfl, ?_, rfl⟩, .inr ⟨_, rfl⟩, fun c hc => ?_, ?_⟩⟩
    · rw [List.length_map, List.length_append]
      exact Nat.lt_of_le_of_lt (by show b.length + 1 ≤ 1000; omega) (by decide)
    · rw [upd_ne hc]
      exact ho c hc
    · rw [put_last nw, upd_same, fW_step n ez]
  · obtain ⟨hs, ho, hD⟩ := p
    rw [List.length_map] at hD
    rw [fW_end] at hD
    exact q σ' H' hs ho hD
end Pw
set_option maxHeartbeats 2000000
/-! the law's products: the outer loop, and the load -/
namespace Pw
open PySem PySem.Spec PyProof.Rows L2 Dc
def But2 (σ σ' : L2.St) (i j : Nat) : Prop := σ'.length = σ.length ∧ ∀ k, k ≠ i → k ≠ j → σ'[k]? = σ[k]?
theorem But2.refl {σ : L2.St} {i j : Nat} : But2 σ σ i j := ⟨rfl, fun _ _ _ => rfl⟩
theorem But2.set1 {σ σ' : L2.St} {i j : Nat} {z : Option V} (h : But2 σ σ' i j) : But2 σ (σ'.set i z) i j := ⟨by rw [List.length_set]; exact h.1, fun k h1 h2 => by rw [List.getElem?_set_ne (Ne.symm h1)]; exact h.2 k h1 h2⟩
theorem But2.set2 {σ σ' : L2.St} {i j : Nat} {z : Option V} (h : But2 σ σ' i j) : But2 σ (σ'.set j z) i j := ⟨by rw [List.length_set]; exact h.1, fun k h1 h2 => by rw [List.getElem?_set_ne (Ne.symm h2)]; exact h.2 k h1 h2⟩
theorem But2.is {σ σ' : L2.St} {i j : Nat} (h : But2 σ σ' i j) (hi : i < σ.length) (hj : j < σ.length) (hij : i ≠ j) : ∃ zi zj, σ' = (σ.set i zi).set j zj := by
  have hi' : i < σ'.length := by rw [h.1]; exact hi
  have hj' : j < σ'.length := by rw [h.1]; exact hj
  refine ⟨σ'[i], σ'[j], List.ext_getElem? fun k => ?_⟩
  by_cases e2 : k = j
  · subst e2
    rw [List.getElem?_set_self (by rw [List.length_set]; exact hj), List.getElem?_eq_getElem hj']
  · rw [List.getElem?_set_ne (Ne.symm e2)]
    by_cases e1 : k = i
    · subst e1
      rw [List.getElem?_set_self hi, List.getElem?_eq_getElem hi']
    · rw [List.getElem?_set_ne (Ne.symm e1)]
      exact h.2 k e1 e2
theorem prd_outer {K : PySem.W.Frag} {iL iN iP iB : Nat} {D : Ends} {σ : L2.St} {H H0 : Hp} {l DP : Addr} {xs : List V} {ns : List Nd} {tv : TE} (hLN : iL ≠ iN) (hLB : iL ≠ iB) (hPN : iP ≠ iN) (hPB : iP ≠ iB) (hNB : iN ≠ iB) (hN : iN < σ.length) (hB : iB < σ.length)
    (eL : σ[iL]? = some (some (.ref l))) (eP : σ[iP]? = some (some (.ref DP))) (s0 : Same H0 H) (n0 : H0 DP = none) (hl : H0 l = some (.lst xs)) (hds : DvAll K H0 xs (ns.map Nd.dat)) (hw : Wired [] ns) (h30 : ns.length ≤ 30) (hc : cellsN ns ≤ 100) (hP : H DP = some (kiO []))
    (htv : ∀ (σ' : L2.St) (H' : Hp) (t : Addr) (n : Nd) (Q : VK), σ'[iN]? = some (some (.ref t)) → Dv K H' (.ref t) n.dat → isNode n.dat = true → (∀ H2, Same H' H2 → Q (.int (ownW n.dat)) H2) → tv σ' H' Q)
    (q : ∀ σ' H', (∃ zn zb, σ' = (σ.set iN zn).set iB zb) → Same (hid DP H) H' → H' DP = some (kiO (belowBy fW [] ns)) → D.nx σ' H') :
    tFor (iList K (tVar iL)) (gName iN) (tSeq (sDPut (tVar iP) (tKey0 K iN) tv) (tPrd K iN iP iB)) D σ H := by
  have hlen : xs.length = ns.length := by rw [hds.length, List.length_map]
  have old : ∀ {H' : Hp}, Same (hid DP H) H' → Same H0 H' := fun {H'} s c o e => s _ _ (by rw [hid_ne (ne_of_none e n0)]; exact s0 _ _ e)
  refine ⟨_, eL, l, rfl, ⟨_, SqL.of (s0 _ _ hl)⟩, ?_⟩
  refine for_list (xs := xs) (fun i σ' H' => But2 σ σ' iN iB ∧ Same (hid DP H) H' ∧ ∃ b, H' DP = some (kiO b) ∧ b.map (·.1) = (ns.take i).map (·.name) ∧ belowBy fW b (ns.drop i) = belowBy fW [] ns)
    ⟨But2.refl, hid_same, [], hP, by simp, rfl⟩ (fun i σ' H' _ p => SqL.of (old p.2.1 _ _ hl)) (fun i x σ' H' hi p => ?_) (fun σ' H' p => ?_)
  · obtain ⟨hs, sm, b, hD, hb, hbel⟩ := p
    obtain ⟨n, t, l2, y3, en, rfl, ht, hl2, hdv⟩ := node_at (hds.same (old sm)) hi
    obtain ⟨nw, sub⟩ := wired_at hw en
    have nin := List.mem_of_getElem? en
    obtain ⟨nd, l10⟩ := wired_node hw nin
    obtain ⟨o1, o2⟩ := own_range nd
    have part := look_part hw hbel sub
    have sub' : ∀ z ∈ n.ins, z ∈ ns.map (·.name) := fun z hz => by simpa using wired_ins hw nin hz
    have eqs : ∀ z ∈ n.ins, look b z = look (belowBy fW [] ns) z := List.map_inj_left.mp part
    have bl : b.length ≤ 30 := by
      have := congrArg List.length hb
      rw [List.length_map, List.length_map, List.length_take] at this
      omega
    have tP : t ≠ DP := fun e => by rw [e, hD] at ht; cases ht
    have lP : l2 ≠ DP := fun e => by rw [e, hD] at hl2; cases hl2
    have hs1 : But2 σ (σ'.set iN (some (.ref t))) iN iB := hs.set1
    have len : iN < σ'.length := by rw [hs.1]; exact hN
    have eN' : (σ'.set iN (some (.ref t)))[iN]? = some (some (.ref t)) := by rw [List.getElem?_set_self len]
    have eP' : (σ'.set iN (some (.ref t)))[iP]? = some (some (.ref DP)) := by rw [hs1.2 _ hPN hPB]; exact eP
    show tSeq _ _ _ (σ'.set iN (some (.ref t))) H'
    generalize σ'.set iN (some (.ref t)) = σ1 at *
    refine htv σ1 H' t n _ eN' hdv nd fun H2 s2 => ⟨_, eP', key_of eN' (s2 _ _ ht) ⟨DP, _, rfl, .inl ⟨_, .inr n.name, s2 _ _ hD, rfl, ?_, rfl⟩, ?_⟩⟩
    · rw [List.length_map]
      exact Nat.lt_of_le_of_lt (by omega : b.length ≤ 1000) (by decide)
    rw [put_new (by rw [hb]; exact nw)]
    have hB1 : iB < σ1.length := by rw [hs1.1]; exact hB
    refine prd_inner (n := n) (b := b) hNB.symm hPB.symm hB1 eN' eP' (by rw [upd_ne tP]; exact s2 _ _ ht) (by rw [upd_ne lP]; exact s2 _ _ hl2) tP lP upd_same (by rw [hb]; exact nw) (fun z hz => by rw [hb]; exact sub z hz) (by omega) o1 (by omega) (fun j => ?_) (fun z hz => ?_) fun σ2 H3 h2 h3 h4 => ?_
    · have e : (n.ins.take j).map (look b) = (n.ins.take j).map (look (belowBy fW [] ns)) := List.map_inj_left.mpr fun z hz => eqs z (List.mem_of_mem_take hz)
      rw [e]
      exact part_bounds hw hc nin sub' j
    · rw [eqs z hz]
      exact one_bounds hw hc nin sub' hz
    · refine ⟨?_, fun c o e => ?_, _, h4, ?_, below_step en hbel⟩
      · rcases h2 with rfl | ⟨z, rfl⟩
        · exact hs1
        · exact hs1.set2
      · have ne := (hid_of e).1
        rw [h3 _ ne, upd_ne ne]
        exact s2 _ _ (sm _ _ e)
      · rw [List.map_append, hb, take_at en, List.map_append]
        rfl
  · obtain ⟨hs, sm, b, hD, hb, hbel⟩ := p
    rw [hlen] at hbel
    rw [below_end hbel] at hD
    exact q σ' H' (hs.is hN hB hNB) sm hD
/-- for called in tops: load = load * products[called] -/
theorem load_loop {K : PySem.W.Frag} {iT iC iP iW : Nat} {D : Ends} {σ : L2.St} {H : Hp} {l DP : Addr} {ns : List Nd} (hTC : iT ≠ iC) (hTW : iT ≠ iW) (hPC : iP ≠ iC) (hPW : iP ≠ iW) (hCW : iC ≠ iW) (hC : iC < σ.length) (hW : iW < σ.length)
    (eT : σ[iT]? = some (some (.ref l))) (eP : σ[iP]? = some (some (.ref DP))) (eW : σ[iW]? = some (some (.int 1))) (hl : H l = some (.lst ((outs ns).map V.str))) (hw : Wired [] ns) (hc : cellsN ns ≤ 100) (hP : H DP = some (kiO (belowBy fW [] ns)))
    (q : ∀ σ', (∃ zc, σ' = (σ.set iC zc).set iW (some (.int (weightN ns)))) → D.nx σ' H) :
    tFor (iList K (tVar iT)) (gName iC) (tAsg (tOp rTimes (tVar iW) (tDGet (tVar iP) (tVar iC))) (gName iW)) D σ H := by
  refine ⟨_, eT, l, rfl, ⟨_, SqL.of hl⟩, ?_⟩
  refine for_list (xs := (outs ns).map V.str) (fun i σ' H' => H' = H ∧ But2 σ σ' iC iW ∧ σ'[iW]? = some (some (.int (prodI (((outs ns).take i).map (look (belowBy fW [] ns)))))))
    ⟨rfl, But2.refl, eW⟩ (fun i σ' H' _ p => by rw [p.1]; exact SqL.of hl) (fun i x σ' H' hi p => ?_) (fun σ' H' p => ?_)
  · obtain ⟨rfl, hs, e⟩ := p
    rw [List.getElem?_map] at hi
    obtain ⟨z, ez, rfl⟩ := Option.map_eq_some_iff.mp hi
    have hz : z ∈ (belowBy fW [] ns).map (·.1) := by
      rw [below_keys]
      simpa using outs_sub (List.mem_of_getElem? ez)
    have pos : ∀ x ∈ (outs ns).map (look (belowBy fW [] ns)), 1 ≤ x := w_pos hw fun z hz => outs_sub hz
    have mz : look (belowBy fW [] ns) z ∈ (outs ns).map (look (belowBy fW [] ns)) := List.mem_map_of_mem (List.mem_of_getElem? ez)
    obtain ⟨p1, p2⟩ := load_bounds hw hc i
    have z1 := pos _ mz
    have z2 : look (belowBy fW [] ns) z < 2 ^ 701 := Int.lt_of_le_of_lt (prodI_mem_le pos mz) (w_outs hw hc)
    have lC : iC < σ'.length := by rw [hs.1]; exact hC
    have hs1 : But2 σ (σ'.set iC (some (.str z))) iC iW := hs.set1
    have a1 : (σ'.set iC (some (.str z)))[iW]? = some (some (.int (prodI (((outs ns).take i).map (look (belowBy fW [] ns)))))) := by rw [List.getElem?_set_ne hCW]; exact e
    have a2 : (σ'.set iC (some (.str z)))[iP]? = some (some (.ref DP)) := by rw [hs1.2 _ hPC hPW]; exact eP
    have a3 : (σ'.set iC (some (.str z)))[iC]? = some (some (.str z)) := by rw [List.getElem?_set_self lC]
    show tAsg _ _ _ (σ'.set iC (some (.str z))) H'
    generalize σ'.set iC (some (.str z)) = σ1 at *
    refine ⟨_, a1, _, a2, _, a3, DP, _, rfl, get_known hP hz, _, _, rfl, rfl, wide_mul (a := 701) (b := 701) (abs_lt p1 p2) (abs_lt z1 z2) (by decide) (by decide) (by decide), rfl, hs1.set2, ?_⟩
    rw [List.getElem?_set_self (by rw [hs1.1]; exact hW), prod_step ez]
  · obtain ⟨rfl, hs, e⟩ := p
    rw [List.length_map, load_end] at e
    obtain ⟨zc, zw, rfl⟩ := hs.is hC hW hCW
    rw [List.getElem?_set_self (by rw [List.length_set]; exact hW)] at e
    cases e
    exact q _ ⟨zc, rfl⟩
end Pw
set_option maxHeartbeats 2000000
/-! the law's used and tops -/
namespace Pw
open PySem PySem.Spec PyProof.Rows L2 Dc
theorem op_notin_seqK {X : Cx} {K : PySem.W.Frag} (h : X.K = K) : OpR X (compareOp .NotIn) (rIn K true) := by
  subst h
  exact op_notIn_seq
theorem flat_len {ns : List Nd} (hw : Wired [] ns) (h30 : ns.length ≤ 30) : (flat ns).length ≤ 300 := by
  unfold flat
  rw [List.length_flatMap]
  have h3 : ∀ (ms : List Nd), (∀ m ∈ ms, m.ins.length ≤ 10) → (ms.map fun m => m.ins.length).sum ≤ ms.length * 10 := by
    intro ms
    induction ms with
    | nil => intro _; exact Nat.le_refl _
    | cons m r ih =>
      intro h
      have a1 := h m List.mem_cons_self
      have a2 := ih fun u hu => h u (List.mem_cons_of_mem _ hu)
      rw [List.map_cons, List.sum_cons, List.length_cons, Nat.add_mul]
      omega
  have h4 := h3 ns fun m hm => (wired_node hw hm).2
  omega
theorem flat_words (ns : List Nd) : (ns.map fun n => n.ins.map V.str).flatten = (flat ns).map V.str := by
  unfold flat
  induction ns with
  | nil => rfl
  | cons n r ih =>
    rw [List.map_cons, List.flatten_cons, List.flatMap_cons, List.map_append, ih]
/-- the lists of inputs, by their places -/
theorem ins_lists {K : PySem.W.Frag} {H : Hp} {xs : List V} {ns : List Nd} (hds : DvAll K H xs (ns.map Nd.dat)) :
    ∃ ms : List Addr, ms.length = ns.length ∧ ∀ i, i < ns.length → ∃ (m t : Addr) (n : Nd) (y : V), ms[i]? = some m ∧ ns[i]? = some n ∧ xs[i]? = some (.ref t) ∧ H t = some (.tup [.str n.name, .str n.kind, y, .ref m]) ∧ H m = some (.lst (n.ins.map V.str)) := by
  have hlen : xs.length = ns.length := by rw [hds.length, List.length_map]
  have ex : ∀ i : Nat, ∃ m : Addr, i < ns.length → ∃ (t : Addr) (n : Nd) (y : V), ns[i]? = some n ∧ xs[i]? = some (.ref t) ∧ H t = some (.tup [.str n.name, .str n.kind, y, .ref m]) ∧ H m = some (.lst (n.ins.map V.str)) := by
    intro i
    by_cases hi : i < ns.length
    · have e : xs[i]? = some xs[i] := List.getElem?_eq_getElem (by omega)
      obtain ⟨n, t, m, y, en, ex, ht, hm, _⟩ := node_at hds e
      exact ⟨m, fun _ => ⟨t, n, y, en, by rw [e, ex], ht, hm⟩⟩
    · exact ⟨0, fun h => absurd h hi⟩
  obtain ⟨f, hf⟩ := Classical.skolem.mp ex
  refine ⟨(List.range ns.length).map f, by simp, fun i hi => ?_⟩
  obtain ⟨t, n, y, e1, e2, e3, e4⟩ := hf i hi
  exact ⟨f i, t, n, y, by simp [hi], e1, e2, e3, e4⟩
/-- sum([node[3] for node in list_of], []) -/
theorem used_sum {K : PySem.W.Frag} {iL iN : Nat} {σ : L2.St} {H : Hp} {Q : VK} {l : Addr} {xs : List V} {ns : List Nd} (eL : σ[iL]? = some (some (.ref l))) (h1 : ∀ x, wipe ((wipe σ [iN]).set iN (some x)) [iN] = wipe σ [iN]) (h2 : ∀ x, ((wipe σ [iN]).set iN (some x))[iN]? = some (some x))
    (hl : H l = some (.lst xs)) (hds : DvAll K H xs (ns.map Nd.dat)) (hw : Wired [] ns) (hn : 1 ≤ ns.length) (h30 : ns.length ≤ 30)
    (q : ∀ p H', Same H H' → H' p = some (.lst ((flat ns).map V.str)) → Q (.ref p) H') :
    tCB (rSumL K) (tCons (tLc (iList K (tVar iL)) (gName iN) tYes (tOp (rIxT K) (tVar iN) (tC (.int 3))) [iN]) (tCons (tLst tNil) tNil)) σ H Q := by
  have hlen : xs.length = ns.length := by rw [hds.length, List.length_map]
  obtain ⟨ms, lm, hms⟩ := ins_lists hds
  refine ⟨_, eL, l, rfl, ⟨_, SqL.of hl⟩, fun D1 nD1 => ?_⟩
  refine lc_mapW (ys := ms.map V.ref) (walk_list (xs := xs)) nD1 (by rw [List.length_map, lm, hlen]) (Nat.lt_of_le_of_lt (by omega : xs.length ≤ 1000) (by decide)) (fun H3 s3 => SqL.of (s3 _ _ hl)) (fun j v y H3 H4 Q2 hj ey s3 yv k => ?_) (fun H3 s3 eD => ?_)
  · obtain ⟨rfl, hv⟩ := yv
    obtain ⟨m, t, n, y3, em, en, ex, ht, hm⟩ := hms j (by omega)
    have ev : some v = some (V.ref t) := hv.symm.trans ex
    cases ev
    rw [List.getElem?_map, em] at ey
    cases ey
    exact ⟨h1 _, _, h2 _, t, _, _, _, rfl, rfl, SqT.of (s3 _ _ ht), atI_nat (j := 3) rfl, k _ (Same.refl _)⟩
  · refine ⟨by show 0 ≤ sizeLine; exact Nat.zero_le _, fun p np => ?_⟩
    have sp : Same H3 (upd H3 p (.lst [])) := same_upd np
    have zle : ((ns.map fun n => n.ins.map V.str).flatten).length ≤ sizeLine := by
      rw [flat_words, List.length_map]
      exact Nat.le_trans (flat_len hw h30) (by decide)
    refine ⟨D1, p, ms, ns.map fun n => n.ins.map V.str, rfl, SqL.of (sp _ _ eD), Rd.of upd_same, by omega, fun hm => ?_, fun e => ?_, by rw [List.length_map, lm], fun i m x e1 e2 => ?_, zle, fun r nr => ?_⟩
    · obtain ⟨i, hi⟩ := List.getElem?_of_mem hm
      obtain ⟨m, t, n, y3, em, en, ex, ht, hm'⟩ := hms i (by rw [← lm]; exact (List.getElem?_eq_some_iff.mp hi).1)
      rw [hi] at em
      cases em
      rw [nD1] at hm'
      cases hm'
    · rw [e, np] at eD
      cases eD
    · obtain ⟨m', t, n, y3, em, en, ex, ht, hm'⟩ := hms i (by rw [← lm]; exact (List.getElem?_eq_some_iff.mp e1).1)
      rw [e1] at em
      cases em
      rw [List.getElem?_map, en] at e2
      cases e2
      exact Rd.of (sp _ _ (s3 _ _ hm'))
    · refine q r _ ((s3.trans sp).trans (same_upd nr)) ?_
      rw [upd_same, flat_words]
/-- [node[0] for node in list_of if node[0] not in used] -/
theorem tops_comp {K : PySem.W.Frag} {iL iN iU : Nat} {σ : L2.St} {H : Hp} {Q : VK} {l U : Addr} {xs : List V} {ns : List Nd} (eL : σ[iL]? = some (some (.ref l))) (h1 : ∀ x, wipe ((wipe σ [iN]).set iN (some x)) [iN] = wipe σ [iN]) (h2 : ∀ x, ((wipe σ [iN]).set iN (some x))[iN]? = some (some x)) (h3 : ∀ x, ((wipe σ [iN]).set iN (some x))[iU]? = some (some (.ref U)))
    (hl : H l = some (.lst xs)) (hds : DvAll K H xs (ns.map Nd.dat)) (h30 : ns.length ≤ 30) (hU : H U = some (.lst ((flat ns).map V.str)))
    (q : ∀ p H', Same H H' → H p = none → H' p = some (.lst ((outs ns).map V.str)) → Q (.ref p) H') :
    tLc (iList K (tVar iL)) (gName iN) (tTest (tOp (rIn K true) (tKey0 K iN) (tVar iU))) (tKey0 K iN) [iN] σ H Q := by
  have hlen : xs.length = ns.length := by rw [hds.length, List.length_map]
  refine ⟨_, eL, l, rfl, ⟨_, SqL.of hl⟩, fun D1 nD1 => ?_⟩
  refine lc_filtW (walk_list (xs := xs)) (fun i => (ns[i]?).bind fun n => if used ns n.name = true then none else some (V.str n.name)) nD1 (Nat.lt_of_le_of_lt (by omega : xs.length ≤ 1000) (by decide)) (fun H' s' => SqL.of (s' _ _ hl)) (fun i x H3 H4 Q2 N2 hi s3 y k1 k2 => ?_) (fun H3 s3 e3 => ?_)
  · obtain ⟨rfl, hx⟩ := y
    obtain ⟨n, b, l2, y3, en, rfl, hb, hl2, _⟩ := node_at hds hx
    have hb' := s3 _ _ hb
    rw [en] at k1 k2
    refine ⟨h1 _, key_of (h2 _) hb' ⟨_, h3 _, U, _, rfl, .inl (SqL.of (s3 _ _ hU)), rfl, flat_strs _, _, rfl, ?_⟩⟩
    by_cases m : n.name ∈ flat ns
    · have u : used ns n.name = true := by rw [used_flat]; exact decide_eq_true m
      refine iteE (b := false) (by show (!inV _ _) = false; rw [in_strs, decide_eq_true m]; rfl) ?_
      exact k2 _ (by show (if used ns n.name = true then none else _) = none; rw [if_pos u]) (Same.refl _)
    · have u : used ns n.name = false := by rw [used_flat]; exact decide_eq_false m
      refine iteE (b := true) (by show (!inV _ _) = true; rw [in_strs, decide_eq_false m]; rfl) ?_
      exact key_of (h2 _) hb' (k1 _ _ (by show (if used ns n.name = true then none else some (V.str n.name)) = _; rw [u, if_neg Bool.false_ne_true]) (Same.refl _))
  · rw [hlen, filterMap_range ns, outs_is] at e3
    exact q D1 H3 s3 nD1 e3
end Pw
set_option maxHeartbeats 2000000
/-! sum([d[z] for z in words]), by slots -/
namespace Pw
open PySem PySem.Spec PyProof.Rows L2 Dc
theorem look_map {K : PySem.W.Frag} {iL iC iD : Nat} {σ : L2.St} {H : Hp} {Q : VK} {l DP : Addr} {zs : List Str} {b : List (Str × Int)} (eL : σ[iL]? = some (some (.ref l))) (h1 : ∀ x, wipe ((wipe σ [iC]).set iC (some x)) [iC] = wipe σ [iC]) (h2 : ∀ x, ((wipe σ [iC]).set iC (some x))[iC]? = some (some x)) (h3 : ∀ x, ((wipe σ [iC]).set iC (some x))[iD]? = some (some (.ref DP)))
    (hl : H l = some (.lst (zs.map V.str))) (hD : H DP = some (kiO b)) (sub : ∀ z ∈ zs, z ∈ b.map (·.1)) (hz : zs.length ≤ 1000)
    (q : ∀ p H', Same H H' → H p = none → H' p = some (.lst ((zs.map (look b)).map V.int)) → Q (.ref p) H') :
    tLc (iList K (tVar iL)) (gName iC) tYes (tDGet (tVar iD) (tVar iC)) [iC] σ H Q := by
  refine ⟨_, eL, l, rfl, ⟨_, SqL.of hl⟩, fun D1 nD1 => ?_⟩
  refine lc_mapW (ys := zs.map fun z => V.int (look b z)) (walk_list (xs := zs.map V.str)) nD1 (by rw [List.length_map, List.length_map]) (by rw [List.length_map]; exact Nat.lt_of_le_of_lt hz (by decide)) (fun H3 s3 => SqL.of (s3 _ _ hl)) (fun j v y H3 H4 Q2 hj ey s3 yv k => ?_) (fun H3 s3 eD => ?_)
  · obtain ⟨rfl, hv⟩ := yv
    rw [List.getElem?_map] at hv ey
    obtain ⟨u, eu, rfl⟩ := Option.map_eq_some_iff.mp hv
    obtain ⟨u2, eu2, rfl⟩ := Option.map_eq_some_iff.mp ey
    cases eu.symm.trans eu2
    exact ⟨h1 _, .ref DP, h3 _, _, h2 _, DP, _, rfl, get_known (s3 _ _ hD) (sub u (List.mem_of_getElem? eu)), k _ (Same.refl _)⟩
  · exact q D1 H3 s3 nD1 (by rw [eD, sum_map_look])
/-- sum([sizes[called] for called in tops]) -/
theorem cells_sum {K : PySem.W.Frag} {iL iC iD : Nat} {σ : L2.St} {H : Hp} {Q : VK} {l DP : Addr} {ns : List Nd} (eL : σ[iL]? = some (some (.ref l))) (h1 : ∀ x, wipe ((wipe σ [iC]).set iC (some x)) [iC] = wipe σ [iC]) (h2 : ∀ x, ((wipe σ [iC]).set iC (some x))[iC]? = some (some x)) (h3 : ∀ x, ((wipe σ [iC]).set iC (some x))[iD]? = some (some (.ref DP)))
    (hl : H l = some (.lst ((outs ns).map V.str))) (h30 : ns.length ≤ 30) (hD : H DP = some (kiO (belowBy fC [] ns))) (q : ∀ H', Same H H' → Q (.int (cellsN ns)) H') :
    tCB (rSum K) (tCons (tLc (iList K (tVar iL)) (gName iC) tYes (tDGet (tVar iD) (tVar iC)) [iC]) tNil) σ H Q := by
  refine cb_of (look_map eL h1 h2 h3 hl hD (fun z hz => ?_) (by have := outs_len ns; omega) fun p H' s _ e => ⟨p, _, rfl, SqL.of e, ?_⟩)
  · rw [below_keys]
    simpa using outs_sub hz
  · rw [cells_end]
    exact q H' s
end Pw
set_option maxHeartbeats 2000000
/-! what the law calls -/
namespace Pw
open PySem PySem.Spec PyProof.Rows L2 Dc Own
/-- a def of ours called with nothing -/
theorem pe_def0 {X : Cx} {CX : CXT} {j k : Nat} {x : Str} {sp : Sp} {E : XK} {p pos : Pos} (D : DefOk X.prog X.w X.K X.mg X.base CX j x [] sp) (hr : Room k X.A) (hx : Passes CX X E) (hk : j ≤ k := by decide) (hg : Gl X x := by rfl)
    (hdb : (x == ("__debug__" : Str)) = false := by decide) : PE X (.Call (.Name x p) [] [] pos) (tCall sp [] E tNil) := by
  obtain ⟨f, fd, h1, h2, h3, h4⟩ := D.ex
  exact pe_call0 h4 (hr.mono hk) hg h1 h2 h3 .nil hx hdb
structure LawPs (P : Program) (w : World) (K : PySem.W.Frag) (mg : Str → Option Value) (base : Heap) (C CI CN CL fI fi fe : Addr) (fdi fde : FuncData) (g : List Value → List Value → List Value) (gV : List V → List V → List V) : Prop where
  B : Blt mg
  bS : mg "sum" = none
  bMax : mg "max" = none
  GC : DefOk P w K mg base CX0 1 "_law_cell_at" ["_law_script", "_law_k"] (spCellAt K)
  GS : DefOk P w K mg base CX0 1 "_law_source_of" ["_law_cell"] spSourceOf
  GN : DefOk P w K mg base CX0 4 "_law_nodes" ["_law_source", "_law_most", "_law_wide"] (spNodes K)
  GCo : DefOk P w K mg base CX0 10 "_law_copied" ["_law_value"] (spCopied K 10)
  GM : DefOk P w K mg base CX0 18 "_law_made" ["_law_list_of"] (spMade K C)
  GSp : DefOk P w K mg base CX0 11 "_law_spoil" ["_law_value"] (spSpoil 11)
  GNu : DefOk P w K mg base CX0 1 "_law_numbers" ["_law_list_of"] (spNums K)
  GF : DefOk P w K mg base CX0 1 "_law_factor" ["_law_node"] (spOwn K)
  GO : DefOk P w K mg base CX0 12 "outlets" ["net"] (spOutlets K C)
  KO : DefKw P w K mg base CX0 12 "outlets" ["net"] ["net"] id (spOutlets K C)
  GCe : DefOk P w K mg base CX0 13 "cells" ["net"] (spCells K C)
  KC : DefKw P w K mg base CX0 13 "cells" ["net"] ["net"] id (spCells K C)
  GW : DefOk P w K mg base CX0 13 "weight" ["net"] (spWeight K C)
  KW : DefKw P w K mg base CX0 13 "weight" ["net"] ["net"] id (spWeight K C)
  KL : DefKw P w K mg base CX0 13 "loops" ["net"] ["net"] id (spLoops K C)
  GE : DefOk P w K mg base CX0 13 "_law_each_right" ["_law_mesh", "_law_list_of", "_law_roots"] (spEach K C)
  GU : DefOk P w K mg base CX0 18 "_law_unlike_right" [] spUnl
  N : NetCls P w K mg base C
  T : NetMk P w K mg base C CN CL fi fe fdi fde
  kb : KBn K fdi ["self", "nodes"] 1 ["nodes"] g gV
  gv : ∀ a x, gV [a] [x] = [a, x]
  len : ∃ f fd, Meth K C "__len__" f ∧ FnOk P w K mg base CX0 1 f fd ["self"] (spLenN K C) ∧ Binds K fd ["self"] []
  S : Srs2 P w K mg base C CI
  HM : HasM P w K mg base C
  W2 : Nms2 P w K mg base C CI fI
  DN : Dfn K mg "_law_names_right" sNmsR ["_law_mesh"]
abbrev sLaw : Stmt := topS 73
abbrev lawN : List Str := ["_law_script", "_law_cell", "_law_source", "_law_list_of", "_law_handed", "_law_mesh", "_law_sizes", "_law_depths", "_law_roots", "_law_node", "_law_used", "_law_tops", "_law_load", "_law_products", "_law_below", "_law_called", "_law_other"]
theorem scLaw : FnScope lawN ["_law_script"] (defScope sLaw) := ⟨rfl, rfl, rfl, by decide +kernel, rfl, by decide +kernel, by decide +kernel⟩
end Pw
set_option maxHeartbeats 4000000
/-! the law's turn, from the load on: one contract for each statement -/
namespace Pw
open PySem PySem.Spec PyProof.Rows L2 Dc Own
/-- the statements of a turn -/
def lawSts : List Stmt := match defBody sLaw with
  | .For _ _ body _ _ :: _ => body
  | _ => []
def lawTail : List Stmt := lawSts.drop 13
def lawSt (i : Nat) : Stmt := lawSts.getD i (.Pass ⟨0, 0, 0, 0⟩)
theorem ps_weak {X : Cx} {st : Stmt} {t t' : TS} (h : PS X st t) (k : ∀ D σ H, t' D σ H → t D σ H) : PS X st t' := ⟨fun pins s σ H D I w => h.run pins s σ H D I (k D σ H w)⟩
theorem pss_weak {X : Cx} {st : List Stmt} {t t' : TS} (h : PSs X st t) (k : ∀ D σ H, t' D σ H → t D σ H) : PSs X st t' := ⟨fun pins s σ H D I w => h.run pins s σ H D I (k D σ H w)⟩
structure LawT (K : PySem.W.Frag) (C : Addr) (H : Hp) (l a pd DS DD DR T2 : Addr) (ns : List Nd) (fr : Str → List Str) : Prop where
  net : NetF K H C a pd ns
  dv : Dv K H (.ref l) (.list (ns.map Nd.dat))
  hT : H T2 = some (.lst ((outs ns).map V.str))
  hS : H DS = some (kiO (belowBy fC [] ns))
  hD : H DD = some (kiO (belowBy fL [] ns))
  hR : RootD H DR (ns.map (·.name)) fr
  hfr : ∀ n ∈ ns, fr n.name = rootEq fr n
  sm : smB (.list (ns.map Nd.dat)) = true
  ck : checkNodes (.list (ns.map Nd.dat)) = none
  lim : limitN ns = none
  up : ∀ n ∈ ns, upTo 12 n.name
  hc : cellsN ns ≤ 100
theorem LawT.same {K : PySem.W.Frag} {C : Addr} {H H' : Hp} {l a pd DS DD DR T2 : Addr} {ns : List Nd} {fr : Str → List Str} (h : LawT K C H l a pd DS DD DR T2 ns fr) (s : Same H H') : LawT K C H' l a pd DS DD DR T2 ns fr :=
  ⟨h.net.same s, h.dv.same s, s _ _ h.hT, s _ _ h.hS, s _ _ h.hD, h.hR.same s, h.hfr, h.sm, h.ck, h.lim, h.up, h.hc⟩
abbrev lawσ (a0 : Addr) (z1 z2 : Option V) (l : Addr) (z4 : Option V) (a DS DD DR : Addr) (z9 z10 : Option V) (T2 : Addr) (wt : Int) (z13 z14 z15 z16 : Option V) : L2.St := [some (.ref a0), z1, z2, some (.ref l), z4, some (.ref a), some (.ref DS), some (.ref DD), some (.ref DR), z9, z10, some (.ref T2), some (.int wt), z13, z14, z15, z16]
def tLaw (K : PySem.W.Frag) (C : Addr) : TS := fun D σ H => ∃ (a0 l a pd DS DD DR T2 : Addr) (ns : List Nd) (fr : Str → List Str) (z1 z2 z4 z9 z10 z13 z14 z15 z16 : Option V), σ = lawσ a0 z1 z2 l z4 a DS DD DR z9 z10 T2 (weightN ns) z13 z14 z15 z16 ∧ LawT K C H l a pd DS DD DR T2 ns fr ∧ ∀ H', Same H H' → D.nx σ H'
theorem int_same (i : Int) : (!decide (V.int i = V.int i)) = false := by
  rw [decide_eq_true rfl]
  rfl
theorem makeK_ok {K : PySem.W.Frag} {C CN CL : Addr} {H : Hp} {v : V} {ns : List Nd} {gV : List V → List V → List V} {Q : Addr → Hp → Prop} {E : XK} (gv : ∀ a x, gV [a] [x] = [a, x]) (hv : Dv K H v (.list (ns.map Nd.dat))) (ok : smB (.list (ns.map Nd.dat)) = true ∧ checkNodes (.list (ns.map Nd.dat)) = none ∧ limitN ns = none)
    (k : ∀ (x pd : Addr) (H' : Hp), Same H H' → H x = none → H pd = none → NetF K (newOf H H') C x pd ns → Q x H') :
    ∀ x dx, H x = none → H dx = none → dx ≠ x → spInit K C CN CL (gV [.ref x] [v]) (upd (upd H dx (.own x)) x (.ins C dx [])) (fun r H2 => r = .non ∧ Q x H2) E := by
  intro x dx nx ndx nexd
  rw [gv]
  have u1 : Same H (upd (upd H dx (.own x)) x (.ins C dx [])) := (same_upd ndx).trans (same_upd (by rw [upd_ne (fun e => nexd e.symm)]; exact nx))
  have inj : ∀ {ms : List Nd}, PyData.list (ns.map Nd.dat) = .list (ms.map Nd.dat) → ms = ns := fun {ms} e => (nds_inj (PyData.list.inj e)).symm
  refine ⟨x, dx, v, _, rfl, upd_same, hv.same u1, ok.1, fun n e => ?_, fun ms e1 e2 n e3 => ?_, fun ms e1 e2 e3 H' s4 net => ?_⟩
  · rw [ok.2.1] at e
    cases e
  · rw [inj e2, ok.2.2] at e3
    cases e3
  · obtain rfl := inj e2
    obtain ⟨dx2, v2, pd, n1, n2, n3, n4⟩ := net.at_
    have back : Same H H' := fun b o e => s4 _ _ (by
      rw [hid_ne (ne_of_none e nx)]
      exact u1 _ _ e)
    have npd : H pd = none := by
      cases z : H pd with
      | none => rfl
      | some o =>
        rw [u1 pd o z] at n3
        cases n3
    refine ⟨rfl, k x pd H' back nx npd ⟨⟨dx2, v2, ?_, ?_⟩, ?_, net.wired, net.some_, net.few⟩⟩
    · unfold newOf
      rw [nx]
      exact n1
    · exact n4.same (newOf_mono u1 (Same.refl _))
    · unfold newOf
      rw [npd]
      exact n2
theorem tlaw_seq {K : PySem.W.Frag} {C : Addr} {u : TS} (hu : ∀ D σ H, tLaw K C D σ H → u D σ H) : ∀ D σ H, tLaw K C D σ H → tSeq (tLaw K C) u D σ H := by
  intro D σ H h
  obtain ⟨a0, l, a, pd, DS, DD, DR, T2, ns, fr, z1, z2, z4, z9, z10, z13, z14, z15, z16, e, T, q⟩ := h
  exact ⟨a0, l, a, pd, DS, DD, DR, T2, ns, fr, z1, z2, z4, z9, z10, z13, z14, z15, z16, e, T, fun H' s => hu D σ H' ⟨a0, l, a, pd, DS, DD, DR, T2, ns, fr, z1, z2, z4, z9, z10, z13, z14, z15, z16, e, T.same s, fun H2 s2 => q H2 (s.trans s2)⟩⟩
end Pw
set_option maxHeartbeats 4000000
namespace Pw
open PySem PySem.Spec PyProof.Rows L2 Dc Own
section
variable {P : Program} {w : World} {K : PySem.W.Frag} {mg : Str → Option Value} {base : Heap} {C CI CN CL fI fi fe : Addr} {fdi fde : FuncData} {g : List Value → List Value → List Value} {gV : List V → List V → List V}
theorem lt_A (Cs : LawPs P w K mg base C CI CN CL fI fi fe fdi fde g gV) {f : Addr} {cdv : Value} {A : Around} {outer : List Env} {s : Shared} {H : Hp} {E : XK} (hgd : (A.deeper (envOfC "law" (defScope sLaw) s.heap.objs.size f cdv)).guards = some []) (hr : Room 22 (A.deeper (envOfC "law" (defScope sLaw) s.heap.objs.size f cdv))) (hr70 : (A.deeper (envOfC "law" (defScope sLaw) s.heap.objs.size f cdv)).units + 70 < cLine) :
    PS (cxOf CX0 P w K mg base lawN "law" (defScope sLaw) f cdv A outer s H E).nox (lawSt 13) (tLaw K C) := by
  have nd := scLaw.nd
  have hu := Nat.lt_of_le_of_lt (Nat.add_le_add_left (by decide : 1 ≤ 64) _) hr.units
  have hxP : Passes (L2.CX P w) (cxOf CX0 P w K mg base lawN "law" (defScope sLaw) f cdv A outer s H E).nox E0 := passes_call L2.takes0 fun _ _ _ _ h => h
  obtain ⟨fLn, fdLn, mLn, FLn, bLn⟩ := Cs.len
  refine ps_weak
    ((ps_if (PW.pt (pw_or (pt_cmpR (op_neD hr.units) (pe_def Cs.GO hr pass0 (pa_cons (pv 5) pa_nil)) (pv 11) (nomark _)) (pw_or (pt_cmpR (op_neD hr.units) (pe_kw Cs.KO hr pass0 (pk_cons (pv 5) pk_nil)) (pv 11) (nomark _)) (pw_or1 (pt_cmpR op_ne (pe_def Cs.GCe hr pass0 (pa_cons (pv 5) pa_nil)) (pe_callB (cr_sum rfl) (by rfl) Cs.bS (by decide +kernel) (pa_cons (pe_lc (own := [("_law_called", 15)]) (g := gName 15) (tt := tYes) rfl nd (pi_list (pv 11)) (blkOk_by (N := lawN) (sc := defScope sLaw) (by decide +kernel)) (fun _ _ _ _ _ => (pg_name (i := 15) nd rfl (Or.inl rfl))) (fun _ _ _ _ _ => pts_nil) (fun _ _ _ _ _ => (pe_dget (by exact hu) (pv 6) (pv 15) (fun _ _ => rfl)))) pa_nil)) (nomark _)))))) (pss_one (ps_ret pe_bl)) pss_nil))
    fun D σ H h => ?_
  obtain ⟨a0, l, a, pd, DS, DD, DR, T2, ns, fr, z1, z2, z4, z9, z10, z13, z14, z15, z16, rfl, T, q⟩ := h
  have hw := T.net.wired
  have n30 := T.net.few
  have oname : ∀ z ∈ outs ns, isName (.str z) = true := fun z hz => by
    obtain ⟨m, hm, rfl⟩ := List.mem_map.mp hz
    exact (node_names (wired_node hw (List.mem_filter.mp hm).1).1).1
  have okd : okD 2 (.list ((outs ns).map PyData.str)) = true := okD_words (n := 0) oname
  have dvo : ∀ {b : Addr} {G : Hp}, G b = some (.lst ((outs ns).map V.str)) → Dv K G (.ref b) (.list ((outs ns).map PyData.str)) := fun {b G} e => .lst e (by rw [List.length_map]; have := outs_len ns; omega) (words_dv _)
  refine ⟨_, rfl, a, ns, rfl, T.net.net, fun l12 H12 s12 _ e12 => ?_⟩
  refine ⟨_, rfl, _, _, (dvo e12).dp (okD_noDict 2 _ okd), (dvo (s12 _ _ T.hT)).dp (okD_noDict 2 _ okd), okD_shaped okd (by decide), okD_shaped okd (by decide), _, rfl, no_if (eqvT okd) ?_⟩
  refine ⟨_, rfl, rfl, a, ns, rfl, T.net.net.same s12, fun l13 H13 s13 _ e13 => ?_⟩
  have s113 := s12.trans s13
  refine ⟨_, rfl, _, _, (dvo e13).dp (okD_noDict 2 _ okd), (dvo (s113 _ _ T.hT)).dp (okD_noDict 2 _ okd), okD_shaped okd (by decide), okD_shaped okd (by decide), _, rfl, no_if (eqvT okd) ?_⟩
  refine ⟨_, rfl, a, ns, rfl, T.net.net.same s113, fun H14 s14 => ?_⟩
  have s114 := s113.trans s14
  refine cells_sum (K := K) (iL := 11) (iC := 15) (iD := 6) rfl (fun _ => rfl) (fun _ => rfl) (fun _ => rfl) (s114 _ _ T.hT) n30 (s114 _ _ T.hS) fun H15 s15 => ?_
  refine ⟨rfl, _, rfl, no_if (int_same _) ?_⟩
  exact q _ (s114.trans s15)
end
end Pw
set_option maxHeartbeats 4000000
namespace Pw
open PySem PySem.Spec PyProof.Rows L2 Dc Own
section
variable {P : Program} {w : World} {K : PySem.W.Frag} {mg : Str → Option Value} {base : Heap} {C CI CN CL fI fi fe : Addr} {fdi fde : FuncData} {g : List Value → List Value → List Value} {gV : List V → List V → List V}
theorem lt_B (Cs : LawPs P w K mg base C CI CN CL fI fi fe fdi fde g gV) {f : Addr} {cdv : Value} {A : Around} {outer : List Env} {s : Shared} {H : Hp} {E : XK} (hgd : (A.deeper (envOfC "law" (defScope sLaw) s.heap.objs.size f cdv)).guards = some []) (hr : Room 22 (A.deeper (envOfC "law" (defScope sLaw) s.heap.objs.size f cdv))) (hr70 : (A.deeper (envOfC "law" (defScope sLaw) s.heap.objs.size f cdv)).units + 70 < cLine) :
    PS (cxOf CX0 P w K mg base lawN "law" (defScope sLaw) f cdv A outer s H E).nox (lawSt 14) (tLaw K C) := by
  have nd := scLaw.nd
  have hu := Nat.lt_of_le_of_lt (Nat.add_le_add_left (by decide : 1 ≤ 64) _) hr.units
  have hxP : Passes (L2.CX P w) (cxOf CX0 P w K mg base lawN "law" (defScope sLaw) f cdv A outer s H E).nox E0 := passes_call L2.takes0 fun _ _ _ _ h => h
  obtain ⟨fLn, fdLn, mLn, FLn, bLn⟩ := Cs.len
  refine ps_weak
    ((ps_if (PW.pt (pw_or (pt_cmpR op_ne (pe_def Cs.GW hr pass0 (pa_cons (pv 5) pa_nil)) (pv 12) (nomark _)) (pw_or (pt_cmpR op_ne (pe_kw Cs.KW hr pass0 (pk_cons (pv 5) pk_nil)) (pv 12) (nomark _)) (pw_or1 (pt_cmpR op_ne (pe_callB (call_lenOwn mLn FLn (hr.mono (by decide)) bLn pass0) (by rfl) Cs.B.len PySem.boot_len (pa_cons (pv 5) pa_nil)) (pe_callB call_len_seq (by rfl) Cs.B.len PySem.boot_len (pa_cons (pv 3) pa_nil)) (nomark _)))))) (pss_one (ps_ret pe_bl)) pss_nil))
    fun D σ H h => ?_
  obtain ⟨a0, l, a, pd, DS, DD, DR, T2, ns, fr, z1, z2, z4, z9, z10, z13, z14, z15, z16, rfl, T, q⟩ := h
  have hw := T.net.wired
  have n30 := T.net.few
  refine ⟨_, rfl, a, ns, rfl, T.net.net, T.hc, fun H1 s1 => ?_⟩
  refine ⟨_, rfl, rfl, _, rfl, no_if (int_same _) ?_⟩
  refine ⟨_, rfl, rfl, a, ns, rfl, T.net.net.same s1, T.hc, fun H2 s2 => ?_⟩
  refine ⟨_, rfl, rfl, _, rfl, no_if (int_same _) ?_⟩
  have s12 := s1.trans s2
  have N := T.net.same s12
  obtain ⟨dx, v, hat, _⟩ := N.at_
  refine ⟨_, rfl, a, dx, _, rfl, hat, a, pd, ns, rfl, N, _, rfl, by omega, by omega, ?_⟩
  have dl := T.dv.same s12
  cases dl with
  | @lst l xs _ hl hlz hds =>
  have hlen : xs.length = ns.length := by rw [hds.length, List.length_map]
  refine ⟨_, rfl, l, xs, rfl, .inl (SqL.of hl), ?_⟩
  rw [hlen]
  exact ⟨rfl, _, rfl, no_if (int_same _) (q _ s12)⟩
end
end Pw
set_option maxHeartbeats 4000000
namespace Pw
open PySem PySem.Spec PyProof.Rows L2 Dc Own
section
variable {P : Program} {w : World} {K : PySem.W.Frag} {mg : Str → Option Value} {base : Heap} {C CI CN CL fI fi fe : Addr} {fdi fde : FuncData} {g : List Value → List Value → List Value} {gV : List V → List V → List V}
theorem lt_C (Cs : LawPs P w K mg base C CI CN CL fI fi fe fdi fde g gV) {f : Addr} {cdv : Value} {A : Around} {outer : List Env} {s : Shared} {H : Hp} {E : XK} (hgd : (A.deeper (envOfC "law" (defScope sLaw) s.heap.objs.size f cdv)).guards = some []) (hr : Room 22 (A.deeper (envOfC "law" (defScope sLaw) s.heap.objs.size f cdv))) (hr70 : (A.deeper (envOfC "law" (defScope sLaw) s.heap.objs.size f cdv)).units + 70 < cLine) :
    PS (cxOf CX0 P w K mg base lawN "law" (defScope sLaw) f cdv A outer s H E).nox (lawSt 15) (tLaw K C) := by
  have nd := scLaw.nd
  have hu := Nat.lt_of_le_of_lt (Nat.add_le_add_left (by decide : 1 ≤ 64) _) hr.units
  have hxP : Passes (L2.CX P w) (cxOf CX0 P w K mg base lawN "law" (defScope sLaw) f cdv A outer s H E).nox E0 := passes_call L2.takes0 fun _ _ _ _ h => h
  obtain ⟨fLn, fdLn, mLn, FLn, bLn⟩ := Cs.len
  refine ps_weak
    ((ps_if (pt_cmpR op_ne (pe_kw Cs.KL hr pass0 (pk_cons (pv 5) pk_nil)) (pe_callB (cr_max rfl) (by rfl) Cs.bMax (by decide +kernel) (pa_cons (pe_listVals rfl (by rfl) Cs.B.list (pv 7)) pa_nil)) (nomark _)) (pss_one (ps_ret pe_bl)) pss_nil))
    fun D σ H h => ?_
  obtain ⟨a0, l, a, pd, DS, DD, DR, T2, ns, fr, z1, z2, z4, z9, z10, z13, z14, z15, z16, rfl, T, q⟩ := h
  have hw := T.net.wired
  have n30 := T.net.few
  refine ⟨_, rfl, rfl, a, ns, rfl, T.net.net, fun H1 s1 => ?_⟩
  refine ⟨_, rfl, DD, _, rfl, s1 _ _ T.hD, fun p np => ?_⟩
  have ev : (((belowBy fL [] ns).map fun e => ((.inr e.1 : Key), V.int e.2)).map (·.2)) = ((belowBy fL [] ns).map (·.2)).map V.int := by
    rw [List.map_map, List.map_map]
    rfl
  refine ⟨p, (belowBy fL [] ns).map (·.2), rfl, SqL.of (by rw [← ev]; exact upd_same), ?_, fun m hm ht => ?_⟩
  · have := T.net.some_
    have e := congrArg List.length (below_keys fL ns [])
    rw [List.length_map, List.length_append, List.length_map, List.length_map, List.length_nil] at e
    rw [List.length_map, e]
    omega
  · rw [depths_max hw T.net.some_ hm ht]
    refine ⟨rfl, _, rfl, no_if (int_same _) (q _ (s1.trans (same_upd np)))⟩
end
end Pw
set_option maxHeartbeats 4000000
namespace Pw
open PySem PySem.Spec PyProof.Rows L2 Dc Own
section
variable {P : Program} {w : World} {K : PySem.W.Frag} {mg : Str → Option Value} {base : Heap} {C CI CN CL fI fi fe : Addr} {fdi fde : FuncData} {g : List Value → List Value → List Value} {gV : List V → List V → List V}
theorem lt_D (Cs : LawPs P w K mg base C CI CN CL fI fi fe fdi fde g gV) {f : Addr} {cdv : Value} {A : Around} {outer : List Env} {s : Shared} {H : Hp} {E : XK} (hgd : (A.deeper (envOfC "law" (defScope sLaw) s.heap.objs.size f cdv)).guards = some []) (hr : Room 22 (A.deeper (envOfC "law" (defScope sLaw) s.heap.objs.size f cdv))) (hr70 : (A.deeper (envOfC "law" (defScope sLaw) s.heap.objs.size f cdv)).units + 70 < cLine) :
    PS (cxOf CX0 P w K mg base lawN "law" (defScope sLaw) f cdv A outer s H E).nox (lawSt 16) (tLaw K C) := by
  have nd := scLaw.nd
  have hu := Nat.lt_of_le_of_lt (Nat.add_le_add_left (by decide : 1 ≤ 64) _) hr.units
  have hxP : Passes (L2.CX P w) (cxOf CX0 P w K mg base lawN "law" (defScope sLaw) f cdv A outer s H E).nox E0 := passes_call L2.takes0 fun _ _ _ _ h => h
  obtain ⟨fLn, fdLn, mLn, FLn, bLn⟩ := Cs.len
  refine ps_weak
    ((ps_if (pt_not (pt_val (pe_def Cs.GE hr pass0 (pa_cons (pv 5) (pa_cons (pv 3) (pa_cons (pv 8) pa_nil)))))) (pss_one (ps_ret pe_bl)) pss_nil))
    fun D σ H h => ?_
  obtain ⟨a0, l, a, pd, DS, DD, DR, T2, ns, fr, z1, z2, z4, z9, z10, z13, z14, z15, z16, rfl, T, q⟩ := h
  have hw := T.net.wired
  have n30 := T.net.few
  refine ⟨_, rfl, _, rfl, _, rfl, a, pd, DR, .ref l, ns, fr, rfl, T.net, T.dv, T.hR, T.hfr, fun H1 s1 => ?_⟩
  exact ⟨_, rfl, no_if rfl (q _ s1)⟩
end
end Pw
set_option maxHeartbeats 4000000
namespace Pw
open PySem PySem.Spec PyProof.Rows L2 Dc Own
section
variable {P : Program} {w : World} {K : PySem.W.Frag} {mg : Str → Option Value} {base : Heap} {C CI CN CL fI fi fe : Addr} {fdi fde : FuncData} {g : List Value → List Value → List Value} {gV : List V → List V → List V}
theorem lt_E (Cs : LawPs P w K mg base C CI CN CL fI fi fe fdi fde g gV) {f : Addr} {cdv : Value} {A : Around} {outer : List Env} {s : Shared} {H : Hp} {E : XK} (hgd : (A.deeper (envOfC "law" (defScope sLaw) s.heap.objs.size f cdv)).guards = some []) (hr : Room 22 (A.deeper (envOfC "law" (defScope sLaw) s.heap.objs.size f cdv))) (hr70 : (A.deeper (envOfC "law" (defScope sLaw) s.heap.objs.size f cdv)).units + 70 < cLine) :
    PS (cxOf CX0 P w K mg base lawN "law" (defScope sLaw) f cdv A outer s H E).nox (lawSt 17) (tLaw K C) := by
  have nd := scLaw.nd
  have hu := Nat.lt_of_le_of_lt (Nat.add_le_add_left (by decide : 1 ≤ 64) _) hr.units
  have hxP : Passes (L2.CX P w) (cxOf CX0 P w K mg base lawN "law" (defScope sLaw) f cdv A outer s H E).nox E0 := passes_call L2.takes0 fun _ _ _ _ h => h
  obtain ⟨fLn, fdLn, mLn, FLn, bLn⟩ := Cs.len
  refine ps_weak
    ((ps_expr (pe_bm PySem.F.plainAttrs_list PySem.F.slot_list_append PySem.F.type_list_append mt_append (pe_def Cs.GO hr pass0 (pa_cons (pv 5) pa_nil)) (pa_cons pe_non pa_nil))))
    fun D σ H h => ?_
  obtain ⟨a0, l, a, pd, DS, DD, DR, T2, ns, fr, z1, z2, z4, z9, z10, z13, z14, z15, z16, rfl, T, q⟩ := h
  have hw := T.net.wired
  have n30 := T.net.few
  refine ⟨_, rfl, a, ns, rfl, T.net.net, fun l1 H1 s1 n1 e1 => ?_⟩
  refine ⟨.inl ⟨rfl, _, SqL.of e1⟩, ?_⟩
  refine ⟨l1, _, .non, rfl, rfl, e1, ?_, q _ ?_⟩
  · rw [List.length_map]
    have := outs_len ns
    exact Nat.lt_of_le_of_lt (by omega : (outs ns).length ≤ 30) (by decide)
  · intro b o e
    rw [upd_ne (ne_of_none e n1)]
    exact s1 _ _ e
end
end Pw
set_option maxHeartbeats 4000000
namespace Pw
open PySem PySem.Spec PyProof.Rows L2 Dc Own
section
variable {P : Program} {w : World} {K : PySem.W.Frag} {mg : Str → Option Value} {base : Heap} {C CI CN CL fI fi fe : Addr} {fdi fde : FuncData} {g : List Value → List Value → List Value} {gV : List V → List V → List V}
theorem lt_F (Cs : LawPs P w K mg base C CI CN CL fI fi fe fdi fde g gV) {f : Addr} {cdv : Value} {A : Around} {outer : List Env} {s : Shared} {H : Hp} {E : XK} (hgd : (A.deeper (envOfC "law" (defScope sLaw) s.heap.objs.size f cdv)).guards = some []) (hr : Room 22 (A.deeper (envOfC "law" (defScope sLaw) s.heap.objs.size f cdv))) (hr70 : (A.deeper (envOfC "law" (defScope sLaw) s.heap.objs.size f cdv)).units + 70 < cLine) :
    PS (cxOf CX0 P w K mg base lawN "law" (defScope sLaw) f cdv A outer s H E).nox (lawSt 18) (tLaw K C) := by
  have nd := scLaw.nd
  have hu := Nat.lt_of_le_of_lt (Nat.add_le_add_left (by decide : 1 ≤ 64) _) hr.units
  have hxP : Passes (L2.CX P w) (cxOf CX0 P w K mg base lawN "law" (defScope sLaw) f cdv A outer s H E).nox E0 := passes_call L2.takes0 fun _ _ _ _ h => h
  obtain ⟨fLn, fdLn, mLn, FLn, bLn⟩ := Cs.len
  refine ps_weak
    ((ps_if (PW.pt (pw_or (pt_cmpR (op_neD hr.units) (pe_nodes Cs.N (hr.mono (by decide)) (pv 5)) (pv 3) (nomark _)) (pw_or (pt_cmpR (op_neOwn Cs.T.mE Cs.T.T.ne Cs.T.T.hm Cs.T.FE (hr.mono (by decide)) Cs.T.bE pass0) (pe_makeK0 Cs.T.M Cs.T.FI (hr.mono (by decide)) (by rfl) Cs.T.gC Cs.kb hxP (pk_cons (pv 3) pk_nil)) (pv 5) (nomark _)) (pw_or1 (pt_cmpR op_ne (pe_kw Cs.KC hr pass0 (pk_cons (pv 5) pk_nil)) (pe_def Cs.GCe hr pass0 (pa_cons (pv 5) pa_nil)) (nomark _)))))) (pss_one (ps_ret pe_bl)) pss_nil))
    fun D σ H h => ?_
  obtain ⟨a0, l, a, pd, DS, DD, DR, T2, ns, fr, z1, z2, z4, z9, z10, z13, z14, z15, z16, rfl, T, q⟩ := h
  have hw := T.net.wired
  have n30 := T.net.few
  have okn : okD 10 (.list (ns.map Nd.dat)) = true := okD_nodes hw
  obtain ⟨dx, v, hat, hv⟩ := T.net.at_
  refine ⟨_, rfl, a, dx, _, rfl, hat, rfl, a, dx, _, v, _, rfl, hat, rfl, hv, dp_nodes hw, fun y H1 s1 dy => ?_⟩
  refine ⟨_, rfl, _, _, (dy.same newOf_same).dp (okD_noDict 10 _ okn), (T.dv.same s1).dp (okD_noDict 10 _ okn), okD_shaped okn (by decide), okD_shaped okn (by decide), _, rfl, no_if (eqvT okn) ?_⟩
  refine ⟨_, rfl, rfl, rfl, ?_⟩
  have T1 := T.same s1
  refine makeK_ok Cs.gv T1.dv ⟨T.sm, T.ck, T.lim⟩ fun x px H2 s2 nx npx N2 => ?_
  have Nx := N2.same newOf_same
  have Na := T1.net.same s2
  obtain ⟨dx2, v2, hx2, _⟩ := Nx.at_
  obtain ⟨da2, w2, ha2, _⟩ := Na.at_
  refine ⟨_, rfl, x, a, dx2, da2, _, _, rfl, rfl, hx2, ha2, x, a, px, pd, ns, ns, rfl, Nx, Na, okD_shaped okn (by decide), okD_shaped okn (by decide), okD_noDict 10 _ okn, okD_noDict 10 _ okn, _, rfl, _, rfl, no_if (eqvT okn) ?_⟩
  have s12 := s1.trans s2
  refine ⟨_, rfl, rfl, a, ns, rfl, Na.net, fun H3 s3 => ?_⟩
  refine ⟨_, rfl, a, ns, rfl, Na.net.same s3, fun H4 s4 => ?_⟩
  exact ⟨rfl, _, rfl, no_if (int_same _) (q _ ((s12.trans s3).trans s4))⟩
end
end Pw
set_option maxHeartbeats 4000000
namespace Pw
open PySem PySem.Spec PyProof.Rows L2 Dc Own
section
variable {P : Program} {w : World} {K : PySem.W.Frag} {mg : Str → Option Value} {base : Heap} {C CI CN CL fI fi fe : Addr} {fdi fde : FuncData} {g : List Value → List Value → List Value} {gV : List V → List V → List V}
theorem lt_G (Cs : LawPs P w K mg base C CI CN CL fI fi fe fdi fde g gV) {f : Addr} {cdv : Value} {A : Around} {outer : List Env} {s : Shared} {H : Hp} {E : XK} (hgd : (A.deeper (envOfC "law" (defScope sLaw) s.heap.objs.size f cdv)).guards = some []) (hr : Room 22 (A.deeper (envOfC "law" (defScope sLaw) s.heap.objs.size f cdv))) (hr70 : (A.deeper (envOfC "law" (defScope sLaw) s.heap.objs.size f cdv)).units + 70 < cLine) :
    PS (cxOf CX0 P w K mg base lawN "law" (defScope sLaw) f cdv A outer s H E).nox (lawSt 19) (tLaw K C) := by
  have nd := scLaw.nd
  have hu := Nat.lt_of_le_of_lt (Nat.add_le_add_left (by decide : 1 ≤ 64) _) hr.units
  have hxP : Passes (L2.CX P w) (cxOf CX0 P w K mg base lawN "law" (defScope sLaw) f cdv A outer s H E).nox E0 := passes_call L2.takes0 fun _ _ _ _ h => h
  obtain ⟨fLn, fdLn, mLn, FLn, bLn⟩ := Cs.len
  refine ps_weak
    ((ps_if (pt_not (pt_val (pe_names hgd hr70 Cs.B Cs.S Cs.HM Cs.W2 Cs.DN (hr.mono (by decide)) (pa_cons (pv 5) pa_nil)))) (pss_one (ps_ret pe_bl)) pss_nil))
    fun D σ H h => ?_
  obtain ⟨a0, l, a, pd, DS, DD, DR, T2, ns, fr, z1, z2, z4, z9, z10, z13, z14, z15, z16, rfl, T, q⟩ := h
  have hw := T.net.wired
  have n30 := T.net.few
  refine ⟨_, rfl, a, pd, ns, rfl, T.net, T.up, fun H1 s1 => ?_⟩
  exact ⟨_, rfl, no_if rfl (q _ s1)⟩
end
end Pw
set_option maxHeartbeats 4000000
namespace Pw
open PySem PySem.Spec PyProof.Rows L2 Dc Own
section
variable {P : Program} {w : World} {K : PySem.W.Frag} {mg : Str → Option Value} {base : Heap} {C CI CN CL fI fi fe : Addr} {fdi fde : FuncData} {g : List Value → List Value → List Value} {gV : List V → List V → List V}
theorem lt_H (Cs : LawPs P w K mg base C CI CN CL fI fi fe fdi fde g gV) {f : Addr} {cdv : Value} {A : Around} {outer : List Env} {s : Shared} {H : Hp} {E : XK} (hgd : (A.deeper (envOfC "law" (defScope sLaw) s.heap.objs.size f cdv)).guards = some []) (hr : Room 22 (A.deeper (envOfC "law" (defScope sLaw) s.heap.objs.size f cdv))) (hr70 : (A.deeper (envOfC "law" (defScope sLaw) s.heap.objs.size f cdv)).units + 70 < cLine) :
    PS (cxOf CX0 P w K mg base lawN "law" (defScope sLaw) f cdv A outer s H E).nox (lawSt 20) (tLaw K C) := by
  have nd := scLaw.nd
  have hu := Nat.lt_of_le_of_lt (Nat.add_le_add_left (by decide : 1 ≤ 64) _) hr.units
  have hxP : Passes (L2.CX P w) (cxOf CX0 P w K mg base lawN "law" (defScope sLaw) f cdv A outer s H E).nox E0 := passes_call L2.takes0 fun _ _ _ _ h => h
  obtain ⟨fLn, fdLn, mLn, FLn, bLn⟩ := Cs.len
  refine ps_weak
    ((ps_if (pt_cmpR (op_neD hr.units) (pe_lc (own := [("_law_other", 16)]) (g := gName 16) rfl nd (pi_list (pe_lst (pa_cons (pv 3) (pa_cons pe_non (pa_cons pe_str (pa_cons (pe_callB call_len_seq (by rfl) Cs.B.len PySem.boot_len (pa_cons (pv 3) pa_nil)) pa_nil)))))) (blkOk_by (N := lawN) (sc := defScope sLaw) (by decide +kernel)) (fun _ _ _ _ _ => (pg_name (i := 16) nd rfl (Or.inl rfl))) (fun _ _ _ _ _ => (pts_one (PW.pt (pw_or (pt_cmpR (op_eqPln (C := C) Cs.T.mE Cs.T.nf Cs.T.FP (hr.mono (by decide)) Cs.T.bE pass0) (pv 5) (pv 16) (nomark _)) (pw_or1 (pt_not (pt_cmpR (op_nePln (C := C) Cs.T.mE Cs.T.nf Cs.T.T.ne Cs.T.T.hm Cs.T.FP (hr.mono (by decide)) Cs.T.bE pass0) (pv 5) (pv 16) (nomark _)))))))) (fun _ _ _ _ _ => pe_int)) (pe_lst pa_nil) (nomark _)) (pss_one (ps_ret pe_bl)) pss_nil))
    fun D σ H h => ?_
  obtain ⟨a0, l, a, pd, DS, DD, DR, T2, ns, fr, z1, z2, z4, z9, z10, z13, z14, z15, z16, rfl, T, q⟩ := h
  have hw := T.net.wired
  have n30 := T.net.few
  have dl := T.dv
  cases dl with
  | @lst l xs _ hl hlz hds =>
  obtain ⟨dx, v, hat, _⟩ := T.net.at_
  refine ⟨_, rfl, _, rfl, l, xs, rfl, .inl (SqL.of hl), by show 4 ≤ sizeLine; decide, fun p np => ?_⟩
  have sp := same_upd (o := HO.lst [V.ref l, .non, .str "a", .int xs.length]) np
  refine ⟨p, rfl, ⟨_, SqL.of upd_same⟩, fun D1 nD1 => ?_⟩
  refine lc_filtW (walk_list (xs := [V.ref l, .non, .str "a", .int xs.length])) (fun _ => none) nD1 (by show 4 < sizeLine; decide) (fun H3 s3 => SqL.of (s3 _ _ upd_same)) (fun j x H3 H4 Q2 N2 hj s3 y k1 k2 => ?_) (fun H4 s4 e4 => ?_)
  · obtain ⟨rfl, hv⟩ := y
    have s0 := sp.trans s3
    have N := T.net.same s0
    have hat3 := s0 _ _ hat
    have pl : ∃ Ty, Pln H4 x Ty ∧ Ty ∈ ["NoneType", "int", "str", "list"] := by
      match j, hj, hv with
      | 0, _, hv => cases hv; exact ⟨_, .lst (s0 _ _ hl), by decide⟩
      | 1, _, hv => cases hv; exact ⟨_, .non, by decide⟩
      | 2, _, hv => cases hv; exact ⟨_, .str _, by decide⟩
      | 3, _, hv => cases hv; exact ⟨_, .int _, by decide⟩
    obtain ⟨Ty, py, mT⟩ := pl
    refine ⟨rfl, ?_⟩
    refine ⟨_, rfl, _, rfl, a, dx, _, Ty, rfl, hat3, py, mT, a, pd, ns, x, Ty, rfl, N, py, mT, false, rfl, _, rfl, no_if rfl ?_⟩
    exact ⟨_, rfl, _, rfl, a, dx, _, Ty, rfl, hat3, py, mT, a, pd, ns, x, Ty, rfl, N, py, mT, false, rfl, _, rfl, no_if rfl (k2 _ rfl (Same.refl _))⟩
  · have s0 := sp.trans s4
    have e5 : H4 D1 = some (.lst []) := by
      rw [e4]
      exact congrArg (fun z => some (HO.lst z)) (List.filterMap_eq_nil_iff.mpr fun _ _ => rfl)
    refine ⟨by show 0 ≤ sizeLine; exact Nat.zero_le _, fun p2 np2 => ?_⟩
    have s2 := same_upd (o := HO.lst []) np2
    exact ⟨.list [], .list [], (Dv.lst (s2 _ _ e5) (Nat.zero_le _) .nil).dp rfl, (Dv.lst upd_same (Nat.zero_le _) .nil).dp rfl, rfl, rfl, _, rfl, no_if rfl (q _ (s0.trans s2))⟩
end
end Pw
set_option maxHeartbeats 4000000
/-! the rest of the law's turn -/
namespace Pw
open PySem PySem.Spec PyProof.Rows L2 Dc Own
section
variable {P : Program} {w : World} {K : PySem.W.Frag} {mg : Str → Option Value} {base : Heap} {C CI CN CL fI fi fe : Addr} {fdi fde : FuncData} {g : List Value → List Value → List Value} {gV : List V → List V → List V}
theorem law_tail (Cs : LawPs P w K mg base C CI CN CL fI fi fe fdi fde g gV) {f : Addr} {cdv : Value} {A : Around} {outer : List Env} {s : Shared} {H : Hp} {E : XK} (hgd : (A.deeper (envOfC "law" (defScope sLaw) s.heap.objs.size f cdv)).guards = some []) (hr : Room 22 (A.deeper (envOfC "law" (defScope sLaw) s.heap.objs.size f cdv))) (hr70 : (A.deeper (envOfC "law" (defScope sLaw) s.heap.objs.size f cdv)).units + 70 < cLine) :
    PSs (cxOf CX0 P w K mg base lawN "law" (defScope sLaw) f cdv A outer s H E).nox [lawSt 13, lawSt 14, lawSt 15, lawSt 16, lawSt 17, lawSt 18, lawSt 19, lawSt 20] (tLaw K C) :=
  pss_weak (pss_cons (lt_A Cs hgd hr hr70) (pss_cons (lt_B Cs hgd hr hr70) (pss_cons (lt_C Cs hgd hr hr70) (pss_cons (lt_D Cs hgd hr hr70) (pss_cons (lt_E Cs hgd hr hr70) (pss_cons (lt_F Cs hgd hr hr70) (pss_cons (lt_G Cs hgd hr hr70) (pss_one (lt_H Cs hgd hr hr70)))))))))
    (tlaw_seq (tlaw_seq (tlaw_seq (tlaw_seq (tlaw_seq (tlaw_seq (tlaw_seq fun _ _ _ h => h)))))))
end
end Pw
set_option maxHeartbeats 8000000
/-! law: its body -/
namespace Pw
open PySem PySem.Spec PyProof.Rows L2 Dc Own
open Ev (vis vis_at vis_of vis_same vis_mono vis_grow)
section
variable {P : Program} {w : World} {K : PySem.W.Frag} {mg : Str → Option Value} {base : Heap} {C CI CN CL fI fi fe : Addr} {fdi fde : FuncData} {g : List Value → List Value → List Value} {gV : List V → List V → List V}
def spLaw (K : PySem.W.Frag) : Sp := fun vs H Q _ => ∃ (a0 : Addr) (ns : List Int), vs = [.ref a0] ∧ SqL K H a0 (ns.map V.int) ∧ ns.length ≤ 63 ∧ ∀ H', Q (.bl true) H'
theorem cells_are2 (c : Int) (ns : List Int) : ∃ ms : List Int, [V.int c] ++ cutV (ns.map V.int) (some 1) (some 5) = ms.map V.int ∧ ms.length ≤ ns.length + 1 := by
  refine ⟨c :: ((ns.drop (HT.sIx (ns.map V.int).length 0 (some 1))).take (HT.sIx (ns.map V.int).length (ns.map V.int).length (some 5) - HT.sIx (ns.map V.int).length 0 (some 1))), ?_, ?_⟩
  · unfold cutV
    rw [List.map_cons, List.map_take, List.map_drop]
    rfl
  · rw [List.length_cons, List.length_take, List.length_drop]
    omega
theorem slots16 {tl : L2.St} (h : tl.length = 16) : ∃ s1 s2 s3 s4 s5 s6 s7 s8 s9 s10 s11 s12 s13 s14 s15 s16, tl = [s1, s2, s3, s4, s5, s6, s7, s8, s9, s10, s11, s12, s13, s14, s15, s16] := by
  match tl, h with
  | [s1, s2, s3, s4, s5, s6, s7, s8, s9, s10, s11, s12, s13, s14, s15, s16], _ => exact ⟨s1, s2, s3, s4, s5, s6, s7, s8, s9, s10, s11, s12, s13, s14, s15, s16, rfl⟩
theorem NewNet.newF {K : PySem.W.Frag} {H H' : Hp} {C x pd : Addr} {ns : List Nd} (h : NewNet K H H' C x pd ns) : NetF K (newOf H H') C x pd ns := by
  obtain ⟨dx, v, h1, h4⟩ := h.at_
  refine ⟨⟨dx, v, ?_, h4⟩, ?_, h.wired, h.some_, h.few⟩
  · unfold newOf
    rw [h.nx]
    exact h1
  · unfold newOf
    rw [h.npd]
    exact h.pl
theorem law_body (Cs : LawPs P w K mg base C CI CN CL fI fi fe fdi fde g gV) {f : Addr} {cdv : Value} {A : Around} {outer : List Env} {s : Shared} {H : Hp} {vs : List V} {Q : VK} {E : XK} (hgd : (A.deeper (envOfC "law" (defScope sLaw) s.heap.objs.size f cdv)).guards = some []) (hr : Room 22 (A.deeper (envOfC "law" (defScope sLaw) s.heap.objs.size f cdv))) (hr70 : (A.deeper (envOfC "law" (defScope sLaw) s.heap.objs.size f cdv)).units + 70 < cLine) (h : spLaw K vs H Q E) :
    ∃ t, PSs (cxOf CX0 P w K mg base lawN "law" (defScope sLaw) f cdv A outer s H E).nox (defBody sLaw) t ∧ t { nx := fun _ H' => Q .non H', rt := Q } (L2.start lawN vs) H := by
  obtain ⟨a0, is, rfl, hS, hlen, q⟩ := h
  have nd := scLaw.nd
  have hu := Nat.lt_of_le_of_lt (Nat.add_le_add_left (by decide : 1 ≤ 64) _) hr.units
  have hxP : Passes (L2.CX P w) (cxOf CX0 P w K mg base lawN "law" (defScope sLaw) f cdv A outer s H E).nox E0 := passes_call L2.takes0 fun _ _ _ _ h => h
  obtain ⟨fLn, fdLn, mLn, FLn, bLn⟩ := Cs.len
  refine ⟨_, 
(pss_cons (ps_for PassesOwn.never rfl (pi_list (pe_op op_cat (pe_lst (pa_cons (pe_def Cs.GC hr pass0 (pa_cons (pv 0) (pa_cons pe_int pa_nil))) pa_nil)) (pe_slice sl_list (pv 0) (po_some pe_int) (po_some pe_int)))) (pg_name (i := 1) nd rfl (Or.inl rfl))
        (pss_cons (ps_set (i := 2) nd rfl (.inl rfl) (pe_def Cs.GS hr pass0 (pa_cons (pv 1) pa_nil)))
          (pss_cons (ps_set (i := 3) nd rfl (.inl rfl) (pe_def Cs.GN hr pass0 (pa_cons (pv 2) (pa_cons pe_int (pa_cons pe_int pa_nil)))))
          (pss_cons (ps_set (i := 4) nd rfl (.inl rfl) (pe_def Cs.GCo hr pass0 (pa_cons (pv 3) pa_nil)))
          (pss_cons (ps_set (i := 5) nd rfl (.inr rfl) (pe_def Cs.GM hr pass0 (pa_cons (pv 4) pa_nil)))
          (pss_cons (ps_if (pt_cmp (pc_isN (pv 5)) (by rfl)) (pss_one ps_continue) pss_nil)
          (pss_cons (ps_expr (pe_def Cs.GSp hr pass0 (pa_cons (pv 4) pa_nil)))
          (pss_cons (ps_expr (pe_def Cs.GSp hr pass0 (pa_cons (pe_nodes Cs.N (hr.mono (by decide)) (pv 5)) pa_nil)))
          (pss_cons (ps_asg (pe_def Cs.GNu hr pass0 (pa_cons (pv 3) pa_nil)) (pg_tup rfl (pgs_cons (pg_name (i := 6) nd rfl (Or.inr rfl)) (pgs_cons (pg_name (i := 7) nd rfl (Or.inl rfl)) (pgs_cons (pg_name (i := 8) nd rfl (Or.inl rfl)) pgs_nil)))))
          (pss_cons (ps_set (i := 10) nd rfl (.inr rfl) (pe_callB (cr_sumL rfl) (by rfl) Cs.bS (by decide +kernel) (pa_cons (pe_lc (own := [("_law_node", 9)]) (g := gName 9) (tt := tYes) rfl nd (pi_list (pv 3)) (blkOk_by (N := lawN) (sc := defScope sLaw) (by decide +kernel)) (fun _ _ _ _ _ => (pg_name (i := 9) nd rfl (Or.inl rfl))) (fun _ _ _ _ _ => pts_nil) (fun _ _ _ _ _ => (pe_ix (ixT (K := K) rfl) (pv 9) pe_int (fun _ _ => rfl)))) (pa_cons (pe_lst pa_nil) pa_nil))))
          (pss_cons (ps_setLc (i := 11) (own := [("_law_node", 9)]) (g := gName 9) (by rfl) nd rfl rfl (sw_true rfl rfl rfl (by decide +kernel)) (pi_list (pv 3)) (blkOk_by (N := lawN) (sc := defScope sLaw) (by decide +kernel)) (fun _ _ _ _ _ => (pg_name (i := 9) nd rfl (Or.inl rfl))) (fun _ _ _ _ _ => (pts_one (pt_cmpR (op_notin_seqK (K := K) rfl) (pe_ix (ixT (K := K) rfl) (pv 9) pe_int (fun _ _ => rfl)) (pv 10) (by rfl)))) (fun _ _ _ _ _ => (pe_ix (ixT (K := K) rfl) (pv 9) pe_int (fun _ _ => rfl))))
          (pss_cons (ps_par (i := 12) (j := 13) rfl nd rfl rfl (by decide) rfl rfl (pa_cons pe_int (pa_cons pe_dnewK pa_nil)) (by rfl))
          (pss_cons (ps_for PassesOwn.never rfl (pi_list (pv 3)) (pg_name (i := 9) nd rfl (Or.inl rfl))
            (pss_cons (ps_dput hu (pv 13) (pe_ix ix_tup (pv 9) pe_int (fun _ _ => rfl)) (pe_def Cs.GF hr pass0 (pa_cons (pv 9) pa_nil)) (by rfl))
              (pss_one (ps_for PassesOwn.never rfl (pi_list (pe_ix ix_tup (pv 9) pe_int (fun _ _ => rfl))) (pg_name (i := 14) nd rfl (Or.inl rfl))
                (pss_one (ps_dput hu (pv 13) (pe_ix ix_tup (pv 9) pe_int (fun _ _ => rfl)) (pe_op op_mulW (pe_dget (by exact hu) (pv 13) (pe_ix ix_tup (pv 9) pe_int (fun _ _ => rfl)) (fun _ _ => rfl)) (pe_dget (by exact hu) (pv 13) (pv 14) (fun _ _ => rfl))) (by rfl)))))))
          (pss_cons (ps_for PassesOwn.never rfl (pi_list (pv 11)) (pg_name (i := 15) nd rfl (Or.inl rfl))
            (pss_one (ps_set (i := 12) nd rfl (.inl rfl) (pe_op op_mulW (pv 12) (pe_dget (by exact hu) (pv 13) (pv 15) (fun _ _ => rfl))))))
          (law_tail Cs hgd hr hr70)))))))))))))))
      (pss_one (ps_ret (pe_def0 Cs.GU hr pass0))))
, ?_⟩
  refine ⟨_, rfl, a0, is, 0, rfl, hS, fun c => ?_⟩
  refine ⟨by show 1 ≤ sizeLine; decide, fun l1 nl1 => ?_⟩
  have sl1 := same_upd (o := HO.lst [V.int c]) nl1
  refine ⟨_, rfl, _, rfl, _, rfl, a0, _, rfl, Same.seq sl1 hS, fun l2 nl2 => ?_⟩
  have sl2 := same_upd (o := HO.lst (cutV (is.map V.int) (some 1) (some 5))) nl2
  obtain ⟨ms, ems, lms⟩ := cells_are2 c is
  refine ⟨l1, l2, [.int c], _, rfl, rfl, sl2 _ _ upd_same, upd_same, ?_, fun L nL => ?_⟩
  · have h1 : ([V.int c] ++ cutV (is.map V.int) (some 1) (some 5)).length = ms.length := by rw [ems, List.length_map]
    rw [List.length_append] at h1
    rw [h1]
    exact Nat.le_trans (by omega : ms.length ≤ 1000) (by decide)
  rw [ems]
  refine ⟨L, rfl, ⟨_, SqL.of upd_same⟩, for_list (K := K) (a := L) (xs := ms.map V.int) (fun i σ H' => (∃ tl, σ = some (.ref a0) :: tl ∧ tl.length = 16) ∧ H' L = some (.lst (ms.map V.int))) ⟨⟨_, rfl, rfl⟩, upd_same⟩ (fun i σ H' _ p => SqL.of p.2) ?_ ?_⟩
  · rintro i x σ H' hx ⟨⟨tl, rfl, len⟩, hL⟩
    obtain ⟨s1, s2, s3, s4, s5, s6, s7, s8, s9, s10, s11, s12, s13, s14, s15, s16, rfl⟩ := slots16 len
    rw [List.getElem?_map] at hx
    obtain ⟨z, _, rfl⟩ := Option.map_eq_some_iff.mp hx
    clear hx
    refine ⟨_, rfl, z, rfl, fun p A0 np => ?_⟩
    have f0 := fmod_in (i := z) (m := 2147483647) (by decide)
    have src1 : Src (upd H' p (.lst [.int A0, .int (z.fmod 2147483647), .int 0])) p 0 := ⟨A0, _, 0, upd_same, f0.1, f0.2, Int.le_refl _, Int.le_refl _⟩
    have Lp : L ≠ p := ne_of_none hL np
    have sp := same_upd (o := HO.lst [V.int A0, V.int (z.fmod 2147483647), V.int 0]) np
    have hL1 := sp _ _ hL
    generalize upd H' p (.lst [.int A0, .int (z.fmod 2147483647), .int 0]) = H1 at src1 hL1 ⊢
    refine Dr.name_of ?_
    dsimp only
    refine Dr.seqasg_of ?_
    refine ⟨_, rfl, p, 0, rfl, src1, by decide, fun v H2 ns ck sm up s2 dv => ?_⟩
    have hL2 := s2 _ _ (by rw [hid_ne Lp]; exact hL1)
    have dv2 := dv.same newOf_same
    refine Dr.name_of ?_
    refine Dr.seqasg_of ?_
    obtain ⟨ns', en', n1, n30, hw⟩ := nodes_of ck
    obtain rfl := nds_inj (PyData.list.inj en')
    refine ⟨_, rfl, v, _, rfl, dv2, dp_nodes hw, fun y H3 s3 dy => ?_⟩
    refine Dr.name_of ?_
    refine Dr.seqasg_of ?_
    refine ⟨_, rfl, y, ns, rfl, dy.same newOf_same, sm, ck, fun H4 _ s4 => ?_, fun a pd H4 lim s4 net => ?_⟩
    · -- not made: the next turn
      refine Dr.name_of ?_
      refine ⟨_, rfl, ?_⟩
      refine ⟨_, rfl, ?_⟩
      refine iteE (b := true) rfl ?_
      exact ⟨⟨_, rfl, rfl⟩, s4 _ _ (s3 _ _ hL2)⟩
    · refine Dr.name_of ?_
      refine skip_if ?_
      refine ⟨_, rfl, _, rfl, iteE (b := false) rfl ?_⟩
      have lz := lists_nodes hw n30
      refine (drop_of ⟨_, rfl, y, fresh2 H2 H3, 1000, _, rfl, ld_of (fun b o e => ⟨(fresh2_sub b o e).1, s4 _ _ (fresh2_sub b o e).2⟩) dy (dp_nodes hw), fun b e => fresh2_old b ?_, by omega, fun H5 g5 => ?_⟩)
      · cases z : H3 b with
        | none => rfl
        | some o =>
          rw [s4 _ _ z] at e
          cases e
      have s25 : Same H2 H5 := Gr.keep s4 g5 (s3.trans s4)
      have net5 : NetF K H5 C a pd ns := (net.newF).same (Gr.after g5)
      obtain ⟨dx, vn, hat5, dvn⟩ := net5.at_
      refine (drop_of ⟨_, rfl, a, dx, _, rfl, hat5, rfl, a, dx, _, vn, _, rfl, hat5, rfl, dvn, dp_nodes hw, fun y6 H6 s6 dy6 => ?_⟩)
      refine ⟨y6, fresh2 H5 H6, 1000, _, rfl, ld_of fresh2_sub dy6 (dp_nodes hw), fresh2_old, by omega, fun H7 g7 => ?_⟩
      have s57 : Same H5 H7 := Gr.keep (Same.refl _) g7 s6
      have s27 := s25.trans s57
      have net7 := net5.same s57
      have dv7 := dv2.same s27
      have hL7 := s27 _ _ hL2
      clear g5 g7 hat5 dvn dy6 s6 net5 s57 s25 dy net s4 s3
      have hc : cellsN ns ≤ 100 := by
        unfold limitN at lim
        split at lim
        · cases lim
        · omega
      have dv7k := dv7
      cases dv7 with
      | @lst l xs _ hl hlz hds =>
      refine ⟨_, rfl, .ref l, ns, rfl, dv7k, hw, n30, hc, fun T DS DD DR fr H8 s8 hT hS8 hD8 hR8 hfr => ⟨T, _, rfl, SqT.of hT, rfl, _, _, rfl, _, _, rfl, _, _, rfl, rfl, ?_⟩⟩
      dsimp only
      refine Dr.seqasg_of ?_
      refine used_sum (K := K) (iL := 3) (iN := 9) rfl (fun _ => rfl) (fun _ => rfl) (s8 _ _ hl) (hds.same s8) hw n1 n30 fun U H9 s9 hU => ?_
      refine Dr.name_of ?_
      refine Dr.seqasg_of ?_
      have s89 := s8.trans s9
      refine tops_comp (K := K) (iL := 3) (iN := 9) (iU := 10) rfl (fun _ => rfl) (fun _ => rfl) (fun _ => rfl) (s89 _ _ hl) (hds.same s89) n30 hU fun T2 H10 s10 _ hT2 => ?_
      refine Dr.name_of ?_
      refine Dr.par_of ?_
      refine fun DP nDP => ⟨_, _, rfl, ?_⟩
      have s810 := s89.trans s10
      have sP := same_upd (o := HO.dK []) nDP
      refine prd_outer (K := K) (iL := 3) (iN := 9) (iP := 13) (iB := 14) (by decide) (by decide) (by decide) (by decide) (by decide) (by show 9 < 17; decide) (by show 14 < 17; decide) rfl rfl sP nDP (s810 _ _ hl) (hds.same s810) hw n30 hc upd_same (fun σ' H' t n Q e dn nn k => ⟨.ref t, e, .ref t, n.dat, rfl, dn, nn, k⟩) ?_
      rintro σ' H11 ⟨zn, zb, rfl⟩ sm11 hP11
      have s11 : Same H10 H11 := fun b o e => sm11 _ _ (by rw [hid_ne (ne_of_none e nDP)]; exact sP _ _ e)
      have s811 := s810.trans s11
      refine load_loop (K := K) (iT := 11) (iC := 15) (iP := 13) (iW := 12) (by decide) (by decide) (by decide) (by decide) (by decide) (by show 15 < 17; decide) (by show 12 < 17; decide) rfl rfl rfl (s11 _ _ hT2) hw hc hP11 ?_
      rintro σ' ⟨zc, rfl⟩
      have hT11 := s11 _ _ hT2
      have hS11 := (s9.trans (s10.trans s11)) _ _ hS8
      have hD11 := (s9.trans (s10.trans s11)) _ _ hD8
      have hR11 := hR8.same (s9.trans (s10.trans s11))
      have net11 := net7.same s811
      have dv11 := dv7k.same s811
      have hl11 := s811 _ _ hl
      have hds11 := hds.same s811
      have hL11 := s811 _ _ hL7
      have lim' : limitN ns = none := by
        cases e : limitN ns with
        | none => rfl
        | some m => rw [e] at lim; cases lim
      exact ⟨a0, l, a, pd, DS, DD, DR, T2, ns, fr, _, _, _, _, _, _, _, _, _, rfl, ⟨net11, dv11, hT11, hS11, hD11, hR11, hfr, sm, ck, lim', up, hc⟩, fun H' s' => ⟨⟨_, rfl, rfl⟩, s' _ _ hL11⟩⟩
  · rintro σ H' ⟨⟨tl, rfl, len⟩, hL⟩
    exact ⟨rfl, fun H5 _ => q H5⟩
end
end Pw
set_option maxHeartbeats 2000000
/-! the module's tables, read off the written part -/
namespace Pw
open PySem PySem.Spec PyProof.Rows L2
def strOf : Value → Option Str
  | .str x _ => some x
  | _ => none
def intOf : Value → Option Int
  | .int i _ => some i
  | _ => none
/-- the items of a written tuple -/
def tupOf (K : PySem.W.Frag) (p : Addr) : Option (List Value) := match K.lookup p with
  | some ⟨.type c, _, .seq its _, _⟩ => if decide (c = "tuple") && decide (its.size ≤ 1000) then some its.toList else none
  | _ => none
theorem tupOf_is {K : PySem.W.Frag} {p : Addr} {us : List Value} (h : tupOf K p = some us) {xs : List V} (v : Vals xs us) : TupK K p xs := by
  unfold tupOf at h
  cases q : K.lookup p with
  | none =>
    rw [q] at h
    cases h
  | some o =>
    obtain ⟨oc, od, dt, osl⟩ := o
    rw [q] at h
    cases oc with
    | type c =>
      cases dt with
      | seq its n =>
        have h1 : (if (decide (c = "tuple") && decide (its.size ≤ 1000)) = true then some its.toList else none) = some us := h
        by_cases z : (decide (c = "tuple") && decide (its.size ≤ 1000)) = true
        · rw [if_pos z] at h1
          rw [Bool.and_eq_true] at z
          cases h1
          exact ⟨_, its, n, q, by rw [of_decide_eq_true z.1], rfl, Nat.le_trans (of_decide_eq_true z.2) (by decide), v⟩
        · rw [if_neg z] at h1
          cases h1
      | _ => cases h
    | _ => cases dt <;> cases h
theorem vals_strs : ∀ {us : List Value} {ws : List Str}, us.map strOf = ws.map some → Vals (ws.map V.str) us
  | [], [], _ => .nil
  | u :: us, w :: ws, h => by
    have h1 : strOf u :: us.map strOf = some w :: ws.map some := h
    injection h1 with h2 h3
    refine .cons ?_ (vals_strs h3)
    cases u with
    | str x t =>
      cases h2
      exact ⟨t, rfl⟩
    | _ => cases h2
theorem vals_ints2 : ∀ {us : List Value} {ns : List Int}, us.map intOf = ns.map some → Vals (ns.map V.int) us
  | [], [], _ => .nil
  | u :: us, n :: ns, h => by
    have h1 : intOf u :: us.map intOf = some n :: ns.map some := h
    injection h1 with h2 h3
    refine .cons ?_ (vals_ints2 h3)
    cases u with
    | int x t =>
      cases h2
      exact ⟨t, rfl⟩
    | _ => cases h2
def strsAt (K : PySem.W.Frag) (p : Addr) (ws : List Str) : Bool := match tupOf K p with
  | some us => decide (us.map strOf = ws.map some)
  | none => false
def intsAt (K : PySem.W.Frag) (p : Addr) (ns : List Int) : Bool := match tupOf K p with
  | some us => decide (us.map intOf = ns.map some)
  | none => false
theorem strsAt_is {K : PySem.W.Frag} {p : Addr} {ws : List Str} (h : strsAt K p ws = true) : TupK K p (ws.map V.str) := by
  unfold strsAt at h
  cases q : tupOf K p with
  | none =>
    rw [q] at h
    cases h
  | some us =>
    rw [q] at h
    exact tupOf_is q (vals_strs (of_decide_eq_true h))
theorem intsAt_is {K : PySem.W.Frag} {p : Addr} {ns : List Int} (h : intsAt K p ns = true) : TupK K p (ns.map V.int) := by
  unfold intsAt at h
  cases q : tupOf K p with
  | none =>
    rw [q] at h
    cases h
  | some us =>
    rw [q] at h
    exact tupOf_is q (vals_ints2 (of_decide_eq_true h))
/-- all entries of a table -/
def tabAll {α : Type} (K : PySem.W.Frag) (d : Addr) (one : Addr → α → Bool) (l : List (Str × α)) : Bool := l.all fun q => match PySem.W.nsIn K d q.1 with
  | some (some (.ref p)) => one p q.2
  | _ => false
theorem tabAll_at {α : Type} {K : PySem.W.Frag} {d : Addr} {one : Addr → α → Bool} {l : List (Str × α)} (h : tabAll K d one l = true) {q : Str × α} (hq : q ∈ l) : ∃ p, PySem.W.nsIn K d q.1 = some (some (.ref p)) ∧ one p q.2 = true := by
  have h2 := List.all_eq_true.mp h q hq
  cases e : PySem.W.nsIn K d q.1 with
  | none =>
    rw [e] at h2
    cases h2
  | some r =>
    rw [e] at h2
    cases r with
    | none => cases h2
    | some u =>
      cases u with
      | ref p => exact ⟨p, rfl, h2⟩
      | _ => cases h2
theorem keys_no {P : Params} : ∀ {l : List DictEntry} {ks : List Str} {z : Str}, l.map He.keyOf = He.keysIn P ks → z ∉ ks → l.find? (·.key.isStr z) = none ∧ l.any (·.refKey) = false
  | [], _, _, _, _ => ⟨rfl, rfl⟩
  | e :: r, [], _, h, _ => by cases h
  | e :: r, k :: ks, z, h, hz => by
    have h1 : He.keyOf e :: r.map He.keyOf = some (k, PyData.keyHash P k) :: He.keysIn P ks := h
    injection h1 with h2 h3
    rw [List.mem_cons, not_or] at hz
    obtain ⟨i1, i2⟩ := keys_no h3 hz.2
    unfold He.keyOf at h2
    split at h2
    · rename_i x t q
      have hx := (Prod.mk.inj (Option.some.inj h2)).1
      subst hx
      have e1 : e.key.isStr z = false := by
        rw [q]
        show (x == z) = false
        exact beq_eq_false_iff_ne.mpr fun y => hz.1 y.symm
      have e2 : e.refKey = false := by
        unfold DictEntry.refKey
        rw [q]
      exact ⟨by rw [List.find?_cons, e1]; exact i1, by rw [List.any_cons, e2, i2]; rfl⟩
    · cases h2
theorem dic_no {K : PySem.W.Frag} {P : Params} {d : Addr} {ks : List Str} {z : Str} (h : He.dicW K d = some (He.keysIn P ks)) (hz : z ∉ ks) : PySem.W.nsIn K d z = some none := by
  unfold He.dicW at h
  unfold PySem.W.nsIn
  cases q : K.lookup d with
  | none =>
    rw [q] at h
    cases h
  | some o =>
    obtain ⟨oc, od, dt, osl⟩ := o
    rw [q] at h
    cases oc with
    | type c =>
      cases od with
      | none =>
        cases dt with
        | dict es n =>
          have h1 : (match decide (c = "dict") && (osl.isEmpty && !(d == sysModules)) with
            | true => some (es.toList.map He.keyOf)
            | false => none) = some (He.keysIn P ks) := h
          split at h1
          · obtain ⟨i1, i2⟩ := keys_no (Option.some.inj h1) hz
            show (match es.toList.find? (·.key.isStr z) with | some e => some (some e.val) | none => if es.toList.any (·.refKey) then none else some none) = some none
            rw [i1]
            dsimp only
            rw [i2]
            rfl
          · cases h1
        | _ => cases h
      | some b => cases dt <;> cases h
    | _ => cases od <;> cases dt <;> cases h
theorem mem_of_lookup {α : Type} : ∀ {l : List (Str × α)} {z : Str} {v : α}, l.lookup z = some v → (z, v) ∈ l
  | (a, b) :: r, z, v, h => by
    rw [List.lookup_cons] at h
    by_cases e : z = a
    · subst e
      rw [beq_self_eq_true] at h
      cases h
      exact List.mem_cons_self
    · rw [beq_eq_false_iff_ne.mpr e] at h
      exact List.mem_cons_of_mem _ (mem_of_lookup h)
theorem tab_words {K : PySem.W.Frag} {w : World} {d : Addr} {l : List (Str × List Str)} (h1 : He.dicW K d = some (He.keysIn w.params (l.map (·.1)))) (h2 : tabAll K d (strsAt K) l = true) : KTab K w d (wordT l) where
  dict := He.dicW_ok h1
  no := fun z hz => dic_no h1 (lookup_none.mp (Option.map_eq_none_iff.mp hz))
  yes := fun z xs hz => by
    obtain ⟨ws, e, rfl⟩ := Option.map_eq_some_iff.mp hz
    obtain ⟨p, e1, e2⟩ := tabAll_at h2 (mem_of_lookup e)
    exact ⟨p, e1, strsAt_is e2⟩
theorem tab_twos {K : PySem.W.Frag} {w : World} {d : Addr} {l : List (Str × Int × Int)} (h1 : He.dicW K d = some (He.keysIn w.params (l.map (·.1)))) (h2 : tabAll K d (fun p (r : Int × Int) => intsAt K p [r.1, r.2]) l = true) : KTab K w d (twoT l) where
  dict := He.dicW_ok h1
  no := fun z hz => dic_no h1 (lookup_none.mp (Option.map_eq_none_iff.mp hz))
  yes := fun z xs hz => by
    obtain ⟨r, e, rfl⟩ := Option.map_eq_some_iff.mp hz
    obtain ⟨p, e1, e2⟩ := tabAll_at h2 (mem_of_lookup e)
    exact ⟨p, e1, intsAt_is e2⟩
end Pw
set_option maxHeartbeats 2000000
/-! the law's call at the very place where it is made: nothing is being told by repr there -/
namespace Rn
open PySem PySem.Spec PyProof.Rows L2 LamX
abbrev listObj (us : List Value) : Obj := { cls := .type "list", data := .seq us.toArray }
abbrev tabObj0 : Obj := { cls := .none, data := .fields #[] }
/-- what is known at the entry: the script, where it is none of the module's own objects, and the tables -/
def first (K : PySem.W.Frag) (a : Addr) (us : List Value) (zs : List Int) (tabs : List Addr) : Hp := fun b =>
  if b = a then (if (K.lookup a).isNone = true then some (.frz (listObj us) (.lst (zs.map V.int))) else none) else if b ∈ tabs then some (.tbl #[]) else none
section
variable {K : PySem.W.Frag} {a : Addr} {us : List Value} {zs : List Int} {tabs : List Addr} {h : Heap}
theorem first_tab (na : a ∉ tabs) {b : Addr} (hb : b ∈ tabs) : first K a us zs tabs b = some (.tbl #[]) := by
  have ne : b ≠ a := fun z => na (z ▸ hb)
  unfold first
  rw [if_neg ne, if_pos hb]
theorem first_off {b : Addr} (h1 : b ≠ a) (h2 : b ∉ tabs) : first K a us zs tabs b = none := by
  unfold first
  rw [if_neg h1, if_neg h2]
theorem first_own (e : K.lookup a = none) : first K a us zs tabs a = some (.frz (listObj us) (.lst (zs.map V.int))) := by
  unfold first
  rw [if_pos rfl, e]
  rfl
theorem first_top {o : Obj} (e : K.lookup a = some o) : first K a us zs tabs a = none := by
  unfold first
  rw [if_pos rfl, e]
  rfl
/-- where something is known it is the script or a table -/
theorem first_known {b : Addr} {u : HO} (e : first K a us zs tabs b = some u) : (b = a ∧ K.lookup a = none ∧ u = .frz (listObj us) (.lst (zs.map V.int))) ∨ (b ≠ a ∧ b ∈ tabs ∧ u = .tbl #[]) := by
  by_cases hb : b = a
  · subst hb
    cases hk : K.lookup b with
    | none =>
      rw [first_own hk] at e
      exact .inl ⟨rfl, rfl, (Option.some.inj e).symm⟩
    | some o =>
      rw [first_top hk] at e
      cases e
  · by_cases ht : b ∈ tabs
    · unfold first at e
      rw [if_neg hb, if_pos ht] at e
      exact .inr ⟨hb, ht, (Option.some.inj e).symm⟩
    · rw [first_off hb ht] at e
      cases e
end
theorem law_run {P : Program} {w : World} {K : PySem.W.Frag} {mg mb : Str → Option Value} {fa a : Addr} {cs : List (Addr × Addr)} {s : Shared} {us : List Value} {zs : List Int}
    (top : K.In s.heap) (glob : s.heap.Ns mainGlobals mg) (blt : s.heap.Ns builtinsNs mb) (same : ∀ x : Str, x ≠ "__name__" → mb x = bootBuiltins x) (free : s.heap.NoLimit) (gens : s.gens = #[])
    (tabAt : ∀ p ∈ cs, s.heap.get? p.2 = some tabObj0) (tabOff : ∀ p ∈ cs, K.lookup p.2 = none) (code : ∀ p ∈ cs, PySem.W.CodeHd s.heap p.1 p.2)
    (main : ∃ (bm : Addr) (ob : Obj), mg "__builtins__" = some (.ref bm) ∧ bm ≠ builtinsNs ∧ s.heap.get? bm = some ob ∧ ob.cls = .type "module" ∧ ob.dict = some builtinsNs ∧ ob.data = .plain)
    (script : s.heap.get? a = some (listObj us)) (scriptInts : IntsAre us zs) (short : zs.length ≤ sizeLine)
    (F : ∀ base : Heap, K.In base → base.Ns mainGlobals mg → (∀ p ∈ cs, TabB base mg p.1 p.2) → ∀ H : Hp, (∀ p ∈ cs, H p.2 = some (.tbl #[])) → SqL K H a (zs.map V.int) → Env0 P w K mg base callerA [] s H →
      codeAny (model P w) callerA (.call (.ref fa) ⟨[.ref a], []⟩) (CR CX0 [] P w H s (fun v _ => v = .bl true) E0) s) :
    codeAny (model P w) callerA (.call (.ref fa) ⟨[.ref a], []⟩) (fun r s' => r = .ok (.ret (.bool true)) ∧ OldK s.heap s'.heap ∧ s'.os = s.os ∧ AllBare s'.gens) s := by
  have rel := L2.vals_ints scriptInts
  have isTab : ∀ b ∈ cs.map (·.2), s.heap.get? b = some tabObj0 := fun b hb => by
    obtain ⟨p, hp, rfl⟩ := List.mem_map.mp hb
    exact tabAt p hp
  have aOff : a ∉ cs.map (·.2) := fun z => by
    have e := script.symm.trans (isTab a z)
    have d := congrArg Obj.data (Option.some.inj e)
    cases d
  obtain ⟨H, eH⟩ : ∃ H, first K a us zs (cs.map (·.2)) = H := ⟨_, rfl⟩
  have known : ∀ {b u}, H b = some u → (b = a ∧ K.lookup a = none ∧ u = .frz (listObj us) (.lst (zs.map V.int))) ∨ (b ≠ a ∧ b ∈ cs.map (·.2) ∧ u = .tbl #[]) := fun e => first_known (by rw [eH]; exact e)
  have tabH : ∀ p ∈ cs, H p.2 = some (.tbl #[]) := fun p hp => by
    rw [← eH]
    exact first_tab aOff (List.mem_map_of_mem (f := (·.2)) hp)
  -- an object that is no list and no empty table is not known
  have other : ∀ {b o}, s.heap.get? b = some o → (∀ xs n, o.data ≠ .seq xs n) → o.data ≠ .fields #[] → H b = none := fun {b o} e n1 n2 => by
    cases q : H b with
    | none => rfl
    | some u =>
      rcases known q with ⟨rfl, _, _⟩ | ⟨_, hb, _⟩
      · rw [script] at e
        cases e
        exact absurd rfl (n1 _ _)
      · rw [isTab b hb] at e
        cases e
        exact absurd rfl n2
  have dictOff : ∀ {b o es ep}, s.heap.get? b = some o → o.data = .dict es ep → H b = none := fun e d => other e (fun xs n z => by rw [d] at z; cases z) fun z => by rw [d] at z; cases z
  have stays : ∀ {b o}, s.heap.get? b = some o → H b = none → (L2.hidT s.heap H).get? b = some o := fun e n => hidT_get e n
  have ns : ∀ {b m}, s.heap.Ns b m → (L2.hidT s.heap H).Ns b m := fun h => by
    obtain ⟨o, es, ep, e, d, r⟩ := h
    exact ⟨o, es, ep, stays e (dictOff e d), d, r⟩
  have kin : K.In (L2.hidT s.heap H) := fun b o e => stays (top b o e) (by
    cases q : H b with
    | none => rfl
    | some u =>
      rcases known q with ⟨rfl, hk, _⟩ | ⟨_, hb, _⟩
      · rw [hk] at e
        cases e
      · obtain ⟨p, hp, rfl⟩ := List.mem_map.mp hb
        rw [tabOff p hp] at e
        cases e)
  have mod : L2.Mod K mg (L2.hidT s.heap H) := ⟨kin, ns glob, ⟨mb, ns blt, same⟩, by
    obtain ⟨mc, n1, n2⟩ := free
    exact ⟨mc, ns n1, n2⟩⟩
  have hok : HOk P w H s.heap := fun b u e => by
    rcases known e with ⟨rfl, _, rfl⟩ | ⟨_, hb, rfl⟩
    · exact ⟨script, by rw [List.length_map]; exact short, us, _, rel, script⟩
    · exact isTab b hb
  have seq : SqL K H a (zs.map V.int) := by
    cases hk : K.lookup a with
    | none =>
      refine .inl (.inr ⟨listObj us, ?_⟩)
      rw [← eH]
      exact first_own hk
    | some o =>
      have e := (top a o hk).symm.trans script
      cases e
      exact .inr ⟨_, us.toArray, _, hk, rfl, rfl, rfl, by rw [List.size_toArray, scriptInts.length]; exact short, by simpa using rel⟩
  have tb : ∀ p ∈ cs, TabB (L2.hidT s.heap H) mg p.1 p.2 := fun p hp => by
    have tp := tabAt p hp
    have notDict : ∀ {b m}, s.heap.Ns b m → b ≠ p.2 := fun h z => by
      obtain ⟨o, es, ep, e, d, _⟩ := h
      rw [z, tp] at e
      cases e
      cases d
    refine ⟨?_, ?_, notDict glob⟩
    · obtain ⟨o, vs, c1, c2, c3, c4, c5, c6, c7, e1, r1, r2, r3, rest⟩ := code p hp
      refine ⟨o, vs, c1, c2, c3, c4, c5, c6, c7, stays e1 (other e1 (fun xs n z => ?_) fun z => ?_), r1, r2, r3, rest⟩
      · exact nomatch r2.symm.trans z
      · have ev := r2.symm.trans z
        injection ev with ev
        rw [ev] at r3
        simp at r3
    · obtain ⟨bm, ob, g1, g2, g3, g4, g5, g6⟩ := main
      have plain : H bm = none := other g3 (fun xs n z => nomatch g6.symm.trans z) fun z => nomatch g6.symm.trans z
      refine ⟨bm, ob, g1, g2, fun z => ?_, fun z => ?_, stays g3 plain, g4, g5, g6⟩
      · obtain ⟨o, es, ep, e, d, _⟩ := id glob
        rw [z, e] at g3
        cases g3
        exact nomatch d.symm.trans g6
      · rw [z, tp] at g3
        cases g3
        cases g6
  have env : Env0 P w K mg (L2.hidT s.heap H) callerA [] s H := ⟨rfl, mod, fun b o e => of_hidT e, Nat.le_of_eq (hidT_size _ _), trivial, fun b hb => (List.not_mem_nil hb).elim, hok, .of_eq gens⟩
  refine codeAny_mono (F _ kin (ns glob) tb H tabH seq env) fun r s' out => ?_
  match r, out with
  | .ok (.ret u), out =>
    obtain ⟨v, H', os, bare, un, hok', rv, rfl⟩ := out
    cases (show u = Value.bool true from rv)
    have keeps : ∀ b o, b ∉ cs.map (·.2) → s.heap.get? b = some o → s'.heap.get? b = some o := fun b o nb e => by
      cases q : H b with
      | none => exact un.keep b o e q (fun z => (List.not_mem_nil z).elim) (fun z => (List.not_mem_nil z).elim)
      | some u =>
        rcases known q with ⟨rfl, _, rfl⟩ | ⟨_, hb, _⟩
        · have later := (hok' b _ (un.frzs b _ _ q)).1
          rw [script] at e
          cases e
          exact later
        · exact absurd hb nb
    have grown : ∀ p ∈ cs, ∃ more : Array Value, s'.heap.get? p.2 = some { cls := .none, data := .fields more } := fun p hp => by
      obtain ⟨more, e⟩ := un.tbls p.2 #[] (tabH p hp)
      exact ⟨_, hok' p.2 _ e⟩
    refine ⟨rfl, ⟨fun b o e => ?_, fun b o e => ?_⟩, os, bare⟩ <;> by_cases hb : b ∈ cs.map (·.2)
    · obtain ⟨p, hp, rfl⟩ := List.mem_map.mp hb
      obtain ⟨more, hm⟩ := grown p hp
      rw [tabAt p hp] at e
      cases e
      exact .inr (.inl ⟨((code p hp).tab (tabAt p hp)).isCodeTable, rfl, #[], more, rfl, by rw [Array.empty_append]; exact hm⟩)
    · exact .inl (keeps b o hb e)
    · obtain ⟨p, hp, rfl⟩ := List.mem_map.mp hb
      obtain ⟨more, hm⟩ := grown p hp
      exact ⟨_, hm⟩
    · exact ⟨o, keeps b o hb e⟩
  | .error e, out => exact (show False from out).elim
  | .ok .next, out => exact (show False from out).elim
  | .ok .brk, out => exact (show False from out).elim
  | .ok .cont, out => exact (show False from out).elim
end Rn
namespace Rn
open PySem PySem.Spec PyProof.Rows L2 LamX
/-- the table of the def at f is empty, its code object is laid as it should -/
def Empty (K : PySem.W.Frag) (f : Addr) (h : Heap) : Prop := ∀ (c T : Addr) (o : Obj) (fd : FuncData) (cl : Value) (dd : Option Addr) (vs : Array Value) (sl : Array (Option Value)),
  K.lookup f = some o → o.data = .func fd → fd.code = .ref c → K.lookup c = some ⟨cl, dd, .fields vs, sl⟩ → vs[11]? = some (.ref T) → h.get? T = some tabObj0 ∧ PySem.W.CodeHd h c T
theorem walk_run {l : PySem.W.OpenLaw} {n : Nat} {q : Program} {loose : List Str} {XP : (Str → Option Value) → Heap → Prop} {YP : World → Heap → Prop} {d : DefRec} {K : Params → PySem.W.Frag} {names : List Str}
    (most : l.most = some n) (small : n ≤ sizeLine) (noDef : d.params.defaults = []) (recs : ∀ x ∈ names, ((recsOf q).any fun e => e.name == x) = true) (kin : ∀ (w : World) (h : Heap), YP w h → (K w.params).In h)
    (F : ∀ (w : World) (mg : Str → Option Value) (fa : Addr) (h : Heap), YP w h → (K w.params).In h → h.Ns mainGlobals mg → mg d.name = some (.ref fa) → (∀ x ∈ names, ∀ f, mg x = some (.ref f) → Empty (K w.params) f h) →
      ∃ cs : List (Addr × Addr), (∀ p ∈ cs, h.get? p.2 = some tabObj0) ∧ (∀ p ∈ cs, (K w.params).lookup p.2 = none) ∧ (∀ p ∈ cs, PySem.W.CodeHd h p.1 p.2) ∧
        ∀ (base : Heap), (K w.params).In base → base.Ns mainGlobals mg → (∀ p ∈ cs, TabB base mg p.1 p.2) → ∀ (s : Shared) (H : Hp) (a : Addr) (zs : List Int), zs.length ≤ n → (∀ p ∈ cs, H p.2 = some (.tbl #[])) → SqL (K w.params) H a (zs.map V.int) → Env0 l.prog w (K w.params) mg base callerA [] s H →
          codeAny (model l.prog w) callerA (.call (.ref fa) ⟨[.ref a], []⟩) (CR CX0 [] l.prog w H s (fun v _ => v = .bl true) E0) s) :
    PySem.W.WalkO q loose XP YP l.row.toRowW d [] (fun f vs => PySem.call f vs) := by
  refine Att.attach_callB most noDef fun w s0 s mg mb fa o pm cd doc a us zs G Y ho hd hcd hmg obj scriptInts len bits gens => ?_
  have top := kin w _ Y
  have empty : ∀ x ∈ names, ∀ f, mg x = some (.ref f) → Empty (K w.params) f s.heap := fun x hx f hf c T o1 fd cl dd vs sl k1 k2 k3 k4 k5 => by
    obtain ⟨r, hr, same⟩ := List.any_eq_true.mp (recs x hx)
    obtain ⟨f2, o2, fd2, c2, T2, g1, g2, g3, g4, g5, g6⟩ := G.T.tab r hr
    rw [beq_iff_eq.mp same, hf] at g1
    cases g1
    cases (top _ _ k1).symm.trans g2
    cases k2.symm.trans g3
    cases k3.symm.trans g4
    have hd := PySem.W.CodeHd.of g5 g6
    obtain ⟨⟨oc, vc, e1, _, e3, e4⟩, tab⟩ := g6
    cases (top _ _ k4).symm.trans e1
    cases e3
    cases k5.symm.trans e4
    exact ⟨tab, hd⟩
  obtain ⟨cs, t1, t2, t3, run⟩ := F w mg fa _ Y top G.T.g hmg empty
  exact law_run top G.T.g G.T.b G.T.builtins G.T.nolimit gens t1 t2 t3 G.T.bmain obj scriptInts (Nat.le_trans len small) fun base k1 k2 k3 H k4 k5 e => run base k1 k2 k3 s H a zs len k4 k5 e
end Rn
set_option maxHeartbeats 4000000
/-! the end: what the top has written -/
namespace Pw
open PySem PySem.Spec PyProof.Rows L2 LamX Own
theorem vals_rev {vs : List V} {us : List Value} (h : Vals vs us) : Vals vs.reverse us.reverse := by
  induction h with
  | nil => exact .nil
  | cons a b ih =>
    rw [List.reverse_cons, List.reverse_cons]
    exact ih.append (.cons a .nil)
theorem all_mk {P : Program} {w : World} {K : PySem.W.Frag} {h : Heap} {mg : Str → Option Value} {fa : Addr} {n : Nat} (X : K.In h) (G : h.Ns mainGlobals mg) (hfa : mg "law" = some (.ref fa))
    {oc0 kV0 dc0 pm0 cd0 ct0 : Value} {od0 an0 : Option Addr} {sl0 : Array (Option Value)} {f0 : Addr}
    {oc1 kV1 dc1 pm1 cd1 ct1 : Value} {od1 an1 : Option Addr} {sl1 : Array (Option Value)} {f1 : Addr}
    {oc2 kV2 dc2 pm2 cd2 ct2 : Value} {od2 an2 : Option Addr} {sl2 : Array (Option Value)} {f2 : Addr}
    {oc3 kV3 dc3 pm3 cd3 ct3 : Value} {od3 an3 : Option Addr} {sl3 : Array (Option Value)} {f3 : Addr}
    {oc4 kV4 dc4 pm4 cd4 ct4 : Value} {od4 an4 : Option Addr} {sl4 : Array (Option Value)} {f4 : Addr}
    {oc5 kV5 dc5 pm5 cd5 ct5 : Value} {od5 an5 : Option Addr} {sl5 : Array (Option Value)} {f5 : Addr}
    {oc6 kV6 dc6 pm6 cd6 ct6 : Value} {od6 an6 : Option Addr} {sl6 : Array (Option Value)} {f6 : Addr}
    {oc7 kV7 dc7 pm7 cd7 ct7 : Value} {od7 an7 : Option Addr} {sl7 : Array (Option Value)} {f7 : Addr}
    {oc8 kV8 dc8 pm8 cd8 ct8 : Value} {od8 an8 : Option Addr} {sl8 : Array (Option Value)} {f8 : Addr}
    {oc9 kV9 dc9 pm9 cd9 ct9 : Value} {od9 an9 : Option Addr} {sl9 : Array (Option Value)} {f9 : Addr}
    {oc10 kV10 dc10 pm10 cd10 ct10 : Value} {od10 an10 : Option Addr} {sl10 : Array (Option Value)} {f10 : Addr}
    {oc11 kV11 dc11 pm11 cd11 ct11 : Value} {od11 an11 : Option Addr} {sl11 : Array (Option Value)} {f11 : Addr}
    {oc12 kV12 dc12 pm12 cd12 ct12 : Value} {od12 an12 : Option Addr} {sl12 : Array (Option Value)} {f12 : Addr}
    {oc13 kV13 dc13 pm13 cd13 ct13 : Value} {od13 an13 : Option Addr} {sl13 : Array (Option Value)} {f13 : Addr}
    {oc14 kV14 dc14 pm14 cd14 ct14 : Value} {od14 an14 : Option Addr} {sl14 : Array (Option Value)} {f14 : Addr}
    {oc15 kV15 dc15 pm15 cd15 ct15 : Value} {od15 an15 : Option Addr} {sl15 : Array (Option Value)} {f15 : Addr}
    {oc16 kV16 dc16 pm16 cd16 ct16 : Value} {od16 an16 : Option Addr} {sl16 : Array (Option Value)} {f16 : Addr}
    {oc17 kV17 dc17 pm17 cd17 ct17 : Value} {od17 an17 : Option Addr} {sl17 : Array (Option Value)} {f17 : Addr}
    {oc18 kV18 dc18 pm18 cd18 ct18 : Value} {od18 an18 : Option Addr} {sl18 : Array (Option Value)} {f18 : Addr}
    {oc19 kV19 dc19 pm19 cd19 ct19 : Value} {od19 an19 : Option Addr} {sl19 : Array (Option Value)} {f19 : Addr}
    {oc20 kV20 dc20 pm20 cd20 ct20 : Value} {od20 an20 : Option Addr} {sl20 : Array (Option Value)} {f20 : Addr}
    {oc21 kV21 dc21 pm21 cd21 ct21 : Value} {od21 an21 : Option Addr} {sl21 : Array (Option Value)} {f21 : Addr}
    {oc22 kV22 dc22 pm22 cd22 ct22 : Value} {od22 an22 : Option Addr} {sl22 : Array (Option Value)} {f22 : Addr}
    {oc23 kV23 dc23 pm23 cd23 ct23 : Value} {od23 an23 : Option Addr} {sl23 : Array (Option Value)} {f23 : Addr}
    {oc24 kV24 dc24 pm24 cd24 ct24 : Value} {od24 an24 : Option Addr} {sl24 : Array (Option Value)} {f24 : Addr}
    {oc25 kV25 dc25 pm25 cd25 ct25 : Value} {od25 an25 : Option Addr} {sl25 : Array (Option Value)} {f25 : Addr}
    {oc26 kV26 dc26 pm26 cd26 ct26 : Value} {od26 an26 : Option Addr} {sl26 : Array (Option Value)} {f26 : Addr}
    {oc27 kV27 dc27 pm27 cd27 ct27 : Value} {od27 an27 : Option Addr} {sl27 : Array (Option Value)} {f27 : Addr}
    {oc28 kV28 dc28 pm28 cd28 ct28 : Value} {od28 an28 : Option Addr} {sl28 : Array (Option Value)} {f28 : Addr}
    {oc29 kV29 dc29 pm29 cd29 ct29 : Value} {od29 an29 : Option Addr} {sl29 : Array (Option Value)} {f29 : Addr}
    {oc30 kV30 dc30 pm30 cd30 ct30 : Value} {od30 an30 : Option Addr} {sl30 : Array (Option Value)} {f30 : Addr}
    {oc31 kV31 dc31 pm31 cd31 ct31 : Value} {od31 an31 : Option Addr} {sl31 : Array (Option Value)} {f31 : Addr}
    {oc32 kV32 dc32 pm32 cd32 ct32 : Value} {od32 an32 : Option Addr} {sl32 : Array (Option Value)} {f32 : Addr}
    {oc33 kV33 dc33 pm33 cd33 ct33 : Value} {od33 an33 : Option Addr} {sl33 : Array (Option Value)} {f33 : Addr}
    {oc34 kV34 dc34 pm34 cd34 ct34 : Value} {od34 an34 : Option Addr} {sl34 : Array (Option Value)} {f34 : Addr}
    {oc35 kV35 dc35 pm35 cd35 ct35 : Value} {od35 an35 : Option Addr} {sl35 : Array (Option Value)} {f35 : Addr}
    {oc36 kV36 dc36 pm36 cd36 ct36 : Value} {od36 an36 : Option Addr} {sl36 : Array (Option Value)} {f36 : Addr}
    {oc37 kV37 dc37 pm37 cd37 ct37 : Value} {od37 an37 : Option Addr} {sl37 : Array (Option Value)} {f37 : Addr}
    {oc38 kV38 dc38 pm38 cd38 ct38 : Value} {od38 an38 : Option Addr} {sl38 : Array (Option Value)} {f38 : Addr}
    {oc39 kV39 dc39 pm39 cd39 ct39 : Value} {od39 an39 : Option Addr} {sl39 : Array (Option Value)} {f39 : Addr}
    {oc40 kV40 dc40 pm40 cd40 ct40 : Value} {od40 an40 : Option Addr} {sl40 : Array (Option Value)} {f40 : Addr}
    {oc41 kV41 dc41 pm41 cd41 ct41 : Value} {od41 an41 : Option Addr} {sl41 : Array (Option Value)} {f41 : Addr}
    {oc42 kV42 dc42 pm42 cd42 ct42 : Value} {od42 an42 : Option Addr} {sl42 : Array (Option Value)} {f42 : Addr}
    {oc43 kV43 dc43 pm43 cd43 ct43 : Value} {od43 an43 : Option Addr} {sl43 : Array (Option Value)} {f43 : Addr}
    {oc44 kV44 dc44 pm44 cd44 ct44 : Value} {od44 an44 : Option Addr} {sl44 : Array (Option Value)} {f44 : Addr}
    {oc45 kV45 dc45 pm45 cd45 ct45 : Value} {od45 an45 : Option Addr} {sl45 : Array (Option Value)} {f45 : Addr}
    {oc46 kV46 dc46 pm46 cd46 ct46 : Value} {od46 an46 : Option Addr} {sl46 : Array (Option Value)} {f46 : Addr}
    {tk_MOST_NOTS : Tok}
    {tk_MOST_SUMMED : Tok}
    {tk_MOST_INPUTS : Tok}
    {tk_MOST_NODES : Tok}
    {tk_MOST_PORTS : Tok}
    {tk_MOST_CELLS : Tok}
    {tk_MOST_WEIGHT : Tok}
    {tk_MOST_LOAD : Tok}
    {CP : Addr}
    {CN fEN : Addr}
    {ocN dcN pmN cdN ctN : Value} {odN anN : Option Addr} {slN : Array (Option Value)}
    {CL fEL : Addr}
    {ocL dcL pmL cdL ctL : Value} {odL anL : Option Addr} {slL : Array (Option Value)}
    {CI fEI : Addr}
    {ocI dcI pmI cdI ctI : Value} {odI anI : Option Addr} {slI : Array (Option Value)}
    {pS : Addr}
    {pJ : Addr}
    {pL : Addr}
    {dP : Addr}
    {dC : Addr}
    {dR : Addr}
    {dL : Addr}
    {CNet : Addr}
    {ocinit kVinit dcinit pminit cdinit ctinit : Value} {odinit aninit : Option Addr} {slinit : Array (Option Value)} {finit : Addr}
    {ocnode_list kVnode_list dcnode_list pmnode_list cdnode_list ctnode_list : Value} {odnode_list annode_list : Option Addr} {slnode_list : Array (Option Value)} {fnode_list : Addr}
    {oceq kVeq dceq pmeq cdeq cteq : Value} {odeq aneq : Option Addr} {sleq : Array (Option Value)} {feq : Addr}
    {oclen kVlen dclen pmlen cdlen ctlen : Value} {odlen anlen : Option Addr} {sllen : Array (Option Value)} {flen : Addr}
    {occontains kVcontains dccontains pmcontains cdcontains ctcontains : Value} {odcontains ancontains : Option Addr} {slcontains : Array (Option Value)} {fcontains : Addr}
    {ocgetitem kVgetitem dcgetitem pmgetitem cdgetitem ctgetitem : Value} {odgetitem angetitem : Option Addr} {slgetitem : Array (Option Value)} {fgetitem : Addr}
    (a0 : PySem.W.nsIn K mainGlobals "is_integer" = some (some (.ref f0)))
    (l0 : K.lookup f0 = some ⟨oc0, od0, .func (PySem.W.fnOf "is_integer" "is_integer" (defArgs sInteger) (defBody sInteger) (defScope sInteger) .none kV0 dc0 pm0 an0 cd0 ct0), sl0⟩)
    (c0 : PySem.W.codeIn K cd0 "is_integer" = true)
    (k0 : PySem.W.keepIn K (.ref f0) = true)
    (a1 : PySem.W.nsIn K mainGlobals "is_between" = some (some (.ref f1)))
    (l1 : K.lookup f1 = some ⟨oc1, od1, .func (PySem.W.fnOf "is_between" "is_between" (defArgs sBetween) (defBody sBetween) (defScope sBetween) .none kV1 dc1 pm1 an1 cd1 ct1), sl1⟩)
    (c1 : PySem.W.codeIn K cd1 "is_between" = true)
    (k1 : PySem.W.keepIn K (.ref f1) = true)
    (a2 : PySem.W.nsIn K mainGlobals "is_parameter" = some (some (.ref f2)))
    (l2 : K.lookup f2 = some ⟨oc2, od2, .func (PySem.W.fnOf "is_parameter" "is_parameter" (defArgs sParameter) (defBody sParameter) (defScope sParameter) .none kV2 dc2 pm2 an2 cd2 ct2), sl2⟩)
    (c2 : PySem.W.codeIn K cd2 "is_parameter" = true)
    (k2 : PySem.W.keepIn K (.ref f2) = true)
    (a3 : PySem.W.nsIn K mainGlobals "power" = some (some (.ref f3)))
    (l3 : K.lookup f3 = some ⟨oc3, od3, .func (PySem.W.fnOf "power" "power" (defArgs sPower) (defBody sPower) (defScope sPower) .none kV3 dc3 pm3 an3 cd3 ct3), sl3⟩)
    (c3 : PySem.W.codeIn K cd3 "power" = true)
    (k3 : PySem.W.keepIn K (.ref f3) = true)
    (a4 : PySem.W.nsIn K mainGlobals "is_name" = some (some (.ref f4)))
    (l4 : K.lookup f4 = some ⟨oc4, od4, .func (PySem.W.fnOf "is_name" "is_name" (defArgs sName) (defBody sName) (defScope sName) .none kV4 dc4 pm4 an4 cd4 ct4), sl4⟩)
    (c4 : PySem.W.codeIn K cd4 "is_name" = true)
    (k4 : PySem.W.keepIn K (.ref f4) = true)
    (a5 : PySem.W.nsIn K mainGlobals "is_one_of" = some (some (.ref f5)))
    (l5 : K.lookup f5 = some ⟨oc5, od5, .func (PySem.W.fnOf "is_one_of" "is_one_of" (defArgs sOneOf) (defBody sOneOf) (defScope sOneOf) .none kV5 dc5 pm5 an5 cd5 ct5), sl5⟩)
    (c5 : PySem.W.codeIn K cd5 "is_one_of" = true)
    (k5 : PySem.W.keepIn K (.ref f5) = true)
    (a6 : PySem.W.nsIn K mainGlobals "is_test" = some (some (.ref f6)))
    (l6 : K.lookup f6 = some ⟨oc6, od6, .func (PySem.W.fnOf "is_test" "is_test" (defArgs sTest) (defBody sTest) (defScope sTest) .none kV6 dc6 pm6 an6 cd6 ct6), sl6⟩)
    (c6 : PySem.W.codeIn K cd6 "is_test" = true)
    (k6 : PySem.W.keepIn K (.ref f6) = true)
    (a7 : PySem.W.nsIn K mainGlobals "is_negation" = some (some (.ref f7)))
    (l7 : K.lookup f7 = some ⟨oc7, od7, .func (PySem.W.fnOf "is_negation" "is_negation" (defArgs sNegation) (defBody sNegation) (defScope sNegation) .none kV7 dc7 pm7 an7 cd7 ct7), sl7⟩)
    (c7 : PySem.W.codeIn K cd7 "is_negation" = true)
    (k7 : PySem.W.keepIn K (.ref f7) = true)
    (a8 : PySem.W.nsIn K mainGlobals "is_plain_test" = some (some (.ref f8)))
    (l8 : K.lookup f8 = some ⟨oc8, od8, .func (PySem.W.fnOf "is_plain_test" "is_plain_test" (defArgs sPlain) (defBody sPlain) (defScope sPlain) .none kV8 dc8 pm8 an8 cd8 ct8), sl8⟩)
    (c8 : PySem.W.codeIn K cd8 "is_plain_test" = true)
    (k8 : PySem.W.keepIn K (.ref f8) = true)
    (a9 : PySem.W.nsIn K mainGlobals "are_residues" = some (some (.ref f9)))
    (l9 : K.lookup f9 = some ⟨oc9, od9, .func (PySem.W.fnOf "are_residues" "are_residues" (defArgs sResidues) (defBody sResidues) (defScope sResidues) .none kV9 dc9 pm9 an9 cd9 ct9), sl9⟩)
    (c9 : PySem.W.codeIn K cd9 "are_residues" = true)
    (k9 : PySem.W.keepIn K (.ref f9) = true)
    (a10 : PySem.W.nsIn K mainGlobals "modulus_of" = some (some (.ref f10)))
    (l10 : K.lookup f10 = some ⟨oc10, od10, .func (PySem.W.fnOf "modulus_of" "modulus_of" (defArgs sModulus) (defBody sModulus) (defScope sModulus) .none kV10 dc10 pm10 an10 cd10 ct10), sl10⟩)
    (c10 : PySem.W.codeIn K cd10 "modulus_of" = true)
    (k10 : PySem.W.keepIn K (.ref f10) = true)
    (a11 : PySem.W.nsIn K mainGlobals "is_node" = some (some (.ref f11)))
    (l11 : K.lookup f11 = some ⟨oc11, od11, .func (PySem.W.fnOf "is_node" "is_node" (defArgs sNode) (defBody sNode) (defScope sNode) .none kV11 dc11 pm11 an11 cd11 ct11), sl11⟩)
    (c11 : PySem.W.codeIn K cd11 "is_node" = true)
    (k11 : PySem.W.keepIn K (.ref f11) = true)
    (a12 : PySem.W.nsIn K mainGlobals "is_kind" = some (some (.ref f12)))
    (l12 : K.lookup f12 = some ⟨oc12, od12, .func (PySem.W.fnOf "is_kind" "is_kind" (defArgs sKind) (defBody sKind) (defScope sKind) .none kV12 dc12 pm12 an12 cd12 ct12), sl12⟩)
    (c12 : PySem.W.codeIn K cd12 "is_kind" = true)
    (k12 : PySem.W.keepIn K (.ref f12) = true)
    (a13 : PySem.W.nsIn K mainGlobals "are_parameters" = some (some (.ref f13)))
    (l13 : K.lookup f13 = some ⟨oc13, od13, .func (PySem.W.fnOf "are_parameters" "are_parameters" (defArgs sParams) (defBody sParams) (defScope sParams) .none kV13 dc13 pm13 an13 cd13 ct13), sl13⟩)
    (c13 : PySem.W.codeIn K cd13 "are_parameters" = true)
    (k13 : PySem.W.keepIn K (.ref f13) = true)
    (a14 : PySem.W.nsIn K mainGlobals "is_of_sort" = some (some (.ref f14)))
    (l14 : K.lookup f14 = some ⟨oc14, od14, .func (PySem.W.fnOf "is_of_sort" "is_of_sort" (defArgs sSort) (defBody sSort) (defScope sSort) .none kV14 dc14 pm14 an14 cd14 ct14), sl14⟩)
    (c14 : PySem.W.codeIn K cd14 "is_of_sort" = true)
    (k14 : PySem.W.keepIn K (.ref f14) = true)
    (a15 : PySem.W.nsIn K mainGlobals "are_integers" = some (some (.ref f15)))
    (l15 : K.lookup f15 = some ⟨oc15, od15, .func (PySem.W.fnOf "are_integers" "are_integers" (defArgs sIntegers) (defBody sIntegers) (defScope sIntegers) .none kV15 dc15 pm15 an15 cd15 ct15), sl15⟩)
    (c15 : PySem.W.codeIn K cd15 "are_integers" = true)
    (k15 : PySem.W.keepIn K (.ref f15) = true)
    (a16 : PySem.W.nsIn K mainGlobals "are_inputs" = some (some (.ref f16)))
    (l16 : K.lookup f16 = some ⟨oc16, od16, .func (PySem.W.fnOf "are_inputs" "are_inputs" (defArgs sInputs) (defBody sInputs) (defScope sInputs) .none kV16 dc16 pm16 an16 cd16 ct16), sl16⟩)
    (c16 : PySem.W.codeIn K cd16 "are_inputs" = true)
    (k16 : PySem.W.keepIn K (.ref f16) = true)
    (a17 : PySem.W.nsIn K mainGlobals "input_range" = some (some (.ref f17)))
    (l17 : K.lookup f17 = some ⟨oc17, od17, .func (PySem.W.fnOf "input_range" "input_range" (defArgs sInRange) (defBody sInRange) (defScope sInRange) .none kV17 dc17 pm17 an17 cd17 ct17), sl17⟩)
    (c17 : PySem.W.codeIn K cd17 "input_range" = true)
    (k17 : PySem.W.keepIn K (.ref f17) = true)
    (a18 : PySem.W.nsIn K mainGlobals "own_weight" = some (some (.ref f18)))
    (l18 : K.lookup f18 = some ⟨oc18, od18, .func (PySem.W.fnOf "own_weight" "own_weight" (defArgs sOwn) (defBody sOwn) (defScope sOwn) .none kV18 dc18 pm18 an18 cd18 ct18), sl18⟩)
    (c18 : PySem.W.codeIn K cd18 "own_weight" = true)
    (k18 : PySem.W.keepIn K (.ref f18) = true)
    (a19 : PySem.W.nsIn K mainGlobals "copied" = some (some (.ref f19)))
    (l19 : K.lookup f19 = some ⟨oc19, od19, .func (PySem.W.fnOf "copied" "copied" (defArgs sCopied) (defBody sCopied) (defScope sCopied) .none kV19 dc19 pm19 an19 cd19 ct19), sl19⟩)
    (c19 : PySem.W.codeIn K cd19 "copied" = true)
    (k19 : PySem.W.keepIn K (.ref f19) = true)
    (a20 : PySem.W.nsIn K mainGlobals "check_nodes" = some (some (.ref f20)))
    (l20 : K.lookup f20 = some ⟨oc20, od20, .func (PySem.W.fnOf "check_nodes" "check_nodes" (defArgs sCheck) (defBody sCheck) (defScope sCheck) .none kV20 dc20 pm20 an20 cd20 ct20), sl20⟩)
    (c20 : PySem.W.codeIn K cd20 "check_nodes" = true)
    (k20 : PySem.W.keepIn K (.ref f20) = true)
    (a21 : PySem.W.nsIn K mainGlobals "may_read" = some (some (.ref f21)))
    (l21 : K.lookup f21 = some ⟨oc21, od21, .func (PySem.W.fnOf "may_read" "may_read" (defArgs sMay) (defBody sMay) (defScope sMay) .none kV21 dc21 pm21 an21 cd21 ct21), sl21⟩)
    (c21 : PySem.W.codeIn K cd21 "may_read" = true)
    (k21 : PySem.W.keepIn K (.ref f21) = true)
    (a22 : PySem.W.nsIn K mainGlobals "check_limits" = some (some (.ref f22)))
    (l22 : K.lookup f22 = some ⟨oc22, od22, .func (PySem.W.fnOf "check_limits" "check_limits" (defArgs sLimits) (defBody sLimits) (defScope sLimits) .none kV22 dc22 pm22 an22 cd22 ct22), sl22⟩)
    (c22 : PySem.W.codeIn K cd22 "check_limits" = true)
    (k22 : PySem.W.keepIn K (.ref f22) = true)
    (a23 : PySem.W.nsIn K mainGlobals "outlets" = some (some (.ref f23)))
    (l23 : K.lookup f23 = some ⟨oc23, od23, .func (PySem.W.fnOf "outlets" "outlets" (defArgs sOutlets) (defBody sOutlets) (defScope sOutlets) .none kV23 dc23 pm23 an23 cd23 ct23), sl23⟩)
    (c23 : PySem.W.codeIn K cd23 "outlets" = true)
    (k23 : PySem.W.keepIn K (.ref f23) = true)
    (a24 : PySem.W.nsIn K mainGlobals "sources_of" = some (some (.ref f24)))
    (l24 : K.lookup f24 = some ⟨oc24, od24, .func (PySem.W.fnOf "sources_of" "sources_of" (defArgs sSrs) (defBody sSrs) (defScope sSrs) .none kV24 dc24 pm24 an24 cd24 ct24), sl24⟩)
    (c24 : PySem.W.codeIn K cd24 "sources_of" = true)
    (k24 : PySem.W.keepIn K (.ref f24) = true)
    (a25 : PySem.W.nsIn K mainGlobals "cells" = some (some (.ref f25)))
    (l25 : K.lookup f25 = some ⟨oc25, od25, .func (PySem.W.fnOf "cells" "cells" (defArgs sCells) (defBody sCells) (defScope sCells) .none kV25 dc25 pm25 an25 cd25 ct25), sl25⟩)
    (c25 : PySem.W.codeIn K cd25 "cells" = true)
    (k25 : PySem.W.keepIn K (.ref f25) = true)
    (a26 : PySem.W.nsIn K mainGlobals "weight" = some (some (.ref f26)))
    (l26 : K.lookup f26 = some ⟨oc26, od26, .func (PySem.W.fnOf "weight" "weight" (defArgs sWeight) (defBody sWeight) (defScope sWeight) .none kV26 dc26 pm26 an26 cd26 ct26), sl26⟩)
    (c26 : PySem.W.codeIn K cd26 "weight" = true)
    (k26 : PySem.W.keepIn K (.ref f26) = true)
    (a27 : PySem.W.nsIn K mainGlobals "product_of" = some (some (.ref f27)))
    (l27 : K.lookup f27 = some ⟨oc27, od27, .func (PySem.W.fnOf "product_of" "product_of" (defArgs sProduct) (defBody sProduct) (defScope sProduct) .none kV27 dc27 pm27 an27 cd27 ct27), sl27⟩)
    (c27 : PySem.W.codeIn K cd27 "product_of" = true)
    (k27 : PySem.W.keepIn K (.ref f27) = true)
    (a28 : PySem.W.nsIn K mainGlobals "loops" = some (some (.ref f28)))
    (l28 : K.lookup f28 = some ⟨oc28, od28, .func (PySem.W.fnOf "loops" "loops" (defArgs sLoops) (defBody sLoops) (defScope sLoops) .none kV28 dc28 pm28 an28 cd28 ct28), sl28⟩)
    (c28 : PySem.W.codeIn K cd28 "loops" = true)
    (k28 : PySem.W.keepIn K (.ref f28) = true)
    (a29 : PySem.W.nsIn K mainGlobals "load" = some (some (.ref f29)))
    (l29 : K.lookup f29 = some ⟨oc29, od29, .func (PySem.W.fnOf "load" "load" (defArgs sLoad) (defBody sLoad) (defScope sLoad) .none kV29 dc29 pm29 an29 cd29 ct29), sl29⟩)
    (c29 : PySem.W.codeIn K cd29 "load" = true)
    (k29 : PySem.W.keepIn K (.ref f29) = true)
    (a30 : PySem.W.nsIn K mainGlobals "_law_source_of" = some (some (.ref f30)))
    (l30 : K.lookup f30 = some ⟨oc30, od30, .func (PySem.W.fnOf "_law_source_of" "_law_source_of" (defArgs sSourceOf) (defBody sSourceOf) (defScope sSourceOf) .none kV30 dc30 pm30 an30 cd30 ct30), sl30⟩)
    (c30 : PySem.W.codeIn K cd30 "_law_source_of" = true)
    (k30 : PySem.W.keepIn K (.ref f30) = true)
    (a31 : PySem.W.nsIn K mainGlobals "_law_next" = some (some (.ref f31)))
    (l31 : K.lookup f31 = some ⟨oc31, od31, .func (PySem.W.fnOf "_law_next" "_law_next" (defArgs sNext) (defBody sNext) (defScope sNext) .none kV31 dc31 pm31 an31 cd31 ct31), sl31⟩)
    (c31 : PySem.W.codeIn K cd31 "_law_next" = true)
    (k31 : PySem.W.keepIn K (.ref f31) = true)
    (a32 : PySem.W.nsIn K mainGlobals "_law_one" = some (some (.ref f32)))
    (l32 : K.lookup f32 = some ⟨oc32, od32, .func (PySem.W.fnOf "_law_one" "_law_one" (defArgs sOne) (defBody sOne) (defScope sOne) .none kV32 dc32 pm32 an32 cd32 ct32), sl32⟩)
    (c32 : PySem.W.codeIn K cd32 "_law_one" = true)
    (k32 : PySem.W.keepIn K (.ref f32) = true)
    (a33 : PySem.W.nsIn K mainGlobals "_law_cell_at" = some (some (.ref f33)))
    (l33 : K.lookup f33 = some ⟨oc33, od33, .func (PySem.W.fnOf "_law_cell_at" "_law_cell_at" (defArgs sCellAt) (defBody sCellAt) (defScope sCellAt) .none kV33 dc33 pm33 an33 cd33 ct33), sl33⟩)
    (c33 : PySem.W.codeIn K cd33 "_law_cell_at" = true)
    (k33 : PySem.W.keepIn K (.ref f33) = true)
    (a34 : PySem.W.nsIn K mainGlobals "_law_test" = some (some (.ref f34)))
    (l34 : K.lookup f34 = some ⟨oc34, od34, .func (PySem.W.fnOf "_law_test" "_law_test" (defArgs sTest2) (defBody sTest2) (defScope sTest2) .none kV34 dc34 pm34 an34 cd34 ct34), sl34⟩)
    (c34 : PySem.W.codeIn K cd34 "_law_test" = true)
    (k34 : PySem.W.keepIn K (.ref f34) = true)
    (a35 : PySem.W.nsIn K mainGlobals "_law_source_node" = some (some (.ref f35)))
    (l35 : K.lookup f35 = some ⟨oc35, od35, .func (PySem.W.fnOf "_law_source_node" "_law_source_node" (defArgs sSrcNode) (defBody sSrcNode) (defScope sSrcNode) .none kV35 dc35 pm35 an35 cd35 ct35), sl35⟩)
    (c35 : PySem.W.codeIn K cd35 "_law_source_node" = true)
    (k35 : PySem.W.keepIn K (.ref f35) = true)
    (a36 : PySem.W.nsIn K mainGlobals "_law_single" = some (some (.ref f36)))
    (l36 : K.lookup f36 = some ⟨oc36, od36, .func (PySem.W.fnOf "_law_single" "_law_single" (defArgs sSingle) (defBody sSingle) (defScope sSingle) .none kV36 dc36 pm36 an36 cd36 ct36), sl36⟩)
    (c36 : PySem.W.codeIn K cd36 "_law_single" = true)
    (k36 : PySem.W.keepIn K (.ref f36) = true)
    (a37 : PySem.W.nsIn K mainGlobals "_law_nodes" = some (some (.ref f37)))
    (l37 : K.lookup f37 = some ⟨oc37, od37, .func (PySem.W.fnOf "_law_nodes" "_law_nodes" (defArgs sNodes) (defBody sNodes) (defScope sNodes) .none kV37 dc37 pm37 an37 cd37 ct37), sl37⟩)
    (c37 : PySem.W.codeIn K cd37 "_law_nodes" = true)
    (k37 : PySem.W.keepIn K (.ref f37) = true)
    (a38 : PySem.W.nsIn K mainGlobals "_law_factor" = some (some (.ref f38)))
    (l38 : K.lookup f38 = some ⟨oc38, od38, .func (PySem.W.fnOf "_law_factor" "_law_factor" (defArgs sFact) (defBody sFact) (defScope sFact) .none kV38 dc38 pm38 an38 cd38 ct38), sl38⟩)
    (c38 : PySem.W.codeIn K cd38 "_law_factor" = true)
    (k38 : PySem.W.keepIn K (.ref f38) = true)
    (a39 : PySem.W.nsIn K mainGlobals "_law_numbers" = some (some (.ref f39)))
    (l39 : K.lookup f39 = some ⟨oc39, od39, .func (PySem.W.fnOf "_law_numbers" "_law_numbers" (defArgs sNums) (defBody sNums) (defScope sNums) .none kV39 dc39 pm39 an39 cd39 ct39), sl39⟩)
    (c39 : PySem.W.codeIn K cd39 "_law_numbers" = true)
    (k39 : PySem.W.keepIn K (.ref f39) = true)
    (a40 : PySem.W.nsIn K mainGlobals "_law_copied" = some (some (.ref f40)))
    (l40 : K.lookup f40 = some ⟨oc40, od40, .func (PySem.W.fnOf "_law_copied" "_law_copied" (defArgs sLCopied) (defBody sLCopied) (defScope sLCopied) .none kV40 dc40 pm40 an40 cd40 ct40), sl40⟩)
    (c40 : PySem.W.codeIn K cd40 "_law_copied" = true)
    (k40 : PySem.W.keepIn K (.ref f40) = true)
    (a41 : PySem.W.nsIn K mainGlobals "_law_spoil" = some (some (.ref f41)))
    (l41 : K.lookup f41 = some ⟨oc41, od41, .func (PySem.W.fnOf "_law_spoil" "_law_spoil" (defArgs sSpoil) (defBody sSpoil) (defScope sSpoil) .none kV41 dc41 pm41 an41 cd41 ct41), sl41⟩)
    (c41 : PySem.W.codeIn K cd41 "_law_spoil" = true)
    (k41 : PySem.W.keepIn K (.ref f41) = true)
    (a42 : PySem.W.nsIn K mainGlobals "_law_made" = some (some (.ref f42)))
    (l42 : K.lookup f42 = some ⟨oc42, od42, .func (PySem.W.fnOf "_law_made" "_law_made" (defArgs sMade) (defBody sMade) (defScope sMade) .none kV42 dc42 pm42 an42 cd42 ct42), sl42⟩)
    (c42 : PySem.W.codeIn K cd42 "_law_made" = true)
    (k42 : PySem.W.keepIn K (.ref f42) = true)
    (a43 : PySem.W.nsIn K mainGlobals "_law_each_right" = some (some (.ref f43)))
    (l43 : K.lookup f43 = some ⟨oc43, od43, .func (PySem.W.fnOf "_law_each_right" "_law_each_right" (defArgs sEach) (defBody sEach) (defScope sEach) .none kV43 dc43 pm43 an43 cd43 ct43), sl43⟩)
    (c43 : PySem.W.codeIn K cd43 "_law_each_right" = true)
    (k43 : PySem.W.keepIn K (.ref f43) = true)
    (a44 : PySem.W.nsIn K mainGlobals "_law_names_right" = some (some (.ref f44)))
    (l44 : K.lookup f44 = some ⟨oc44, od44, .func (PySem.W.fnOf "_law_names_right" "_law_names_right" (defArgs sNmsR) (defBody sNmsR) (defScope sNmsR) .none kV44 dc44 pm44 an44 cd44 ct44), sl44⟩)
    (c44 : PySem.W.codeIn K cd44 "_law_names_right" = true)
    (k44 : PySem.W.keepIn K (.ref f44) = true)
    (a45 : PySem.W.nsIn K mainGlobals "_law_unlike_right" = some (some (.ref f45)))
    (l45 : K.lookup f45 = some ⟨oc45, od45, .func (PySem.W.fnOf "_law_unlike_right" "_law_unlike_right" (defArgs sUnl) (defBody sUnl) (defScope sUnl) .none kV45 dc45 pm45 an45 cd45 ct45), sl45⟩)
    (c45 : PySem.W.codeIn K cd45 "_law_unlike_right" = true)
    (k45 : PySem.W.keepIn K (.ref f45) = true)
    (a46 : PySem.W.nsIn K mainGlobals "law" = some (some (.ref f46)))
    (l46 : K.lookup f46 = some ⟨oc46, od46, .func (PySem.W.fnOf "law" "law" (defArgs sLaw) (defBody sLaw) (defScope sLaw) .none kV46 dc46 pm46 an46 cd46 ct46), sl46⟩)
    (c46 : PySem.W.codeIn K cd46 "law" = true)
    (k46 : PySem.W.keepIn K (.ref f46) = true)
    (b_isinstance : PySem.W.nsIn K mainGlobals "isinstance" = some none)
    (b_int : PySem.W.nsIn K mainGlobals "int" = some none)
    (b_bool : PySem.W.nsIn K mainGlobals "bool" = some none)
    (b_str : PySem.W.nsIn K mainGlobals "str" = some none)
    (b_tuple : PySem.W.nsIn K mainGlobals "tuple" = some none)
    (b_list : PySem.W.nsIn K mainGlobals "list" = some none)
    (b_len : PySem.W.nsIn K mainGlobals "len" = some none)
    (b_all : PySem.W.nsIn K mainGlobals "all" = some none)
    (b_zip : PySem.W.nsIn K mainGlobals "zip" = some none)
    (b_range : PySem.W.nsIn K mainGlobals "range" = some none)
    (b_repr : PySem.W.nsIn K mainGlobals "repr" = some none)
    (b_enumerate : PySem.W.nsIn K mainGlobals "enumerate" = some none)
    (b_sum : PySem.W.nsIn K mainGlobals "sum" = some none)
    (b_max : PySem.W.nsIn K mainGlobals "max" = some none)
    (b_min : PySem.W.nsIn K mainGlobals "min" = some none)
    (v_MOST_NOTS : PySem.W.nsIn K mainGlobals "MOST_NOTS" = some (some (.int 3 tk_MOST_NOTS)))
    (v_MOST_SUMMED : PySem.W.nsIn K mainGlobals "MOST_SUMMED" = some (some (.int 50 tk_MOST_SUMMED)))
    (v_MOST_INPUTS : PySem.W.nsIn K mainGlobals "MOST_INPUTS" = some (some (.int 10 tk_MOST_INPUTS)))
    (v_MOST_NODES : PySem.W.nsIn K mainGlobals "MOST_NODES" = some (some (.int 30 tk_MOST_NODES)))
    (v_MOST_PORTS : PySem.W.nsIn K mainGlobals "MOST_PORTS" = some (some (.int 5 tk_MOST_PORTS)))
    (v_MOST_CELLS : PySem.W.nsIn K mainGlobals "MOST_CELLS" = some (some (.int 100 tk_MOST_CELLS)))
    (v_MOST_WEIGHT : PySem.W.nsIn K mainGlobals "MOST_WEIGHT" = some (some (.int 200 tk_MOST_WEIGHT)))
    (v_MOST_LOAD : PySem.W.nsIn K mainGlobals "MOST_LOAD" = some (some (.int 10000 tk_MOST_LOAD)))
    (gP : PySem.W.nsIn K mainGlobals "PullError" = some (some (.ref CP)))
    (hn : PySem.W.specialIn K (.builtin "object.__class__") "__get__" = some (some (.builtin "getset_descriptor.__get__")))
    (ht : PySem.W.takesIn K (.builtin "object.__class__") = some true)
    (p_e : PySem.W.subIn K (.ref CP) (.type "BaseException") = some true)
    (p_h : PySem.W.hasDictIn K CP = true)
    (p_t : PySem.W.typeIn K (.ref CP) = some (.type "type"))
    (eN_g : PySem.W.nsIn K mainGlobals "InvalidNet" = some (some (.ref CN)))
    (eN_xI : PySem.W.excInitIn K CN PySem.ErrX.arTail "ArithmeticError.__new__" = true)
    (eN_xO : PySem.W.excOver K CN PySem.ErrX.arTail = true)
    (eN_sa : PySem.W.findIn K (.ref CN) "__setattr__" = some (some (.builtin "object.__setattr__")))
    (eN_ga : PySem.W.findIn K (.ref CN) "__getattribute__" = some (some (.builtin "BaseException.__getattribute__")))
    (eN_gg : PySem.W.findIn K (.ref CN) "__getattr__" = some none)
    (eN_nN : PySem.W.findIn K (.ref CN) "at" = some none)
    (eN_iC : PySem.W.findIn K (.ref CN) "__init__" = some (some (.ref fEN)))
    (eN_tC : PySem.W.typeIn K (.ref fEN) = some (.type "function"))
    (eN_kC : PySem.W.keepIn K (.ref CN) = true)
    (eN_eC : PySem.W.subIn K (.ref CN) (.type "BaseException") = some true)
    (eN_ty : PySem.W.typeIn K (.ref CN) = some (.type "type"))
    (eN_hd : PySem.W.hasDictIn K CN = true)
    (eN_l : K.lookup fEN = some ⟨ocN, odN, .func (PySem.W.fnOf "__init__" "InvalidNet.__init__" (PySem.ErrX.iA "at" ⟨6, 17, 6, 21⟩ ⟨6, 23, 6, 25⟩) (PySem.ErrX.iB "at" ⟨7, 8, 7, 12⟩ ⟨7, 8, 7, 15⟩ ⟨7, 18, 7, 20⟩ ⟨7, 8, 7, 20⟩) (PySem.ErrX.iS "at") .none .none dcN pmN anN cdN ctN), slN⟩)
    (eN_c : PySem.W.codeIn K cdN "InvalidNet.__init__" = true)
    (eN_ha : PySem.W.findIn K (.ref CN) "__class__" = some (some (.builtin "object.__class__")))
    (eN_hm : PySem.W.mroIn K CN (.type "object") = some true)
    (eN_sP : PySem.W.subIn K (.ref CN) (.ref CP) = some true)
    (eL_g : PySem.W.nsIn K mainGlobals "LimitExceeded" = some (some (.ref CL)))
    (eL_xI : PySem.W.excInitIn K CL PySem.ErrX.arTail "ArithmeticError.__new__" = true)
    (eL_xO : PySem.W.excOver K CL PySem.ErrX.arTail = true)
    (eL_sa : PySem.W.findIn K (.ref CL) "__setattr__" = some (some (.builtin "object.__setattr__")))
    (eL_ga : PySem.W.findIn K (.ref CL) "__getattribute__" = some (some (.builtin "BaseException.__getattribute__")))
    (eL_gg : PySem.W.findIn K (.ref CL) "__getattr__" = some none)
    (eL_nN : PySem.W.findIn K (.ref CL) "limit" = some none)
    (eL_iC : PySem.W.findIn K (.ref CL) "__init__" = some (some (.ref fEL)))
    (eL_tC : PySem.W.typeIn K (.ref fEL) = some (.type "function"))
    (eL_kC : PySem.W.keepIn K (.ref CL) = true)
    (eL_eC : PySem.W.subIn K (.ref CL) (.type "BaseException") = some true)
    (eL_ty : PySem.W.typeIn K (.ref CL) = some (.type "type"))
    (eL_hd : PySem.W.hasDictIn K CL = true)
    (eL_l : K.lookup fEL = some ⟨ocL, odL, .func (PySem.W.fnOf "__init__" "LimitExceeded.__init__" (PySem.ErrX.iA "limit" ⟨14, 17, 14, 21⟩ ⟨14, 23, 14, 28⟩) (PySem.ErrX.iB "limit" ⟨15, 8, 15, 12⟩ ⟨15, 8, 15, 18⟩ ⟨15, 21, 15, 26⟩ ⟨15, 8, 15, 26⟩) (PySem.ErrX.iS "limit") .none .none dcL pmL anL cdL ctL), slL⟩)
    (eL_c : PySem.W.codeIn K cdL "LimitExceeded.__init__" = true)
    (eL_ha : PySem.W.findIn K (.ref CL) "__class__" = some (some (.builtin "object.__class__")))
    (eL_hm : PySem.W.mroIn K CL (.type "object") = some true)
    (eL_sP : PySem.W.subIn K (.ref CL) (.ref CP) = some true)
    (eI_g : PySem.W.nsIn K mainGlobals "InvalidName" = some (some (.ref CI)))
    (eI_xI : PySem.W.excInitIn K CI PySem.ErrX.arTail "ArithmeticError.__new__" = true)
    (eI_xO : PySem.W.excOver K CI PySem.ErrX.arTail = true)
    (eI_sa : PySem.W.findIn K (.ref CI) "__setattr__" = some (some (.builtin "object.__setattr__")))
    (eI_ga : PySem.W.findIn K (.ref CI) "__getattribute__" = some (some (.builtin "BaseException.__getattribute__")))
    (eI_gg : PySem.W.findIn K (.ref CI) "__getattr__" = some none)
    (eI_nN : PySem.W.findIn K (.ref CI) "name" = some none)
    (eI_iC : PySem.W.findIn K (.ref CI) "__init__" = some (some (.ref fEI)))
    (eI_tC : PySem.W.typeIn K (.ref fEI) = some (.type "function"))
    (eI_kC : PySem.W.keepIn K (.ref CI) = true)
    (eI_eC : PySem.W.subIn K (.ref CI) (.type "BaseException") = some true)
    (eI_ty : PySem.W.typeIn K (.ref CI) = some (.type "type"))
    (eI_hd : PySem.W.hasDictIn K CI = true)
    (eI_l : K.lookup fEI = some ⟨ocI, odI, .func (PySem.W.fnOf "__init__" "InvalidName.__init__" (PySem.ErrX.iA "name" ⟨10, 17, 10, 21⟩ ⟨10, 23, 10, 27⟩) (PySem.ErrX.iB "name" ⟨11, 8, 11, 12⟩ ⟨11, 8, 11, 17⟩ ⟨11, 20, 11, 24⟩ ⟨11, 8, 11, 24⟩) (PySem.ErrX.iS "name") .none .none dcI pmI anI cdI ctI), slI⟩)
    (eI_c : PySem.W.codeIn K cdI "InvalidName.__init__" = true)
    (eI_ha : PySem.W.findIn K (.ref CI) "__class__" = some (some (.builtin "object.__class__")))
    (eI_hm : PySem.W.mroIn K CI (.type "object") = some true)
    (eI_sP : PySem.W.subIn K (.ref CI) (.ref CP) = some true)
    (sL_ss : PySem.W.subIn K (.ref CL) (.ref CL) = some true)
    (sI_ss : PySem.W.subIn K (.ref CI) (.ref CI) = some true)
    (g_SOURCES : PySem.W.nsIn K mainGlobals "SOURCES" = some (some (.ref pS)))
    (t_SOURCES : strsAt K pS sources = true)
    (g_JOINS : PySem.W.nsIn K mainGlobals "JOINS" = some (some (.ref pJ)))
    (t_JOINS : strsAt K pJ joins = true)
    (g_LOOPS : PySem.W.nsIn K mainGlobals "LOOPS" = some (some (.ref pL)))
    (t_LOOPS : strsAt K pL loopsL = true)
    (g_PARAMETERS : PySem.W.nsIn K mainGlobals "PARAMETERS" = some (some (.ref dP)))
    (d_PARAMETERS : He.dicW K dP = some (He.keysIn w.params (kindsL.map (·.1))))
    (t_PARAMETERS : tabAll K dP (strsAt K) kindsL = true)
    (g_CHOICES : PySem.W.nsIn K mainGlobals "CHOICES" = some (some (.ref dC)))
    (d_CHOICES : He.dicW K dC = some (He.keysIn w.params (choices.map (·.1))))
    (t_CHOICES : tabAll K dC (strsAt K) choices = true)
    (g_RANGES : PySem.W.nsIn K mainGlobals "RANGES" = some (some (.ref dR)))
    (d_RANGES : He.dicW K dR = some (He.keysIn w.params (ranges.map (·.1))))
    (t_RANGES : tabAll K dR (fun p (r : Int × Int) => intsAt K p [r.1, r.2]) ranges = true)
    (g_LENGTHS : PySem.W.nsIn K mainGlobals "LENGTHS" = some (some (.ref dL)))
    (d_LENGTHS : He.dicW K dL = some (He.keysIn w.params (lengths.map (·.1))))
    (t_LENGTHS : tabAll K dL (fun p (r : Int × Int) => intsAt K p [r.1, r.2]) lengths = true)
    (g_Net : PySem.W.nsIn K mainGlobals "Net" = some (some (.ref CNet)))
    (q_pg : PySem.W.plainGet K CNet Str.empty = true)
    (q_hd : PySem.W.hasDictIn K CNet = true)
    (q_po : PySem.W.plainOver K CNet = true)
    (q_sa : PySem.W.findIn K (.ref CNet) "__setattr__" = some (some (.builtin "object.__setattr__")))
    (q_mk : PySem.W.makesIn K CNet = true)
    (q_kc : PySem.W.keepIn K (.ref CNet) = true)
    (m_init : PySem.W.findIn K (.ref CNet) "__init__" = some (some (.ref finit)))
    (n_init : PySem.W.isFn K (.ref finit) = true)
    (linit : K.lookup finit = some ⟨ocinit, odinit, .func (PySem.W.fnOf "__init__" "Net.__init__" (defArgs sNetInit) (defBody sNetInit) (defScope sNetInit) .none kVinit dcinit pminit aninit cdinit ctinit), slinit⟩)
    (cinit : PySem.W.codeIn K cdinit "Net.__init__" = true)
    (kinit : PySem.W.keepIn K (.ref finit) = true)
    (m_node_list : PySem.W.findIn K (.ref CNet) "node_list" = some (some (.ref fnode_list)))
    (n_node_list : PySem.W.isFn K (.ref fnode_list) = true)
    (lnode_list : K.lookup fnode_list = some ⟨ocnode_list, odnode_list, .func (PySem.W.fnOf "node_list" "Net.node_list" (defArgs sNodeList) (defBody sNodeList) (defScope sNodeList) .none kVnode_list dcnode_list pmnode_list annode_list cdnode_list ctnode_list), slnode_list⟩)
    (cnode_list : PySem.W.codeIn K cdnode_list "Net.node_list" = true)
    (knode_list : PySem.W.keepIn K (.ref fnode_list) = true)
    (m_eq : PySem.W.findIn K (.ref CNet) "__eq__" = some (some (.ref feq)))
    (n_eq : PySem.W.isFn K (.ref feq) = true)
    (leq : K.lookup feq = some ⟨oceq, odeq, .func (PySem.W.fnOf "__eq__" "Net.__eq__" (defArgs sNetEq) (defBody sNetEq) (defScope sNetEq) .none kVeq dceq pmeq aneq cdeq cteq), sleq⟩)
    (ceq : PySem.W.codeIn K cdeq "Net.__eq__" = true)
    (keq : PySem.W.keepIn K (.ref feq) = true)
    (m_len : PySem.W.findIn K (.ref CNet) "__len__" = some (some (.ref flen)))
    (n_len : PySem.W.isFn K (.ref flen) = true)
    (llen : K.lookup flen = some ⟨oclen, odlen, .func (PySem.W.fnOf "__len__" "Net.__len__" (defArgs sNetLen) (defBody sNetLen) (defScope sNetLen) .none kVlen dclen pmlen anlen cdlen ctlen), sllen⟩)
    (clen : PySem.W.codeIn K cdlen "Net.__len__" = true)
    (klen : PySem.W.keepIn K (.ref flen) = true)
    (m_contains : PySem.W.findIn K (.ref CNet) "__contains__" = some (some (.ref fcontains)))
    (n_contains : PySem.W.isFn K (.ref fcontains) = true)
    (lcontains : K.lookup fcontains = some ⟨occontains, odcontains, .func (PySem.W.fnOf "__contains__" "Net.__contains__" (defArgs sNetHas) (defBody sNetHas) (defScope sNetHas) .none kVcontains dccontains pmcontains ancontains cdcontains ctcontains), slcontains⟩)
    (ccontains : PySem.W.codeIn K cdcontains "Net.__contains__" = true)
    (kcontains : PySem.W.keepIn K (.ref fcontains) = true)
    (m_getitem : PySem.W.findIn K (.ref CNet) "__getitem__" = some (some (.ref fgetitem)))
    (n_getitem : PySem.W.isFn K (.ref fgetitem) = true)
    (lgetitem : K.lookup fgetitem = some ⟨ocgetitem, odgetitem, .func (PySem.W.fnOf "__getitem__" "Net.__getitem__" (defArgs sNetGet) (defBody sNetGet) (defScope sNetGet) .none kVgetitem dcgetitem pmgetitem angetitem cdgetitem ctgetitem), slgetitem⟩)
    (cgetitem : PySem.W.codeIn K cdgetitem "Net.__getitem__" = true)
    (kgetitem : PySem.W.keepIn K (.ref fgetitem) = true)
    (na_nodes : PySem.W.findIn K (.ref CNet) "_nodes" = some none)
    (na_places : PySem.W.findIn K (.ref CNet) "_places" = some none)
    (na_plan : PySem.W.findIn K (.ref CNet) "plan" = some none)
    (q_ha : PySem.W.findIn K (.ref CNet) "__class__" = some (some (.builtin "object.__class__")))
    (q_hm : PySem.W.mroIn K CNet (.type "object") = some true)
    (q_ne : PySem.W.findIn K (.ref CNet) "__ne__" = some (some (.builtin "object.__ne__")))
    (q_sf : PySem.W.kitOne K (.ref CNet) (.ref CNet) = some true)
    (q_nf : (["NoneType", "int", "str", "list"].all fun T => PySem.W.subIn K (.type T) (.ref CNet) == some false) = true)
    (q_ko : (["NoneType", "int", "str", "list"].all fun T => PySem.W.kitOne K (.type T) (.ref CNet) == some false) = true)
    (q_fi : PySem.W.fnIn K fgetitem = true) (hn63 : n ≤ 63) :
    ∃ cs : List (Addr × Addr), (∀ p ∈ cs, h.get? p.2 = some Rn.tabObj0) ∧ (∀ p ∈ cs, K.lookup p.2 = none) ∧ (∀ p ∈ cs, PySem.W.CodeHd h p.1 p.2) ∧
      ∀ (base : Heap), K.In base → base.Ns mainGlobals mg → (∀ p ∈ cs, TabB base mg p.1 p.2) → ∀ (s : Shared) (H : Hp) (a : Addr) (zs : List Int), zs.length ≤ n → (∀ p ∈ cs, H p.2 = some (.tbl #[])) → SqL K H a (zs.map V.int) → Env0 P w K mg base callerA [] s H →
        codeAny (model P w) callerA (.call (.ref fa) ⟨[.ref a], []⟩) (CR CX0 [] P w H s (fun v _ => v = .bl true) E0) s := by
  have F0 := fun_mk (st := sInteger) l0 c0 k0
  have D0 : Dfn K mg "is_integer" sInteger ["value"] := ⟨_, _, F0, PySem.W.mg_of X G a0, F0.binds (ps := ["value"]) fun _ _ _ _ _ _ us hl => match us, hl with | [_], _ => rfl⟩
  have F1 := fun_mk (st := sBetween) l1 c1 k1
  have D1 : Dfn K mg "is_between" sBetween ["value", "low", "high"] := ⟨_, _, F1, PySem.W.mg_of X G a1, F1.binds (ps := ["value", "low", "high"]) fun _ _ _ _ _ _ us hl => match us, hl with | [_, _, _], _ => rfl⟩
  have F2 := fun_mk (st := sParameter) l2 c2 k2
  have D2 : Dfn K mg "is_parameter" sParameter ["value"] := ⟨_, _, F2, PySem.W.mg_of X G a2, F2.binds (ps := ["value"]) fun _ _ _ _ _ _ us hl => match us, hl with | [_], _ => rfl⟩
  have F3 := fun_mk (st := sPower) l3 c3 k3
  have D3 : Dfn K mg "power" sPower ["base", "exponent"] := ⟨_, _, F3, PySem.W.mg_of X G a3, F3.binds (ps := ["base", "exponent"]) fun _ _ _ _ _ _ us hl => match us, hl with | [_, _], _ => rfl⟩
  have F4 := fun_mk (st := sName) l4 c4 k4
  have D4 : Dfn K mg "is_name" sName ["value"] := ⟨_, _, F4, PySem.W.mg_of X G a4, F4.binds (ps := ["value"]) fun _ _ _ _ _ _ us hl => match us, hl with | [_], _ => rfl⟩
  have F5 := fun_mk (st := sOneOf) l5 c5 k5
  have D5 : Dfn K mg "is_one_of" sOneOf ["value", "words"] := ⟨_, _, F5, PySem.W.mg_of X G a5, F5.binds (ps := ["value", "words"]) fun _ _ _ _ _ _ us hl => match us, hl with | [_, _], _ => rfl⟩
  have F6 := fun_mk (st := sTest) l6 c6 k6
  have D6 : Dfn K mg "is_test" sTest ["value"] := ⟨_, _, F6, PySem.W.mg_of X G a6, F6.binds (ps := ["value"]) fun _ _ _ _ _ _ us hl => match us, hl with | [_], _ => rfl⟩
  have F7 := fun_mk (st := sNegation) l7 c7 k7
  have D7 : Dfn K mg "is_negation" sNegation ["value"] := ⟨_, _, F7, PySem.W.mg_of X G a7, F7.binds (ps := ["value"]) fun _ _ _ _ _ _ us hl => match us, hl with | [_], _ => rfl⟩
  have F8 := fun_mk (st := sPlain) l8 c8 k8
  have D8 : Dfn K mg "is_plain_test" sPlain ["value"] := ⟨_, _, F8, PySem.W.mg_of X G a8, F8.binds (ps := ["value"]) fun _ _ _ _ _ _ us hl => match us, hl with | [_], _ => rfl⟩
  have F9 := fun_mk (st := sResidues) l9 c9 k9
  have D9 : Dfn K mg "are_residues" sResidues ["value", "modulus"] := ⟨_, _, F9, PySem.W.mg_of X G a9, F9.binds (ps := ["value", "modulus"]) fun _ _ _ _ _ _ us hl => match us, hl with | [_, _], _ => rfl⟩
  have F10 := fun_mk (st := sModulus) l10 c10 k10
  have D10 : Dfn K mg "modulus_of" sModulus ["test"] := ⟨_, _, F10, PySem.W.mg_of X G a10, F10.binds (ps := ["test"]) fun _ _ _ _ _ _ us hl => match us, hl with | [_], _ => rfl⟩
  have F11 := fun_mk (st := sNode) l11 c11 k11
  have D11 : Dfn K mg "is_node" sNode ["value"] := ⟨_, _, F11, PySem.W.mg_of X G a11, F11.binds (ps := ["value"]) fun _ _ _ _ _ _ us hl => match us, hl with | [_], _ => rfl⟩
  have F12 := fun_mk (st := sKind) l12 c12 k12
  have D12 : Dfn K mg "is_kind" sKind ["value"] := ⟨_, _, F12, PySem.W.mg_of X G a12, F12.binds (ps := ["value"]) fun _ _ _ _ _ _ us hl => match us, hl with | [_], _ => rfl⟩
  have F13 := fun_mk (st := sParams) l13 c13 k13
  have D13 : Dfn K mg "are_parameters" sParams ["kind", "value"] := ⟨_, _, F13, PySem.W.mg_of X G a13, F13.binds (ps := ["kind", "value"]) fun _ _ _ _ _ _ us hl => match us, hl with | [_, _], _ => rfl⟩
  have F14 := fun_mk (st := sSort) l14 c14 k14
  have D14 : Dfn K mg "is_of_sort" sSort ["sort", "value"] := ⟨_, _, F14, PySem.W.mg_of X G a14, F14.binds (ps := ["sort", "value"]) fun _ _ _ _ _ _ us hl => match us, hl with | [_, _], _ => rfl⟩
  have F15 := fun_mk (st := sIntegers) l15 c15 k15
  have D15 : Dfn K mg "are_integers" sIntegers ["value", "least", "most"] := ⟨_, _, F15, PySem.W.mg_of X G a15, F15.binds (ps := ["value", "least", "most"]) fun _ _ _ _ _ _ us hl => match us, hl with | [_, _, _], _ => rfl⟩
  have F16 := fun_mk (st := sInputs) l16 c16 k16
  have D16 : Dfn K mg "are_inputs" sInputs ["kind", "value"] := ⟨_, _, F16, PySem.W.mg_of X G a16, F16.binds (ps := ["kind", "value"]) fun _ _ _ _ _ _ us hl => match us, hl with | [_, _], _ => rfl⟩
  have F17 := fun_mk (st := sInRange) l17 c17 k17
  have D17 : Dfn K mg "input_range" sInRange ["kind"] := ⟨_, _, F17, PySem.W.mg_of X G a17, F17.binds (ps := ["kind"]) fun _ _ _ _ _ _ us hl => match us, hl with | [_], _ => rfl⟩
  have F18 := fun_mk (st := sOwn) l18 c18 k18
  have D18 : Dfn K mg "own_weight" sOwn ["node"] := ⟨_, _, F18, PySem.W.mg_of X G a18, F18.binds (ps := ["node"]) fun _ _ _ _ _ _ us hl => match us, hl with | [_], _ => rfl⟩
  have F19 := fun_mk (st := sCopied) l19 c19 k19
  have D19 : Dfn K mg "copied" sCopied ["value"] := ⟨_, _, F19, PySem.W.mg_of X G a19, F19.binds (ps := ["value"]) fun _ _ _ _ _ _ us hl => match us, hl with | [_], _ => rfl⟩
  have F20 := fun_mk (st := sCheck) l20 c20 k20
  have D20 : Dfn K mg "check_nodes" sCheck ["nodes"] := ⟨_, _, F20, PySem.W.mg_of X G a20, F20.binds (ps := ["nodes"]) fun _ _ _ _ _ _ us hl => match us, hl with | [_], _ => rfl⟩
  have F21 := fun_mk (st := sMay) l21 c21 k21
  have D21 : Dfn K mg "may_read" sMay ["inputs", "kinds", "uses"] := ⟨_, _, F21, PySem.W.mg_of X G a21, F21.binds (ps := ["inputs", "kinds", "uses"]) fun _ _ _ _ _ _ us hl => match us, hl with | [_, _, _], _ => rfl⟩
  have F22 := fun_mk (st := sLimits) l22 c22 k22
  have D22 : Dfn K mg "check_limits" sLimits ["net"] := ⟨_, _, F22, PySem.W.mg_of X G a22, F22.binds (ps := ["net"]) fun _ _ _ _ _ _ us hl => match us, hl with | [_], _ => rfl⟩
  have F23 := fun_mk (st := sOutlets) l23 c23 k23
  have D23 : Dfn K mg "outlets" sOutlets ["net"] := ⟨_, _, F23, PySem.W.mg_of X G a23, F23.binds (ps := ["net"]) fun _ _ _ _ _ _ us hl => match us, hl with | [_], _ => rfl⟩
  have F24 := fun_mk (st := sSrs) l24 c24 k24
  have D24 : Dfn K mg "sources_of" sSrs ["net", "name"] := ⟨_, _, F24, PySem.W.mg_of X G a24, F24.binds (ps := ["net", "name"]) fun _ _ _ _ _ _ us hl => match us, hl with | [_, _], _ => rfl⟩
  have F25 := fun_mk (st := sCells) l25 c25 k25
  have D25 : Dfn K mg "cells" sCells ["net"] := ⟨_, _, F25, PySem.W.mg_of X G a25, F25.binds (ps := ["net"]) fun _ _ _ _ _ _ us hl => match us, hl with | [_], _ => rfl⟩
  have F26 := fun_mk (st := sWeight) l26 c26 k26
  have D26 : Dfn K mg "weight" sWeight ["net"] := ⟨_, _, F26, PySem.W.mg_of X G a26, F26.binds (ps := ["net"]) fun _ _ _ _ _ _ us hl => match us, hl with | [_], _ => rfl⟩
  have F27 := fun_mk (st := sProduct) l27 c27 k27
  have D27 : Dfn K mg "product_of" sProduct ["numbers"] := ⟨_, _, F27, PySem.W.mg_of X G a27, F27.binds (ps := ["numbers"]) fun _ _ _ _ _ _ us hl => match us, hl with | [_], _ => rfl⟩
  have F28 := fun_mk (st := sLoops) l28 c28 k28
  have D28 : Dfn K mg "loops" sLoops ["net"] := ⟨_, _, F28, PySem.W.mg_of X G a28, F28.binds (ps := ["net"]) fun _ _ _ _ _ _ us hl => match us, hl with | [_], _ => rfl⟩
  have F29 := fun_mk (st := sLoad) l29 c29 k29
  have D29 : Dfn K mg "load" sLoad ["net", "depth"] := ⟨_, _, F29, PySem.W.mg_of X G a29, F29.binds (ps := ["net", "depth"]) fun _ _ _ _ _ _ us hl => match us, hl with | [_, _], _ => rfl⟩
  have F30 := fun_mk (st := sSourceOf) l30 c30 k30
  have D30 : Dfn K mg "_law_source_of" sSourceOf ["_law_cell"] := ⟨_, _, F30, PySem.W.mg_of X G a30, F30.binds (ps := ["_law_cell"]) fun _ _ _ _ _ _ us hl => match us, hl with | [_], _ => rfl⟩
  have F31 := fun_mk (st := sNext) l31 c31 k31
  have D31 : Dfn K mg "_law_next" sNext ["_law_source", "_law_many"] := ⟨_, _, F31, PySem.W.mg_of X G a31, F31.binds (ps := ["_law_source", "_law_many"]) fun _ _ _ _ _ _ us hl => match us, hl with | [_, _], _ => rfl⟩
  have F32 := fun_mk (st := sOne) l32 c32 k32
  have D32 : Dfn K mg "_law_one" sOne ["_law_source", "_law_options"] := ⟨_, _, F32, PySem.W.mg_of X G a32, F32.binds (ps := ["_law_source", "_law_options"]) fun _ _ _ _ _ _ us hl => match us, hl with | [_, _], _ => rfl⟩
  have F33 := fun_mk (st := sCellAt) l33 c33 k33
  have D33 : Dfn K mg "_law_cell_at" sCellAt ["_law_script", "_law_k"] := ⟨_, _, F33, PySem.W.mg_of X G a33, F33.binds (ps := ["_law_script", "_law_k"]) fun _ _ _ _ _ _ us hl => match us, hl with | [_, _], _ => rfl⟩
  have F34 := fun_mk (st := sTest2) l34 c34 k34
  have D34 : Dfn K mg "_law_test" sTest2 ["_law_source", "_law_wide"] := ⟨_, _, F34, PySem.W.mg_of X G a34, F34.binds (ps := ["_law_source", "_law_wide"]) fun _ _ _ _ _ _ us hl => match us, hl with | [_, _], _ => rfl⟩
  have F35 := fun_mk (st := sSrcNode) l35 c35 k35
  have D35 : Dfn K mg "_law_source_node" sSrcNode ["_law_source", "_law_wide"] := ⟨_, _, F35, PySem.W.mg_of X G a35, F35.binds (ps := ["_law_source", "_law_wide"]) fun _ _ _ _ _ _ us hl => match us, hl with | [_, _], _ => rfl⟩
  have F36 := fun_mk (st := sSingle) l36 c36 k36
  have D36 : Dfn K mg "_law_single" sSingle ["_law_source", "_law_wide"] := ⟨_, _, F36, PySem.W.mg_of X G a36, F36.binds (ps := ["_law_source", "_law_wide"]) fun _ _ _ _ _ _ us hl => match us, hl with | [_, _], _ => rfl⟩
  have F37 := fun_mk (st := sNodes) l37 c37 k37
  have D37 : Dfn K mg "_law_nodes" sNodes ["_law_source", "_law_most", "_law_wide"] := ⟨_, _, F37, PySem.W.mg_of X G a37, F37.binds (ps := ["_law_source", "_law_most", "_law_wide"]) fun _ _ _ _ _ _ us hl => match us, hl with | [_, _, _], _ => rfl⟩
  have F38 := fun_mk (st := sFact) l38 c38 k38
  have D38 : Dfn K mg "_law_factor" sFact ["_law_node"] := ⟨_, _, F38, PySem.W.mg_of X G a38, F38.binds (ps := ["_law_node"]) fun _ _ _ _ _ _ us hl => match us, hl with | [_], _ => rfl⟩
  have F39 := fun_mk (st := sNums) l39 c39 k39
  have D39 : Dfn K mg "_law_numbers" sNums ["_law_list_of"] := ⟨_, _, F39, PySem.W.mg_of X G a39, F39.binds (ps := ["_law_list_of"]) fun _ _ _ _ _ _ us hl => match us, hl with | [_], _ => rfl⟩
  have F40 := fun_mk (st := sLCopied) l40 c40 k40
  have D40 : Dfn K mg "_law_copied" sLCopied ["_law_value"] := ⟨_, _, F40, PySem.W.mg_of X G a40, F40.binds (ps := ["_law_value"]) fun _ _ _ _ _ _ us hl => match us, hl with | [_], _ => rfl⟩
  have F41 := fun_mk (st := sSpoil) l41 c41 k41
  have D41 : Dfn K mg "_law_spoil" sSpoil ["_law_value"] := ⟨_, _, F41, PySem.W.mg_of X G a41, F41.binds (ps := ["_law_value"]) fun _ _ _ _ _ _ us hl => match us, hl with | [_], _ => rfl⟩
  have F42 := fun_mk (st := sMade) l42 c42 k42
  have D42 : Dfn K mg "_law_made" sMade ["_law_list_of"] := ⟨_, _, F42, PySem.W.mg_of X G a42, F42.binds (ps := ["_law_list_of"]) fun _ _ _ _ _ _ us hl => match us, hl with | [_], _ => rfl⟩
  have F43 := fun_mk (st := sEach) l43 c43 k43
  have D43 : Dfn K mg "_law_each_right" sEach ["_law_mesh", "_law_list_of", "_law_roots"] := ⟨_, _, F43, PySem.W.mg_of X G a43, F43.binds (ps := ["_law_mesh", "_law_list_of", "_law_roots"]) fun _ _ _ _ _ _ us hl => match us, hl with | [_, _, _], _ => rfl⟩
  have F44 := fun_mk (st := sNmsR) l44 c44 k44
  have D44 : Dfn K mg "_law_names_right" sNmsR ["_law_mesh"] := ⟨_, _, F44, PySem.W.mg_of X G a44, F44.binds (ps := ["_law_mesh"]) fun _ _ _ _ _ _ us hl => match us, hl with | [_], _ => rfl⟩
  have F45 := fun_mk (st := sUnl) l45 c45 k45
  have D45 : Dfn K mg "_law_unlike_right" sUnl [] := ⟨_, _, F45, PySem.W.mg_of X G a45, F45.binds (ps := []) fun _ _ _ _ _ _ us hl => match us, hl with | [], _ => rfl⟩
  have F46 := fun_mk (st := sLaw) l46 c46 k46
  have RN : PySem.ErrX.ErrTxt K mg "InvalidNet" "at" CN fEN := { gC := PySem.W.mg_of X G eN_g, xI := eN_xI, xO := eN_xO, sa := eN_sa, ga := eN_ga, gg := eN_gg, noN := eN_nN, iC := eN_iC, tC := eN_tC, kC := eN_kC, exC := eN_eC, tyC := eN_ty, hdC := eN_hd, fn := ⟨_, _, _, _, _, _, _, _, _, _, _, _, _, _, _, eN_l, eN_c⟩, bd := fun _ _ _ _ _ _ _ _ _ _ _ _ _ _ => rfl, ns := by decide, nd := by decide }
  have RL : PySem.ErrX.ErrTxt K mg "LimitExceeded" "limit" CL fEL := { gC := PySem.W.mg_of X G eL_g, xI := eL_xI, xO := eL_xO, sa := eL_sa, ga := eL_ga, gg := eL_gg, noN := eL_nN, iC := eL_iC, tC := eL_tC, kC := eL_kC, exC := eL_eC, tyC := eL_ty, hdC := eL_hd, fn := ⟨_, _, _, _, _, _, _, _, _, _, _, _, _, _, _, eL_l, eL_c⟩, bd := fun _ _ _ _ _ _ _ _ _ _ _ _ _ _ => rfl, ns := by decide, nd := by decide }
  have RI : PySem.ErrX.ErrTxt K mg "InvalidName" "name" CI fEI := { gC := PySem.W.mg_of X G eI_g, xI := eI_xI, xO := eI_xO, sa := eI_sa, ga := eI_ga, gg := eI_gg, noN := eI_nN, iC := eI_iC, tC := eI_tC, kC := eI_kC, exC := eI_eC, tyC := eI_ty, hdC := eI_hd, fn := ⟨_, _, _, _, _, _, _, _, _, _, _, _, _, _, _, eI_l, eI_c⟩, bd := fun _ _ _ _ _ _ _ _ _ _ _ _ _ _ => rfl, ns := by decide, nd := by decide }
  have TPARAMETERS := tab_words d_PARAMETERS t_PARAMETERS
  have TCHOICES := tab_words d_CHOICES t_CHOICES
  have TRANGES := tab_twos d_RANGES t_RANGES
  have TLENGTHS := tab_twos d_LENGTHS t_LENGTHS
  have Finit := fun_mk (st := sNetInit) linit cinit kinit
  have Fnode_list := fun_mk (st := sNodeList) lnode_list cnode_list knode_list
  have Feq := fun_mk (st := sNetEq) leq ceq keq
  have Flen := fun_mk (st := sNetLen) llen clen klen
  have Fcontains := fun_mk (st := sNetHas) lcontains ccontains kcontains
  have Fgetitem := fun_mk (st := sNetGet) lgetitem cgetitem kgetitem
  have QC : Cls K CNet := ⟨q_pg, q_hd, q_po, q_sa⟩
  cases hfa.symm.trans (PySem.W.mg_of X G a46)
  have B : Blt mg := ⟨PySem.W.mg_none_of X G b_isinstance, PySem.W.mg_none_of X G b_int, PySem.W.mg_none_of X G b_bool, PySem.W.mg_none_of X G b_str, PySem.W.mg_none_of X G b_tuple, PySem.W.mg_none_of X G b_list, PySem.W.mg_none_of X G b_len, PySem.W.mg_none_of X G b_all, PySem.W.mg_none_of X G b_zip, PySem.W.mg_none_of X G b_range, PySem.W.mg_none_of X G b_repr⟩
  have bE : mg "enumerate" = none := PySem.W.mg_none_of X G b_enumerate
  have bS : mg "sum" = none := PySem.W.mg_none_of X G b_sum
  have bM : mg "max" = none := PySem.W.mg_none_of X G b_max
  have bMn : mg "min" = none := PySem.W.mg_none_of X G b_min
  have T : Tables K w mg dP dR dL dC := ⟨PySem.W.mg_of X G g_PARAMETERS, PySem.W.mg_of X G g_RANGES, PySem.W.mg_of X G g_LENGTHS, PySem.W.mg_of X G g_CHOICES, TPARAMETERS, TRANGES, TLENGTHS, TCHOICES⟩
  have W : Words K mg pS pJ := ⟨PySem.W.mg_of X G g_SOURCES, PySem.W.mg_of X G g_JOINS, ⟨_, PySem.W.mg_of X G v_MOST_INPUTS⟩, strsAt_is t_SOURCES, strsAt_is t_JOINS⟩
  have bi := Finit.binds (ps := ["self", "nodes"]) fun _ _ _ _ _ _ us hl => match us, hl with | [_, _], _ => rfl
  have bn := Fnode_list.binds (ps := ["self"]) fun _ _ _ _ _ _ us hl => match us, hl with | [_], _ => rfl
  have b2 := Feq.binds (ps := ["self", "other"]) fun _ _ _ _ _ _ us hl => match us, hl with | [_, _], _ => rfl
  have b3 := Flen.binds (ps := ["self"]) fun _ _ _ _ _ _ us hl => match us, hl with | [_], _ => rfl
  have b4 := Fcontains.binds (ps := ["self", "name"]) fun _ _ _ _ _ _ us hl => match us, hl with | [_, _], _ => rfl
  have b5 := Fgetitem.binds (ps := ["self", "name"]) fun _ _ _ _ _ _ us hl => match us, hl with | [_, _], _ => rfl
  have gC := PySem.W.mg_of X G g_Net
  have TY : ClsTy K CNet := ⟨q_ha, hn, ht, q_hm, q_ne, q_sf⟩
  refine ⟨[], fun p hp => absurd hp (by simp), fun p hp => absurd hp (by simp), fun p hp => absurd hp (by simp), fun base kb nb tbs s H a zs len tabs seq e0 => ?_⟩
  have GI : DefOk P w K mg base CX0 1 "is_integer" ["value"] (spInteger K) := ok_integer B D0
  have GB : DefOk P w K mg base CX0 2 "is_between" ["value", "low", "high"] (spBetween K) := ok_between GI D1
  have GPa : DefOk P w K mg base CX0 3 "is_parameter" ["value"] (spParameter K) := ok_parameter GB D2
  have GO1 : DefOk P w K mg base CX0 1 "is_one_of" ["value", "words"] (spOneOf K) := ok_oneOf B D5
  have GNg : DefOk P w K mg base CX0 2 "is_negation" ["value"] (spNegation K) := ok_negation B GO1 D7
  have GRs : DefOk P w K mg base CX0 3 "are_residues" ["value", "modulus"] (spResidues K) := ok_residues B GB D9
  have GPn : DefOk P w K mg base CX0 4 "is_plain_test" ["value"] (spPlain K) := ok_plain B GO1 GPa GB GRs D8
  have GT : DefOk P w K mg base CX0 5 "is_test" ["value"] (spTest K) := ok_test B (PySem.W.mg_of X G v_MOST_NOTS) GNg GPn D6
  have GMo : DefOk P w K mg base CX0 4 "modulus_of" ["test"] (spModulus K 4) := ok_modulus D10 4
  have GPw : DefOk P w K mg base CX0 1 "power" ["base", "exponent"] (spPower K) := ok_power B D3
  have GNm : DefOk P w K mg base CX0 1 "is_name" ["value"] (spName K) := ok_name B D4
  have GIs : DefOk P w K mg base CX0 4 "are_integers" ["value", "least", "most"] (spInts K) := ok_integers B GPa D15
  have GK : DefOk P w K mg base CX0 1 "is_kind" ["value"] (spKind K) := ok_kind B T D12
  have GSo : DefOk P w K mg base CX0 6 "is_of_sort" ["sort", "value"] (spSort K) := ok_sort B T GB GIs GO1 GT GNm D14
  have GPs : DefOk P w K mg base CX0 7 "are_parameters" ["kind", "value"] (spParams K) := ok_params B T (PySem.W.mg_of X G v_MOST_SUMMED) GSo D13
  have GIr : DefOk P w K mg base CX0 1 "input_range" ["kind"] (spInRange K) := ok_inRange W D17
  have GIn : DefOk P w K mg base CX0 2 "are_inputs" ["kind", "value"] (spInputs K) := ok_inputs B GIr GNm D16
  have GNo : DefOk P w K mg base CX0 8 "is_node" ["value"] (spNode K) := ok_node B GNm GK GPs GIn D11
  have GOw : DefOk P w K mg base CX0 5 "own_weight" ["node"] (spOwn K) := ok_own B GMo D18
  have GCp : DefOk P w K mg base CX0 10 "copied" ["value"] (spCopied K 10) := ok_copied B D19 10
  have GMy : DefOk P w K mg base CX0 1 "may_read" ["inputs", "kinds", "uses"] (spMay K) := ok_may (PySem.W.mg_of X G v_MOST_PORTS) D21
  have GCk : DefOk P w K mg base (L2.CX P w) 9 "check_nodes" ["nodes"] (spCheck K CN) := ok_check B bE RN (PySem.W.mg_of X G v_MOST_NODES) GNo GMy D20
  have NC : NetCls P w K mg base CNet := ⟨QC, _, _, ⟨m_node_list, n_node_list, knode_list⟩, ok_nodeList QC na_nodes GCp Fnode_list, bn⟩
  have GOu : DefOk P w K mg base CX0 12 "outlets" ["net"] (spOutlets K CNet) := ok_outlets NC D23
  have GCe : DefOk P w K mg base CX0 13 "cells" ["net"] (spCells K CNet) := ok_cells bS NC GOu D25
  have GPr : DefOk P w K mg base CX0 1 "product_of" ["numbers"] (spProdW K) := ok_productW D27
  have GW : DefOk P w K mg base CX0 13 "weight" ["net"] (spWeight K CNet) := ok_weight NC GOu GOw GPr D26
  have GLo : DefOk P w K mg base CX0 13 "loops" ["net"] (spLoops K CNet) := ok_loops bM (PySem.W.mg_of X G g_LOOPS) (strsAt_is t_LOOPS) NC GOu D28
  have GLd : DefOk P w K mg base CX0 14 "load" ["net", "depth"] (spLoad K CNet) := ok_load GW GLo GPw D29
  have GLm : DefOk P w K mg base (L2.CX P w) 15 "check_limits" ["net"] (spLimits K CNet CL) := ok_limits RL (PySem.W.mg_of X G v_MOST_CELLS) (PySem.W.mg_of X G v_MOST_WEIGHT) (PySem.W.mg_of X G v_MOST_LOAD) GCe GW GLd D22
  have FI := fn_init (P := P) (w := w) (base := base) bE QC na_nodes na_places na_plan GCk GCp GLm _ _ Finit
  have K_outlets : DefKw P w K mg base CX0 12 "outlets" ["net"] ["net"] id (spOutlets K CNet) := ⟨_, _, PySem.W.mg_of X G a23, F23.kp, fun _ us hl => match us, hl with | [_], _ => .of_eq rfl, fun h => h, fun us hl => hl, fn_outlets NC F23⟩
  have K_cells : DefKw P w K mg base CX0 13 "cells" ["net"] ["net"] id (spCells K CNet) := ⟨_, _, PySem.W.mg_of X G a25, F25.kp, fun _ us hl => match us, hl with | [_], _ => .of_eq rfl, fun h => h, fun us hl => hl, fn_cells bS NC GOu F25⟩
  have K_weight : DefKw P w K mg base CX0 13 "weight" ["net"] ["net"] id (spWeight K CNet) := ⟨_, _, PySem.W.mg_of X G a26, F26.kp, fun _ us hl => match us, hl with | [_], _ => .of_eq rfl, fun h => h, fun us hl => hl, fn_weight NC GOu GOw GPr F26⟩
  have K_loops : DefKw P w K mg base CX0 13 "loops" ["net"] ["net"] id (spLoops K CNet) := ⟨_, _, PySem.W.mg_of X G a28, F28.kp, fun _ us hl => match us, hl with | [_], _ => .of_eq rfl, fun h => h, fun us hl => hl, fn_loops bM (PySem.W.mg_of X G g_LOOPS) (strsAt_is t_LOOPS) NC GOu F28⟩
  have mE : Meth K CNet "__eq__" feq := ⟨m_eq, n_eq, keq⟩
  have FE : FnOk P w K mg base CX0 1 _ _ ["self", "other"] (spEqN K CNet) := fn_eq B QC na_nodes gC TY Feq
  have FP : FnOk P w K mg base CX0 1 _ _ ["self", "other"] (spEqP K CNet) := fn_eqP B gC TY q_ko Feq
  have HM : HasM P w K mg base CNet := ⟨⟨_, _, ⟨m_contains, n_contains, kcontains⟩, fn_has B QC na_places Fcontains, b4⟩⟩
  have NM : NetMk P w K mg base CNet CN CL _ _ _ _ := ⟨gC, ⟨q_mk, m_init, n_init, q_kc⟩, FI, bi, mE, FE, FP, b2, TY, q_nf⟩
  have GSr : DefOk P w K mg base (L2.CX P w) 12 "sources_of" ["net", "name"] (spSrs K CNet CI) := ok_srs HM RI (PySem.W.mg_of X G g_SOURCES) (strsAt_is t_SOURCES) NC D24
  have KSr : DefKw P w K mg base (L2.CX P w) 12 "sources_of" ["net", "name"] ["name", "net"] List.reverse (spSrs K CNet CI) := ⟨_, _, PySem.W.mg_of X G a24, F24.kp, fun _ us hl => match us, hl with | [_, _], _ => .of_eq rfl, vals_rev, fun us hl => by rw [List.length_reverse]; exact hl, fn_srs HM RI (PySem.W.mg_of X G g_SOURCES) (strsAt_is t_SOURCES) NC F24⟩
  have S2 : Srs2 P w K mg base CNet CI := ⟨GSr, KSr, ⟨_, _, ⟨m_getitem, n_getitem, kgetitem⟩, q_fi, fn_get QC na_nodes na_places HM RI GCp Fgetitem, b5⟩⟩
  have W2 : Nms2 P w K mg base CNet CI fEI := ⟨RI, PySem.W.exm_ref eI_eC eI_hd eI_ty sI_ss⟩
  have E2 : Env2 P w K mg base CNet CN CL fEL := ⟨RL, PySem.W.exm_ref eL_eC eL_hd eL_ty sL_ss, gC, ⟨_, _, ⟨q_mk, m_init, n_init, q_kc⟩, FI, bi⟩⟩
  have GN : DefOk P w K mg base CX0 1 "_law_next" ["_law_source", "_law_many"] spNext := ok_next B D31
  have GO : DefOk P w K mg base CX0 2 "_law_one" ["_law_source", "_law_options"] (spOne K) := ok_one B GN D32
  have GTs := ok_test2 (P := P) (w := w) (base := base) B GN D34
  have GSn := ok_srcnode (P := P) (w := w) (base := base) B GN GO D35
  have GSg := ok_single (P := P) (w := w) (base := base) B GN GO GTs D36
  have GSp := fun n => ok_spoil (P := P) (w := w) (base := base) B D41 n
  have Cs : LawPs P w K mg base CNet CI CN CL fEI _ _ _ _ (fun us ws => us ++ ws) (fun vs zs => vs ++ zs) := {
    B := B, bS := bS, bMax := bM, GC := ok_cellAt B D33, GS := ok_sourceOf B D30, GN := ok_nodes B bMn GN GO GSn GSg D37
    GCo := ok_lcopied B D40 10, GM := ok_made B E2 D42, GSp := GSp 11, GNu := ok_numbers B bS bM D39, GF := ok_factor B D38
    GO := GOu, KO := K_outlets, GCe := GCe, KC := K_cells, GW := GW, KW := K_weight, KL := K_loops, GE := ok_each B S2 HM (GSp 10) D43, GU := ok_unl B NM D45
    N := NC, T := NM, kb := ⟨fun s us ws _ h1 h2 => match us, h1, ws, h2 with | [_], _, [_], _ => .of_eq rfl, fun h1 h2 => h1.append h2⟩, gv := fun _ _ => rfl
    len := ⟨_, _, ⟨m_len, n_len, klen⟩, fn_len B QC na_nodes Flen, b3⟩, S := S2, HM := HM, W2 := W2, DN := D44 }
  refine run_ofS (k := 22) (N := lawN) (ps := ["_law_script"]) (us := [.ref a]) (vs := [.ref a]) l46 c46 scLaw ⟨rfl, by decide, by decide⟩ e0 (.of_eq rfl) (.cons rfl .nil) rfl fun hr => ?_
  obtain ⟨t, ht, hq⟩ := law_body (E := E0) Cs rfl hr (by show callerA.units + 3 + 70 < cLine; decide) (Q := fun v _ => v = .bl true) ⟨a, zs, rfl, seq, Nat.le_trans len hn63, fun _ => rfl⟩
  exact ⟨t, ht.nox, hq⟩
end Pw
open PySem PySem.W PyProof.Rows
set_option maxRecDepth 100000 in
set_option maxHeartbeats 0 in
theorem PySem.Challenge.cw_pullworks_k02_nets_and_their_numbers_holds : PySem.Challenge.rw_pullworks_k02_nets_and_their_numbers.Holds := by
  w_on; o_law; k_head; (case hw => w_witness2)
  k_fill
  refine Rn.walk_run (l := PySem.Challenge.rw_pullworks_k02_nets_and_their_numbers) (n := 63) (names := []) rfl (by decide) rfl (fun _ h => absurd h (by simp)) (fun w h Y => by first | exact PySem.W.km_in_of Y | exact PySem.W.kIn_of Y) ?F
  case F =>
    intro w mg fa h Y KX G hmg _
    refine' Pw.all_mk KX G hmg ?a0 ?l0 ?c0 ?k0 ?a1 ?l1 ?c1 ?k1 ?a2 ?l2 ?c2 ?k2 ?a3 ?l3 ?c3 ?k3 ?a4 ?l4 ?c4 ?k4 ?a5 ?l5 ?c5 ?k5 ?a6 ?l6 ?c6 ?k6 ?a7 ?l7 ?c7 ?k7 ?a8 ?l8 ?c8 ?k8 ?a9 ?l9 ?c9 ?k9 ?a10 ?l10 ?c10 ?k10 ?a11 ?l11 ?c11 ?k11 ?a12 ?l12 ?c12 ?k12 ?a13 ?l13 ?c13 ?k13 ?a14 ?l14 ?c14 ?k14 ?a15 ?l15 ?c15 ?k15 ?a16 ?l16 ?c16 ?k16 ?a17 ?l17 ?c17 ?k17 ?a18 ?l18 ?c18 ?k18 ?a19 ?l19 ?c19 ?k19 ?a20 ?l20 ?c20 ?k20 ?a21 ?l21 ?c21 ?k21 ?a22 ?l22 ?c22 ?k22 ?a23 ?l23 ?c23 ?k23 ?a24 ?l24 ?c24 ?k24 ?a25 ?l25 ?c25 ?k25 ?a26 ?l26 ?c26 ?k26 ?a27 ?l27 ?c27 ?k27 ?a28 ?l28 ?c28 ?k28 ?a29 ?l29 ?c29 ?k29 ?a30 ?l30 ?c30 ?k30 ?a31 ?l31 ?c31 ?k31 ?a32 ?l32 ?c32 ?k32 ?a33 ?l33 ?c33 ?k33 ?a34 ?l34 ?c34 ?k34 ?a35 ?l35 ?c35 ?k35 ?a36 ?l36 ?c36 ?k36 ?a37 ?l37 ?c37 ?k37 ?a38 ?l38 ?c38 ?k38 ?a39 ?l39 ?c39 ?k39 ?a40 ?l40 ?c40 ?k40 ?a41 ?l41 ?c41 ?k41 ?a42 ?l42 ?c42 ?k42 ?a43 ?l43 ?c43 ?k43 ?a44 ?l44 ?c44 ?k44 ?a45 ?l45 ?c45 ?k45 ?a46 ?l46 ?c46 ?k46 ?b_isinstance ?b_int ?b_bool ?b_str ?b_tuple ?b_list ?b_len ?b_all ?b_zip ?b_range ?b_repr ?b_enumerate ?b_sum ?b_max ?b_min ?v_MOST_NOTS ?v_MOST_SUMMED ?v_MOST_INPUTS ?v_MOST_NODES ?v_MOST_PORTS ?v_MOST_CELLS ?v_MOST_WEIGHT ?v_MOST_LOAD ?gP ?hn ?ht ?p_e ?p_h ?p_t ?eN_g ?eN_xI ?eN_xO ?eN_sa ?eN_ga ?eN_gg ?eN_nN ?eN_iC ?eN_tC ?eN_kC ?eN_eC ?eN_ty ?eN_hd ?eN_l ?eN_c ?eN_ha ?eN_hm ?eN_sP ?eL_g ?eL_xI ?eL_xO ?eL_sa ?eL_ga ?eL_gg ?eL_nN ?eL_iC ?eL_tC ?eL_kC ?eL_eC ?eL_ty ?eL_hd ?eL_l ?eL_c ?eL_ha ?eL_hm ?eL_sP ?eI_g ?eI_xI ?eI_xO ?eI_sa ?eI_ga ?eI_gg ?eI_nN ?eI_iC ?eI_tC ?eI_kC ?eI_eC ?eI_ty ?eI_hd ?eI_l ?eI_c ?eI_ha ?eI_hm ?eI_sP ?sL_ss ?sI_ss ?g_SOURCES ?t_SOURCES ?g_JOINS ?t_JOINS ?g_LOOPS ?t_LOOPS ?g_PARAMETERS ?d_PARAMETERS ?t_PARAMETERS ?g_CHOICES ?d_CHOICES ?t_CHOICES ?g_RANGES ?d_RANGES ?t_RANGES ?g_LENGTHS ?d_LENGTHS ?t_LENGTHS ?g_Net ?q_pg ?q_hd ?q_po ?q_sa ?q_mk ?q_kc ?m_init ?n_init ?linit ?cinit ?kinit ?m_node_list ?n_node_list ?lnode_list ?cnode_list ?knode_list ?m_eq ?n_eq ?leq ?ceq ?keq ?m_len ?n_len ?llen ?clen ?klen ?m_contains ?n_contains ?lcontains ?ccontains ?kcontains ?m_getitem ?n_getitem ?lgetitem ?cgetitem ?kgetitem ?na_nodes ?na_places ?na_plan ?q_ha ?q_hm ?q_ne ?q_sf ?q_nf ?q_ko ?q_fi (Nat.le_refl _)
    (case a0 => first | k_is | rfl)
    (case l0 => first | k_is | rfl)
    (case c0 => first | k_is | rfl)
    (case k0 => first | k_is | rfl)
    (case a1 => first | k_is | rfl)
    (case l1 => first | k_is | rfl)
    (case c1 => first | k_is | rfl)
    (case k1 => first | k_is | rfl)
    (case a2 => first | k_is | rfl)
    (case l2 => first | k_is | rfl)
    (case c2 => first | k_is | rfl)
    (case k2 => first | k_is | rfl)
    (case a3 => first | k_is | rfl)
    (case l3 => first | k_is | rfl)
    (case c3 => first | k_is | rfl)
    (case k3 => first | k_is | rfl)
    (case a4 => first | k_is | rfl)
    (case l4 => first | k_is | rfl)
    (case c4 => first | k_is | rfl)
    (case k4 => first | k_is | rfl)
    (case a5 => first | k_is | rfl)
    (case l5 => first | k_is | rfl)
    (case c5 => first | k_is | rfl)
    (case k5 => first | k_is | rfl)
    (case a6 => first | k_is | rfl)
    (case l6 => first | k_is | rfl)
    (case c6 => first | k_is | rfl)
    (case k6 => first | k_is | rfl)
    (case a7 => first | k_is | rfl)
    (case l7 => first | k_is | rfl)
    (case c7 => first | k_is | rfl)
    (case k7 => first | k_is | rfl)
    (case a8 => first | k_is | rfl)
    (case l8 => first | k_is | rfl)
    (case c8 => first | k_is | rfl)
    (case k8 => first | k_is | rfl)
    (case a9 => first | k_is | rfl)
    (case l9 => first | k_is | rfl)
    (case c9 => first | k_is | rfl)
    (case k9 => first | k_is | rfl)
    (case a10 => first | k_is | rfl)
    (case l10 => first | k_is | rfl)
    (case c10 => first | k_is | rfl)
    (case k10 => first | k_is | rfl)
    (case a11 => first | k_is | rfl)
    (case l11 => first | k_is | rfl)
    (case c11 => first | k_is | rfl)
    (case k11 => first | k_is | rfl)
    (case a12 => first | k_is | rfl)
    (case l12 => first | k_is | rfl)
    (case c12 => first | k_is | rfl)
    (case k12 => first | k_is | rfl)
    (case a13 => first | k_is | rfl)
    (case l13 => first | k_is | rfl)
    (case c13 => first | k_is | rfl)
    (case k13 => first | k_is | rfl)
    (case a14 => first | k_is | rfl)
    (case l14 => first | k_is | rfl)
    (case c14 => first | k_is | rfl)
    (case k14 => first | k_is | rfl)
    (case a15 => first | k_is | rfl)
    (case l15 => first | k_is | rfl)
    (case c15 => first | k_is | rfl)
    (case k15 => first | k_is | rfl)
    (case a16 => first | k_is | rfl)
    (case l16 => first | k_is | rfl)
    (case c16 => first | k_is | rfl)
    (case k16 => first | k_is | rfl)
    (case a17 => first | k_is | rfl)
    (case l17 => first | k_is | rfl)
    (case c17 => first | k_is | rfl)
    (case k17 => first | k_is | rfl)
    (case a18 => first | k_is | rfl)
    (case l18 => first | k_is | rfl)
    (case c18 => first | k_is | rfl)
    (case k18 => first | k_is | rfl)
    (case a19 => first | k_is | rfl)
    (case l19 => first | k_is | rfl)
    (case c19 => first | k_is | rfl)
    (case k19 => first | k_is | rfl)
    (case a20 => first | k_is | rfl)
    (case l20 => first | k_is | rfl)
    (case c20 => first | k_is | rfl)
    (case k20 => first | k_is | rfl)
    (case a21 => first | k_is | rfl)
    (case l21 => first | k_is | rfl)
    (case c21 => first | k_is | rfl)
    (case k21 => first | k_is | rfl)
    (case a22 => first | k_is | rfl)
    (case l22 => first | k_is | rfl)
    (case c22 => first | k_is | rfl)
    (case k22 => first | k_is | rfl)
    (case a23 => first | k_is | rfl)
    (case l23 => first | k_is | rfl)
    (case c23 => first | k_is | rfl)
    (case k23 => first | k_is | rfl)
    (case a24 => first | k_is | rfl)
    (case l24 => first | k_is | rfl)
    (case c24 => first | k_is | rfl)
    (case k24 => first | k_is | rfl)
    (case a25 => first | k_is | rfl)
    (case l25 => first | k_is | rfl)
    (case c25 => first | k_is | rfl)
    (case k25 => first | k_is | rfl)
    (case a26 => first | k_is | rfl)
    (case l26 => first | k_is | rfl)
    (case c26 => first | k_is | rfl)
    (case k26 => first | k_is | rfl)
    (case a27 => first | k_is | rfl)
    (case l27 => first | k_is | rfl)
    (case c27 => first | k_is | rfl)
    (case k27 => first | k_is | rfl)
    (case a28 => first | k_is | rfl)
    (case l28 => first | k_is | rfl)
    (case c28 => first | k_is | rfl)
    (case k28 => first | k_is | rfl)
    (case a29 => first | k_is | rfl)
    (case l29 => first | k_is | rfl)
    (case c29 => first | k_is | rfl)
    (case k29 => first | k_is | rfl)
    (case a30 => first | k_is | rfl)
    (case l30 => first | k_is | rfl)
    (case c30 => first | k_is | rfl)
    (case k30 => first | k_is | rfl)
    (case a31 => first | k_is | rfl)
    (case l31 => first | k_is | rfl)
    (case c31 => first | k_is | rfl)
    (case k31 => first | k_is | rfl)
    (case a32 => first | k_is | rfl)
    (case l32 => first | k_is | rfl)
    (case c32 => first | k_is | rfl)
    (case k32 => first | k_is | rfl)
    (case a33 => first | k_is | rfl)
    (case l33 => first | k_is | rfl)
    (case c33 => first | k_is | rfl)
    (case k33 => first | k_is | rfl)
    (case a34 => first | k_is | rfl)
    (case l34 => first | k_is | rfl)
    (case c34 => first | k_is | rfl)
    (case k34 => first | k_is | rfl)
    (case a35 => first | k_is | rfl)
    (case l35 => first | k_is | rfl)
    (case c35 => first | k_is | rfl)
    (case k35 => first | k_is | rfl)
    (case a36 => first | k_is | rfl)
    (case l36 => first | k_is | rfl)
    (case c36 => first | k_is | rfl)
    (case k36 => first | k_is | rfl)
    (case a37 => first | k_is | rfl)
    (case l37 => first | k_is | rfl)
    (case c37 => first | k_is | rfl)
    (case k37 => first | k_is | rfl)
    (case a38 => first | k_is | rfl)
    (case l38 => first | k_is | rfl)
    (case c38 => first | k_is | rfl)
    (case k38 => first | k_is | rfl)
    (case a39 => first | k_is | rfl)
    (case l39 => first | k_is | rfl)
    (case c39 => first | k_is | rfl)
    (case k39 => first | k_is | rfl)
    (case a40 => first | k_is | rfl)
    (case l40 => first | k_is | rfl)
    (case c40 => first | k_is | rfl)
    (case k40 => first | k_is | rfl)
    (case a41 => first | k_is | rfl)
    (case l41 => first | k_is | rfl)
    (case c41 => first | k_is | rfl)
    (case k41 => first | k_is | rfl)
    (case a42 => first | k_is | rfl)
    (case l42 => first | k_is | rfl)
    (case c42 => first | k_is | rfl)
    (case k42 => first | k_is | rfl)
    (case a43 => first | k_is | rfl)
    (case l43 => first | k_is | rfl)
    (case c43 => first | k_is | rfl)
    (case k43 => first | k_is | rfl)
    (case a44 => first | k_is | rfl)
    (case l44 => first | k_is | rfl)
    (case c44 => first | k_is | rfl)
    (case k44 => first | k_is | rfl)
    (case a45 => first | k_is | rfl)
    (case l45 => first | k_is | rfl)
    (case c45 => first | k_is | rfl)
    (case k45 => first | k_is | rfl)
    (case a46 => first | k_is | rfl)
    (case l46 => first | k_is | rfl)
    (case c46 => first | k_is | rfl)
    (case k46 => first | k_is | rfl)
    (case b_isinstance => first | k_is | rfl)
    (case b_int => first | k_is | rfl)
    (case b_bool => first | k_is | rfl)
    (case b_str => first | k_is | rfl)
    (case b_tuple => first | k_is | rfl)
    (case b_list => first | k_is | rfl)
    (case b_len => first | k_is | rfl)
    (case b_all => first | k_is | rfl)
    (case b_zip => first | k_is | rfl)
    (case b_range => first | k_is | rfl)
    (case b_repr => first | k_is | rfl)
    (case b_enumerate => first | k_is | rfl)
    (case b_sum => first | k_is | rfl)
    (case b_max => first | k_is | rfl)
    (case b_min => first | k_is | rfl)
    (case v_MOST_NOTS => first | k_is | rfl)
    (case v_MOST_SUMMED => first | k_is | rfl)
    (case v_MOST_INPUTS => first | k_is | rfl)
    (case v_MOST_NODES => first | k_is | rfl)
    (case v_MOST_PORTS => first | k_is | rfl)
    (case v_MOST_CELLS => first | k_is | rfl)
    (case v_MOST_WEIGHT => first | k_is | rfl)
    (case v_MOST_LOAD => first | k_is | rfl)
    (case gP => first | k_is | rfl)
    (case hn => first | k_is | rfl)
    (case ht => first | k_is | rfl)
    (case p_e => first | k_is | rfl)
    (case p_h => first | k_is | rfl)
    (case p_t => first | k_is | rfl)
    (case eN_g => first | k_is | rfl)
    (case eN_xI => first | k_is | kx_is | rfl | decide +kernel)
    (case eN_xO => first | k_is | kx_is | rfl | decide +kernel)
    (case eN_sa => first | k_is | rfl)
    (case eN_ga => first | k_is | rfl)
    (case eN_gg => first | k_is | rfl)
    (case eN_nN => first | k_is | rfl)
    (case eN_iC => first | k_is | rfl)
    (case eN_tC => first | k_is | rfl)
    (case eN_kC => first | k_is | rfl)
    (case eN_eC => first | k_is | rfl)
    (case eN_ty => first | k_is | rfl)
    (case eN_hd => first | k_is | rfl)
    (case eN_l => first | k_is | rfl)
    (case eN_c => first | k_is | rfl)
    (case eN_ha => first | k_is | rfl)
    (case eN_hm => first | k_is | rfl)
    (case eN_sP => first | k_is | rfl)
    (case eL_g => first | k_is | rfl)
    (case eL_xI => first | k_is | kx_is | rfl | decide +kernel)
    (case eL_xO => first | k_is | kx_is | rfl | decide +kernel)
    (case eL_sa => first | k_is | rfl)
    (case eL_ga => first | k_is | rfl)
    (case eL_gg => first | k_is | rfl)
    (case eL_nN => first | k_is | rfl)
    (case eL_iC => first | k_is | rfl)
    (case eL_tC => first | k_is | rfl)
    (case eL_kC => first | k_is | rfl)
    (case eL_eC => first | k_is | rfl)
    (case eL_ty => first | k_is | rfl)
    (case eL_hd => first | k_is | rfl)
    (case eL_l => first | k_is | rfl)
    (case eL_c => first | k_is | rfl)
    (case eL_ha => first | k_is | rfl)
    (case eL_hm => first | k_is | rfl)
    (case eL_sP => first | k_is | rfl)
    (case eI_g => first | k_is | rfl)
    (case eI_xI => first | k_is | kx_is | rfl | decide +kernel)
    (case eI_xO => first | k_is | kx_is | rfl | decide +kernel)
    (case eI_sa => first | k_is | rfl)
    (case eI_ga => first | k_is | rfl)
    (case eI_gg => first | k_is | rfl)
    (case eI_nN => first | k_is | rfl)
    (case eI_iC => first | k_is | rfl)
    (case eI_tC => first | k_is | rfl)
    (case eI_kC => first | k_is | rfl)
    (case eI_eC => first | k_is | rfl)
    (case eI_ty => first | k_is | rfl)
    (case eI_hd => first | k_is | rfl)
    (case eI_l => first | k_is | rfl)
    (case eI_c => first | k_is | rfl)
    (case eI_ha => first | k_is | rfl)
    (case eI_hm => first | k_is | rfl)
    (case eI_sP => first | k_is | rfl)
    (case sL_ss => first | k_is | rfl | decide +kernel)
    (case sI_ss => first | k_is | rfl | decide +kernel)
    (case g_SOURCES => first | k_is | rfl)
    (case t_SOURCES => first | rfl | k_is | kernel_rfl)
    (case g_JOINS => first | k_is | rfl)
    (case t_JOINS => first | rfl | k_is | kernel_rfl)
    (case g_LOOPS => first | k_is | rfl)
    (case t_LOOPS => first | rfl | k_is | kernel_rfl)
    (case g_PARAMETERS => first | k_is | rfl)
    (case d_PARAMETERS => first | rfl | k_is | kernel_rfl)
    (case t_PARAMETERS => first | rfl | k_is | kernel_rfl)
    (case g_CHOICES => first | k_is | rfl)
    (case d_CHOICES => first | rfl | k_is | kernel_rfl)
    (case t_CHOICES => first | rfl | k_is | kernel_rfl)
    (case g_RANGES => first | k_is | rfl)
    (case d_RANGES => first | rfl | k_is | kernel_rfl)
    (case t_RANGES => first | rfl | k_is | kernel_rfl)
    (case g_LENGTHS => first | k_is | rfl)
    (case d_LENGTHS => first | rfl | k_is | kernel_rfl)
    (case t_LENGTHS => first | rfl | k_is | kernel_rfl)
    (case g_Net => first | k_is | rfl)
    (case q_pg => first | k_is | rfl)
    (case q_hd => first | k_is | rfl)
    (case q_po => first | k_is | rfl)
    (case q_sa => first | k_is | rfl)
    (case q_mk => first | k_is | rfl)
    (case q_kc => first | k_is | rfl)
    (case m_init => first | k_is | rfl)
    (case n_init => first | k_is | rfl)
    (case linit => first | k_is | rfl)
    (case cinit => first | k_is | rfl)
    (case kinit => first | k_is | rfl)
    (case m_node_list => first | k_is | rfl)
    (case n_node_list => first | k_is | rfl)
    (case lnode_list => first | k_is | rfl)
    (case cnode_list => first | k_is | rfl)
    (case knode_list => first | k_is | rfl)
    (case m_eq => first | k_is | rfl)
    (case n_eq => first | k_is | rfl)
    (case leq => first | k_is | rfl)
    (case ceq => first | k_is | rfl)
    (case keq => first | k_is | rfl)
    (case m_len => first | k_is | rfl)
    (case n_len => first | k_is | rfl)
    (case llen => first | k_is | rfl)
    (case clen => first | k_is | rfl)
    (case klen => first | k_is | rfl)
    (case m_contains => first | k_is | rfl)
    (case n_contains => first | k_is | rfl)
    (case lcontains => first | k_is | rfl)
    (case ccontains => first | k_is | rfl)
    (case kcontains => first | k_is | rfl)
    (case m_getitem => first | k_is | rfl)
    (case n_getitem => first | k_is | rfl)
    (case lgetitem => first | k_is | rfl)
    (case cgetitem => first | k_is | rfl)
    (case kgetitem => first | k_is | rfl)
    (case na_nodes => first | k_is | rfl)
    (case na_places => first | k_is | rfl)
    (case na_plan => first | k_is | rfl)
    (case q_ha => first | k_is | rfl)
    (case q_hm => first | k_is | rfl)
    (case q_ne => first | k_is | rfl)
    (case q_sf => first | k_is | rfl | decide +kernel)
    (case q_nf => first | rfl | decide +kernel | kernel_rfl)
    (case q_ko => first | rfl | decide +kernel | kernel_rfl)
    (case q_fi => first | rfl | k_is | decide +kernel)
