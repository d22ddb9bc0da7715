import PyProof.Rows.All
import Wide.All
import OpenK.AllK
import Wide.FinOn
import HX
import HX4
import HX7
import HX9
import HX11
import HX12
import HX17
import HX18
import HX19
import KE.RegKTryMore
import KE.RegKIsAll
import PySem.Challenge.RW_marblefall_k03_marbles_handled
set_option Elab.async false
set_option linter.all false
set_option maxRecDepth 100000
set_option maxHeartbeats 4000000
namespace K03
open PySem PySem.Spec PyProof.Rows L2 HX
def topS (i : Nat) : Stmt := PySem.Challenge.pw_marblefall_k03_marbles_handled.main.body.getD i (.Pass ⟨0, 0, 0, 0⟩)
abbrev s_is_whole : Stmt := topS 28
theorem sc_is_whole : FnScope ["thing"] ["thing"] (defScope s_is_whole) := ⟨rfl, rfl, rfl, by decide +kernel, rfl, by decide +kernel, by decide +kernel⟩
abbrev s_is_within : Stmt := topS 29
theorem sc_is_within : FnScope ["thing", "least", "most"] ["thing", "least", "most"] (defScope s_is_within) := ⟨rfl, rfl, rfl, by decide +kernel, rfl, by decide +kernel, by decide +kernel⟩
abbrev s_has_parts : Stmt := topS 30
theorem sc_has_parts : FnScope ["thing", "least", "most"] ["thing", "least", "most"] (defScope s_has_parts) := ⟨rfl, rfl, rfl, by decide +kernel, rfl, by decide +kernel, by decide +kernel⟩
abbrev s_is_step : Stmt := topS 31
theorem sc_is_step : FnScope ["thing", "ends", "end"] ["thing", "ends"] (defScope s_is_step) := ⟨rfl, rfl, rfl, by decide +kernel, rfl, by decide +kernel, by decide +kernel⟩
abbrev s_is_wheel : Stmt := topS 32
theorem sc_is_wheel : FnScope ["thing", "ends", "step"] ["thing", "ends"] (defScope s_is_wheel) := ⟨rfl, rfl, rfl, by decide +kernel, rfl, by decide +kernel, by decide +kernel⟩
abbrev s_is_board : Stmt := topS 33
theorem sc_is_board : FnScope ["thing", "wheels", "cups", "ends", "wheel"] ["thing"] (defScope s_is_board) := ⟨rfl, rfl, rfl, by decide +kernel, rfl, by decide +kernel, by decide +kernel⟩
/-! ### the mathematics -/
def wholeB : PyData → Bool
  | .int _ => true
  | _ => false
def withinB (d : PyData) (lo hi : Int) : Bool := match d with
  | .int i => decide (lo ≤ i) && decide (i ≤ hi)
  | _ => false
def partsB (d : PyData) (lo hi : Int) : Bool := match d with
  | .tuple ds => decide (lo ≤ (ds.length : Int)) && decide ((ds.length : Int) ≤ hi)
  | _ => false
def itemsD : PyData → List PyData
  | .tuple ds => ds
  | _ => []
def stepB (d : PyData) (ends : Int) : Bool := partsB d 0 3 && (itemsD d).all fun e => withinB e 0 (ends - 1)
def wheelB (d : PyData) (ends : Int) : Bool := partsB d 1 4 && (itemsD d).all fun e => stepB e ends
def boardB (d : PyData) : Bool := match d with
  | .tuple [w, .int c] => partsB w 1 6 && withinB (.int c) 0 4 && (itemsD w).all fun e => wheelB e (((itemsD w).length : Int) + c)
  | _ => false
theorem kit_int (d : PyData) : kitB (tyN d) "int" = some (wholeB d || (match d with | .bool _ => true | _ => false)) := by
  cases d
  · exact (by decide +kernel : kitB "NoneType" "int" = some false)
  · exact (by decide +kernel : kitB "bool" "int" = some true)
  · exact (by decide +kernel : kitB "int" "int" = some true)
  · exact (by decide +kernel : kitB "str" "int" = some false)
  · exact (by decide +kernel : kitB "list" "int" = some false)
  · exact (by decide +kernel : kitB "tuple" "int" = some false)
  · exact (by decide +kernel : kitB "dict" "int" = some false)

theorem kit_bool (d : PyData) : kitB (tyN d) "bool" = some (match d with | .bool _ => true | _ => false) := by
  cases d
  · exact (by decide +kernel : kitB "NoneType" "bool" = some false)
  · exact (by decide +kernel : kitB "bool" "bool" = some true)
  · exact (by decide +kernel : kitB "int" "bool" = some false)
  · exact (by decide +kernel : kitB "str" "bool" = some false)
  · exact (by decide +kernel : kitB "list" "bool" = some false)
  · exact (by decide +kernel : kitB "tuple" "bool" = some false)
  · exact (by decide +kernel : kitB "dict" "bool" = some false)
theorem kit_tuple (d : PyData) : kitB (tyN d) "tuple" = some (match d with | .tuple _ => true | _ => false) := by
  cases d
  · exact (by decide +kernel : kitB "NoneType" "tuple" = some false)
  · exact (by decide +kernel : kitB "bool" "tuple" = some false)
  · exact (by decide +kernel : kitB "int" "tuple" = some false)
  · exact (by decide +kernel : kitB "str" "tuple" = some false)
  · exact (by decide +kernel : kitB "list" "tuple" = some false)
  · exact (by decide +kernel : kitB "tuple" "tuple" = some true)
  · exact (by decide +kernel : kitB "dict" "tuple" = some false)
section
variable {P : Program} {w : World} {K : PySem.W.Frag} {mg : Str → Option Value} {base : Heap} {k : Nat}
/-! ### is_whole, is_within, has_parts -/
def spWhole : Sp := fun vs H Q _ => ∃ (N : Addr → Prop) (v : V) (d : PyData), vs = [v] ∧ Da N H v d ∧ Q (.bl (wholeB d)) H
theorem ok_is_whole (D : Def K mg "is_whole" s_is_whole ["thing"]) (B : Bi mg) : Cal P w K mg base (k + 1) "is_whole" ["thing"] spWhole := by
  refine D.ok sc_is_whole (fun vs H Q E h => ?_) (fun f cdv A outer s H vs Q E hr h => ?_)
  · obtain ⟨N, v, d, rfl, _⟩ := h
    rfl
  · obtain ⟨N, v, d, rfl, hd, q⟩ := h
    refine ⟨_, (pss_one (ps_ret (pe_and (pe_callB call_isi rfl B.isinstance_ (by decide +kernel) (pa_cons (pv 0) (pa_cons (pe_bltn (v := .ty "int") (u := .type "int") rfl B.int_ (by decide +kernel) rfl) pa_nil))) (pe_one (pe_not (pe_callB call_isi rfl B.isinstance_ (by decide +kernel) (pa_cons (pv 0) (pa_cons (pe_bltn (v := .ty "bool") (u := .type "bool") rfl B.bool_ (by decide +kernel) rfl) pa_nil)))))))), ?_⟩
    refine ⟨v, rfl, v, .ty "int", _, .type "int", _, rfl, .ty "int", hd.ty, kit_ty (kit_int d), _, rfl, ?_⟩
    cases d with
    | int i => exact iteT ⟨v, rfl, v, .ty "bool", _, .type "bool", _, rfl, .ty "bool", hd.ty, kit_ty (kit_bool _), _, rfl, q⟩
    | bool b => exact iteT ⟨v, rfl, v, .ty "bool", _, .type "bool", _, rfl, .ty "bool", hd.ty, kit_ty (kit_bool _), _, rfl, q⟩
    | none => exact iteF q
    | str x => exact iteF q
    | list ds => exact iteF q
    | tuple ds => exact iteF q
    | dict ds => exact iteF q
def spWithin : Sp := fun vs H Q _ => ∃ (N : Addr → Prop) (v : V) (d : PyData) (lo hi : Int), vs = [v, .int lo, .int hi] ∧ Da N H v d ∧ Q (.bl (withinB d lo hi)) H
theorem ok_is_within (D : Def K mg "is_within" s_is_within ["thing", "least", "most"]) (c_is_whole : Cal P w K mg base k "is_whole" ["thing"] spWhole) : Cal P w K mg base (k + 1) "is_within" ["thing", "least", "most"] spWithin := by
  refine D.ok sc_is_within (fun vs H Q E h => ?_) (fun f cdv A outer s H vs Q E hr h => ?_)
  · obtain ⟨N, v, d, lo, hi, rfl, _⟩ := h
    rfl
  · obtain ⟨N, v, d, lo, hi, rfl, hd, q⟩ := h
    refine ⟨_, (pss_one (ps_ret (pe_and (pe_cal c_is_whole hr rfl (pa_cons (pv 0) pa_nil)) (pe_one (pe_chain op_le op_le (pv 1) (pv 0) (pv 2)))))), ?_⟩
    refine ⟨v, rfl, N, v, d, rfl, hd, _, rfl, ?_⟩
    cases d with
    | int i =>
      cases hd
      refine iteT ⟨.int lo, rfl, .int i, rfl, lo, i, rfl, rfl, _, rfl, ?_⟩
      have q' : Q (.bl (decide (lo ≤ i) && decide (i ≤ hi))) H := q
      cases e : decide (lo ≤ i) with
      | true =>
        rw [e] at q'
        exact iteT ⟨.int hi, rfl, i, hi, rfl, rfl, q'⟩
      | false =>
        rw [e] at q'
        exact iteF q'
    | bool b => exact iteF q
    | none => exact iteF q
    | str x => exact iteF q
    | list ds => exact iteF q
    | tuple ds => exact iteF q
    | dict ds => exact iteF q
def spParts : Sp := fun vs H Q _ => ∃ (N : Addr → Prop) (v : V) (d : PyData) (lo hi : Int), vs = [v, .int lo, .int hi] ∧ Da N H v d ∧ Q (.bl (partsB d lo hi)) H
theorem ok_has_parts (D : Def K mg "has_parts" s_has_parts ["thing", "least", "most"]) (B : Bi mg) : Cal P w K mg base (k + 1) "has_parts" ["thing", "least", "most"] spParts := by
  refine D.ok sc_has_parts (fun vs H Q E h => ?_) (fun f cdv A outer s H vs Q E hr h => ?_)
  · obtain ⟨N, v, d, lo, hi, rfl, _⟩ := h
    rfl
  · obtain ⟨N, v, d, lo, hi, rfl, hd, q⟩ := h
    refine ⟨_, (pss_one (ps_ret (pe_and (pe_callB call_isi rfl B.isinstance_ (by decide +kernel) (pa_cons (pv 0) (pa_cons (pe_bltn (v := .ty "tuple") (u := .type "tuple") rfl B.tuple_ (by decide +kernel) rfl) pa_nil))) (pe_one (pe_chain op_le op_le (pv 1) (pe_callB call_len_seq rfl B.len_ (by decide +kernel) (pa_cons (pv 0) pa_nil)) (pv 2)))))), ?_⟩
    refine ⟨v, rfl, v, .ty "tuple", _, .type "tuple", _, rfl, .ty "tuple", hd.ty, kit_ty (kit_tuple d), _, rfl, ?_⟩
    cases d with
    | tuple ds =>
      obtain ⟨a, xs, rfl, e, _, ha⟩ := hd.tupOf
      refine iteT ⟨.int lo, rfl, .ref a, rfl, a, xs, rfl, .inr (SqT.of e), lo, xs.length, rfl, rfl, _, rfl, ?_⟩
      have q' : Q (.bl (decide (lo ≤ (ds.length : Int)) && decide ((ds.length : Int) ≤ hi))) H := q
      rw [← ha.len] at q'
      cases e : decide (lo ≤ (xs.length : Int)) with
      | true =>
        rw [e] at q'
        exact iteT ⟨.int hi, rfl, xs.length, hi, rfl, rfl, q'⟩
      | false =>
        rw [e] at q'
        exact iteF q'
    | bool b => exact iteF q
    | none => exact iteF q
    | str x => exact iteF q
    | list ds => exact iteF q
    | int i => exact iteF q
    | dict ds => exact iteF q
theorem parts_tup {d : PyData} {lo hi : Int} (h : partsB d lo hi = true) : ∃ ds, d = .tuple ds ∧ lo ≤ (ds.length : Int) ∧ (ds.length : Int) ≤ hi := by
  cases d with
  | tuple ds =>
    have h' : (decide (lo ≤ (ds.length : Int)) && decide ((ds.length : Int) ≤ hi)) = true := h
    simp only [Bool.and_eq_true, decide_eq_true_eq] at h'
    exact ⟨ds, rfl, h'.1, h'.2⟩
  | bool b => cases h
  | none => cases h
  | str x => cases h
  | list ds => cases h
  | int i => cases h
  | dict ds => cases h
/-! ### is_step, is_wheel, is_board -/
def spEnds (p : PyData → Int → Bool) : Sp := fun vs H Q _ => ∃ (N : Addr → Prop) (v : V) (d : PyData) (ends : Int), vs = [v, .int ends] ∧ Da N H v d ∧ ∀ H', Same H H' → Q (.bl (p d ends)) H'
theorem ok_is_step {t3 : Tok} (D : Def K mg "is_step" s_is_step ["thing", "ends"]) (B : Bi mg) (g_MOST_ENDS : mg "MOST_ENDS" = some (.int 3 t3)) (c_is_within : Cal P w K mg base k "is_within" ["thing", "least", "most"] spWithin)
    (c_has_parts : Cal P w K mg base k "has_parts" ["thing", "least", "most"] spParts) : Cal P w K mg base (k + 1) "is_step" ["thing", "ends"] (spEnds stepB) := by
  refine D.ok sc_is_step (fun vs H Q E h => ?_) (fun f cdv A outer s H vs Q E hr h => ?_)
  · obtain ⟨N, v, d, ends, rfl, _⟩ := h
    rfl
  · obtain ⟨N, v, d, ends, rfl, hd, q⟩ := h
    refine ⟨_, (pss_one (ps_ret (pe_and (pe_cal c_has_parts hr rfl (pa_cons (pv 0) (pa_cons pe_int (pa_cons (pe_gint rfl g_MOST_ENDS) pa_nil)))) (pe_one (pe_callB (cr_all rfl) rfl B.all_ (by decide +kernel) (pa_cons (pe_lc (own := [("end", 2)]) rfl sc_is_step.nd (pi_tup (pv 0)) (blkOk_by (N := ["thing", "ends", "end"]) (sc := defScope s_is_step) (by decide +kernel)) (fun _ _ _ _ _ => (pg_name (i := 2) sc_is_step.nd rfl (Or.inl rfl))) (fun _ _ _ _ _ => pts_nil) (fun _ _ _ _ _ => (pe_cal c_is_within hr rfl (pa_cons (pv 2) (pa_cons pe_int (pa_cons (pe_op op_sub (pv 1) pe_int) pa_nil)))))) pa_nil)))))), ?_⟩
    refine ⟨v, rfl, N, v, d, 0, 3, rfl, hd, _, rfl, ?_⟩
    cases e : partsB d 0 3 with
    | false =>
      refine iteF ?_
      have q' := q H (Same.refl H)
      unfold stepB at q'
      rw [e] at q'
      exact q'
    | true =>
      obtain ⟨ds, rfl, _, h3⟩ := parts_tup e
      obtain ⟨a, xs, rfl, ea, _, ha⟩ := hd.tupOf
      refine iteT (read_all (N := N) (ds := ds) (fun e => withinB e 0 (ends - 1)) rfl ea ha (by omega) (fun x d H' s' hx Q' q' => ?_) fun H' s' => ?_)
      · exact ⟨x, rfl, .int ends, rfl, ends, 1, rfl, rfl, N, x, d, 0, ends - 1, rfl, hx, q' H' (Same.refl H')⟩
      · have q' := q H' s'
        unfold stepB at q'
        rw [e] at q'
        exact q'
theorem ok_is_wheel {t4 : Tok} (D : Def K mg "is_wheel" s_is_wheel ["thing", "ends"]) (B : Bi mg) (g_MOST_STEPS : mg "MOST_STEPS" = some (.int 4 t4)) (c_is_step : Cal P w K mg base k "is_step" ["thing", "ends"] (spEnds stepB))
    (c_has_parts : Cal P w K mg base k "has_parts" ["thing", "least", "most"] spParts) : Cal P w K mg base (k + 1) "is_wheel" ["thing", "ends"] (spEnds wheelB) := by
  refine D.ok sc_is_wheel (fun vs H Q E h => ?_) (fun f cdv A outer s H vs Q E hr h => ?_)
  · obtain ⟨N, v, d, ends, rfl, _⟩ := h
    rfl
  · obtain ⟨N, v, d, ends, rfl, hd, q⟩ := h
    refine ⟨_, (pss_one (ps_ret (pe_and (pe_cal c_has_parts hr rfl (pa_cons (pv 0) (pa_cons pe_int (pa_cons (pe_gint rfl g_MOST_STEPS) pa_nil)))) (pe_one (pe_callB (cr_all rfl) rfl B.all_ (by decide +kernel) (pa_cons (pe_lc (own := [("step", 2)]) rfl sc_is_wheel.nd (pi_tup (pv 0)) (blkOk_by (N := ["thing", "ends", "step"]) (sc := defScope s_is_wheel) (by decide +kernel)) (fun _ _ _ _ _ => (pg_name (i := 2) sc_is_wheel.nd rfl (Or.inl rfl))) (fun _ _ _ _ _ => pts_nil) (fun _ _ _ _ _ => (pe_cal c_is_step hr rfl (pa_cons (pv 2) (pa_cons (pv 1) pa_nil))))) pa_nil)))))), ?_⟩
    refine ⟨v, rfl, N, v, d, 1, 4, rfl, hd, _, rfl, ?_⟩
    cases e : partsB d 1 4 with
    | false =>
      refine iteF ?_
      have q' := q H (Same.refl H)
      unfold wheelB at q'
      rw [e] at q'
      exact q'
    | true =>
      obtain ⟨ds, rfl, _, h3⟩ := parts_tup e
      obtain ⟨a, xs, rfl, ea, _, ha⟩ := hd.tupOf
      refine iteT (read_all (N := N) (ds := ds) (fun e => stepB e ends) rfl ea ha (by omega) (fun x d H' s' hx Q' q' => ?_) fun H' s' => ?_)
      · exact ⟨x, rfl, .int ends, rfl, N, x, d, ends, rfl, hx, q'⟩
      · have q' := q H' s'
        unfold wheelB at q'
        rw [e] at q'
        exact q'
def spThing (p : PyData → Bool) : Sp := fun vs H Q _ => ∃ (N : Addr → Prop) (v : V) (d : PyData), vs = [v] ∧ Da N H v d ∧ ∀ H', Same H H' → Q (.bl (p d)) H'
theorem boardB_no {d : PyData} (h : partsB d 2 2 = false) : boardB d = false := by
  unfold boardB
  split
  · cases h
  · rfl
theorem boardB_two {w c : PyData} : boardB (.tuple [w, c]) = (partsB w 1 6 && withinB c 0 4 && (itemsD w).all fun e => wheelB e (((itemsD w).length : Int) + (match c with | .int i => i | _ => 0))) := by
  cases c with
  | int i => rfl
  | bool b => simp [boardB, withinB]
  | none => simp [boardB, withinB]
  | str x => simp [boardB, withinB]
  | list ds => simp [boardB, withinB]
  | tuple ds => simp [boardB, withinB]
  | dict ds => simp [boardB, withinB]
theorem within_int {d : PyData} {lo hi : Int} (h : withinB d lo hi = true) : ∃ i, d = .int i ∧ lo ≤ i ∧ i ≤ hi := by
  cases d with
  | int i =>
    have h' : (decide (lo ≤ i) && decide (i ≤ hi)) = true := h
    simp only [Bool.and_eq_true, decide_eq_true_eq] at h'
    exact ⟨i, rfl, h'.1, h'.2⟩
  | bool b => cases h
  | none => cases h
  | str x => cases h
  | list ds => cases h
  | tuple i => cases h
  | dict ds => cases h
theorem ok_is_board {t6 t4 : Tok} (D : Def K mg "is_board" s_is_board ["thing"]) (B : Bi mg) (g_MOST_WHEELS : mg "MOST_WHEELS" = some (.int 6 t6)) (g_MOST_CUPS : mg "MOST_CUPS" = some (.int 4 t4)) (c_is_wheel : Cal P w K mg base k "is_wheel" ["thing", "ends"] (spEnds wheelB))
    (c_is_within : Cal P w K mg base k "is_within" ["thing", "least", "most"] spWithin) (c_has_parts : Cal P w K mg base k "has_parts" ["thing", "least", "most"] spParts) : Cal P w K mg base (k + 1) "is_board" ["thing"] (spThing boardB) := by
  refine D.ok sc_is_board (fun vs H Q E h => ?_) (fun f cdv A outer s H vs Q E hr h => ?_)
  · obtain ⟨N, v, d, rfl, _⟩ := h
    rfl
  · obtain ⟨N, v, d, rfl, hd, q⟩ := h
    refine ⟨_, (pss_cons (ps_if (pt_not (pt_val (pe_cal c_has_parts hr rfl (pa_cons (pv 0) (pa_cons pe_int (pa_cons pe_int pa_nil))))))
  (pss_one (ps_ret pe_bl))
  pss_nil)
  (pss_cons (ps_asg (pv 0) (pg_tup rfl (pgs_cons (pg_name (i := 1) sc_is_board.nd rfl (Or.inl rfl)) (pgs_cons (pg_name (i := 2) sc_is_board.nd rfl (Or.inl rfl)) pgs_nil))))
  (pss_cons (ps_if (PW.pt (pw_or (pt_not (pt_val (pe_cal c_has_parts hr rfl (pa_cons (pv 1) (pa_cons pe_int (pa_cons (pe_gint rfl g_MOST_WHEELS) pa_nil)))))) (pw_or1 (pt_not (pt_val (pe_cal c_is_within hr rfl (pa_cons (pv 2) (pa_cons pe_int (pa_cons (pe_gint rfl g_MOST_CUPS) pa_nil)))))))))
  (pss_one (ps_ret pe_bl))
  pss_nil)
  (pss_cons (ps_set (i := 3) sc_is_board.nd rfl (Or.inr rfl) (pe_op op_add (pe_callB call_len_seq rfl B.len_ (by decide +kernel) (pa_cons (pv 1) pa_nil)) (pv 2)))
  (pss_one (ps_ret (pe_callB (cr_all rfl) rfl B.all_ (by decide +kernel) (pa_cons (pe_lc (own := [("wheel", 4)]) rfl sc_is_board.nd (pi_tup (pv 1)) (blkOk_by (N := ["thing", "wheels", "cups", "ends", "wheel"]) (sc := defScope s_is_board) (by decide +kernel)) (fun _ _ _ _ _ => (pg_name (i := 4) sc_is_board.nd rfl (Or.inl rfl))) (fun _ _ _ _ _ => pts_nil) (fun _ _ _ _ _ => (pe_cal c_is_wheel hr rfl (pa_cons (pv 4) (pa_cons (pv 3) pa_nil))))) pa_nil)))))))), ?_⟩
    refine ⟨v, rfl, N, v, d, 2, 2, rfl, hd, _, rfl, ?_⟩
    cases e : partsB d 2 2 with
    | false =>
      refine iteT ?_
      have q' := q H (Same.refl H)
      rw [boardB_no e] at q'
      exact q'
    | true =>
      refine iteF ?_
      obtain ⟨ds, rfl, h2, h3⟩ := parts_tup e
      obtain ⟨a, xs, rfl, ea, _, ha⟩ := hd.tupOf
      obtain ⟨dw, dc, rfl⟩ : ∃ dw dc, ds = [dw, dc] := by
        match ds, h2, h3 with
        | [x, y], _, _ => exact ⟨x, y, rfl⟩
        | [], h, _ => simp at h
        | [x], h, _ => simp at h
        | x :: y :: z :: r, _, h => simp at h; omega
      cases ha with
      | @cons vw vs1 _ _ hw hr1 =>
      cases hr1 with
      | @cons vc vs2 _ _ hc hr2 =>
      cases hr2
      -- wheels, cups = thing
      refine ⟨.ref a, rfl, a, [vw, vc], rfl, SqT.of ea, rfl, vw, [vc], rfl, vc, [], rfl, rfl, ?_⟩
      -- the test
      refine ⟨vw, rfl, N, vw, dw, 1, 6, rfl, hw, _, rfl, ?_⟩
      rw [boardB_two] at q
      cases e1 : partsB dw 1 6 with
      | false =>
        rw [e1] at q
        exact iteT (iteT (q H (Same.refl H)))
      | true =>
        refine iteF ⟨vc, rfl, N, vc, dc, 0, 4, rfl, hc, _, rfl, ?_⟩
        rw [e1] at q
        cases e2 : withinB dc 0 4 with
        | false =>
          rw [e2] at q
          exact iteT (q H (Same.refl H))
        | true =>
          rw [e2] at q
          refine iteF ?_
          obtain ⟨c, rfl, c0, c4⟩ := within_int e2
          obtain ⟨ws, rfl, w1, w6⟩ := parts_tup e1
          obtain ⟨b, ys, rfl, eb, _, hb⟩ := hw.tupOf
          cases hc
          -- ends = len(wheels) + cups
          refine ⟨.ref b, rfl, b, ys, rfl, .inr (SqT.of eb), .int c, rfl, ys.length, c, rfl, rfl, ?_⟩
          refine read_all (N := N) (ds := ws) (fun e => wheelB e ((ys.length : Int) + c)) rfl eb hb (by omega) (fun x d H' s' hx Q' q' => ?_) fun H' s' => ?_
          · exact ⟨x, rfl, .int ((ys.length : Int) + c), rfl, N, x, d, (ys.length : Int) + c, rfl, hx, q'⟩
          · rw [hb.len]
            exact q H' s'
end
end K03

set_option maxRecDepth 100000
set_option maxHeartbeats 4000000
namespace K03
open PySem PySem.Spec PyProof.Rows L2 HX
abbrev s__law_cell_at : Stmt := topS 48
theorem sc__law_cell_at : FnScope ["_law_script", "_law_k"] ["_law_script", "_law_k"] (defScope s__law_cell_at) := ⟨rfl, rfl, rfl, by decide +kernel, rfl, by decide +kernel, by decide +kernel⟩
abbrev s__law_pen : Stmt := topS 49
theorem sc__law_pen : FnScope ["_law_cell"] ["_law_cell"] (defScope s__law_pen) := ⟨rfl, rfl, rfl, by decide +kernel, rfl, by decide +kernel, by decide +kernel⟩
abbrev s__law_draw : Stmt := topS 50
theorem sc__law_draw : FnScope ["_law_pen_here", "_law_many", "_law_digit", "_law_stir"] ["_law_pen_here", "_law_many"] (defScope s__law_draw) := ⟨rfl, rfl, rfl, by decide +kernel, rfl, by decide +kernel, by decide +kernel⟩
/-- the pen: what is left of the cell's digits, its rest, how often it was stirred; m draws are left -/
def PenAt (H : Hp) (pn : Addr) (m : Nat) : Prop := ∃ p0 p1 p2 : Int, H pn = some (.lst [.int p0, .int p1, .int p2]) ∧ 0 ≤ p0 ∧ 0 ≤ p1 ∧ p1 < 1000000007 ∧ 0 ≤ p2 ∧ p2 + (m : Int) ≤ 1000000000
theorem PenAt.less {H : Hp} {pn : Addr} {m n : Nat} (h : PenAt H pn m) (hn : n ≤ m) : PenAt H pn n := by
  obtain ⟨p0, p1, p2, e, h0, h1, h2, h3, h4⟩ := h
  exact ⟨p0, p1, p2, e, h0, h1, h2, h3, by omega⟩
section
variable {P : Program} {w : World} {K : PySem.W.Frag} {mg : Str → Option Value} {base : Heap} {k : Nat}
/-! ### the script's cell, the pen -/
def spCell (K : PySem.W.Frag) : Sp := fun vs H Q _ => ∃ (a : Addr) (ns : List Int) (i : Nat), vs = [.ref a, .int i] ∧ SqL K H a (ns.map V.int) ∧ ∀ c, Q (.int c) H
theorem ok_cell_at (D : Def K mg "_law_cell_at" s__law_cell_at ["_law_script", "_law_k"]) (B : Bi mg) : Cal P w K mg base (k + 1) "_law_cell_at" ["_law_script", "_law_k"] (spCell K) := by
  refine D.ok sc__law_cell_at (fun vs H Q E h => ?_) (fun f cdv A outer s H vs Q E hr h => ?_)
  · obtain ⟨a, ns, i, rfl, _⟩ := h
    rfl
  · obtain ⟨a, ns, i, rfl, hS, q⟩ := h
    refine ⟨_, (pss_cons (ps_if (pt_cmpR op_lt (pv 1) (pe_callB call_len_seq rfl B.len_ (by decide +kernel) (pa_cons (pv 0) pa_nil)) (nomark _))
  (pss_one (ps_ret (pe_ix ix_list (pv 0) (pv 1) (fun _ _ => rfl))))
  pss_nil)
  (pss_one (ps_ret pe_int))), ?_⟩
    refine ⟨.int i, rfl, .ref a, rfl, a, ns.map V.int, rfl, .inl hS, i, _, rfl, rfl, _, rfl, ite2 (fun e => ?_) (fun e => ?_)⟩
    · have hl : i < ns.length := by
        have e' := of_decide_eq_true e
        rw [List.length_map] at e'
        omega
      refine ⟨.ref a, rfl, .int i, rfl, a, _, i, .int ns[i], rfl, rfl, hS, atI_nat ?_, q _⟩
      rw [List.getElem?_map, List.getElem?_eq_getElem hl]
      rfl
    · exact q 0
def spPen : Sp := fun vs H Q _ => ∃ c : Int, vs = [.int c] ∧ ∀ pn H', H pn = none → Same H H' → PenAt H' pn 1000000000 → Q (.ref pn) H'
theorem ok_pen (D : Def K mg "_law_pen" s__law_pen ["_law_cell"]) (B : Bi mg) : Cal P w K mg base (k + 1) "_law_pen" ["_law_cell"] spPen := by
  refine D.ok sc__law_pen (fun vs H Q E h => ?_) (fun f cdv A outer s H vs Q E hr h => ?_)
  · obtain ⟨c, rfl, _⟩ := h
    rfl
  · obtain ⟨c, rfl, q⟩ := h
    refine ⟨_, (pss_one (ps_ret (pe_lst (pa_cons (pe_callB (call_max2 rfl) rfl B.max_ (by decide +kernel) (pa_cons pe_int (pa_cons (pe_op op_sub (pv 0) (pe_op op_pow pe_int pe_int)) pa_nil))) (pa_cons (pe_op op_mod (pv 0) pe_int) (pa_cons pe_int pa_nil)))))), ?_⟩
    refine ⟨.int c, rfl, 10, 18, rfl, rfl, ⟨by decide, by decide, by decide⟩, c, _, rfl, rfl, 0, _, rfl, .int c, rfl, c, 1000000007, rfl, rfl, (by show (0 : Int) < 1000000007; decide), (by show 3 ≤ sizeLine; decide), fun p hp => ?_⟩
    refine q p _ hp (Same.new hp) ⟨_, _, 0, upd_same, ?_, ?_, ?_, by decide, by decide⟩
    · split <;> omega
    · exact Int.emod_nonneg _ (by decide)
    · exact Int.emod_lt_of_pos _ (by decide)
/-! ### a draw -/
def spDraw : Sp := fun vs H Q _ => ∃ (pn : Addr) (many : Int) (m : Nat), vs = [.ref pn, .int many] ∧ 0 < many ∧ many ≤ 1000000 ∧ PenAt H pn (m + 1) ∧
  ∀ (r : Int) (H' : Hp), 0 ≤ r → r < many → Kp (· = pn) H H' → PenAt H' pn m → Q (.int r) H'
theorem mulW_small {i j : Int} (hi : i.natAbs < 2 ^ 100) (hj : j.natAbs < 2 ^ 100) : CMulW i j := wide_mul hi hj (by decide) (by decide) (by decide)
theorem divW_small {i j : Int} (h0 : 0 < j) (hj : j ≤ 1000000) : CDivW i j := wide_div (b := 100) h0 (by omega) (by decide) (by decide)
theorem ok_draw (D : Def K mg "_law_draw" s__law_draw ["_law_pen_here", "_law_many"]) (B : Bi mg) : Cal P w K mg base (k + 1) "_law_draw" ["_law_pen_here", "_law_many"] spDraw := by
  refine D.ok sc__law_draw (fun vs H Q E h => ?_) (fun f cdv A outer s H vs Q E hr h => ?_)
  · obtain ⟨pn, many, m, rfl, _⟩ := h
    rfl
  · obtain ⟨pn, many, m, rfl, h0, h1, ⟨p0, p1, p2, e, hp0, hp1, hp1', hp2, hm⟩, q⟩ := h
    refine ⟨_, (pss_cons (ps_if (pt_cmpR op_gt (pe_ix ix_list (pv 0) pe_int (fun _ _ => rfl)) pe_int (nomark _))
  (pss_cons (ps_set (i := 2) sc__law_draw.nd rfl (Or.inl rfl) (pe_op op_mod (pe_ix ix_list (pv 0) pe_int (fun _ _ => rfl)) (pv 1)))
  (pss_cons (ps_asg (pe_op op_fdivW (pe_ix ix_list (pv 0) pe_int (fun _ _ => rfl)) (pv 1)) (pg_sub (pv 0) pe_int set_list))
  (pss_one (ps_ret (pv 2)))))
  pss_nil)
  (pss_cons (ps_asg (pe_op op_add (pe_ix ix_list (pv 0) pe_int (fun _ _ => rfl)) pe_int) (pg_sub (pv 0) pe_int set_list))
  (pss_cons (ps_set (i := 3) sc__law_draw.nd rfl (Or.inl rfl) (pe_op op_mod (pe_op op_mulW (pe_op op_add (pe_ix ix_list (pv 0) pe_int (fun _ _ => rfl)) (pe_op op_mulW pe_int (pe_ix ix_list (pv 0) pe_int (fun _ _ => rfl)))) (pe_op op_add pe_int (pe_op op_mulW pe_int (pe_ix ix_list (pv 0) pe_int (fun _ _ => rfl))))) pe_int))
  (pss_cons (ps_set (i := 3) sc__law_draw.nd rfl (Or.inl rfl) (pe_op op_mod (pe_op op_add (pe_op op_add (pe_op op_mulW (pv 3) (pv 3)) (pe_op op_mulW pe_int (pe_ix ix_list (pv 0) pe_int (fun _ _ => rfl)))) pe_int) pe_int))
  (pss_one (ps_ret (pe_op op_mod (pe_op op_fdivW (pe_op op_mod (pe_op op_mulW (pv 3) pe_int) pe_int) pe_int) (pv 1)))))))), ?_⟩
    refine ⟨.ref pn, rfl, pn, _, 0, _, rfl, rfl, SqL.of e, atI_nat (j := 0) rfl, p0, 0, rfl, rfl, _, rfl, ite2 (fun g => ?_) (fun g => ?_)⟩
    · have g' : 0 < p0 := of_decide_eq_true g
      refine ⟨.ref pn, rfl, pn, _, 0, _, rfl, rfl, SqL.of e, atI_nat (j := 0) rfl, .int many, rfl, p0, many, rfl, rfl, h0, ?_⟩
      refine ⟨.ref pn, rfl, pn, _, 0, _, rfl, rfl, SqL.of e, atI_nat (j := 0) rfl, .int many, rfl, p0, many, rfl, rfl, divW_small h0 h1, .ref pn, rfl, pn, _, 0, 0, rfl, rfl, e, rfl, ?_⟩
      refine ⟨.int (p0 % many), rfl, q _ _ (Int.emod_nonneg _ (by omega)) (Int.emod_lt_of_pos _ h0) (Kp.put rfl) ?_⟩
      exact ⟨_, p1, p2, upd_same, Int.ediv_nonneg hp0 (by omega), hp1, hp1', hp2, by omega⟩
    · refine ⟨.ref pn, rfl, pn, _, 2, _, rfl, rfl, SqL.of e, atI_nat (j := 2) rfl, p2, 1, rfl, rfl, .ref pn, rfl, pn, _, 2, 2, rfl, rfl, e, rfl, ?_⟩
      have e' : upd H pn (.lst ([V.int p0, .int p1, .int p2].set 2 (.int (p2 + 1)))) pn = some (.lst [V.int p0, .int p1, .int (p2 + 1)]) := upd_same
      generalize hH : upd H pn (.lst ([V.int p0, .int p1, .int p2].set 2 (.int (p2 + 1)))) = H1 at e'
      have k1 : Kp (· = pn) H H1 := by
        rw [← hH]
        exact Kp.put rfl
      refine ⟨.ref pn, rfl, pn, _, 1, _, rfl, rfl, SqL.of e', atI_nat (j := 1) rfl, .ref pn, rfl, pn, _, 2, _, rfl, rfl, SqL.of e', atI_nat (j := 2) rfl, 17, p2 + 1, rfl, rfl, mulW_small (by decide) (by omega), p1, _, rfl, rfl,
        .ref pn, rfl, pn, _, 2, _, rfl, rfl, SqL.of e', atI_nat (j := 2) rfl, 2, p2 + 1, rfl, rfl, mulW_small (by decide) (by omega), 69621, _, rfl, rfl, _, _, rfl, rfl, mulW_small (by omega) (by omega), _, 2147483647, rfl, rfl, (by show (0 : Int) < 2147483647; decide), ?_⟩
      show tSeq _ _ _ (List.set _ 3 (some (V.int ((p1 + 17 * (p2 + 1)) * (69621 + 2 * (p2 + 1)) % 2147483647)))) H1
      generalize hz : (p1 + 17 * (p2 + 1)) * (69621 + 2 * (p2 + 1)) % 2147483647 = z
      have z0 : 0 ≤ z := by
        rw [← hz]
        exact Int.emod_nonneg _ (by decide)
      have z1 : z < 2147483647 := by
        rw [← hz]
        exact Int.emod_lt_of_pos _ (by decide)
      have zz : z * z ≤ 2147483647 * 2147483647 := Int.mul_le_mul (by omega) (by omega) z0 (by decide)
      have zz0 : 0 ≤ z * z := Int.mul_nonneg z0 z0
      refine ⟨.int z, rfl, .int z, rfl, z, z, rfl, rfl, mulW_small (by omega) (by omega), .ref pn, rfl, pn, _, 2, _, rfl, rfl, SqL.of e', atI_nat (j := 2) rfl, 40503, p2 + 1, rfl, rfl, mulW_small (by decide) (by omega), _, _, rfl, rfl, _, 5, rfl, rfl, _, 2147483629, rfl, rfl, (by show (0 : Int) < 2147483629; decide), ?_⟩
      show gName 3 (V.int ((z * z + 40503 * (p2 + 1) + 5) % 2147483629)) _ H1 _
      generalize hy : (z * z + 40503 * (p2 + 1) + 5) % 2147483629 = y
      have y0 : 0 ≤ y := by
        rw [← hy]
        exact Int.emod_nonneg _ (by decide)
      have y1 : y < 2147483629 := by
        rw [← hy]
        exact Int.emod_lt_of_pos _ (by decide)
      refine ⟨.int y, rfl, y, 48271, rfl, rfl, mulW_small (by omega) (by decide), _, 2147483647, rfl, rfl, (by show (0 : Int) < 2147483647; decide), _, 32, rfl, rfl, divW_small (by decide) (by decide), .int many, rfl, _, many, rfl, rfl, h0, ?_⟩
      refine q _ _ (Int.emod_nonneg _ (by omega)) (Int.emod_lt_of_pos _ h0) k1 ?_
      exact ⟨p0, p1, p2 + 1, e', hp0, hp1, hp1', by omega, by omega⟩
end
end K03

set_option maxRecDepth 100000
set_option maxHeartbeats 4000000
namespace K03
open PySem PySem.Spec PyProof.Rows L2 HX
abbrev s__law_board : Stmt := topS 54
theorem sc__law_board : FnScope ["_law_pen_here", "_law_most", "_law_many", "_law_cups", "_law_wheels", "_law_wheel", "_law_steps", "_law_turn", "_law_ends", "_law_lap", "_law_far"] ["_law_pen_here", "_law_most"] (defScope s__law_board) := ⟨rfl, rfl, rfl, by decide +kernel, rfl, by decide +kernel, by decide +kernel⟩
theorem PenAt.list {H : Hp} {pn : Addr} {m : Nat} (h : PenAt H pn m) : ∃ xs, H pn = some (.lst xs) := by
  obtain ⟨p0, p1, p2, e, _⟩ := h
  exact ⟨_, e⟩
theorem PenAt.new {H : Hp} {pn p : Addr} {m : Nat} {o : HO} (h : PenAt H pn m) (hp : H p = none) : PenAt (upd H p o) pn m := by
  obtain ⟨p0, p1, p2, e, r⟩ := h
  exact ⟨p0, p1, p2, by rw [upd_ne (ne_of_none e hp)]; exact e, r⟩
theorem PenAt.ne {H : Hp} {pn p : Addr} {m : Nat} (h : PenAt H pn m) (hp : H p = none) : p ≠ pn := by
  obtain ⟨xs, e⟩ := h.list
  exact (ne_of_none e hp).symm
theorem PenAt.put {H : Hp} {pn p : Addr} {m : Nat} {o : HO} (h : PenAt H pn m) (hp : p ≠ pn) : PenAt (upd H p o) pn m := by
  obtain ⟨p0, p1, p2, e, r⟩ := h
  exact ⟨p0, p1, p2, by rw [upd_ne hp.symm]; exact e, r⟩
theorem PenAt.kt {H H' : Hp} {pn : Addr} {m : Nat} (h : PenAt H pn m) (k : Kp (· = pn) H H') : KT H H' := by
  obtain ⟨xs, e⟩ := h.list
  exact KT.kp e k
theorem PenAt.same {H H' : Hp} {pn : Addr} {m : Nat} (h : PenAt H pn m) (s : Same H H') : PenAt H' pn m := by
  obtain ⟨p0, p1, p2, e, r⟩ := h
  exact ⟨p0, p1, p2, s _ _ e, r⟩
theorem PenAt.netup {H : Hp} {pn p : Addr} {m : Nat} {xs : List V} (h : PenAt H pn m) (e : H p = some (.tup xs)) : ¬ (p = pn) := by
  obtain ⟨ys, e'⟩ := h.list
  exact ne_of e e' (fun z => by cases z)
section
variable {P : Program} {w : World} {K : PySem.W.Frag} {mg : Str → Option Value} {base : Heap} {k : Nat}
/-! ### a board is drawn -/
def spBoard : Sp := fun vs H Q _ => ∃ (pn : Addr) (most : Int) (m : Nat), vs = [.ref pn, .int most] ∧ 1 ≤ most ∧ most ≤ 6 ∧ PenAt H pn (m + 200) ∧
  ∀ (v : V) (ws : List (List (List Int))) (c : Int) (H' : Hp), BoardOk ws c → (ws.length : Int) ≤ most → c ≤ 3 → Td H' v (boardD ws c) → Kp (· = pn) H H' → PenAt H' pn m → Q v H'
theorem ok_board (D : Def K mg "_law_board" s__law_board ["_law_pen_here", "_law_most"]) (B : Bi mg) (c__law_draw : Cal P w K mg base k "_law_draw" ["_law_pen_here", "_law_many"] spDraw) : Cal P w K mg base (k + 1) "_law_board" ["_law_pen_here", "_law_most"] spBoard := by
  refine D.ok sc__law_board (fun vs H Q E h => ?_) (fun f cdv A outer s H vs Q E hr h => ?_)
  · obtain ⟨pn, most, m, rfl, _⟩ := h
    rfl
  · obtain ⟨pn, most, m, rfl, h1, h6, pen, q⟩ := h
    refine ⟨_, (pss_cons (ps_par (i := 2) (j := 3) (by rfl) sc__law_board.nd rfl rfl (by decide) rfl rfl (pa_cons (pe_op op_add pe_int (pe_cal c__law_draw hr rfl (pa_cons (pv 0) (pa_cons (pv 1) pa_nil)))) (pa_cons (pe_cal c__law_draw hr rfl (pa_cons (pv 0) (pa_cons pe_int pa_nil))) pa_nil)) (by rfl))
  (pss_cons (ps_set (i := 4) sc__law_board.nd rfl (Or.inl rfl) (pe_lst pa_nil))
  (pss_cons (ps_for PassesOwn.never rfl (pi_range1 rfl B.range_ (pa_cons (pv 2) pa_nil)) (pg_name (i := 5) sc__law_board.nd rfl (Or.inl rfl))
  (pss_cons (ps_set (i := 6) sc__law_board.nd rfl (Or.inl rfl) (pe_lst pa_nil))
  (pss_cons (ps_for PassesOwn.never rfl (pi_range1 rfl B.range_ (pa_cons (pe_op op_add pe_int (pe_cal c__law_draw hr rfl (pa_cons (pv 0) (pa_cons pe_int pa_nil)))) pa_nil)) (pg_name (i := 7) sc__law_board.nd rfl (Or.inl rfl))
  (pss_cons (ps_set (i := 8) sc__law_board.nd rfl (Or.inl rfl) (pe_lst pa_nil))
  (pss_cons (ps_for PassesOwn.never rfl (pi_range1 rfl B.range_ (pa_cons (pe_ix ix_list (pe_lst (pa_cons pe_int (pa_cons pe_int (pa_cons pe_int (pa_cons pe_int (pa_cons pe_int pa_nil)))))) (pe_cal c__law_draw hr rfl (pa_cons (pv 0) (pa_cons pe_int pa_nil))) (fun _ _ => rfl)) pa_nil)) (pg_name (i := 9) sc__law_board.nd rfl (Or.inl rfl))
  (pss_cons (ps_set (i := 10) sc__law_board.nd rfl (Or.inl rfl) (pe_ifExp (pt_cmpR op_gt (pe_cal c__law_draw hr rfl (pa_cons (pv 0) (pa_cons pe_int pa_nil))) pe_int (nomark _)) (pe_op op_add (pe_op op_add (pv 5) pe_int) (pe_cal c__law_draw hr rfl (pa_cons (pv 0) (pa_cons pe_int pa_nil)))) (pe_cal c__law_draw hr rfl (pa_cons (pv 0) (pa_cons (pe_op op_add (pv 2) (pv 3)) pa_nil)))))
  (pss_one (ps_expr (pe_bm PySem.F.plainAttrs_list PySem.F.slot_list_append PySem.F.type_list_append mt_append (pv 8) (pa_cons (pe_callB (call_min2 rfl) rfl B.min_ (by decide +kernel) (pa_cons (pv 10) (pa_cons (pe_callB (call_max2 rfl) rfl B.max_ (by decide +kernel) (pa_cons pe_int (pa_cons (pe_op op_sub (pe_op op_add (pv 2) (pv 3)) pe_int) pa_nil))) pa_nil))) pa_nil))))))
  (pss_one (ps_expr (pe_bm PySem.F.plainAttrs_list PySem.F.slot_list_append PySem.F.type_list_append mt_append (pv 6) (pa_cons (pe_callTy call_tuple_of rfl B.tuple_ (by decide +kernel) (pa_cons (pv 8) pa_nil)) pa_nil)))))))
  (pss_one (ps_expr (pe_bm PySem.F.plainAttrs_list PySem.F.slot_list_append PySem.F.type_list_append mt_append (pv 4) (pa_cons (pe_callTy call_tuple_of rfl B.tuple_ (by decide +kernel) (pa_cons (pv 6) pa_nil)) pa_nil)))))))
  (pss_one (ps_ret (pe_tup (pa_cons (pe_callTy call_tuple_of rfl B.tuple_ (by decide +kernel) (pa_cons (pv 4) pa_nil)) (pa_cons (pv 3) pa_nil)))))))), ?_⟩
    -- many, cups
    refine ⟨.ref pn, rfl, .int most, rfl, pn, most, m + 199, rfl, by omega, by omega, pen, fun r1 H1 r10 r11 k1 pen1 => ⟨1, r1, rfl, rfl, .ref pn, rfl, pn, 4, m + 198, rfl, by decide, by decide, pen1, fun c H2 c0 c4 k2 pen2 => ⟨_, _, rfl, ?_⟩⟩⟩
    have k02 := k1.trans k2
    -- wheels = []
    refine ⟨by show 0 ≤ sizeLine; decide, fun Lw nw => ?_⟩
    have nwp := pen2.ne nw
    have nw0 : H Lw = none ∨ Lw = pn := by
      cases e : H Lw with
      | none => exact .inl rfl
      | some o =>
        by_cases z : Lw = pn
        · exact .inr z
        · rw [k02 _ _ e z] at nw
          cases nw
    have nwH : H Lw = none := nw0.resolve_right nwp
    -- the wheels
    refine ⟨.int (1 + r1), rfl, 1 + r1, rfl, by omega, by omega, for_range (n := (1 + r1).toNat) (fun i σ H' => ∃ (xs : List V) (ws : List (List (List Int))) (y5 y6 y7 y8 y9 y10 : Option V),
      σ = [some (.ref pn), some (.int most), some (.int (1 + r1)), some (.int c), some (.ref Lw), y5, y6, y7, y8, y9, y10] ∧ Kp (· = pn) H H' ∧ PenAt H' pn (m + 29 * (6 - i)) ∧ H' Lw = some (.lst xs) ∧ TdAll H' xs (ws.map wheelD) ∧ ws.length = i ∧
      ∀ w ∈ ws, WheelOk (1 + r1 + c) w) ?_ (fun i σ H3 hi p => ?_) (fun σ H3 p => ?_)⟩
    · exact ⟨[], [], none, none, none, none, none, none, rfl, k02.mut nwH, (pen2.new nw).less (by omega), upd_same, .nil, rfl, fun w hw => nomatch hw⟩
    · obtain ⟨xs, ws, y5, y6, y7, y8, y9, y10, rfl, k3, pen3, eLw, tws, hlen, hok⟩ := p
      -- steps = []
      refine ⟨by show 0 ≤ sizeLine; decide, fun Ls ns => ?_⟩
      have nsp := pen3.ne ns
      have nsw : Ls ≠ Lw := (ne_of_none eLw ns).symm
      have pen4 := pen3.new (o := .lst []) ns
      have nsH : H Ls = none := by
        cases e : H Ls with
        | none => rfl
        | some o =>
          rw [k3 _ _ e nsp] at ns
          cases ns
      -- how many steps
      refine ⟨.ref pn, rfl, pn, 4, m + 29 * (5 - i) + 28, rfl, by decide, by decide, pen4.less (by omega), fun r2 H5 r20 r21 k5 pen5 => ?_⟩
      have eLs5 : H5 Ls = some (.lst []) := k5 _ _ upd_same nsp
      have eLw5 : H5 Lw = some (.lst xs) := k5 _ _ (by rw [upd_ne nsw.symm]; exact eLw) nwp
      have tws5 : TdAll H5 xs (ws.map wheelD) := TdAll.mono ((KT.new ns).trans (pen4.kt k5)) _ _ tws
      have k05 : Kp (· = pn) H H5 := (k3.mut nsH).trans k5
      refine ⟨1, r2, rfl, rfl, 1 + r2, rfl, by omega, by omega, for_range (n := (1 + r2).toNat) (fun j σ H' => ∃ (zs : List V) (ss : List (List Int)) (y7 y8 y9 y10 : Option V),
        σ = [some (.ref pn), some (.int most), some (.int (1 + r1)), some (.int c), some (.ref Lw), some (.int (0 + (i : Int))), some (.ref Ls), y7, y8, y9, y10] ∧ Kp (· = pn) H H' ∧ PenAt H' pn (m + 29 * (5 - i) + 7 * (4 - j)) ∧ H' Lw = some (.lst xs) ∧ TdAll H' xs (ws.map wheelD) ∧
        H' Ls = some (.lst zs) ∧ TdAll H' zs (ss.map stepD) ∧ ss.length = j ∧ ∀ s ∈ ss, EndsOk (1 + r1 + c) s) ?_ (fun j σ H6 hj p => ?_) (fun σ H6 p => ?_)⟩
      · exact ⟨[], [], y7, y8, y9, y10, rfl, k05, pen5.less (by omega), eLw5, tws5, eLs5, .nil, rfl, fun s hs => nomatch hs⟩
      · obtain ⟨zs, ss, y7, y8, y9, y10, rfl, k6, pen6, eLw6, tws6, eLs6, tss6, slen, sok⟩ := p
        -- ends = []
        refine ⟨by show 0 ≤ sizeLine; decide, fun Le ne => ?_⟩
        have nep := pen6.ne ne
        have newL : Le ≠ Lw := (ne_of_none eLw6 ne).symm
        have nesL : Le ≠ Ls := (ne_of_none eLs6 ne).symm
        have pen7 := pen6.new (o := .lst []) ne
        have neH : H Le = none := by
          cases e : H Le with
          | none => rfl
          | some o =>
            rw [k6 _ _ e nep] at ne
            cases ne
        -- how many ends: the written list, the draw
        refine ⟨by show 5 ≤ sizeLine; decide, fun Lx nx => ?_⟩
        have nxp := pen7.ne nx
        have pen8 := pen7.new (o := .lst [V.int 0, .int 1, .int 1, .int 2, .int 3]) nx
        have nxe : Lx ≠ Le := (ne_of_none upd_same nx).symm
        have nxw : Lx ≠ Lw := fun z => by
          rw [z, upd_ne newL.symm, eLw6] at nx
          cases nx
        have nxs : Lx ≠ Ls := fun z => by
          rw [z, upd_ne nesL.symm, eLs6] at nx
          cases nx
        refine ⟨.ref pn, rfl, pn, 5, m + 29 * (5 - i) + 7 * (3 - j) + 6, rfl, by decide, by decide, pen8.less (by omega), fun r3 H9 r30 r31 k9 pen9 => ?_⟩
        have eLx9 : H9 Lx = some (.lst [V.int 0, .int 1, .int 1, .int 2, .int 3]) := k9 _ _ upd_same nxp
        have eLe9 : H9 Le = some (.lst []) := k9 _ _ (by rw [upd_ne nxe.symm]; exact upd_same) nep
        have eLw9 : H9 Lw = some (.lst xs) := k9 _ _ (by rw [upd_ne nxw.symm, upd_ne newL.symm]; exact eLw6) nwp
        have eLs9 : H9 Ls = some (.lst zs) := k9 _ _ (by rw [upd_ne nxs.symm, upd_ne nesL.symm]; exact eLs6) nsp
        have kt9 : KT H6 H9 := ((KT.new ne).trans (KT.new nx)).trans (pen8.kt k9)
        have nxH : H Lx = none := by
          cases e : H Lx with
          | none => rfl
          | some o =>
            rw [(k6.mut neH) _ _ e nxp] at nx
            cases nx
        have k09 : Kp (· = pn) H H9 := ((k6.mut neH).mut nxH).trans k9
        obtain ⟨cnt, hcnt, c30, c33⟩ : ∃ cnt : Int, atI [V.int 0, .int 1, .int 1, .int 2, .int 3] r3 = some (.int cnt) ∧ 0 ≤ cnt ∧ cnt ≤ 3 := by
          obtain ⟨n, rfl⟩ : ∃ n : Nat, r3 = (n : Int) := ⟨r3.toNat, by omega⟩
          match n, r31 with
          | 0, _ => exact ⟨0, atI_nat (j := 0) rfl, by decide, by decide⟩
          | 1, _ => exact ⟨1, atI_nat (j := 1) rfl, by decide, by decide⟩
          | 2, _ => exact ⟨1, atI_nat (j := 2) rfl, by decide, by decide⟩
          | 3, _ => exact ⟨2, atI_nat (j := 3) rfl, by decide, by decide⟩
          | 4, _ => exact ⟨3, atI_nat (j := 4) rfl, by decide, by decide⟩
          | n + 5, h => exact absurd h (by omega)
        refine ⟨Lx, _, r3, .int cnt, rfl, rfl, SqL.of eLx9, hcnt, cnt, rfl, by omega, by omega, for_range (n := cnt.toNat) (fun l σ H' => ∃ (es : List Int) (y9 y10 : Option V),
          σ = [some (.ref pn), some (.int most), some (.int (1 + r1)), some (.int c), some (.ref Lw), some (.int (0 + (i : Int))), some (.ref Ls), some (.int (0 + (j : Int))), some (.ref Le), y9, y10] ∧ Kp (· = pn) H H' ∧
          PenAt H' pn (m + 29 * (5 - i) + 7 * (3 - j) + 2 * (3 - l)) ∧ H' Lw = some (.lst xs) ∧ TdAll H' xs (ws.map wheelD) ∧ H' Ls = some (.lst zs) ∧ TdAll H' zs (ss.map stepD) ∧ H' Le = some (.lst (es.map V.int)) ∧ es.length = l ∧ ∀ e ∈ es, 0 ≤ e ∧ e < 1 + r1 + c) ?_ (fun l σ H10 hl p => ?_) (fun σ H10 p => ?_)⟩
        · exact ⟨[], y9, y10, rfl, k09, pen9.less (by omega), eLw9, TdAll.mono kt9 _ _ tws6, eLs9, TdAll.mono kt9 _ _ tss6, eLe9, rfl, fun e he => nomatch he⟩
        · obtain ⟨es, y9, y10, rfl, k10, pen10, eLw10, tws10, eLs10, tss10, eLe10, elen, eok⟩ := p
          -- far
          refine ⟨.ref pn, rfl, pn, 4, m + 29 * (5 - i) + 7 * (3 - j) + 2 * (2 - l) + 1, rfl, by decide, by decide, pen10.less (by omega), fun r4 H11 r40 r41 k11 pen11 => ?_⟩
          have fin : ∀ (far : Int) (H12 : Hp), 0 ≤ far → Kp (· = pn) H11 H12 → PenAt H12 pn (m + 29 * (5 - i) + 7 * (3 - j) + 2 * (2 - l)) →
              ∃ (es' : List Int) (y9 y10 : Option V), [some (V.ref pn), some (.int most), some (.int (1 + r1)), some (.int c), some (.ref Lw), some (.int (0 + (i : Int))), some (.ref Ls), some (.int (0 + (j : Int))), some (.ref Le), some (.int (0 + (l : Int))), some (.int far)] =
                [some (.ref pn), some (.int most), some (.int (1 + r1)), some (.int c), some (.ref Lw), some (.int (0 + (i : Int))), some (.ref Ls), some (.int (0 + (j : Int))), some (.ref Le), y9, y10] ∧
                Kp (· = pn) H (upd H12 Le (.lst (es.map V.int ++ [.int (if (if (1 + r1 + c - 1 : Int) > 0 then 1 + r1 + c - 1 else 0) < far then (if (1 + r1 + c - 1 : Int) > 0 then 1 + r1 + c - 1 else 0) else far)]))) ∧
                PenAt (upd H12 Le (.lst (es.map V.int ++ [.int (if (if (1 + r1 + c - 1 : Int) > 0 then 1 + r1 + c - 1 else 0) < far then (if (1 + r1 + c - 1 : Int) > 0 then 1 + r1 + c - 1 else 0) else far)]))) pn (m + 29 * (5 - i) + 7 * (3 - j) + 2 * (3 - (l + 1))) ∧
                upd H12 Le (.lst (es.map V.int ++ [.int (if (if (1 + r1 + c - 1 : Int) > 0 then 1 + r1 + c - 1 else 0) < far then (if (1 + r1 + c - 1 : Int) > 0 then 1 + r1 + c - 1 else 0) else far)])) Lw = some (.lst xs) ∧
                TdAll (upd H12 Le (.lst (es.map V.int ++ [.int (if (if (1 + r1 + c - 1 : Int) > 0 then 1 + r1 + c - 1 else 0) < far then (if (1 + r1 + c - 1 : Int) > 0 then 1 + r1 + c - 1 else 0) else far)]))) xs (ws.map wheelD) ∧
                upd H12 Le (.lst (es.map V.int ++ [.int (if (if (1 + r1 + c - 1 : Int) > 0 then 1 + r1 + c - 1 else 0) < far then (if (1 + r1 + c - 1 : Int) > 0 then 1 + r1 + c - 1 else 0) else far)])) Ls = some (.lst zs) ∧
                TdAll (upd H12 Le (.lst (es.map V.int ++ [.int (if (if (1 + r1 + c - 1 : Int) > 0 then 1 + r1 + c - 1 else 0) < far then (if (1 + r1 + c - 1 : Int) > 0 then 1 + r1 + c - 1 else 0) else far)]))) zs (ss.map stepD) ∧
                upd H12 Le (.lst (es.map V.int ++ [.int (if (if (1 + r1 + c - 1 : Int) > 0 then 1 + r1 + c - 1 else 0) < far then (if (1 + r1 + c - 1 : Int) > 0 then 1 + r1 + c - 1 else 0) else far)])) Le = some (.lst (es'.map V.int)) ∧ es'.length = l + 1 ∧ ∀ e ∈ es', 0 ≤ e ∧ e < 1 + r1 + c := by
            intro far H12 f0 k12 pen12
            generalize hz : (if (if (1 + r1 + c - 1 : Int) > 0 then 1 + r1 + c - 1 else 0) < far then (if (1 + r1 + c - 1 : Int) > 0 then 1 + r1 + c - 1 else 0) else far) = z
            have z0 : 0 ≤ z ∧ z < 1 + r1 + c := by
              rw [← hz]
              split <;> split <;> omega
            have k1112 := k11.trans k12
            have eLe12 := k1112 _ _ eLe10 nep
            have kt12 : KT H10 (upd H12 Le (.lst (es.map V.int ++ [.int z]))) := (pen10.kt k1112).trans (KT.put eLe12)
            refine ⟨es ++ [z], some (.int (0 + (l : Int))), some (.int far), rfl, (k10.trans k1112).mut neH, (pen12.put nep).less (by omega), ?_, TdAll.mono kt12 _ _ tws10, ?_, TdAll.mono kt12 _ _ tss10, ?_, ?_, fun e he => ?_⟩
            · rw [upd_ne newL.symm]
              exact k1112 _ _ eLw10 nwp
            · rw [upd_ne nesL.symm]
              exact k1112 _ _ eLs10 nsp
            · rw [upd_same, List.map_append]
              rfl
            · rw [List.length_append, elen]
              rfl
            · rcases List.mem_append.mp he with he | he
              · exact eok e he
              · rw [List.mem_singleton.mp he]
                exact z0
          have small : (es.map V.int).length < sizeLine := by
            rw [List.length_map]
            exact small1000 (by omega)
          refine ⟨r4, 0, rfl, rfl, _, rfl, ite2 (fun g => ?_) (fun g => ?_)⟩
          · refine ⟨.int (0 + (i : Int)), rfl, _, 1, rfl, rfl, .ref pn, rfl, pn, 3, _, rfl, by decide, by decide, pen11, fun r5 H12 r50 r51 k12 pen12 => ⟨_, r5, rfl, rfl, ?_⟩⟩
            have eLe12 := (k11.trans k12) _ _ eLe10 nep
            refine ⟨.ref Le, rfl, .inl ⟨rfl, _, SqL.of eLe12⟩, _, rfl, .int (1 + r1), rfl, .int c, rfl, _, c, rfl, rfl, _, 1, rfl, rfl, 0, _, rfl, _, _, rfl, Le, _, _, rfl, rfl, eLe12, small, ?_⟩
            exact fin _ H12 (by omega) k12 pen12
          · refine ⟨.ref pn, rfl, .int (1 + r1), rfl, .int c, rfl, _, c, rfl, rfl, pn, _, _, rfl, (by show (0 : Int) < 1 + r1 + c; omega), (by show 1 + r1 + c ≤ (1000000 : Int); omega), pen11, fun r5 H12 r50 r51 k12 pen12 => ?_⟩
            have eLe12 := (k11.trans k12) _ _ eLe10 nep
            refine ⟨.ref Le, rfl, .inl ⟨rfl, _, SqL.of eLe12⟩, _, rfl, .int (1 + r1), rfl, .int c, rfl, _, c, rfl, rfl, _, 1, rfl, rfl, 0, _, rfl, _, _, rfl, Le, _, _, rfl, rfl, eLe12, small, ?_⟩
            exact fin _ H12 r50 k12 pen12
        · -- steps.append(tuple(ends))
          obtain ⟨es, y9, y10, rfl, k10, pen10, eLw10, tws10, eLs10, tss10, eLe10, elen, eok⟩ := p
          have small : zs.length < sizeLine := by
            rw [tss6.len, List.length_map]
            exact small1000 (by omega)
          refine ⟨.ref Ls, rfl, .inl ⟨rfl, _, SqL.of eLs10⟩, .ref Le, rfl, Le, _, rfl, .inl ⟨SqL.of eLe10, fun T nT => ⟨Ls, zs, .ref T, rfl, rfl, ?_, small, ?_⟩⟩⟩
          · rw [upd_ne (ne_of_none eLs10 nT)]
            exact eLs10
          · have nTp := pen10.ne nT
            have nTs : Ls ≠ T := ne_of_none eLs10 nT
            have nTw : Lw ≠ T := ne_of_none eLw10 nT
            have nTH : H T = none := by
              cases e : H T with
              | none => rfl
              | some o =>
                rw [k10 _ _ e nTp] at nT
                cases nT
            have eLsT : (upd H10 T (.tup (es.map V.int))) Ls = some (.lst zs) := by
              rw [upd_ne nTs]
              exact eLs10
            have ktT : KT H10 (upd (upd H10 T (.tup (es.map V.int))) Ls (.lst (zs ++ [.ref T]))) := (KT.new nT).trans (KT.put eLsT)
            refine ⟨zs ++ [.ref T], ss ++ [es], some (.int (0 + (j : Int))), some (.ref Le), y9, y10, rfl, (k10.mut nTH).mut nsH, ((pen10.new nT).put nsp).less (by omega), ?_, TdAll.mono ktT _ _ tws10, upd_same, ?_, ?_, fun s hs => ?_⟩
            · rw [upd_ne nsw.symm, upd_ne nTw]
              exact eLw10
            · rw [List.map_append]
              exact (TdAll.mono ktT _ _ tss10).snoc (Td.mono (KT.put eLsT) _ _ (Td.new nT (TdAll.ints es)))
            · rw [List.length_append, slen]
              rfl
            · rcases List.mem_append.mp hs with hs | hs
              · exact sok s hs
              · rw [List.mem_singleton.mp hs]
                exact ⟨by omega, eok⟩
      · -- wheels.append(tuple(steps))
        obtain ⟨zs, ss, y7, y8, y9, y10, rfl, k6, pen6, eLw6, tws6, eLs6, tss6, slen, sok⟩ := p
        have small : xs.length < sizeLine := by
          rw [tws.len, List.length_map]
          exact small1000 (by omega)
        refine ⟨.ref Lw, rfl, .inl ⟨rfl, _, SqL.of eLw6⟩, .ref Ls, rfl, Ls, _, rfl, .inl ⟨SqL.of eLs6, fun T nT => ⟨Lw, xs, .ref T, rfl, rfl, ?_, small, ?_⟩⟩⟩
        · rw [upd_ne (ne_of_none eLw6 nT)]
          exact eLw6
        · have nTp := pen6.ne nT
          have nTw : Lw ≠ T := ne_of_none eLw6 nT
          have nTH : H T = none := by
            cases e : H T with
            | none => rfl
            | some o =>
              rw [k6 _ _ e nTp] at nT
              cases nT
          have eLwT : (upd H6 T (.tup zs)) Lw = some (.lst xs) := by
            rw [upd_ne nTw]
            exact eLw6
          have ktT : KT H6 (upd (upd H6 T (.tup zs)) Lw (.lst (xs ++ [.ref T]))) := (KT.new nT).trans (KT.put eLwT)
          refine ⟨xs ++ [.ref T], ws ++ [ss], some (.int (0 + (i : Int))), some (.ref Ls), y7, y8, y9, y10, rfl, (k6.mut nTH).mut nwH, ((pen6.new nT).put nwp).less (by omega), upd_same, ?_, ?_, fun w hw => ?_⟩
          · rw [List.map_append]
            exact (TdAll.mono ktT _ _ tws6).snoc (Td.mono (KT.put eLwT) _ _ (Td.new nT tss6))
          · rw [List.length_append, hlen]
            rfl
          · rcases List.mem_append.mp hw with hw | hw
            · exact hok w hw
            · rw [List.mem_singleton.mp hw]
              exact ⟨by omega, by omega, sok⟩
    · -- (tuple(wheels), cups)
      obtain ⟨xs, ws, y5, y6, y7, y8, y9, y10, rfl, k3, pen3, eLw, tws, hlen, hok⟩ := p
      refine ⟨.ref Lw, rfl, Lw, _, rfl, .inl ⟨SqL.of eLw, fun T nT => ⟨.int c, rfl, by show 2 ≤ sizeLine; decide, fun U nU => ?_⟩⟩⟩
      have nTp := pen3.ne nT
      have pen4 := pen3.new (o := .tup xs) nT
      have nUp := pen4.ne nU
      have nTH : H T = none := by
        cases e : H T with
        | none => rfl
        | some o =>
          rw [k3 _ _ e nTp] at nT
          cases nT
      have nUH : H U = none := by
        cases e : H U with
        | none => rfl
        | some o =>
          rw [(k3.mut nTH) _ _ e nUp] at nU
          cases nU
      have el : (ws.length : Int) = 1 + r1 := by omega
      refine q (.ref U) ws c _ ⟨by omega, by omega, c0, by omega, fun w hw => ?_⟩ (by omega) (by omega) ?_ ((k3.mut nTH).mut nUH) ((pen4.new nU).less (by omega))
      · rw [el]
        exact hok w hw
      · exact Td.new nU (.cons (Td.new nT tws) (.cons (.int c) .nil))
end
end K03

set_option maxRecDepth 100000
set_option maxHeartbeats 1000000
namespace K03
open PySem PySem.Spec PyProof.Rows L2 HX
abbrev s_need_board : Stmt := topS 34
theorem sc_need_board : FnScope ["thing"] ["thing"] (defScope s_need_board) := ⟨rfl, rfl, rfl, by decide +kernel, rfl, by decide +kernel, by decide +kernel⟩
abbrev s_is_stand : Stmt := topS 35
theorem sc_is_stand : FnScope ["board", "thing", "wheels", "step", "wheel"] ["board", "thing"] (defScope s_is_stand) := ⟨rfl, rfl, rfl, by decide +kernel, rfl, by decide +kernel, by decide +kernel⟩
abbrev s_are_marbles : Stmt := topS 36
theorem sc_are_marbles : FnScope ["thing", "places", "many"] ["thing", "places"] (defScope s_are_marbles) := ⟨rfl, rfl, rfl, by decide +kernel, rfl, by decide +kernel, by decide +kernel⟩
abbrev s_is_moment : Stmt := topS 37
theorem sc_is_moment : FnScope ["board", "thing", "wheels", "cups", "stand", "waiting", "held"] ["board", "thing"] (defScope s_is_moment) := ⟨rfl, rfl, rfl, by decide +kernel, rfl, by decide +kernel, by decide +kernel⟩
abbrev s__law_moment : Stmt := topS 55
theorem sc__law_moment : FnScope ["_law_pen_here", "_law_board_here", "_law_most", "_law_stand", "_law_waiting", "_law_wheel", "_law_cup"] ["_law_pen_here", "_law_board_here", "_law_most"] (defScope s__law_moment) := ⟨rfl, rfl, rfl, by decide +kernel, rfl, by decide +kernel, by decide +kernel⟩
/-! ### the mathematics -/
def natB : PyData → Bool
  | .int i => decide (0 ≤ i)
  | _ => false
def numsB (n : Int) (d : PyData) : Bool := partsB d n n && (itemsD d).all natB
def atB (ds : List PyData) (ws : List (List (List Int))) (m : Nat) : Bool := match ds[m]?, ws[m]? with
  | some d, some w => withinB d 0 ((w.length : Int) - 1)
  | _, _ => false
def standB (ws : List (List (List Int))) (d : PyData) : Bool := partsB d ws.length ws.length && (List.range ws.length).all (atB (itemsD d) ws)
def momentB (ws : List (List (List Int))) (c : Int) (d : PyData) : Bool := match d with
  | .tuple [s, w, h] => standB ws s && (numsB ws.length w && numsB c h)
  | _ => false
theorem boardOk_B {ws : List (List (List Int))} {c : Int} (h : BoardOk ws c) : boardB (boardD ws c) = true := by
  have h1 := h.w1
  have h6 := h.w6
  have h0 := h.c0
  have h4 := h.c4
  show (partsB (wheelsD ws) 1 6 && withinB (.int c) 0 4 && (ws.map wheelD).all fun e => wheelB e (((ws.map wheelD).length : Int) + c)) = true
  rw [List.length_map, List.all_map]
  have e1 : partsB (wheelsD ws) 1 6 = true := by
    show (decide ((1 : Int) ≤ ((ws.map wheelD).length : Int)) && decide (((ws.map wheelD).length : Int) ≤ 6)) = true
    rw [List.length_map, Bool.and_eq_true, decide_eq_true_eq, decide_eq_true_eq]
    omega
  have e2 : withinB (.int c) 0 4 = true := by
    show (decide ((0 : Int) ≤ c) && decide (c ≤ 4)) = true
    rw [Bool.and_eq_true, decide_eq_true_eq, decide_eq_true_eq]
    omega
  rw [e1, e2, Bool.true_and, Bool.true_and, List.all_eq_true]
  intro w hw
  obtain ⟨x1, x4, hs⟩ := h.wheels w hw
  show (partsB (wheelD w) 1 4 && (w.map stepD).all fun e => stepB e ((ws.length : Int) + c)) = true
  have e3 : partsB (wheelD w) 1 4 = true := by
    show (decide ((1 : Int) ≤ ((w.map stepD).length : Int)) && decide (((w.map stepD).length : Int) ≤ 4)) = true
    rw [List.length_map, Bool.and_eq_true, decide_eq_true_eq, decide_eq_true_eq]
    omega
  rw [e3, Bool.true_and, List.all_map, List.all_eq_true]
  intro s hs'
  obtain ⟨s3, se⟩ := hs s hs'
  show (partsB (stepD s) 0 3 && (s.map PyData.int).all fun e => withinB e 0 ((ws.length : Int) + c - 1)) = true
  have e4 : partsB (stepD s) 0 3 = true := by
    show (decide ((0 : Int) ≤ ((s.map PyData.int).length : Int)) && decide (((s.map PyData.int).length : Int) ≤ 3)) = true
    rw [List.length_map, Bool.and_eq_true, decide_eq_true_eq, decide_eq_true_eq]
    omega
  rw [e4, Bool.true_and, List.all_map, List.all_eq_true]
  intro e he
  obtain ⟨e0, e5⟩ := se e he
  show (decide ((0 : Int) ≤ e) && decide (e ≤ (ws.length : Int) + c - 1)) = true
  rw [Bool.and_eq_true, decide_eq_true_eq, decide_eq_true_eq]
  omega
theorem Da.boardOf {N : Addr → Prop} {H : Hp} {v : V} {ws : List (List (List Int))} {c : Int} (h : Da N H v (boardD ws c)) : ∃ ab aw ys, v = .ref ab ∧ H ab = some (.tup [.ref aw, .int c]) ∧ ¬ N ab ∧ H aw = some (.tup ys) ∧ ¬ N aw ∧ DaAll N H ys (ws.map wheelD) := by
  obtain ⟨ab, xs, rfl, eb, nb, hx⟩ := h.tupOf
  cases hx with
  | @cons vw vs1 _ _ hw hr1 =>
  cases hr1 with
  | @cons vc vs2 _ _ hc hr2 =>
  cases hr2
  obtain rfl := hc.intOf
  obtain ⟨aw, ys, rfl, ew, nw, hy⟩ := hw.tupOf
  exact ⟨ab, aw, ys, rfl, eb, nb, ew, nw, hy⟩
section
variable {P : Program} {w : World} {K : PySem.W.Frag} {mg : Str → Option Value} {base : Heap} {k : Nat}
/-! ### need_board where it is one -/
def spNeed : Sp := fun vs H Q _ => ∃ (N : Addr → Prop) (v : V) (ws : List (List (List Int))) (c : Int), vs = [v] ∧ Da N H v (boardD ws c) ∧ BoardOk ws c ∧ ∀ H', Same H H' → Q .non H'
theorem ok_need_board (D : Def K mg "need_board" s_need_board ["thing"]) (c_is_board : Cal P w K mg base k "is_board" ["thing"] (spThing boardB)) : Cal P w K mg base (k + 1) "need_board" ["thing"] spNeed := by
  refine D.ok sc_need_board (fun vs H Q E h => ?_) (fun f cdv A outer s H vs Q E hr h => ?_)
  · obtain ⟨N, v, ws, c, rfl, _⟩ := h
    rfl
  · obtain ⟨N, v, ws, c, rfl, hd, ok, q⟩ := h
    refine ⟨_, (pss_one (ps_if (pt_not (pt_val (pe_cal c_is_board hr rfl (pa_cons (pv 0) pa_nil))))
  (pss_one ps_never)
  pss_nil)), ?_⟩
    refine ⟨v, rfl, N, v, _, rfl, hd, fun H' s' => ⟨_, rfl, ?_⟩⟩
    rw [boardOk_B ok]
    exact iteF (q H' s')
/-! ### is_stand, are_marbles, is_moment -/
def spStand : Sp := fun vs H Q _ => ∃ (N M : Addr → Prop) (vb v : V) (ws : List (List (List Int))) (c : Int) (d : PyData), vs = [vb, v] ∧ Da N H vb (boardD ws c) ∧ BoardOk ws c ∧ Da M H v d ∧ ∀ H', Same H H' → Q (.bl (standB ws d)) H'
theorem ok_is_stand (D : Def K mg "is_stand" s_is_stand ["board", "thing"]) (B : Bi mg) (B2 : Bi2 mg) (c_need_board : Cal P w K mg base k "need_board" ["thing"] spNeed) (c_is_within : Cal P w K mg base k "is_within" ["thing", "least", "most"] spWithin)
    (c_has_parts : Cal P w K mg base k "has_parts" ["thing", "least", "most"] spParts) : Cal P w K mg base (k + 1) "is_stand" ["board", "thing"] spStand := by
  refine D.ok sc_is_stand (fun vs H Q E h => ?_) (fun f cdv A outer s H vs Q E hr h => ?_)
  · obtain ⟨N, M, vb, v, ws, c, d, rfl, _⟩ := h
    rfl
  · obtain ⟨N, M, vb, v, ws, c, d, rfl, hb, bok, hd, q⟩ := h
    refine ⟨_, (pss_cons (ps_expr (pe_cal c_need_board hr rfl (pa_cons (pv 0) pa_nil)))
  (pss_cons (ps_set (i := 2) sc_is_stand.nd rfl (Or.inl rfl) (pe_ix ix_tup (pv 0) pe_int (fun _ _ => rfl)))
  (pss_cons (ps_if (pt_not (pt_val (pe_cal c_has_parts hr rfl (pa_cons (pv 1) (pa_cons (pe_callB call_len_seq rfl B.len_ (by decide +kernel) (pa_cons (pv 2) pa_nil)) (pa_cons (pe_callB call_len_seq rfl B.len_ (by decide +kernel) (pa_cons (pv 2) pa_nil)) pa_nil))))))
  (pss_one (ps_ret pe_bl))
  pss_nil)
  (pss_one (ps_ret (pe_callB (cr_all rfl) rfl B.all_ (by decide +kernel) (pa_cons (pe_lc (own := [("step", 3), ("wheel", 4)]) rfl sc_is_stand.nd (pi_zip2 rfl B2.zip_ (pa_cons (pv 1) (pa_cons (pv 2) pa_nil))) (blkOk_by (N := ["board", "thing", "wheels", "step", "wheel"]) (sc := defScope s_is_stand) (by decide +kernel)) (fun _ _ _ _ _ => (pg_tupK (K := K) (n := 2) rfl (pgs_cons (pg_name (i := 3) sc_is_stand.nd rfl (Or.inl rfl)) (pgs_cons (pg_name (i := 4) sc_is_stand.nd rfl (Or.inl rfl)) pgs_nil)))) (fun _ _ _ _ _ => pts_nil) (fun _ _ _ _ _ => (pe_cal c_is_within hr rfl (pa_cons (pv 3) (pa_cons pe_int (pa_cons (pe_op op_sub (pe_callB (id := "len") (call_len_seqK (K := K)) rfl B.len_ (by decide +kernel) (pa_cons (pv 4) pa_nil)) pe_int) pa_nil)))))) pa_nil))))))), ?_⟩
    refine ⟨vb, rfl, N, vb, ws, c, rfl, hb, bok, fun H1 s1 => ?_⟩
    have hb1 := Da.mono (N := N) (Kp.of s1) _ _ hb
    have hd1 := Da.mono (N := M) (Kp.of s1) _ _ hd
    obtain ⟨ab, aw, ys, rfl, eb, _, ew, _, hy⟩ := Da.boardOf hb1
    have hl : ys.length = ws.length := by rw [hy.len, List.length_map]
    have w6 := bok.w6
    refine ⟨.ref ab, rfl, ab, _, 0, _, rfl, rfl, SqT.of eb, atI_nat (j := 0) rfl, ?_⟩
    refine ⟨v, rfl, .ref aw, rfl, aw, ys, rfl, .inr (SqT.of ew), .ref aw, rfl, aw, ys, rfl, .inr (SqT.of ew), M, v, d, _, _, rfl, hd1, _, rfl, ?_⟩
    rw [hl]
    cases e : partsB d ws.length ws.length with
    | false =>
      have q' := q H1 s1
      unfold standB at q'
      rw [e] at q'
      exact iteT q'
    | true =>
      obtain ⟨ds, rfl, l1, l2⟩ := parts_tup e
      obtain ⟨a, xs, rfl, ea, _, hx⟩ := hd1.tupOf
      have hxl := hx.len
      have hdl : ds.length = ws.length := by omega
      refine iteF (s_next ?_)
      dsimp only
      refine s_ret ?_
      dsimp only
      refine read_all2 (K := K) (i := 3) (j := 4) (ta := tCons (tVar 1) (tCons (tVar 2) tNil)) (k1 := .t) (k2 := .t) (a := a) (b := aw) (xs := xs) (ys := ys) (n := ws.length) (atB ds ws) (by decide) (by omega) (fun R r => ⟨.ref a, rfl, .ref aw, rfl, r⟩) (fun H' s' => SqT.of (s' _ _ ea)) (fun H' s' => SqT.of (s' _ _ ew)) (by omega) (fun m x y H' s' hm ex ey Q' q' => ?_) (fun H' s' => ?_)
      · obtain ⟨dx, f1, f2⟩ := (DaAll.mono (N := M) (Kp.of s') _ _ hx).get ex
        obtain ⟨dy, g1, g2⟩ := (DaAll.mono (N := N) (Kp.of s') _ _ hy).get ey
        rw [List.getElem?_map] at g1
        cases ewm : ws[m]? with
        | none => rw [ewm] at g1; cases g1
        | some wl =>
          rw [ewm] at g1
          cases g1
          obtain ⟨az, zs, rfl, ez, _, hz⟩ := g2.tupOf
          have zl : zs.length = wl.length := by rw [hz.len, List.length_map]
          refine ⟨x, rfl, .ref az, rfl, az, zs, rfl, .inr (SqT.of ez), _, 1, rfl, rfl, M, x, dx, 0, _, rfl, f2, ?_⟩
          have q2 := q' H' (Same.refl H')
          unfold atB at q2
          rw [f1, ewm] at q2
          rw [zl]
          exact q2
      · have q' := q H' (s1.trans s')
        unfold standB at q'
        rw [e, Bool.true_and] at q'
        exact q'
def spMarbles : Sp := fun vs H Q _ => ∃ (M : Addr → Prop) (v : V) (n : Int) (d : PyData), vs = [v, .int n] ∧ Da M H v d ∧ n ≤ 1000 ∧ ∀ H', Same H H' → Q (.bl (numsB n d)) H'
theorem ok_are_marbles (D : Def K mg "are_marbles" s_are_marbles ["thing", "places"]) (B : Bi mg) (c_is_whole : Cal P w K mg base k "is_whole" ["thing"] spWhole) (c_has_parts : Cal P w K mg base k "has_parts" ["thing", "least", "most"] spParts) :
    Cal P w K mg base (k + 1) "are_marbles" ["thing", "places"] spMarbles := by
  refine D.ok sc_are_marbles (fun vs H Q E h => ?_) (fun f cdv A outer s H vs Q E hr h => ?_)
  · obtain ⟨M, v, n, d, rfl, _⟩ := h
    rfl
  · obtain ⟨M, v, n, d, rfl, hd, hn, q⟩ := h
    refine ⟨_, (pss_one (ps_ret (pe_and (pe_cal c_has_parts hr rfl (pa_cons (pv 0) (pa_cons (pv 1) (pa_cons (pv 1) pa_nil)))) (pe_one (pe_callB (cr_all rfl) rfl B.all_ (by decide +kernel) (pa_cons (pe_lc (own := [("many", 2)]) rfl sc_are_marbles.nd (pi_tup (pv 0)) (blkOk_by (N := ["thing", "places", "many"]) (sc := defScope s_are_marbles) (by decide +kernel)) (fun _ _ _ _ _ => (pg_name (i := 2) sc_are_marbles.nd rfl (Or.inl rfl))) (fun _ _ _ _ _ => pts_nil) (fun _ _ _ _ _ => (pe_and (pe_cal c_is_whole hr rfl (pa_cons (pv 2) pa_nil)) (pe_one (pe_cmpR op_ge (pv 2) pe_int (nomark _)))))) pa_nil)))))), ?_⟩
    refine ⟨v, rfl, .int n, rfl, .int n, rfl, M, v, d, n, n, rfl, hd, _, rfl, ?_⟩
    cases e : partsB d n n with
    | false =>
      refine iteF ?_
      have q' := q H (Same.refl H)
      unfold numsB at q'
      rw [e] at q'
      exact q'
    | true =>
      obtain ⟨ds, rfl, _, h3⟩ := parts_tup e
      obtain ⟨a, xs, rfl, ea, _, ha⟩ := hd.tupOf
      refine iteT (read_all (N := M) (ds := ds) natB rfl ea ha (by omega) (fun x d H' s' hx Q' q' => ?_) fun H' s' => ?_)
      · refine ⟨x, rfl, M, x, d, rfl, hx, _, rfl, ?_⟩
        cases d with
        | int i =>
          cases hx
          exact iteT ⟨.int i, rfl, i, 0, rfl, rfl, q' H' (Same.refl H')⟩
        | bool b => exact iteF (q' H' (Same.refl H'))
        | none => exact iteF (q' H' (Same.refl H'))
        | str x => exact iteF (q' H' (Same.refl H'))
        | list ds => exact iteF (q' H' (Same.refl H'))
        | tuple ds => exact iteF (q' H' (Same.refl H'))
        | dict ds => exact iteF (q' H' (Same.refl H'))
      · have q' := q H' s'
        unfold numsB at q'
        rw [e, Bool.true_and] at q'
        exact q'
def spMom : Sp := fun vs H Q _ => ∃ (N M : Addr → Prop) (vb v : V) (ws : List (List (List Int))) (c : Int) (d : PyData), vs = [vb, v] ∧ Da N H vb (boardD ws c) ∧ BoardOk ws c ∧ Da M H v d ∧ ∀ H', Same H H' → Q (.bl (momentB ws c d)) H'
theorem momentB_no {ws : List (List (List Int))} {c : Int} {d : PyData} (h : partsB d 3 3 = false) : momentB ws c d = false := by
  unfold momentB
  split
  · cases h
  · rfl
theorem ok_is_moment (D : Def K mg "is_moment" s_is_moment ["board", "thing"]) (B : Bi mg) (c_need_board : Cal P w K mg base k "need_board" ["thing"] spNeed) (c_is_stand : Cal P w K mg base k "is_stand" ["board", "thing"] spStand)
    (c_are_marbles : Cal P w K mg base k "are_marbles" ["thing", "places"] spMarbles) (c_has_parts : Cal P w K mg base k "has_parts" ["thing", "least", "most"] spParts) : Cal P w K mg base (k + 1) "is_moment" ["board", "thing"] spMom := by
  refine D.ok sc_is_moment (fun vs H Q E h => ?_) (fun f cdv A outer s H vs Q E hr h => ?_)
  · obtain ⟨N, M, vb, v, ws, c, d, rfl, _⟩ := h
    rfl
  · obtain ⟨N, M, vb, v, ws, c, d, rfl, hb, bok, hd, q⟩ := h
    refine ⟨_, (pss_cons (ps_expr (pe_cal c_need_board hr rfl (pa_cons (pv 0) pa_nil)))
  (pss_cons (ps_if (pt_not (pt_val (pe_cal c_has_parts hr rfl (pa_cons (pv 1) (pa_cons pe_int (pa_cons pe_int pa_nil))))))
  (pss_one (ps_ret pe_bl))
  pss_nil)
  (pss_cons (ps_asg (pv 0) (pg_tup rfl (pgs_cons (pg_name (i := 2) sc_is_moment.nd rfl (Or.inl rfl)) (pgs_cons (pg_name (i := 3) sc_is_moment.nd rfl (Or.inl rfl)) pgs_nil))))
  (pss_cons (ps_asg (pv 1) (pg_tup rfl (pgs_cons (pg_name (i := 4) sc_is_moment.nd rfl (Or.inl rfl)) (pgs_cons (pg_name (i := 5) sc_is_moment.nd rfl (Or.inl rfl)) (pgs_cons (pg_name (i := 6) sc_is_moment.nd rfl (Or.inl rfl)) pgs_nil)))))
  (pss_one (ps_ret (pe_and (pe_cal c_is_stand hr rfl (pa_cons (pv 0) (pa_cons (pv 4) pa_nil))) (pe_and (pe_cal c_are_marbles hr rfl (pa_cons (pv 5) (pa_cons (pe_callB call_len_seq rfl B.len_ (by decide +kernel) (pa_cons (pv 2) pa_nil)) pa_nil))) (pe_one (pe_cal c_are_marbles hr rfl (pa_cons (pv 6) (pa_cons (pv 3) pa_nil)))))))))))), ?_⟩
    refine ⟨vb, rfl, N, vb, ws, c, rfl, hb, bok, fun H1 s1 => ?_⟩
    have hb1 := Da.mono (N := N) (Kp.of s1) _ _ hb
    have hd1 := Da.mono (N := M) (Kp.of s1) _ _ hd
    refine ⟨v, rfl, M, v, d, 3, 3, rfl, hd1, _, rfl, ?_⟩
    cases e : partsB d 3 3 with
    | false =>
      have q' := q H1 s1
      rw [momentB_no e] at q'
      exact iteT q'
    | true =>
      refine iteF ?_
      obtain ⟨ds, rfl, h2, h3⟩ := parts_tup e
      obtain ⟨a, xs, rfl, ea, _, ha⟩ := hd1.tupOf
      obtain ⟨dt, dw, dh, rfl⟩ : ∃ x y z, ds = [x, y, z] := by
        match ds, h2, h3 with
        | [x, y, z], _, _ => exact ⟨x, y, z, rfl⟩
        | [], h, _ => simp at h
        | [x], h, _ => simp at h
        | [x, y], h, _ => simp at h
        | x :: y :: z :: u :: r, _, h => simp at h; omega
      cases ha with
      | @cons vt vs1 _ _ ht hr1 =>
      cases hr1 with
      | @cons vw vs2 _ _ hw hr2 =>
      cases hr2 with
      | @cons vh vs3 _ _ hh hr3 =>
      cases hr3
      have hb2 := hb1
      obtain ⟨ab, aw, ys, rfl, eb, _, ew, _, hy⟩ := Da.boardOf hb1
      have hl : ys.length = ws.length := by rw [hy.len, List.length_map]
      have w6 := bok.w6
      have c4 := bok.c4
      refine ⟨.ref ab, rfl, ab, _, rfl, SqT.of eb, rfl, _, _, rfl, _, _, rfl, rfl, ?_⟩
      refine ⟨.ref a, rfl, a, _, rfl, SqT.of ea, rfl, _, _, rfl, _, _, rfl, _, _, rfl, rfl, ?_⟩
      have q0 : ∀ H', Same H H' → Q (.bl (standB ws dt && (numsB ws.length dw && numsB c dh))) H' := q
      refine ⟨.ref ab, rfl, vt, rfl, N, M, .ref ab, vt, ws, c, dt, rfl, hb2, bok, ht, fun H2 s2 => ⟨_, rfl, ?_⟩⟩
      cases e1 : standB ws dt with
      | false =>
        have q' := q0 H2 (s1.trans s2)
        rw [e1] at q'
        exact iteF q'
      | true =>
        refine iteT ⟨vw, rfl, .ref aw, rfl, aw, ys, rfl, .inr (SqT.of (s2 _ _ ew)), M, vw, _, dw, rfl, Da.mono (Kp.of s2) _ _ hw, by omega, fun H3 s3 => ⟨_, rfl, ?_⟩⟩
        rw [hl]
        cases e2 : numsB ws.length dw with
        | false =>
          have q' := q0 H3 ((s1.trans s2).trans s3)
          rw [e1, e2] at q'
          exact iteF q'
        | true =>
          refine iteT ⟨vh, rfl, .int c, rfl, M, vh, c, dh, rfl, Da.mono (Kp.of (s2.trans s3)) _ _ hh, by omega, fun H4 s4 => ?_⟩
          have q' := q0 H4 (((s1.trans s2).trans s3).trans s4)
          rw [e1, e2] at q'
          exact q'
end
end K03

set_option maxRecDepth 100000
set_option maxHeartbeats 1000000
namespace K03
open PySem PySem.Spec PyProof.Rows L2 HX
/-! ### a comprehension of drawn numbers -/
theorem s_cb1 {r : List V → Hp → VK → Prop} {t : TE} {σ : L2.St} {H : Hp} {Q : VK} (h : t σ H fun x H1 => r [x] H1 Q) : tCB r (tCons t tNil) σ H Q := h
theorem s_cons {t : TE} {u : TA} {σ : L2.St} {H : Hp} {Q : List V → Hp → Prop} (h : t σ H fun x H1 => u σ H1 fun xs H2 => Q (x :: xs) H2) : tCons t u σ H Q := h
theorem lc_ints {J : It} {n : Nat} {G : Hp → Prop} {Y : Nat → Hp → V → Hp → Prop} (wk : Walk J n G Y) {Yx : Nat → V → Prop} (hY : ∀ i H x H', Y i H x H' → H' = H ∧ Yx i x) {σ : L2.St} {H : Hp} {Q : VK} {te : TE} {wi : TI} {j pn : Nat} (R : Nat → Int → Prop) (t m : Nat) (hwi : ∀ R : It → Hp → Prop, R J H → wi σ H R)
    (hz : n ≤ 1000) (pen : PenAt H pn (m + t * n)) (hG : ∀ H', Kp (· = pn) H H' → G H')
    (ht : ∀ (i : Nat) (x : V) (H' : Hp) (m' : Nat), i < n → Yx i x → Kp (· = pn) H H' → PenAt H' pn (m' + t) → ∀ Q' : VK, (∀ (z : Int) (H2 : Hp), R i z → Kp (· = pn) H' H2 → PenAt H2 pn m' → Q' (.int z) H2) → te ((wipe σ [j]).set j (some x)) H' Q')
    (q : ∀ (D : Addr) (zs : List Int) (H' : Hp), zs.length = n → (∀ i z, zs[i]? = some z → R i z) → Kp (· = pn) H H' → PenAt H' pn m → H' D = some (.lst (zs.map V.int)) → H D = none → Q (.ref D) H') :
    tLc wi (gName j) tYes te [j] σ H Q := by
  refine hwi _ fun D hD => ?_
  have nDp := pen.ne hD
  refine lc_it wk (fun i H' => Kp (· = pn) H H' ∧ PenAt H' pn (m + t * (n - i)) ∧ ∃ zs : List Int, zs.length = i ∧ (∀ i z, zs[i]? = some z → R i z) ∧ H' D = some (.lst (zs.map V.int))) ⟨Kp.new hD, pen.new hD, [], rfl, fun i z e => by simp at e, upd_same⟩ (fun i H' _ h => hG H' h.1) (fun i x H' H2 hi h y => ?_) (fun H' h => ?_)
  · obtain ⟨k1, pen1, zs, zl, zr, eD⟩ := h
    obtain ⟨rfl, yx⟩ := hY _ _ _ _ y
    have e1 : m + t * (n - i) = m + t * (n - (i + 1)) + t := by
      rw [show n - i = (n - (i + 1)) + 1 by omega, Nat.mul_add, Nat.mul_one]
      omega
    rw [e1] at pen1
    refine ⟨wipe1 x, tYes_eq (iteT (ht i x H2 _ hi yx k1 pen1 _ fun z H3 hz' k3 pen3 => ?_))⟩
    refine ⟨_, k3 _ _ eD nDp, ?_, (k1.trans k3).mut hD, pen3.put nDp, zs ++ [z], ?_, ?_, ?_⟩
    · rw [List.length_map, zl]
      exact small1000 (by omega)
    · rw [List.length_append, zl]
      rfl
    · intro i' z' e
      by_cases hlt : i' < zs.length
      · rw [List.getElem?_append_left hlt] at e
        exact zr i' z' e
      · rw [List.getElem?_append_right (by omega)] at e
        have h0 : i' - zs.length = 0 := by
          have := (List.getElem?_eq_some_iff.mp e).1
          simp at this
          omega
        rw [h0] at e
        have e2 : z = z' := by simpa using e
        have e3 : i' = i := by omega
        subst e2 e3
        exact hz'
    · rw [upd_same, List.map_append]
      rfl
  · obtain ⟨k1, pen1, zs, zl, zr, eD⟩ := h
    exact q D zs H' zl zr k1 (pen1.less (by omega)) eD hD
/-! ### a drawn moment -/
def momD (st wt hd : List Int) : PyData := .tuple [stepD st, stepD wt, stepD hd]
structure MomOk (ws : List (List (List Int))) (c b : Int) (st wt hd : List Int) : Prop where
  sl : st.length = ws.length
  sr : ∀ (i : Nat) (s : Int) (w : List (List Int)), st[i]? = some s → ws[i]? = some w → 0 ≤ s ∧ s < (w.length : Int)
  wl : wt.length = ws.length
  wr : ∀ x ∈ wt, 0 ≤ x ∧ x ≤ b
  hl : (hd.length : Int) = c
  hr : ∀ x ∈ hd, 0 ≤ x ∧ x ≤ b
section
variable {P : Program} {w : World} {K : PySem.W.Frag} {mg : Str → Option Value} {base : Heap} {k : Nat}
def spDrawn : Sp := fun vs H Q _ => ∃ (pn : Addr) (vb : V) (most : Int) (m : Nat) (ws : List (List (List Int))) (c : Int), vs = [.ref pn, vb, .int most] ∧ 2 ≤ most ∧ most ≤ 1000 ∧ Td H vb (boardD ws c) ∧ BoardOk ws c ∧ PenAt H pn (m + 22) ∧
  ∀ (v : V) (st wt hd : List Int) (H' : Hp), MomOk ws c most st wt hd → Td H' v (momD st wt hd) → Kp (· = pn) H H' → PenAt H' pn m → Q v H'
theorem ok_drawn (D : Def K mg "_law_moment" s__law_moment ["_law_pen_here", "_law_board_here", "_law_most"]) (B : Bi mg) (c__law_draw : Cal P w K mg base k "_law_draw" ["_law_pen_here", "_law_many"] spDraw) :
    Cal P w K mg base (k + 1) "_law_moment" ["_law_pen_here", "_law_board_here", "_law_most"] spDrawn := by
  refine D.ok sc__law_moment (fun vs H Q E h => ?_) (fun f cdv A outer s H vs Q E hr h => ?_)
  · obtain ⟨pn, vb, most, m, ws, c, rfl, _⟩ := h
    rfl
  · obtain ⟨pn, vb, most, m, ws, c, rfl, m2, m1000, tb, bok, pen, q⟩ := h
    refine ⟨_, (pss_cons (ps_set (i := 3) sc__law_moment.nd rfl (Or.inl rfl) (pe_callTy call_tuple_of rfl B.tuple_ (by decide +kernel) (pa_cons (pe_lc (own := [("_law_wheel", 5)]) rfl sc__law_moment.nd (pi_tup (pe_ix ix_tup (pv 1) pe_int (fun _ _ => rfl))) (blkOk_by (N := ["_law_pen_here", "_law_board_here", "_law_most", "_law_stand", "_law_waiting", "_law_wheel", "_law_cup"]) (sc := defScope s__law_moment) (by decide +kernel)) (fun _ _ _ _ _ => (pg_name (i := 5) sc__law_moment.nd rfl (Or.inl rfl))) (fun _ _ _ _ _ => pts_nil) (fun _ _ _ _ _ => (pe_cal c__law_draw hr rfl (pa_cons (pv 0) (pa_cons (pe_callB (id := "len") (call_len_seqK (K := K)) rfl B.len_ (by decide +kernel) (pa_cons (pv 5) pa_nil)) pa_nil))))) pa_nil)))
  (pss_cons (ps_set (i := 4) sc__law_moment.nd rfl (Or.inl rfl) (pe_callTy call_tuple_of rfl B.tuple_ (by decide +kernel) (pa_cons (pe_lc (own := [("_law_wheel", 5)]) rfl sc__law_moment.nd (pi_tup (pe_ix ix_tup (pv 1) pe_int (fun _ _ => rfl))) (blkOk_by (N := ["_law_pen_here", "_law_board_here", "_law_most", "_law_stand", "_law_waiting", "_law_wheel", "_law_cup"]) (sc := defScope s__law_moment) (by decide +kernel)) (fun _ _ _ _ _ => (pg_name (i := 5) sc__law_moment.nd rfl (Or.inl rfl))) (fun _ _ _ _ _ => pts_nil) (fun _ _ _ _ _ => (pe_ix (ix_listK (K := K)) (pe_lst (pa_cons pe_int (pa_cons pe_int (pa_cons (pe_cal c__law_draw hr rfl (pa_cons (pv 0) (pa_cons (pe_op op_add (pv 2) pe_int) pa_nil))) pa_nil)))) (pe_cal c__law_draw hr rfl (pa_cons (pv 0) (pa_cons pe_int pa_nil))) (fun _ _ => rfl)))) pa_nil)))
  (pss_one (ps_ret (pe_tup (pa_cons (pv 3) (pa_cons (pv 4) (pa_cons (pe_callTy call_tuple_of rfl B.tuple_ (by decide +kernel) (pa_cons (pe_lc (own := [("_law_cup", 6)]) rfl sc__law_moment.nd (pi_range1 rfl B.range_ (pa_cons (pe_ix ix_tup (pv 1) pe_int (fun _ _ => rfl)) pa_nil)) (blkOk_by (N := ["_law_pen_here", "_law_board_here", "_law_most", "_law_stand", "_law_waiting", "_law_wheel", "_law_cup"]) (sc := defScope s__law_moment) (by decide +kernel)) (fun _ _ _ _ _ => (pg_name (i := 6) sc__law_moment.nd rfl (Or.inl rfl))) (fun _ _ _ _ _ => pts_nil) (fun _ _ _ _ _ => (pe_cal c__law_draw hr rfl (pa_cons (pv 0) (pa_cons pe_int pa_nil))))) pa_nil)) pa_nil)))))))), ?_⟩
    obtain ⟨ab, xsb, rfl, eb, hb⟩ := Td.tupOf tb
    cases hb with
    | @cons vw vs1 _ _ hw hr1 =>
    cases hr1 with
    | @cons vc vs2 _ _ hc hr2 =>
    cases hr2
    obtain rfl := hc.intOf
    obtain ⟨aw, ys, rfl, ew, hy⟩ := Td.tupOf hw
    have hl : ys.length = ws.length := by rw [hy.len, List.length_map]
    have w6 := bok.w6
    have c0 := bok.c0
    have c4 := bok.c4
    have nab : ¬ (ab = pn) := by
      obtain ⟨l, e⟩ := pen.list
      exact ne_of eb e (fun z => by cases z)
    have naw : ¬ (aw = pn) := by
      obtain ⟨l, e⟩ := pen.list
      exact ne_of ew e (fun z => by cases z)
    -- the stand
    refine s_asg (s_cb1 ?_)
    refine lc_ints (J := Itt K aw) (n := ys.length) walk_tup (Yx := fun i x => ys[i]? = some x) (fun i H x H' y => y) (fun i z => ∀ w : List (List Int), ws[i]? = some w → 0 ≤ z ∧ z < (w.length : Int)) 1 (m + 16) (fun R r => ⟨.ref ab, rfl, ab, _, 0, _, rfl, rfl, SqT.of eb, atI_nat (j := 0) rfl, aw, rfl, ⟨ys, SqT.of ew⟩, r⟩) (by omega) (pen.less (by omega)) (fun H' k' => SqT.of (k' _ _ ew naw)) (fun i x H' m' hi hx k' pen' Q' q' => ?_) (fun D zs H1 zl zr k1 pen1 eD nD => ?_)
    · obtain ⟨d, e1, e2⟩ := hy.get hx
      rw [List.getElem?_map] at e1
      cases ewm : ws[i]? with
      | none => rw [ewm] at e1; cases e1
      | some wl =>
        rw [ewm] at e1
        cases e1
        obtain ⟨x1, x4, _⟩ := bok.wheels wl (List.mem_of_getElem? ewm)
        obtain ⟨az, zs, rfl, ez, hz⟩ := Td.tupOf e2
        have zl : zs.length = wl.length := by rw [hz.len, List.length_map]
        have naz : ¬ (az = pn) := by
          obtain ⟨l, e⟩ := pen.list
          exact ne_of ez e (fun z => by cases z)
        refine ⟨.ref pn, rfl, .ref az, rfl, az, zs, rfl, .inr (SqT.of (k' _ _ ez naz)), pn, _, m', rfl, by omega, by omega, pen', fun r H2 r0 r1 k2 pen2 => q' r H2 (fun w ew' => ?_) k2 pen2⟩
        rw [ewm] at ew'
        cases ew'
        omega
    · refine ⟨D, _, rfl, .inl ⟨SqL.of eD, fun T nT => ?_⟩⟩
      have nTp := pen1.ne nT
      have pen2 := pen1.new (o := .tup (zs.map V.int)) nT
      have k2 : Kp (· = pn) H (upd H1 T (.tup (zs.map V.int))) := k1.trans (Kp.new nT)
      have eT : (upd H1 T (.tup (zs.map V.int))) T = some (.tup (zs.map V.int)) := upd_same
      generalize upd H1 T (.tup (zs.map V.int)) = H2 at pen2 k2 eT ⊢
      -- those that wait
      refine s_asg (s_cb1 ?_)
      refine lc_ints (J := Itt K aw) (n := ys.length) walk_tup (Yx := fun i x => ys[i]? = some x) (fun i H x H' y => y) (fun i z => 0 ≤ z ∧ z ≤ most) 2 (m + 4) (fun R r => ⟨.ref ab, rfl, ab, _, 0, _, rfl, rfl, SqT.of (k2 _ _ eb nab), atI_nat (j := 0) rfl, aw, rfl, ⟨ys, SqT.of (k2 _ _ ew naw)⟩, r⟩) (by omega) (pen2.less (by omega)) (fun H' k' => SqT.of (k' _ _ (k2 _ _ ew naw) naw)) (fun i x H' m' hi hx k' pen' Q' q' => ?_) (fun D2 zs2 H3 zl2 zr2 k3 pen3 eD2 nD2 => ?_)
      · refine ⟨.ref pn, rfl, .int most, rfl, most, 1, rfl, rfl, pn, _, m' + 1, rfl, by omega, by omega, pen', fun r H3 r0 r1 k3 pen3 => ⟨by show 3 ≤ sizeLine; decide, fun L nL => ?_⟩⟩
        have nLp := pen3.ne nL
        refine ⟨.ref pn, rfl, pn, 3, m', rfl, by decide, by decide, pen3.new nL, fun r2 H4 r20 r21 k4 pen4 => ?_⟩
        have eL : H4 L = some (.lst [V.int 0, .int 1, .int r]) := k4 _ _ upd_same nLp
        have kk : Kp (· = pn) H' H4 := (k3.trans (Kp.new nL)).trans k4
        obtain ⟨u, rfl⟩ : ∃ u : Nat, r2 = (u : Int) := ⟨r2.toNat, by omega⟩
        match u, r21 with
        | 0, _ => exact ⟨L, _, 0, _, rfl, rfl, SqL.of eL, atI_nat (j := 0) rfl, q' _ H4 ⟨by omega, by omega⟩ kk pen4⟩
        | 1, _ => exact ⟨L, _, 1, _, rfl, rfl, SqL.of eL, atI_nat (j := 1) rfl, q' _ H4 ⟨by omega, by omega⟩ kk pen4⟩
        | 2, _ => exact ⟨L, _, 2, _, rfl, rfl, SqL.of eL, atI_nat (j := 2) rfl, q' _ H4 ⟨by omega, by omega⟩ kk pen4⟩
        | u + 3, h => exact absurd h (by omega)
      · refine ⟨D2, _, rfl, .inl ⟨SqL.of eD2, fun T2 nT2 => ?_⟩⟩
        have nTp2 := pen3.ne nT2
        have pen4 := pen3.new (o := .tup (zs2.map V.int)) nT2
        have k4 : Kp (· = pn) H2 (upd H3 T2 (.tup (zs2.map V.int))) := k3.trans (Kp.new nT2)
        have eT2 : (upd H3 T2 (.tup (zs2.map V.int))) T2 = some (.tup (zs2.map V.int)) := upd_same
        generalize upd H3 T2 (.tup (zs2.map V.int)) = H4 at pen4 k4 eT2 ⊢
        have k04 := k2.trans k4
        -- those that are held
        refine s_ret ?_
        refine ⟨.ref T, rfl, .ref T2, rfl, ?_⟩
        refine s_cons (s_cb1 ?_)
        refine lc_ints (J := Itr 0 c.toNat) (n := c.toNat) walk_range (Yx := fun _ _ => True) (fun i H x H' y => ⟨y.1, trivial⟩) (fun i z => 0 ≤ z ∧ z ≤ most) 1 m (fun R r => ⟨.ref ab, rfl, ab, _, 1, _, rfl, rfl, SqT.of (k04 _ _ eb nab), atI_nat (j := 1) rfl, c, rfl, by omega, by omega, r⟩) (by omega) (pen4.less (by omega)) (fun H' k' => trivial) (fun i x H' m' hi hx k' pen' Q' q' => ?_) (fun D3 zs3 H5 zl3 zr3 k5 pen5 eD3 nD3 => ?_)
        · exact ⟨.ref pn, rfl, pn, 3, m', rfl, by decide, by decide, pen', fun r H2 r0 r1 k2 pen2 => q' r H2 ⟨r0, by omega⟩ k2 pen2⟩
        · refine ⟨D3, _, rfl, .inl ⟨SqL.of eD3, fun T3 nT3 => ⟨by show 3 ≤ sizeLine; decide, fun U nU => ?_⟩⟩⟩
          have eT5 : H5 T = some (.tup (zs.map V.int)) := (k4.trans k5) _ _ eT nTp
          have eT25 : H5 T2 = some (.tup (zs2.map V.int)) := k5 _ _ eT2 nTp2
          have s6 : Same H5 (upd H5 T3 (.tup (zs3.map V.int))) := Same.new nT3
          refine q (.ref U) zs zs2 zs3 _ ⟨by omega, fun i s w e1 e2 => zr i s e1 w e2, by omega, fun x hx => ?_, by omega, fun x hx => ?_⟩ ?_ ((k04.trans k5).trans ((Kp.new nT3).trans (Kp.new nU))) ((pen5.new nT3).new nU)
          · obtain ⟨i, hi⟩ := List.mem_iff_getElem?.mp hx
            exact zr2 i x hi
          · obtain ⟨i, hi⟩ := List.mem_iff_getElem?.mp hx
            exact zr3 i x hi
          · exact Td.new nU (.cons (.tup (s6 _ _ eT5) (TdAll.ints zs)) (.cons (.tup (s6 _ _ eT25) (TdAll.ints zs2)) (.cons (.tup upd_same (TdAll.ints zs3)) .nil)))
end
end K03

set_option maxRecDepth 100000
set_option maxHeartbeats 1000000
namespace K03
open PySem PySem.Spec PyProof.Rows L2 HX
abbrev s_handle_marble : Stmt := topS 44
theorem sc_handle_marble : FnScope ["board", "parts", "wheel", "wheels", "stand", "waiting", "held", "step", "end"] ["board", "parts", "wheel"] (defScope s_handle_marble) := ⟨rfl, rfl, rfl, by decide +kernel, rfl, by decide +kernel, by decide +kernel⟩
section
variable {P : Program} {w : World} {K : PySem.W.Frag} {mg : Str → Option Value} {base : Heap} {k : Nat}
/-! ### a marble handled -/
def spHandle : Sp := fun vs H Q _ => ∃ (vb : V) (p a1 a2 a3 : Addr) (n : Nat) (ws : List (List (List Int))) (c : Int) (m : Mo), vs = [vb, .ref p, .int n] ∧ Td H vb (boardD ws c) ∧ BoardOk ws c ∧ H p = some (.tup [.ref a1, .ref a2, .ref a3]) ∧ Laid H a1 a2 a3 m ∧ MoF ws c m ∧ n < ws.length ∧
  ∀ H', Kp (N3 a1 a2 a3) H H' → Laid H' a1 a2 a3 (handleM ws m n) → Q .non H'
theorem ok_handle_marble (D : Def K mg "handle_marble" s_handle_marble ["board", "parts", "wheel"]) (B : Bi mg) : Cal P w K mg base (k + 1) "handle_marble" ["board", "parts", "wheel"] spHandle := by
  refine D.ok sc_handle_marble (fun vs H Q E h => ?_) (fun f cdv A outer s H vs Q E hr h => ?_)
  · obtain ⟨vb, p, a1, a2, a3, n, ws, c, m, rfl, _⟩ := h
    rfl
  · obtain ⟨vb, p, a1, a2, a3, n, ws, c, m, rfl, tb, bok, ep, la, mf, hn, q⟩ := h
    refine ⟨_, (pss_cons (ps_set (i := 3) sc_handle_marble.nd rfl (Or.inl rfl) (pe_ix ix_tup (pv 0) pe_int (fun _ _ => rfl)))
  (pss_cons (ps_asg (pv 1) (pg_tup rfl (pgs_cons (pg_name (i := 4) sc_handle_marble.nd rfl (Or.inl rfl)) (pgs_cons (pg_name (i := 5) sc_handle_marble.nd rfl (Or.inl rfl)) (pgs_cons (pg_name (i := 6) sc_handle_marble.nd rfl (Or.inl rfl)) pgs_nil)))))
  (pss_cons (ps_set (i := 7) sc_handle_marble.nd rfl (Or.inl rfl) (pe_ix ix_list (pv 4) (pv 2) (fun _ _ => rfl)))
  (pss_cons (ps_augS (pv 5) (pv 2) get_list pe_int ip_sub set_list)
  (pss_cons (ps_for PassesOwn.never rfl (pi_tup (pe_ix ix_tup (pe_ix ix_tup (pv 3) (pv 2) (fun _ _ => rfl)) (pv 7) (fun _ _ => rfl))) (pg_name (i := 8) sc_handle_marble.nd rfl (Or.inl rfl))
  (pss_one (ps_if (pt_cmpR op_lt (pv 8) (pe_callB call_len_seq rfl B.len_ (by decide +kernel) (pa_cons (pv 3) pa_nil)) (nomark _))
  (pss_one (ps_augS (pv 5) (pv 8) get_list pe_int ip_add set_list))
  (pss_one (ps_augS (pv 6) (pe_op op_sub (pv 8) (pe_callB call_len_seq rfl B.len_ (by decide +kernel) (pa_cons (pv 3) pa_nil))) get_list pe_int ip_add set_list)))))
  (pss_one (ps_asg (pe_op op_mod (pe_op op_add (pv 7) pe_int) (pe_callB call_len_seq rfl B.len_ (by decide +kernel) (pa_cons (pe_ix ix_tup (pv 3) (pv 2) (fun _ _ => rfl)) pa_nil))) (pg_sub (pv 4) (pv 2) set_list)))))))), ?_⟩
    obtain ⟨ab, aw, ys, rfl, eb, ew, hy⟩ := Td.boardOf tb
    have hl : ys.length = ws.length := by rw [hy.len, List.length_map]
    obtain ⟨az, zs, ey, ez, hz⟩ := hy.wheelAt hn
    have ewn : ws[n]? = some (ws.getD n []) := by rw [List.getD_eq_getElem?_getD, List.getElem?_eq_getElem hn]; rfl
    have esn : m.st[n]? = some (m.st.getD n 0) := by rw [List.getD_eq_getElem?_getD, List.getElem?_eq_getElem (by rw [mf.sl]; exact hn)]; rfl
    obtain ⟨s0, s1⟩ := mf.sr n _ _ esn ewn
    obtain ⟨x1, x4, wok⟩ := bok.wheels _ (List.mem_of_getElem? ewn)
    generalize hst : m.st.getD n 0 = sv at esn s0 s1
    obtain ⟨sn, rfl⟩ : ∃ sn : Nat, sv = (sn : Int) := ⟨sv.toNat, by omega⟩
    have hsn : sn < (ws.getD n []).length := by omega
    obtain ⟨ae, ee, ees⟩ := hz.stepAt hsn
    have hends : endsAt ws m.st n = (ws.getD n []).getD sn [] := by
      unfold endsAt
      rw [hst]
      rfl
    have eok := wok ((ws.getD n []).getD sn []) (List.mem_of_getElem? (show (ws.getD n [])[sn]? = some _ by rw [List.getD_eq_getElem?_getD (l := ws.getD n []) (i := sn), List.getElem?_eq_getElem hsn]; rfl))
    have hzl : zs.length = (ws.getD n []).length := by rw [hz.len, List.length_map]
    have hwl := mf.wl
    have hhl := mf.hl
    -- wheels, the three lists, the step
    refine ⟨.ref ab, rfl, ab, _, 0, _, rfl, rfl, SqT.of eb, atI_nat (j := 0) rfl, ?_⟩
    refine ⟨.ref p, rfl, p, _, rfl, SqT.of ep, rfl, _, _, rfl, _, _, rfl, _, _, rfl, rfl, ?_⟩
    refine ⟨.ref a1, rfl, .int n, rfl, a1, _, n, .int sn, rfl, rfl, SqL.of la.s, atI_nat (by rw [getI (by rw [mf.sl]; exact hn), hst]), ?_⟩
    -- waiting[wheel] -= 1
    refine ⟨.ref a2, rfl, .int n, rfl, a2, _, n, _, rfl, rfl, SqL.of la.w, getI (by omega), _, _, rfl, rfl, a2, _, n, n, rfl, rfl, la.w, ixN_nat (by rw [List.length_map]; omega), ?_⟩
    rw [setI]
    have k1 : Kp (N3 a1 a2 a3) H (upd H a2 (.lst ((m.wt.set n (m.wt.getD n 0 - 1)).map V.int))) := Kp.put (.inr (.inl rfl))
    have hb1 : m.wt.set n (m.wt.getD n 0 - 1) = bump m.wt n (-1) := rfl
    rw [hb1] at k1 ⊢
    have l1 : Laid (upd H a2 (.lst ((bump m.wt n (-1)).map V.int))) a1 a2 a3 ⟨m.st, bump m.wt n (-1), m.hd⟩ := ⟨by rw [upd_ne la.nab]; exact la.s, upd_same, by rw [upd_ne la.nbc.symm]; exact la.h, la.nab, la.nac, la.nbc⟩
    have kt1 := la.kt k1
    generalize upd H a2 (.lst ((bump m.wt n (-1)).map V.int)) = H1 at k1 l1 kt1 ⊢
    -- the ends
    refine ⟨.ref aw, rfl, .int n, rfl, aw, _, n, _, rfl, rfl, SqT.of (kt1 _ _ ew), atI_nat ey, .int sn, rfl, az, _, sn, _, rfl, rfl, SqT.of (kt1 _ _ ez), atI_nat ee, ae, rfl, ⟨_, SqT.of (kt1 _ _ ees)⟩, ?_⟩
    refine for_tup (xs := ((ws.getD n []).getD sn []).map V.int) (fun i σ H' => ∃ y : Option V, σ = [some (.ref ab), some (.ref p), some (.int n), some (.ref aw), some (.ref a1), some (.ref a2), some (.ref a3), some (.int sn), y] ∧ Kp (N3 a1 a2 a3) H H' ∧
      Laid H' a1 a2 a3 ⟨m.st, ((((ws.getD n []).getD sn []).take i).foldl (sendM ws.length) (bump m.wt n (-1), m.hd)).1, ((((ws.getD n []).getD sn []).take i).foldl (sendM ws.length) (bump m.wt n (-1), m.hd)).2⟩) ⟨none, rfl, k1, l1⟩ (fun i σ H' _ pp => ?_) (fun i x σ H' hx pp => ?_) (fun σ H' pp => ?_)
    · obtain ⟨y, _, k', _⟩ := pp
      exact SqT.of (la.kt k' _ _ ees)
    · obtain ⟨y, rfl, k', l'⟩ := pp
      rw [List.getElem?_map] at hx
      cases ex : ((ws.getD n []).getD sn [])[i]? with
      | none => rw [ex] at hx; cases hx
      | some e =>
        rw [ex] at hx
        cases hx
        obtain ⟨e0, e1⟩ := eok.2 e (List.mem_of_getElem? ex)
        obtain ⟨sl1, sl2⟩ := send_len ws.length (((ws.getD n []).getD sn []).take i) (bump m.wt n (-1), m.hd)
        rw [bump_len] at sl1
        have tk : ((ws.getD n []).getD sn []).take (i + 1) = ((ws.getD n []).getD sn []).take i ++ [e] := by rw [List.take_add_one, ex]; rfl
        have fold1 : (((ws.getD n []).getD sn []).take (i + 1)).foldl (sendM ws.length) (bump m.wt n (-1), m.hd) = sendM ws.length ((((ws.getD n []).getD sn []).take i).foldl (sendM ws.length) (bump m.wt n (-1), m.hd)) e := by rw [tk, List.foldl_append]; rfl
        rw [fold1]
        generalize (((ws.getD n []).getD sn []).take i).foldl (sendM ws.length) (bump m.wt n (-1), m.hd) = pr at l' sl1 sl2 ⊢
        obtain ⟨pw, ph⟩ := pr
        have sl1' : pw.length = m.wt.length := sl1
        have sl2' : ph.length = m.hd.length := sl2
        have ew' := la.kt k' _ _ ew
        obtain ⟨en, rfl⟩ : ∃ en : Nat, e = (en : Int) := ⟨e.toNat, by omega⟩
        refine ⟨.int en, rfl, .ref aw, rfl, aw, ys, rfl, .inr (SqT.of ew'), en, _, rfl, rfl, _, rfl, ite2 (fun g => ?_) (fun g => ?_)⟩
        · have g' : (en : Int) < (ws.length : Int) := by rw [← hl]; exact of_decide_eq_true g
          have hs : sendM ws.length (pw, ph) en = (bump pw en 1, ph) := by
            unfold sendM
            rw [if_pos g']
            rfl
          rw [hs]
          refine ⟨.ref a2, rfl, .int en, rfl, a2, _, en, _, rfl, rfl, SqL.of l'.w, getI (show en < pw.length by omega), _, _, rfl, rfl, a2, _, en, en, rfl, rfl, l'.w, ixN_nat (by rw [List.length_map]; show en < pw.length; omega), ?_⟩
          rw [setI]
          exact ⟨some (.int en), rfl, k'.trans (Kp.put (.inr (.inl rfl))), ⟨by rw [upd_ne l'.nab]; exact l'.s, upd_same, by rw [upd_ne l'.nbc.symm]; exact l'.h, l'.nab, l'.nac, l'.nbc⟩⟩
        · have g' : ¬ (en : Int) < (ws.length : Int) := by rw [← hl]; exact fun z => g (decide_eq_true z)
          have hs : sendM ws.length (pw, ph) en = (pw, bump ph (en - ws.length) 1) := by
            unfold sendM
            rw [if_neg g', show ((en : Int) - (ws.length : Int)).toNat = en - ws.length by omega]
          rw [hs]
          have ei : (en : Int) - (ys.length : Int) = ((en - ws.length : Nat) : Int) := by omega
          refine ⟨.ref a3, rfl, .int en, rfl, .ref aw, rfl, aw, ys, rfl, .inr (SqT.of ew'), _, _, rfl, rfl, a3, _, en - ws.length, _, rfl, congrArg V.int ei, SqL.of l'.h, getI (show en - ws.length < ph.length by omega), _, _, rfl, rfl, a3, _, _, en - ws.length, rfl, congrArg V.int ei, l'.h, ixN_nat (by rw [List.length_map]; show en - ws.length < ph.length; omega), ?_⟩
          rw [setI]
          exact ⟨some (.int en), rfl, k'.trans (Kp.put (.inr (.inr rfl))), ⟨by rw [upd_ne l'.nac]; exact l'.s, by rw [upd_ne l'.nbc]; exact l'.w, upd_same, l'.nab, l'.nac, l'.nbc⟩⟩
    · -- stand[wheel] = ..
      obtain ⟨y, rfl, k', l'⟩ := pp
      rw [List.length_map, List.take_length] at l'
      have ew' := la.kt k' _ _ ew
      have ez' := la.kt k' _ _ ez
      refine ⟨.int sn, rfl, sn, 1, rfl, rfl, .ref aw, rfl, .int n, rfl, aw, _, n, _, rfl, rfl, SqT.of ew', atI_nat ey, az, zs, rfl, .inr (SqT.of ez'), _, _, rfl, rfl, by omega, .ref a1, rfl, .int n, rfl, a1, _, n, n, rfl, rfl, l'.s, ixN_nat (by rw [List.length_map]; show n < m.st.length; rw [mf.sl]; exact hn), ?_⟩
      rw [setI, hzl]
      refine q _ (k'.trans (Kp.put (.inl rfl))) ⟨?_, by rw [upd_ne l'.nab.symm]; unfold handleM sentM; rw [hends]; exact l'.w, by rw [upd_ne l'.nac.symm]; unfold handleM sentM; rw [hends]; exact l'.h, l'.nab, l'.nac, l'.nbc⟩
      rw [upd_same]
      unfold handleM
      rw [hst]
end
end K03

set_option maxRecDepth 100000
set_option maxHeartbeats 1000000
namespace K03
open PySem PySem.Spec PyProof.Rows L2 HX
abbrev s_need_moment : Stmt := topS 38
theorem sc_need_moment : FnScope ["board", "thing"] ["board", "thing"] (defScope s_need_moment) := ⟨rfl, rfl, rfl, by decide +kernel, rfl, by decide +kernel, by decide +kernel⟩
abbrev s_is_wheel_number : Stmt := topS 39
theorem sc_is_wheel_number : FnScope ["board", "thing"] ["board", "thing"] (defScope s_is_wheel_number) := ⟨rfl, rfl, rfl, by decide +kernel, rfl, by decide +kernel, by decide +kernel⟩
abbrev s_loosened : Stmt := topS 42
theorem sc_loosened : FnScope ["moment", "stand", "waiting", "held"] ["moment"] (defScope s_loosened) := ⟨rfl, rfl, rfl, by decide +kernel, rfl, by decide +kernel, by decide +kernel⟩
abbrev s_fastened : Stmt := topS 43
theorem sc_fastened : FnScope ["stand", "waiting", "held"] ["stand", "waiting", "held"] (defScope s_fastened) := ⟨rfl, rfl, rfl, by decide +kernel, rfl, by decide +kernel, by decide +kernel⟩
def moD (m : Mo) : PyData := momD m.st m.wt m.hd
theorem nums_true {n : Int} {l : List Int} (hl : (l.length : Int) = n) (hn : ∀ x ∈ l, 0 ≤ x) : numsB n (stepD l) = true := by
  have e1 : partsB (stepD l) n n = true := by
    show (decide (n ≤ ((l.map PyData.int).length : Int)) && decide (((l.map PyData.int).length : Int) ≤ n)) = true
    rw [List.length_map, Bool.and_eq_true, decide_eq_true_eq, decide_eq_true_eq]
    omega
  show (partsB (stepD l) n n && (l.map PyData.int).all natB) = true
  rw [e1, Bool.true_and, List.all_map, List.all_eq_true]
  intro x hx
  exact decide_eq_true (hn x hx)
theorem stand_true {ws : List (List (List Int))} {st : List Int} (hl : st.length = ws.length) (hr : ∀ (i : Nat) (s : Int) (w : List (List Int)), st[i]? = some s → ws[i]? = some w → 0 ≤ s ∧ s < (w.length : Int)) : standB ws (stepD st) = true := by
  have e1 : partsB (stepD st) ws.length ws.length = true := by
    show (decide ((ws.length : Int) ≤ ((st.map PyData.int).length : Int)) && decide (((st.map PyData.int).length : Int) ≤ ws.length)) = true
    rw [List.length_map, Bool.and_eq_true, decide_eq_true_eq, decide_eq_true_eq]
    omega
  show (partsB (stepD st) ws.length ws.length && (List.range ws.length).all (atB (st.map PyData.int) ws)) = true
  rw [e1, Bool.true_and, List.all_eq_true]
  intro i hi
  have hi' : i < ws.length := List.mem_range.mp hi
  have e2 : ws[i]? = some ws[i] := List.getElem?_eq_getElem hi'
  have e3 : st[i]? = some (st[i]'(by omega)) := List.getElem?_eq_getElem (by omega)
  obtain ⟨h0, h1⟩ := hr i _ _ e3 e2
  unfold atB
  rw [List.getElem?_map, e2, e3]
  show (decide ((0 : Int) ≤ _) && decide (_ ≤ _)) = true
  rw [Bool.and_eq_true, decide_eq_true_eq, decide_eq_true_eq]
  omega
theorem moOk_B {ws : List (List (List Int))} {c : Int} {m : Mo} (h : MoOk ws c m) : momentB ws c (moD m) = true := by
  show (standB ws (stepD m.st) && (numsB ws.length (stepD m.wt) && numsB c (stepD m.hd))) = true
  rw [stand_true h.sl h.sr, nums_true (by rw [h.wl]) h.wn, nums_true h.hl h.hn]
  rfl
theorem Td.daF {H : Hp} {v : V} {d : PyData} (h : Td H v d) : Da (fun _ => False) H v d := Td.da (fun _ _ _ z => z) _ _ h
theorem moD_of {H : Hp} {v : V} {m : Mo} (h : Td H v (moD m)) : ∃ T b1 b2 b3, v = .ref T ∧ H T = some (.tup [.ref b1, .ref b2, .ref b3]) ∧ H b1 = some (.tup (m.st.map V.int)) ∧ H b2 = some (.tup (m.wt.map V.int)) ∧ H b3 = some (.tup (m.hd.map V.int)) := by
  have num : ∀ (ns : List Int) (vs : List V), TdAll H vs (ns.map PyData.int) → vs = ns.map V.int := by
    intro ns
    induction ns with
    | nil => intro vs h; cases h; rfl
    | cons n ns ih =>
      intro vs h
      cases h with
      | cons h1 h2 => rw [h1.intOf, ih _ h2]; rfl
  obtain ⟨T, xs, rfl, eT, hx⟩ := Td.tupOf h
  cases hx with
  | @cons v1 _ _ _ h1 hx =>
  cases hx with
  | @cons v2 _ _ _ h2 hx =>
  cases hx with
  | @cons v3 _ _ _ h3 hx =>
  cases hx
  obtain ⟨b1, y1, rfl, e1, g1⟩ := Td.tupOf h1
  obtain ⟨b2, y2, rfl, e2, g2⟩ := Td.tupOf h2
  obtain ⟨b3, y3, rfl, e3, g3⟩ := Td.tupOf h3
  rw [num _ _ g1] at e1
  rw [num _ _ g2] at e2
  rw [num _ _ g3] at e3
  exact ⟨T, b1, b2, b3, rfl, eT, e1, e2, e3⟩
/-- as far as the row is let -/
def walkM (ws : List (List (List Int))) : Nat → Mo → List Nat → Option Nat × Mo
  | _, m, [] => (none, m)
  | i, m, n :: r => if m.wt.getD n 0 = 0 then (some i, m) else walkM ws (i + 1) (handleM ws m n) r
def placeV : Option Nat → V
  | none => .non
  | some i => .int (i : Int)
section
variable {P : Program} {w : World} {K : PySem.W.Frag} {mg : Str → Option Value} {base : Heap} {k : Nat}
def spNeedMom : Sp := fun vs H Q _ => ∃ (vb v : V) (ws : List (List (List Int))) (c : Int) (m : Mo), vs = [vb, v] ∧ Td H vb (boardD ws c) ∧ BoardOk ws c ∧ Td H v (moD m) ∧ MoOk ws c m ∧ ∀ H', Same H H' → Q .non H'
theorem ok_need_moment (D : Def K mg "need_moment" s_need_moment ["board", "thing"]) (c_is_moment : Cal P w K mg base k "is_moment" ["board", "thing"] spMom) : Cal P w K mg base (k + 1) "need_moment" ["board", "thing"] spNeedMom := by
  refine D.ok sc_need_moment (fun vs H Q E h => ?_) (fun f cdv A outer s H vs Q E hr h => ?_)
  · obtain ⟨vb, v, ws, c, m, rfl, _⟩ := h
    rfl
  · obtain ⟨vb, v, ws, c, m, rfl, tb, bok, tv, mok, q⟩ := h
    refine ⟨_, (pss_one (ps_if (pt_not (pt_val (pe_cal c_is_moment hr rfl (pa_cons (pv 0) (pa_cons (pv 1) pa_nil)))))
  (pss_one ps_never)
  pss_nil)), ?_⟩
    refine ⟨vb, rfl, v, rfl, _, _, vb, v, ws, c, _, rfl, Td.daF tb, bok, Td.daF tv, fun H' s' => ⟨_, rfl, ?_⟩⟩
    rw [moOk_B mok]
    exact iteF (q H' s')
def spWheelNo : Sp := fun vs H Q _ => ∃ (vb v : V) (ws : List (List (List Int))) (c : Int) (d : PyData), vs = [vb, v] ∧ Td H vb (boardD ws c) ∧ Da (fun _ => False) H v d ∧ Q (.bl (withinB d 0 ((ws.length : Int) - 1))) H
theorem ok_is_wheel_number (D : Def K mg "is_wheel_number" s_is_wheel_number ["board", "thing"]) (B : Bi mg) (c_is_within : Cal P w K mg base k "is_within" ["thing", "least", "most"] spWithin) : Cal P w K mg base (k + 1) "is_wheel_number" ["board", "thing"] spWheelNo := by
  refine D.ok sc_is_wheel_number (fun vs H Q E h => ?_) (fun f cdv A outer s H vs Q E hr h => ?_)
  · obtain ⟨vb, v, ws, c, d, rfl, _⟩ := h
    rfl
  · obtain ⟨vb, v, ws, c, d, rfl, tb, hd, q⟩ := h
    refine ⟨_, (pss_one (ps_ret (pe_cal c_is_within hr rfl (pa_cons (pv 1) (pa_cons pe_int (pa_cons (pe_op op_sub (pe_callB call_len_seq rfl B.len_ (by decide +kernel) (pa_cons (pe_ix ix_tup (pv 0) pe_int (fun _ _ => rfl)) pa_nil)) pe_int) pa_nil)))))), ?_⟩
    obtain ⟨ab, aw, ys, rfl, eb, ew, hy⟩ := Td.boardOf tb
    have hl : ys.length = ws.length := by rw [hy.len, List.length_map]
    refine ⟨v, rfl, .ref ab, rfl, ab, _, 0, _, rfl, rfl, SqT.of eb, atI_nat (j := 0) rfl, aw, ys, rfl, .inr (SqT.of ew), _, 1, rfl, rfl, _, v, d, 0, _, rfl, hd, ?_⟩
    rw [hl]
    exact q
def spLoose : Sp := fun vs H Q _ => ∃ (v : V) (m : Mo), vs = [v] ∧ Td H v (moD m) ∧ ∀ (T a1 a2 a3 : Addr) (H' : Hp), Same H H' → H' T = some (.tup [.ref a1, .ref a2, .ref a3]) → Laid H' a1 a2 a3 m → H a1 = none → H a2 = none → H a3 = none → Q (.ref T) H'
theorem ok_loosened (D : Def K mg "loosened" s_loosened ["moment"]) (B : Bi mg) : Cal P w K mg base (k + 1) "loosened" ["moment"] spLoose := by
  refine D.ok sc_loosened (fun vs H Q E h => ?_) (fun f cdv A outer s H vs Q E hr h => ?_)
  · obtain ⟨v, m, rfl, _⟩ := h
    rfl
  · obtain ⟨v, m, rfl, tv, q⟩ := h
    refine ⟨_, (pss_cons (ps_asg (pv 0) (pg_tup rfl (pgs_cons (pg_name (i := 1) sc_loosened.nd rfl (Or.inl rfl)) (pgs_cons (pg_name (i := 2) sc_loosened.nd rfl (Or.inl rfl)) (pgs_cons (pg_name (i := 3) sc_loosened.nd rfl (Or.inl rfl)) pgs_nil)))))
  (pss_one (ps_ret (pe_tup (pa_cons (pe_callTy call_list_of rfl B.list_ (by decide +kernel) (pa_cons (pv 1) pa_nil)) (pa_cons (pe_callTy call_list_of rfl B.list_ (by decide +kernel) (pa_cons (pv 2) pa_nil)) (pa_cons (pe_callTy call_list_of rfl B.list_ (by decide +kernel) (pa_cons (pv 3) pa_nil)) pa_nil))))))), ?_⟩
    obtain ⟨T, b1, b2, b3, rfl, eT, e1, e2, e3⟩ := moD_of tv
    refine ⟨.ref T, rfl, T, _, rfl, SqT.of eT, rfl, _, _, rfl, _, _, rfl, _, _, rfl, rfl, ?_⟩
    refine ⟨.ref b1, rfl, b1, _, rfl, .inr (SqT.of e1), fun a1 n1 => ?_⟩
    have s1 : Same H (upd H a1 (.lst (m.st.map V.int))) := Same.new n1
    have f1 : (upd H a1 (.lst (m.st.map V.int))) a1 = some (.lst (m.st.map V.int)) := upd_same
    generalize upd H a1 (.lst (m.st.map V.int)) = H1 at s1 f1 ⊢
    refine ⟨.ref b2, rfl, b2, _, rfl, .inr (SqT.of (s1 _ _ e2)), fun a2 n2 => ?_⟩
    have s2 : Same H1 (upd H1 a2 (.lst (m.wt.map V.int))) := Same.new n2
    have f2 : (upd H1 a2 (.lst (m.wt.map V.int))) a2 = some (.lst (m.wt.map V.int)) := upd_same
    generalize upd H1 a2 (.lst (m.wt.map V.int)) = H2 at s2 f2 ⊢
    refine ⟨.ref b3, rfl, b3, _, rfl, .inr (SqT.of (s2 _ _ (s1 _ _ e3))), fun a3 n3 => ?_⟩
    have s3 : Same H2 (upd H2 a3 (.lst (m.hd.map V.int))) := Same.new n3
    have f3 : (upd H2 a3 (.lst (m.hd.map V.int))) a3 = some (.lst (m.hd.map V.int)) := upd_same
    generalize upd H2 a3 (.lst (m.hd.map V.int)) = H3 at s3 f3 ⊢
    refine ⟨by show 3 ≤ sizeLine; decide, fun U nU => ?_⟩
    have s4 : Same H3 (upd H3 U (.tup [.ref a1, .ref a2, .ref a3])) := Same.new nU
    have none_of : ∀ {Ha Hb : Hp} {x : Addr}, Same Ha Hb → Hb x = none → Ha x = none := fun {Ha Hb x} ss e => by
      cases e' : Ha x with
      | none => rfl
      | some o => rw [ss _ _ e'] at e; cases e
    refine q U a1 a2 a3 _ (s1.trans (s2.trans (s3.trans s4))) upd_same ⟨s4 _ _ (s3 _ _ (s2 _ _ f1)), s4 _ _ (s3 _ _ f2), s4 _ _ f3, ?_, ?_, ?_⟩ n1 (none_of s1 n2) (none_of s1 (none_of s2 n3))
    · exact ne_of_none f1 n2
    · exact ne_of_none (s2 _ _ f1) n3
    · exact ne_of_none f2 n3
def spFast : Sp := fun vs H Q _ => ∃ (a1 a2 a3 : Addr) (m : Mo), vs = [.ref a1, .ref a2, .ref a3] ∧ Laid H a1 a2 a3 m ∧ ∀ (v : V) (H' : Hp), Same H H' → Td H' v (moD m) → Q v H'
theorem ok_fastened (D : Def K mg "fastened" s_fastened ["stand", "waiting", "held"]) (B : Bi mg) : Cal P w K mg base (k + 1) "fastened" ["stand", "waiting", "held"] spFast := by
  refine D.ok sc_fastened (fun vs H Q E h => ?_) (fun f cdv A outer s H vs Q E hr h => ?_)
  · obtain ⟨a1, a2, a3, m, rfl, _⟩ := h
    rfl
  · obtain ⟨a1, a2, a3, m, rfl, la, q⟩ := h
    refine ⟨_, (pss_one (ps_ret (pe_tup (pa_cons (pe_callTy call_tuple_of rfl B.tuple_ (by decide +kernel) (pa_cons (pv 0) pa_nil)) (pa_cons (pe_callTy call_tuple_of rfl B.tuple_ (by decide +kernel) (pa_cons (pv 1) pa_nil)) (pa_cons (pe_callTy call_tuple_of rfl B.tuple_ (by decide +kernel) (pa_cons (pv 2) pa_nil)) pa_nil)))))), ?_⟩
    refine ⟨.ref a1, rfl, a1, _, rfl, .inl ⟨SqL.of la.s, fun T1 n1 => ?_⟩⟩
    have s1 : Same H (upd H T1 (.tup (m.st.map V.int))) := Same.new n1
    have f1 : (upd H T1 (.tup (m.st.map V.int))) T1 = some (.tup (m.st.map V.int)) := upd_same
    generalize upd H T1 (.tup (m.st.map V.int)) = H1 at s1 f1 ⊢
    refine ⟨.ref a2, rfl, a2, _, rfl, .inl ⟨SqL.of (s1 _ _ la.w), fun T2 n2 => ?_⟩⟩
    have s2 : Same H1 (upd H1 T2 (.tup (m.wt.map V.int))) := Same.new n2
    have f2 : (upd H1 T2 (.tup (m.wt.map V.int))) T2 = some (.tup (m.wt.map V.int)) := upd_same
    generalize upd H1 T2 (.tup (m.wt.map V.int)) = H2 at s2 f2 ⊢
    refine ⟨.ref a3, rfl, a3, _, rfl, .inl ⟨SqL.of (s2 _ _ (s1 _ _ la.h)), fun T3 n3 => ?_⟩⟩
    have s3 : Same H2 (upd H2 T3 (.tup (m.hd.map V.int))) := Same.new n3
    have f3 : (upd H2 T3 (.tup (m.hd.map V.int))) T3 = some (.tup (m.hd.map V.int)) := upd_same
    generalize upd H2 T3 (.tup (m.hd.map V.int)) = H3 at s3 f3 ⊢
    refine ⟨by show 3 ≤ sizeLine; decide, fun U nU => q (.ref U) _ (s1.trans (s2.trans (s3.trans (Same.new nU)))) ?_⟩
    exact Td.new nU (.cons (.tup (s3 _ _ (s2 _ _ f1)) (TdAll.ints _)) (.cons (.tup (s3 _ _ f2) (TdAll.ints _)) (.cons (.tup f3 (TdAll.ints _)) .nil)))
end
end K03

set_option maxRecDepth 100000
set_option maxHeartbeats 1000000
namespace K03
open PySem PySem.Spec PyProof.Rows L2 HX
theorem walkM_nil {ws : List (List (List Int))} {i : Nat} {m : Mo} : walkM ws i m [] = (none, m) := rfl
theorem walkM_stop {ws : List (List (List Int))} {i n : Nat} {m : Mo} {r : List Nat} (h : m.wt.getD n 0 = 0) : walkM ws i m (n :: r) = (some i, m) := if_pos h
theorem walkM_go {ws : List (List (List Int))} {i n : Nat} {m : Mo} {r : List Nat} (h : ¬ m.wt.getD n 0 = 0) : walkM ws i m (n :: r) = walkM ws (i + 1) (handleM ws m n) r := if_neg h
theorem Same.kp3 {H H1 H2 : Hp} {a b c : Addr} (s : Same H H1) (k : Kp (N3 a b c) H1 H2) (na : H a = none) (nb : H b = none) (nc : H c = none) : Same H H2 := fun x o e => k _ _ (s _ _ e) fun z => by
  rcases z with rfl | rfl | rfl
  · rw [na] at e; cases e
  · rw [nb] at e; cases e
  · rw [nc] at e; cases e
theorem Laid.same {H H' : Hp} {a b c : Addr} {m : Mo} (l : Laid H a b c m) (s : Same H H') : Laid H' a b c m := ⟨s _ _ l.s, s _ _ l.w, s _ _ l.h, l.nab, l.nac, l.nbc⟩
section
variable {P : Program} {w : World} {K : PySem.W.Frag} {mg : Str → Option Value} {base : Heap} {k : Nat}
end
end K03

set_option maxRecDepth 100000
set_option maxHeartbeats 1000000
namespace K03
open PySem PySem.Spec PyProof.Rows L2 HX
abbrev s_need_wheel : Stmt := topS 40
theorem sc_need_wheel : FnScope ["board", "thing"] ["board", "thing"] (defScope s_need_wheel) := ⟨rfl, rfl, rfl, by decide +kernel, rfl, by decide +kernel, by decide +kernel⟩
abbrev s_handled : Stmt := topS 45
theorem sc_handled : FnScope ["board", "moment", "wheel", "stand", "waiting", "held"] ["board", "moment", "wheel"] (defScope s_handled) := ⟨rfl, rfl, rfl, by decide +kernel, rfl, by decide +kernel, by decide +kernel⟩
section
variable {P : Program} {w : World} {K : PySem.W.Frag} {mg : Str → Option Value} {base : Heap} {k : Nat}
/-! ### first_wrong, is_let; a marble handled where one waits -/
def spNeedWheel : Sp := fun vs H Q _ => ∃ (vb : V) (n : Nat) (ws : List (List (List Int))) (c : Int), vs = [vb, .int n] ∧ Td H vb (boardD ws c) ∧ n < ws.length ∧ Q .non H
theorem ok_need_wheel (D : Def K mg "need_wheel" s_need_wheel ["board", "thing"]) (c_is_wheel_number : Cal P w K mg base k "is_wheel_number" ["board", "thing"] spWheelNo) : Cal P w K mg base (k + 1) "need_wheel" ["board", "thing"] spNeedWheel := by
  refine D.ok sc_need_wheel (fun vs H Q E h => ?_) (fun f cdv A outer s H vs Q E hr h => ?_)
  · obtain ⟨vb, n, ws, c, rfl, _⟩ := h
    rfl
  · obtain ⟨vb, n, ws, c, rfl, tb, hn, q⟩ := h
    refine ⟨_, (pss_one (ps_if (pt_not (pt_val (pe_cal c_is_wheel_number hr rfl (pa_cons (pv 0) (pa_cons (pv 1) pa_nil)))))
  (pss_one ps_never)
  pss_nil)), ?_⟩
    refine ⟨vb, rfl, .int n, rfl, vb, _, ws, c, .int n, rfl, tb, .int _, _, rfl, ?_⟩
    have e : withinB (.int (n : Int)) 0 ((ws.length : Int) - 1) = true := by
      show (decide ((0 : Int) ≤ (n : Int)) && decide ((n : Int) ≤ _)) = true
      rw [Bool.and_eq_true, decide_eq_true_eq, decide_eq_true_eq]
      omega
    rw [e]
    exact iteF q
def spGone : Sp := fun vs H Q _ => ∃ (vb v : V) (n : Nat) (ws : List (List (List Int))) (c : Int) (m : Mo), vs = [vb, v, .int n] ∧ Td H vb (boardD ws c) ∧ BoardOk ws c ∧ Td H v (moD m) ∧ MoOk ws c m ∧ n < ws.length ∧ 0 < m.wt.getD n 0 ∧ ∀ (v' : V) (H' : Hp), Same H H' → Td H' v' (moD (handleM ws m n)) → MoOk ws c (handleM ws m n) → Q v' H'
theorem ok_gone (D : Def K mg "handled" s_handled ["board", "moment", "wheel"]) (B : Bi mg) (c_need_moment : Cal P w K mg base k "need_moment" ["board", "thing"] spNeedMom) (c_need_wheel : Cal P w K mg base k "need_wheel" ["board", "thing"] spNeedWheel) (c_loosened : Cal P w K mg base k "loosened" ["moment"] spLoose) (c_fastened : Cal P w K mg base k "fastened" ["stand", "waiting", "held"] spFast)
    (c_handle_marble : Cal P w K mg base k "handle_marble" ["board", "parts", "wheel"] spHandle) : Cal P w K mg base (k + 1) "handled" ["board", "moment", "wheel"] spGone := by
  refine D.ok sc_handled (fun vs H Q E h => ?_) (fun f cdv A outer s H vs Q E hr h => ?_)
  · obtain ⟨vb, v, n, ws, c, m, rfl, _⟩ := h
    rfl
  · obtain ⟨vb, v, n, ws, c, m, rfl, tb, bok, tv, mok, hn, hp, q⟩ := h
    refine ⟨_, (pss_cons (ps_expr (pe_cal c_need_moment hr rfl (pa_cons (pv 0) (pa_cons (pv 1) pa_nil))))
  (pss_cons (ps_expr (pe_cal c_need_wheel hr rfl (pa_cons (pv 0) (pa_cons (pv 2) pa_nil))))
  (pss_cons (ps_asg (pe_cal c_loosened hr rfl (pa_cons (pv 1) pa_nil)) (pg_tup rfl (pgs_cons (pg_name (i := 3) sc_handled.nd rfl (Or.inl rfl)) (pgs_cons (pg_name (i := 4) sc_handled.nd rfl (Or.inl rfl)) (pgs_cons (pg_name (i := 5) sc_handled.nd rfl (Or.inl rfl)) pgs_nil)))))
  (pss_cons (ps_if (pt_cmpR op_eq (pe_ix ix_list (pv 4) (pv 2) (fun _ _ => rfl)) pe_int (nomark _))
  (pss_one ps_never)
  pss_nil)
  (pss_cons (ps_expr (pe_cal c_handle_marble hr rfl (pa_cons (pv 0) (pa_cons (pe_tup (pa_cons (pv 3) (pa_cons (pv 4) (pa_cons (pv 5) pa_nil)))) (pa_cons (pv 2) pa_nil)))))
  (pss_one (ps_ret (pe_cal c_fastened hr rfl (pa_cons (pv 3) (pa_cons (pv 4) (pa_cons (pv 5) pa_nil))))))))))), ?_⟩
    have w1 : ∀ x ∈ ws, 1 ≤ x.length := fun x hx => (bok.wheels x hx).1
    refine ⟨vb, rfl, v, rfl, vb, v, ws, c, m, rfl, tb, bok, tv, mok, fun H1 s1 => ?_⟩
    have tb1 := Td.mono (KT.same s1) _ _ tb
    refine ⟨vb, rfl, .int n, rfl, vb, n, ws, c, rfl, tb1, hn, ?_⟩
    refine ⟨v, rfl, v, m, rfl, Td.mono (KT.same s1) _ _ tv, fun T a1 a2 a3 H2 s2 eT la n1 n2 n3 => ?_⟩
    refine ⟨T, _, rfl, SqT.of eT, rfl, _, _, rfl, _, _, rfl, _, _, rfl, rfl, ?_⟩
    have hwn : n < m.wt.length := by rw [mok.wl]; exact hn
    refine ⟨.ref a2, rfl, .int n, rfl, a2, _, n, _, rfl, rfl, SqL.of la.w, atI_nat (getI hwn), rfl, _, rfl, ?_⟩
    have e : decide (V.int (m.wt.getD n 0) = V.int 0) = false := decide_eq_false fun z => by
      have := V.int.inj z
      omega
    rw [e]
    refine iteF ?_
    refine ⟨vb, rfl, .ref a1, rfl, .ref a2, rfl, .ref a3, rfl, by show 3 ≤ sizeLine; decide, fun p np => ?_⟩
    have sp : Same H2 (upd H2 p (.tup [.ref a1, .ref a2, .ref a3])) := Same.new np
    refine ⟨.int n, rfl, vb, p, a1, a2, a3, n, ws, c, m, rfl, Td.mono (KT.same (s2.trans sp)) _ _ tb1, bok, upd_same, Laid.same la sp, mok.toMoF, hn, fun H5 k5 l5 => ?_⟩
    have none1 : ∀ {x : Addr}, H1 x = none → H x = none := fun {x} e => by
      cases e' : H x with
      | none => rfl
      | some o => rw [s1 _ _ e'] at e; cases e
    refine ⟨.ref a1, rfl, .ref a2, rfl, .ref a3, rfl, a1, a2, a3, _, rfl, l5, fun vm H6 s6 tm => ?_⟩
    exact q vm H6 ((Same.kp3 ((s1.trans s2).trans sp) k5 (none1 n1) (none1 n2) (none1 n3)).trans s6) tm (mok.handle w1 hp)
end
end K03

set_option maxRecDepth 100000
set_option maxHeartbeats 1000000
namespace K03
open PySem PySem.Spec PyProof.Rows L2 HX
abbrev s__law_pick : Stmt := topS 51
theorem sc__law_pick : FnScope ["_law_pen_here", "_law_some"] ["_law_pen_here", "_law_some"] (defScope s__law_pick) := ⟨rfl, rfl, rfl, by decide +kernel, rfl, by decide +kernel, by decide +kernel⟩
abbrev s__law_handle : Stmt := topS 56
theorem sc__law_handle : FnScope ["_law_board_here", "_law_moment_here", "_law_wheel", "_law_wheels", "_law_cups", "_law_stand", "_law_waiting", "_law_held", "_law_end", "_law_row"] ["_law_board_here", "_law_moment_here", "_law_wheel"] (defScope s__law_handle) := ⟨rfl, rfl, rfl, by decide +kernel, rfl, by decide +kernel, by decide +kernel⟩
abbrev s__law_ready : Stmt := topS 57
theorem sc__law_ready : FnScope ["_law_moment_here", "_law_wheel", "_law_many"] ["_law_moment_here"] (defScope s__law_ready) := ⟨rfl, rfl, rfl, by decide +kernel, rfl, by decide +kernel, by decide +kernel⟩
def countsOf (W : Nat) (row : List Nat) : List Int := (List.range W).map fun n => ((row.count n : Nat) : Int)
theorem count_cast (row : List Nat) (n : Nat) : (row.map fun n : Nat => (n : Int)).count (n : Int) = row.count n := by
  induction row with
  | nil => rfl
  | cons a r ih =>
    rw [List.map_cons, List.count_cons, List.count_cons, ih]
    congr 1
    by_cases e : a = n
    · subst e
      simp
    · have : ¬ (a : Int) = (n : Int) := fun z => e (by omega)
      simp [e, this]
def readyM (wt : List Int) : List Nat := (List.range wt.length).filter fun n => decide (wt.getD n 0 > 0)
section
variable {P : Program} {w : World} {K : PySem.W.Frag} {mg : Str → Option Value} {base : Heap} {k : Nat}
def spPick : Sp := fun vs H Q _ => ∃ (pn L : Addr) (xs : List V) (m : Nat), vs = [.ref pn, .ref L] ∧ H L = some (.lst xs) ∧ L ≠ pn ∧ 0 < xs.length ∧ xs.length ≤ 1000 ∧ PenAt H pn (m + 1) ∧ ∀ (i : Nat) (x : V) (H' : Hp), xs[i]? = some x → Kp (· = pn) H H' → PenAt H' pn m → Q x H'
theorem ok_pick (D : Def K mg "_law_pick" s__law_pick ["_law_pen_here", "_law_some"]) (B : Bi mg) (c__law_draw : Cal P w K mg base k "_law_draw" ["_law_pen_here", "_law_many"] spDraw) : Cal P w K mg base (k + 1) "_law_pick" ["_law_pen_here", "_law_some"] spPick := by
  refine D.ok sc__law_pick (fun vs H Q E h => ?_) (fun f cdv A outer s H vs Q E hr h => ?_)
  · obtain ⟨pn, L, xs, m, rfl, _⟩ := h
    rfl
  · obtain ⟨pn, L, xs, m, rfl, eL, nL, x0, x1, pen, q⟩ := h
    refine ⟨_, (pss_one (ps_ret (pe_ix ix_list (pv 1) (pe_cal c__law_draw hr rfl (pa_cons (pv 0) (pa_cons (pe_callB call_len_seq rfl B.len_ (by decide +kernel) (pa_cons (pv 1) pa_nil)) pa_nil))) (fun _ _ => rfl)))), ?_⟩
    refine ⟨.ref L, rfl, .ref pn, rfl, .ref L, rfl, L, xs, rfl, .inl (SqL.of eL), pn, _, m, rfl, by omega, by omega, pen, fun r H1 r0 r1 k1 pen1 => ?_⟩
    obtain ⟨n, rfl⟩ : ∃ n : Nat, r = (n : Int) := ⟨r.toNat, by omega⟩
    have hn : n < xs.length := by omega
    exact ⟨L, xs, n, xs[n], rfl, rfl, SqL.of (k1 _ _ eL nL), atI_nat (List.getElem?_eq_getElem hn), q n _ H1 (List.getElem?_eq_getElem hn) k1 pen1⟩
def spReady : Sp := fun vs H Q _ => ∃ (v : V) (m : Mo), vs = [v] ∧ Td H v (moD m) ∧ m.wt.length ≤ 1000 ∧ ∀ (D : Addr) (H' : Hp), Same H H' → H' D = some (.lst (rowV (readyM m.wt))) → H D = none → Q (.ref D) H'
theorem ok_ready (D : Def K mg "_law_ready" s__law_ready ["_law_moment_here"]) (B2 : Bi2 mg) : Cal P w K mg base (k + 1) "_law_ready" ["_law_moment_here"] spReady := by
  refine D.ok sc__law_ready (fun vs H Q E h => ?_) (fun f cdv A outer s H vs Q E hr h => ?_)
  · obtain ⟨v, m, rfl, _⟩ := h
    rfl
  · obtain ⟨v, m, rfl, tv, hz, q⟩ := h
    refine ⟨_, (pss_one (ps_ret (pe_lc (own := [("_law_wheel", 1), ("_law_many", 2)]) rfl sc__law_ready.nd (pi_enumT rfl B2.enumerate_ (pa_cons (pe_ix ix_tup (pv 0) pe_int (fun _ _ => rfl)) pa_nil)) (blkOk_by (N := ["_law_moment_here", "_law_wheel", "_law_many"]) (sc := defScope s__law_ready) (by decide +kernel)) (fun _ _ _ _ _ => (pg_tupK (K := K) (n := 2) rfl (pgs_cons (pg_name (i := 1) sc__law_ready.nd rfl (Or.inl rfl)) (pgs_cons (pg_name (i := 2) sc__law_ready.nd rfl (Or.inl rfl)) pgs_nil)))) (fun _ _ _ _ _ => (pts_one (pt_cmpR op_gt (pv 2) pe_int (nomark _)))) (fun _ _ _ _ _ => (pv 1))))), ?_⟩
    obtain ⟨T, b1, b2, b3, rfl, eT, e1, e2, e3⟩ := moD_of tv
    refine ⟨.ref T, rfl, T, _, 1, _, rfl, rfl, SqT.of eT, atI_nat (j := 1) rfl, .t, b2, _, rfl, SqT.of e2, fun D hD => ?_⟩
    refine lc_it (walk_enumK (xs := m.wt.map V.int)) (fun i H' => Same H H' ∧ H' D = some (.lst (rowV ((List.range i).filter fun n => decide (m.wt.getD n 0 > 0))))) ⟨Same.new hD, by rw [upd_same]; rfl⟩ (fun i H' _ h => SqT.of (h.1 _ _ e2)) (fun i x H1 H2 hi h y => ?_) (fun H' h => ?_)
    · obtain ⟨s1, eD⟩ := h
      obtain ⟨U, x1, x2, rfl, nU, rfl, f1, f2⟩ := y
      obtain rfl := Option.some.inj f1
      have hi' : i < m.wt.length := by
        rw [List.length_map] at hi
        exact hi
      have f2' : (m.wt.map V.int)[i]? = some x2 := f2
      rw [getI hi'] at f2'
      obtain rfl := Option.some.inj f2'
      have sU : Same H1 (upd H1 U (.tup [.int (i : Nat), .int (m.wt.getD i 0)])) := Same.new nU
      refine ⟨U, _, rfl, SqT.of upd_same, rfl, _, _, rfl, _, _, rfl, rfl, wipe2 (by decide) _ _, .int (m.wt.getD i 0), rfl, _, 0, rfl, rfl, _, rfl, ite2 (fun g => ?_) (fun g => ?_)⟩
      · refine ⟨.int (i : Nat), rfl, _, sU _ _ eD, ?_, fun c o e => ?_, ?_⟩
        · unfold rowV
          rw [List.length_map]
          have hf := List.length_filter_le (fun n => decide (m.wt.getD n 0 > 0)) (List.range i)
          rw [List.length_range] at hf
          exact small1000 (by omega)
        · rw [upd_ne (ne_of_none e hD)]
          exact sU _ _ (s1 _ _ e)
        · rw [upd_same, List.range_succ, List.filter_append]
          have : ([i].filter fun n => decide (m.wt.getD n 0 > 0)) = [i] := by
            rw [List.filter_cons, if_pos g]
            rfl
          rw [this]
          unfold rowV
          rw [List.map_append]
          rfl
      · refine ⟨s1.trans sU, ?_⟩
        rw [List.range_succ, List.filter_append]
        have : ([i].filter fun n => decide (m.wt.getD n 0 > 0)) = [] := by
          rw [List.filter_cons, if_neg g]
          rfl
        rw [this, List.append_nil]
        exact sU _ _ eD
    · refine q D H' h.1 ?_ hD
      rw [h.2, List.length_map]
      rfl
end
end K03

set_option maxRecDepth 100000
set_option maxHeartbeats 1000000
namespace K03
open PySem PySem.Spec PyProof.Rows L2 HX
section
variable {P : Program} {w : World} {K : PySem.W.Frag} {mg : Str → Option Value} {base : Heap} {k : Nat}
def spHandled : Sp := fun vs H Q _ => ∃ (vb v : V) (n : Nat) (ws : List (List (List Int))) (c : Int) (m : Mo), vs = [vb, v, .int n] ∧ Td H vb (boardD ws c) ∧ BoardOk ws c ∧ Td H v (moD m) ∧ MoF ws c m ∧ n < ws.length ∧ ∀ (v' : V) (H' : Hp), Same H H' → Td H' v' (moD (handleM ws m n)) → Q v' H'
theorem ok_handled (D : Def K mg "_law_handle" s__law_handle ["_law_board_here", "_law_moment_here", "_law_wheel"]) (B : Bi mg) : Cal P w K mg base (k + 1) "_law_handle" ["_law_board_here", "_law_moment_here", "_law_wheel"] spHandled := by
  refine D.ok sc__law_handle (fun vs H Q E h => ?_) (fun f cdv A outer s H vs Q E hr h => ?_)
  · obtain ⟨vb, v, n, ws, c, m, rfl, _⟩ := h
    rfl
  · obtain ⟨vb, v, n, ws, c, m, rfl, tb, bok, tv, mf, hn, q⟩ := h
    refine ⟨_, (pss_cons (ps_asg (pv 0) (pg_tup rfl (pgs_cons (pg_name (i := 3) sc__law_handle.nd rfl (Or.inl rfl)) (pgs_cons (pg_name (i := 4) sc__law_handle.nd rfl (Or.inl rfl)) pgs_nil))))
  (pss_cons (ps_asg (pe_lc (own := [("_law_row", 9)]) rfl sc__law_handle.nd (pi_tup (pv 1)) (blkOk_by (N := ["_law_board_here", "_law_moment_here", "_law_wheel", "_law_wheels", "_law_cups", "_law_stand", "_law_waiting", "_law_held", "_law_end", "_law_row"]) (sc := defScope s__law_handle) (by decide +kernel)) (fun _ _ _ _ _ => (pg_name (i := 9) sc__law_handle.nd rfl (Or.inl rfl))) (fun _ _ _ _ _ => pts_nil) (fun _ _ _ _ _ => (pe_callTy (call_list_ofK (K := K)) rfl B.list_ (by decide +kernel) (pa_cons (pv 9) pa_nil)))) (pg_unl rfl (pgs_cons (pg_name (i := 5) sc__law_handle.nd rfl (Or.inl rfl)) (pgs_cons (pg_name (i := 6) sc__law_handle.nd rfl (Or.inl rfl)) (pgs_cons (pg_name (i := 7) sc__law_handle.nd rfl (Or.inl rfl)) pgs_nil)))))
  (pss_cons (ps_asg (pe_op op_sub (pe_ix ix_list (pv 6) (pv 2) (fun _ _ => rfl)) pe_int) (pg_sub (pv 6) (pv 2) set_list))
  (pss_cons (ps_for PassesOwn.never rfl (pi_tup (pe_ix ix_tup (pe_ix ix_tup (pv 3) (pv 2) (fun _ _ => rfl)) (pe_ix ix_list (pv 5) (pv 2) (fun _ _ => rfl)) (fun _ _ => rfl))) (pg_name (i := 8) sc__law_handle.nd rfl (Or.inl rfl))
  (pss_one (ps_if (pt_cmpR op_ge (pv 8) (pe_callB call_len_seq rfl B.len_ (by decide +kernel) (pa_cons (pv 3) pa_nil)) (nomark _))
  (pss_one (ps_asg (pe_op op_add (pe_ix ix_list (pv 7) (pe_op op_sub (pv 8) (pe_callB call_len_seq rfl B.len_ (by decide +kernel) (pa_cons (pv 3) pa_nil))) (fun _ _ => rfl)) pe_int) (pg_sub (pv 7) (pe_op op_sub (pv 8) (pe_callB call_len_seq rfl B.len_ (by decide +kernel) (pa_cons (pv 3) pa_nil))) set_list)))
  (pss_one (ps_asg (pe_op op_add (pe_ix ix_list (pv 6) (pv 8) (fun _ _ => rfl)) pe_int) (pg_sub (pv 6) (pv 8) set_list))))))
  (pss_cons (ps_asg (pe_op op_add (pe_ix ix_list (pv 5) (pv 2) (fun _ _ => rfl)) pe_int) (pg_sub (pv 5) (pv 2) set_list))
  (pss_cons (ps_if (pt_cmpR op_eq (pe_ix ix_list (pv 5) (pv 2) (fun _ _ => rfl)) (pe_callB call_len_seq rfl B.len_ (by decide +kernel) (pa_cons (pe_ix ix_tup (pv 3) (pv 2) (fun _ _ => rfl)) pa_nil)) (nomark _))
  (pss_one (ps_asg pe_int (pg_sub (pv 5) (pv 2) set_list)))
  pss_nil)
  (pss_one (ps_ret (pe_tup (pa_cons (pe_callTy call_tuple_of rfl B.tuple_ (by decide +kernel) (pa_cons (pv 5) pa_nil)) (pa_cons (pe_callTy call_tuple_of rfl B.tuple_ (by decide +kernel) (pa_cons (pv 6) pa_nil)) (pa_cons (pe_callTy call_tuple_of rfl B.tuple_ (by decide +kernel) (pa_cons (pv 7) pa_nil)) pa_nil)))))))))))), ?_⟩
    obtain ⟨ab, aw, ys, rfl, eb, ew, hy⟩ := Td.boardOf tb
    obtain ⟨TM, b1, b2, b3, rfl, eT, f1, f2, f3⟩ := moD_of tv
    have hl : ys.length = ws.length := by rw [hy.len, List.length_map]
    obtain ⟨az, zs, ey, ez, hz⟩ := hy.wheelAt hn
    have ewn : ws[n]? = some (ws.getD n []) := by rw [List.getD_eq_getElem?_getD, List.getElem?_eq_getElem hn]; rfl
    have esn : m.st[n]? = some (m.st.getD n 0) := by rw [List.getD_eq_getElem?_getD, List.getElem?_eq_getElem (by rw [mf.sl]; exact hn)]; rfl
    obtain ⟨s0, s1⟩ := mf.sr n _ _ esn ewn
    obtain ⟨x1, x4, wok⟩ := bok.wheels _ (List.mem_of_getElem? ewn)
    generalize hst : m.st.getD n 0 = sv at esn s0 s1
    obtain ⟨sn, rfl⟩ : ∃ sn : Nat, sv = (sn : Int) := ⟨sv.toNat, by omega⟩
    have hsn : sn < (ws.getD n []).length := by omega
    obtain ⟨ae, ee, ees⟩ := hz.stepAt hsn
    have hends : endsAt ws m.st n = (ws.getD n []).getD sn [] := by
      unfold endsAt
      rw [hst]
      rfl
    have eok := wok ((ws.getD n []).getD sn []) (List.mem_of_getElem? (show (ws.getD n [])[sn]? = some _ by rw [List.getD_eq_getElem?_getD (l := ws.getD n []) (i := sn), List.getElem?_eq_getElem hsn]; rfl))
    have hzl : zs.length = (ws.getD n []).length := by rw [hz.len, List.length_map]
    have hwl := mf.wl
    have hhl := mf.hl
    have none_of : ∀ {Ha Hb : Hp} {x : Addr}, Same Ha Hb → Hb x = none → Ha x = none := fun {Ha Hb x} ss e => by
      cases e' : Ha x with
      | none => rfl
      | some o => rw [ss _ _ e'] at e; cases e
    -- wheels, cups
    refine ⟨.ref ab, rfl, ab, _, rfl, SqT.of eb, rfl, _, _, rfl, _, _, rfl, rfl, ?_⟩
    -- the three lists
    refine ⟨.ref TM, rfl, TM, rfl, ⟨_, SqT.of eT⟩, fun L nL => ?_⟩
    refine lc_tup (xs := [V.ref b1, .ref b2, .ref b3]) (fun i H' => Same H H' ∧ ∃ as : List Addr, as.length = i ∧ H' L = some (.lst (as.map V.ref)) ∧ (∀ a ∈ as, H a = none) ∧ (∀ a ∈ as, a ≠ L) ∧ as.Nodup ∧
      (∀ (j : Nat) (a : Addr) (l : List Int), as[j]? = some a → [m.st, m.wt, m.hd][j]? = some l → H' a = some (.lst (l.map V.int)))) ⟨Same.new nL, [], rfl, upd_same, (fun _ z => nomatch z), (fun _ z => nomatch z), List.nodup_nil, fun j a l e => by simp at e⟩ (fun i H' _ h => SqT.of (h.1 _ _ eT)) (fun i x H' hi h => ?_) (fun H' h => ?_)
    · obtain ⟨s', as, al, eL, an, aL, nd, av⟩ := h
      have hi3 : i < 3 := (List.getElem?_eq_some_iff.mp hi).1
      obtain ⟨b, l, hb, hbl, hil⟩ : ∃ (b : Addr) (l : List Int), x = .ref b ∧ H b = some (.tup (l.map V.int)) ∧ [m.st, m.wt, m.hd][i]? = some l := by
        match i, hi3, hi with
        | 0, _, hi => exact ⟨b1, m.st, (Option.some.inj hi).symm, f1, rfl⟩
        | 1, _, hi => exact ⟨b2, m.wt, (Option.some.inj hi).symm, f2, rfl⟩
        | 2, _, hi => exact ⟨b3, m.hd, (Option.some.inj hi).symm, f3, rfl⟩
      subst hb
      refine ⟨wipe1 _, tYes_eq (iteT ⟨.ref b, rfl, b, _, rfl, .inr (SqT.of (s' _ _ hbl)), fun a na => ?_⟩)⟩
      have naL : a ≠ L := fun z => by rw [z, eL] at na; cases na
      have naA : ∀ a' ∈ as, a' ≠ a := fun a' ha' z => by
        obtain ⟨j, hj⟩ := List.mem_iff_getElem?.mp ha'
        have hj' : j < 3 := by
          have := (List.getElem?_eq_some_iff.mp hj).1
          omega
        have hlj : [m.st, m.wt, m.hd][j]? = some ([m.st, m.wt, m.hd][j]'(by simpa using hj')) := List.getElem?_eq_getElem (by simpa using hj')
        rw [z] at hj
        rw [av j a _ hj hlj] at na
        cases na
      refine ⟨as.map V.ref, by rw [upd_ne naL.symm]; exact eL, by rw [List.length_map]; exact small1000 (by omega), fun c o e => ?_, as ++ [a], ?_, ?_, ?_, ?_, ?_, ?_⟩
      · have hcL : c ≠ L := ne_of_none e nL
        have hca : c ≠ a := ne_of_none (s' _ _ e) na
        rw [upd_ne hcL, upd_ne hca]
        exact s' _ _ e
      · rw [List.length_append, al]
        rfl
      · rw [upd_same, List.map_append]
        rfl
      · intro a' ha'
        rcases List.mem_append.mp ha' with ha' | ha'
        · exact an a' ha'
        · rw [List.mem_singleton.mp ha']
          exact none_of s' na
      · intro a' ha'
        rcases List.mem_append.mp ha' with ha' | ha'
        · exact aL a' ha'
        · rw [List.mem_singleton.mp ha']
          exact naL
      · rw [List.nodup_append]
        exact ⟨nd, List.nodup_cons.mpr ⟨(fun z => nomatch z), List.nodup_nil⟩, fun x hx y hy => by rw [List.mem_singleton.mp hy]; exact naA x hx⟩
      · intro j a' l' e1 e2
        have hja : a' ∈ as ++ [a] := List.mem_of_getElem? e1
        have haL' : a' ≠ L := by
          rcases List.mem_append.mp hja with ha' | ha'
          · exact aL a' ha'
          · rw [List.mem_singleton.mp ha']
            exact naL
        rw [upd_ne haL']
        by_cases hlt : j < as.length
        · rw [List.getElem?_append_left hlt] at e1
          rw [upd_ne (naA a' (List.mem_of_getElem? e1))]
          exact av j a' l' e1 e2
        · rw [List.getElem?_append_right (by omega)] at e1
          have h0 : j - as.length = 0 := by
            have := (List.getElem?_eq_some_iff.mp e1).1
            simp at this
            omega
          rw [h0] at e1
          have e3 : a = a' := by simpa using e1
          have e4 : j = i := by omega
          subst e3 e4
          rw [hil] at e2
          rw [← Option.some.inj e2, upd_same]
    · obtain ⟨s', as, al, eL, an, aL, nd, av⟩ := h
      obtain ⟨a1, a2, a3, rfl⟩ : ∃ a1 a2 a3, as = [a1, a2, a3] := by
        match as, al with
        | [x, y, z], _ => exact ⟨x, y, z, rfl⟩
      have la : Laid H' a1 a2 a3 m := ⟨av 0 a1 m.st rfl rfl, av 1 a2 m.wt rfl rfl, av 2 a3 m.hd rfl rfl, fun z => by simp [z] at nd, fun z => by simp [z] at nd, fun z => by simp [z] at nd⟩
      have n1 := an a1 (by simp)
      have n2 := an a2 (by simp)
      have n3 := an a3 (by simp)
      refine ⟨L, _, rfl, SqL.of eL, rfl, _, _, rfl, _, _, rfl, _, _, rfl, rfl, ?_⟩
      -- waiting[wheel] = waiting[wheel] - 1
      refine ⟨.ref a2, rfl, .int n, rfl, a2, _, n, _, rfl, rfl, SqL.of la.w, atI_nat (getI (by omega)), _, 1, rfl, rfl, .ref a2, rfl, .int n, rfl, a2, _, n, n, rfl, rfl, la.w, ixN_nat (by rw [List.length_map]; omega), ?_⟩
      rw [setI]
      have k1 : Kp (N3 a1 a2 a3) H' (upd H' a2 (.lst ((m.wt.set n (m.wt.getD n 0 - 1)).map V.int))) := Kp.put (.inr (.inl rfl))
      have hb1 : m.wt.set n (m.wt.getD n 0 - 1) = bump m.wt n (-1) := rfl
      rw [hb1] at k1 ⊢
      have l1 : Laid (upd H' a2 (.lst ((bump m.wt n (-1)).map V.int))) a1 a2 a3 ⟨m.st, bump m.wt n (-1), m.hd⟩ := ⟨by rw [upd_ne la.nab]; exact la.s, upd_same, by rw [upd_ne la.nbc.symm]; exact la.h, la.nab, la.nac, la.nbc⟩
      have kt1 := (KT.same s').trans (la.kt k1)
      generalize upd H' a2 (.lst ((bump m.wt n (-1)).map V.int)) = H1 at k1 l1 kt1 ⊢
      -- the ends
      refine ⟨.ref aw, rfl, .int n, rfl, aw, _, n, _, rfl, rfl, SqT.of (kt1 _ _ ew), atI_nat ey, .ref a1, rfl, .int n, rfl, a1, _, n, .int sn, rfl, rfl, SqL.of l1.s, atI_nat (by rw [getI (by rw [mf.sl]; exact hn), hst]), az, _, sn, _, rfl, rfl, SqT.of (kt1 _ _ ez), atI_nat ee, ae, rfl, ⟨_, SqT.of (kt1 _ _ ees)⟩, ?_⟩
      refine for_tup (xs := ((ws.getD n []).getD sn []).map V.int) (fun i σ Hi => ∃ y : Option V, σ = [some (.ref ab), some (.ref TM), some (.int n), some (.ref aw), some (.int c), some (.ref a1), some (.ref a2), some (.ref a3), y, none] ∧ Kp (N3 a1 a2 a3) H' Hi ∧
        Laid Hi a1 a2 a3 ⟨m.st, ((((ws.getD n []).getD sn []).take i).foldl (sendM ws.length) (bump m.wt n (-1), m.hd)).1, ((((ws.getD n []).getD sn []).take i).foldl (sendM ws.length) (bump m.wt n (-1), m.hd)).2⟩) ⟨none, rfl, k1, l1⟩ (fun i σ Hi _ pp => ?_) (fun i x σ Hi hx pp => ?_) (fun σ Hi pp => ?_)
      · obtain ⟨y, _, k', _⟩ := pp
        exact SqT.of (la.kt k' _ _ (s' _ _ ees))
      · obtain ⟨y, rfl, k', l'⟩ := pp
        rw [List.getElem?_map] at hx
        cases ex : ((ws.getD n []).getD sn [])[i]? with
        | none => rw [ex] at hx; cases hx
        | some e =>
          rw [ex] at hx
          cases hx
          obtain ⟨e0, e1⟩ := eok.2 e (List.mem_of_getElem? ex)
          obtain ⟨sl1, sl2⟩ := send_len ws.length (((ws.getD n []).getD sn []).take i) (bump m.wt n (-1), m.hd)
          rw [bump_len] at sl1
          have tk : ((ws.getD n []).getD sn []).take (i + 1) = ((ws.getD n []).getD sn []).take i ++ [e] := by rw [List.take_add_one, ex]; rfl
          have fold1 : (((ws.getD n []).getD sn []).take (i + 1)).foldl (sendM ws.length) (bump m.wt n (-1), m.hd) = sendM ws.length ((((ws.getD n []).getD sn []).take i).foldl (sendM ws.length) (bump m.wt n (-1), m.hd)) e := by rw [tk, List.foldl_append]; rfl
          rw [fold1]
          generalize (((ws.getD n []).getD sn []).take i).foldl (sendM ws.length) (bump m.wt n (-1), m.hd) = pr at l' sl1 sl2 ⊢
          obtain ⟨pw, ph⟩ := pr
          have sl1' : pw.length = m.wt.length := sl1
          have sl2' : ph.length = m.hd.length := sl2
          have ew' := la.kt k' _ _ (s' _ _ ew)
          obtain ⟨en, rfl⟩ : ∃ en : Nat, e = (en : Int) := ⟨e.toNat, by omega⟩
          refine ⟨.int en, rfl, .ref aw, rfl, aw, ys, rfl, .inr (SqT.of ew'), en, _, rfl, rfl, _, rfl, ite2 (fun g => ?_) (fun g => ?_)⟩
          · have g1 : (ys.length : Int) ≤ (en : Int) := of_decide_eq_true g
            have g' : ¬ (en : Int) < (ws.length : Int) := by omega
            have hs : sendM ws.length (pw, ph) en = (pw, bump ph (en - ws.length) 1) := by
              unfold sendM
              rw [if_neg g', show ((en : Int) - (ws.length : Int)).toNat = en - ws.length by omega]
            rw [hs]
            have ei : (en : Int) - (ys.length : Int) = ((en - ws.length : Nat) : Int) := by omega
            have hph : en - ws.length < ph.length := by omega
            refine ⟨.ref a3, rfl, .int en, rfl, .ref aw, rfl, aw, ys, rfl, .inr (SqT.of ew'), _, _, rfl, rfl, a3, _, _, _, rfl, congrArg V.int ei, SqL.of l'.h, atI_nat (getI hph), _, 1, rfl, rfl, .ref a3, rfl, .int en, rfl, .ref aw, rfl, aw, ys, rfl, .inr (SqT.of ew'), _, _, rfl, rfl, a3, _, _, en - ws.length, rfl, congrArg V.int ei, l'.h, ixN_nat (by rw [List.length_map]; exact hph), ?_⟩
            rw [setI]
            exact ⟨some (.int en), rfl, k'.trans (Kp.put (.inr (.inr rfl))), ⟨by rw [upd_ne l'.nac]; exact l'.s, by rw [upd_ne l'.nbc]; exact l'.w, upd_same, l'.nab, l'.nac, l'.nbc⟩⟩
          · have g' : (en : Int) < (ws.length : Int) := by
              have : ¬ (ys.length : Int) ≤ (en : Int) := fun z => g (decide_eq_true z)
              omega
            have hs : sendM ws.length (pw, ph) en = (bump pw en 1, ph) := by
              unfold sendM
              rw [if_pos g']
              rfl
            rw [hs]
            have hpw : en < pw.length := by omega
            refine ⟨.ref a2, rfl, .int en, rfl, a2, _, en, _, rfl, rfl, SqL.of l'.w, atI_nat (getI hpw), _, 1, rfl, rfl, .ref a2, rfl, .int en, rfl, a2, _, en, en, rfl, rfl, l'.w, ixN_nat (by rw [List.length_map]; exact hpw), ?_⟩
            rw [setI]
            exact ⟨some (.int en), rfl, k'.trans (Kp.put (.inr (.inl rfl))), ⟨by rw [upd_ne l'.nab]; exact l'.s, upd_same, by rw [upd_ne l'.nbc.symm]; exact l'.h, l'.nab, l'.nac, l'.nbc⟩⟩
      · -- the stand
        obtain ⟨y, rfl, k', l'⟩ := pp
        rw [List.length_map, List.take_length] at l'
        have ew' := la.kt k' _ _ (s' _ _ ew)
        have ez' := la.kt k' _ _ (s' _ _ ez)
        have hns : n < m.st.length := by rw [mf.sl]; exact hn
        refine ⟨.ref a1, rfl, .int n, rfl, a1, _, n, .int sn, rfl, rfl, SqL.of l'.s, atI_nat (by rw [getI hns, hst]), sn, 1, rfl, rfl, .ref a1, rfl, .int n, rfl, a1, _, n, n, rfl, rfl, l'.s, ixN_nat (by rw [List.length_map]; exact hns), ?_⟩
        rw [setI]
        have k2 : Kp (N3 a1 a2 a3) H' (upd Hi a1 (.lst ((m.st.set n ((sn : Int) + 1)).map V.int))) := k'.trans (Kp.put (.inl rfl))
        have l2 : Laid (upd Hi a1 (.lst ((m.st.set n ((sn : Int) + 1)).map V.int))) a1 a2 a3 ⟨m.st.set n ((sn : Int) + 1), (sentM ws m n).1, (sentM ws m n).2⟩ := ⟨upd_same, by rw [upd_ne l'.nab.symm]; unfold sentM; rw [hends]; exact l'.w, by rw [upd_ne l'.nac.symm]; unfold sentM; rw [hends]; exact l'.h, l'.nab, l'.nac, l'.nbc⟩
        have ew2 := la.kt k2 _ _ (s' _ _ ew)
        have ez2 := la.kt k2 _ _ (s' _ _ ez)
        generalize upd Hi a1 (.lst ((m.st.set n ((sn : Int) + 1)).map V.int)) = H2 at k2 l2 ew2 ez2 ⊢
        have hns2 : n < (m.st.set n ((sn : Int) + 1)).length := by rw [List.length_set]; exact hns
        have hg2 : (m.st.set n ((sn : Int) + 1)).getD n 0 = (sn : Int) + 1 := by
          rw [List.getD_eq_getElem?_getD, List.getElem?_set_self hns]
          rfl
        -- the end
        have fin : ∀ (H3 : Hp), Kp (N3 a1 a2 a3) H' H3 → Laid H3 a1 a2 a3 (handleM ws m n) → ∀ T1, H3 T1 = none → ∀ T2, upd H3 T1 (.tup ((handleM ws m n).st.map V.int)) T2 = none → ∀ T3, upd (upd H3 T1 (.tup ((handleM ws m n).st.map V.int))) T2 (.tup ((handleM ws m n).wt.map V.int)) T3 = none →
            ∀ U, upd (upd (upd H3 T1 (.tup ((handleM ws m n).st.map V.int))) T2 (.tup ((handleM ws m n).wt.map V.int))) T3 (.tup ((handleM ws m n).hd.map V.int)) U = none → Q (.ref U) (upd (upd (upd (upd H3 T1 (.tup ((handleM ws m n).st.map V.int))) T2 (.tup ((handleM ws m n).wt.map V.int))) T3 (.tup ((handleM ws m n).hd.map V.int))) U (.tup [.ref T1, .ref T2, .ref T3])) := by
          intro H3 k3 l3 T1 nT1 T2 nT2 T3 nT3 U nU
          have sA : Same H3 (upd H3 T1 (.tup ((handleM ws m n).st.map V.int))) := Same.new nT1
          have sB := Same.new (o := .tup ((handleM ws m n).wt.map V.int)) nT2
          have sC := Same.new (o := .tup ((handleM ws m n).hd.map V.int)) nT3
          have sD := Same.new (o := .tup [.ref T1, .ref T2, .ref T3]) nU
          have s3 : Same H H3 := Same.kp3 s' k3 n1 n2 n3
          refine q (.ref U) _ (s3.trans (sA.trans (sB.trans (sC.trans sD)))) (Td.new nU (.cons (.tup (sC _ _ (sB _ _ upd_same)) (TdAll.ints _)) (.cons (.tup (sC _ _ upd_same) (TdAll.ints _)) (.cons (.tup upd_same (TdAll.ints _)) .nil))))
        have ret : ∀ (H3 : Hp), Kp (N3 a1 a2 a3) H' H3 → Laid H3 a1 a2 a3 (handleM ws m n) → Same H H3 := fun H3 k3 _ => Same.kp3 s' k3 n1 n2 n3
        have hst' : (handleM ws m n).st = m.st.set n (((sn : Int) + 1) % ((ws.getD n []).length : Int)) := by
          unfold handleM
          rw [hst]
        refine ⟨.ref a1, rfl, .int n, rfl, a1, _, n, .int ((sn : Int) + 1), rfl, rfl, SqL.of l2.s, atI_nat (by rw [getI hns2, hg2]), .ref aw, rfl, .int n, rfl, aw, _, n, _, rfl, rfl, SqT.of ew2, atI_nat ey, az, zs, rfl, .inr (SqT.of ez2), rfl, _, rfl, ite2 (fun g => ?_) (fun g => ?_)⟩
        · have ge : (sn : Int) + 1 = (zs.length : Int) := V.int.inj (of_decide_eq_true g)
          refine ⟨.ref a1, rfl, .int n, rfl, a1, _, n, n, rfl, rfl, l2.s, ixN_nat (by rw [List.length_map]; exact hns2), ?_⟩
          rw [setI, List.set_set]
          have h0 : ((sn : Int) + 1) % ((ws.getD n []).length : Int) = 0 := by rw [ge, hzl]; exact Int.emod_self
          have k3 : Kp (N3 a1 a2 a3) H' (upd H2 a1 (.lst ((m.st.set n 0).map V.int))) := k2.trans (Kp.put (.inl rfl))
          have l3 : Laid (upd H2 a1 (.lst ((m.st.set n 0).map V.int))) a1 a2 a3 (handleM ws m n) := ⟨by rw [hst', h0]; exact upd_same, by rw [upd_ne l2.nab.symm]; exact l2.w, by rw [upd_ne l2.nac.symm]; exact l2.h, l2.nab, l2.nac, l2.nbc⟩
          generalize upd H2 a1 (.lst ((m.st.set n 0).map V.int)) = H3 at k3 l3 ⊢
          exact ⟨.ref a1, rfl, a1, _, rfl, .inl ⟨SqL.of l3.s, fun T1 nT1 => ⟨.ref a2, rfl, a2, _, rfl, .inl ⟨SqL.of (by rw [upd_ne (ne_of_none l3.w nT1)]; exact l3.w), fun T2 nT2 => ⟨.ref a3, rfl, a3, _, rfl, .inl ⟨SqL.of (Same.new nT2 _ _ (Same.new nT1 _ _ l3.h)), fun T3 nT3 => ⟨by show 3 ≤ sizeLine; decide, fun U nU => fin H3 k3 l3 T1 nT1 T2 nT2 T3 nT3 U nU⟩⟩⟩⟩⟩⟩⟩
        · have gn : ¬ (sn : Int) + 1 = (zs.length : Int) := fun z => g (decide_eq_true (congrArg V.int z))
          have h0 : ((sn : Int) + 1) % ((ws.getD n []).length : Int) = (sn : Int) + 1 := Int.emod_eq_of_lt (by omega) (by omega)
          have l3 : Laid H2 a1 a2 a3 (handleM ws m n) := ⟨by rw [hst', h0]; exact l2.s, l2.w, l2.h, l2.nab, l2.nac, l2.nbc⟩
          exact ⟨.ref a1, rfl, a1, _, rfl, .inl ⟨SqL.of l3.s, fun T1 nT1 => ⟨.ref a2, rfl, a2, _, rfl, .inl ⟨SqL.of (by rw [upd_ne (ne_of_none l3.w nT1)]; exact l3.w), fun T2 nT2 => ⟨.ref a3, rfl, a3, _, rfl, .inl ⟨SqL.of (Same.new nT2 _ _ (Same.new nT1 _ _ l3.h)), fun T3 nT3 => ⟨by show 3 ≤ sizeLine; decide, fun U nU => fin H2 k2 l3 T1 nT1 T2 nT2 T3 nT3 U nU⟩⟩⟩⟩⟩⟩⟩
end
end K03

set_option maxRecDepth 100000
set_option maxHeartbeats 1000000
namespace K03
open PySem PySem.Spec PyProof.Rows L2 HX
theorem walkM_snoc {ws : List (List (List Int))} {n : Nat} {m1 : Mo} (h : ¬ m1.wt.getD n 0 = 0) : ∀ (row : List Nat) (i : Nat) (m : Mo), walkM ws i m row = (none, m1) → walkM ws i m (row ++ [n]) = (none, handleM ws m1 n)
  | [], i, m, e => by
    have e1 : m = m1 := congrArg Prod.snd e
    subst e1
    exact walkM_go h
  | a :: r, i, m, e => by
    by_cases g : m.wt.getD a 0 = 0
    · rw [walkM_stop g] at e
      cases e
    · rw [walkM_go g] at e
      rw [List.cons_append, walkM_go g]
      exact walkM_snoc h r (i + 1) _ e
theorem rowV_len {row : List Nat} : (rowV row).length = row.length := List.length_map ..
theorem ready_mem {wt : List Int} {n : Nat} (h : n ∈ readyM wt) : n < wt.length ∧ 0 < wt.getD n 0 := by
  unfold readyM at h
  rw [List.mem_filter, List.mem_range] at h
  exact ⟨h.1, of_decide_eq_true h.2⟩
section
variable {P : Program} {w : World} {K : PySem.W.Frag} {mg : Str → Option Value} {base : Heap} {k : Nat}
end
end K03

set_option maxRecDepth 100000
set_option maxHeartbeats 1000000
namespace K03
open PySem PySem.Spec PyProof.Rows L2 L2H HX
abbrev s__law_word : Stmt := topS 52
theorem sc__law_word : FnScope ["_law_e", "_law_some", "_law_words", "_law_word_here"] ["_law_e"] (defScope s__law_word) := ⟨rfl, rfl, rfl, by decide +kernel, rfl, by decide +kernel, by decide +kernel⟩
abbrev s__law_said : Stmt := topS 53
theorem sc__law_said : FnScope ["_law_call", "_law_e"] ["_law_call"] (defScope s__law_said) := ⟨rfl, rfl, rfl, by decide +kernel, rfl, by decide +kernel, by decide +kernel⟩
def tIs (K : PySem.W.Frag) (Dc a c : Addr) : TE := tCB (rIsE K Dc a) (tCons (tVar 0) (tCons (tC (.ref c)) tNil))
theorem is_one {K : PySem.W.Frag} {Dc a : Addr} {C : Nat → Addr} {i j : Nat} (E : EF K C Dc i) (hj : j < 21) {σ : L2.St} {H : Hp} {Q : VK} (hs : σ[0]? = some (some (.ref a))) (q : Q (.bl (decide (j = i))) H) : tIs K Dc a (C j) σ H Q :=
  ⟨.ref a, hs, .ref (C j), .ref (C j), _, rfl, fun u r => r, E.is j hj, q⟩
theorem marks_take {i m : Nat} (h : m < 21) : (marks i).take (m + 1) = (marks i).take m ++ [.bl (decide (m = i))] := by
  have e : (marks i)[m]? = some (.bl (decide (m = i))) := by
    unfold marks
    rw [List.getElem?_map, List.getElem?_range h]
    rfl
  rw [List.take_add_one, e]
  rfl
theorem cat4 {K : PySem.W.Frag} {Dc a L : Addr} {C : Nat → Addr} {i m : Nat} (E : EF K C Dc i) (hm : m + 4 ≤ 21) {σ : L2.St} {H : Hp} {Q : VK} (h0 : σ[0]? = some (some (.ref a))) (h1 : σ[1]? = some (some (.ref L))) (eL : H L = some (.lst ((marks i).take m)))
    (q : ∀ L' H', Same H H' → H' L' = some (.lst ((marks i).take (m + 4))) → H L' = none → Q (.ref L') H') :
    tOp rCat (tVar 1) (tLst (tCons (tIs K Dc a (C m)) (tCons (tIs K Dc a (C (m + 1))) (tCons (tIs K Dc a (C (m + 2))) (tCons (tIs K Dc a (C (m + 3))) tNil))))) σ H Q := by
  refine ⟨.ref L, h1, is_one E (by omega) h0 (is_one E (by omega) h0 (is_one E (by omega) h0 (is_one E (by omega) h0 ⟨by show 4 ≤ sizeLine; decide, fun M n => ?_⟩)))⟩
  have sM : Same H (upd H M (.lst [.bl (decide (m = i)), .bl (decide (m + 1 = i)), .bl (decide (m + 2 = i)), .bl (decide (m + 3 = i))])) := Same.new n
  refine ⟨L, M, _, _, rfl, rfl, sM _ _ eL, upd_same, ?_, fun p np => q p _ (sM.trans (Same.new np)) ?_ ?_⟩
  · rw [List.length_take]
    show _ + 4 ≤ sizeLine
    have : min m (marks i).length ≤ m := Nat.min_le_left ..
    exact Nat.le_of_lt (small1000 (by omega))
  · rw [upd_same, show m + 4 = m + 3 + 1 by omega, marks_take (by omega), show m + 3 = m + 2 + 1 by omega, marks_take (by omega), show m + 2 = m + 1 + 1 by omega, marks_take (by omega), marks_take (by omega)]
    simp only [List.append_assoc, List.cons_append, List.nil_append]
  · cases e : H p with
    | none => rfl
    | some o => rw [sM _ _ e] at np; cases np
section
variable {P : Program} {w : World} {K : PySem.W.Frag} {mg : Str → Option Value} {base : Heap} {k : Nat} {C : Nat → Addr}
/-! ### the word of an error -/
theorem ok_word (D : Def K mg "_law_word" s__law_word ["_law_e"]) (B : Bi mg) (B4 : Bi4 mg) (G : Cls21 mg C) : CalE P w K mg base (k + 1) "_law_word" "_law_e" (spWord K C) := by
  refine D.okE sc__law_word (fun f cdv A outer s H p cls d Q hz hf hr h => ?_)
  obtain ⟨Dc, i, rfl, rfl, hi, E, q⟩ := h
  have hp : (p.1, p.2) ∈ [p] := List.mem_singleton.mpr rfl
  refine ⟨_, (pss_cons (ps_set (i := 1) sc__law_word.nd rfl (Or.inl rfl) (pe_lst (pa_cons (pe_callB (call_isP hp E.ec hz hf) rfl B.isinstance_ (by decide +kernel) (pa_cons (pv 0) (pa_cons (pe_glob (v := .ref _) rfl G.NoBoard rfl) pa_nil))) (pa_cons (pe_callB (call_isP hp E.ec hz hf) rfl B.isinstance_ (by decide +kernel) (pa_cons (pv 0) (pa_cons (pe_glob (v := .ref _) rfl G.NoStand rfl) pa_nil))) (pa_cons (pe_callB (call_isP hp E.ec hz hf) rfl B.isinstance_ (by decide +kernel) (pa_cons (pv 0) (pa_cons (pe_glob (v := .ref _) rfl G.NoMoment rfl) pa_nil))) (pa_cons (pe_callB (call_isP hp E.ec hz hf) rfl B.isinstance_ (by decide +kernel) (pa_cons (pv 0) (pa_cons (pe_glob (v := .ref _) rfl G.NoWheel rfl) pa_nil))) pa_nil))))))
  (pss_cons (ps_set (i := 1) sc__law_word.nd rfl (Or.inl rfl) (pe_op op_cat (pv 1) (pe_lst (pa_cons (pe_callB (call_isP hp E.ec hz hf) rfl B.isinstance_ (by decide +kernel) (pa_cons (pv 0) (pa_cons (pe_glob (v := .ref _) rfl G.NotNow rfl) pa_nil))) (pa_cons (pe_callB (call_isP hp E.ec hz hf) rfl B.isinstance_ (by decide +kernel) (pa_cons (pv 0) (pa_cons (pe_glob (v := .ref _) rfl G.NoRow rfl) pa_nil))) (pa_cons (pe_callB (call_isP hp E.ec hz hf) rfl B.isinstance_ (by decide +kernel) (pa_cons (pv 0) (pa_cons (pe_glob (v := .ref _) rfl G.NoDrain rfl) pa_nil))) (pa_cons (pe_callB (call_isP hp E.ec hz hf) rfl B.isinstance_ (by decide +kernel) (pa_cons (pv 0) (pa_cons (pe_glob (v := .ref _) rfl G.NoDrops rfl) pa_nil))) pa_nil)))))))
  (pss_cons (ps_set (i := 1) sc__law_word.nd rfl (Or.inl rfl) (pe_op op_cat (pv 1) (pe_lst (pa_cons (pe_callB (call_isP hp E.ec hz hf) rfl B.isinstance_ (by decide +kernel) (pa_cons (pv 0) (pa_cons (pe_glob (v := .ref _) rfl G.NoAgain rfl) pa_nil))) (pa_cons (pe_callB (call_isP hp E.ec hz hf) rfl B.isinstance_ (by decide +kernel) (pa_cons (pv 0) (pa_cons (pe_glob (v := .ref _) rfl G.NoNumber rfl) pa_nil))) (pa_cons (pe_callB (call_isP hp E.ec hz hf) rfl B.isinstance_ (by decide +kernel) (pa_cons (pv 0) (pa_cons (pe_glob (v := .ref _) rfl G.NoLinks rfl) pa_nil))) (pa_cons (pe_callB (call_isP hp E.ec hz hf) rfl B.isinstance_ (by decide +kernel) (pa_cons (pv 0) (pa_cons (pe_glob (v := .ref _) rfl G.NoMouths rfl) pa_nil))) pa_nil)))))))
  (pss_cons (ps_set (i := 1) sc__law_word.nd rfl (Or.inl rfl) (pe_op op_cat (pv 1) (pe_lst (pa_cons (pe_callB (call_isP hp E.ec hz hf) rfl B.isinstance_ (by decide +kernel) (pa_cons (pv 0) (pa_cons (pe_glob (v := .ref _) rfl G.NoWord rfl) pa_nil))) (pa_cons (pe_callB (call_isP hp E.ec hz hf) rfl B.isinstance_ (by decide +kernel) (pa_cons (pv 0) (pa_cons (pe_glob (v := .ref _) rfl G.NotAlike rfl) pa_nil))) (pa_cons (pe_callB (call_isP hp E.ec hz hf) rfl B.isinstance_ (by decide +kernel) (pa_cons (pv 0) (pa_cons (pe_glob (v := .ref _) rfl G.NoFault rfl) pa_nil))) (pa_cons (pe_callB (call_isP hp E.ec hz hf) rfl B.isinstance_ (by decide +kernel) (pa_cons (pv 0) (pa_cons (pe_glob (v := .ref _) rfl G.NoSeen rfl) pa_nil))) pa_nil)))))))
  (pss_cons (ps_set (i := 1) sc__law_word.nd rfl (Or.inl rfl) (pe_op op_cat (pv 1) (pe_lst (pa_cons (pe_callB (call_isP hp E.ec hz hf) rfl B.isinstance_ (by decide +kernel) (pa_cons (pv 0) (pa_cons (pe_glob (v := .ref _) rfl G.NoHands rfl) pa_nil))) (pa_cons (pe_callB (call_isP hp E.ec hz hf) rfl B.isinstance_ (by decide +kernel) (pa_cons (pv 0) (pa_cons (pe_glob (v := .ref _) rfl G.NoDeed rfl) pa_nil))) (pa_cons (pe_callB (call_isP hp E.ec hz hf) rfl B.isinstance_ (by decide +kernel) (pa_cons (pv 0) (pa_cons (pe_glob (v := .ref _) rfl G.NoLine rfl) pa_nil))) (pa_cons (pe_callB (call_isP hp E.ec hz hf) rfl B.isinstance_ (by decide +kernel) (pa_cons (pv 0) (pa_cons (pe_glob (v := .ref _) rfl G.NoText rfl) pa_nil))) pa_nil)))))))
  (pss_cons (ps_expr (pe_bm PySem.F.plainAttrs_list PySem.F.slot_list_append PySem.F.type_list_append mt_append (pv 1) (pa_cons (pe_callB (call_isP hp E.ec hz hf) rfl B.isinstance_ (by decide +kernel) (pa_cons (pv 0) (pa_cons (pe_glob (v := .ref _) rfl G.TooMany rfl) pa_nil))) pa_nil)))
  (pss_cons (ps_set (i := 2) sc__law_word.nd rfl (Or.inl rfl) (pe_lst (pa_cons pe_str (pa_cons pe_str (pa_cons pe_str (pa_cons pe_str (pa_cons pe_str (pa_cons pe_str (pa_cons pe_str (pa_cons pe_str (pa_cons pe_str (pa_cons pe_str (pa_cons pe_str (pa_cons pe_str pa_nil))))))))))))))
  (pss_cons (ps_set (i := 2) sc__law_word.nd rfl (Or.inl rfl) (pe_op op_cat (pv 2) (pe_lst (pa_cons pe_str (pa_cons pe_str (pa_cons pe_str (pa_cons pe_str (pa_cons pe_str (pa_cons pe_str (pa_cons pe_str (pa_cons pe_str (pa_cons pe_str pa_nil))))))))))))
  (pss_cons (ps_if (PW.pt (pw_or (pt_cmpR op_ne (pe_bm PySem.F.plainAttrs_list PySem.F.slot_list_count PySem.F.type_list_count mt_countF (pv 1) (pa_cons pe_bl pa_nil)) pe_int (nomark _)) (pw_or1 (pt_not (pt_val (pe_callB (call_isP hp E.ec hz hf) rfl B.isinstance_ (by decide +kernel) (pa_cons (pv 0) (pa_cons (pe_bltn (v := .ty "ValueError") (u := .type "ValueError") rfl B4.ValueError (by decide +kernel) rfl) pa_nil))))))))
  (pss_one (ps_ret (pe_tup (pa_cons pe_str pa_nil))))
  pss_nil)
  (pss_cons (ps_set (i := 3) sc__law_word.nd rfl (Or.inl rfl) (pe_ix ix_list (pv 2) (pe_bm PySem.F.plainAttrs_list PySem.F.slot_list_index PySem.F.type_list_index mt_index (pv 1) (pa_cons pe_bl pa_nil)) (fun _ _ => rfl)))
  (pss_cons (ps_if (pt_cmpR op_eq (pv 3) pe_str (nomark _))
  (pss_one ps_never)
  pss_nil)
  (pss_one (ps_ret (pe_ifExp (pt_cmpR op_eq (pv 3) pe_str (nomark _)) pe_never (pe_tup (pa_cons (pv 3) pa_nil)))))))))))))))), ?_⟩
  refine is_one E (j := 0) (by decide) rfl (is_one E (j := 1) (by decide) rfl (is_one E (j := 2) (by decide) rfl (is_one E (j := 3) (by decide) rfl ⟨by show 4 ≤ sizeLine; decide, fun L1 n1 => ?_⟩)))
  have s1 : Same H (upd H L1 (.lst [.bl (decide (0 = i)), .bl (decide (1 = i)), .bl (decide (2 = i)), .bl (decide (3 = i))])) := Same.new n1
  have e1 : upd H L1 (.lst [.bl (decide (0 = i)), .bl (decide (1 = i)), .bl (decide (2 = i)), .bl (decide (3 = i))]) L1 = some (.lst ((marks i).take 4)) := upd_same
  generalize upd H L1 (.lst [.bl (decide (0 = i)), .bl (decide (1 = i)), .bl (decide (2 = i)), .bl (decide (3 = i))]) = H1 at s1 e1 ⊢
  refine cat4 (m := 4) E (by decide) rfl rfl e1 fun L2 H2 s2 e2 _ => ?_
  refine cat4 (m := 8) E (by decide) rfl rfl e2 fun L3 H3 s3 e3 _ => ?_
  refine cat4 (m := 12) E (by decide) rfl rfl e3 fun L4 H4 s4 e4 _ => ?_
  refine cat4 (m := 16) E (by decide) rfl rfl e4 fun L5 H5 s5 e5 n5 => ?_
  have s05 : Same H H5 := s1.trans (s2.trans (s3.trans (s4.trans s5)))
  have n05 : H L5 = none := by
    cases e : H L5 with
    | none => rfl
    | some o => rw [(s1.trans (s2.trans (s3.trans s4))) _ _ e] at n5; cases n5
  refine ⟨.ref L5, rfl, .inl ⟨rfl, _, SqL.of e5⟩, is_one E (j := 20) (by decide) rfl ⟨L5, _, _, rfl, rfl, e5, ?_, ?_⟩⟩
  · rw [List.length_take]
    have : min 20 (marks i).length ≤ 20 := Nat.min_le_left ..
    exact small1000 (by omega)
  have e6 : upd H5 L5 (.lst ((marks i).take 20 ++ [.bl (decide (20 = i))])) L5 = some (.lst (marks i)) := by
    rw [upd_same, ← marks_take (by decide)]
    rfl
  have s06 : Same H (upd H5 L5 (.lst ((marks i).take 20 ++ [.bl (decide (20 = i))]))) := fun b o e => by
    rw [upd_ne (ne_of_none e n05)]
    exact s05 _ _ e
  generalize upd H5 L5 (.lst ((marks i).take 20 ++ [.bl (decide (20 = i))])) = H6 at e6 s06 ⊢
  refine ⟨by show 12 ≤ sizeLine; decide, fun W1 m1 => ?_⟩
  refine ⟨.ref W1, rfl, by show 9 ≤ sizeLine; decide, fun W2 m2 => ?_⟩
  refine ⟨W1, W2, _, _, rfl, rfl, Same.new m2 _ _ upd_same, upd_same, by show 21 ≤ sizeLine; decide, fun W3 m3 => ?_⟩
  generalize hE : upd (upd (upd H6 W1 _) W2 _) W3 _ = H9
  have s9 : Same H6 H9 := by
    rw [← hE]
    exact (Same.new m1).trans ((Same.new m2).trans (Same.new m3))
  have ew : H9 W3 = some (.lst words21) := by
    rw [← hE]
    exact upd_same
  clear hE
  have em := s9 _ _ e6
  -- count, ValueError
  refine ⟨.ref L5, rfl, .inl ⟨rfl, _, SqL.of em⟩, L5, marks i, .bl true, rfl, rfl, SqL.of em, rfl, marks_flat i, rfl, _, rfl, ?_⟩
  rw [marks_one i (by omega)]
  refine iteF ⟨.ref p.1, rfl, .ty "ValueError", .type "ValueError", _, rfl, fun u r => r, E.ve, _, rfl, iteF ?_⟩
  refine ⟨.ref W3, rfl, .ref L5, rfl, .inl ⟨rfl, _, SqL.of em⟩, L5, marks i, .bl true, i, .bl true, rfl, rfl, SqL.of em, rfl, marks_flat i, marks_at (by omega), rfl, fun m z hm e => marks_no hm e, W3, words21, (i : Int), _, rfl, rfl, SqL.of ew, atI_nat (words_at i (by omega)), ?_⟩
  obtain ⟨w1, w2⟩ := word_ne i hi
  refine ⟨.str (wordAt i), rfl, rfl, _, rfl, ?_⟩
  rw [show decide (V.str (wordAt i) = V.str "many") = false from decide_eq_false fun z => w1 (V.str.inj z)]
  refine iteF ⟨.str (wordAt i), rfl, rfl, _, rfl, ?_⟩
  rw [show decide (V.str (wordAt i) = V.str "text") = false from decide_eq_false fun z => w2 (V.str.inj z)]
  exact iteF ⟨.str (wordAt i), rfl, by show 1 ≤ sizeLine; decide, fun U nU => q U _ (s06.trans (s9.trans (Same.new nU))) upd_same⟩
end
end K03

set_option maxRecDepth 100000
set_option maxHeartbeats 1000000
namespace K03
open PySem PySem.Spec PyProof.Rows L2 L2H HX
section
variable {P : Program} {w : World} {K : PySem.W.Frag} {mg : Str → Option Value} {base : Heap} {k : Nat}
/-! ### no board: refused -/
def spNeedBad (CB : Addr) : Sp := fun vs H _ E => ∃ (N : Addr → Prop) (v : V) (d : PyData), vs = [v] ∧ Da N H v d ∧ boardB d = false ∧ ∀ H', Same H H' → E (.ref CB) none H'
theorem ok_need_boardX {CB : Addr} (D : Def K mg "need_board" s_need_board ["thing"]) (R_NoBoard : Err K mg "NoBoard" CB) (c_is_board : Cal P w K mg base k "is_board" ["thing"] (spThing boardB)) : CalX P w K mg base (k + 1) "need_board" ["thing"] (spNeedBad CB) := by
  refine D.okX sc_need_board (fun vs H Q E h => ?_) (fun f cdv A outer s H vs Q E hr h tk => ?_)
  · obtain ⟨N, v, d, rfl, _⟩ := h
    rfl
  · obtain ⟨N, v, d, rfl, hd, hb, q⟩ := h
    refine ⟨_, pss_one (ps_if (pt_not (pt_val (pe_cal c_is_board hr rfl (pa_cons (pv 0) pa_nil)))) (pss_one (ps_err R_NoBoard tk)) pss_nil), ?_⟩
    refine ⟨v, rfl, N, v, d, rfl, hd, fun H' s' => ⟨_, rfl, ?_⟩⟩
    rw [hb]
    exact iteT (q H' s')
def spBad2 (CB : Addr) : Sp := fun vs H _ E => ∃ (N : Addr → Prop) (vb v : V) (d : PyData), vs = [vb, v] ∧ Da N H vb d ∧ boardB d = false ∧ ∀ H', Same H H' → E (.ref CB) none H'
theorem ok_is_standX {CB : Addr} (D : Def K mg "is_stand" s_is_stand ["board", "thing"]) (cx_need_board : CalX P w K mg base k "need_board" ["thing"] (spNeedBad CB)) : CalX P w K mg base (k + 1) "is_stand" ["board", "thing"] (spBad2 CB) := by
  refine D.okX sc_is_stand (fun vs H Q E h => ?_) (fun f cdv A outer s H vs Q E hr h tk => ?_)
  · obtain ⟨N, vb, v, d, rfl, _⟩ := h
    rfl
  · obtain ⟨N, vb, v, d, rfl, hd, hb, q⟩ := h
    exact ⟨_, pss_cons (ps_expr (pe_calX tk cx_need_board hr rfl (pa_cons (pv 0) pa_nil))) pss_nev, vb, rfl, N, vb, d, rfl, hd, hb, q⟩
theorem ok_is_momentX {CB : Addr} (D : Def K mg "is_moment" s_is_moment ["board", "thing"]) (cx_need_board : CalX P w K mg base k "need_board" ["thing"] (spNeedBad CB)) : CalX P w K mg base (k + 1) "is_moment" ["board", "thing"] (spBad2 CB) := by
  refine D.okX sc_is_moment (fun vs H Q E h => ?_) (fun f cdv A outer s H vs Q E hr h tk => ?_)
  · obtain ⟨N, vb, v, d, rfl, _⟩ := h
    rfl
  · obtain ⟨N, vb, v, d, rfl, hd, hb, q⟩ := h
    exact ⟨_, pss_cons (ps_expr (pe_calX tk cx_need_board hr rfl (pa_cons (pv 0) pa_nil))) pss_nev, vb, rfl, N, vb, d, rfl, hd, hb, q⟩
end
/-! ### what a call tells, or the word of its error -/
theorem pe_said {X : Cx} {T : List (Addr × Str)} {c Pt CM : Addr} {k : Nat} {C : Nat → Addr} {params : Arguments} {body : Expr} {scope : Scope} {t : XK → TE} {p lpos pos : Pos} (D : Def X.K X.mg "_law_said" s__law_said ["_law_call"]) (cw : CalE X.prog X.w X.K X.mg X.base k "_law_word" "_law_e" (spWord X.K C))
    (hM : X.mg "MarbleError" = some (.ref CM)) (TB : LamX.TabB X.base X.mg c Pt) (hcode : X.env.code = .ref c) (hmT : (Pt, X.env.qual ++ "<lambda>") ∈ T) (hu : ∀ p ∈ T, p.1 = Pt → p.2 = X.env.qual ++ "<lambda>") (hr : Room (k + 2) X.A) (hg : Gl X "_law_said") (L : LamX.LamS X.env.scope scope) (hdef : defaultsOf params X.env = ([], []))
    (hbind : ∀ (q : Str) (cl : List (Str × Addr)) (pm cv ctv : Value), bindArgs (PySem.W.kla_fn "<lambda>" q params body scope cl pm cv ctv) ⟨[], []⟩ = pure [])
    (hbody : ∀ (A : Around) (outer : List Env) (s : Shared) (H : Hp) (E : XK) (f c' : Addr), Room k (A.deeper (LamX.lamEnv X scope s.heap.objs.size f c')) → PE (LamX.lamCx X A outer s H E scope f c') body (t E)) :
    PE X (.Call (.Name "_law_said" p) [.Lambda params body scope lpos] [] pos) (LamX.tLam T (TSaid X.K CM "told" (spWord X.K C)) t) := by
  obtain ⟨g, fd, F, hm, hb⟩ := D
  obtain ⟨oc, od, kV, doc, pm, an, cdv, ct, osl, rfl, lk, hcd⟩ := F.ex
  exact LamX.pe_lamcall hg hm F.kp lk hcd hb sc__law_said rfl (.inl rfl) (said_gives (a := "_law_call") (n := "_law_e") (e := "MarbleError") (wd := "_law_word") cw (hr.mono (by omega)) rfl hM (by decide) rfl rfl) TB hcode hmT hu hr L hdef hbind hbody
end K03

set_option maxRecDepth 100000
set_option maxHeartbeats 1000000
namespace K03
open PySem PySem.Spec PyProof.Rows L2 L2H HX
abbrev s__law_each_right : Stmt := topS 58
theorem sc__law_each_right : FnScope ["_law_board_here", "_law_moment_here", "_law_kept", "_law_wheel", "_law_due", "_law_lap"] ["_law_board_here", "_law_moment_here"] (defScope s__law_each_right) := ⟨rfl, rfl, rfl, by decide +kernel, rfl, by decide +kernel, by decide +kernel⟩
abbrev s_rests : Stmt := topS 46
theorem sc_rests : FnScope ["board", "moment", "many"] ["board", "moment"] (defScope s_rests) := ⟨rfl, rfl, rfl, by decide +kernel, rfl, by decide +kernel, by decide +kernel⟩
section
variable {P : Program} {w : World} {K : PySem.W.Frag} {mg : Str → Option Value} {base : Heap} {k : Nat}
/-! ### a marble handled, waiting or not -/
def spGoneX (CN : Addr) : Sp := fun vs H Q E => ∃ (vb v : V) (n : Nat) (ws : List (List (List Int))) (c : Int) (m : Mo), vs = [vb, v, .int n] ∧ Td H vb (boardD ws c) ∧ BoardOk ws c ∧ Td H v (moD m) ∧ MoOk ws c m ∧ n < ws.length ∧
  (∀ (v' : V) (H' : Hp), 0 < m.wt.getD n 0 → Same H H' → Td H' v' (moD (handleM ws m n)) → Q v' H') ∧ ∀ H', m.wt.getD n 0 = 0 → Same H H' → E (.ref CN) none H'
theorem ok_goneX {CN : Addr} (D : Def K mg "handled" s_handled ["board", "moment", "wheel"]) (R_NotNow : Err K mg "NotNow" CN) (B : Bi mg) (c_need_moment : Cal P w K mg base k "need_moment" ["board", "thing"] spNeedMom) (c_need_wheel : Cal P w K mg base k "need_wheel" ["board", "thing"] spNeedWheel) (c_loosened : Cal P w K mg base k "loosened" ["moment"] spLoose) (c_fastened : Cal P w K mg base k "fastened" ["stand", "waiting", "held"] spFast)
    (c_handle_marble : Cal P w K mg base k "handle_marble" ["board", "parts", "wheel"] spHandle) : CalX P w K mg base (k + 1) "handled" ["board", "moment", "wheel"] (spGoneX CN) := by
  refine D.okX sc_handled (fun vs H Q E h => ?_) (fun f cdv A outer s H vs Q E hr h tk => ?_)
  · obtain ⟨vb, v, n, ws, c, m, rfl, _⟩ := h
    rfl
  · obtain ⟨vb, v, n, ws, c, m, rfl, tb, bok, tv, mok, hn, q1, q2⟩ := h
    refine ⟨_, (pss_cons (ps_expr (pe_cal c_need_moment hr rfl (pa_cons (pv 0) (pa_cons (pv 1) pa_nil))))
  (pss_cons (ps_expr (pe_cal c_need_wheel hr rfl (pa_cons (pv 0) (pa_cons (pv 2) pa_nil))))
  (pss_cons (ps_asg (pe_cal c_loosened hr rfl (pa_cons (pv 1) pa_nil)) (pg_tup rfl (pgs_cons (pg_name (i := 3) sc_handled.nd rfl (Or.inl rfl)) (pgs_cons (pg_name (i := 4) sc_handled.nd rfl (Or.inl rfl)) (pgs_cons (pg_name (i := 5) sc_handled.nd rfl (Or.inl rfl)) pgs_nil)))))
  (pss_cons (ps_if (pt_cmpR op_eq (pe_ix ix_list (pv 4) (pv 2) (fun _ _ => rfl)) pe_int (nomark _))
  (pss_one (ps_err R_NotNow tk))
  pss_nil)
  (pss_cons (ps_expr (pe_cal c_handle_marble hr rfl (pa_cons (pv 0) (pa_cons (pe_tup (pa_cons (pv 3) (pa_cons (pv 4) (pa_cons (pv 5) pa_nil)))) (pa_cons (pv 2) pa_nil)))))
  (pss_one (ps_ret (pe_cal c_fastened hr rfl (pa_cons (pv 3) (pa_cons (pv 4) (pa_cons (pv 5) pa_nil))))))))))), ?_⟩
    have w1 : ∀ x ∈ ws, 1 ≤ x.length := fun x hx => (bok.wheels x hx).1
    refine ⟨vb, rfl, v, rfl, vb, v, ws, c, m, rfl, tb, bok, tv, mok, fun H1 s1 => ?_⟩
    have tb1 := Td.mono (KT.same s1) _ _ tb
    refine ⟨vb, rfl, .int n, rfl, vb, n, ws, c, rfl, tb1, hn, ?_⟩
    refine ⟨v, rfl, v, m, rfl, Td.mono (KT.same s1) _ _ tv, fun T a1 a2 a3 H2 s2 eT la n1 n2 n3 => ?_⟩
    refine ⟨T, _, rfl, SqT.of eT, rfl, _, _, rfl, _, _, rfl, _, _, rfl, rfl, ?_⟩
    have hwn : n < m.wt.length := by rw [mok.wl]; exact hn
    refine ⟨.ref a2, rfl, .int n, rfl, a2, _, n, _, rfl, rfl, SqL.of la.w, atI_nat (getI hwn), rfl, _, rfl, ite2 (fun g => ?_) (fun g => ?_)⟩
    · exact q2 H2 (V.int.inj (of_decide_eq_true g)) (s1.trans s2)
    · have g0 : ¬ m.wt.getD n 0 = 0 := fun z => g (decide_eq_true (congrArg V.int z))
      have hp : 0 < m.wt.getD n 0 := by
        have := getD_nn (i := n) mok.wn
        omega
      refine ⟨vb, rfl, .ref a1, rfl, .ref a2, rfl, .ref a3, rfl, by show 3 ≤ sizeLine; decide, fun p np => ?_⟩
      have sp : Same H2 (upd H2 p (.tup [.ref a1, .ref a2, .ref a3])) := Same.new np
      refine ⟨.int n, rfl, vb, p, a1, a2, a3, n, ws, c, m, rfl, Td.mono (KT.same (s2.trans sp)) _ _ tb1, bok, upd_same, Laid.same la sp, mok.toMoF, hn, fun H5 k5 l5 => ?_⟩
      have none1 : ∀ {x : Addr}, H1 x = none → H x = none := fun {x} e => by
        cases e' : H x with
        | none => rfl
        | some o => rw [s1 _ _ e'] at e; cases e
      refine ⟨.ref a1, rfl, .ref a2, rfl, .ref a3, rfl, a1, a2, a3, _, rfl, l5, fun vm H6 s6 tm => ?_⟩
      exact q1 vm H6 hp ((Same.kp3 ((s1.trans s2).trans sp) k5 (none1 n1) (none1 n2) (none1 n3)).trans s6) tm
/-! ### whether it rests -/
/-- all([e for x in t]), t a tuple of ints -/
theorem read_allI {K : PySem.W.Frag} {σ : L2.St} {H : Hp} {Q : VK} {j : Nat} {tl te : TE} {a : Addr} {ns : List Int} (p : Int → Bool)
    (hs : ∀ Q' : VK, Q' (.ref a) H → tl σ H Q') (hx : H a = some (.tup (ns.map V.int))) (hz : ns.length ≤ 1000)
    (ht : ∀ (n : Int) (H' : Hp), Same H H' → ∀ Q' : VK, (∀ H2, Same H' H2 → Q' (.bl (p n)) H2) → te ((wipe σ [j]).set j (some (.int n))) H' Q')
    (q : ∀ H', Same H H' → Q (.bl (ns.all p)) H') : tCB (rAll K) (tCons (tLc (iTup K tl) (gName j) tYes te [j]) tNil) σ H Q := by
  refine hs _ ⟨a, rfl, ⟨_, .inl (.inl hx)⟩, fun D hD => ?_⟩
  refine lc_tup (xs := ns.map V.int) (fun i H' => Same H H' ∧ H' D = some (.lst ((ns.take i).map fun d => V.bl (p d)))) ⟨Same.new hD, ?_⟩ (fun i H' _ h => .inl (.inl (h.1 _ _ hx))) (fun i x H' hi h => ?_) (fun H' h => ?_)
  · rw [upd_same]
    rfl
  · rw [List.getElem?_map] at hi
    cases e1 : ns[i]? with
    | none => rw [e1] at hi; cases hi
    | some n =>
      rw [e1] at hi
      cases hi
      refine ⟨wipe1 _, tYes_eq (iteT (ht n H' h.1 _ fun H2 s2 => ?_))⟩
      refine ⟨_, s2 _ _ h.2, ?_, fun b o e => ?_, ?_⟩
      · rw [List.length_map, List.length_take]
        exact small1000 (by omega)
      · rw [upd_ne (ne_of_none e hD)]
        exact s2 _ _ (h.1 _ _ e)
      · rw [upd_same, List.take_add_one, e1, List.map_append]
        rfl
  · refine ⟨D, ns.map p, rfl, .inl (.inl ?_), ?_⟩
    · rw [h.2, List.length_map, List.take_length, List.map_map]
      rfl
    · rw [List.all_map]
      exact q H' h.1
theorem ready_nil {wt : List Int} (h : ∀ x ∈ wt, 0 ≤ x) : (readyM wt).isEmpty = wt.all (fun x => decide (x = 0)) := by
  cases hz : wt.all (fun x => decide (x = 0)) with
  | true =>
    rw [List.isEmpty_iff]
    unfold readyM
    rw [List.filter_eq_nil_iff]
    intro n hn g
    rw [List.mem_range] at hn
    have g1 := of_decide_eq_true g
    have := (List.all_eq_true.mp hz) wt[n] (List.getElem_mem hn)
    have e0 : wt[n] = 0 := of_decide_eq_true this
    rw [List.getD_eq_getElem?_getD, List.getElem?_eq_getElem hn] at g1
    have g2 : wt[n] > 0 := g1
    omega
  | false =>
    cases er : (readyM wt).isEmpty with
    | false => rfl
    | true =>
      exfalso
      rw [List.isEmpty_iff] at er
      unfold readyM at er
      rw [List.filter_eq_nil_iff] at er
      have : wt.all (fun x => decide (x = 0)) = true := by
        rw [List.all_eq_true]
        intro x hx
        obtain ⟨n, hn, rfl⟩ := List.getElem_of_mem hx
        have g := er n (List.mem_range.mpr hn)
        have h0 := h _ hx
        refine decide_eq_true ?_
        by_cases z : wt[n] > 0
        · refine absurd (decide_eq_true ?_) g
          rw [List.getD_eq_getElem?_getD, List.getElem?_eq_getElem hn]
          exact z
        · omega
      rw [this] at hz
      cases hz
def spRests : Sp := fun vs H Q _ => ∃ (vb v : V) (ws : List (List (List Int))) (c : Int) (m : Mo), vs = [vb, v] ∧ Td H vb (boardD ws c) ∧ BoardOk ws c ∧ Td H v (moD m) ∧ MoOk ws c m ∧ ∀ H', Same H H' → Q (.bl (readyM m.wt).isEmpty) H'
theorem ok_rests (D : Def K mg "rests" s_rests ["board", "moment"]) (B : Bi mg) (c_need_moment : Cal P w K mg base k "need_moment" ["board", "thing"] spNeedMom) : Cal P w K mg base (k + 1) "rests" ["board", "moment"] spRests := by
  refine D.ok sc_rests (fun vs H Q E h => ?_) (fun f cdv A outer s H vs Q E hr h => ?_)
  · obtain ⟨vb, v, ws, c, m, rfl, _⟩ := h
    rfl
  · obtain ⟨vb, v, ws, c, m, rfl, tb, bok, tv, mok, q⟩ := h
    refine ⟨_, (pss_cons (ps_expr (pe_cal c_need_moment hr rfl (pa_cons (pv 0) (pa_cons (pv 1) pa_nil))))
  (pss_one (ps_ret (pe_callB (cr_all rfl) rfl B.all_ (by decide +kernel) (pa_cons (pe_lc (own := [("many", 2)]) rfl sc_rests.nd (pi_tup (pe_ix ix_tup (pv 1) pe_int (fun _ _ => rfl))) (blkOk_by (N := ["board", "moment", "many"]) (sc := defScope s_rests) (by decide +kernel)) (fun _ _ _ _ _ => (pg_name (i := 2) sc_rests.nd rfl (Or.inl rfl))) (fun _ _ _ _ _ => pts_nil) (fun _ _ _ _ _ => (pe_cmpR op_eq (pv 2) pe_int (nomark _)))) pa_nil))))), ?_⟩
    refine ⟨vb, rfl, v, rfl, vb, v, ws, c, m, rfl, tb, bok, tv, mok, fun H1 s1 => ?_⟩
    obtain ⟨T, b1, b2, b3, rfl, eT, e1, e2, e3⟩ := moD_of (Td.mono (KT.same s1) _ _ tv)
    have w6 := bok.w6
    have wl := mok.wl
    dsimp only
    refine s_ret ?_
    refine read_allI (fun x => decide (x = 0)) (a := b2) (fun Q' q' => ⟨.ref T, rfl, T, _, 1, _, rfl, rfl, SqT.of eT, atI_nat (j := 1) rfl, q'⟩) e2 (by omega) (fun n H' s' Q' q' => ?_) fun H' s' => ?_
    · refine ⟨.int n, rfl, rfl, ?_⟩
      have e : decide (V.int n = V.int 0) = decide (n = 0) := by
        by_cases z : n = 0
        · rw [z]; rfl
        · rw [decide_eq_false z, decide_eq_false fun y => z (V.int.inj y)]
      rw [e]
      exact q' H' (Same.refl H')
    · rw [← ready_nil mok.wn]
      exact q H' (s1.trans s')
/-! ### how great the texts are -/
theorem small_nums : ∀ l : List Int, (∀ e ∈ l, -1000000 ≤ e ∧ e ≤ 1000000) → withinAll 2000000000000 (l.map PyData.int) ∧ wtAll (l.map PyData.int) = 132 * l.length ∧ PyData.depthAll (l.map PyData.int) = 0
  | [], _ => by simp [withinAll, wtAll, PyData.depthAll]
  | e :: l, hl => by
    obtain ⟨i1, i2, i3⟩ := small_nums l fun x hx => hl x (List.mem_cons_of_mem _ hx)
    have he := hl e List.mem_cons_self
    simp only [List.map_cons, withinAll, wtAll, PyData.depthAll, within, wt, PyData.depth, i2, i3, List.length_cons]
    exact ⟨⟨by omega, i1⟩, by omega, rfl⟩
/-- text of a part: bounded -/
structure Tx (n e : Nat) (d : PyData) : Prop where
  iw : within 2000000000000 d
  wn : wt d ≤ n
  dp : d.depth ≤ e
theorem tx_nums {l : List Int} {n : Nat} (h : ∀ e ∈ l, -1000000 ≤ e ∧ e ≤ 1000000) (hn : 3 + 132 * l.length ≤ n) : Tx n 1 (stepD l) := by
  obtain ⟨i1, i2, i3⟩ := small_nums l h
  refine ⟨?_, ?_, ?_⟩ <;> unfold stepD <;> simp only [within, wt, PyData.depth, i2, i3]
  · exact i1
  · omega
  · omega
theorem nd_nums : ∀ l : List Int, PyData.hasDictAll (l.map PyData.int) = false
  | [] => rfl
  | _ :: l => by
    rw [List.map_cons]
    simp only [PyData.hasDictAll, PyData.hasDict, nd_nums l]
    rfl
theorem nd_step (l : List Int) : (stepD l).hasDict = false := by
  unfold stepD
  simp only [PyData.hasDict, nd_nums]
theorem nd_mo (m : Mo) : (moD m).hasDict = false := by
  unfold moD momD
  simp only [PyData.hasDict, PyData.hasDictAll, nd_step]
  rfl
end
end K03

set_option maxRecDepth 100000
set_option maxHeartbeats 1000000
namespace K03
open PySem PySem.Spec PyProof.Rows L2 L2H HX
/-! ### how great a moment grows -/
theorem bump_le {l : List Int} {i : Nat} {B : Int} (h : ∀ x ∈ l, x ≤ B) (hB : 0 ≤ B) (d : Int) (hd : d ≤ 1) : ∀ x ∈ bump l i d, x ≤ B + 1 := by
  intro x hx
  rcases List.mem_or_eq_of_mem_set hx with hx | hx
  · have := h x hx
    omega
  · rw [hx, List.getD_eq_getElem?_getD]
    cases e : l[i]? with
    | none => show (0 : Int) + d ≤ _; omega
    | some y =>
      have := h y (List.mem_of_getElem? e)
      show y + d ≤ _
      omega
theorem send_le {W : Nat} : ∀ (es : List Int) (p : List Int × List Int) (B : Int), 0 ≤ B → (∀ x ∈ p.1, x ≤ B) → (∀ x ∈ p.2, x ≤ B) → (∀ x ∈ (es.foldl (sendM W) p).1, x ≤ B + es.length) ∧ ∀ x ∈ (es.foldl (sendM W) p).2, x ≤ B + es.length
  | [], p, B, _, h1, h2 => ⟨fun x hx => by have := h1 x hx; simp; omega, fun x hx => by have := h2 x hx; simp; omega⟩
  | e :: es, p, B, hB, h1, h2 => by
    rw [List.foldl_cons]
    have : (∀ x ∈ (sendM W p e).1, x ≤ B + 1) ∧ ∀ x ∈ (sendM W p e).2, x ≤ B + 1 := by
      unfold sendM
      split
      · exact ⟨bump_le h1 hB 1 (by omega), fun x hx => by have := h2 x hx; omega⟩
      · exact ⟨fun x hx => by have := h1 x hx; omega, bump_le h2 hB 1 (by omega)⟩
    obtain ⟨g1, g2⟩ := send_le es (sendM W p e) (B + 1) (by omega) this.1 this.2
    rw [List.length_cons]
    exact ⟨fun x hx => by have := g1 x hx; omega, fun x hx => by have := g2 x hx; omega⟩
structure MoLe (B : Int) (m : Mo) : Prop where
  w : ∀ x ∈ m.wt, x ≤ B
  h : ∀ x ∈ m.hd, x ≤ B
theorem MoLe.handle {ws : List (List (List Int))} {c B : Int} {m : Mo} (bok : BoardOk ws c) (h : MoLe B m) (hB : 0 ≤ B) (n : Nat) : MoLe (B + 4) (handleM ws m n) := by
  have hl : (endsAt ws m.st n).length ≤ 3 := by
    unfold endsAt
    rw [List.getD_eq_getElem?_getD (l := ws.getD n [])]
    cases e : (ws.getD n [])[(m.st.getD n 0).toNat]? with
    | none => exact Nat.zero_le _
    | some s =>
      have hs := List.mem_of_getElem? e
      rw [List.getD_eq_getElem?_getD] at hs
      cases e2 : ws[n]? with
      | none => rw [e2] at hs; cases hs
      | some w =>
        rw [e2] at hs
        exact ((bok.wheels w (List.mem_of_getElem? e2)).2.2 s hs).1
  obtain ⟨g1, g2⟩ := send_le (W := ws.length) (endsAt ws m.st n) (bump m.wt n (-1), m.hd) (B + 1) (by omega) (bump_le h.w hB (-1) (by omega)) (fun x hx => by have := h.h x hx; omega)
  exact ⟨fun x hx => by have := g1 x hx; omega, fun x hx => by have := g2 x hx; omega⟩
theorem tx_mo {ws : List (List (List Int))} {c : Int} {m : Mo} (bok : BoardOk ws c) (mok : MoOk ws c m) (h : MoLe 1000000 m) : Tx 2500 2 (moD m) := by
  have w6 := bok.w6
  have c4 := bok.c4
  have sl := mok.sl
  have wl := mok.wl
  have hl := mok.hl
  have a : Tx 800 1 (stepD m.st) := tx_nums (fun e he => by
    obtain ⟨j, hj⟩ := List.getElem?_of_mem he
    have hjl := (List.getElem?_eq_some_iff.mp hj).1
    rw [sl] at hjl
    have hw := mok.sr j e _ hj (List.getElem?_eq_getElem hjl)
    have := (bok.wheels _ (List.getElem_mem hjl)).2.1
    omega) (by omega)
  have b : Tx 800 1 (stepD m.wt) := tx_nums (fun e he => by have := mok.wn e he; have := h.w e he; omega) (by omega)
  have d : Tx 800 1 (stepD m.hd) := tx_nums (fun e he => by have := mok.hn e he; have := h.h e he; omega) (by omega)
  have := a.wn; have := a.dp; have := b.wn; have := b.dp; have := d.wn; have := d.dp
  refine ⟨?_, ?_, ?_⟩ <;> unfold moD momD <;> simp only [within, withinAll, wt, wtAll, PyData.depth, PyData.depthAll]
  · exact ⟨a.iw, b.iw, d.iw, trivial⟩
  · omega
  · omega
theorem tx_all {α : Type} (f : α → PyData) (w e : Nat) (l : List α) (h : ∀ x ∈ l, Tx w e (f x)) : withinAll 2000000000000 (l.map f) ∧ wtAll (l.map f) ≤ (w + 2) * l.length ∧ PyData.depthAll (l.map f) ≤ e := by
  induction l with
  | nil => simp [withinAll, wtAll, PyData.depthAll]
  | cons x l ih =>
    obtain ⟨i1, i2, i3⟩ := ih fun y hy => h y (List.mem_cons_of_mem _ hy)
    obtain ⟨a1, a2, a3⟩ := h x List.mem_cons_self
    simp only [List.map_cons, withinAll, wtAll, PyData.depthAll, List.length_cons]
    refine ⟨⟨a1, i1⟩, ?_, by omega⟩
    rw [Nat.mul_add]
    omega
theorem tx_board {ws : List (List (List Int))} {c : Int} (h : BoardOk ws c) : Tx 21000 4 (boardD ws c) := by
  have h6 := h.w6
  have c0 := h.c0
  have c4 := h.c4
  have hw : ∀ x ∈ ws, Tx 3300 2 (wheelD x) := by
    intro x hx
    obtain ⟨x1, x4, hs⟩ := h.wheels x hx
    obtain ⟨i1, i2, i3⟩ := tx_all stepD 800 1 x fun s hs' => tx_nums (fun e he => by
      have := (hs s hs').2 e he
      omega) (by have := (hs s hs').1; omega)
    have : (800 + 2) * x.length ≤ 802 * 4 := Nat.mul_le_mul_left _ x4
    refine ⟨?_, ?_, ?_⟩ <;> unfold wheelD <;> simp only [within, wt, PyData.depth]
    · exact i1
    · omega
    · omega
  obtain ⟨i1, i2, i3⟩ := tx_all wheelD 3300 2 ws hw
  have : (3300 + 2) * ws.length ≤ 3302 * 6 := Nat.mul_le_mul_left _ h6
  refine ⟨?_, ?_, ?_⟩ <;> unfold boardD wheelsD <;> simp only [within, withinAll, wt, wtAll, PyData.depth, PyData.depthAll]
  · exact ⟨i1, by omega, trivial⟩
  · omega
  · omega
theorem nd_wheels (ws : List (List (List Int))) : (wheelsD ws).hasDict = false := by
  have aux : ∀ {α : Type} (f : α → PyData) (l : List α), (∀ x ∈ l, (f x).hasDict = false) → PyData.hasDictAll (l.map f) = false := by
    intro α f l
    induction l with
    | nil => intro _; rfl
    | cons x l ih =>
      intro h
      rw [List.map_cons]
      simp only [PyData.hasDictAll]
      rw [h x List.mem_cons_self, ih fun y hy => h y (List.mem_cons_of_mem _ hy)]
      rfl
  unfold wheelsD
  simp only [PyData.hasDict]
  refine aux wheelD ws fun x _ => ?_
  unfold wheelD
  simp only [PyData.hasDict]
  exact aux stepD x fun s _ => nd_step s
theorem two_ok {ws : List (List (List Int))} {c : Int} {m : Mo} (bok : BoardOk ws c) (mok : MoOk ws c m) (ml : MoLe 1000000 m) : Gd 16000000 100 (.tuple [boardD ws c, moD m]) ∧ PyData.hasDict (.tuple [boardD ws c, moD m]) = false := by
  have a := tx_board bok
  have b := tx_mo bok mok ml
  have := a.wn; have := a.dp; have := b.wn; have := b.dp
  refine ⟨⟨?_, ?_, ?_⟩, ?_⟩
  · simp only [within, withinAll]
    exact ⟨a.iw, b.iw, trivial⟩
  · simp only [wt, wtAll]
    omega
  · simp only [PyData.depth, PyData.depthAll]
    omega
  · unfold boardD
    simp only [PyData.hasDict, PyData.hasDictAll, nd_wheels, nd_mo]
    rfl
theorem bool_ok (b : Bool) : Gd 16000000 100 (.bool b) ∧ PyData.hasDict (.bool b) = false := by
  refine ⟨⟨?_, ?_, ?_⟩, rfl⟩
  · simp only [within]
  · simp only [wt]
    omega
  · simp only [PyData.depth]
    omega
theorem told_ok {m : Mo} (h : Tx 2500 2 (moD m)) : Gd 16000000 100 (.tuple [.str "told", moD m]) ∧ PyData.hasDict (.tuple [.str "told", moD m]) = false := by
  have := h.wn
  have := h.dp
  have hs : (reprText (Str.ofString "told")).length ≤ 100 := by decide +kernel
  refine ⟨⟨?_, ?_, ?_⟩, ?_⟩
  · simp only [within, withinAll]
    exact ⟨trivial, h.iw, trivial⟩
  · simp only [wt, wtAll]
    omega
  · simp only [PyData.depth, PyData.depthAll]
    omega
  · simp only [PyData.hasDict, PyData.hasDictAll, nd_mo]
    rfl
theorem now_ok : Gd 16000000 100 (.tuple [.str "now"]) ∧ PyData.hasDict (.tuple [.str "now"]) = false := by
  have hs : (reprText (Str.ofString "now")).length ≤ 100 := by decide +kernel
  refine ⟨⟨?_, ?_, ?_⟩, rfl⟩
  · simp only [within, withinAll]
    exact ⟨trivial, trivial⟩
  · simp only [wt, wtAll]
    omega
  · simp only [PyData.depth, PyData.depthAll]
    omega
section
variable {P : Program} {w : World} {K : PySem.W.Frag} {mg : Str → Option Value} {base : Heap} {k : Nat}
def spRight (Pt : Addr) : Sp := fun vs H Q _ => ∃ (vb v : V) (ws : List (List (List Int))) (c : Int) (m : Mo), vs = [vb, v] ∧ Td H vb (boardD ws c) ∧ BoardOk ws c ∧ Td H v (moD m) ∧ MoOk ws c m ∧ MoLe 100000 m ∧ LamX.Tabs [(Pt, lamQ "_law_each_right")] H ∧
  ∀ H', LamX.ExtN H H' → LamX.Tabs [(Pt, lamQ "_law_each_right")] H' → Q (.bl true) H'
theorem ok_right {c0 Pt CM CN : Addr} {C : Nat → Addr} (D : DefC K mg "_law_each_right" s__law_each_right ["_law_board_here", "_law_moment_here"] c0) (TB : LamX.TabB base mg c0 Pt) (B : Bi mg) (hM : mg "MarbleError" = some (.ref CM)) (hex_NotNow : PySem.W.exmOne K (.ref CN) (.ref CM) = some true) (ef_NotNow : EF K C CN 4)
    (D_said : Def K mg "_law_said" s__law_said ["_law_call"]) (cw : CalE P w K mg base k "_law_word" "_law_e" (spWord K C)) (cx_handled : CalX P w K mg base k "handled" ["board", "moment", "wheel"] (spGoneX CN)) (c__law_handle : Cal P w K mg base k "_law_handle" ["_law_board_here", "_law_moment_here", "_law_wheel"] spHandled)
    (c_rests : Cal P w K mg base k "rests" ["board", "moment"] spRests) (c__law_ready : Cal P w K mg base k "_law_ready" ["_law_moment_here"] spReady) :
    CalG P w K mg base (k + 3) "_law_each_right" ["_law_board_here", "_law_moment_here"] (spRight Pt) := by
  refine D.okG sc__law_each_right (fun vs H Q E h => ?_) (fun f A outer s H vs Q E en hr2 h => ?_)
  · obtain ⟨vb, v, ws, c, m, rfl, _⟩ := h
    rfl
  · obtain ⟨vb, v, ws, c, m, rfl, tb, bok, tv, mok, ml, t0, q⟩ := h
    have hr := hr2.mono (show k ≤ k + 2 by omega)
    refine ⟨_, (pss_cons (ps_set (i := 2) sc__law_each_right.nd rfl (Or.inl rfl) (pe_callB (call_reprP (entx_of en) (hu150 hr)) rfl B.repr_ (by decide +kernel) (pa_cons (pe_tup (pa_cons (pv 0) (pa_cons (pv 1) pa_nil))) pa_nil)))
  (pss_cons (ps_for PassesOwn.never rfl (pi_range1 rfl B.range_ (pa_cons (pe_callB call_len_seq rfl B.len_ (by decide +kernel) (pa_cons (pe_ix ix_tup (pv 0) pe_int (fun _ _ => rfl)) pa_nil)) pa_nil)) (pg_name (i := 3) sc__law_each_right.nd rfl (Or.inr rfl))
  (pss_cons (ps_set (i := 4) sc__law_each_right.nd rfl (Or.inl rfl) (pe_ifExp (pt_cmpR op_gt (pe_ix ix_tup (pe_ix ix_tup (pv 1) pe_int (fun _ _ => rfl)) (pv 3) (fun _ _ => rfl)) pe_int (nomark _)) (pe_tup (pa_cons pe_str (pa_cons (pe_cal c__law_handle hr rfl (pa_cons (pv 0) (pa_cons (pv 1) (pa_cons (pv 3) pa_nil)))) pa_nil))) (pe_tup (pa_cons pe_str pa_nil))))
  (pss_one (ps_for PassesOwn.never rfl (pi_range1 rfl B.range_ (pa_cons pe_int pa_nil)) (pg_name (i := 5) sc__law_each_right.nd rfl (Or.inl rfl))
  (pss_one (ps_if (pt_cmpR op_ne (pe_callB (call_reprP (entx_of en) (hu150 hr)) rfl B.repr_ (by decide +kernel) (pa_cons (pe_said (T := [(Pt, lamQ "_law_each_right")]) D_said cw hM TB rfl (by rw [qual_cx]; exact List.mem_singleton.mpr rfl) (fun p hp _ => by rw [qual_cx, List.mem_singleton.mp hp]) hr2 rfl (LamX.lamS_by (sc := defScope s__law_each_right) (by decide +kernel)) rfl (fun _ _ _ _ _ => rfl) (fun A outer s H E f c hrL => (pe_calX (takes_of rfl rfl rfl rfl) cx_handled hrL rfl (pa_cons (pv 0) (pa_cons (pv 1) (pa_cons (pv 3) pa_nil)))))) pa_nil)) (pe_callB (call_reprP (entx_of en) (hu150 hr)) rfl B.repr_ (by decide +kernel) (pa_cons (pv 4) pa_nil)) (nomark _))
  (pss_one (ps_ret pe_bl))
  pss_nil))))))
  (pss_one (ps_ret (pe_and (pe_cmpR op_eq (pe_callB (call_reprP (entx_of en) (hu150 hr)) rfl B.repr_ (by decide +kernel) (pa_cons (pe_cal c_rests hr rfl (pa_cons (pv 0) (pa_cons (pv 1) pa_nil))) pa_nil)) (pe_callB (call_reprP (entx_of en) (hu150 hr)) rfl B.repr_ (by decide +kernel) (pa_cons (pe_cmpR (op_eqD (hu64 hr)) (pe_cal c__law_ready hr rfl (pa_cons (pv 1) pa_nil)) (pe_lst pa_nil) (nomark _)) pa_nil)) (nomark _)) (pe_one (pe_cmpR op_eq (pe_callB (call_reprP (entx_of en) (hu150 hr)) rfl B.repr_ (by decide +kernel) (pa_cons (pe_tup (pa_cons (pv 0) (pa_cons (pv 1) pa_nil))) pa_nil)) (pv 2) (nomark _)))))))), ?_⟩
    have w1 : ∀ x ∈ ws, 1 ≤ x.length := fun x hx => (bok.wheels x hx).1
    have w6 := bok.w6
    have ml' : MoLe 1000000 m := ⟨fun x hx => by have := ml.w x hx; omega, fun x hx => by have := ml.h x hx; omega⟩
    obtain ⟨g3, n3⟩ := two_ok bok mok ml'
    -- kept
    refine ⟨vb, rfl, v, rfl, by show 2 ≤ sizeLine; decide, fun p1 n1 => ?_⟩
    have s1 : Same H (upd H p1 (.tup [vb, v])) := Same.new n1
    have e1 : upd H p1 (.tup [vb, v]) p1 = some (.tup [vb, v]) := upd_same
    generalize upd H p1 (.tup [vb, v]) = H1 at s1 e1 ⊢
    refine ⟨.ref p1, .tuple [boardD ws c, moD m], rfl, .tup (SqT.of e1) (.cons (Td.dp _ _ (Td.mono (KT.same s1) _ _ tb)) (.cons (Td.dp _ _ (Td.mono (KT.same s1) _ _ tv)) .nil)), n3, g3, ?_⟩
    obtain ⟨ab, aw, ys, rfl, eb, ew, hy⟩ := Td.boardOf (Td.mono (KT.same s1) _ _ tb)
    have hl : ys.length = ws.length := by rw [hy.len, List.length_map]
    have t1 := LamX.Tabs.ext t0 fun b o e => s1 b o e
    have hwt : ∀ n, n < ws.length → n < m.wt.length := fun n hn => by rw [mok.wl]; exact hn
    refine ⟨.ref ab, rfl, ab, _, 0, _, rfl, rfl, SqT.of eb, atI_nat (j := 0) rfl, aw, ys, rfl, .inr (SqT.of ew), _, rfl, by omega, by omega, for_range (n := _) (fun i σ H' => ∃ y3 y4 y5 : Option V, σ = [some (.ref ab), some v, some (.str (PyData.tuple [boardD ws c, moD m]).shown), y3, y4, y5] ∧ LamX.ExtN H1 H' ∧ LamX.Tabs [(Pt, lamQ "_law_each_right")] H') ⟨none, none, none, rfl, LamX.ExtN.refl H1, t1⟩ (fun i σ H2 hi pp => ?_) (fun σ H2 pp => ?_)⟩
    · obtain ⟨y3, y4, y5, rfl, xG, tG⟩ := pp
      have ei : (0 : Int) + (i : Int) = (i : Int) := Int.zero_add _
      have hn : i < ws.length := by omega
      have x2 : LamX.ExtN H H2 := (LamX.ExtN.of s1).trans xG
      have tb2 := Td.mono (KT.extN x2) _ _ tb
      have tv2 := Td.mono (KT.extN x2) _ _ tv
      have tvx := tv2
      obtain ⟨T, b1, b2, b3, rfl, eT, f1, f2, f3⟩ := moD_of tv2
      rw [ei]
      have ml2 : MoLe 1000000 (handleM ws m i) := by
        have := ml.handle bok (by omega) i
        exact ⟨fun x hx => by have := this.w x hx; omega, fun x hx => by have := this.h x hx; omega⟩
      obtain ⟨k1, k2⟩ := now_ok
      refine ⟨.ref T, rfl, T, _, 1, _, rfl, rfl, SqT.of eT, atI_nat (j := 1) rfl, .int i, rfl, b2, _, i, _, rfl, rfl, SqT.of f2, atI_nat (getI (hwt i hn)), _, 0, rfl, rfl, _, rfl, ite2 (fun g => ?_) (fun g => ?_)⟩
      · have gp : 0 < m.wt.getD i 0 := of_decide_eq_true g
        have mok2 := mok.handle w1 gp
        obtain ⟨h1, h2⟩ := told_ok (tx_mo bok mok2 ml2)
        refine ⟨.ref ab, rfl, .ref T, rfl, .int i, rfl, .ref ab, .ref T, i, ws, c, m, rfl, tb2, bok, tvx, mok.toMoF, hn, fun vm H3 s3 tm => ?_⟩
        refine ⟨by show 2 ≤ sizeLine; decide, fun d1 nd1 => ?_⟩
        have s4 : Same H3 (upd H3 d1 (.tup [.str "told", vm])) := Same.new nd1
        have ed1 : upd H3 d1 (.tup [.str "told", vm]) d1 = some (.tup [.str "told", vm]) := upd_same
        generalize upd H3 d1 (.tup [.str "told", vm]) = H4 at s4 ed1 ⊢
        have tm4 := Td.mono (KT.same s4) _ _ tm
        have x4 : LamX.ExtN H1 H4 := xG.trans (LamX.ExtN.of (s3.trans s4))
        have t4 := LamX.Tabs.ext tG fun b o e => (s3.trans s4) b o e
        refine ⟨2, rfl, by decide, by decide, for_range (n := 2) (fun j σ H' => ∃ y5 : Option V, σ = [some (.ref ab), some (.ref T), some (.str (PyData.tuple [boardD ws c, moD m]).shown), some (.int (i : Int)), some (.ref d1), y5] ∧ LamX.ExtN H4 H' ∧ LamX.Tabs [(Pt, lamQ "_law_each_right")] H') ⟨y5, rfl, LamX.ExtN.refl H4, t4⟩ (fun j σ H5 hj pp => ?_) (fun σ H5 pp => ?_)⟩
        · obtain ⟨y5, rfl, x5, t5⟩ := pp
          refine ⟨t5, fun H6 x6 t6 => ?_⟩
          have x46 := x5.trans x6
          have x06 : LamX.ExtN H H6 := (LamX.ExtN.of s1).trans (x4.trans x46)
          refine ⟨.ref ab, rfl, .ref T, rfl, .int i, rfl, .ref ab, .ref T, i, ws, c, m, rfl, Td.mono (KT.extN x06) _ _ tb, bok, Td.mono (KT.extN x06) _ _ tv, mok, hn, fun vm2 H7 _ s7 tm2 => ?_, fun H7 z _ => absurd gp (by omega)⟩
          refine ⟨by show 2 ≤ sizeLine; decide, fun d2 nd2 => ?_⟩
          have s8 : Same H7 (upd H7 d2 (.tup [.str "told", vm2])) := Same.new nd2
          have ed2 : upd H7 d2 (.tup [.str "told", vm2]) d2 = some (.tup [.str "told", vm2]) := upd_same
          generalize upd H7 d2 (.tup [.str "told", vm2]) = H8 at s8 ed2 ⊢
          have s68 := s7.trans s8
          have x48 : LamX.ExtN H4 H8 := x46.trans (LamX.ExtN.of s68)
          have ed1' := x48 _ _ ed1 fun _ z => nomatch z
          refine ⟨.ref d2, .tuple [.str "told", moD (handleM ws m i)], rfl, .tup (SqT.of ed2) (.cons (.str _) (.cons (Td.dp _ _ (Td.mono (KT.same s8) _ _ tm2)) .nil)), h2, h1, .ref d1, rfl, .ref d1, .tuple [.str "told", moD (handleM ws m i)], rfl, .tup (SqT.of ed1') (.cons (.str _) (.cons (Td.dp _ _ (Td.mono (KT.extN x48) _ _ tm4)) .nil)), h2, h1, rfl, _, rfl, ?_⟩
          generalize (PyData.tuple [PyData.str "told", moD (handleM ws m i)]).shown = S
          refine iteNS rfl ?_
          exact ⟨_, rfl, x48, LamX.Tabs.ext t6 fun b o e => s68 b o e⟩
        · obtain ⟨y5, rfl, x5, t5⟩ := pp
          exact ⟨_, _, _, rfl, x4.trans x5, t5⟩
      · have g0 : m.wt.getD i 0 = 0 := by
          have h0 := getD_nn (i := i) mok.wn
          have : ¬ (0 < m.wt.getD i 0) := fun z => g (decide_eq_true z)
          omega
        refine ⟨by show 1 ≤ sizeLine; decide, fun d1 nd1 => ?_⟩
        have s4 : Same H2 (upd H2 d1 (.tup [.str "now"])) := Same.new nd1
        have ed1 : upd H2 d1 (.tup [.str "now"]) d1 = some (.tup [.str "now"]) := upd_same
        generalize upd H2 d1 (.tup [.str "now"]) = H4 at s4 ed1 ⊢
        have x4 : LamX.ExtN H1 H4 := xG.trans (LamX.ExtN.of s4)
        have t4 := LamX.Tabs.ext tG fun b o e => s4 b o e
        refine ⟨2, rfl, by decide, by decide, for_range (n := 2) (fun j σ H' => ∃ y5 : Option V, σ = [some (.ref ab), some (.ref T), some (.str (PyData.tuple [boardD ws c, moD m]).shown), some (.int (i : Int)), some (.ref d1), y5] ∧ LamX.ExtN H4 H' ∧ LamX.Tabs [(Pt, lamQ "_law_each_right")] H') ⟨y5, rfl, LamX.ExtN.refl H4, t4⟩ (fun j σ H5 hj pp => ?_) (fun σ H5 pp => ?_)⟩
        · obtain ⟨y5, rfl, x5, t5⟩ := pp
          refine ⟨t5, fun H6 x6 t6 => ?_⟩
          have x46 := x5.trans x6
          have x06 : LamX.ExtN H H6 := (LamX.ExtN.of s1).trans (x4.trans x46)
          refine ⟨.ref ab, rfl, .ref T, rfl, .int i, rfl, .ref ab, .ref T, i, ws, c, m, rfl, Td.mono (KT.extN x06) _ _ tb, bok, Td.mono (KT.extN x06) _ _ tv, mok, hn, fun vm2 H7 z _ _ => absurd z (by omega), fun H7 _ s7 => ⟨true, hex_NotNow, fun _ ea na => ⟨CN, 4, rfl, rfl, by decide, ef_NotNow, fun d2 H8 s8 ed2 => ?_⟩, fun z => nomatch z⟩⟩
          have s68 := s7.trans s8
          have x48 : LamX.ExtN H4 H8 := x46.trans (LamX.ExtN.of s68)
          have ed1' := x48 _ _ ed1 fun _ z => nomatch z
          refine ⟨.ref d2, .tuple [.str "now"], rfl, .tup (SqT.of ed2) (.cons (.str _) .nil), k2, k1, .ref d1, rfl, .ref d1, .tuple [.str "now"], rfl, .tup (SqT.of ed1') (.cons (.str _) .nil), k2, k1, rfl, _, rfl, ?_⟩
          generalize (PyData.tuple [PyData.str "now"]).shown = S
          refine iteNS rfl ?_
          exact ⟨_, rfl, x48, LamX.Tabs.ext t6 fun b o e => s68 b o e⟩
        · obtain ⟨y5, rfl, x5, t5⟩ := pp
          exact ⟨_, _, _, rfl, x4.trans x5, t5⟩
    · obtain ⟨y3, y4, y5, rfl, xG, tG⟩ := pp
      have x2 : LamX.ExtN H H2 := (LamX.ExtN.of s1).trans xG
      have tb2 := Td.mono (KT.extN x2) _ _ tb
      have tv2 := Td.mono (KT.extN x2) _ _ tv
      have wl := mok.wl
      obtain ⟨gb, nb⟩ := bool_ok (readyM m.wt).isEmpty
      refine ⟨.ref ab, rfl, v, rfl, .ref ab, v, ws, c, m, rfl, tb2, bok, tv2, mok, fun H3 s3 => ?_⟩
      refine ⟨.bl _, .bool (readyM m.wt).isEmpty, rfl, .bl _, nb, gb, ?_⟩
      refine ⟨v, rfl, v, m, rfl, Td.mono (KT.same s3) _ _ tv2, by omega, fun D4 H4 s4 eD nD => ?_⟩
      refine ⟨by show 0 ≤ sizeLine; decide, fun E2 nE => ?_⟩
      have s5 : Same H4 (upd H4 E2 (.lst [])) := Same.new nE
      refine ⟨.list ((readyM m.wt).map fun n : Nat => PyData.int (n : Int)), .list [], .lst (SqL.of (s5 _ _ eD)) (dp_row _), .lst (SqL.of upd_same) .nil, shaped_row _, rfl, ?_⟩
      have eqf : PyData.eqv (.list ((readyM m.wt).map fun n : Nat => PyData.int (n : Int))) (.list []) = (readyM m.wt).isEmpty := by
        cases readyM m.wt with
        | nil => rfl
        | cons a l => rfl
      rw [eqf]
      refine ⟨.bl _, .bool (readyM m.wt).isEmpty, rfl, .bl _, nb, gb, rfl, ?_⟩
      rw [decide_eq_true rfl]
      refine ⟨true, rfl, iteT ?_⟩
      have s35 := s3.trans (s4.trans s5)
      generalize upd H4 E2 (.lst []) = H5 at s35 ⊢
      have x5 := x2.trans (LamX.ExtN.of s35)
      refine ⟨.ref ab, rfl, v, rfl, by show 2 ≤ sizeLine; decide, fun p2 n2 => ?_⟩
      have s7 : Same H5 (upd H5 p2 (.tup [.ref ab, v])) := Same.new n2
      have e7 : upd H5 p2 (.tup [.ref ab, v]) p2 = some (.tup [.ref ab, v]) := upd_same
      generalize upd H5 p2 (.tup [.ref ab, v]) = H7 at s7 e7 ⊢
      have x7 := x5.trans (LamX.ExtN.of s7)
      refine ⟨.ref p2, .tuple [boardD ws c, moD m], rfl, .tup (SqT.of e7) (.cons (Td.dp _ _ (Td.mono (KT.extN x7) _ _ tb)) (.cons (Td.dp _ _ (Td.mono (KT.extN x7) _ _ tv)) .nil)), n3, g3, .str _, rfl, rfl, ?_⟩
      rw [decide_eq_true rfl]
      exact q H7 x7 (LamX.Tabs.ext tG fun b o e => (s35.trans s7) b o e)
end
end K03

set_option maxRecDepth 100000
set_option maxHeartbeats 1000000
namespace K03
open PySem PySem.Spec PyProof.Rows L2 L2H HX
abbrev s_law : Stmt := topS 59
theorem sc_law : FnScope ["_law_script", "_law_k", "_law_pen_here", "_law_turn", "_law_board_here", "_law_moment_here", "_law_lap", "_law_some"] ["_law_script"] (defScope s_law) := ⟨rfl, rfl, rfl, by decide +kernel, rfl, by decide +kernel, by decide +kernel⟩
theorem PenAt.extN {H H' : Hp} {pn : Addr} {m : Nat} (h : PenAt H pn m) (k : LamX.ExtN H H') : PenAt H' pn m := by
  obtain ⟨p0, p1, p2, e, r⟩ := h
  exact ⟨p0, p1, p2, k _ _ e (fun _ z => nomatch z), r⟩
theorem PenAt.tabs {T : List (Addr × Str)} {H H' : Hp} {pn : Addr} {m : Nat} (h : PenAt H pn m) (t : LamX.Tabs T H) (k : Kp (· = pn) H H') : LamX.Tabs T H' := by
  obtain ⟨xs, e⟩ := h.list
  exact Tabs.kp t e k
section
variable {P : Program} {w : World} {K : PySem.W.Frag} {mg : Str → Option Value} {base : Heap} {k : Nat}
def spLaw (Pt : Addr) (K : PySem.W.Frag) : Sp := fun vs H Q _ => ∃ (a : Addr) (ns : List Int), vs = [.ref a] ∧ SqL K H a (ns.map V.int) ∧ ns.length ≤ 63 ∧ H Pt = some (.tbl #[]) ∧ ∀ H', Q (.bl true) H'
theorem ok_law {f Pt : Addr} {fd : FuncData} (F : Fun K "law" "law" s_law f fd) (B : Bi mg) (c__law_each_right : CalG P w K mg base k "_law_each_right" ["_law_board_here", "_law_moment_here"] (spRight Pt)) (c__law_ready : Cal P w K mg base k "_law_ready" ["_law_moment_here"] spReady) (c__law_pick : Cal P w K mg base k "_law_pick" ["_law_pen_here", "_law_some"] spPick)
    (c__law_handle : Cal P w K mg base k "_law_handle" ["_law_board_here", "_law_moment_here", "_law_wheel"] spHandled) (c__law_moment : Cal P w K mg base k "_law_moment" ["_law_pen_here", "_law_board_here", "_law_most"] spDrawn)
    (c__law_board : Cal P w K mg base k "_law_board" ["_law_pen_here", "_law_most"] spBoard) (c__law_pen : Cal P w K mg base k "_law_pen" ["_law_cell"] spPen)
    (c__law_cell_at : Cal P w K mg base k "_law_cell_at" ["_law_script", "_law_k"] (spCell K)) : FnG P w K mg base (k + 1) f fd ["_law_script"] (spLaw Pt K) := by
  refine Fun.okG F sc_law (fun vs H Q E h => ?_) (fun cdv A outer s H vs Q E en hr h => ?_)
  · obtain ⟨a, ns, rfl, _⟩ := h
    rfl
  · obtain ⟨a, ns, rfl, hS, hl, hP, q⟩ := h
    refine ⟨_, (pss_cons (ps_for PassesOwn.never rfl (pi_range1 rfl B.range_ (pa_cons (pe_callB (call_max2 rfl) rfl B.max_ (by decide +kernel) (pa_cons pe_int (pa_cons (pe_callB (call_min2 rfl) rfl B.min_ (by decide +kernel) (pa_cons (pe_callB call_len_seq rfl B.len_ (by decide +kernel) (pa_cons (pv 0) pa_nil)) (pa_cons pe_int pa_nil))) pa_nil))) pa_nil)) (pg_name (i := 1) sc_law.nd rfl (Or.inl rfl))
  (pss_cons (ps_set (i := 2) sc_law.nd rfl (Or.inl rfl) (pe_cal c__law_pen hr rfl (pa_cons (pe_cal c__law_cell_at hr rfl (pa_cons (pv 0) (pa_cons (pv 1) pa_nil))) pa_nil)))
  (pss_one (ps_for PassesOwn.never rfl (pi_range1 rfl B.range_ (pa_cons pe_int pa_nil)) (pg_name (i := 3) sc_law.nd rfl (Or.inl rfl))
  (pss_cons (ps_set (i := 4) sc_law.nd rfl (Or.inl rfl) (pe_cal c__law_board hr rfl (pa_cons (pv 2) (pa_cons pe_int pa_nil))))
  (pss_cons (ps_set (i := 5) sc_law.nd rfl (Or.inl rfl) (pe_cal c__law_moment hr rfl (pa_cons (pv 2) (pa_cons (pv 4) (pa_cons pe_int pa_nil)))))
  (pss_one (ps_for PassesOwn.never rfl (pi_range1 rfl B.range_ (pa_cons pe_int pa_nil)) (pg_name (i := 6) sc_law.nd rfl (Or.inl rfl))
  (pss_cons (ps_if (pt_not (pt_val (pe_calG (entx_of en) c__law_each_right hr rfl (pa_cons (pv 4) (pa_cons (pv 5) pa_nil)))))
  (pss_one (ps_ret pe_bl))
  pss_nil)
  (pss_cons (ps_set (i := 7) sc_law.nd rfl (Or.inl rfl) (pe_cal c__law_ready hr rfl (pa_cons (pv 5) pa_nil)))
  (pss_one (ps_if (pt_cmpR (op_eqD (hu64 hr)) (pv 7) (pe_lst pa_nil) (nomark _))
  (pss_one (ps_set (i := 5) sc_law.nd rfl (Or.inl rfl) (pe_cal c__law_moment hr rfl (pa_cons (pv 2) (pa_cons (pv 4) (pa_cons pe_int pa_nil))))))
  (pss_one (ps_set (i := 5) sc_law.nd rfl (Or.inl rfl) (pe_cal c__law_handle hr rfl (pa_cons (pv 4) (pa_cons (pv 5) (pa_cons (pe_cal c__law_pick hr rfl (pa_cons (pv 2) (pa_cons (pv 7) pa_nil))) pa_nil))))))))))))))))))
  (pss_one (ps_ret pe_bl))), ?_⟩
    have t0 : LamX.Tabs [(Pt, lamQ "_law_each_right")] H := fun p hp => by
      rw [List.mem_singleton.mp hp]
      exact LamX.TabS.nil hP
    refine ⟨.ref a, rfl, a, _, rfl, .inl hS, _, 4, rfl, 1, _, rfl, _, rfl, ?_, ?_, for_range (n := _) (fun i σ H2 => ∃ y1 y2 y3 y4 y5 y6 y7 : Option V, σ = [some (.ref a), y1, y2, y3, y4, y5, y6, y7] ∧ SqL K H2 a (ns.map V.int) ∧ LamX.Tabs [(Pt, lamQ "_law_each_right")] H2) ⟨none, none, none, none, none, none, none, rfl, hS, t0⟩ (fun i σ H2 hi pp => ?_) (fun σ H2 pp => q H2)⟩
    · split <;> split <;> omega
    · split <;> split <;> omega
    · obtain ⟨y1, y2, y3, y4, y5, y6, y7, rfl, hS2, t2⟩ := pp
      have ei : (0 : Int) + (i : Int) = (i : Int) := Int.zero_add _
      refine ⟨.ref a, rfl, .int (0 + (i : Int)), rfl, a, ns, i, by rw [ei]; rfl, hS2, fun cell => ⟨cell, rfl, fun pn H3 npn s3 pen3 => ?_⟩⟩
      have t3 := LamX.Tabs.ext t2 fun b o e => s3 b o e
      refine ⟨2, rfl, by decide, by decide, for_range (n := 2) (fun j σ H' => ∃ y3 y4 y5 y6 y7 : Option V, σ = [some (.ref a), some (.int (0 + (i : Int))), some (.ref pn), y3, y4, y5, y6, y7] ∧ KX pn H3 H' ∧ PenAt H' pn (10000 * (3 - j)) ∧ LamX.Tabs [(Pt, lamQ "_law_each_right")] H') ⟨y3, y4, y5, y6, y7, rfl, KX.refl pn H3, pen3.less (by omega), t3⟩ (fun j σ H4 hj pp => ?_) (fun σ H4 pp => ?_)⟩
      · obtain ⟨y3, y4, y5, y6, y7, rfl, k4, pen4, t4⟩ := pp
        have hj2 : j < 2 := hj
        refine ⟨.ref pn, rfl, pn, 6, 10000 * (2 - j) + 7000, rfl, by decide, by decide, pen4.less (by omega), fun vb ws c H5 bok _ _ tb k5 pen5 => ?_⟩
        refine ⟨.ref pn, rfl, vb, rfl, pn, vb, 5, 10000 * (2 - j) + 6000, ws, c, rfl, by decide, by decide, tb, bok, pen5.less (by omega), fun v st wt_ hd H6 mo tv k6 pen6 => ?_⟩
        have tb6 := Td.mono (pen5.kt k6) _ _ tb
        have w6 := bok.w6
        have w1 : ∀ x ∈ ws, 1 ≤ x.length := fun x hx => (bok.wheels x hx).1
        have mok : MoOk ws c ⟨st, wt_, hd⟩ := ⟨⟨mo.sl, mo.sr, mo.wl, mo.hl⟩, fun x hx => (mo.wr x hx).1, fun x hx => (mo.hr x hx).1⟩
        have ml : MoLe 1000 ⟨st, wt_, hd⟩ := ⟨fun x hx => by have := (mo.wr x hx).2; omega, fun x hx => by have := (mo.hr x hx).2; omega⟩
        have tv0 : Td H6 v (moD ⟨st, wt_, hd⟩) := tv
        generalize (Mo.mk st wt_ hd) = m at mok ml tv0
        clear tv mo
        have k46 : Kp (· = pn) H4 H6 := k5.trans k6
        have t6 := pen4.tabs t4 k46
        have kx6 : KX pn H3 H6 := k4.trans (KX.kp k46)
        refine ⟨24, rfl, by decide, by decide, for_range (n := 24) (fun u σ H' => ∃ (mi : Mo) (vm : V) (y6 y7 : Option V), σ = [some (.ref a), some (.int (0 + (i : Int))), some (.ref pn), some (.int (0 + (j : Int))), some vb, some vm, y6, y7] ∧ KX pn H3 H' ∧ PenAt H' pn (10000 * (2 - j) + 100 * (24 - u)) ∧ LamX.Tabs [(Pt, lamQ "_law_each_right")] H' ∧ Td H' vb (boardD ws c) ∧ Td H' vm (moD mi) ∧ MoOk ws c mi ∧ MoLe (1000 + 4 * (u : Int)) mi) ⟨m, v, y6, y7, rfl, kx6, pen6.less (by omega), t6, tb6, tv0, mok, ⟨fun x hx => by have := ml.w x hx; omega, fun x hx => by have := ml.h x hx; omega⟩⟩ (fun u σ H7 hu pp => ?_) (fun σ H7 pp => ?_)⟩
        · obtain ⟨mi, vm, y6, y7, rfl, kx7, pen7, t7, tb7, tm7, mk, mle⟩ := pp
          have hu24 : u < 24 := hu
          refine ⟨vb, rfl, vm, rfl, vb, vm, ws, c, mi, rfl, tb7, bok, tm7, mk, ⟨fun x hx => by have := mle.w x hx; omega, fun x hx => by have := mle.h x hx; omega⟩, t7, fun H8 x8 t8 => ⟨_, rfl, iteF ?_⟩⟩
          have tb8 := Td.mono (KT.extN x8) _ _ tb7
          have tm8 := Td.mono (KT.extN x8) _ _ tm7
          have pen8 := PenAt.extN pen7 x8
          have kx8 : KX pn H3 H8 := kx7.trans (KX.ext x8)
          clear tb7 tm7 pen7 kx7 t7 x8
          have hwl := mk.wl
          refine ⟨vm, rfl, vm, mi, rfl, tm8, by omega, fun D2 H9 s9 eD nD => ?_⟩
          have nDp : D2 ≠ pn := pen8.ne nD
          refine ⟨.ref D2, rfl, by show 0 ≤ sizeLine; decide, fun E2 nE => ?_⟩
          have sE : Same H9 (upd H9 E2 (.lst [])) := Same.new nE
          refine ⟨.list ((readyM mi.wt).map fun n : Nat => PyData.int (n : Int)), .list [], .lst (SqL.of (sE _ _ eD)) (dp_row _), .lst (SqL.of upd_same) .nil, shaped_row _, rfl, _, rfl, ?_⟩
          have s10 : Same H8 (upd H9 E2 (.lst [])) := s9.trans sE
          have eD10 := sE _ _ eD
          generalize upd H9 E2 (.lst []) = H10 at s10 eD10 ⊢
          have pen10 := pen8.same s10
          have tb10 := Td.mono (KT.same s10) _ _ tb8
          have tm10 := Td.mono (KT.same s10) _ _ tm8
          have t10 := LamX.Tabs.ext t8 fun b o e => s10 b o e
          have kx10 : KX pn H3 H10 := kx8.trans (KX.kp (Kp.of s10))
          cases er : readyM mi.wt with
          | nil =>
            refine iteT ⟨.ref pn, rfl, vb, rfl, pn, vb, 3, 10000 * (2 - j) + 100 * (24 - u) - 22, ws, c, rfl, by decide, by decide, tb10, bok, pen10.less (by omega), fun v' st' wt' hd' H11 mo' tv' k11 pen11 => ?_⟩
            refine ⟨⟨st', wt', hd'⟩, v', _, _, rfl, kx10.trans (KX.kp k11), pen11.less (by omega), pen10.tabs t10 k11, Td.mono (pen10.kt k11) _ _ tb10, tv', ⟨⟨mo'.sl, mo'.sr, mo'.wl, mo'.hl⟩, fun x hx => (mo'.wr x hx).1, fun x hx => (mo'.hr x hx).1⟩, ⟨fun x hx => ?_, fun x hx => ?_⟩⟩
            · have := (mo'.wr x hx).2
              omega
            · have := (mo'.hr x hx).2
              omega
          | cons n0 rest =>
            rw [er] at eD10
            have hrl : (n0 :: rest).length ≤ 6 := by
              rw [← er]
              have h1 := List.length_filter_le (fun n => decide (mi.wt.getD n 0 > 0)) (List.range mi.wt.length)
              rw [List.length_range] at h1
              exact Nat.le_trans h1 (by omega)
            refine iteF ⟨vb, rfl, vm, rfl, .ref pn, rfl, .ref D2, rfl, pn, D2, _, 10000 * (2 - j) + 100 * (24 - u) - 1, rfl, eD10, nDp, by rw [rowV_len]; exact Nat.succ_pos _, by rw [rowV_len]; omega, pen10.less (by omega), fun z x H11 hx k11 pen11 => ?_⟩
            obtain ⟨n, hn, rfl⟩ : ∃ n, n ∈ n0 :: rest ∧ x = .int ((n : Nat) : Int) := by
              unfold rowV at hx
              rw [List.getElem?_map] at hx
              cases e1 : (n0 :: rest)[z]? with
              | none => rw [e1] at hx; cases hx
              | some n =>
                rw [e1] at hx
                cases hx
                exact ⟨n, List.mem_of_getElem? e1, rfl⟩
            rw [← er] at hn
            obtain ⟨hn1, hn2⟩ := ready_mem hn
            have tb11 := Td.mono (pen10.kt k11) _ _ tb10
            have tm11 := Td.mono (pen10.kt k11) _ _ tm10
            refine ⟨vb, vm, n, ws, c, mi, rfl, tb11, bok, tm11, mk.toMoF, by omega, fun v' H12 s12 t12 => ?_⟩
            have mh := mle.handle bok (by omega) n
            refine ⟨handleM ws mi n, v', _, _, rfl, (kx10.trans (KX.kp k11)).trans (KX.kp (Kp.of s12)), (pen11.same s12).less (by omega), LamX.Tabs.ext (pen10.tabs t10 k11) fun b o e => s12 b o e, Td.mono (KT.same s12) _ _ tb11, t12, mk.handle w1 hn2, ⟨fun x hx => ?_, fun x hx => ?_⟩⟩
            · have := mh.w x hx
              omega
            · have := mh.h x hx
              omega
        · obtain ⟨mi, vm, y6, y7, rfl, kx7, pen7, t7, _⟩ := pp
          exact ⟨_, _, _, _, _, rfl, kx7, pen7.less (by omega), t7⟩
      · obtain ⟨y3, y4, y5, y6, y7, rfl, k4, pen4, t4⟩ := pp
        refine ⟨_, _, y3, y4, y5, y6, y7, rfl, ?_, t4⟩
        have kk : KX pn H2 H4 := (KX.kp (Kp.of s3)).trans k4
        exact kk.seq npn hS2
end
end K03

set_option maxRecDepth 100000
set_option maxHeartbeats 1000000
namespace K03
open PySem PySem.Spec PyProof.Rows L2 HX
section
variable {P : Program} {w : World} {K : PySem.W.Frag} {mg : Str → Option Value} {base : Heap} {k : Nat}
theorem law_all {t_MOST_WHEELS : Tok} {t_MOST_CUPS : Tok} {t_MOST_STEPS : Tok} {t_MOST_ENDS : Tok} {c Pt CM : Addr} {C : Nat → Addr} {f : Addr} {fd : FuncData} (F : Fun K "law" "law" s_law f fd) (B : Bi mg) (B2 : Bi2 mg) (B4 : Bi4 mg) (dc__law_each_right : DefC K mg "_law_each_right" s__law_each_right ["_law_board_here", "_law_moment_here"] c) (TB : LamX.TabB base mg c Pt) (G : Cls21 mg C) (hM : mg "MarbleError" = some (.ref CM)) (R_NotNow : Err K mg "NotNow" (C 4)) (ef_NotNow : EF K C (C 4) 4) (hex_NotNow : PySem.W.exmOne K (.ref (C 4)) (.ref CM) = some true) (g_MOST_WHEELS : mg "MOST_WHEELS" = some (.int 6 t_MOST_WHEELS)) (g_MOST_CUPS : mg "MOST_CUPS" = some (.int 4 t_MOST_CUPS)) (g_MOST_STEPS : mg "MOST_STEPS" = some (.int 4 t_MOST_STEPS)) (g_MOST_ENDS : mg "MOST_ENDS" = some (.int 3 t_MOST_ENDS))
    (d_is_whole : Def K mg "is_whole" s_is_whole ["thing"]) (d_is_within : Def K mg "is_within" s_is_within ["thing", "least", "most"]) (d_has_parts : Def K mg "has_parts" s_has_parts ["thing", "least", "most"]) (d_is_step : Def K mg "is_step" s_is_step ["thing", "ends"]) (d_is_wheel : Def K mg "is_wheel" s_is_wheel ["thing", "ends"]) (d_is_board : Def K mg "is_board" s_is_board ["thing"]) (d_need_board : Def K mg "need_board" s_need_board ["thing"]) (d_is_stand : Def K mg "is_stand" s_is_stand ["board", "thing"]) (d_are_marbles : Def K mg "are_marbles" s_are_marbles ["thing", "places"]) (d_is_moment : Def K mg "is_moment" s_is_moment ["board", "thing"]) (d_need_moment : Def K mg "need_moment" s_need_moment ["board", "thing"]) (d_is_wheel_number : Def K mg "is_wheel_number" s_is_wheel_number ["board", "thing"]) (d_need_wheel : Def K mg "need_wheel" s_need_wheel ["board", "thing"]) (d_loosened : Def K mg "loosened" s_loosened ["moment"]) (d_fastened : Def K mg "fastened" s_fastened ["stand", "waiting", "held"]) (d_handle_marble : Def K mg "handle_marble" s_handle_marble ["board", "parts", "wheel"]) (d_handled : Def K mg "handled" s_handled ["board", "moment", "wheel"]) (d_rests : Def K mg "rests" s_rests ["board", "moment"]) (d__law_cell_at : Def K mg "_law_cell_at" s__law_cell_at ["_law_script", "_law_k"]) (d__law_pen : Def K mg "_law_pen" s__law_pen ["_law_cell"]) (d__law_draw : Def K mg "_law_draw" s__law_draw ["_law_pen_here", "_law_many"]) (d__law_pick : Def K mg "_law_pick" s__law_pick ["_law_pen_here", "_law_some"]) (d__law_word : Def K mg "_law_word" s__law_word ["_law_e"]) (d__law_said : Def K mg "_law_said" s__law_said ["_law_call"]) (d__law_board : Def K mg "_law_board" s__law_board ["_law_pen_here", "_law_most"]) (d__law_moment : Def K mg "_law_moment" s__law_moment ["_law_pen_here", "_law_board_here", "_law_most"]) (d__law_handle : Def K mg "_law_handle" s__law_handle ["_law_board_here", "_law_moment_here", "_law_wheel"]) (d__law_ready : Def K mg "_law_ready" s__law_ready ["_law_moment_here"]) : FnG P w K mg base 14 f fd ["_law_script"] (spLaw Pt K) := by
  have c0__law_word := ok_word (P := P) (w := w) (base := base) (k := 0) d__law_word B B4 G
  have c1_is_whole := ok_is_whole (P := P) (w := w) (base := base) (k := 0) d_is_whole B
  have c2_is_within := ok_is_within (P := P) (w := w) (base := base) (k := 1) d_is_within c1_is_whole
  have c3_has_parts := ok_has_parts (P := P) (w := w) (base := base) (k := 0) d_has_parts B
  have c4_is_step := ok_is_step (P := P) (w := w) (base := base) (k := 2) d_is_step B g_MOST_ENDS c2_is_within (c3_has_parts.mono (by decide))
  have c5_is_wheel := ok_is_wheel (P := P) (w := w) (base := base) (k := 3) d_is_wheel B g_MOST_STEPS c4_is_step (c3_has_parts.mono (by decide))
  have c6_is_board := ok_is_board (P := P) (w := w) (base := base) (k := 4) d_is_board B g_MOST_WHEELS g_MOST_CUPS c5_is_wheel (c2_is_within.mono (by decide)) (c3_has_parts.mono (by decide))
  have c7_need_board := ok_need_board (P := P) (w := w) (base := base) (k := 5) d_need_board c6_is_board
  have c8_is_stand := ok_is_stand (P := P) (w := w) (base := base) (k := 6) d_is_stand B B2 c7_need_board (c2_is_within.mono (by decide)) (c3_has_parts.mono (by decide))
  have c9_are_marbles := ok_are_marbles (P := P) (w := w) (base := base) (k := 1) d_are_marbles B c1_is_whole c3_has_parts
  have c10_is_moment := ok_is_moment (P := P) (w := w) (base := base) (k := 7) d_is_moment B (c7_need_board.mono (by decide)) c8_is_stand (c9_are_marbles.mono (by decide)) (c3_has_parts.mono (by decide))
  have c11_need_moment := ok_need_moment (P := P) (w := w) (base := base) (k := 8) d_need_moment c10_is_moment
  have c12_is_wheel_number := ok_is_wheel_number (P := P) (w := w) (base := base) (k := 2) d_is_wheel_number B c2_is_within
  have c13_need_wheel := ok_need_wheel (P := P) (w := w) (base := base) (k := 3) d_need_wheel c12_is_wheel_number
  have c14_loosened := ok_loosened (P := P) (w := w) (base := base) (k := 0) d_loosened B
  have c15_fastened := ok_fastened (P := P) (w := w) (base := base) (k := 0) d_fastened B
  have c16_handle_marble := ok_handle_marble (P := P) (w := w) (base := base) (k := 0) d_handle_marble B
  have c17_handled := ok_goneX (P := P) (w := w) (base := base) (k := 9) d_handled R_NotNow B c11_need_moment (c13_need_wheel.mono (by decide)) (c14_loosened.mono (by decide)) (c15_fastened.mono (by decide)) (c16_handle_marble.mono (by decide))
  have c18__law_handle := ok_handled (P := P) (w := w) (base := base) (k := 0) d__law_handle B
  have c19_rests := ok_rests (P := P) (w := w) (base := base) (k := 9) d_rests B c11_need_moment
  have c20__law_ready := ok_ready (P := P) (w := w) (base := base) (k := 0) d__law_ready B2
  have c21__law_each_right := ok_right (P := P) (w := w) (base := base) (k := 10) dc__law_each_right TB B hM hex_NotNow ef_NotNow d__law_said (c0__law_word.mono (by decide)) c17_handled (c18__law_handle.mono (by decide)) c19_rests (c20__law_ready.mono (by decide))
  have c22__law_draw := ok_draw (P := P) (w := w) (base := base) (k := 0) d__law_draw B
  have c23__law_pick := ok_pick (P := P) (w := w) (base := base) (k := 1) d__law_pick B c22__law_draw
  have c24__law_moment := ok_drawn (P := P) (w := w) (base := base) (k := 1) d__law_moment B c22__law_draw
  have c25__law_board := ok_board (P := P) (w := w) (base := base) (k := 1) d__law_board B c22__law_draw
  have c26__law_pen := ok_pen (P := P) (w := w) (base := base) (k := 0) d__law_pen B
  have c27__law_cell_at := ok_cell_at (P := P) (w := w) (base := base) (k := 0) d__law_cell_at B
  exact ok_law (k := 13) F B c21__law_each_right (c20__law_ready.mono (by decide)) (c23__law_pick.mono (by decide)) (c18__law_handle.mono (by decide)) (c24__law_moment.mono (by decide)) (c25__law_board.mono (by decide)) (c26__law_pen.mono (by decide)) (c27__law_cell_at.mono (by decide))
end
end K03

set_option maxRecDepth 100000
open PySem PySem.W PyProof.Rows
set_option maxHeartbeats 0 in
theorem PySem.Challenge.cw_marblefall_k03_marbles_handled_holds : PySem.Challenge.rw_marblefall_k03_marbles_handled.Holds := by
  w_on; o_law; k_head; (case hw => w_witness2)
  k_fill
  refine HX.walk_ofTG (l := PySem.Challenge.rw_marblefall_k03_marbles_handled) (n := 63) (k := 14) (x := "_law_script") rfl (by decide) rfl ⟨rfl, by decide, by decide⟩ ?I (fun w h Y => PySem.W.km_in_of Y) ?F
  case I => first | rfl | decide +kernel
  case F =>
    intro w mg fa h KX G hmg tabs
    obtain ⟨t_MOST_WHEELS, g_MOST_WHEELS⟩ : ∃ t, mg "MOST_WHEELS" = some (.int 6 t) := by
      refine' HX.gint_mk KX G ?a
      (case a => k_is)
    obtain ⟨t_MOST_CUPS, g_MOST_CUPS⟩ : ∃ t, mg "MOST_CUPS" = some (.int 4 t) := by
      refine' HX.gint_mk KX G ?a
      (case a => k_is)
    obtain ⟨t_MOST_STEPS, g_MOST_STEPS⟩ : ∃ t, mg "MOST_STEPS" = some (.int 4 t) := by
      refine' HX.gint_mk KX G ?a
      (case a => k_is)
    obtain ⟨t_MOST_ENDS, g_MOST_ENDS⟩ : ∃ t, mg "MOST_ENDS" = some (.int 3 t) := by
      refine' HX.gint_mk KX G ?a
      (case a => k_is)
    refine' HX.def_cut (x := "is_whole") (st := K03.s_is_whole) (ps := ["thing"]) KX G ?a ?l ?c ?k ?b (fun d_is_whole => ?z_is_whole)
    (case a => k_is); (case l => k_is); (case c => k_is); (case k => k_is); (case b => exact fun _ _ _ _ _ _ us hl => match us, hl with | [_], _ => rfl)
    refine' HX.def_cut (x := "is_within") (st := K03.s_is_within) (ps := ["thing", "least", "most"]) KX G ?a ?l ?c ?k ?b (fun d_is_within => ?z_is_within)
    (case a => k_is); (case l => k_is); (case c => k_is); (case k => k_is); (case b => exact fun _ _ _ _ _ _ us hl => match us, hl with | [_, _, _], _ => rfl)
    refine' HX.def_cut (x := "has_parts") (st := K03.s_has_parts) (ps := ["thing", "least", "most"]) KX G ?a ?l ?c ?k ?b (fun d_has_parts => ?z_has_parts)
    (case a => k_is); (case l => k_is); (case c => k_is); (case k => k_is); (case b => exact fun _ _ _ _ _ _ us hl => match us, hl with | [_, _, _], _ => rfl)
    refine' HX.def_cut (x := "is_step") (st := K03.s_is_step) (ps := ["thing", "ends"]) KX G ?a ?l ?c ?k ?b (fun d_is_step => ?z_is_step)
    (case a => k_is); (case l => k_is); (case c => k_is); (case k => k_is); (case b => exact fun _ _ _ _ _ _ us hl => match us, hl with | [_, _], _ => rfl)
    refine' HX.def_cut (x := "is_wheel") (st := K03.s_is_wheel) (ps := ["thing", "ends"]) KX G ?a ?l ?c ?k ?b (fun d_is_wheel => ?z_is_wheel)
    (case a => k_is); (case l => k_is); (case c => k_is); (case k => k_is); (case b => exact fun _ _ _ _ _ _ us hl => match us, hl with | [_, _], _ => rfl)
    refine' HX.def_cut (x := "is_board") (st := K03.s_is_board) (ps := ["thing"]) KX G ?a ?l ?c ?k ?b (fun d_is_board => ?z_is_board)
    (case a => k_is); (case l => k_is); (case c => k_is); (case k => k_is); (case b => exact fun _ _ _ _ _ _ us hl => match us, hl with | [_], _ => rfl)
    refine' HX.def_cut (x := "need_board") (st := K03.s_need_board) (ps := ["thing"]) KX G ?a ?l ?c ?k ?b (fun d_need_board => ?z_need_board)
    (case a => k_is); (case l => k_is); (case c => k_is); (case k => k_is); (case b => exact fun _ _ _ _ _ _ us hl => match us, hl with | [_], _ => rfl)
    refine' HX.def_cut (x := "is_stand") (st := K03.s_is_stand) (ps := ["board", "thing"]) KX G ?a ?l ?c ?k ?b (fun d_is_stand => ?z_is_stand)
    (case a => k_is); (case l => k_is); (case c => k_is); (case k => k_is); (case b => exact fun _ _ _ _ _ _ us hl => match us, hl with | [_, _], _ => rfl)
    refine' HX.def_cut (x := "are_marbles") (st := K03.s_are_marbles) (ps := ["thing", "places"]) KX G ?a ?l ?c ?k ?b (fun d_are_marbles => ?z_are_marbles)
    (case a => k_is); (case l => k_is); (case c => k_is); (case k => k_is); (case b => exact fun _ _ _ _ _ _ us hl => match us, hl with | [_, _], _ => rfl)
    refine' HX.def_cut (x := "is_moment") (st := K03.s_is_moment) (ps := ["board", "thing"]) KX G ?a ?l ?c ?k ?b (fun d_is_moment => ?z_is_moment)
    (case a => k_is); (case l => k_is); (case c => k_is); (case k => k_is); (case b => exact fun _ _ _ _ _ _ us hl => match us, hl with | [_, _], _ => rfl)
    refine' HX.def_cut (x := "need_moment") (st := K03.s_need_moment) (ps := ["board", "thing"]) KX G ?a ?l ?c ?k ?b (fun d_need_moment => ?z_need_moment)
    (case a => k_is); (case l => k_is); (case c => k_is); (case k => k_is); (case b => exact fun _ _ _ _ _ _ us hl => match us, hl with | [_, _], _ => rfl)
    refine' HX.def_cut (x := "is_wheel_number") (st := K03.s_is_wheel_number) (ps := ["board", "thing"]) KX G ?a ?l ?c ?k ?b (fun d_is_wheel_number => ?z_is_wheel_number)
    (case a => k_is); (case l => k_is); (case c => k_is); (case k => k_is); (case b => exact fun _ _ _ _ _ _ us hl => match us, hl with | [_, _], _ => rfl)
    refine' HX.def_cut (x := "need_wheel") (st := K03.s_need_wheel) (ps := ["board", "thing"]) KX G ?a ?l ?c ?k ?b (fun d_need_wheel => ?z_need_wheel)
    (case a => k_is); (case l => k_is); (case c => k_is); (case k => k_is); (case b => exact fun _ _ _ _ _ _ us hl => match us, hl with | [_, _], _ => rfl)
    refine' HX.def_cut (x := "loosened") (st := K03.s_loosened) (ps := ["moment"]) KX G ?a ?l ?c ?k ?b (fun d_loosened => ?z_loosened)
    (case a => k_is); (case l => k_is); (case c => k_is); (case k => k_is); (case b => exact fun _ _ _ _ _ _ us hl => match us, hl with | [_], _ => rfl)
    refine' HX.def_cut (x := "fastened") (st := K03.s_fastened) (ps := ["stand", "waiting", "held"]) KX G ?a ?l ?c ?k ?b (fun d_fastened => ?z_fastened)
    (case a => k_is); (case l => k_is); (case c => k_is); (case k => k_is); (case b => exact fun _ _ _ _ _ _ us hl => match us, hl with | [_, _, _], _ => rfl)
    refine' HX.def_cut (x := "handle_marble") (st := K03.s_handle_marble) (ps := ["board", "parts", "wheel"]) KX G ?a ?l ?c ?k ?b (fun d_handle_marble => ?z_handle_marble)
    (case a => k_is); (case l => k_is); (case c => k_is); (case k => k_is); (case b => exact fun _ _ _ _ _ _ us hl => match us, hl with | [_, _, _], _ => rfl)
    refine' HX.def_cut (x := "handled") (st := K03.s_handled) (ps := ["board", "moment", "wheel"]) KX G ?a ?l ?c ?k ?b (fun d_handled => ?z_handled)
    (case a => k_is); (case l => k_is); (case c => k_is); (case k => k_is); (case b => exact fun _ _ _ _ _ _ us hl => match us, hl with | [_, _, _], _ => rfl)
    refine' HX.def_cut (x := "rests") (st := K03.s_rests) (ps := ["board", "moment"]) KX G ?a ?l ?c ?k ?b (fun d_rests => ?z_rests)
    (case a => k_is); (case l => k_is); (case c => k_is); (case k => k_is); (case b => exact fun _ _ _ _ _ _ us hl => match us, hl with | [_, _], _ => rfl)
    refine' HX.def_cut (x := "_law_cell_at") (st := K03.s__law_cell_at) (ps := ["_law_script", "_law_k"]) KX G ?a ?l ?c ?k ?b (fun d__law_cell_at => ?z__law_cell_at)
    (case a => k_is); (case l => k_is); (case c => k_is); (case k => k_is); (case b => exact fun _ _ _ _ _ _ us hl => match us, hl with | [_, _], _ => rfl)
    refine' HX.def_cut (x := "_law_pen") (st := K03.s__law_pen) (ps := ["_law_cell"]) KX G ?a ?l ?c ?k ?b (fun d__law_pen => ?z__law_pen)
    (case a => k_is); (case l => k_is); (case c => k_is); (case k => k_is); (case b => exact fun _ _ _ _ _ _ us hl => match us, hl with | [_], _ => rfl)
    refine' HX.def_cut (x := "_law_draw") (st := K03.s__law_draw) (ps := ["_law_pen_here", "_law_many"]) KX G ?a ?l ?c ?k ?b (fun d__law_draw => ?z__law_draw)
    (case a => k_is); (case l => k_is); (case c => k_is); (case k => k_is); (case b => exact fun _ _ _ _ _ _ us hl => match us, hl with | [_, _], _ => rfl)
    refine' HX.def_cut (x := "_law_pick") (st := K03.s__law_pick) (ps := ["_law_pen_here", "_law_some"]) KX G ?a ?l ?c ?k ?b (fun d__law_pick => ?z__law_pick)
    (case a => k_is); (case l => k_is); (case c => k_is); (case k => k_is); (case b => exact fun _ _ _ _ _ _ us hl => match us, hl with | [_, _], _ => rfl)
    refine' HX.def_cut (x := "_law_word") (st := K03.s__law_word) (ps := ["_law_e"]) KX G ?a ?l ?c ?k ?b (fun d__law_word => ?z__law_word)
    (case a => k_is); (case l => k_is); (case c => k_is); (case k => k_is); (case b => exact fun _ _ _ _ _ _ us hl => match us, hl with | [_], _ => rfl)
    refine' HX.def_cut (x := "_law_said") (st := K03.s__law_said) (ps := ["_law_call"]) KX G ?a ?l ?c ?k ?b (fun d__law_said => ?z__law_said)
    (case a => k_is); (case l => k_is); (case c => k_is); (case k => k_is); (case b => exact fun _ _ _ _ _ _ us hl => match us, hl with | [_], _ => rfl)
    refine' HX.def_cut (x := "_law_board") (st := K03.s__law_board) (ps := ["_law_pen_here", "_law_most"]) KX G ?a ?l ?c ?k ?b (fun d__law_board => ?z__law_board)
    (case a => k_is); (case l => k_is); (case c => k_is); (case k => k_is); (case b => exact fun _ _ _ _ _ _ us hl => match us, hl with | [_, _], _ => rfl)
    refine' HX.def_cut (x := "_law_moment") (st := K03.s__law_moment) (ps := ["_law_pen_here", "_law_board_here", "_law_most"]) KX G ?a ?l ?c ?k ?b (fun d__law_moment => ?z__law_moment)
    (case a => k_is); (case l => k_is); (case c => k_is); (case k => k_is); (case b => exact fun _ _ _ _ _ _ us hl => match us, hl with | [_, _, _], _ => rfl)
    refine' HX.def_cut (x := "_law_handle") (st := K03.s__law_handle) (ps := ["_law_board_here", "_law_moment_here", "_law_wheel"]) KX G ?a ?l ?c ?k ?b (fun d__law_handle => ?z__law_handle)
    (case a => k_is); (case l => k_is); (case c => k_is); (case k => k_is); (case b => exact fun _ _ _ _ _ _ us hl => match us, hl with | [_, _, _], _ => rfl)
    refine' HX.def_cut (x := "_law_ready") (st := K03.s__law_ready) (ps := ["_law_moment_here"]) KX G ?a ?l ?c ?k ?b (fun d__law_ready => ?z__law_ready)
    (case a => k_is); (case l => k_is); (case c => k_is); (case k => k_is); (case b => exact fun _ _ _ _ _ _ us hl => match us, hl with | [_], _ => rfl)
    refine' HX.def_cut (x := "law") (st := K03.s_law) (ps := ["_law_script"]) KX G ?a ?l ?c ?k ?b (fun d_law => ?z_law)
    (case a => k_is); (case l => k_is); (case c => k_is); (case k => k_is); (case b => exact fun _ _ _ _ _ _ us hl => match us, hl with | [_], _ => rfl)
    have z_len : mg "len" = none := by
      refine' PySem.W.mg_none_of KX G ?a
      (case a => k_is)
    have z_isinstance : mg "isinstance" = none := by
      refine' PySem.W.mg_none_of KX G ?a
      (case a => k_is)
    have z_int : mg "int" = none := by
      refine' PySem.W.mg_none_of KX G ?a
      (case a => k_is)
    have z_bool : mg "bool" = none := by
      refine' PySem.W.mg_none_of KX G ?a
      (case a => k_is)
    have z_tuple : mg "tuple" = none := by
      refine' PySem.W.mg_none_of KX G ?a
      (case a => k_is)
    have z_list : mg "list" = none := by
      refine' PySem.W.mg_none_of KX G ?a
      (case a => k_is)
    have z_all : mg "all" = none := by
      refine' PySem.W.mg_none_of KX G ?a
      (case a => k_is)
    have z_range : mg "range" = none := by
      refine' PySem.W.mg_none_of KX G ?a
      (case a => k_is)
    have z_max : mg "max" = none := by
      refine' PySem.W.mg_none_of KX G ?a
      (case a => k_is)
    have z_min : mg "min" = none := by
      refine' PySem.W.mg_none_of KX G ?a
      (case a => k_is)
    have z_repr : mg "repr" = none := by
      refine' PySem.W.mg_none_of KX G ?a
      (case a => k_is)
    have B : HX.Bi mg := ⟨z_len, z_isinstance, z_int, z_bool, z_tuple, z_list, z_all, z_range, z_max, z_min, z_repr⟩
    have z_zip : mg "zip" = none := by
      refine' PySem.W.mg_none_of KX G ?a
      (case a => k_is)
    have z_enumerate : mg "enumerate" = none := by
      refine' PySem.W.mg_none_of KX G ?a
      (case a => k_is)
    have z_sum : mg "sum" = none := by
      refine' PySem.W.mg_none_of KX G ?a
      (case a => k_is)
    have B2 : HX.Bi2 mg := ⟨z_zip, z_enumerate, z_sum⟩
    have z_ValueError : mg "ValueError" = none := by
      refine' PySem.W.mg_none_of KX G ?a
      (case a => k_is)
    have B4 : HX.Bi4 mg := ⟨z_ValueError⟩
    refine' HX.cls_cut KX G ?a0 ?a1 ?a2 ?a3 ?a4 ?a5 ?a6 ?a7 ?a8 ?a9 ?a10 ?a11 ?a12 ?a13 ?a14 ?a15 ?a16 ?a17 ?a18 ?a19 ?a20 ?aM (fun G21 g0 g1 g2 g3 g4 g5 g6 g7 g8 g9 g10 g11 g12 g13 g14 g15 g16 g17 g18 g19 g20 hM => ?zC)
    (case a0 => k_is); (case a1 => k_is); (case a2 => k_is); (case a3 => k_is); (case a4 => k_is); (case a5 => k_is); (case a6 => k_is); (case a7 => k_is); (case a8 => k_is); (case a9 => k_is); (case a10 => k_is); (case a11 => k_is); (case a12 => k_is); (case a13 => k_is); (case a14 => k_is); (case a15 => k_is); (case a16 => k_is); (case a17 => k_is); (case a18 => k_is); (case a19 => k_is); (case a20 => k_is); (case aM => k_is)
    refine' HX.err_cut (x := "NotNow") KX 4 g0 g1 g2 g3 g4 g5 g6 g7 g8 g9 g10 g11 g12 g13 g14 g15 g16 g17 g18 g19 g20 hM g4 ?kC ?ex ?sb ?ty ?e1 ?e2 ?e3 ?e4 ?e5 ?e6 ?e7 ?ve ?xm ?k0 ?k1 ?k2 ?k3 ?k4 ?k5 ?k6 ?k7 ?k8 ?k9 ?k10 ?k11 ?k12 ?k13 ?k14 ?k15 ?k16 ?k17 ?k18 ?k19 ?k20 (fun R_NotNow ef_NotNow hex_NotNow => ?zE)
    (case kC => k_is); (case ex => k_exc); (case sb => k_is); (case ty => k_is); (case e1 => k_is); (case e2 => k_is); (case e3 => k_is); (case e4 => k_is); (case e5 => k_is); (case e6 => k_is); (case e7 => k_is); (case ve => kit_is); (case xm => kts_exm)
    (case k0 => kit_is); (case k1 => kit_is); (case k2 => kit_is); (case k3 => kit_is); (case k4 => kit_is); (case k5 => kit_is); (case k6 => kit_is); (case k7 => kit_is); (case k8 => kit_is); (case k9 => kit_is); (case k10 => kit_is); (case k11 => kit_is); (case k12 => kit_is); (case k13 => kit_is); (case k14 => kit_is); (case k15 => kit_is); (case k16 => kit_is); (case k17 => kit_is); (case k18 => kit_is); (case k19 => kit_is); (case k20 => kit_is)
    refine' HX.law_cut (x := "_law_each_right") (st := K03.s__law_each_right) (ps := ["_law_board_here", "_law_moment_here"]) KX G tabs ?a ?l ?cc ?k ?b ?lc ?hv ?nT ?r (fun f1 fd1 F1 hm1 hb1 hc1 nT hC hT => ?zL)
    (case a => k_is); (case l => k_is); (case cc => k_is); (case k => k_is); (case b => exact fun _ _ _ _ _ _ us hl => match us, hl with | [_, _], _ => rfl); (case lc => k_is); (case hv => rfl); (case nT => rfl); (case r => rfl)
    obtain ⟨f, fd, F, hm, hb⟩ := d_law
    have e := hmg.symm.trans hm
    cases e
    refine ⟨fd, [(_, _)], K03.spLaw _ _, fun p hp => by rw [List.mem_singleton.mp hp]; exact hT, fun p hp => by rw [List.mem_singleton.mp hp]; exact nT, fun p hp => by rw [List.mem_singleton.mp hp]; exact hC, fun s u hK => hb s [u] hK rfl, fun H a ns hl hP hS => ⟨a, ns, rfl, hS, hl, hP _ (List.mem_singleton.mpr rfl), fun _ => rfl⟩, fun base hKb hG TB => ?_⟩
    exact K03.law_all F B B2 B4 ⟨f1, fd1, F1, hm1, hb1, hc1⟩ (TB _ (List.mem_singleton.mpr rfl)) G21 hM R_NotNow ef_NotNow hex_NotNow g_MOST_WHEELS g_MOST_CUPS g_MOST_STEPS g_MOST_ENDS d_is_whole d_is_within d_has_parts d_is_step d_is_wheel d_is_board d_need_board d_is_stand d_are_marbles d_is_moment d_need_moment d_is_wheel_number d_need_wheel d_loosened d_fastened d_handle_marble d_handled d_rests d__law_cell_at d__law_pen d__law_draw d__law_pick d__law_word d__law_said d__law_board d__law_moment d__law_handle d__law_ready

