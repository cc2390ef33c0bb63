/- How a shop guards itself: the checks, of the program and of the document's own. -/
import Derived.Test.YtfpglpefofcdeaaDoorM02
import Derived.Test.YtfpglpefofcdeaaDoorM00
import Derived.Deep.RegionWith
namespace Go.Proofs.YtfpglpefofcdeaaDoor
open Go.RowKit
set_option linter.unusedVariables false

theorem withinJ_any (n lo hi : Int) (w : World) :
    Calls Tryd.prog 38 #[.int .i64 n, .int .i64 lo, .int .i64 hi] w fun e w' => e = .returned (.bool (decide (lo ≤ n ∧ n ≤ hi))) ∧ w' = w := by
  by_cases c0 : lo ≤ n
  · go_enter Tryd.func38, Tryd.ntmps38
    go_wp2
    go_ret
    exact ⟨ret_bool (by simp [c0]), rfl⟩
  · go_enter Tryd.func38, Tryd.ntmps38
    go_wp2
    go_ret
    exact ⟨ret_bool (by simp; omega), rfl⟩
theorem isAmount_any (n : Int) (w : World) :
    Calls Tryd.prog 37 #[.int .i64 n] w fun e w' => e = .returned (.bool (decide (0 ≤ n ∧ n ≤ 999999999999))) ∧ w' = w := by
  have n1 := fun w => withinJ_any n 0 999999999999 w
  generalize decide (0 ≤ n ∧ n ≤ 999999999999) = q at *
  have N1 := hide n1
  clear n1
  go_enter Tryd.func37, Tryd.ntmps37
  go_wp2_with fail
  refine (unhide N1 _).mono ?_
  rintro e w1 ⟨rfl, rfl⟩
  go_wp2
  go_ret
  exact ⟨rfl, rfl⟩
set_option maxRecDepth 100000 in
theorem ramount_any (n : Int) (w : World) :
    Calls Tryd.prog 28 #[.int .i64 n] w fun e w' => e = .returned (.bool (decide (0 ≤ n ∧ n ≤ 999999999999))) ∧ w' = w := by
  by_cases c0 : 0 ≤ n
  · go_enter Tryd.func28, Tryd.ntmps28
    go_wp2
    go_ret
    exact ⟨ret_bool (by simp [c0]), rfl⟩
  · go_enter Tryd.func28, Tryd.ntmps28
    go_wp2
    go_ret
    exact ⟨ret_bool (by simp; omega), rfl⟩

/-- what is wrong with how a shop guards itself -/
def RiskOK (r : XRisk) : Prop := (0 ≤ r.floor ∧ r.floor ≤ 999999999999) ∧ (0 ≤ r.frm ∧ r.frm ≤ r.floor) ∧ (0 ≤ r.share ∧ r.share ≤ 99) ∧ (r.share ≤ r.most ∧ r.most ≤ 99) ∧ (0 ≤ r.lower ∧ r.lower ≤ 255) ∧ (0 ≤ r.upper ∧ r.upper ≤ 255)
instance (r : XRisk) : Decidable (RiskOK r) := by unfold RiskOK; infer_instance
def riskE (r : XRisk) : Int := if 1000 < r.black.length then 2 else if RiskOK r then 0 else 3
/-- what is wrong with what a shop knows of a card -/
def SeenOK (s : XSeen) : Prop := (0 ≤ s.amount ∧ s.amount ≤ 999999999999) ∧ (0 ≤ s.other ∧ s.other ≤ 999999999999) ∧ (0 ≤ s.count ∧ s.count ≤ 65535) ∧ (0 ≤ s.last ∧ s.last ≤ 65535) ∧ (1 ≤ s.draw ∧ s.draw ≤ 99)
instance (s : XSeen) : Decidable (SeenOK s) := by unfold SeenOK; infer_instance
def seenE (s : XSeen) : Int := if SeenOK s then 0 else 3

theorem riskE_long {r : XRisk} (h : 1000 < r.black.length) : riskE r = 2 := by rw [riskE, if_pos h]
theorem riskE_ok {r : XRisk} (h : r.black.length ≤ 1000) (ho : RiskOK r) : riskE r = 0 := by rw [riskE, if_neg (by omega), if_pos ho]
theorem riskE_no {r : XRisk} (h : r.black.length ≤ 1000) (ho : ¬ RiskOK r) : riskE r = 3 := by rw [riskE, if_neg (by omega), if_neg ho]

set_option maxRecDepth 100000 in
set_option maxHeartbeats 2000000 in
theorem checkRisk_any (r : XRisk) (w : World) :
    Calls Tryd.prog 25 #[valRisk r] w fun e w' => e = .returned (.int .i64 (riskE r)) ∧ Below w.heap.size w w' := by
  obtain ⟨floor, frm, share, most, lower, upper, bo, bl, bc⟩ := r
  have hbx := fun o : Obj => (Below.refl w.heap.size w).alloc (Nat.le_refl _) o
  have HB := hide hbx
  clear hbx
  unfold valRisk
  simp only
  go_enter Tryd.func25, Tryd.ntmps25
  go_wp2_with (first
    | (go_at_call 37; refine (isAmount_any _ _).mono ?_; rintro e w1 ⟨rfl, hw1⟩; subst hw1)
    | (go_at_call 38; refine (withinJ_any _ _ _ _).mono ?_; rintro e w1 ⟨rfl, hw1⟩; subst hw1))
  all_goals
    go_ret
    refine ⟨ret_int ?_, unhide HB _⟩
    try simp only [Bool.not_eq_true', Bool.not_eq_false', decide_eq_true_eq, decide_eq_false_iff_not] at *
    first
    | exact (riskE_long (by show 1000 < bl.length; omega)).symm
    | exact (riskE_ok (by show bl.length ≤ 1000; omega) (by unfold RiskOK; dsimp only; omega)).symm
    | exact (riskE_no (by show bl.length ≤ 1000; omega) (by unfold RiskOK; dsimp only; omega)).symm

set_option maxRecDepth 100000 in
set_option maxHeartbeats 2000000 in
theorem rrisk_any (r : XRisk) (w : World) :
    Calls Tryd.prog 13 #[valRisk r] w fun e w' => e = .returned (.int .i64 (riskE r)) ∧ Below w.heap.size w w' := by
  obtain ⟨floor, frm, share, most, lower, upper, bo, bl, bc⟩ := r
  have hbx := fun o : Obj => (Below.refl w.heap.size w).alloc (Nat.le_refl _) o
  have HB := hide hbx
  clear hbx
  unfold valRisk
  simp only
  go_enter Tryd.func13, Tryd.ntmps13
  go_wp2_with (go_at_call 28; refine (ramount_any _ _).mono ?_; rintro e w1 ⟨rfl, hw1⟩; subst hw1)
  all_goals
    go_ret
    refine ⟨ret_int ?_, unhide HB _⟩
    try simp only [Bool.not_eq_true', Bool.not_eq_false', decide_eq_true_eq, decide_eq_false_iff_not] at *
    first
    | exact (riskE_long (by show 1000 < bl.length; omega)).symm
    | exact (riskE_ok (by show bl.length ≤ 1000; omega) (by unfold RiskOK; dsimp only; omega)).symm
    | exact (riskE_no (by show bl.length ≤ 1000; omega) (by unfold RiskOK; dsimp only; omega)).symm


/-- how many of a hundred are drawn -/
def pct (r : XRisk) (n : Int) : Int := if n < r.frm then r.share else r.share + (r.most - r.share) * (n - r.frm) / (r.floor - r.frm)
theorem pct_bounds (r : XRisk) (n : Int) (h : RiskOK r) (hn : n < r.floor) : r.share ≤ pct r n ∧ pct r n ≤ r.most := by
  obtain ⟨h1, h2, h3, h4, h5, h6⟩ := h
  unfold pct
  split
  · omega
  · rename_i hc
    have hd : 0 < r.floor - r.frm := by omega
    have hp : 0 ≤ (r.most - r.share) * (n - r.frm) := Int.mul_nonneg (by omega) (by omega)
    have hle : (r.most - r.share) * (n - r.frm) ≤ (r.most - r.share) * (r.floor - r.frm) := Int.mul_le_mul_of_nonneg_left (by omega) (by omega)
    have h7 : 0 ≤ (r.most - r.share) * (n - r.frm) / (r.floor - r.frm) := Int.ediv_nonneg hp (by omega)
    have h8 : (r.most - r.share) * (n - r.frm) / (r.floor - r.frm) ≤ r.most - r.share := by
      have := Int.ediv_le_ediv hd hle
      rw [Int.mul_ediv_cancel _ (by omega)] at this
      exact this
    omega
theorem pct_rises (r : XRisk) (n m : Int) (h : RiskOK r) (hnm : n ≤ m) (hm : m < r.floor) : pct r n ≤ pct r m := by
  by_cases hc : n < r.frm
  · have := (pct_bounds r m h hm).1
    rw [show pct r n = r.share by unfold pct; rw [if_pos hc]]
    exact this
  · obtain ⟨h1, h2, h3, h4, h5, h6⟩ := h
    unfold pct
    rw [if_neg hc, if_neg (by omega)]
    have hd : 0 < r.floor - r.frm := by omega
    have hle : (r.most - r.share) * (n - r.frm) ≤ (r.most - r.share) * (m - r.frm) := Int.mul_le_mul_of_nonneg_left (by omega) (by omega)
    have := Int.ediv_le_ediv hd hle
    omega
end Go.Proofs.YtfpglpefofcdeaaDoor
