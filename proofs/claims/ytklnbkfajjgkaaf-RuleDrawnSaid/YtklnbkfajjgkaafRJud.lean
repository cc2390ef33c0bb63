/- Judge of the document's own. -/
import Derived.Test.YtklnbkfajjgkaafJudX
import Derived.Deep.DeepCutAuto
namespace Go.Proofs.Ytklnbkfajjgkaaf
open Go.RowKit
set_option linter.unusedVariables false

set_option maxRecDepth 100000 in
set_option maxHeartbeats 4000000 in
theorem rjudge_no (r : XRisk) (s : XSeen) (w : World) (h : judgeE r s ≠ 0) :
    Calls Try.prog 18 #[valRisk r, valSeen s] w fun e w' => e = .returned (.tuple #[.int .i64 0, .int .i64 (judgeE r s)]) ∧ Below w.heap.size w w' := by
  have n1 := fun w => rrisk_any r w
  have hbx := below_jboxes r s w
  have hin := fun w' => @inJ r s w w'
  unfold valRisk valSeen at *
  by_cases h1 : riskE r = 0
  · have e : judgeE r s = seenE s := by rw [judgeE, if_pos h1]
    have hns : ¬ SeenOK s := fun ho => h (by rw [e, seenE, if_pos ho])
    have e3 : judgeE r s = 3 := by rw [e, seenE, if_neg hns]
    rw [e3]
    rw [h1] at n1
    have m1 := fun w => ramount_any s.amount w
    have m2 := fun w => ramount_any s.other w
    have hcase : (¬ (0 ≤ s.amount ∧ s.amount ≤ 999999999999)) ∨ ((0 ≤ s.amount ∧ s.amount ≤ 999999999999) ∧ ¬ (0 ≤ s.other ∧ s.other ≤ 999999999999)) ∨
      ((0 ≤ s.amount ∧ s.amount ≤ 999999999999) ∧ (0 ≤ s.other ∧ s.other ≤ 999999999999) ∧
        (s.count < 0 ∨ (0 ≤ s.count ∧ 65535 < s.count) ∨ (0 ≤ s.count ∧ s.count ≤ 65535 ∧ s.last < 0) ∨ (0 ≤ s.count ∧ s.count ≤ 65535 ∧ 0 ≤ s.last ∧ 65535 < s.last) ∨
         (0 ≤ s.count ∧ s.count ≤ 65535 ∧ 0 ≤ s.last ∧ s.last ≤ 65535 ∧ s.draw < 1) ∨ (0 ≤ s.count ∧ s.count ≤ 65535 ∧ 0 ≤ s.last ∧ s.last ≤ 65535 ∧ 1 ≤ s.draw ∧ 99 < s.draw))) := by
      unfold SeenOK at hns
      omega
    have N1 := hide n1
    clear n1 h1 e h hns e3
    rcases hcase with hc | ⟨hc1, hc2⟩ | ⟨hc1, hc2, hc⟩
    · rw [decide_eq_false hc] at m1
      have M1 := hide m1
      clear m1 m2 hc
      go_enter Try.func18, Try.ntmps18
      go_wp2_with fail
      refine (unhide N1 _).mono ?_
      rintro e w1 ⟨rfl, hb1⟩
      have HB : Below (jboxes r s w).heap.size (jboxes r s w) w1 := hb1
      have i2 := (hin _ HB).s1
      clear hb1
      go_wp2_with (go_at_call 31; refine (unhide M1 _).mono ?_; rintro e w2 ⟨rfl, hw2⟩; subst hw2)
      go_ret2
      exact ⟨rfl, hbx.trans (HB.mono hbx.size)⟩
    · rw [decide_eq_true hc1] at m1
      rw [decide_eq_false hc2] at m2
      have M1 := hide m1; have M2 := hide m2
      clear m1 m2 hc1 hc2
      go_enter Try.func18, Try.ntmps18
      go_wp2_with fail
      refine (unhide N1 _).mono ?_
      rintro e w1 ⟨rfl, hb1⟩
      have HB : Below (jboxes r s w).heap.size (jboxes r s w) w1 := hb1
      have i2 := (hin _ HB).s1
      have i3 := (hin _ HB).s2
      clear hb1
      go_wp2_with (first | (go_at_call_of 31 (Value.int .i64 s.amount); refine (unhide M1 _).mono ?_; rintro e w2 ⟨rfl, hw2⟩; subst hw2) | (go_at_call_of 31 (Value.int .i64 s.other); refine (unhide M2 _).mono ?_; rintro e w2 ⟨rfl, hw2⟩; subst hw2))
      go_ret2
      exact ⟨rfl, hbx.trans (HB.mono hbx.size)⟩
    · rw [decide_eq_true hc1] at m1
      rw [decide_eq_true hc2] at m2
      have M1 := hide m1; have M2 := hide m2
      clear m1 m2 hc1 hc2
      rcases hc with hc | ⟨hc3, hc⟩ | ⟨hc3, hc4, hc⟩ | ⟨hc3, hc4, hc5, hc⟩ | ⟨hc3, hc4, hc5, hc6, hc⟩ | ⟨hc3, hc4, hc5, hc6, hc7, hc⟩ <;>
      · go_enter Try.func18, Try.ntmps18
        go_wp2_with fail
        refine (unhide N1 _).mono ?_
        rintro e w1 ⟨rfl, hb1⟩
        have HB : Below (jboxes r s w).heap.size (jboxes r s w) w1 := hb1
        have i2 := (hin _ HB).s1
        have i3 := (hin _ HB).s2
        have i4 := (hin _ HB).s3
        have i5 := (hin _ HB).s4
        have i6 := (hin _ HB).s5
        clear hb1
        go_wp2_with (first | (go_at_call_of 31 (Value.int .i64 s.amount); refine (unhide M1 _).mono ?_; rintro e w2 ⟨rfl, hw2⟩; subst hw2) | (go_at_call_of 31 (Value.int .i64 s.other); refine (unhide M2 _).mono ?_; rintro e w2 ⟨rfl, hw2⟩; subst hw2))
        go_ret2
        exact ⟨rfl, hbx.trans (HB.mono hbx.size)⟩
  · have e : judgeE r s = riskE r := by rw [judgeE, if_neg h1]
    rw [e]
    have hne : (riskE r != 0) = true := by simpa using h1
    generalize riskE r = re at *
    have N1 := hide n1
    clear n1 h1 e h
    go_enter Try.func18, Try.ntmps18
    go_wp2_with fail
    refine (unhide N1 _).mono ?_
    rintro e w1 ⟨rfl, hb1⟩
    go_wp2_with fail
    go_ret2
    exact ⟨rfl, hbx.trans (hb1.mono hbx.size)⟩
end Go.Proofs.Ytklnbkfajjgkaaf
