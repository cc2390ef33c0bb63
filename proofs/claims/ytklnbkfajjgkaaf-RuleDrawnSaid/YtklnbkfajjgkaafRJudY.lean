/- Judge of the document's own, where nothing is wrong. -/
import Derived.Test.YtklnbkfajjgkaafJudX
import Derived.Deep.DeepCutAuto
import Derived.Deep.CutBlock
namespace Go.Proofs.Ytklnbkfajjgkaaf
open Go.RowKit
set_option linter.unusedVariables false

set_option maxRecDepth 100000 in
set_option maxHeartbeats 8000000 in
theorem rjudge_yes (r : XRisk) (s : XSeen) (w : World) (hr : Rowstring w r.blacko r.black) (h : judgeE r s = 0) :
    Calls Try.prog 18 #[valRisk r, valSeen s] w fun e w' => e = .returned (.tuple #[.int .i64 (foundRS r s), .int .i64 0]) ∧ Below w.heap.size w w' := by
  have n1 := fun w => rrisk_any r w
  have hbx := below_jboxes r s w
  have hin := fun w' => @inJ r s w w'
  have h1 : riskE r = 0 := by
    by_cases h1 : riskE r = 0
    · exact h1
    · rw [judgeE, if_neg h1] at h; exact h
  have h2 : seenE s = 0 := by rw [judgeE, if_pos h1] at h; exact h
  rw [h1] at n1
  obtain ⟨hbl, ho⟩ := riskE_zero h1
  have hs := seenE_zero h2
  have n3 := fun (hn : s.amount < r.floor) w => rpercent_any r s.amount w ho hs.1.1 hn
  have m1 := fun w => ramount_any s.amount w
  have m2 := fun w => ramount_any s.other w
  rw [decide_eq_true hs.1] at m1
  rw [decide_eq_true hs.2.1] at m2
  have hfin : foundRS r s = (bif decide (r.floor ≤ s.amount + s.other) then 8 else 0) + (bif decide (s.amount < r.floor) && decide (s.draw ≤ pct r s.amount) then 16 else 0) + (bif decide (r.lower < s.count - s.last) then 32 else 0) + (bif decide (r.upper < s.count - s.last) then 64 else 0) + (bif (s.last == 0) then 128 else 0) + (bif inTexts s.id r.black then 256 else 0) := rfl
  rw [hfin]
  obtain ⟨hr1, hr2, hr3, hr4, hr5, hr6⟩ := ho
  obtain ⟨hs1, hs2, hs3, hs4, hs5⟩ := hs
  clear h h1 h2 hfin
  generalize pct r s.amount = pc at *
  unfold valRisk valSeen at *
  have N1 := hide n1; have N3 := hide n3; have M1 := hide m1; have M2 := hide m2
  have HI := hide hin
  clear n1 n3 m1 m2 hin
  go_enter Try.func18, Try.ntmps18
  go_wp2_with fail
  refine (unhide N1 _).mono ?_
  rintro e w1 ⟨rfl, hb1⟩
  have HB : Below (jboxes r s w).heap.size (jboxes r s w) w1 := hb1
  have hj := unhide HI _ HB
  have i1 := hj.s0; have i2 := hj.s1; have i3 := hj.s2; have i4 := hj.s3; have i5 := hj.s4; have i6 := hj.s5
  have k1 := hj.r0; have k2 := hj.r1; have k3 := hj.r2; have k4 := hj.r3; have k5 := hj.r4; have k6 := hj.r5; have k7 := hj.r6
  clear hb1 hj
  go_upto_if 62 with (first | (go_at_call_of 31 (Value.int .i64 s.amount); refine (unhide M1 _).mono ?_; rintro e w2 ⟨rfl, hw2⟩; subst hw2) | (go_at_call_of 31 (Value.int .i64 s.other); refine (unhide M2 _).mono ?_; rintro e w2 ⟨rfl, hw2⟩; subst hw2))
  go_cut [7] (fun bv wx => ∃ x : Int, bv = .int .i64 x ∧ 0 ≤ x ∧ x ≤ 8 ∧ Hid (x = bif decide (r.floor ≤ s.amount + s.other) then 8 else 0) ∧ Below (jboxes r s w).heap.size (jboxes r s w) wx)
  case first =>
    by_cases hq : r.floor ≤ s.amount + s.other
    · go_wp2
      go_meet
      exact ⟨8, rfl, by omega, by omega, hide (by rw [decide_eq_true hq]; rfl), HB⟩
    · go_wp2
      go_meet
      exact ⟨0, rfl, by omega, by omega, hide (by rw [decide_eq_false (by omega)]; rfl), HB⟩
  case rest =>
  clear i1 i2 i3 i4 i5 i6 k1 k2 k3 k4 k5 k6 k7 HB
  obtain ⟨x1, rfl, hx0, hx1, HX, HB⟩ := hcut
  go_wp2_with fail
  go_cut [78] (fun tv wx => tv = .bool (decide (s.amount < r.floor) && decide (s.draw ≤ pc)) ∧ Below (jboxes r s w).heap.size (jboxes r s w) wx)
  case first =>
    have CJ := hide (fun w1 (h1 : Below wc.heap.size wc w1) => unhide HI _ (HB.trans (h1.mono HB.size)))
    by_cases hn : s.amount < r.floor
    · have N3' := hide (unhide N3 hn)
      have hS : ∀ w', Below wc.heap.size wc w' → (w'.cell? ⟨w.heap.size + 1, 1, none⟩ = some (.int .i64 s.amount) ∧ w'.cell? ⟨w.heap.size + 1, 5, none⟩ = some (.int .i64 s.draw) ∧ w'.cell? ⟨w.heap.size, 0, none⟩ = some (.int .i64 r.floor) ∧ w'.cell? ⟨w.heap.size, 1, none⟩ = some (.int .i64 r.frm) ∧ w'.cell? ⟨w.heap.size, 2, none⟩ = some (.int .i64 r.share) ∧ w'.cell? ⟨w.heap.size, 3, none⟩ = some (.int .i64 r.most) ∧ w'.cell? ⟨w.heap.size, 4, none⟩ = some (.int .i64 r.lower) ∧ w'.cell? ⟨w.heap.size, 5, none⟩ = some (.int .i64 r.upper) ∧ w'.cell? ⟨w.heap.size, 6, none⟩ = some (.slice r.blacko r.black.length r.blackc)) := fun w' hb => by
        have hq := unhide CJ w' hb
        exact ⟨hq.s1, hq.s5, hq.r0, hq.r1, hq.r2, hq.r3, hq.r4, hq.r5, hq.r6⟩
      go_region_held3 (fun w' => w'.cell? ⟨w.heap.size + 1, 1, none⟩ = some (.int .i64 s.amount) ∧ w'.cell? ⟨w.heap.size + 1, 5, none⟩ = some (.int .i64 s.draw) ∧ w'.cell? ⟨w.heap.size, 0, none⟩ = some (.int .i64 r.floor) ∧ w'.cell? ⟨w.heap.size, 1, none⟩ = some (.int .i64 r.frm) ∧ w'.cell? ⟨w.heap.size, 2, none⟩ = some (.int .i64 r.share) ∧ w'.cell? ⟨w.heap.size, 3, none⟩ = some (.int .i64 r.most) ∧ w'.cell? ⟨w.heap.size, 4, none⟩ = some (.int .i64 r.lower) ∧ w'.cell? ⟨w.heap.size, 5, none⟩ = some (.int .i64 r.upper) ∧ w'.cell? ⟨w.heap.size, 6, none⟩ = some (.slice r.blacko r.black.length r.blackc))
        (first
          | exact hS _ (Below.refl _ _)
          | exact hS _ (Below.refl _ _).drew
          | exact hs2)
        ((first
          | (go_at_call 39; refine (unhide N3' _).mono ?_; rintro e y1 ⟨rfl, hy1⟩; have hy2 : Below wc.heap.size wc y1 := (Below.refl _ _).drew.trans hy1; have hs2 := hS _ hy2)))
      all_goals
        go_wp2_with fail
        go_meet
        exact ⟨by rw [decide_eq_true hn]; rfl, HB.trans (hy2.mono HB.size)⟩
    · clear N3
      refine wp_region_below wc (Below.refl _ _) (by kernel_rfl) (by kernel_rfl) ?_
      repeat (
        refine Quietly.step (fun K hK => ?_)
        go_simp
        first
          | (refine hK _ ?_; clear hK K)
          | (apply Exists.intro
             refine ⟨fun w1 hw1 => ?_, hK _ ?_⟩
             (first | rfl | (rw [(unhide CJ w1 hw1).s1]; exact ⟨rfl, rfl⟩) | (rw [(unhide CJ w1 hw1).r0]; exact ⟨rfl, rfl⟩))
             clear hK K))
      refine Quietly.nil ?_
      intro w4 hw4
      go_wp2_with fail
      go_meet
      exact ⟨by rw [decide_eq_false (by omega)]; rfl, HB.trans (hw4.mono HB.size)⟩
  case rest =>
  clear HB
  obtain ⟨rfl, HB⟩ := hcut
  go_upto_if 78 with fail
  go_cut [7, 78] (fun bv tv wx => ∃ x : Int, bv = .int .i64 x ∧ 0 ≤ x ∧ x ≤ 24 ∧ Hid (x = (bif decide (r.floor ≤ s.amount + s.other) then 8 else 0) + (bif (decide (s.amount < r.floor) && decide (s.draw ≤ pc)) then 16 else 0)) ∧ Below (jboxes r s w).heap.size (jboxes r s w) wx)
  case first =>
    cases hq : (decide (s.amount < r.floor) && decide (s.draw ≤ pc)) with
    | true =>
      go_wp2
      go_meet
      exact ⟨_, rfl, by omega, by omega, hide (by rw [hq, ← unhide HX]; rfl), HB⟩
    | false =>
      go_wp2
      go_meet
      exact ⟨_, rfl, by omega, by omega, hide (by rw [hq, ← unhide HX]; simp), HB⟩
  case rest =>
  obtain ⟨x2, rfl, hx2, hx3, HX2, HB⟩ := hcut
  clear HX hx0 hx1
  have hj := unhide HI _ HB
  have i4 := hj.s3; have i5 := hj.s4; have k5 := hj.r4
  clear hj
  go_upto_if 88 with fail
  go_cut [7] (fun bv wx => ∃ x : Int, bv = .int .i64 x ∧ 0 ≤ x ∧ x ≤ 56 ∧ Hid (x = (bif decide (r.floor ≤ s.amount + s.other) then 8 else 0) + (bif (decide (s.amount < r.floor) && decide (s.draw ≤ pc)) then 16 else 0) + (bif decide (r.lower < s.count - s.last) then 32 else 0)) ∧ Below (jboxes r s w).heap.size (jboxes r s w) wx)
  case first =>
    by_cases hq : r.lower < s.count - s.last
    · go_wp2
      go_meet
      exact ⟨_, rfl, by omega, by omega, hide (by rw [decide_eq_true hq, ← unhide HX2]; rfl), HB⟩
    · go_wp2
      go_meet
      exact ⟨_, rfl, by omega, by omega, hide (by rw [show decide (r.lower < s.count - s.last) = false from decide_eq_false (by omega), ← unhide HX2]; simp), HB⟩
  case rest =>
  clear HB i4 i5 k5
  obtain ⟨x3, rfl, hy3, hz3, HX3, HB⟩ := hcut
  have hj := unhide HI _ HB
  have i4 := hj.s3; have i5 := hj.s4; have k5 := hj.r5
  clear hj
  go_upto_if 98 with fail
  go_cut [7] (fun bv wx => ∃ x : Int, bv = .int .i64 x ∧ 0 ≤ x ∧ x ≤ 120 ∧ Hid (x = (bif decide (r.floor ≤ s.amount + s.other) then 8 else 0) + (bif (decide (s.amount < r.floor) && decide (s.draw ≤ pc)) then 16 else 0) + (bif decide (r.lower < s.count - s.last) then 32 else 0) + (bif decide (r.upper < s.count - s.last) then 64 else 0)) ∧ Below (jboxes r s w).heap.size (jboxes r s w) wx)
  case first =>
    by_cases hq : r.upper < s.count - s.last
    · go_wp2
      go_meet
      exact ⟨_, rfl, by omega, by omega, hide (by rw [decide_eq_true hq, ← unhide HX3]; rfl), HB⟩
    · go_wp2
      go_meet
      exact ⟨_, rfl, by omega, by omega, hide (by rw [show decide (r.upper < s.count - s.last) = false from decide_eq_false (by omega), ← unhide HX3]; simp), HB⟩
  case rest =>
  clear HB i4 i5 k5
  obtain ⟨x4, rfl, hy4, hz4, HX4, HB⟩ := hcut
  have hj := unhide HI _ HB
  have i5 := hj.s4; have i4 := hj.s3; have k5 := hj.r4
  clear hj
  go_upto_if 103 with fail
  go_cut [7] (fun bv wx => ∃ x : Int, bv = .int .i64 x ∧ 0 ≤ x ∧ x ≤ 248 ∧ Hid (x = (bif decide (r.floor ≤ s.amount + s.other) then 8 else 0) + (bif (decide (s.amount < r.floor) && decide (s.draw ≤ pc)) then 16 else 0) + (bif decide (r.lower < s.count - s.last) then 32 else 0) + (bif decide (r.upper < s.count - s.last) then 64 else 0) + (bif (s.last == 0) then 128 else 0)) ∧ Below (jboxes r s w).heap.size (jboxes r s w) wx)
  case first =>
    by_cases hq : s.last = 0
    · go_wp2
      go_meet
      exact ⟨_, rfl, by omega, by omega, hide (by rw [show (s.last == 0) = true by simpa using hq, ← unhide HX4]; rfl), HB⟩
    · go_wp2
      go_meet
      exact ⟨_, rfl, by omega, by omega, hide (by rw [show (s.last == 0) = false by simpa using hq, ← unhide HX4]; simp), HB⟩
  case rest =>
  clear HB i4 i5 k5
  obtain ⟨x5, rfl, hy5, hz5, HX5, HB⟩ := hcut
  clear HX2 HX3 HX4 hx2 hx3 hy3 hz3 hy4 hz4 hr1 hr2 hr3 hr4 hr5 hr6 hs1 hs2 hs3 hs4 hs5 N1 N3 M1 M2
  have hj := unhide HI _ HB
  have i1 := hj.s0; have k7 := hj.r6
  have hbw := hbx.trans (HB.mono hbx.size)
  have HR := hide (hr.below hbw)
  have HBW := hide hbw
  clear hj HI HB hbx hr hbw
  go_wp2
  go_loopw [109] (fun i wr => ∃ k : Nat, k ≤ r.black.length ∧ i = .int .i64 k ∧ Hid ((r.black.take k).any (fun y => s.id.toList == y.toList) = false) ∧ wr = wc) (fun i _ => r.black.length - (intOf i).toNat)
  case atStart => exact ⟨0, Nat.zero_le _, rfl, hide (by simp), rfl⟩
  case round =>
    obtain ⟨k, hk, rfl, HA, rfl⟩ := hrel
    by_cases hlt : k < r.black.length
    · obtain ⟨y, hy⟩ : ∃ y, r.black[k]? = some y := ⟨_, List.getElem?_eq_getElem hlt⟩
      obtain ⟨hr, _, hm⟩ := unhide HR
      rcases hr with hnil | ⟨b, off, hbo, hb, hc⟩
      · rw [hnil] at hlt; simp at hlt
      have c0 := hc k y hy
      have hs := any_take_succ r.black (fun y => s.id.toList == y.toList) k y hy
      rw [unhide HA, Bool.false_or] at hs
      clear hc hm
      rw [hbo] at k7
      clear HR
      generalize r.blacko = bo at *
      cases he : (s.id.toList == y.toList) with
      | true =>
        have HF := hide (any_of_take r.black _ (k + 1) (hs.trans he))
        have he' : (y.toList == s.id.toList) = true := by rw [beq_iff_eq] at he ⊢; exact he.symm
        clear hs hy he
        go_wp2
        go_ret2
        exact ⟨by rw [← unhide HX5, show inTexts s.id r.black = true from unhide HF]; rfl, unhide HBW⟩
      | false =>
        have HS := hide (hs.trans he)
        have he' : (y.toList == s.id.toList) = false := by rw [beq_eq_false_iff_ne] at he ⊢; exact fun h => he h.symm
        clear hs hy he
        go_wp2
        go_roundw
        case rel => exact ⟨k + 1, by omega, by go_num, HS, by trivial⟩
        case measure => simp [intOf]; omega
    · have HF : Hid (inTexts s.id r.black = false) := hide (by have := unhide HA; rw [List.take_of_length_le (by omega)] at this; exact this)
      go_wp2
      go_ret2
      exact ⟨by rw [← unhide HX5, unhide HF]; simp, unhide HBW⟩
end Go.Proofs.Ytklnbkfajjgkaaf
