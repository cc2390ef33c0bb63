/- Judge of the program, where nothing is wrong. -/
import Derived.Test.YtadjbojlojnadaaJudX
import Derived.Deep.DeepCutAuto
namespace Go.Proofs.Ytadjbojlojnadaa
open Go.RowKit
set_option linter.unusedVariables false

/-- what is read of memory by the percent's line, in every world behind one -/
def JS (r : XRisk) (s : XSeen) (w0 w : World) (w' : World) : Prop :=
  Below w.heap.size w w' ∧ w'.cell? ⟨w0.heap.size + 1, 1, none⟩ = some (.int .i64 s.amount) ∧ w'.cell? ⟨w0.heap.size + 1, 5, none⟩ = some (.int .i64 s.draw) ∧
  w'.cell? ⟨w0.heap.size, 0, none⟩ = some (.int .i64 r.floor) ∧ w'.cell? ⟨w0.heap.size, 1, none⟩ = some (.int .i64 r.frm) ∧ w'.cell? ⟨w0.heap.size, 2, none⟩ = some (.int .i64 r.share) ∧ w'.cell? ⟨w0.heap.size, 3, none⟩ = some (.int .i64 r.most) ∧
  w'.cell? ⟨w0.heap.size, 4, none⟩ = some (.int .i64 r.lower) ∧ w'.cell? ⟨w0.heap.size, 5, none⟩ = some (.int .i64 r.upper) ∧ w'.cell? ⟨w0.heap.size, 6, none⟩ = some (.slice r.blacko r.black.length r.blackc)
theorem JAt.kept {r : XRisk} {s : XSeen} {w0 w : World} {g : Nat} {x : Int} (h : JAt r s w0 g x w) : ∀ w', Below w.heap.size w w' → JS r s w0 w w' := fun w' hb => by
  have hj := (h.more hb).cells
  exact ⟨hb, hj.s1, hj.s5, hj.r0, hj.r1, hj.r2, hj.r3, hj.r4, hj.r5, hj.r6⟩

set_option maxHeartbeats 8000000 in
theorem judge_yes (r : XRisk) (s : XSeen) (w : World) (hr : Rowstring w r.blacko r.black) (h : judgeE r s = 0) :
    Calls Try.prog 8 #[valRisk r, valSeen s] w fun e w' => e = .returned (.tuple #[.int .i64 (foundRS r s), .int .i64 0]) ∧ Below w.heap.size w w' := by
  have n1 := fun w => checkRisk_any r w
  have n2 := fun w => checkSeen_any s w
  have hbx := below_jboxes r s w
  have hin := fun w' => @inJ r s w w'
  have h1 : riskE r = 0 := by
    by_cases h1 : riskE r = 0
    · exact h1
    · rw [judgeE, if_neg h1] at h; exact h
  have h2 : seenE s = 0 := by rw [judgeE, if_pos h1] at h; exact h
  rw [h1] at n1
  rw [h2] at n2
  obtain ⟨_, ho⟩ := riskE_zero h1
  have hs := seenE_zero h2
  have n3 := fun (hn : s.amount < r.floor) w => percent_any r s.amount w ho hs.1.1 hn
  have n4 := fun (w' : World) (hb : Below w.heap.size w w') => containsS_any s.id r.black r.blacko r.blackc w' (hr.below hb)
  have hfin : foundRS r s = orIf (inTexts s.id r.black) 256 (orIf (s.last == 0) 128 (orIf (decide (r.upper < s.count - s.last)) 64 (orIf (decide (r.lower < s.count - s.last)) 32 (orIf (decide (s.amount < r.floor) && decide (s.draw ≤ pct r s.amount)) 16 (orIf (decide (r.floor ≤ s.amount + s.other)) 8 0))))) := by rw [found_or]; rfl
  rw [hfin]
  obtain ⟨hr1, hr2, hr3, hr4, hr5, hr6⟩ := ho
  obtain ⟨hs1, hs2, hs3, hs4, hs5⟩ := hs
  clear h h1 h2 hfin hr
  generalize pct r s.amount = pc at *
  generalize inTexts s.id r.black = tin at *
  unfold valRisk valSeen at *
  have N1 := hide n1; have N2 := hide n2; have N3 := hide n3; have N4 := hide n4
  clear n1 n2 n3 n4
  go_enter Try.func8, Try.ntmps8
  go_wp2_with fail
  refine (unhide N1 _).mono ?_
  rintro e w1 ⟨rfl, hb1⟩
  have HB : Below (jboxes r s w).heap.size (jboxes r s w) w1 := hb1
  have hj := hin _ HB
  have i1 := hj.s0; have i2 := hj.s1; have i3 := hj.s2; have i4 := hj.s3; have i5 := hj.s4; have i6 := hj.s5
  clear hb1 hj
  go_wp2_with fail
  refine (unhide N2 _).mono ?_
  rintro e w2 ⟨rfl, hb2⟩
  clear i1 i2 i3 i4 i5 i6
  have HB2 : Below (jboxes r s w).heap.size (jboxes r s w) w2 := HB.trans (hb2.mono HB.size)
  have hsz : w.heap.size + 2 ≤ w2.heap.size := by have := HB2.size; simpa [jboxes] using this
  have hj := hin _ HB2
  have i1 := hj.s0; have i2 := hj.s1; have i3 := hj.s2; have i4 := hj.s3; have i5 := hj.s4; have i6 := hj.s5
  have k1 := hj.r0; have k2 := hj.r1; have k3 := hj.r2; have k4 := hj.r3; have k5 := hj.r4; have k6 := hj.r5; have k7 := hj.r6
  have hl0 : w.heap.size < w2.heap.size := by omega
  have hl1 : w.heap.size + 1 < w2.heap.size := by omega
  have hja : JAt r s w w2.heap.size 0 (w2.alloc (Obj.cells #[.int .i64 0] 3)) :=
    ⟨hj.keep (fun b j hb => World.cell?_alloc_past _ _ _ (by omega)), heap_alloc_new w2 _, hsz, (hbx.trans (HB2.mono hbx.size)).alloc (by omega) _⟩
  have HJ := hide hja
  clear HB hb2 hj hin hja hbx hsz HB2
  go_wp2_with fail
  refine (find_any _ _ _ _ _ (unhide HJ).one).mono ?_
  rintro e w3 ⟨rfl, ho3, hu3⟩
  have hj := (unhide HJ).found ho3 hu3
  generalize w2.heap.size = g at *
  clear ho3 hu3 HJ i1 i2 i3 i4 i5 i6 k1 k2 k3 k4 k5 k6 k7 hl0 hl1
  have i1 := hj.cells.s0; have i2 := hj.cells.s1; have i3 := hj.cells.s2; have i4 := hj.cells.s3; have i5 := hj.cells.s4; have i6 := hj.cells.s5
  have k1 := hj.cells.r0; have k2 := hj.cells.r1; have k3 := hj.cells.r2; have k4 := hj.cells.r3; have k5 := hj.cells.r4; have k6 := hj.cells.r5; have k7 := hj.cells.r6
  have HJ := hide hj
  clear hj
  go_wp2_with fail
  go_cut [] (fun wx => JAt r s w g (orIf (decide (s.amount < r.floor) && decide (s.draw ≤ pc)) 16 (orIf (decide (r.floor ≤ s.amount + s.other)) 8 0)) wx)
  case first =>
    have hS := JAt.kept (unhide HJ)
    by_cases hn : s.amount < r.floor
    · clear i1 i2 i3 i4 i5 i6 k1 k2 k3 k4 k5 k6 k7
      have N3' := hide (unhide N3 hn)
      clear N3 N1 N2 N4
      go_region_held3 (fun w' => w'.cell? ⟨w.heap.size + 1, 1, none⟩ = some (.int .i64 s.amount) ∧ w'.cell? ⟨w.heap.size + 1, 5, none⟩ = some (.int .i64 s.draw) ∧ w'.cell? ⟨w.heap.size, 0, none⟩ = some (.int .i64 r.floor) ∧ w'.cell? ⟨w.heap.size, 1, none⟩ = some (.int .i64 r.frm) ∧ w'.cell? ⟨w.heap.size, 2, none⟩ = some (.int .i64 r.share) ∧ w'.cell? ⟨w.heap.size, 3, none⟩ = some (.int .i64 r.most) ∧ w'.cell? ⟨w.heap.size, 4, none⟩ = some (.int .i64 r.lower) ∧ w'.cell? ⟨w.heap.size, 5, none⟩ = some (.int .i64 r.upper) ∧ w'.cell? ⟨w.heap.size, 6, none⟩ = some (.slice r.blacko r.black.length r.blackc))
        (first
          | exact (hS _ (Below.refl _ _)).2
          | exact (hS _ (Below.refl _ _).drew).2
          | exact hs2
          | exact hs3)
        ((first
          | (go_at_call 29; refine (unhide N3' _).mono ?_; rintro e y1 ⟨rfl, hy1⟩; have hy2 : Below w3.heap.size w3 y1 := (Below.refl _ _).drew.trans hy1; have hs2 := (hS _ hy2).2)
          | (go_at_call 28; refine (find_any _ _ _ _ _ ((unhide HJ).more hy2).one).mono ?_; rintro e y2 ⟨rfl, ho2, hu2⟩; have hj2 := ((unhide HJ).more hy2).found ho2 hu2; have hs3 := (JAt.kept hj2 _ (Below.refl _ _)).2)))
      all_goals
        go_wp2_with fail
        go_meet
        have hn' : decide (s.amount < r.floor) = true := decide_eq_true hn
        rw [hn', Bool.true_and]
        exact hj2
    · clear N3 N1 N2 N4 i1 i2 i3 i4 i5 i6 k1 k2 k3 k4 k5 k6 k7
      have C1 := hide (fun w' hb => (hS w' hb).2.1)
      have C2 := hide (fun w' hb => (hS w' hb).2.2.2.1)
      have F0 := hide (fun k p w' => find_no k p w')
      clear hS
      refine wp_region_below w3 (Below.refl _ _) (by kernel_rfl) (by kernel_rfl) ?_
      repeat (
        refine Quietly.step (fun K hK => ?_)
        go_simp
        first
          | (refine hK _ ?_; clear hK K)
          | (apply Exists.intro
             refine ⟨fun w1 hw1 => ?_, hK _ ?_⟩
             (first | rfl | (rw [unhide C1 w1 hw1]; exact ⟨rfl, rfl⟩) | (rw [unhide C2 w1 hw1]; exact ⟨rfl, rfl⟩) | (go_at_call 28; exact calls_same hw1 (unhide F0 _ _ _)))
             clear hK K))
      refine Quietly.nil ?_
      intro w4 hw4
      go_wp2_with fail
      go_meet
      have hn' : decide (s.amount < r.floor) = false := decide_eq_false (by omega)
      rw [hn', Bool.false_and]
      exact (unhide HJ).more hw4
  case rest =>
    clear i1 i2 i3 i4 i5 i6 k1 k2 k3 k4 k5 k6 k7 N1 N2 N3 HJ
    have hj := hcut
    clear hcut
    have i4 := hj.cells.s3; have i5 := hj.cells.s4
    have k5 := hj.cells.r4
    have HJ := hide hj
    clear hj
    go_wp2_with fail
    refine (find_any _ _ _ _ _ (unhide HJ).one).mono ?_
    rintro e x1 ⟨rfl, ho, hu⟩
    have hj := (unhide HJ).found ho hu
    clear ho hu HJ i4 i5 k5
    have i4 := hj.cells.s3; have i5 := hj.cells.s4
    have k5 := hj.cells.r5
    have HJ := hide hj
    clear hj
    go_wp2_with fail
    refine (find_any _ _ _ _ _ (unhide HJ).one).mono ?_
    rintro e x2 ⟨rfl, ho, hu⟩
    have hj := (unhide HJ).found ho hu
    clear ho hu HJ i4 i5 k5
    have i4 := hj.cells.s3; have i5 := hj.cells.s4
    have k5 := hj.cells.r5
    have HJ := hide hj
    clear hj
    go_wp2_with fail
    refine (find_any _ _ _ _ _ (unhide HJ).one).mono ?_
    rintro e x3 ⟨rfl, ho, hu⟩
    have hj := (unhide HJ).found ho hu
    clear ho hu HJ i4 i5 k5
    have i4 := hj.cells.s0
    have k5 := hj.cells.r6
    have i5 := hj.cells.s1
    have HJ := hide hj
    have N5 := hide (unhide N4 x3 hj.bel)
    clear hj
    go_wp2_with fail
    refine (unhide N5).mono ?_
    rintro e x4 ⟨rfl, hx4⟩
    subst hx4
    go_wp2_with fail
    refine (find_any _ _ _ _ _ (unhide HJ).one).mono ?_
    rintro e x5 ⟨rfl, ho, hu⟩
    have hj := (unhide HJ).found ho hu
    have c0 := hj.one.cell
    have HJ2 := hide hj
    clear hj ho hu HJ i4 i5 k5
    go_wp2_with fail
    go_ret2
    exact ⟨rfl, (unhide HJ2).bel⟩
end Go.Proofs.Ytadjbojlojnadaa
