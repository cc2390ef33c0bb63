/- Decide of the document's own. -/
import Derived.Test.YtklnbkfajjgkaafDecW
namespace Go.Proofs.Ytklnbkfajjgkaaf
open Go.RowKit
set_option linter.unusedVariables false

theorem risBits_any (n : Int) (w : World) :
    Calls Try.prog 44 #[.int .i64 n] w fun e w' => e = .returned (.bool (bitsOK n)) ∧ w' = w := by
  by_cases c0 : 0 ≤ n
  · go_enter Try.func44, Try.ntmps44
    go_wp2
    go_ret
    exact ⟨ret_bool (by unfold bitsOK; rw [Bool.eq_iff_iff]; simp; omega), rfl⟩
  · go_enter Try.func44, Try.ntmps44
    go_wp2
    go_ret
    exact ⟨ret_bool (by unfold bitsOK; simp; omega), rfl⟩

set_option maxHeartbeats 8000000 in
theorem rdecide_any (b : Int) (c s : XMasks) (able : Bool) (w : World) :
    Calls Try.prog 24 #[.int .i64 b, valMasks c, valMasks s, .bool able] w fun e w' => e = .returned (.tuple #[.int .i64 (decA b c s able), .int .i64 (decE b c s)]) ∧ Below w.heap.size w w' := by
  have n1 := fun w => risBits_any b w
  have n2 := fun w => risBits_any c.d w
  have n3 := fun w => risBits_any c.o w
  have n4 := fun w => risBits_any c.f w
  have n5 := fun w => risBits_any s.d w
  have n6 := fun w => risBits_any s.o w
  have n7 := fun w => risBits_any s.f w
  have hbx : Below w.heap.size w ((w.alloc (Obj.cells #[.int .i64 c.d, .int .i64 c.o, .int .i64 c.f] 59)).alloc (Obj.cells #[.int .i64 s.d, .int .i64 s.o, .int .i64 s.f] 59)) :=
    ((Below.refl _ _).alloc (Nat.le_refl _) _).alloc (by simp) _
  have p1 := hit_sum b c.d s.d
  have p2 := hit_sum b c.o s.o
  have p3 := hit_sum b c.f s.f
  have eA : decA b c s able = bif !decOK b c s then 0 else bif hit b c.d s.d then 1 else bif able then (bif hit b c.o s.o then 2 else 3) else (bif hit b c.f s.f then 1 else 3) := rfl
  have eE : decE b c s = bif decOK b c s then 0 else 3 := rfl
  have eO : decOK b c s = (bitsOK b && ((bitsOK c.d && (bitsOK c.o && bitsOK c.f)) && (bitsOK s.d && (bitsOK s.o && bitsOK s.f)))) := rfl
  rw [eA, eE, eO]
  clear eA eE eO
  unfold valMasks
  generalize bitsOK b = q1 at *
  generalize bitsOK c.d = q2 at *
  generalize bitsOK c.o = q3 at *
  generalize bitsOK c.f = q4 at *
  generalize bitsOK s.d = q5 at *
  generalize bitsOK s.o = q6 at *
  generalize bitsOK s.f = q7 at *
  have N1 := hide n1; have N2 := hide n2; have N3 := hide n3; have N4 := hide n4; have N5 := hide n5; have N6 := hide n6; have N7 := hide n7
  clear n1 n2 n3 n4 n5 n6 n7
  have hcase : (q1 = true ∧ q2 = true ∧ q3 = true ∧ q4 = true ∧ q5 = true ∧ q6 = true ∧ q7 = true) ∨ (q1 = false) ∨ (q1 = true ∧ q2 = false) ∨ (q1 = true ∧ q2 = true ∧ q3 = false) ∨ (q1 = true ∧ q2 = true ∧ q3 = true ∧ q4 = false) ∨ (q1 = true ∧ q2 = true ∧ q3 = true ∧ q4 = true ∧ q5 = false) ∨ (q1 = true ∧ q2 = true ∧ q3 = true ∧ q4 = true ∧ q5 = true ∧ q6 = false) ∨ (q1 = true ∧ q2 = true ∧ q3 = true ∧ q4 = true ∧ q5 = true ∧ q6 = true ∧ q7 = false) := by
    cases q1 <;> cases q2 <;> cases q3 <;> cases q4 <;> cases q5 <;> cases q6 <;> cases q7 <;> simp
  rcases hcase with ⟨rfl, rfl, rfl, rfl, rfl, rfl, rfl⟩ | hcase
  · obtain ⟨q1, q4, q5, q6, q7⟩ := p1 rfl rfl rfl
    obtain ⟨q2, q8, q9, qa, qb⟩ := p2 rfl rfl rfl
    obtain ⟨q3, qc, qd, qe, qf⟩ := p3 rfl rfl rfl
    simp only [Bool.and_self, Bool.not_true, cond_false]
    generalize hit b c.d s.d = t1 at *
    generalize hit b c.o s.o = t2 at *
    generalize hit b c.f s.f = t3 at *
    obtain ⟨x1, hx1⟩ : ∃ x, bits .and .i64 b c.d = x := ⟨_, rfl⟩
    rw [hx1] at q1 q4 q5
    obtain ⟨x2, hx2⟩ : ∃ x, bits .and .i64 b s.d = x := ⟨_, rfl⟩
    rw [hx2] at q1 q6 q7
    obtain ⟨x3, hx3⟩ : ∃ x, bits .and .i64 b c.o = x := ⟨_, rfl⟩
    rw [hx3] at q2 q8 q9
    obtain ⟨x4, hx4⟩ : ∃ x, bits .and .i64 b s.o = x := ⟨_, rfl⟩
    rw [hx4] at q2 qa qb
    obtain ⟨x5, hx5⟩ : ∃ x, bits .and .i64 b c.f = x := ⟨_, rfl⟩
    rw [hx5] at q3 qc qd
    obtain ⟨x6, hx6⟩ : ∃ x, bits .and .i64 b s.f = x := ⟨_, rfl⟩
    rw [hx6] at q3 qe qf
    clear p1 p2 p3
    have hcase : t1 = true ∨ (t1 = false ∧ able = true ∧ t2 = true) ∨ (t1 = false ∧ able = true ∧ t2 = false) ∨ (t1 = false ∧ able = false ∧ t3 = true) ∨ (t1 = false ∧ able = false ∧ t3 = false) := by
      cases t1 <;> cases able <;> cases t2 <;> cases t3 <;> simp
    rcases hcase with rfl | ⟨rfl, rfl, rfl⟩ | ⟨rfl, rfl, rfl⟩ | ⟨rfl, rfl, rfl⟩ | ⟨rfl, rfl, rfl⟩ <;>
    · simp only [decide_eq_true_eq, decide_eq_false_iff_not, Int.not_lt] at q1 q2 q3
      go_enter Try.func24, Try.ntmps24
      go_wp2_with (first
        | (go_at_call_of 44 (Value.int .i64 b); refine (unhide N1 _).mono ?_; rintro e w1 ⟨rfl, hw1⟩; subst hw1)
        | (go_at_call_of 44 (Value.int .i64 c.d); refine (unhide N2 _).mono ?_; rintro e w1 ⟨rfl, hw1⟩; subst hw1)
        | (go_at_call_of 44 (Value.int .i64 c.o); refine (unhide N3 _).mono ?_; rintro e w1 ⟨rfl, hw1⟩; subst hw1)
        | (go_at_call_of 44 (Value.int .i64 c.f); refine (unhide N4 _).mono ?_; rintro e w1 ⟨rfl, hw1⟩; subst hw1)
        | (go_at_call_of 44 (Value.int .i64 s.d); refine (unhide N5 _).mono ?_; rintro e w1 ⟨rfl, hw1⟩; subst hw1)
        | (go_at_call_of 44 (Value.int .i64 s.o); refine (unhide N6 _).mono ?_; rintro e w1 ⟨rfl, hw1⟩; subst hw1)
        | (go_at_call_of 44 (Value.int .i64 s.f); refine (unhide N7 _).mono ?_; rintro e w1 ⟨rfl, hw1⟩; subst hw1))
      go_ret2
      exact ⟨rfl, hbx⟩
  · clear p1 p2 p3
    rcases hcase with rfl | ⟨rfl, rfl⟩ | ⟨rfl, rfl, rfl⟩ | ⟨rfl, rfl, rfl, rfl⟩ | ⟨rfl, rfl, rfl, rfl, rfl⟩ | ⟨rfl, rfl, rfl, rfl, rfl, rfl⟩ | ⟨rfl, rfl, rfl, rfl, rfl, rfl, rfl⟩ <;>
    · simp only [Bool.false_and, Bool.and_false, Bool.not_false, cond_true, cond_false]
      go_enter Try.func24, Try.ntmps24
      go_wp2_with (first
        | (go_at_call_of 44 (Value.int .i64 b); refine (unhide N1 _).mono ?_; rintro e w1 ⟨rfl, hw1⟩; subst hw1)
        | (go_at_call_of 44 (Value.int .i64 c.d); refine (unhide N2 _).mono ?_; rintro e w1 ⟨rfl, hw1⟩; subst hw1)
        | (go_at_call_of 44 (Value.int .i64 c.o); refine (unhide N3 _).mono ?_; rintro e w1 ⟨rfl, hw1⟩; subst hw1)
        | (go_at_call_of 44 (Value.int .i64 c.f); refine (unhide N4 _).mono ?_; rintro e w1 ⟨rfl, hw1⟩; subst hw1)
        | (go_at_call_of 44 (Value.int .i64 s.d); refine (unhide N5 _).mono ?_; rintro e w1 ⟨rfl, hw1⟩; subst hw1)
        | (go_at_call_of 44 (Value.int .i64 s.o); refine (unhide N6 _).mono ?_; rintro e w1 ⟨rfl, hw1⟩; subst hw1)
        | (go_at_call_of 44 (Value.int .i64 s.f); refine (unhide N7 _).mono ?_; rintro e w1 ⟨rfl, hw1⟩; subst hw1))
      go_ret2
      exact ⟨rfl, hbx⟩
end Go.Proofs.Ytklnbkfajjgkaaf
