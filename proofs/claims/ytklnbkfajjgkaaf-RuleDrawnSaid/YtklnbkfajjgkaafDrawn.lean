/- The literal that counts the draws; choose. -/
import Derived.Test.YtklnbkfajjgkaafJudY
import Derived.Test.YtklnbkfajjgkaafJudAll
namespace Go.Proofs.Ytklnbkfajjgkaaf
open Go.RowKit
set_option linter.unusedVariables false

theorem found6_bit (f1 f2 f3 f4 f5 f6 : Bool) : (bits .and .i64 (found6 f1 f2 f3 f4 f5 f6) 16 != 0) = f2 := by
  cases f1 <;> cases f2 <;> cases f3 <;> cases f4 <;> cases f5 <;> cases f6 <;> decide
theorem judge_ok (r : XRisk) (s : XSeen) (hr : riskE r = 0) (hs : SeenOK s) : judgeE r s = 0 := by rw [judgeE, if_pos hr, seenE, if_pos hs]

set_option maxHeartbeats 1000000 in
theorem choose_any (c n : Int) (w : World) (h0 : 0 < n) (hn : n ≤ 999999999999) (hc : -9223372036854775808 ≤ c ∧ c ≤ 9223372036854775807) :
    Calls Try.prog 22 #[.int .i64 c, .int .i64 n] w fun e w' => (∃ v : Int, e = .returned (.int .i64 v) ∧ 0 ≤ v ∧ v < n) ∧ w' = w := by
  have hd : ¬ n = 0 := by omega
  by_cases hneg : c < 0
  · have hm : Int.tmod (-(c + 1)) n = (-(c + 1)) % n := Int.tmod_eq_emod_of_nonneg (by omega)
    have e1 : 0 ≤ (-(c + 1)) % n := Int.emod_nonneg _ hd
    have e2 : (-(c + 1)) % n < n := Int.emod_lt_of_pos _ h0
    have e3 : IntKind.i64.wrap ((-(c + 1)) % n) = (-(c + 1)) % n := wraps_i64 _ e1 (by omega)
    go_enter Try.func22, Try.ntmps22
    go_wp2
    go_ret
    exact ⟨⟨_, rfl, e1, e2⟩, rfl⟩
  · have hm : Int.tmod c n = c % n := Int.tmod_eq_emod_of_nonneg (by omega)
    have e1 : 0 ≤ c % n := Int.emod_nonneg _ hd
    have e2 : c % n < n := Int.emod_lt_of_pos _ h0
    have e3 : IntKind.i64.wrap (c % n) = c % n := wraps_i64 _ e1 (by omega)
    go_enter Try.func22, Try.ntmps22
    go_wp2
    go_ret
    exact ⟨⟨_, rfl, e1, e2⟩, rfl⟩

set_option maxHeartbeats 4000000 in
theorem count_any (r : XRisk) (s : XSeen) (a : Int) (gs gr : Nat) (w0 w : World) (hr : Rowstring w0 r.blacko r.black) (hb : Below w0.heap.size w0 w) (hs : SAt w gs s) (hra : RAt w gr r) (hg : gr ≠ gs) (hgs : w0.heap.size ≤ gs)
    (hre : riskE r = 0) (hok : ∀ d, 1 ≤ d → d ≤ 99 → SeenOK { s with amount := a, draw := d }) (haf : a < r.floor) :
    Calls Try.prog 21 #[.int .i64 a, .pointer (some ⟨gs, 0, none⟩), .pointer (some ⟨gr, 0, none⟩)] w fun e w' =>
      e = .returned (.int .i64 (pct r a)) ∧ (∃ am dr, SAt w' gs { s with amount := am, draw := dr }) ∧ RAt w' gr r ∧ Below w0.heap.size w0 w' := by
  obtain ⟨_, ho⟩ := riskE_zero hre
  have hp := pct_bounds r a ho haf
  obtain ⟨p, hpe⟩ := Int.eq_ofNat_of_zero_le (show 0 ≤ pct r a by have := ho.2.2.1.1; omega)
  have hp99 : p ≤ 99 := by have := ho.2.2.2.1.2; omega
  have hj : ∀ (d : Nat), 1 ≤ d → d ≤ 99 → ∀ w', Below w0.heap.size w0 w' → Calls Try.prog 17 #[valRisk r, valSeen { s with amount := a, draw := (d : Int) }] w' fun e w2 => (∃ v : Int, e = .returned (.tuple #[.int .i64 v, .int .i64 0]) ∧ (bits .and .i64 v 16 != 0) = decide (d ≤ p)) ∧ Below w'.heap.size w' w2 := by
    intro d h1 h2 w' hb'
    have hje : judgeE r { s with amount := a, draw := (d : Int) } = 0 := judge_ok r _ hre (hok d (by omega) (by omega))
    refine (judge_any r { s with amount := a, draw := (d : Int) } w' (hr.below hb')).mono ?_
    rintro e w2 ⟨rfl, hb2⟩
    refine ⟨⟨judgeA r { s with amount := a, draw := (d : Int) }, by rw [hje], ?_⟩, hb2⟩
    rw [judgeA, if_pos hje, foundRS, found6_bit]
    simp only [hpe, decide_eq_true haf, Bool.true_and]
    rw [Bool.eq_iff_iff]
    simp
  have HJ := hide hj
  rw [hpe]
  unfold valRisk valSeen at *
  clear hj hok hre ho hp hpe haf hr
  go_enter Try.func21, Try.ntmps21
  go_wp2
  go_loopw [5, 6] (fun n d wr => ∃ k : Nat, k ≤ 99 ∧ d = .int .i64 ((k : Int) + 1) ∧ n = .int .i64 ((min k p : Nat) : Int) ∧ (∃ am dr, SAt wr gs { s with amount := am, draw := dr }) ∧ RAt wr gr r ∧ Below w0.heap.size w0 wr) (fun _ d _ => 101 - (intOf d).toNat)
  case atStart => exact ⟨0, by omega, rfl, by simp, ⟨s.amount, s.draw, hs⟩, hra, hb⟩
  case round =>
    obtain ⟨k, hk, rfl, rfl, ⟨am, dr, hs'⟩, hra', hbw⟩ := hrel
    have hmin : min k p ≤ 99 := by omega
    by_cases hlt : k < 99
    · obtain ⟨s0, s1, s2, s3, s4, s5⟩ := hs'.cells
      have t1 := hs'.thaw 1; have t5 := hs'.thaw 5
      have hs2 : SAt ((wr.setCell ⟨gs, 1, none⟩ (.int .i64 a)).setCell ⟨gs, 5, none⟩ (.int .i64 ((k : Int) + 1))) gs { s with amount := a, draw := (k : Int) + 1 } := (hs'.amount a).draw _
      have hr2 : RAt ((wr.setCell ⟨gs, 1, none⟩ (.int .i64 a)).setCell ⟨gs, 5, none⟩ (.int .i64 ((k : Int) + 1))) gr r := (hra'.set hg _).set hg _
      have hb2 : Below w0.heap.size w0 ((wr.setCell ⟨gs, 1, none⟩ (.int .i64 a)).setCell ⟨gs, 5, none⟩ (.int .i64 ((k : Int) + 1))) := (hbw.setCell hgs _).setCell hgs _
      obtain ⟨q0, q1, q2, q3, q4, q5⟩ := hs2.cells
      obtain ⟨r0, r1, r2, r3, r4, r5, r6⟩ := hr2.cells
      have J0 := unhide HJ (k + 1) (by omega) (by omega) _ hb2
      rw [show (((k + 1 : Nat)) : Int) = (k : Int) + 1 from by omega] at J0
      have J := hide J0
      clear J0
      have HS2 := hide hs2; have HR2 := hide hr2; have HB2 := hide hb2
      clear hs2 hr2 hb2 HJ hs' hra' hbw
      go_wp2_with fail
      refine (unhide J).mono ?_
      rintro e w2 ⟨⟨v, rfl, hv⟩, hb3⟩
      clear q0 q1 q2 q3 q4 q5 r0 r1 r2 r3 r4 r5 r6 J s0 s1 s2 s3 s4 s5 t1 t5
      have HS3 := hide ((unhide HS2).below hb3)
      have HR3 := hide ((unhide HR2).below hb3)
      have HB3 := hide ((unhide HB2).trans (hb3.mono (unhide HB2).size))
      clear HS2 HR2 HB2 hb3
      by_cases hkp : k + 1 ≤ p
      · rw [decide_eq_true hkp] at hv
        go_wp2
        go_roundw
        case rel => exact ⟨k + 1, by omega, by go_num, by simp; omega, ⟨_, _, unhide HS3⟩, unhide HR3, unhide HB3⟩
        case measure => simp [intOf]; omega
      · rw [decide_eq_false hkp] at hv
        go_wp2
        go_roundw
        case rel => exact ⟨k + 1, by omega, by go_num, by simp; omega, ⟨_, _, unhide HS3⟩, unhide HR3, unhide HB3⟩
        case measure => simp [intOf]; omega
    · have hk9 : k = 99 := by omega
      subst hk9
      have hmp : min 99 p = p := by omega
      rw [hmp]
      go_wp2
      go_ret
      exact ⟨rfl, ⟨_, _, hs'⟩, hra', hbw⟩
end Go.Proofs.Ytklnbkfajjgkaaf
