/- Deals of the program: CheckDeal, DealText. -/
import Derived.Test.YtolicaaifhfhcaaM43
import Derived.Test.YtolicaaifhfhcaaM40
import Derived.Test.YtolicaaifhfhcaaM30
import Derived.Test.YtolicaaifhfhcaaM44
namespace Go.Proofs.Ytolicaaifhfhcaa
open Go.RowKit
set_option linter.unusedVariables false

theorem cwithin_any (n a b : Int) (w : World) :
    Calls Try.prog 25 #[.int .i64 n, .int .i64 a, .int .i64 b] w fun e w' => e = .returned (.bool (inT n a b)) ∧ w' = w := by
  by_cases h1 : a ≤ n
  · by_cases h2 : n ≤ b
    · have HD : Hid (inT n a b = true) := hide (decide_eq_true ⟨h1, h2⟩)
      generalize inT n a b = r at *
      go_enter Try.func25, Try.ntmps25
      go_wp2
      go_ret
      exact ⟨ret_boolQ (unhide HD).symm, rfl⟩
    · have HD : Hid (inT n a b = false) := hide (decide_eq_false (fun h => h2 h.2))
      generalize inT n a b = r at *
      go_enter Try.func25, Try.ntmps25
      go_wp2
      go_ret
      exact ⟨ret_boolQ (unhide HD).symm, rfl⟩
  · have HD : Hid (inT n a b = false) := hide (decide_eq_false (fun h => h1 h.1))
    generalize inT n a b = r at *
    go_enter Try.func25, Try.ntmps25
    go_wp2
    go_ret
    exact ⟨ret_boolQ (unhide HD).symm, rfl⟩
theorem tIsAmount_any (n : Int) (w : World) :
    Calls Try.prog 24 #[.int .i64 n] w fun e w' => e = .returned (.bool (inT n 0 999999999999)) ∧ w' = w := by
  have N1 := hide (fun w => cwithin_any n 0 999999999999 w)
  generalize inT n 0 999999999999 = b at *
  go_enter Try.func24, Try.ntmps24
  go_wp2_with fail
  refine (unhide N1 _).mono ?_
  rintro e w1 ⟨rfl, rfl⟩
  go_wp2
  go_ret
  exact ⟨rfl, rfl⟩
/-- what is wrong with a deal -/
def dealE (d : XDeal) : Int :=
  bif inT d.amount 0 999999999999 && (inT d.shop 0 4294967295 && inT d.trace 0 4294967295) then bif inT d.day 0 65535 && inT d.bits 0 4095 then if d.nonce.size = 8 then 0 else 1 else 3 else 3
theorem ret_intT {a b : Int} (h : a = b) : Ending.returned (.int .i64 a) = .returned (.int .i64 b) := by rw [h]
set_option maxRecDepth 100000 in
set_option maxHeartbeats 2000000 in
theorem checkDeal_any (d : XDeal) (w : World) :
    Calls Try.prog 8 #[valDeal d] w fun e w' => e = .returned (.int .i64 (dealE d)) ∧ Below w.heap.size w w' := by
  obtain ⟨sh, tr, am, ca, dy, bt, no⟩ := d
  unfold valDeal
  simp only
  obtain ⟨R, hR⟩ : ∃ R, R = dealE ⟨sh, tr, am, ca, dy, bt, no⟩ := ⟨_, rfl⟩
  rw [← hR]
  unfold dealE at hR
  simp only at hR
  have n1 := fun w => tIsAmount_any am w
  have n2 := fun w => cwithin_any sh 0 4294967295 w
  have n3 := fun w => cwithin_any tr 0 4294967295 w
  have n4 := fun w => cwithin_any dy 0 65535 w
  have n5 := fun w => cwithin_any bt 0 4095 w
  generalize inT am 0 999999999999 = b1 at *
  generalize inT sh 0 4294967295 = b2 at *
  generalize inT tr 0 4294967295 = b3 at *
  generalize inT dy 0 65535 = b4 at *
  generalize inT bt 0 4095 = b5 at *
  have HB := hide ((Below.refl w.heap.size w).alloc (Nat.le_refl _) (.cells #[.int .i64 sh, .int .i64 tr, .int .i64 am, .bool ca, .int .i64 dy, .int .i64 bt, .string no] 28))
  have N1 := hide n1; have N2 := hide n2; have N3 := hide n3; have N4 := hide n4; have N5 := hide n5
  clear n1 n2 n3 n4 n5
  cases b1 with
  | false =>
    obtain rfl : R = 3 := hR
    go_enter Try.func8, Try.ntmps8
    go_wp2_with fail
    refine (unhide N1 _).mono ?_
    rintro e w1 ⟨rfl, rfl⟩
    go_wp2
    go_ret
    exact ⟨rfl, unhide HB⟩
  | true =>
  cases b2 with
  | false =>
    obtain rfl : R = 3 := hR
    go_enter Try.func8, Try.ntmps8
    go_wp2_with fail
    refine (unhide N1 _).mono ?_
    rintro e w1 ⟨rfl, rfl⟩
    go_wp2_with fail
    refine (unhide N2 _).mono ?_
    rintro e w1 ⟨rfl, rfl⟩
    go_wp2
    go_ret
    exact ⟨rfl, unhide HB⟩
  | true =>
  cases b3 with
  | false =>
    obtain rfl : R = 3 := hR
    go_enter Try.func8, Try.ntmps8
    go_wp2_with fail
    refine (unhide N1 _).mono ?_
    rintro e w1 ⟨rfl, rfl⟩
    go_wp2_with fail
    refine (unhide N2 _).mono ?_
    rintro e w1 ⟨rfl, rfl⟩
    go_wp2_with fail
    refine (unhide N3 _).mono ?_
    rintro e w1 ⟨rfl, rfl⟩
    go_wp2
    go_ret
    exact ⟨rfl, unhide HB⟩
  | true =>
  cases b4 with
  | false =>
    obtain rfl : R = 3 := hR
    go_enter Try.func8, Try.ntmps8
    go_wp2_with fail
    refine (unhide N1 _).mono ?_
    rintro e w1 ⟨rfl, rfl⟩
    go_wp2_with fail
    refine (unhide N2 _).mono ?_
    rintro e w1 ⟨rfl, rfl⟩
    go_wp2_with fail
    refine (unhide N3 _).mono ?_
    rintro e w1 ⟨rfl, rfl⟩
    go_wp2_with fail
    refine (unhide N4 _).mono ?_
    rintro e w1 ⟨rfl, rfl⟩
    go_wp2
    go_ret
    exact ⟨rfl, unhide HB⟩
  | true =>
  cases b5 with
  | false =>
    obtain rfl : R = 3 := hR
    go_enter Try.func8, Try.ntmps8
    go_wp2_with fail
    refine (unhide N1 _).mono ?_
    rintro e w1 ⟨rfl, rfl⟩
    go_wp2_with fail
    refine (unhide N2 _).mono ?_
    rintro e w1 ⟨rfl, rfl⟩
    go_wp2_with fail
    refine (unhide N3 _).mono ?_
    rintro e w1 ⟨rfl, rfl⟩
    go_wp2_with fail
    refine (unhide N4 _).mono ?_
    rintro e w1 ⟨rfl, rfl⟩
    go_wp2_with fail
    refine (unhide N5 _).mono ?_
    rintro e w1 ⟨rfl, rfl⟩
    go_wp2
    go_ret
    exact ⟨rfl, unhide HB⟩
  | true =>
    have hR2 : R = if no.size = 8 then 0 else 1 := hR
    by_cases h8 : no.size = 8
    · rw [if_pos h8] at hR2
      subst hR2
      have t8 : ((no.size : Int) != 8) = false := by simp; omega
      clear h8 hR
      go_enter Try.func8, Try.ntmps8
      go_wp2_with fail
      refine (unhide N1 _).mono ?_
      rintro e w1 ⟨rfl, rfl⟩
      go_wp2_with fail
      refine (unhide N2 _).mono ?_
      rintro e w1 ⟨rfl, rfl⟩
      go_wp2_with fail
      refine (unhide N3 _).mono ?_
      rintro e w1 ⟨rfl, rfl⟩
      go_wp2_with fail
      refine (unhide N4 _).mono ?_
      rintro e w1 ⟨rfl, rfl⟩
      go_wp2_with fail
      refine (unhide N5 _).mono ?_
      rintro e w1 ⟨rfl, rfl⟩
      go_wp2
      go_ret
      exact ⟨rfl, unhide HB⟩
    · rw [if_neg h8] at hR2
      subst hR2
      have t8 : ((no.size : Int) != 8) = true := by simp; omega
      clear h8 hR
      go_enter Try.func8, Try.ntmps8
      go_wp2_with fail
      refine (unhide N1 _).mono ?_
      rintro e w1 ⟨rfl, rfl⟩
      go_wp2_with fail
      refine (unhide N2 _).mono ?_
      rintro e w1 ⟨rfl, rfl⟩
      go_wp2_with fail
      refine (unhide N3 _).mono ?_
      rintro e w1 ⟨rfl, rfl⟩
      go_wp2_with fail
      refine (unhide N4 _).mono ?_
      rintro e w1 ⟨rfl, rfl⟩
      go_wp2_with fail
      refine (unhide N5 _).mono ?_
      rintro e w1 ⟨rfl, rfl⟩
      go_wp2
      go_ret
      exact ⟨rfl, unhide HB⟩
end Go.Proofs.Ytolicaaifhfhcaa
