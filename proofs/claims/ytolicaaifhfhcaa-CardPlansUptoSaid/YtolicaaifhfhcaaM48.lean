/- The reference: item, outer, Deal, DealText. -/
import Derived.Test.YtolicaaifhfhcaaM46
import Derived.Test.YtolicaaifhfhcaaM47
namespace Go.Proofs.Ytolicaaifhfhcaa
open Go.RowKit
set_option linter.unusedVariables false

/-- how a length is written, whatever it is -/
def lenR (n : Nat) : List Int := if n < 128 then [(n : Int)] else if n < 256 then [129, (n : Int)] else 130 :: bigL n 2
theorem lenR_length (n : Nat) : (lenR n).length = lenLen n := by unfold lenR lenLen; split <;> (try split) <;> rfl
theorem lenR_small {n : Nat} (h : n < 65536) : lenR n = lenL n := by
  unfold lenR lenL
  split
  · rfl
  · split
    · rfl
    · simp only [bigL, Nat.pow_one, Nat.pow_zero, Nat.div_one]
      have e1 : ((n / 256 % 256 : Nat) : Int) = (n : Int) / 256 := by omega
      have e2 : ((n % 256 : Nat) : Int) = (n : Int) % 256 := by omega
      rw [e1, e2]
def szS (s : ByteArray) : ByteArray := strOfNums (lenR s.size) ++ s
def itS (t : Int) (s : ByteArray) : ByteArray := strOfNums [t] ++ szS s
theorem bytes1T (x : Int) (h0 : 0 ≤ x ∧ x < 256) (b cap : Nat) (w : World) (c0 : w.cell? ⟨b, 0, none⟩ = some (.int .i64 x)) :
    Calls Try.prog 19 #[.slice (some ⟨b, 0, none⟩) 1 cap] w fun e w' => e = .returned (.string (strOfNums [x])) ∧ Below w.heap.size w w' := by
  have h := bytes_one x b 0 cap w (World.block_lt_of_cell? w _ c0) c0
  rw [show lowByte x = x from by unfold lowByte; omega] at h
  exact h
theorem szS_size (s : ByteArray) : (szS s).size = lenLen s.size + s.size := by unfold szS; rw [ByteArray.size_append, strOfNums_size, lenR_length]
theorem itS_size (t : Int) (s : ByteArray) : (itS t s).size = 1 + (lenLen s.size + s.size) := by unfold itS; rw [ByteArray.size_append, strOfNums_size, szS_size]; rfl
/-- what outer answers -/
def outE (t : Int) (s : ByteArray) : Int := if 65535 < (itS t s).size then 2 else 0
def outS (t : Int) (s : ByteArray) : ByteArray := if 65535 < (itS t s).size then ⟨#[]⟩ else itS t s
theorem tRamount_any (n : Int) (w : World) :
    Calls Try.prog 28 #[.int .i64 n] w fun e w' => e = .returned (.bool (inT n 0 999999999999)) ∧ w' = w := by
  by_cases h1 : 0 ≤ n
  · by_cases h2 : n ≤ 999999999999
    · have HD : Hid (inT n 0 999999999999 = true) := hide (decide_eq_true ⟨h1, h2⟩)
      generalize inT n 0 999999999999 = r at *
      go_enter Try.func28, Try.ntmps28
      go_wp2
      go_ret
      exact ⟨ret_boolQ (unhide HD).symm, rfl⟩
    · have HD : Hid (inT n 0 999999999999 = false) := hide (decide_eq_false (fun h => h2 h.2))
      generalize inT n 0 999999999999 = r at *
      go_enter Try.func28, Try.ntmps28
      go_wp2
      go_ret
      exact ⟨ret_boolQ (unhide HD).symm, rfl⟩
  · have HD : Hid (inT n 0 999999999999 = false) := hide (decide_eq_false (fun h => h1 h.1))
    generalize inT n 0 999999999999 = r at *
    go_enter Try.func28, Try.ntmps28
    go_wp2
    go_ret
    exact ⟨ret_boolQ (unhide HD).symm, rfl⟩
theorem rbits_any (n : Int) (w : World) :
    Calls Try.prog 33 #[.int .i64 n] w fun e w' => e = .returned (.bool (inT n 0 4095)) ∧ w' = w := by
  by_cases h1 : 0 ≤ n
  · by_cases h2 : n ≤ 4095
    · have HD : Hid (inT n 0 4095 = true) := hide (decide_eq_true ⟨h1, h2⟩)
      have h3 : n < 4096 := by omega
      generalize inT n 0 4095 = r at *
      go_enter Try.func33, Try.ntmps33
      go_wp2
      go_ret
      exact ⟨ret_boolQ (unhide HD).symm, rfl⟩
    · have HD : Hid (inT n 0 4095 = false) := hide (decide_eq_false (fun h => h2 h.2))
      have h3 : ¬ n < 4096 := by omega
      generalize inT n 0 4095 = r at *
      go_enter Try.func33, Try.ntmps33
      go_wp2
      go_ret
      exact ⟨ret_boolQ (unhide HD).symm, rfl⟩
  · have HD : Hid (inT n 0 4095 = false) := hide (decide_eq_false (fun h => h1 h.1))
    generalize inT n 0 4095 = r at *
    go_enter Try.func33, Try.ntmps33
    go_wp2
    go_ret
    exact ⟨ret_boolQ (unhide HD).symm, rfl⟩
theorem dealE_out {d : XDeal} (h : ¬ ((0 ≤ d.amount ∧ d.amount ≤ 999999999999) ∧ (0 ≤ d.shop ∧ d.shop ≤ 4294967295) ∧ (0 ≤ d.trace ∧ d.trace ≤ 4294967295) ∧ (0 ≤ d.day ∧ d.day ≤ 65535) ∧ (0 ≤ d.bits ∧ d.bits ≤ 4095))) : dealE d = 3 := by
  unfold dealE
  cases h1 : inT d.amount 0 999999999999 with
  | false => rfl
  | true =>
  cases h2 : inT d.shop 0 4294967295 with
  | false => rfl
  | true =>
  cases h3 : inT d.trace 0 4294967295 with
  | false => rfl
  | true =>
  cases h4 : inT d.day 0 65535 with
  | false => rfl
  | true =>
  cases h5 : inT d.bits 0 4095 with
  | false => rfl
  | true => exact absurd ⟨inT_true.1 h1, inT_true.1 h2, inT_true.1 h3, inT_true.1 h4, inT_true.1 h5⟩ h
theorem dealE_all {d : XDeal} (h1 : 0 ≤ d.amount ∧ d.amount ≤ 999999999999) (h2 : 0 ≤ d.shop ∧ d.shop ≤ 4294967295) (h3 : 0 ≤ d.trace ∧ d.trace ≤ 4294967295) (h4 : 0 ≤ d.day ∧ d.day ≤ 65535) (h5 : 0 ≤ d.bits ∧ d.bits ≤ 4095) : dealE d = if d.nonce.size = 8 then 0 else 1 := by
  unfold dealE
  rw [inT_true.2 h1, inT_true.2 h2, inT_true.2 h3, inT_true.2 h4, inT_true.2 h5]
  rfl
set_option maxRecDepth 100000 in
set_option maxHeartbeats 4000000 in
theorem rdeal_any (d : XDeal) (w : World) :
    Calls Try.prog 17 #[valDeal d] w fun e w' => e = .returned (.int .i64 (dealE d)) ∧ Below w.heap.size w w' := by
  have n1 := fun w => tRamount_any d.amount w
  have n5 := fun w => rbits_any d.bits w
  have HO := hide (@dealE_out d); have HA := hide (@dealE_all d)
  generalize dealE d = R at *
  obtain ⟨sh, tr, am, ca, dy, bt, no⟩ := d
  unfold valDeal
  simp only at n1 n5 HO HA ⊢
  have HB := hide ((Below.refl w.heap.size w).alloc (Nat.le_refl _) (.cells #[.int .i64 sh, .int .i64 tr, .int .i64 am, .bool ca, .int .i64 dy, .int .i64 bt, .string no] 28))
  by_cases k1 : 0 ≤ am ∧ am ≤ 999999999999
  case neg =>
    obtain rfl : R = 3 := unhide HO (fun h => k1 h.1)
    rw [inT_false k1] at n1
    have N1 := hide n1
    clear n1 n5 k1 HO HA
    go_enter Try.func17, Try.ntmps17
    go_wp2_with fail
    refine (unhide N1 _).mono ?_
    rintro e w1 ⟨rfl, rfl⟩
    go_wp2
    go_ret
    exact ⟨rfl, unhide HB⟩
  rw [inT_true.2 k1] at n1
  have N1 := hide n1
  clear n1
  by_cases k2 : sh < 0
  · obtain rfl : R = 3 := unhide HO (fun h => by obtain ⟨_, h, _⟩ := h; omega)
    clear n5 HO HA
    go_enter Try.func17, Try.ntmps17
    go_wp2_with fail
    refine (unhide N1 _).mono ?_
    rintro e w1 ⟨rfl, rfl⟩
    go_wp2
    go_ret
    exact ⟨rfl, unhide HB⟩
  by_cases k3 : 4294967296 ≤ sh
  · obtain rfl : R = 3 := unhide HO (fun h => by obtain ⟨_, h, _⟩ := h; omega)
    clear n5 HO HA
    go_enter Try.func17, Try.ntmps17
    go_wp2_with fail
    refine (unhide N1 _).mono ?_
    rintro e w1 ⟨rfl, rfl⟩
    go_wp2
    go_ret
    exact ⟨rfl, unhide HB⟩
  by_cases k4 : tr < 0
  · obtain rfl : R = 3 := unhide HO (fun h => by obtain ⟨_, _, h, _⟩ := h; omega)
    clear n5 HO HA
    go_enter Try.func17, Try.ntmps17
    go_wp2_with fail
    refine (unhide N1 _).mono ?_
    rintro e w1 ⟨rfl, rfl⟩
    go_wp2
    go_ret
    exact ⟨rfl, unhide HB⟩
  by_cases k5 : 4294967296 ≤ tr
  · obtain rfl : R = 3 := unhide HO (fun h => by obtain ⟨_, _, h, _⟩ := h; omega)
    clear n5 HO HA
    go_enter Try.func17, Try.ntmps17
    go_wp2_with fail
    refine (unhide N1 _).mono ?_
    rintro e w1 ⟨rfl, rfl⟩
    go_wp2
    go_ret
    exact ⟨rfl, unhide HB⟩
  by_cases k6 : dy < 0
  · obtain rfl : R = 3 := unhide HO (fun h => by obtain ⟨_, _, _, h, _⟩ := h; omega)
    clear n5 HO HA
    go_enter Try.func17, Try.ntmps17
    go_wp2_with fail
    refine (unhide N1 _).mono ?_
    rintro e w1 ⟨rfl, rfl⟩
    go_wp2
    go_ret
    exact ⟨rfl, unhide HB⟩
  by_cases k7 : 65535 < dy
  · obtain rfl : R = 3 := unhide HO (fun h => by obtain ⟨_, _, _, h, _⟩ := h; omega)
    clear n5 HO HA
    go_enter Try.func17, Try.ntmps17
    go_wp2_with fail
    refine (unhide N1 _).mono ?_
    rintro e w1 ⟨rfl, rfl⟩
    go_wp2
    go_ret
    exact ⟨rfl, unhide HB⟩
  by_cases k8 : 0 ≤ bt ∧ bt ≤ 4095
  case neg =>
    obtain rfl : R = 3 := unhide HO (fun h => k8 h.2.2.2.2)
    rw [inT_false k8] at n5
    have N5 := hide n5
    clear n5 k8 HO HA
    go_enter Try.func17, Try.ntmps17
    go_wp2_with fail
    refine (unhide N1 _).mono ?_
    rintro e w1 ⟨rfl, rfl⟩
    go_wp2_with fail
    refine (unhide N5 _).mono ?_
    rintro e w1 ⟨rfl, rfl⟩
    go_wp2
    go_ret
    exact ⟨rfl, unhide HB⟩
  have hR : R = if no.size = 8 then 0 else 1 := unhide HA k1 ⟨by omega, by omega⟩ ⟨by omega, by omega⟩ ⟨by omega, by omega⟩ k8
  rw [inT_true.2 k8] at n5
  have N5 := hide n5
  clear n5 k8 k1 HO HA
  by_cases h8 : no.size = 8
  · rw [if_pos h8] at hR
    subst hR
    have t8 : ((no.size : Int) != 8) = false := by simp; omega
    clear h8
    go_enter Try.func17, Try.ntmps17
    go_wp2_with fail
    refine (unhide N1 _).mono ?_
    rintro e w1 ⟨rfl, rfl⟩
    go_wp2_with fail
    refine (unhide N5 _).mono ?_
    rintro e w1 ⟨rfl, rfl⟩
    go_wp2
    go_ret
    exact ⟨rfl, unhide HB⟩
  · rw [if_neg h8] at hR
    subst hR
    have t8 : ((no.size : Int) != 8) = true := by simp; omega
    clear h8
    go_enter Try.func17, Try.ntmps17
    go_wp2_with fail
    refine (unhide N1 _).mono ?_
    rintro e w1 ⟨rfl, rfl⟩
    go_wp2_with fail
    refine (unhide N5 _).mono ?_
    rintro e w1 ⟨rfl, rfl⟩
    go_wp2
    go_ret
    exact ⟨rfl, unhide HB⟩
end Go.Proofs.Ytolicaaifhfhcaa
