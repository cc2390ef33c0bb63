/- What is wrong with orders: plain, and digits of both. -/
import Derived.Test.YtlnoilfnpgogbagLow
import Derived.Test.YtlnoilfnpgogbagShO
import Derived.Lib.Strings
namespace Go.Proofs.Ytlnoilfnpgogbag
open Go.RowKit
set_option linter.unusedVariables false

/-- a number within two others -/
def inB (n lo hi : Int) : Bool := decide (lo ≤ n ∧ n ≤ hi)
theorem inB_true {n lo hi : Int} : inB n lo hi = true ↔ lo ≤ n ∧ n ≤ hi := decide_eq_true_iff
theorem inB_false {n lo hi : Int} : inB n lo hi = false ↔ ¬ (lo ≤ n ∧ n ≤ hi) := decide_eq_false_iff_not
def digC (c : UInt8) : Bool := decide (48 ≤ c.toNat ∧ c.toNat ≤ 57)
def digB (s : ByteArray) : Bool := s.data.toList.all digC
def digitsB (s : ByteArray) (lo hi : Int) : Bool := digB s && inB s.size lo hi
theorem digB_take (s : ByteArray) (k : Nat) (h : k < s.size) : (s.data.toList.take (k + 1)).all digC = ((s.data.toList.take k).all digC && digC s[k]) := by
  rw [take_snoc s k h, List.all_append]
  simp
theorem digB_not (s : ByteArray) (k : Nat) (h : (s.data.toList.take k).all digC = false) : digB s = false := by
  have e := List.take_append_drop k s.data.toList
  rw [digB, ← e, List.all_append, h, Bool.false_and]
theorem digC_false {c : UInt8} (h : digC c = false) : c.toNat < 48 ∨ 57 < c.toNat := by
  have := of_decide_eq_false h
  omega
theorem digC_true {c : UInt8} (h : digC c = true) : 48 ≤ c.toNat ∧ c.toNat ≤ 57 := of_decide_eq_true h
theorem digitsB_no {s : ByteArray} {lo hi : Int} (h : digB s = false) : digitsB s lo hi = false := by rw [digitsB, h, Bool.false_and]
theorem digitsB_yes {s : ByteArray} {lo hi : Int} (h : digB s = true) : digitsB s lo hi = inB s.size lo hi := by rw [digitsB, h, Bool.true_and]
theorem within_any (n lo hi : Int) (w : World) :
    Calls Try.prog 33 #[.int .i64 n, .int .i64 lo, .int .i64 hi] w fun e w' => e = .returned (.bool (inB n lo hi)) ∧ w' = w := by
  by_cases h : lo ≤ n
  · have HM : Hid (inB n lo hi = decide (n ≤ hi)) := hide (decide_eq_decide.2 (by omega))
    go_enter Try.func33, Try.ntmps33
    go_wp2
    go_ret
    exact ⟨ret_bool (unhide HM).symm, rfl⟩
  · have HM : Hid (inB n lo hi = false) := hide (decide_eq_false (by omega))
    go_enter Try.func33, Try.ntmps33
    go_wp2
    go_ret
    exact ⟨ret_bool (unhide HM).symm, rfl⟩


set_option maxHeartbeats 1000000 in
theorem digits_any (s : ByteArray) (lo hi : Int) (hs : s.size ≤ maxLen) (w : World) :
    Calls Try.prog 30 #[.string s, .int .i64 lo, .int .i64 hi] w fun e w' => e = .returned (.bool (digitsB s lo hi)) ∧ w' = w := by
  have hs' : (s.size : Int) ≤ 9223372036854775807 := by simp only [maxLen] at hs; omega
  have N1 := hide (within_any s.size lo hi w)
  clear hs
  go_enter Try.func30, Try.ntmps30
  go_wp2
  go_loop [10] (fun i => ∃ k : Nat, k ≤ s.size ∧ i = .int .i64 k ∧ Hid ((s.data.toList.take k).all digC = true)) (fun i => s.size - (intOf i).toNat)
  case atStart => exact ⟨0, Nat.zero_le _, rfl, hide (by simp)⟩
  case round =>
    obtain ⟨k, hk, rfl, HA⟩ := hrel
    by_cases hlt : k < s.size
    · have hst := digB_take s k hlt
      rw [unhide HA, Bool.true_and] at hst
      cases hc : digC s[k] with
      | false =>
        have HF := hide (digitsB_no (lo := lo) (hi := hi) (digB_not s (k + 1) (hst.trans hc)))
        rcases digC_false hc with h1 | h1
        · have h2 : ((s[k].toNat : Nat) : Int) < 48 := by omega
          clear hst hc N1
          go_wp2
          go_ret
          exact ⟨ret_bool (unhide HF).symm, rfl⟩
        · have h2 : (57 : Int) < ((s[k].toNat : Nat) : Int) := by omega
          have h3 : ¬ ((s[k].toNat : Nat) : Int) < 48 := by omega
          clear hst hc N1
          go_wp2
          go_ret
          exact ⟨ret_bool (unhide HF).symm, rfl⟩
      | true =>
        have HS := hide (hst.trans hc)
        obtain ⟨h1, h1'⟩ := digC_true hc
        have h2 : ¬ (57 : Int) < ((s[k].toNat : Nat) : Int) := by omega
        have h3 : ¬ ((s[k].toNat : Nat) : Int) < 48 := by omega
        clear hst hc N1
        go_wp2
        go_round
        case rel => exact ⟨k + 1, by omega, by go_num, HS⟩
        case measure => simp [intOf]; omega
    · have HF : Hid (digB s = true) := hide (by have := unhide HA; rw [List.take_of_length_le (by simp; omega)] at this; exact this)
      go_wp2_with fail
      refine (unhide N1).mono ?_
      rintro e w1 ⟨rfl, hw1⟩
      subst hw1
      go_wp2
      go_ret
      exact ⟨ret_bool (digitsB_yes (unhide HF)).symm, rfl⟩
set_option maxHeartbeats 1000000 in
theorem rdigits_any (s : ByteArray) (lo hi : Int) (hs : s.size ≤ maxLen) (w : World) :
    Calls Try.prog 35 #[.string s, .int .i64 lo, .int .i64 hi] w fun e w' => e = .returned (.bool (digitsB s lo hi)) ∧ w' = w := by
  have hs' : (s.size : Int) ≤ 9223372036854775807 := by simp only [maxLen] at hs; omega
  clear hs
  go_enter Try.func35, Try.ntmps35
  go_wp2
  go_loop [7] (fun i => ∃ k : Nat, k ≤ s.size ∧ i = .int .i64 k ∧ Hid ((s.data.toList.take k).all digC = true)) (fun i => s.size - (intOf i).toNat)
  case atStart => exact ⟨0, Nat.zero_le _, rfl, hide (by simp)⟩
  case round =>
    obtain ⟨k, hk, rfl, HA⟩ := hrel
    by_cases hlt : k < s.size
    · have hst := digB_take s k hlt
      rw [unhide HA, Bool.true_and] at hst
      cases hc : digC s[k] with
      | false =>
        have HF := hide (digitsB_no (lo := lo) (hi := hi) (digB_not s (k + 1) (hst.trans hc)))
        rcases digC_false hc with h1 | h1
        · have h2 : ((s[k].toNat : Nat) : Int) < 48 := by omega
          clear hst hc
          go_wp2
          go_ret
          exact ⟨ret_bool (unhide HF).symm, rfl⟩
        · have h2 : (57 : Int) < ((s[k].toNat : Nat) : Int) := by omega
          have h3 : ¬ ((s[k].toNat : Nat) : Int) < 48 := by omega
          clear hst hc
          go_wp2
          go_ret
          exact ⟨ret_bool (unhide HF).symm, rfl⟩
      | true =>
        have HS := hide (hst.trans hc)
        obtain ⟨h1, h1'⟩ := digC_true hc
        have h2 : ¬ (57 : Int) < ((s[k].toNat : Nat) : Int) := by omega
        have h3 : ¬ ((s[k].toNat : Nat) : Int) < 48 := by omega
        clear hst hc
        go_wp2
        go_round
        case rel => exact ⟨k + 1, by omega, by go_num, HS⟩
        case measure => simp [intOf]; omega
    · have HF : Hid (digB s = true) := hide (by have := unhide HA; rw [List.take_of_length_le (by simp; omega)] at this; exact this)
      by_cases hl : lo ≤ (s.size : Int)
      · have HM : Hid (digitsB s lo hi = decide ((s.size : Int) ≤ hi)) := hide (by rw [digitsB_yes (unhide HF)]; exact decide_eq_decide.2 (by omega))
        go_wp2
        go_ret
        exact ⟨ret_bool (unhide HM).symm, rfl⟩
      · have HM : Hid (digitsB s lo hi = false) := hide (by rw [digitsB_yes (unhide HF)]; exact decide_eq_false (by omega))
        go_wp2
        go_ret
        exact ⟨ret_bool (unhide HM).symm, rfl⟩
theorem isPin_any (s : ByteArray) (hs : s.size ≤ maxLen) (w : World) :
    Calls Try.prog 31 #[.string s] w fun e w' => e = .returned (.bool (digitsB s 4 12)) ∧ w' = w := by
  have N1 := hide (digits_any s 4 12 hs w)
  go_enter Try.func31, Try.ntmps31
  go_wp2_with fail
  refine (unhide N1).mono ?_
  rintro e w1 ⟨rfl, hw1⟩
  subst hw1
  go_wp2
  go_ret
  exact ⟨rfl, rfl⟩

/-- the greatest N of an order -/
def mostN (what : Int) : Int := if what = 1 ∨ what = 2 then 999999999999 else if what = 3 ∨ what = 7 then 255 else 0
theorem mostOf_any (what : Int) (w : World) :
    Calls Try.prog 74 #[.int .i64 what] w fun e w' => e = .returned (.int .i64 (mostN what)) ∧ w' = w := by
  have hcase : what = 1 ∨ (what ≠ 1 ∧ what = 2) ∨ (what ≠ 1 ∧ what ≠ 2 ∧ what = 3) ∨ (what ≠ 1 ∧ what ≠ 2 ∧ what ≠ 3 ∧ what = 7) ∨ (what ≠ 1 ∧ what ≠ 2 ∧ what ≠ 3 ∧ what ≠ 7) := by omega
  rcases hcase with h | ⟨h1, h⟩ | ⟨h1, h2, h⟩ | ⟨h1, h2, h3, h⟩ | ⟨h1, h2, h3, h⟩
  · subst h
    go_enter Try.func74, Try.ntmps74
    go_wp2
    go_ret
    exact ⟨rfl, rfl⟩
  · subst h
    go_enter Try.func74, Try.ntmps74
    go_wp2
    go_ret
    exact ⟨rfl, rfl⟩
  · subst h
    go_enter Try.func74, Try.ntmps74
    go_wp2
    go_ret
    exact ⟨rfl, rfl⟩
  · subst h
    go_enter Try.func74, Try.ntmps74
    go_wp2
    go_ret
    exact ⟨rfl, rfl⟩
  · have HM : Hid (mostN what = 0) := hide (by rw [mostN, if_neg (by omega), if_neg (by omega)])
    go_enter Try.func74, Try.ntmps74
    go_wp2
    go_ret
    exact ⟨ret_int (unhide HM).symm, rfl⟩
/-- may a text be that of an order? -/
def textB (what : Int) (t : ByteArray) : Bool := if what = 7 then decide (t.size = 16) else if what = 8 then digitsB t 4 12 else decide (t.size = 0)
theorem emptyO (s : ByteArray) : s.toList.isEmpty = decide (s.size = 0) := by
  rw [Lib.toList_data]
  have e : s.size = s.data.toList.length := by simp
  rw [e]
  generalize s.data.toList = m
  cases m <;> simp
theorem isText_any (what : Int) (t : ByteArray) (ht : t.size ≤ maxLen) (w : World) :
    Calls Try.prog 76 #[.int .i64 what, .string t] w fun e w' => e = .returned (.bool (textB what t)) ∧ w' = w := by
  have N1 := hide (isPin_any t ht w)
  have he := emptyO t
  by_cases h7 : what = 7
  · subst h7
    have HM : Hid (textB 7 t = decide ((t.size : Int) = 16)) := hide (by rw [textB, if_pos rfl]; exact decide_eq_decide.2 (by omega))
    clear he
    go_enter Try.func76, Try.ntmps76
    go_wp2
    go_ret
    exact ⟨ret_bool (by rw [unhide HM, Bool.eq_iff_iff]; simp), rfl⟩
  · by_cases h8 : what = 8
    · subst h8
      have HM : Hid (textB 8 t = digitsB t 4 12) := hide rfl
      clear he
      go_enter Try.func76, Try.ntmps76
      go_wp2_with fail
      refine (unhide N1).mono ?_
      rintro e w1 ⟨rfl, hw1⟩
      subst hw1
      go_wp2
      go_ret
      exact ⟨rfl, rfl⟩
    · have HM : Hid (textB what t = decide (t.size = 0)) := hide (by rw [textB, if_neg h7, if_neg h8])
      generalize decide (t.size = 0) = q at *
      go_enter Try.func76, Try.ntmps76
      go_wp2
      go_ret
      exact ⟨ret_bool (unhide HM).symm, rfl⟩
end Go.Proofs.Ytlnoilfnpgogbag
