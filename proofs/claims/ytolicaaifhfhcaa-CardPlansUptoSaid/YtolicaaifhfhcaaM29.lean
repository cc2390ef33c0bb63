/- Orders that are handed in, opened. -/
import Derived.Test.YtolicaaifhfhcaaM00
import Derived.Lib.Strings
namespace Go.Proofs.Ytolicaaifhfhcaa
open Go.ChangeShapes Go.WideShapes Go.ChangeAt Go.RowKit Go.Deep
set_option linter.unusedVariables false
set_option maxRecDepth 100000

structure XOrder where
  what : Int
  n : Int
  text : ByteArray
deriving Inhabited
def valOrder (x : XOrder) : Value := .agg #[.int .i64 x.what, .int .i64 x.n, .string x.text]
def okOrder (W : World) (x : XOrder) : Prop := (-9223372036854775808 ≤ x.what ∧ x.what ≤ 9223372036854775807) ∧ (-9223372036854775808 ≤ x.n ∧ x.n ≤ 9223372036854775807) ∧ x.text.size ≤ maxLen
theorem okOrder.below {W W' : World} {x : XOrder} (h : okOrder W x) (hb : Below W.heap.size W W') : okOrder W' x := by
  obtain ⟨h0, h1, h2⟩ := h
  exact ⟨h0, h1, h2⟩
def RowOrder (W : World) (ao : Option Addr) (l : List XOrder) : Prop :=
  (l = [] ∨ ∃ b off, ao = some ⟨b, off, none⟩ ∧ b < W.heap.size ∧ ∀ i x, l[i]? = some x → W.cell? ⟨b, off + i * 3, none⟩ = some (.int .i64 x.what) ∧ W.cell? ⟨b, off + i * 3 + 1, none⟩ = some (.int .i64 x.n) ∧ W.cell? ⟨b, off + i * 3 + 2, none⟩ = some (.string x.text)) ∧ (∀ x ∈ l, okOrder W x) ∧ l.length ≤ maxLen
theorem RowOrder.below {W W' : World} {ao : Option Addr} {l : List XOrder} (h : RowOrder W ao l) (hb : Below W.heap.size W W') : RowOrder W' ao l := by
  obtain ⟨h, ho, hm⟩ := h
  refine ⟨?_, fun x hx => (ho x hx).below hb, hm⟩
  rcases h with h | ⟨b, off, e, hlt, hc⟩
  · exact .inl h
  · refine .inr ⟨b, off, e, Nat.lt_of_lt_of_le hlt hb.size, fun i s hi => ?_⟩
    obtain ⟨c0, c1, c2⟩ := hc i s hi
    exact ⟨(hb.cell (p := ⟨b, off + i * 3, none⟩) hlt).trans c0, (hb.cell (p := ⟨b, off + i * 3 + 1, none⟩) hlt).trans c1, (hb.cell (p := ⟨b, off + i * 3 + 2, none⟩) hlt).trans c2⟩
end Go.Proofs.Ytolicaaifhfhcaa
namespace Go.Proofs.Ytolicaaifhfhcaa
open Go.RowKit
set_option linter.unusedVariables false

/-- a number within two others -/
def inB (n lo hi : Int) : Bool := decide (lo ≤ n ∧ n ≤ hi)
theorem inB_true {n lo hi : Int} : inB n lo hi = true ↔ lo ≤ n ∧ n ≤ hi := decide_eq_true_iff
theorem inB_false {n lo hi : Int} : inB n lo hi = false ↔ ¬ (lo ≤ n ∧ n ≤ hi) := decide_eq_false_iff_not
def digC (c : UInt8) : Bool := decide (48 ≤ c.toNat ∧ c.toNat ≤ 57)
def digB (s : ByteArray) : Bool := s.data.toList.all digC
def digitsB (s : ByteArray) (lo hi : Int) : Bool := digB s && inB s.size lo hi
theorem digB_take (s : ByteArray) (k : Nat) (h : k < s.size) : (s.data.toList.take (k + 1)).all digC = ((s.data.toList.take k).all digC && digC s[k]) := by
  rw [take_snoc s k h, List.all_append]
  simp
theorem digB_not (s : ByteArray) (k : Nat) (h : (s.data.toList.take k).all digC = false) : digB s = false := by
  have e := List.take_append_drop k s.data.toList
  rw [digB, ← e, List.all_append, h, Bool.false_and]
theorem digC_false {c : UInt8} (h : digC c = false) : c.toNat < 48 ∨ 57 < c.toNat := by
  have := of_decide_eq_false h
  omega
theorem digC_true {c : UInt8} (h : digC c = true) : 48 ≤ c.toNat ∧ c.toNat ≤ 57 := of_decide_eq_true h
theorem digitsB_no {s : ByteArray} {lo hi : Int} (h : digB s = false) : digitsB s lo hi = false := by rw [digitsB, h, Bool.false_and]
theorem digitsB_yes {s : ByteArray} {lo hi : Int} (h : digB s = true) : digitsB s lo hi = inB s.size lo hi := by rw [digitsB, h, Bool.true_and]
theorem within_any (n lo hi : Int) (w : World) :
    Calls Try.prog 25 #[.int .i64 n, .int .i64 lo, .int .i64 hi] w fun e w' => e = .returned (.bool (inB n lo hi)) ∧ w' = w := by
  by_cases h : lo ≤ n
  · have HM : Hid (inB n lo hi = decide (n ≤ hi)) := hide (decide_eq_decide.2 (by omega))
    go_enter Try.func25, Try.ntmps25
    go_wp2
    go_ret
    exact ⟨ret_bool (unhide HM).symm, rfl⟩
  · have HM : Hid (inB n lo hi = false) := hide (decide_eq_false (by omega))
    go_enter Try.func25, Try.ntmps25
    go_wp2
    go_ret
    exact ⟨ret_bool (unhide HM).symm, rfl⟩


set_option maxHeartbeats 1000000 in
theorem digits_any (s : ByteArray) (lo hi : Int) (hs : s.size ≤ maxLen) (w : World) :
    Calls Try.prog 22 #[.string s, .int .i64 lo, .int .i64 hi] w fun e w' => e = .returned (.bool (digitsB s lo hi)) ∧ w' = w := by
  have hs' : (s.size : Int) ≤ 9223372036854775807 := by simp only [maxLen] at hs; omega
  have N1 := hide (within_any s.size lo hi w)
  clear hs
  go_enter Try.func22, Try.ntmps22
  go_wp2
  go_loop [10] (fun i => ∃ k : Nat, k ≤ s.size ∧ i = .int .i64 k ∧ Hid ((s.data.toList.take k).all digC = true)) (fun i => s.size - (intOf i).toNat)
  case atStart => exact ⟨0, Nat.zero_le _, rfl, hide (by simp)⟩
  case round =>
    obtain ⟨k, hk, rfl, HA⟩ := hrel
    by_cases hlt : k < s.size
    · have hst := digB_take s k hlt
      rw [unhide HA, Bool.true_and] at hst
      cases hc : digC s[k] with
      | false =>
        have HF := hide (digitsB_no (lo := lo) (hi := hi) (digB_not s (k + 1) (hst.trans hc)))
        rcases digC_false hc with h1 | h1
        · have h2 : ((s[k].toNat : Nat) : Int) < 48 := by omega
          clear hst hc N1
          go_wp2
          go_ret
          exact ⟨ret_bool (unhide HF).symm, rfl⟩
        · have h2 : (57 : Int) < ((s[k].toNat : Nat) : Int) := by omega
          have h3 : ¬ ((s[k].toNat : Nat) : Int) < 48 := by omega
          clear hst hc N1
          go_wp2
          go_ret
          exact ⟨ret_bool (unhide HF).symm, rfl⟩
      | true =>
        have HS := hide (hst.trans hc)
        obtain ⟨h1, h1'⟩ := digC_true hc
        have h2 : ¬ (57 : Int) < ((s[k].toNat : Nat) : Int) := by omega
        have h3 : ¬ ((s[k].toNat : Nat) : Int) < 48 := by omega
        clear hst hc N1
        go_wp2
        go_round
        case rel => exact ⟨k + 1, by omega, by go_num, HS⟩
        case measure => simp [intOf]; omega
    · have HF : Hid (digB s = true) := hide (by have := unhide HA; rw [List.take_of_length_le (by simp; omega)] at this; exact this)
      go_wp2_with fail
      refine (unhide N1).mono ?_
      rintro e w1 ⟨rfl, hw1⟩
      subst hw1
      go_wp2
      go_ret
      exact ⟨ret_bool (digitsB_yes (unhide HF)).symm, rfl⟩
set_option maxHeartbeats 1000000 in
theorem rdigits_any (s : ByteArray) (lo hi : Int) (hs : s.size ≤ maxLen) (w : World) :
    Calls Try.prog 27 #[.string s, .int .i64 lo, .int .i64 hi] w fun e w' => e = .returned (.bool (digitsB s lo hi)) ∧ w' = w := by
  have hs' : (s.size : Int) ≤ 9223372036854775807 := by simp only [maxLen] at hs; omega
  clear hs
  go_enter Try.func27, Try.ntmps27
  go_wp2
  go_loop [7] (fun i => ∃ k : Nat, k ≤ s.size ∧ i = .int .i64 k ∧ Hid ((s.data.toList.take k).all digC = true)) (fun i => s.size - (intOf i).toNat)
  case atStart => exact ⟨0, Nat.zero_le _, rfl, hide (by simp)⟩
  case round =>
    obtain ⟨k, hk, rfl, HA⟩ := hrel
    by_cases hlt : k < s.size
    · have hst := digB_take s k hlt
      rw [unhide HA, Bool.true_and] at hst
      cases hc : digC s[k] with
      | false =>
        have HF := hide (digitsB_no (lo := lo) (hi := hi) (digB_not s (k + 1) (hst.trans hc)))
        rcases digC_false hc with h1 | h1
        · have h2 : ((s[k].toNat : Nat) : Int) < 48 := by omega
          clear hst hc
          go_wp2
          go_ret
          exact ⟨ret_bool (unhide HF).symm, rfl⟩
        · have h2 : (57 : Int) < ((s[k].toNat : Nat) : Int) := by omega
          have h3 : ¬ ((s[k].toNat : Nat) : Int) < 48 := by omega
          clear hst hc
          go_wp2
          go_ret
          exact ⟨ret_bool (unhide HF).symm, rfl⟩
      | true =>
        have HS := hide (hst.trans hc)
        obtain ⟨h1, h1'⟩ := digC_true hc
        have h2 : ¬ (57 : Int) < ((s[k].toNat : Nat) : Int) := by omega
        have h3 : ¬ ((s[k].toNat : Nat) : Int) < 48 := by omega
        clear hst hc
        go_wp2
        go_round
        case rel => exact ⟨k + 1, by omega, by go_num, HS⟩
        case measure => simp [intOf]; omega
    · have HF : Hid (digB s = true) := hide (by have := unhide HA; rw [List.take_of_length_le (by simp; omega)] at this; exact this)
      by_cases hl : lo ≤ (s.size : Int)
      · have HM : Hid (digitsB s lo hi = decide ((s.size : Int) ≤ hi)) := hide (by rw [digitsB_yes (unhide HF)]; exact decide_eq_decide.2 (by omega))
        go_wp2
        go_ret
        exact ⟨ret_bool (unhide HM).symm, rfl⟩
      · have HM : Hid (digitsB s lo hi = false) := hide (by rw [digitsB_yes (unhide HF)]; exact decide_eq_false (by omega))
        go_wp2
        go_ret
        exact ⟨ret_bool (unhide HM).symm, rfl⟩
theorem isPin_any (s : ByteArray) (hs : s.size ≤ maxLen) (w : World) :
    Calls Try.prog 23 #[.string s] w fun e w' => e = .returned (.bool (digitsB s 4 12)) ∧ w' = w := by
  have N1 := hide (digits_any s 4 12 hs w)
  go_enter Try.func23, Try.ntmps23
  go_wp2_with fail
  refine (unhide N1).mono ?_
  rintro e w1 ⟨rfl, hw1⟩
  subst hw1
  go_wp2
  go_ret
  exact ⟨rfl, rfl⟩

/-- the greatest N of an order -/
def mostN (what : Int) : Int := if what = 1 ∨ what = 2 then 999999999999 else if what = 3 ∨ what = 7 then 255 else 0
/-- may a text be that of an order? -/
def textB (what : Int) (t : ByteArray) : Bool := if what = 7 then decide (t.size = 16) else if what = 8 then digitsB t 4 12 else decide (t.size = 0)
theorem emptyO (s : ByteArray) : s.toList.isEmpty = decide (s.size = 0) := by
  rw [Lib.toList_data]
  have e : s.size = s.data.toList.length := by simp
  rw [e]
  generalize s.data.toList = m
  cases m <;> simp
end Go.Proofs.Ytolicaaifhfhcaa
