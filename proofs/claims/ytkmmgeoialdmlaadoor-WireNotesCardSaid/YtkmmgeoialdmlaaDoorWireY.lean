/- The reference's Digits, and may a text be a field's. -/
import Derived.Test.YtkmmgeoialdmlaaDoorWireX
import Derived.Lib.Strings
namespace Go.Proofs.YtkmmgeoialdmlaaDoor
open Go.RowKit
set_option linter.unusedVariables false

/-- a number within two others -/
def inB (n lo hi : Int) : Bool := decide (lo ≤ n ∧ n ≤ hi)
theorem inB_true {n lo hi : Int} : inB n lo hi = true ↔ lo ≤ n ∧ n ≤ hi := decide_eq_true_iff
theorem inB_false {n lo hi : Int} : inB n lo hi = false ↔ ¬ (lo ≤ n ∧ n ≤ hi) := decide_eq_false_iff_not
def digC (c : UInt8) : Bool := decide (48 ≤ c.toNat ∧ c.toNat ≤ 57)
def digB (s : ByteArray) : Bool := s.data.toList.all digC
def digitsB (s : ByteArray) (lo hi : Int) : Bool := digB s && inB s.size lo hi
theorem digB_take (s : ByteArray) (k : Nat) (h : k < s.size) : (s.data.toList.take (k + 1)).all digC = ((s.data.toList.take k).all digC && digC s[k]) := by
  have hk : k < s.data.toList.length := by rw [Array.length_toList]; exact h
  rw [List.take_add_one, List.getElem?_eq_getElem hk, List.all_append]
  simp
  rfl
theorem digB_not (s : ByteArray) (k : Nat) (h : (s.data.toList.take k).all digC = false) : digB s = false := by
  have e := List.take_append_drop k s.data.toList
  rw [digB, ← e, List.all_append, h, Bool.false_and]
theorem digC_false {c : UInt8} (h : digC c = false) : c.toNat < 48 ∨ 57 < c.toNat := by
  have := of_decide_eq_false h
  omega
theorem digC_true {c : UInt8} (h : digC c = true) : 48 ≤ c.toNat ∧ c.toNat ≤ 57 := of_decide_eq_true h
theorem digitsB_no {s : ByteArray} {lo hi : Int} (h : digB s = false) : digitsB s lo hi = false := by rw [digitsB, h, Bool.false_and]
theorem digitsB_yes {s : ByteArray} {lo hi : Int} (h : digB s = true) : digitsB s lo hi = inB s.size lo hi := by rw [digitsB, h, Bool.true_and]
set_option maxHeartbeats 1000000 in
theorem rdigits_any (s : ByteArray) (lo hi : Int) (hs : s.size ≤ maxLen) (w : World) :
    Calls Tryd.prog 25 #[.string s, .int .i64 lo, .int .i64 hi] w fun e w' => e = .returned (.bool (digitsB s lo hi)) ∧ w' = w := by
  have hs' : (s.size : Int) ≤ 9223372036854775807 := by simp only [maxLen] at hs; omega
  clear hs
  go_enter Tryd.func25, Tryd.ntmps25
  go_wp2
  go_loop [7] (fun i => ∃ k : Nat, k ≤ s.size ∧ i = .int .i64 k ∧ Hid ((s.data.toList.take k).all digC = true)) (fun i => s.size - (intOf i).toNat)
  case atStart => exact ⟨0, Nat.zero_le _, rfl, hide (by simp)⟩
  case round =>
    obtain ⟨k, hk, rfl, HA⟩ := hrel
    by_cases hlt : k < s.size
    · have hst := digB_take s k hlt
      rw [unhide HA, Bool.true_and] at hst
      cases hc : digC s[k] with
      | false =>
        have HF := hide (digitsB_no (lo := lo) (hi := hi) (digB_not s (k + 1) (hst.trans hc)))
        rcases digC_false hc with h1 | h1
        · have h2 : ((s[k].toNat : Nat) : Int) < 48 := by omega
          clear hst hc
          go_wp2
          go_ret
          exact ⟨ret_bool (unhide HF).symm, rfl⟩
        · have h2 : (57 : Int) < ((s[k].toNat : Nat) : Int) := by omega
          have h3 : ¬ ((s[k].toNat : Nat) : Int) < 48 := by omega
          clear hst hc
          go_wp2
          go_ret
          exact ⟨ret_bool (unhide HF).symm, rfl⟩
      | true =>
        have HS := hide (hst.trans hc)
        obtain ⟨h1, h1'⟩ := digC_true hc
        have h2 : ¬ (57 : Int) < ((s[k].toNat : Nat) : Int) := by omega
        have h3 : ¬ ((s[k].toNat : Nat) : Int) < 48 := by omega
        clear hst hc
        go_wp2
        go_round
        case rel => exact ⟨k + 1, by omega, by go_num, HS⟩
        case measure => simp [intOf]; omega
    · have HF : Hid (digB s = true) := hide (by have := unhide HA; rw [List.take_of_length_le (by simp; omega)] at this; exact this)
      by_cases hl : lo ≤ (s.size : Int)
      · have HM : Hid (digitsB s lo hi = decide ((s.size : Int) ≤ hi)) := hide (by rw [digitsB_yes (unhide HF)]; exact decide_eq_decide.2 (by omega))
        go_wp2
        go_ret
        exact ⟨ret_bool (unhide HM).symm, rfl⟩
      · have HM : Hid (digitsB s lo hi = false) := hide (by rw [digitsB_yes (unhide HF)]; exact decide_eq_false (by omega))
        go_wp2
        go_ret
        exact ⟨ret_bool (unhide HM).symm, rfl⟩
theorem digB_all (s : ByteArray) : digB s = allDig s := by
  unfold digB allDig
  congr 1
  funext b
  exact Bool.eq_iff_iff.2 (decide_eq_true_iff.trans (isDig_iff b).symm)
theorem takesB_as (n : Nat) (s : ByteArray) : takesB n s = (decide ((if 0 < fahead n then 0 else fmost n) ≤ s.size) && decide (s.size ≤ fmost n) && (!fdig n || allDig s)) := by
  unfold takesB
  rw [Bool.or_comm (allDig s)]
  congr 1
  by_cases h : 0 < fahead n
  · rw [if_pos h, decide_eq_true h]
    by_cases h1 : s.size = fmost n
    · simp [h1]
    · have : decide (s.size ≤ fmost n) = decide (s.size < fmost n) := decide_eq_decide.2 (by omega)
      simp [h1, this]
  · rw [if_neg h, decide_eq_false h]
    by_cases h1 : s.size = fmost n
    · simp [h1]
    · have : ¬ (fmost n ≤ s.size ∧ s.size ≤ fmost n) := by omega
      simp [h1]
      omega
theorem fdig_most (n : Nat) (h1 : 1 ≤ n) (h16 : n ≤ 16) (h : fdig n = true) : fmost n ≤ 19 := by
  have : ∀ k : Fin 17, fdig k.val = true → fmost k.val ≤ 19 := by decide
  exact this ⟨n, by omega⟩ h
theorem fmost_le (n : Nat) (h1 : 1 ≤ n) (h16 : n ≤ 16) : fmost n ≤ 9999 ∧ fahead n ≤ 4 := by
  have : ∀ k : Fin 17, fmost k.val ≤ 9999 ∧ fahead k.val ≤ 4 := by decide
  exact this ⟨n, by omega⟩
set_option maxRecDepth 100000 in
set_option maxHeartbeats 1000000 in
theorem rpart_ok (n : Nat) (h1 : 1 ≤ n) (h16 : n ≤ 16) (s : ByteArray) (hs : s.size ≤ maxLen) (w : World) :
    Calls Tryd.prog 20 #[.int .i64 (n : Int), .string s] w fun e w' => e = .returned (.bool (takesB n s)) ∧ Below w.heap.size w w' := by
  have N1 := hide (rfield_any n h1 h16 w)
  have N2 := hide (fun w' => rdigits_any s 0 99 hs w')
  have hd := fdig_most n h1 h16
  have hm := fmost_le n h1 h16
  have hs' : (s.size : Int) ≤ 9223372036854775807 := by simp only [maxLen] at hs; omega
  have hD : s.size ≤ 19 → digitsB s 0 99 = allDig s := by
    intro h
    rw [digitsB, digB_all, inB_true.2 (by omega), Bool.and_true]
  obtain ⟨T, hT⟩ : ∃ T, T = takesB n s := ⟨_, rfl⟩
  rw [← hT]
  have HT := hide (hT.trans (takesB_as n s))
  clear hT hs
  generalize fdig n = d at *
  generalize fmost n = m at *
  generalize fahead n = a at *
  generalize digitsB s 0 99 = q at *
  generalize allDig s = z at *
  go_enter Tryd.func20, Tryd.ntmps20
  go_wp2_with fail
  refine (unhide N1).mono ?_
  rintro e w1 ⟨rfl, hb1⟩
  clear N1
  have hmi : (m : Int) ≤ 9999 := by omega
  by_cases ha : 0 < a
  · have hai : (0 : Int) < (a : Int) := by omega
    rw [if_pos ha] at HT
    by_cases hk : s.size ≤ m
    · have hki : (s.size : Int) ≤ (m : Int) := by omega
      cases d
      · have HQ := hide ((unhide HT).trans (by simp [hk]) : T = true)
        clear hD hd
        go_wp2_with fail
        go_ret
        exact ⟨ret_bool (unhide HQ).symm, hb1⟩
      · have hz : q = z := hD (by have := hd rfl; omega)
        have HQ := hide ((unhide HT).trans (by simp [hk, hz]) : T = q)
        clear hz hD hd
        go_wp2_with fail
        refine (unhide N2 _).mono ?_
        rintro e w2 ⟨rfl, rfl⟩
        go_wp2_with fail
        go_ret
        exact ⟨ret_bool (unhide HQ).symm, hb1⟩
    · have hki : ¬ (s.size : Int) ≤ (m : Int) := by omega
      have HQ := hide ((unhide HT).trans (by simp [hk]) : T = false)
      clear hD hd
      go_wp2_with fail
      go_ret
      exact ⟨ret_bool (unhide HQ).symm, hb1⟩
  · have hai : ¬ (0 : Int) < (a : Int) := by omega
    rw [if_neg ha] at HT
    by_cases hl : m ≤ s.size
    · have hli : (m : Int) ≤ (s.size : Int) := by omega
      by_cases hk : s.size ≤ m
      · have hki : (s.size : Int) ≤ (m : Int) := by omega
        cases d
        · have HQ := hide ((unhide HT).trans (by simp [hk, hl]) : T = true)
          clear hD hd
          go_wp2_with fail
          go_ret
          exact ⟨ret_bool (unhide HQ).symm, hb1⟩
        · have hz : q = z := hD (by have := hd rfl; omega)
          have HQ := hide ((unhide HT).trans (by simp [hk, hl, hz]) : T = q)
          clear hz hD hd
          go_wp2_with fail
          refine (unhide N2 _).mono ?_
          rintro e w2 ⟨rfl, rfl⟩
          go_wp2_with fail
          go_ret
          exact ⟨ret_bool (unhide HQ).symm, hb1⟩
      · have hki : ¬ (s.size : Int) ≤ (m : Int) := by omega
        have HQ := hide ((unhide HT).trans (by simp [hk]) : T = false)
        clear hD hd
        go_wp2_with fail
        go_ret
        exact ⟨ret_bool (unhide HQ).symm, hb1⟩
    · have hli : ¬ (m : Int) ≤ (s.size : Int) := by omega
      have HQ := hide ((unhide HT).trans (by simp [hl]) : T = false)
      clear hD hd
      go_wp2_with fail
      go_ret
      exact ⟨ret_bool (unhide HQ).symm, hb1⟩
end Go.Proofs.YtkmmgeoialdmlaaDoor
