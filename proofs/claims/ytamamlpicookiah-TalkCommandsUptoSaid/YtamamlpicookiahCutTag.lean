/- cutTag of the program: the tag at the beginning of a text. -/
import Derived.Test.YtamamlpicookiahTags
namespace Go.Proofs.Ytamamlpicookiah
open Go.RowKit
set_option linter.unusedVariables false

theorem or_i64 (m b : Nat) (hb : b < 256) (h : (m : Int) * 256 + b ≤ 9223372036854775807) : bits .or .i64 ((m : Int) * 256) b = ((m * 256 + b : Nat) : Int) := by
  rw [bits_join .i64 63 (by decide) wraps_i64 8 _ _ (by omega) (by omega) (by omega) (by omega) (by omega) (by omega)]
  omega

set_option maxRecDepth 100000 in
theorem cutTag_no (s : ByteArray) (w : World) (hs : s.size ≤ maxLen) (h : s.size < tagSz s.data.toList) :
    Calls Try.prog 55 #[.string s] w fun e w' => e = .returned (.tuple #[.int .i64 0, .string ⟨#[]⟩, .bool false]) ∧ w' = w := by
  have n1 := fun w => tagSize_any s w hs
  have h3 := (tagSz_le s.data.toList).2
  unfold maxLen at hs
  generalize tagSz s.data.toList = k at *
  have N1 := hide n1
  clear n1
  go_enter Try.func55, Try.ntmps55
  go_wp2_with fail
  refine (unhide N1 _).mono ?_
  rintro e w1 ⟨rfl, rfl⟩
  go_wp2
  go_ret3
  exact ⟨rfl, rfl⟩

theorem valN_take3 (s : ByteArray) (k : Nat) (hk : k ≤ 3) : valN (s.data.toList.take k) < 16777216 := by
  have h1 : valN (s.data.toList.take k) < 256 ^ (s.data.toList.take k).length := valN_lt _
  have h2 : 256 ^ (s.data.toList.take k).length ≤ 256 ^ 3 := Nat.pow_le_pow_right (by omega) (by have := List.length_take_le k s.data.toList; omega)
  omega

set_option maxRecDepth 100000 in
set_option maxHeartbeats 1000000 in
theorem cutTag_yes (s : ByteArray) (w : World) (hs : s.size ≤ maxLen) (h : tagSz s.data.toList ≤ s.size) :
    Calls Try.prog 55 #[.string s] w fun e w' => e = .returned (.tuple #[.int .i64 (valN (s.data.toList.take (tagSz s.data.toList))), .string (s.extract (tagSz s.data.toList) s.size), .bool (validB (valN (s.data.toList.take (tagSz s.data.toList))))]) ∧ ∃ q, w' = w.drewN q := by
  have n1 := fun w => tagSize_any s w hs
  have h3 := (tagSz_le s.data.toList).2
  unfold maxLen at hs
  generalize tagSz s.data.toList = k at *
  have N1 := hide n1
  clear n1
  go_enter Try.func55, Try.ntmps55
  go_wp2_with fail
  refine (unhide N1 _).mono ?_
  rintro e w1 ⟨rfl, rfl⟩
  go_wp2
  go_loop [2, 14] (fun n i => ∃ j : Nat, j ≤ k ∧ i = .int .i64 j ∧ n = .int .i64 (valN (s.data.toList.take j))) (fun _ i => k - (intOf i).toNat)
  case atStart => exact ⟨0, Nat.zero_le _, rfl, rfl⟩
  case round =>
    obtain ⟨j, hj, rfl, rfl⟩ := hrel
    by_cases hlt : j < k
    · have hsn := valN_snoc (s.data.toList.take j) (s[j]'(by omega))
      rw [← take_snoc s j (by omega)] at hsn
      have hm6 := valN_take3 s j (by omega)
      have gj := get_byte s j
      have lj := byteAt_lt s j
      rw [show (s[j]'(by omega)).toNat = byteAt s j by have := get_byte s j (by omega); omega] at hsn
      generalize byteAt s j = y at *
      generalize valN (s.data.toList.take j) = m at *
      have o1 := or_i64 m y lj (by omega)
      have hjs : j < s.size := by omega
      have HS := hide hsn
      clear hsn
      go_wp2
      go_round
      case rel => exact ⟨j + 1, by omega, by go_num, by rw [unhide HS]; go_num⟩
      case measure => simp [intOf]; omega
    · have hjk : j = k := by omega
      subst hjk
      have hm6 := valN_take3 s j (by omega)
      have e4 : (j : Int) ≤ (s.size : Int) := by omega
      have n2 := fun w => valid_any (valN (s.data.toList.take j)) w (by omega)
      obtain ⟨m, hm⟩ : ∃ m, m = valN (s.data.toList.take j) := ⟨_, rfl⟩
      rw [← hm] at hm6 n2 ⊢
      obtain ⟨v, hv⟩ : ∃ v, v = validB (m : Int) := ⟨_, rfl⟩
      rw [← hv] at n2
      have N2 := hide n2; have HM := hide hm; have HV := hide hv
      clear n2 hm hv
      go_wp2_with fail
      go_quiet ((go_at_call 60; exact Calls.quiet_of_same (unhide N2 _)))
      go_wp2
      go_ret3
      exact ⟨by rw [← unhide HM, ← unhide HV]; rfl, _, rfl⟩
end Go.Proofs.Ytamamlpicookiah
