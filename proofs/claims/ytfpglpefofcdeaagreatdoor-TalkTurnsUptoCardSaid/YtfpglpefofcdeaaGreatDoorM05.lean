/- tagSize of the program. -/
import Derived.Test.YtfpglpefofcdeaaGreatDoorM04
import Derived.Test.YtfpglpefofcdeaaGreatDoorM02
import Derived.Test.YtfpglpefofcdeaaGreatDoorM00
namespace Go.Proofs.YtfpglpefofcdeaaGreatDoor
open Go.RowKit
set_option linter.unusedVariables false

/-- how many bytes the tag at the beginning has -/
def tagSz (l : List UInt8) : Nat :=
  match l with
  | [] => 1
  | [a] => if a.toNat % 32 = 31 then 2 else 1
  | a :: b :: _ => if a.toNat % 32 = 31 then (if b.toNat < 128 then 2 else 3) else 1
theorem tagSz_le (l : List UInt8) : 1 ≤ tagSz l ∧ tagSz l ≤ 3 := by
  unfold tagSz
  split
  · omega
  · split <;> omega
  · split
    · split <;> omega
    · omega

set_option maxRecDepth 100000 in
set_option maxHeartbeats 1000000 in
theorem tagSize_any (s : ByteArray) (w : World) (hs : s.size ≤ maxLen) :
    Calls Tryz.prog 132 #[.string s] w fun e w' => e = .returned (.int .i64 (tagSz s.data.toList)) ∧ w' = w := by
  unfold maxLen at hs
  match hl : s.data.toList with
  | [] =>
    have hz : s.size = 0 := by have : s.data.toList.length = 0 := by rw [hl]; rfl
                               simpa using this
    have he : s.toList.isEmpty = true := by rw [Lib.toList_data, hl]; rfl
    clear hl
    go_enter Tryz.func132, Tryz.ntmps132
    go_wp2
    go_ret
    exact ⟨rfl, rfl⟩
  | [a] =>
    have hz : s.size = 1 := by have : s.data.toList.length = 1 := by rw [hl]; rfl
                               simpa using this
    have he : s.toList.isEmpty = false := by rw [Lib.toList_data, hl]; rfl
    have g0 := get_byte s 0
    have b0 : byteAt s 0 = a.toNat := by unfold byteAt; rw [hl]; rfl
    rw [b0] at g0
    have la := a.toNat_lt
    have hv : tagSz [a] = if a.toNat % 32 = 31 then 2 else 1 := rfl
    have HV := hide hv
    generalize a.toNat = x at *
    clear hl b0 hv
    have hz1 : 1 ≤ s.size := by omega
    have hz2 : s.size ≤ 1 := by omega
    clear hz
    by_cases hx : x % 32 = 31
    · have t1 : ((x : Int) % 32 == 31) = true := by simp; omega
      have HX := hide hx
      clear hx
      go_enter Tryz.func132, Tryz.ntmps132
      go_wp2_with (go_at_call 130; refine (goesOn_any (x : Int) _ (by omega) (by omega)).mono ?_; rintro e w1 ⟨rfl, rfl⟩)
      go_ret
      exact ⟨by rw [unhide HV, if_pos (unhide HX)]; rfl, rfl⟩
    · have t1 : ((x : Int) % 32 == 31) = false := by simp; omega
      have HX := hide hx
      clear hx
      go_enter Tryz.func132, Tryz.ntmps132
      go_wp2_with (go_at_call 130; refine (goesOn_any (x : Int) _ (by omega) (by omega)).mono ?_; rintro e w1 ⟨rfl, rfl⟩)
      go_ret
      exact ⟨by rw [unhide HV, if_neg (unhide HX)]; rfl, rfl⟩
  | a :: b :: r =>
    have hz1 : 2 ≤ s.size := by have : 2 ≤ s.data.toList.length := by rw [hl]; simp
                                simpa using this
    have he : s.toList.isEmpty = false := by rw [Lib.toList_data, hl]; rfl
    have g0 := get_byte s 0
    have g1 := get_byte s 1
    have b0 : byteAt s 0 = a.toNat := by unfold byteAt; rw [hl]; rfl
    have b1 : byteAt s 1 = b.toNat := by unfold byteAt; rw [hl]; rfl
    rw [b0] at g0
    rw [b1] at g1
    have la := a.toNat_lt
    have lb := b.toNat_lt
    have hv : tagSz (a :: b :: r) = if a.toNat % 32 = 31 then (if b.toNat < 128 then 2 else 3) else 1 := rfl
    have HV := hide hv
    generalize a.toNat = x at *
    generalize b.toNat = y at *
    clear hl b0 b1 hv
    by_cases hx : x % 32 = 31
    · have t1 : ((x : Int) % 32 == 31) = true := by simp; omega
      have HX := hide hx
      clear hx
      by_cases hy : y < 128
      · have HY := hide hy
        go_enter Tryz.func132, Tryz.ntmps132
        go_wp2_with (go_at_call 130; refine (goesOn_any (x : Int) _ (by omega) (by omega)).mono ?_; rintro e w1 ⟨rfl, rfl⟩)
        go_ret
        exact ⟨by rw [unhide HV, if_pos (unhide HX), if_pos (unhide HY)]; rfl, rfl⟩
      · have HY := hide hy
        go_enter Tryz.func132, Tryz.ntmps132
        go_wp2_with (go_at_call 130; refine (goesOn_any (x : Int) _ (by omega) (by omega)).mono ?_; rintro e w1 ⟨rfl, rfl⟩)
        go_ret
        exact ⟨by rw [unhide HV, if_pos (unhide HX), if_neg (unhide HY)]; rfl, rfl⟩
    · have t1 : ((x : Int) % 32 == 31) = false := by simp; omega
      have HX := hide hx
      clear hx
      go_enter Tryz.func132, Tryz.ntmps132
      go_wp2_with (go_at_call 130; refine (goesOn_any (x : Int) _ (by omega) (by omega)).mono ?_; rintro e w1 ⟨rfl, rfl⟩)
      go_ret
      exact ⟨by rw [unhide HV, if_neg (unhide HX)]; rfl, rfl⟩
end Go.Proofs.YtfpglpefofcdeaaGreatDoor
namespace Go.Proofs.YtfpglpefofcdeaaGreatDoor
open Go.RowKit
set_option linter.unusedVariables false

theorem or_i64 (m b : Nat) (hb : b < 256) (h : (m : Int) * 256 + b ≤ 9223372036854775807) : bits .or .i64 ((m : Int) * 256) b = ((m * 256 + b : Nat) : Int) := by
  rw [bits_join .i64 63 (by decide) wraps_i64 8 _ _ (by omega) (by omega) (by omega) (by omega) (by omega) (by omega)]
  omega

set_option maxRecDepth 100000 in
theorem cutTag_no (s : ByteArray) (w : World) (hs : s.size ≤ maxLen) (h : s.size < tagSz s.data.toList) :
    Calls Tryz.prog 120 #[.string s] w fun e w' => e = .returned (.tuple #[.int .i64 0, .string ⟨#[]⟩, .bool false]) ∧ w' = w := by
  have n1 := fun w => tagSize_any s w hs
  have h3 := (tagSz_le s.data.toList).2
  unfold maxLen at hs
  generalize tagSz s.data.toList = k at *
  have N1 := hide n1
  clear n1
  go_enter Tryz.func120, Tryz.ntmps120
  go_wp2_with fail
  refine (unhide N1 _).mono ?_
  rintro e w1 ⟨rfl, rfl⟩
  go_wp2
  go_ret3
  exact ⟨rfl, rfl⟩

theorem valN_take3 (s : ByteArray) (k : Nat) (hk : k ≤ 3) : valN (s.data.toList.take k) < 16777216 := by
  have h1 : valN (s.data.toList.take k) < 256 ^ (s.data.toList.take k).length := valN_lt _
  have h2 : 256 ^ (s.data.toList.take k).length ≤ 256 ^ 3 := Nat.pow_le_pow_right (by omega) (by have := List.length_take_le k s.data.toList; omega)
  omega

set_option maxRecDepth 100000 in
set_option maxHeartbeats 1000000 in
theorem cutTag_yes (s : ByteArray) (w : World) (hs : s.size ≤ maxLen) (h : tagSz s.data.toList ≤ s.size) :
    Calls Tryz.prog 120 #[.string s] w fun e w' => e = .returned (.tuple #[.int .i64 (valN (s.data.toList.take (tagSz s.data.toList))), .string (s.extract (tagSz s.data.toList) s.size), .bool (validB (valN (s.data.toList.take (tagSz s.data.toList))))]) ∧ ∃ q, w' = w.drewN q := by
  have n1 := fun w => tagSize_any s w hs
  have h3 := (tagSz_le s.data.toList).2
  unfold maxLen at hs
  generalize tagSz s.data.toList = k at *
  have N1 := hide n1
  clear n1
  go_enter Tryz.func120, Tryz.ntmps120
  go_wp2_with fail
  refine (unhide N1 _).mono ?_
  rintro e w1 ⟨rfl, rfl⟩
  go_wp2
  go_loop [2, 14] (fun n i => ∃ j : Nat, j ≤ k ∧ i = .int .i64 j ∧ n = .int .i64 (valN (s.data.toList.take j))) (fun _ i => k - (intOf i).toNat)
  case atStart => exact ⟨0, Nat.zero_le _, rfl, rfl⟩
  case round =>
    obtain ⟨j, hj, rfl, rfl⟩ := hrel
    by_cases hlt : j < k
    · have hsn := valN_snoc (s.data.toList.take j) (s[j]'(by omega))
      rw [← take_snoc s j (by omega)] at hsn
      have hm6 := valN_take3 s j (by omega)
      have gj := get_byte s j
      have lj := byteAt_lt s j
      rw [show (s[j]'(by omega)).toNat = byteAt s j by have := get_byte s j (by omega); omega] at hsn
      generalize byteAt s j = y at *
      generalize valN (s.data.toList.take j) = m at *
      have o1 := or_i64 m y lj (by omega)
      have hjs : j < s.size := by omega
      have HS := hide hsn
      clear hsn
      go_wp2
      go_round
      case rel => exact ⟨j + 1, by omega, by go_num, by rw [unhide HS]; go_num⟩
      case measure => simp [intOf]; omega
    · have hjk : j = k := by omega
      subst hjk
      have hm6 := valN_take3 s j (by omega)
      have e4 : (j : Int) ≤ (s.size : Int) := by omega
      have n2 := fun w => valid_any (valN (s.data.toList.take j)) w (by omega)
      obtain ⟨m, hm⟩ : ∃ m, m = valN (s.data.toList.take j) := ⟨_, rfl⟩
      rw [← hm] at hm6 n2 ⊢
      obtain ⟨v, hv⟩ : ∃ v, v = validB (m : Int) := ⟨_, rfl⟩
      rw [← hv] at n2
      have N2 := hide n2; have HM := hide hm; have HV := hide hv
      clear n2 hm hv
      go_wp2_with fail
      go_quiet ((go_at_call 113; exact Calls.quiet_of_same (unhide N2 _)))
      go_wp2
      go_ret3
      exact ⟨by rw [← unhide HM, ← unhide HV]; rfl, _, rfl⟩
end Go.Proofs.YtfpglpefofcdeaaGreatDoor
namespace Go.Proofs.YtfpglpefofcdeaaGreatDoor
open Go.RowKit
set_option linter.unusedVariables false

/-- a length, and in how many bytes: of z bytes, the first three of them -/
def lenN (z x y t : Nat) : Option (Nat × Nat) :=
  if z = 0 then none else if x < 128 then some (x, 1)
  else if x = 129 ∧ 2 ≤ z then (if 128 ≤ y then some (y, 2) else none)
  else if x = 130 ∧ 3 ≤ z then (if 256 ≤ y * 256 + t then some (y * 256 + t, 3) else none) else none
def lenAt (s : ByteArray) : Option (Nat × Nat) := lenN s.size (byteAt s 0) (byteAt s 1) (byteAt s 2)
theorem lenN_spec {z x y t n k : Nat} (h : lenN z x y t = some (n, k)) : 1 ≤ k ∧ k ≤ z ∧ k ≤ 3 := by
  unfold lenN at h
  repeat' split at h
  all_goals first | (cases h; omega) | cases h
theorem lenAt_lt {s : ByteArray} {n k : Nat} (h : lenAt s = some (n, k)) : n < 65536 ∧ 1 ≤ k ∧ k ≤ s.size ∧ k ≤ 3 := by
  have h1 := byteAt_lt s 0
  have h2 := byteAt_lt s 1
  have h3 := byteAt_lt s 2
  have h4 := lenN_spec h
  refine ⟨?_, h4⟩
  unfold lenAt lenN at h
  repeat' split at h
  all_goals first | (cases h; omega) | cases h

def lenRet (r : Option (Nat × Nat)) (s : ByteArray) (e : Ending) : Prop :=
  match r with
  | some (n, k) => e = .returned (.tuple #[.int .i64 n, .string (s.extract k s.size), .bool true])
  | none => ∃ (m : Nat) (r : ByteArray), m < 65536 ∧ e = .returned (.tuple #[.int .i64 m, .string r, .bool false])

theorem len_ret {s : ByteArray} {n k : Nat} {a : Int} (h : a = (n : Int)) : Ending.returned (.tuple #[.int .i64 a, .string (s.extract k s.size), .bool true]) = .returned (.tuple #[.int .i64 n, .string (s.extract k s.size), .bool true]) := by rw [h]
theorem len_not {r : ByteArray} {m : Nat} {a : Int} (h : a = (m : Int)) : Ending.returned (.tuple #[.int .i64 a, .string r, .bool false]) = .returned (.tuple #[.int .i64 m, .string r, .bool false]) := by rw [h]

set_option maxRecDepth 100000 in
set_option maxHeartbeats 2000000 in
theorem cutLength_any (s : ByteArray) (w : World) (hs : s.size ≤ maxLen) :
    Calls Tryz.prog 121 #[.string s] w fun e w' => lenRet (lenAt s) s e ∧ ∃ q, w' = w.drewN q := by
  unfold maxLen at hs
  have b0 := get_byte s 0
  have b1 := get_byte s 1
  have b2 := get_byte s 2
  have l0 := byteAt_lt s 0
  have l1 := byteAt_lt s 1
  have l2 := byteAt_lt s 2
  have hv : lenAt s = lenN s.size (byteAt s 0) (byteAt s 1) (byteAt s 2) := rfl
  generalize byteAt s 0 = x at *
  generalize byteAt s 1 = y at *
  generalize byteAt s 2 = t at *
  generalize lenAt s = R at *
  unfold lenN at hv
  by_cases hz : s.size = 0
  · rw [if_pos hz] at hv
    have he : s.toList.isEmpty = true := by rw [Lib.toList_data]; have : s.data.toList.length = 0 := by simpa using hz
                                            rw [List.length_eq_zero_iff.1 this]; rfl
    have HV := hide hv
    clear hv hz b0 b1 b2
    go_enter Tryz.func121, Tryz.ntmps121
    go_wp2
    go_ret3
    exact ⟨by rw [unhide HV]; exact ⟨0, _, by omega, rfl⟩, 0, rfl⟩
  · rw [if_neg hz] at hv
    have he : s.toList.isEmpty = false := by
      rw [Lib.toList_data]
      cases hq : s.data.toList with
      | nil => have : s.data.toList.length = s.size := by simp
               rw [hq] at this; simp at this; omega
      | cons a b => rfl
    have hp : 0 < s.size := by omega
    clear hz
    by_cases c0 : x < 128
    · rw [if_pos c0] at hv
      have HV := hide hv
      clear hv b1 b2
      have t0 : decide ((x : Int) < 128) = true := by simp; omega
      go_enter Tryz.func121, Tryz.ntmps121
      go_wp2_with fail
      repeat (go_quiet (fail); go_wp2_with fail)
      go_ret3
      exact ⟨by rw [unhide HV]; first | rfl | exact len_ret (by omega), by first | exact ⟨0, rfl⟩ | exact ⟨_, rfl⟩ | exact ⟨_, World.drewN_drewN _ _ _⟩⟩
    · rw [if_neg c0] at hv
      have t0 : decide ((x : Int) < 128) = false := by simp; omega
      clear c0
      by_cases c1 : x = 129
      · subst c1
        by_cases c2 : 2 ≤ s.size
        · rw [if_pos ⟨rfl, c2⟩] at hv
          by_cases c3 : 128 ≤ y
          · rw [if_pos c3] at hv
            have t3 : decide (128 ≤ (y : Int)) = true := by simp; omega
            have HV := hide hv
            clear hv b2
            go_enter Tryz.func121, Tryz.ntmps121
            go_wp2_with fail
            repeat (go_quiet (fail); go_wp2_with fail)
            go_ret3
            exact ⟨by rw [unhide HV]; first | rfl | exact len_ret (by omega), by first | exact ⟨0, rfl⟩ | exact ⟨_, rfl⟩ | exact ⟨_, World.drewN_drewN _ _ _⟩⟩
          · rw [if_neg c3] at hv
            have t3 : decide (128 ≤ (y : Int)) = false := by simp; omega
            have HV := hide hv
            clear hv b2
            go_enter Tryz.func121, Tryz.ntmps121
            go_wp2_with fail
            repeat (go_quiet (fail); go_wp2_with fail)
            go_ret3
            exact ⟨by rw [unhide HV]; exact ⟨y, _, by omega, by first | rfl | exact len_not (by omega)⟩, by first | exact ⟨0, rfl⟩ | exact ⟨_, rfl⟩ | exact ⟨_, World.drewN_drewN _ _ _⟩⟩
        · rw [if_neg (by omega), if_neg (by omega)] at hv
          have HV := hide hv
          clear hv b1 b2
          go_enter Tryz.func121, Tryz.ntmps121
          go_wp2_with fail
          repeat (go_quiet (fail); go_wp2_with fail)
          go_ret3
          exact ⟨by rw [unhide HV]; exact ⟨0, _, by omega, by first | rfl | exact len_not (by omega)⟩, by first | exact ⟨0, rfl⟩ | exact ⟨_, rfl⟩ | exact ⟨_, World.drewN_drewN _ _ _⟩⟩
      · have t1 : ((x : Int) == 129) = false := by simp; omega
        rw [if_neg (by omega)] at hv
        clear c1
        by_cases c4 : x = 130
        · subst c4
          by_cases c2 : 3 ≤ s.size
          · have o1 := or_i64 y t l2 (by omega)
            rw [if_pos ⟨rfl, c2⟩] at hv
            by_cases c3 : 256 ≤ y * 256 + t
            · rw [if_pos c3] at hv
              have t3 : decide (256 ≤ (y : Int) * 256 + (t : Int)) = true := by simp; omega
              have HV := hide hv
              clear hv
              go_enter Tryz.func121, Tryz.ntmps121
              go_wp2_with fail
              repeat (go_quiet (fail); go_wp2_with fail)
              go_ret3
              exact ⟨by rw [unhide HV]; first | rfl | exact len_ret (by omega), by first | exact ⟨0, rfl⟩ | exact ⟨_, rfl⟩ | exact ⟨_, World.drewN_drewN _ _ _⟩⟩
            · rw [if_neg c3] at hv
              have t3 : decide (256 ≤ (y : Int) * 256 + (t : Int)) = false := by simp; omega
              have HV := hide hv
              clear hv
              go_enter Tryz.func121, Tryz.ntmps121
              go_wp2_with fail
              repeat (go_quiet (fail); go_wp2_with fail)
              go_ret3
              exact ⟨by rw [unhide HV]; exact ⟨(y * 256 + t), _, by omega, by first | rfl | exact len_not (by omega)⟩, by first | exact ⟨0, rfl⟩ | exact ⟨_, rfl⟩ | exact ⟨_, World.drewN_drewN _ _ _⟩⟩
          · rw [if_neg (by omega)] at hv
            have HV := hide hv
            clear hv b1 b2
            go_enter Tryz.func121, Tryz.ntmps121
            go_wp2_with fail
            repeat (go_quiet (fail); go_wp2_with fail)
            go_ret3
            exact ⟨by rw [unhide HV]; exact ⟨0, _, by omega, by first | rfl | exact len_not (by omega)⟩, by first | exact ⟨0, rfl⟩ | exact ⟨_, rfl⟩ | exact ⟨_, World.drewN_drewN _ _ _⟩⟩
        · have t2 : ((x : Int) == 130) = false := by simp; omega
          rw [if_neg (by omega)] at hv
          have HV := hide hv
          clear hv b1 b2 c4
          go_enter Tryz.func121, Tryz.ntmps121
          go_wp2_with fail
          repeat (go_quiet (fail); go_wp2_with fail)
          go_ret3
          exact ⟨by rw [unhide HV]; exact ⟨0, _, by omega, by first | rfl | exact len_not (by omega)⟩, by first | exact ⟨0, rfl⟩ | exact ⟨_, rfl⟩ | exact ⟨_, World.drewN_drewN _ _ _⟩⟩
end Go.Proofs.YtfpglpefofcdeaaGreatDoor
namespace Go.Proofs.YtfpglpefofcdeaaGreatDoor
end Go.Proofs.YtfpglpefofcdeaaGreatDoor
