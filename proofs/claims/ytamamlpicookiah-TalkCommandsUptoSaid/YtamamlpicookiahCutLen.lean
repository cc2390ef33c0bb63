/- cutLength of the program: the length at the beginning of a text. -/
import Derived.Test.YtamamlpicookiahCutTag
namespace Go.Proofs.Ytamamlpicookiah
open Go.RowKit
set_option linter.unusedVariables false

/-- a length, and in how many bytes: of z bytes, the first three of them -/
def lenN (z x y t : Nat) : Option (Nat × Nat) :=
  if z = 0 then none else if x < 128 then some (x, 1)
  else if x = 129 ∧ 2 ≤ z then (if 128 ≤ y then some (y, 2) else none)
  else if x = 130 ∧ 3 ≤ z then (if 256 ≤ y * 256 + t then some (y * 256 + t, 3) else none) else none
def lenAt (s : ByteArray) : Option (Nat × Nat) := lenN s.size (byteAt s 0) (byteAt s 1) (byteAt s 2)
theorem lenN_spec {z x y t n k : Nat} (h : lenN z x y t = some (n, k)) : 1 ≤ k ∧ k ≤ z ∧ k ≤ 3 := by
  unfold lenN at h
  repeat' split at h
  all_goals first | (cases h; omega) | cases h
theorem lenAt_lt {s : ByteArray} {n k : Nat} (h : lenAt s = some (n, k)) : n < 65536 ∧ 1 ≤ k ∧ k ≤ s.size ∧ k ≤ 3 := by
  have h1 := byteAt_lt s 0
  have h2 := byteAt_lt s 1
  have h3 := byteAt_lt s 2
  have h4 := lenN_spec h
  refine ⟨?_, h4⟩
  unfold lenAt lenN at h
  repeat' split at h
  all_goals first | (cases h; omega) | cases h

def lenRet (r : Option (Nat × Nat)) (s : ByteArray) (e : Ending) : Prop :=
  match r with
  | some (n, k) => e = .returned (.tuple #[.int .i64 n, .string (s.extract k s.size), .bool true])
  | none => ∃ (m : Nat) (r : ByteArray), m < 65536 ∧ e = .returned (.tuple #[.int .i64 m, .string r, .bool false])

theorem len_ret {s : ByteArray} {n k : Nat} {a : Int} (h : a = (n : Int)) : Ending.returned (.tuple #[.int .i64 a, .string (s.extract k s.size), .bool true]) = .returned (.tuple #[.int .i64 n, .string (s.extract k s.size), .bool true]) := by rw [h]
theorem len_not {r : ByteArray} {m : Nat} {a : Int} (h : a = (m : Int)) : Ending.returned (.tuple #[.int .i64 a, .string r, .bool false]) = .returned (.tuple #[.int .i64 m, .string r, .bool false]) := by rw [h]

set_option maxRecDepth 100000 in
set_option maxHeartbeats 2000000 in
theorem cutLength_any (s : ByteArray) (w : World) (hs : s.size ≤ maxLen) :
    Calls Try.prog 56 #[.string s] w fun e w' => lenRet (lenAt s) s e ∧ ∃ q, w' = w.drewN q := by
  unfold maxLen at hs
  have b0 := get_byte s 0
  have b1 := get_byte s 1
  have b2 := get_byte s 2
  have l0 := byteAt_lt s 0
  have l1 := byteAt_lt s 1
  have l2 := byteAt_lt s 2
  have hv : lenAt s = lenN s.size (byteAt s 0) (byteAt s 1) (byteAt s 2) := rfl
  generalize byteAt s 0 = x at *
  generalize byteAt s 1 = y at *
  generalize byteAt s 2 = t at *
  generalize lenAt s = R at *
  unfold lenN at hv
  by_cases hz : s.size = 0
  · rw [if_pos hz] at hv
    have he : s.toList.isEmpty = true := by rw [Lib.toList_data]; have : s.data.toList.length = 0 := by simpa using hz
                                            rw [List.length_eq_zero_iff.1 this]; rfl
    have HV := hide hv
    clear hv hz b0 b1 b2
    go_enter Try.func56, Try.ntmps56
    go_wp2
    go_ret3
    exact ⟨by rw [unhide HV]; exact ⟨0, _, by omega, rfl⟩, 0, rfl⟩
  · rw [if_neg hz] at hv
    have he : s.toList.isEmpty = false := by
      rw [Lib.toList_data]
      cases hq : s.data.toList with
      | nil => have : s.data.toList.length = s.size := by simp
               rw [hq] at this; simp at this; omega
      | cons a b => rfl
    have hp : 0 < s.size := by omega
    clear hz
    by_cases c0 : x < 128
    · rw [if_pos c0] at hv
      have HV := hide hv
      clear hv b1 b2
      have t0 : decide ((x : Int) < 128) = true := by simp; omega
      go_enter Try.func56, Try.ntmps56
      go_wp2_with fail
      repeat (go_quiet (fail); go_wp2_with fail)
      go_ret3
      exact ⟨by rw [unhide HV]; first | rfl | exact len_ret (by omega), by first | exact ⟨0, rfl⟩ | exact ⟨_, rfl⟩ | exact ⟨_, World.drewN_drewN _ _ _⟩⟩
    · rw [if_neg c0] at hv
      have t0 : decide ((x : Int) < 128) = false := by simp; omega
      clear c0
      by_cases c1 : x = 129
      · subst c1
        by_cases c2 : 2 ≤ s.size
        · rw [if_pos ⟨rfl, c2⟩] at hv
          by_cases c3 : 128 ≤ y
          · rw [if_pos c3] at hv
            have t3 : decide (128 ≤ (y : Int)) = true := by simp; omega
            have HV := hide hv
            clear hv b2
            go_enter Try.func56, Try.ntmps56
            go_wp2_with fail
            repeat (go_quiet (fail); go_wp2_with fail)
            go_ret3
            exact ⟨by rw [unhide HV]; first | rfl | exact len_ret (by omega), by first | exact ⟨0, rfl⟩ | exact ⟨_, rfl⟩ | exact ⟨_, World.drewN_drewN _ _ _⟩⟩
          · rw [if_neg c3] at hv
            have t3 : decide (128 ≤ (y : Int)) = false := by simp; omega
            have HV := hide hv
            clear hv b2
            go_enter Try.func56, Try.ntmps56
            go_wp2_with fail
            repeat (go_quiet (fail); go_wp2_with fail)
            go_ret3
            exact ⟨by rw [unhide HV]; exact ⟨y, _, by omega, by first | rfl | exact len_not (by omega)⟩, by first | exact ⟨0, rfl⟩ | exact ⟨_, rfl⟩ | exact ⟨_, World.drewN_drewN _ _ _⟩⟩
        · rw [if_neg (by omega), if_neg (by omega)] at hv
          have HV := hide hv
          clear hv b1 b2
          go_enter Try.func56, Try.ntmps56
          go_wp2_with fail
          repeat (go_quiet (fail); go_wp2_with fail)
          go_ret3
          exact ⟨by rw [unhide HV]; exact ⟨0, _, by omega, by first | rfl | exact len_not (by omega)⟩, by first | exact ⟨0, rfl⟩ | exact ⟨_, rfl⟩ | exact ⟨_, World.drewN_drewN _ _ _⟩⟩
      · have t1 : ((x : Int) == 129) = false := by simp; omega
        rw [if_neg (by omega)] at hv
        clear c1
        by_cases c4 : x = 130
        · subst c4
          by_cases c2 : 3 ≤ s.size
          · have o1 := or_i64 y t l2 (by omega)
            rw [if_pos ⟨rfl, c2⟩] at hv
            by_cases c3 : 256 ≤ y * 256 + t
            · rw [if_pos c3] at hv
              have t3 : decide (256 ≤ (y : Int) * 256 + (t : Int)) = true := by simp; omega
              have HV := hide hv
              clear hv
              go_enter Try.func56, Try.ntmps56
              go_wp2_with fail
              repeat (go_quiet (fail); go_wp2_with fail)
              go_ret3
              exact ⟨by rw [unhide HV]; first | rfl | exact len_ret (by omega), by first | exact ⟨0, rfl⟩ | exact ⟨_, rfl⟩ | exact ⟨_, World.drewN_drewN _ _ _⟩⟩
            · rw [if_neg c3] at hv
              have t3 : decide (256 ≤ (y : Int) * 256 + (t : Int)) = false := by simp; omega
              have HV := hide hv
              clear hv
              go_enter Try.func56, Try.ntmps56
              go_wp2_with fail
              repeat (go_quiet (fail); go_wp2_with fail)
              go_ret3
              exact ⟨by rw [unhide HV]; exact ⟨(y * 256 + t), _, by omega, by first | rfl | exact len_not (by omega)⟩, by first | exact ⟨0, rfl⟩ | exact ⟨_, rfl⟩ | exact ⟨_, World.drewN_drewN _ _ _⟩⟩
          · rw [if_neg (by omega)] at hv
            have HV := hide hv
            clear hv b1 b2
            go_enter Try.func56, Try.ntmps56
            go_wp2_with fail
            repeat (go_quiet (fail); go_wp2_with fail)
            go_ret3
            exact ⟨by rw [unhide HV]; exact ⟨0, _, by omega, by first | rfl | exact len_not (by omega)⟩, by first | exact ⟨0, rfl⟩ | exact ⟨_, rfl⟩ | exact ⟨_, World.drewN_drewN _ _ _⟩⟩
        · have t2 : ((x : Int) == 130) = false := by simp; omega
          rw [if_neg (by omega)] at hv
          have HV := hide hv
          clear hv b1 b2 c4
          go_enter Try.func56, Try.ntmps56
          go_wp2_with fail
          repeat (go_quiet (fail); go_wp2_with fail)
          go_ret3
          exact ⟨by rw [unhide HV]; exact ⟨0, _, by omega, by first | rfl | exact len_not (by omega)⟩, by first | exact ⟨0, rfl⟩ | exact ⟨_, rfl⟩ | exact ⟨_, World.drewN_drewN _ _ _⟩⟩
end Go.Proofs.Ytamamlpicookiah
