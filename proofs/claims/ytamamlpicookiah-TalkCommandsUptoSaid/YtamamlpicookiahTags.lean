/- tagSize of the program. -/
import Derived.Test.YtamamlpicookiahTags0
import Derived.Test.YtamamlpicookiahVal
namespace Go.Proofs.Ytamamlpicookiah
open Go.RowKit
set_option linter.unusedVariables false

/-- how many bytes the tag at the beginning has -/
def tagSz (l : List UInt8) : Nat :=
  match l with
  | [] => 1
  | [a] => if a.toNat % 32 = 31 then 2 else 1
  | a :: b :: _ => if a.toNat % 32 = 31 then (if b.toNat < 128 then 2 else 3) else 1
theorem tagSz_le (l : List UInt8) : 1 ≤ tagSz l ∧ tagSz l ≤ 3 := by
  unfold tagSz
  split
  · omega
  · split <;> omega
  · split
    · split <;> omega
    · omega

set_option maxRecDepth 100000 in
set_option maxHeartbeats 1000000 in
theorem tagSize_any (s : ByteArray) (w : World) (hs : s.size ≤ maxLen) :
    Calls Try.prog 62 #[.string s] w fun e w' => e = .returned (.int .i64 (tagSz s.data.toList)) ∧ w' = w := by
  unfold maxLen at hs
  match hl : s.data.toList with
  | [] =>
    have hz : s.size = 0 := by have : s.data.toList.length = 0 := by rw [hl]; rfl
                               simpa using this
    have he : s.toList.isEmpty = true := by rw [Lib.toList_data, hl]; rfl
    clear hl
    go_enter Try.func62, Try.ntmps62
    go_wp2
    go_ret
    exact ⟨rfl, rfl⟩
  | [a] =>
    have hz : s.size = 1 := by have : s.data.toList.length = 1 := by rw [hl]; rfl
                               simpa using this
    have he : s.toList.isEmpty = false := by rw [Lib.toList_data, hl]; rfl
    have g0 := get_byte s 0
    have b0 : byteAt s 0 = a.toNat := by unfold byteAt; rw [hl]; rfl
    rw [b0] at g0
    have la := a.toNat_lt
    have hv : tagSz [a] = if a.toNat % 32 = 31 then 2 else 1 := rfl
    have HV := hide hv
    generalize a.toNat = x at *
    clear hl b0 hv
    have hz1 : 1 ≤ s.size := by omega
    have hz2 : s.size ≤ 1 := by omega
    clear hz
    by_cases hx : x % 32 = 31
    · have t1 : ((x : Int) % 32 == 31) = true := by simp; omega
      have HX := hide hx
      clear hx
      go_enter Try.func62, Try.ntmps62
      go_wp2_with (go_at_call 65; refine (goesOn_any (x : Int) _ (by omega) (by omega)).mono ?_; rintro e w1 ⟨rfl, rfl⟩)
      go_ret
      exact ⟨by rw [unhide HV, if_pos (unhide HX)]; rfl, rfl⟩
    · have t1 : ((x : Int) % 32 == 31) = false := by simp; omega
      have HX := hide hx
      clear hx
      go_enter Try.func62, Try.ntmps62
      go_wp2_with (go_at_call 65; refine (goesOn_any (x : Int) _ (by omega) (by omega)).mono ?_; rintro e w1 ⟨rfl, rfl⟩)
      go_ret
      exact ⟨by rw [unhide HV, if_neg (unhide HX)]; rfl, rfl⟩
  | a :: b :: r =>
    have hz1 : 2 ≤ s.size := by have : 2 ≤ s.data.toList.length := by rw [hl]; simp
                                simpa using this
    have he : s.toList.isEmpty = false := by rw [Lib.toList_data, hl]; rfl
    have g0 := get_byte s 0
    have g1 := get_byte s 1
    have b0 : byteAt s 0 = a.toNat := by unfold byteAt; rw [hl]; rfl
    have b1 : byteAt s 1 = b.toNat := by unfold byteAt; rw [hl]; rfl
    rw [b0] at g0
    rw [b1] at g1
    have la := a.toNat_lt
    have lb := b.toNat_lt
    have hv : tagSz (a :: b :: r) = if a.toNat % 32 = 31 then (if b.toNat < 128 then 2 else 3) else 1 := rfl
    have HV := hide hv
    generalize a.toNat = x at *
    generalize b.toNat = y at *
    clear hl b0 b1 hv
    by_cases hx : x % 32 = 31
    · have t1 : ((x : Int) % 32 == 31) = true := by simp; omega
      have HX := hide hx
      clear hx
      by_cases hy : y < 128
      · have HY := hide hy
        go_enter Try.func62, Try.ntmps62
        go_wp2_with (go_at_call 65; refine (goesOn_any (x : Int) _ (by omega) (by omega)).mono ?_; rintro e w1 ⟨rfl, rfl⟩)
        go_ret
        exact ⟨by rw [unhide HV, if_pos (unhide HX), if_pos (unhide HY)]; rfl, rfl⟩
      · have HY := hide hy
        go_enter Try.func62, Try.ntmps62
        go_wp2_with (go_at_call 65; refine (goesOn_any (x : Int) _ (by omega) (by omega)).mono ?_; rintro e w1 ⟨rfl, rfl⟩)
        go_ret
        exact ⟨by rw [unhide HV, if_pos (unhide HX), if_neg (unhide HY)]; rfl, rfl⟩
    · have t1 : ((x : Int) % 32 == 31) = false := by simp; omega
      have HX := hide hx
      clear hx
      go_enter Try.func62, Try.ntmps62
      go_wp2_with (go_at_call 65; refine (goesOn_any (x : Int) _ (by omega) (by omega)).mono ?_; rintro e w1 ⟨rfl, rfl⟩)
      go_ret
      exact ⟨by rw [unhide HV, if_neg (unhide HX)]; rfl, rfl⟩
end Go.Proofs.Ytamamlpicookiah
