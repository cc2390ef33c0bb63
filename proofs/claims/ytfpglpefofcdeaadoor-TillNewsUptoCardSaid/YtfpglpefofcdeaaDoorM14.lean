/- Which numbers are tags (B1): Valid of the program and of the reference, one function of the number. -/
import Derived.Test.YtfpglpefofcdeaaDoorM06
namespace Go.Proofs.YtfpglpefofcdeaaDoor
open Go.RowKit
set_option linter.unusedVariables false

/-- is it a tag? -/
def validB (t : Int) : Bool :=
  if t < 1 ∨ 16777216 ≤ t then false
  else if t < 256 then !(t % 32 == 31)
  else if t < 65536 then (t / 256 % 32 == 31) && (decide (31 ≤ t % 256) && decide (t % 256 ≤ 127))
  else (t / 65536 % 32 == 31) && (decide (129 ≤ t / 256 % 256) && decide (t % 256 ≤ 127))

theorem and_31 (x : Int) (h₀ : 0 ≤ x) (h₁ : x ≤ 9223372036854775807) : bits .and .i64 x 31 = x % 32 := bits_mask .i64 63 (by decide) wraps_i64 5 (by decide) x h₀ (by omega)
theorem and_255 (x : Int) (h₀ : 0 ≤ x) (h₁ : x ≤ 9223372036854775807) : bits .and .i64 x 255 = x % 256 := bits_mask .i64 63 (by decide) wraps_i64 8 (by decide) x h₀ (by omega)

theorem get_nums (xs : List Int) (i : Nat) (v : Int) (hv : xs[i]? = some v) (h0 : 0 ≤ v) (h1 : v < 256) (h : i < (strOfNums xs).size) : (((strOfNums xs)[i]'h).toNat : Int) = v := by
  have e : (strOfNums xs)[i]'h = ((xs.map fun n => UInt8.ofNat n.toNat).toArray)[i]'(by simpa [strOfNums_size] using h) := rfl
  have hx : i < xs.length := by rw [strOfNums_size] at h; exact h
  rw [e]
  have ev : xs[i] = v := by rw [List.getElem?_eq_getElem hx] at hv; exact Option.some.inj hv
  simp only [List.getElem_toArray, List.getElem_map, ev, UInt8.toNat_ofNat']
  omega

theorem goesOn_any (x : Int) (w : World) (h₀ : 0 ≤ x) (h₁ : x ≤ 9223372036854775807) :
    Calls Tryd.prog 93 #[.int .i64 x] w fun e w' => e = .returned (.bool (x % 32 == 31)) ∧ w' = w := by
  have e := and_31 x h₀ h₁
  go_enter Tryd.func93, Tryd.ntmps93
  go_wp2
  go_ret
  exact ⟨rfl, rfl⟩

set_option maxHeartbeats 1000000 in
theorem valid_any (t : Int) (w : World) (h₁ : t ≤ 9223372036854775807) :
    Calls Tryd.prog 90 #[.int .i64 t] w fun e w' => e = .returned (.bool (validB t)) ∧ w' = w := by
  by_cases c0 : t < 1
  · have hv : validB t = false := by unfold validB; rw [if_pos (.inl c0)]
    rw [hv]
    go_enter Tryd.func90, Tryd.ntmps90
    go_wp2
    go_ret
    exact ⟨rfl, rfl⟩
  · by_cases c1 : 16777216 ≤ t
    · have hv : validB t = false := by unfold validB; rw [if_pos (.inr c1)]
      rw [hv]
      go_enter Tryd.func90, Tryd.ntmps90
      go_wp2
      go_ret
      exact ⟨rfl, rfl⟩
    · have hn : ¬ (t < 1 ∨ 16777216 ≤ t) := by omega
      have e1 := and_255 t (by omega) h₁
      have e2 := and_255 (t / 256) (by omega) (by omega)
      by_cases c2 : t < 256
      · have hv : validB t = !(t % 32 == 31) := by unfold validB; rw [if_neg hn, if_pos c2]
        rw [hv]
        clear hn
        go_enter Tryd.func90, Tryd.ntmps90
        go_wp2_with (go_at_call 93; refine (goesOn_any t _ (by omega) (by omega)).mono ?_; rintro e w1 ⟨rfl, rfl⟩)
        go_ret
        exact ⟨rfl, rfl⟩
      · by_cases c3 : t < 65536
        · have hv : validB t = ((t / 256 % 32 == 31) && (decide (31 ≤ t % 256) && decide (t % 256 ≤ 127))) := by unfold validB; rw [if_neg hn, if_neg c2, if_pos c3]
          rw [hv]
          clear hn
          go_enter Tryd.func90, Tryd.ntmps90
          go_wp2_with (go_at_call 93; refine (goesOn_any (t / 256) _ (by omega) (by omega)).mono ?_; rintro e w1 ⟨rfl, rfl⟩)
          · have g1 : t / 256 % 32 = 31 := by assumption
            have g2 : 31 ≤ t % 256 := by assumption
            go_ret
            exact ⟨ret_bool (by simp [g1, g2]), rfl⟩
          · have g1 : t / 256 % 32 = 31 := by assumption
            have g2 : t % 256 < 31 := by assumption
            go_ret
            exact ⟨ret_bool (by simp; omega), rfl⟩
          · have g1 : ¬ t / 256 % 32 = 31 := by assumption
            go_ret
            exact ⟨ret_bool (by simp [g1]), rfl⟩
        · have hv : validB t = ((t / 65536 % 32 == 31) && (decide (129 ≤ t / 256 % 256) && decide (t % 256 ≤ 127))) := by unfold validB; rw [if_neg hn, if_neg c2, if_neg c3]
          rw [hv]
          clear hn
          go_enter Tryd.func90, Tryd.ntmps90
          go_wp2_with (go_at_call 93; refine (goesOn_any (t / 65536) _ (by omega) (by omega)).mono ?_; rintro e w1 ⟨rfl, rfl⟩)
          · have g1 : t / 65536 % 32 = 31 := by assumption
            have g2 : 129 ≤ t / 256 % 256 := by assumption
            go_ret
            exact ⟨ret_bool (by simp [g1, g2]), rfl⟩
          · have g1 : t / 65536 % 32 = 31 := by assumption
            have g2 : t / 256 % 256 < 129 := by assumption
            go_ret
            exact ⟨ret_bool (by simp; omega), rfl⟩
          · have g1 : ¬ t / 65536 % 32 = 31 := by assumption
            go_ret
            exact ⟨ret_bool (by simp [g1]), rfl⟩

end Go.Proofs.YtfpglpefofcdeaaDoor
