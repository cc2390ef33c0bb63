/- Which numbers are tags (B1): Valid of the program and of the reference, one function of the number. -/
import Derived.Test.YtolicaaifhfhcaaM00
namespace Go.Proofs.Ytolicaaifhfhcaa
open Go.RowKit
set_option linter.unusedVariables false

/-- is it a tag? -/
def validB (t : Int) : Bool :=
  if t < 1 ∨ 16777216 ≤ t then false
  else if t < 256 then !(t % 32 == 31)
  else if t < 65536 then (t / 256 % 32 == 31) && (decide (31 ≤ t % 256) && decide (t % 256 ≤ 127))
  else (t / 65536 % 32 == 31) && (decide (129 ≤ t / 256 % 256) && decide (t % 256 ≤ 127))

theorem and_31 (x : Int) (h₀ : 0 ≤ x) (h₁ : x ≤ 9223372036854775807) : bits .and .i64 x 31 = x % 32 := bits_mask .i64 63 (by decide) wraps_i64 5 (by decide) x h₀ (by omega)
theorem and_255 (x : Int) (h₀ : 0 ≤ x) (h₁ : x ≤ 9223372036854775807) : bits .and .i64 x 255 = x % 256 := bits_mask .i64 63 (by decide) wraps_i64 8 (by decide) x h₀ (by omega)

theorem get_nums (xs : List Int) (i : Nat) (v : Int) (hv : xs[i]? = some v) (h0 : 0 ≤ v) (h1 : v < 256) (h : i < (strOfNums xs).size) : (((strOfNums xs)[i]'h).toNat : Int) = v := by
  have e : (strOfNums xs)[i]'h = ((xs.map fun n => UInt8.ofNat n.toNat).toArray)[i]'(by simpa [strOfNums_size] using h) := rfl
  have hx : i < xs.length := by rw [strOfNums_size] at h; exact h
  rw [e]
  have ev : xs[i] = v := by rw [List.getElem?_eq_getElem hx] at hv; exact Option.some.inj hv
  simp only [List.getElem_toArray, List.getElem_map, ev, UInt8.toNat_ofNat']
  omega

theorem goesOn_any (x : Int) (w : World) (h₀ : 0 ≤ x) (h₁ : x ≤ 9223372036854775807) :
    Calls Try.prog 71 #[.int .i64 x] w fun e w' => e = .returned (.bool (x % 32 == 31)) ∧ w' = w := by
  have e := and_31 x h₀ h₁
  go_enter Try.func71, Try.ntmps71
  go_wp2
  go_ret
  exact ⟨rfl, rfl⟩

set_option maxHeartbeats 1000000 in
theorem valid_any (t : Int) (w : World) (h₁ : t ≤ 9223372036854775807) :
    Calls Try.prog 53 #[.int .i64 t] w fun e w' => e = .returned (.bool (validB t)) ∧ w' = w := by
  by_cases c0 : t < 1
  · have hv : validB t = false := by unfold validB; rw [if_pos (.inl c0)]
    rw [hv]
    go_enter Try.func53, Try.ntmps53
    go_wp2
    go_ret
    exact ⟨rfl, rfl⟩
  · by_cases c1 : 16777216 ≤ t
    · have hv : validB t = false := by unfold validB; rw [if_pos (.inr c1)]
      rw [hv]
      go_enter Try.func53, Try.ntmps53
      go_wp2
      go_ret
      exact ⟨rfl, rfl⟩
    · have hn : ¬ (t < 1 ∨ 16777216 ≤ t) := by omega
      have e1 := and_255 t (by omega) h₁
      have e2 := and_255 (t / 256) (by omega) (by omega)
      by_cases c2 : t < 256
      · have hv : validB t = !(t % 32 == 31) := by unfold validB; rw [if_neg hn, if_pos c2]
        rw [hv]
        clear hn
        go_enter Try.func53, Try.ntmps53
        go_wp2_with (go_at_call 71; refine (goesOn_any t _ (by omega) (by omega)).mono ?_; rintro e w1 ⟨rfl, rfl⟩)
        go_ret
        exact ⟨rfl, rfl⟩
      · by_cases c3 : t < 65536
        · have hv : validB t = ((t / 256 % 32 == 31) && (decide (31 ≤ t % 256) && decide (t % 256 ≤ 127))) := by unfold validB; rw [if_neg hn, if_neg c2, if_pos c3]
          rw [hv]
          clear hn
          go_enter Try.func53, Try.ntmps53
          go_wp2_with (go_at_call 71; refine (goesOn_any (t / 256) _ (by omega) (by omega)).mono ?_; rintro e w1 ⟨rfl, rfl⟩)
          · have g1 : t / 256 % 32 = 31 := by assumption
            have g2 : 31 ≤ t % 256 := by assumption
            go_ret
            exact ⟨ret_bool (by simp [g1, g2]), rfl⟩
          · have g1 : t / 256 % 32 = 31 := by assumption
            have g2 : t % 256 < 31 := by assumption
            go_ret
            exact ⟨ret_bool (by simp; omega), rfl⟩
          · have g1 : ¬ t / 256 % 32 = 31 := by assumption
            go_ret
            exact ⟨ret_bool (by simp [g1]), rfl⟩
        · have hv : validB t = ((t / 65536 % 32 == 31) && (decide (129 ≤ t / 256 % 256) && decide (t % 256 ≤ 127))) := by unfold validB; rw [if_neg hn, if_neg c2, if_neg c3]
          rw [hv]
          clear hn
          go_enter Try.func53, Try.ntmps53
          go_wp2_with (go_at_call 71; refine (goesOn_any (t / 65536) _ (by omega) (by omega)).mono ?_; rintro e w1 ⟨rfl, rfl⟩)
          · have g1 : t / 65536 % 32 = 31 := by assumption
            have g2 : 129 ≤ t / 256 % 256 := by assumption
            go_ret
            exact ⟨ret_bool (by simp [g1, g2]), rfl⟩
          · have g1 : t / 65536 % 32 = 31 := by assumption
            have g2 : t / 256 % 256 < 129 := by assumption
            go_ret
            exact ⟨ret_bool (by simp; omega), rfl⟩
          · have g1 : ¬ t / 65536 % 32 = 31 := by assumption
            go_ret
            exact ⟨ret_bool (by simp [g1]), rfl⟩

set_option maxRecDepth 100000 in
set_option maxHeartbeats 1000000 in
theorem rvalid_any (t : Int) (w : World) (h₁ : t ≤ 9223372036854775807) :
    Calls Try.prog 37 #[.int .i64 t] w fun e w' => e = .returned (.bool (validB t)) ∧ Below w.heap.size w w' := by
  go_enter Try.func37, Try.ntmps37
  go_wp2
  go_loopw [3] (fun n wr => ∃ j : Nat, 1 ≤ j ∧ j ≤ 4 ∧ n = .int .i64 j ∧ (1 ≤ t → 1 < j → 256 ^ (j - 1) ≤ t) ∧ Below w.heap.size w wr) (fun n _ => 4 - (intOf n).toNat)
  case atStart => exact ⟨1, by omega, by omega, rfl, by omega, Below.refl _ _⟩
  case round =>
    obtain ⟨j, hj1, hj4, rfl, hge, hnx⟩ := hrel
    by_cases c0 : t < 1
    · by_cases c4 : j ≤ 3
      · clear hge
        go_wp2
        go_roundw
        case rel => exact ⟨j + 1, by omega, by omega, by go_num, by omega, hnx⟩
        case measure => simp [intOf]; omega
      · clear hge
        have hv : validB t = false := by unfold validB; rw [if_pos (.inl c0)]
        have HV := hide hv
        clear hv
        go_wp2
        go_ret
        exact ⟨ret_bool (unhide HV).symm, hnx⟩
    · have hj : j = 1 ∨ j = 2 ∨ j = 3 ∨ j = 4 := by omega
      have hge' := hge (by omega)
      clear hge
      obtain ⟨n, rfl⟩ := Int.eq_ofNat_of_zero_le (show 0 ≤ t by omega)
      have ht : ∀ b : Bool, j ≤ 3 → (b = decide (((256 ^ j : Nat) : Int) ≤ (n : Int))) → decide (wrap64 (2 ^ (8 * j)) ≤ (n : Int)) = b := fun b h3 e => by
        rw [e, wrap_pow j (by omega)]
      rcases hj with hj | hj | hj | hj
      · have hge2 : 1 ≤ n := by omega
        clear hge'
        have hja : 1 ≤ j := by omega
        have hjb : j ≤ 1 := by omega
        by_cases c1 : n < 256
        · have hv : validB (n : Int) = !((n : Int) % 32 == 31) := by unfold validB; rw [if_neg (by omega), if_pos (by omega)]
          have HV := hide hv
          clear hv
          have t1 := ht false (by omega) (by rw [hj]; simp; omega)
          have ix0 := get_nums (bigL n j) 0 (n) (by rw [hj]; simp [bigL]; omega) (by omega) (by omega)
          have HJ := hide hj
          have hsz : j ≤ (strOfNums (bigL n j)).size := by rw [strOfNums_size, bigL_length]; omega
          clear hj ht hj1 hj4
          by_cases c2 : (n : Int) % 32 = 31
          · have t2 : ((n : Int) % 32 != 31) = false := by rw [c2]; rfl
            have HC := hide c2
            clear c2
            go_wp2_with (go_at_call 18; refine (big_any n j _ (by omega) (by omega)).mono ?_; rintro e w1 ⟨rfl, hb1⟩)
            go_ret
            exact ⟨ret_bool (by rw [unhide HV, unhide HC]; rfl), hnx.trans (hb1.mono hnx.size)⟩
          · have t2 : ((n : Int) % 32 != 31) = true := by simpa using c2
            have HC := hide c2
            clear c2
            go_wp2_with (go_at_call 18; refine (big_any n j _ (by omega) (by omega)).mono ?_; rintro e w1 ⟨rfl, hb1⟩)
            go_ret
            refine ⟨ret_bool ?_, hnx.trans (hb1.mono hnx.size)⟩
            rw [unhide HV, Bool.eq_iff_iff]
            have c3 := unhide HC
            simp
            omega
        · have t1 := ht true (by omega) (by rw [hj]; exact (decide_eq_true (by omega)).symm)
          have HJ := hide hj
          clear hj ht hj1 hj4
          go_wp2
          go_roundw
          case rel => exact ⟨j + 1, by omega, by omega, by go_num, fun _ _ => by rw [unhide HJ]; omega, hnx⟩
          case measure => simp [intOf]; omega
      · have hge2 : 256 ≤ n := by have := hge' (by omega); rw [hj] at this; omega
        clear hge'
        have hja : 2 ≤ j := by omega
        have hjb : j ≤ 2 := by omega
        by_cases c1 : n < 65536
        · have hv : validB (n : Int) = (((n : Int) / 256 % 32 == 31) && (decide (31 ≤ (n : Int) % 256) && decide ((n : Int) % 256 ≤ 127))) := by unfold validB; rw [if_neg (by omega), if_neg (by omega), if_pos (by omega)]
          have HV := hide hv
          clear hv
          have t1 := ht false (by omega) (by rw [hj]; simp; omega)
          have ix0 := get_nums (bigL n j) 0 ((n : Int) / 256) (by rw [hj]; simp [bigL]; omega) (by omega) (by omega)
          have ix1 := get_nums (bigL n j) 1 ((n : Int) % 256) (by rw [hj]; simp [bigL]) (by omega) (by omega)
          have HJ := hide hj
          have hsz : j ≤ (strOfNums (bigL n j)).size := by rw [strOfNums_size, bigL_length]; omega
          clear hj ht hj1 hj4
          by_cases c2 : (n : Int) / 256 % 32 = 31
          · have t2 : ((n : Int) / 256 % 32 != 31) = false := by rw [c2]; rfl
            have HC := hide c2
            clear c2
            go_wp2_with (go_at_call 18; refine (big_any n j _ (by omega) (by omega)).mono ?_; rintro e w1 ⟨rfl, hb1⟩)
            · have g2 : 31 ≤ (n : Int) % 256 := by assumption
              go_ret
              exact ⟨ret_bool (by rw [unhide HV, unhide HC]; simp [g2]), hnx.trans (hb1.mono hnx.size)⟩
            · have g2 : (n : Int) % 256 < 31 := by assumption
              go_ret
              exact ⟨ret_bool (by rw [unhide HV, unhide HC]; simp; omega), hnx.trans (hb1.mono hnx.size)⟩
          · have t2 : ((n : Int) / 256 % 32 != 31) = true := by simpa using c2
            have HC := hide c2
            clear c2
            go_wp2_with (go_at_call 18; refine (big_any n j _ (by omega) (by omega)).mono ?_; rintro e w1 ⟨rfl, hb1⟩)
            go_ret
            refine ⟨ret_bool ?_, hnx.trans (hb1.mono hnx.size)⟩
            rw [unhide HV, Bool.eq_iff_iff]
            have c3 := unhide HC
            simp
            omega
        · have t1 := ht true (by omega) (by rw [hj]; exact (decide_eq_true (by omega)).symm)
          have HJ := hide hj
          clear hj ht hj1 hj4
          go_wp2
          go_roundw
          case rel => exact ⟨j + 1, by omega, by omega, by go_num, fun _ _ => by rw [unhide HJ]; omega, hnx⟩
          case measure => simp [intOf]; omega
      · have hge2 : 65536 ≤ n := by have := hge' (by omega); rw [hj] at this; omega
        clear hge'
        have hja : 3 ≤ j := by omega
        have hjb : j ≤ 3 := by omega
        by_cases c1 : n < 16777216
        · have hv : validB (n : Int) = (((n : Int) / 65536 % 32 == 31) && (decide (129 ≤ (n : Int) / 256 % 256) && decide ((n : Int) % 256 ≤ 127))) := by unfold validB; rw [if_neg (by omega), if_neg (by omega), if_neg (by omega)]
          have HV := hide hv
          clear hv
          have t1 := ht false (by omega) (by rw [hj]; simp; omega)
          have ix0 := get_nums (bigL n j) 0 ((n : Int) / 65536) (by rw [hj]; simp [bigL]; omega) (by omega) (by omega)
          have ix1 := get_nums (bigL n j) 1 ((n : Int) / 256 % 256) (by rw [hj]; simp [bigL]) (by omega) (by omega)
          have ix2 := get_nums (bigL n j) 2 ((n : Int) % 256) (by rw [hj]; simp [bigL]) (by omega) (by omega)
          have HJ := hide hj
          have hsz : j ≤ (strOfNums (bigL n j)).size := by rw [strOfNums_size, bigL_length]; omega
          clear hj ht hj1 hj4
          by_cases c2 : (n : Int) / 65536 % 32 = 31
          · have t2 : ((n : Int) / 65536 % 32 != 31) = false := by rw [c2]; rfl
            have HC := hide c2
            clear c2
            go_wp2_with (go_at_call 18; refine (big_any n j _ (by omega) (by omega)).mono ?_; rintro e w1 ⟨rfl, hb1⟩)
            · have g2 : 129 ≤ (n : Int) / 256 % 256 := by assumption
              go_ret
              exact ⟨ret_bool (by rw [unhide HV, unhide HC]; simp [g2]), hnx.trans (hb1.mono hnx.size)⟩
            · have g2 : (n : Int) / 256 % 256 < 129 := by assumption
              go_ret
              exact ⟨ret_bool (by rw [unhide HV, unhide HC]; simp; omega), hnx.trans (hb1.mono hnx.size)⟩
          · have t2 : ((n : Int) / 65536 % 32 != 31) = true := by simpa using c2
            have HC := hide c2
            clear c2
            go_wp2_with (go_at_call 18; refine (big_any n j _ (by omega) (by omega)).mono ?_; rintro e w1 ⟨rfl, hb1⟩)
            go_ret
            refine ⟨ret_bool ?_, hnx.trans (hb1.mono hnx.size)⟩
            rw [unhide HV, Bool.eq_iff_iff]
            have c3 := unhide HC
            simp
            omega
        · have t1 := ht true (by omega) (by rw [hj]; exact (decide_eq_true (by omega)).symm)
          have HJ := hide hj
          clear hj ht hj1 hj4
          go_wp2
          go_roundw
          case rel => exact ⟨j + 1, by omega, by omega, by go_num, fun _ _ => by rw [unhide HJ]; omega, hnx⟩
          case measure => simp [intOf]; omega
      · have hge2 : 16777216 ≤ n := by have := hge' (by omega); rw [hj] at this; omega
        have hja : 4 ≤ j := by omega
        clear hge' ht hj
        have hv : validB (n : Int) = false := by unfold validB; rw [if_pos (by omega)]
        have HV := hide hv
        clear hv
        go_wp2
        go_ret
        exact ⟨ret_bool (unhide HV).symm, hnx⟩
end Go.Proofs.Ytolicaaifhfhcaa
