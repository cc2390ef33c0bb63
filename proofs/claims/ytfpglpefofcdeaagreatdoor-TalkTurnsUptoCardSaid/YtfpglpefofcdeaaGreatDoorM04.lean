/- Which numbers are tags (B1): Valid of the program and of the reference, one function of the number. -/
import Derived.Test.YtfpglpefofcdeaaGreatDoorM00
import Derived.Deep.QuietTactic
import Derived.BigQuiet
import Derived.Lib.Strings
namespace Go.Proofs.YtfpglpefofcdeaaGreatDoor
open Go.RowKit
set_option linter.unusedVariables false

/-- is it a tag? -/
def validB (t : Int) : Bool :=
  if t < 1 ∨ 16777216 ≤ t then false
  else if t < 256 then !(t % 32 == 31)
  else if t < 65536 then (t / 256 % 32 == 31) && (decide (31 ≤ t % 256) && decide (t % 256 ≤ 127))
  else (t / 65536 % 32 == 31) && (decide (129 ≤ t / 256 % 256) && decide (t % 256 ≤ 127))

theorem and_31 (x : Int) (h₀ : 0 ≤ x) (h₁ : x ≤ 9223372036854775807) : bits .and .i64 x 31 = x % 32 := bits_mask .i64 63 (by decide) wraps_i64 5 (by decide) x h₀ (by omega)
theorem and_255 (x : Int) (h₀ : 0 ≤ x) (h₁ : x ≤ 9223372036854775807) : bits .and .i64 x 255 = x % 256 := bits_mask .i64 63 (by decide) wraps_i64 8 (by decide) x h₀ (by omega)

theorem get_nums (xs : List Int) (i : Nat) (v : Int) (hv : xs[i]? = some v) (h0 : 0 ≤ v) (h1 : v < 256) (h : i < (strOfNums xs).size) : (((strOfNums xs)[i]'h).toNat : Int) = v := by
  have e : (strOfNums xs)[i]'h = ((xs.map fun n => UInt8.ofNat n.toNat).toArray)[i]'(by simpa [strOfNums_size] using h) := rfl
  have hx : i < xs.length := by rw [strOfNums_size] at h; exact h
  rw [e]
  have ev : xs[i] = v := by rw [List.getElem?_eq_getElem hx] at hv; exact Option.some.inj hv
  simp only [List.getElem_toArray, List.getElem_map, ev, UInt8.toNat_ofNat']
  omega

theorem goesOn_any (x : Int) (w : World) (h₀ : 0 ≤ x) (h₁ : x ≤ 9223372036854775807) :
    Calls Tryz.prog 130 #[.int .i64 x] w fun e w' => e = .returned (.bool (x % 32 == 31)) ∧ w' = w := by
  have e := and_31 x h₀ h₁
  go_enter Tryz.func130, Tryz.ntmps130
  go_wp2
  go_ret
  exact ⟨rfl, rfl⟩

set_option maxHeartbeats 1000000 in
theorem valid_any (t : Int) (w : World) (h₁ : t ≤ 9223372036854775807) :
    Calls Tryz.prog 113 #[.int .i64 t] w fun e w' => e = .returned (.bool (validB t)) ∧ w' = w := by
  by_cases c0 : t < 1
  · have hv : validB t = false := by unfold validB; rw [if_pos (.inl c0)]
    rw [hv]
    go_enter Tryz.func113, Tryz.ntmps113
    go_wp2
    go_ret
    exact ⟨rfl, rfl⟩
  · by_cases c1 : 16777216 ≤ t
    · have hv : validB t = false := by unfold validB; rw [if_pos (.inr c1)]
      rw [hv]
      go_enter Tryz.func113, Tryz.ntmps113
      go_wp2
      go_ret
      exact ⟨rfl, rfl⟩
    · have hn : ¬ (t < 1 ∨ 16777216 ≤ t) := by omega
      have e1 := and_255 t (by omega) h₁
      have e2 := and_255 (t / 256) (by omega) (by omega)
      by_cases c2 : t < 256
      · have hv : validB t = !(t % 32 == 31) := by unfold validB; rw [if_neg hn, if_pos c2]
        rw [hv]
        clear hn
        go_enter Tryz.func113, Tryz.ntmps113
        go_wp2_with (go_at_call 130; refine (goesOn_any t _ (by omega) (by omega)).mono ?_; rintro e w1 ⟨rfl, rfl⟩)
        go_ret
        exact ⟨rfl, rfl⟩
      · by_cases c3 : t < 65536
        · have hv : validB t = ((t / 256 % 32 == 31) && (decide (31 ≤ t % 256) && decide (t % 256 ≤ 127))) := by unfold validB; rw [if_neg hn, if_neg c2, if_pos c3]
          rw [hv]
          clear hn
          go_enter Tryz.func113, Tryz.ntmps113
          go_wp2_with (go_at_call 130; refine (goesOn_any (t / 256) _ (by omega) (by omega)).mono ?_; rintro e w1 ⟨rfl, rfl⟩)
          · have g1 : t / 256 % 32 = 31 := by assumption
            have g2 : 31 ≤ t % 256 := by assumption
            go_ret
            exact ⟨ret_bool (by simp [g1, g2]), rfl⟩
          · have g1 : t / 256 % 32 = 31 := by assumption
            have g2 : t % 256 < 31 := by assumption
            go_ret
            exact ⟨ret_bool (by simp; omega), rfl⟩
          · have g1 : ¬ t / 256 % 32 = 31 := by assumption
            go_ret
            exact ⟨ret_bool (by simp [g1]), rfl⟩
        · have hv : validB t = ((t / 65536 % 32 == 31) && (decide (129 ≤ t / 256 % 256) && decide (t % 256 ≤ 127))) := by unfold validB; rw [if_neg hn, if_neg c2, if_neg c3]
          rw [hv]
          clear hn
          go_enter Tryz.func113, Tryz.ntmps113
          go_wp2_with (go_at_call 130; refine (goesOn_any (t / 65536) _ (by omega) (by omega)).mono ?_; rintro e w1 ⟨rfl, rfl⟩)
          · have g1 : t / 65536 % 32 = 31 := by assumption
            have g2 : 129 ≤ t / 256 % 256 := by assumption
            go_ret
            exact ⟨ret_bool (by simp [g1, g2]), rfl⟩
          · have g1 : t / 65536 % 32 = 31 := by assumption
            have g2 : t / 256 % 256 < 129 := by assumption
            go_ret
            exact ⟨ret_bool (by simp; omega), rfl⟩
          · have g1 : ¬ t / 65536 % 32 = 31 := by assumption
            go_ret
            exact ⟨ret_bool (by simp [g1]), rfl⟩

set_option maxRecDepth 100000 in
set_option maxHeartbeats 1000000 in
theorem rvalid_any (t : Int) (w : World) (h₁ : t ≤ 9223372036854775807) :
    Calls Tryz.prog 78 #[.int .i64 t] w fun e w' => e = .returned (.bool (validB t)) ∧ Below w.heap.size w w' := by
  go_enter Tryz.func78, Tryz.ntmps78
  go_wp2
  go_loopw [3] (fun n wr => ∃ j : Nat, 1 ≤ j ∧ j ≤ 4 ∧ n = .int .i64 j ∧ (1 ≤ t → 1 < j → 256 ^ (j - 1) ≤ t) ∧ Below w.heap.size w wr) (fun n _ => 4 - (intOf n).toNat)
  case atStart => exact ⟨1, by omega, by omega, rfl, by omega, Below.refl _ _⟩
  case round =>
    obtain ⟨j, hj1, hj4, rfl, hge, hnx⟩ := hrel
    by_cases c0 : t < 1
    · by_cases c4 : j ≤ 3
      · clear hge
        go_wp2
        go_roundw
        case rel => exact ⟨j + 1, by omega, by omega, by go_num, by omega, hnx⟩
        case measure => simp [intOf]; omega
      · clear hge
        have hv : validB t = false := by unfold validB; rw [if_pos (.inl c0)]
        have HV := hide hv
        clear hv
        go_wp2
        go_ret
        exact ⟨ret_bool (unhide HV).symm, hnx⟩
    · have hj : j = 1 ∨ j = 2 ∨ j = 3 ∨ j = 4 := by omega
      have hge' := hge (by omega)
      clear hge
      obtain ⟨n, rfl⟩ := Int.eq_ofNat_of_zero_le (show 0 ≤ t by omega)
      have ht : ∀ b : Bool, j ≤ 3 → (b = decide (((256 ^ j : Nat) : Int) ≤ (n : Int))) → decide (wrap64 (2 ^ (8 * j)) ≤ (n : Int)) = b := fun b h3 e => by
        rw [e, wrap_pow j (by omega)]
      rcases hj with hj | hj | hj | hj
      · have hge2 : 1 ≤ n := by omega
        clear hge'
        have hja : 1 ≤ j := by omega
        have hjb : j ≤ 1 := by omega
        by_cases c1 : n < 256
        · have hv : validB (n : Int) = !((n : Int) % 32 == 31) := by unfold validB; rw [if_neg (by omega), if_pos (by omega)]
          have HV := hide hv
          clear hv
          have t1 := ht false (by omega) (by rw [hj]; simp; omega)
          have ix0 := get_nums (bigL n j) 0 (n) (by rw [hj]; simp [bigL]; omega) (by omega) (by omega)
          have HJ := hide hj
          have hsz : j ≤ (strOfNums (bigL n j)).size := by rw [strOfNums_size, bigL_length]; omega
          clear hj ht hj1 hj4
          by_cases c2 : (n : Int) % 32 = 31
          · have t2 : ((n : Int) % 32 != 31) = false := by rw [c2]; rfl
            have HC := hide c2
            clear c2
            go_wp2_with (go_at_call 22; refine (big_any n j _ (by omega) (by omega)).mono ?_; rintro e w1 ⟨rfl, hb1⟩)
            go_ret
            exact ⟨ret_bool (by rw [unhide HV, unhide HC]; rfl), hnx.trans (hb1.mono hnx.size)⟩
          · have t2 : ((n : Int) % 32 != 31) = true := by simpa using c2
            have HC := hide c2
            clear c2
            go_wp2_with (go_at_call 22; refine (big_any n j _ (by omega) (by omega)).mono ?_; rintro e w1 ⟨rfl, hb1⟩)
            go_ret
            refine ⟨ret_bool ?_, hnx.trans (hb1.mono hnx.size)⟩
            rw [unhide HV, Bool.eq_iff_iff]
            have c3 := unhide HC
            simp
            omega
        · have t1 := ht true (by omega) (by rw [hj]; exact (decide_eq_true (by omega)).symm)
          have HJ := hide hj
          clear hj ht hj1 hj4
          go_wp2
          go_roundw
          case rel => exact ⟨j + 1, by omega, by omega, by go_num, fun _ _ => by rw [unhide HJ]; omega, hnx⟩
          case measure => simp [intOf]; omega
      · have hge2 : 256 ≤ n := by have := hge' (by omega); rw [hj] at this; omega
        clear hge'
        have hja : 2 ≤ j := by omega
        have hjb : j ≤ 2 := by omega
        by_cases c1 : n < 65536
        · have hv : validB (n : Int) = (((n : Int) / 256 % 32 == 31) && (decide (31 ≤ (n : Int) % 256) && decide ((n : Int) % 256 ≤ 127))) := by unfold validB; rw [if_neg (by omega), if_neg (by omega), if_pos (by omega)]
          have HV := hide hv
          clear hv
          have t1 := ht false (by omega) (by rw [hj]; simp; omega)
          have ix0 := get_nums (bigL n j) 0 ((n : Int) / 256) (by rw [hj]; simp [bigL]; omega) (by omega) (by omega)
          have ix1 := get_nums (bigL n j) 1 ((n : Int) % 256) (by rw [hj]; simp [bigL]) (by omega) (by omega)
          have HJ := hide hj
          have hsz : j ≤ (strOfNums (bigL n j)).size := by rw [strOfNums_size, bigL_length]; omega
          clear hj ht hj1 hj4
          by_cases c2 : (n : Int) / 256 % 32 = 31
          · have t2 : ((n : Int) / 256 % 32 != 31) = false := by rw [c2]; rfl
            have HC := hide c2
            clear c2
            go_wp2_with (go_at_call 22; refine (big_any n j _ (by omega) (by omega)).mono ?_; rintro e w1 ⟨rfl, hb1⟩)
            · have g2 : 31 ≤ (n : Int) % 256 := by assumption
              go_ret
              exact ⟨ret_bool (by rw [unhide HV, unhide HC]; simp [g2]), hnx.trans (hb1.mono hnx.size)⟩
            · have g2 : (n : Int) % 256 < 31 := by assumption
              go_ret
              exact ⟨ret_bool (by rw [unhide HV, unhide HC]; simp; omega), hnx.trans (hb1.mono hnx.size)⟩
          · have t2 : ((n : Int) / 256 % 32 != 31) = true := by simpa using c2
            have HC := hide c2
            clear c2
            go_wp2_with (go_at_call 22; refine (big_any n j _ (by omega) (by omega)).mono ?_; rintro e w1 ⟨rfl, hb1⟩)
            go_ret
            refine ⟨ret_bool ?_, hnx.trans (hb1.mono hnx.size)⟩
            rw [unhide HV, Bool.eq_iff_iff]
            have c3 := unhide HC
            simp
            omega
        · have t1 := ht true (by omega) (by rw [hj]; exact (decide_eq_true (by omega)).symm)
          have HJ := hide hj
          clear hj ht hj1 hj4
          go_wp2
          go_roundw
          case rel => exact ⟨j + 1, by omega, by omega, by go_num, fun _ _ => by rw [unhide HJ]; omega, hnx⟩
          case measure => simp [intOf]; omega
      · have hge2 : 65536 ≤ n := by have := hge' (by omega); rw [hj] at this; omega
        clear hge'
        have hja : 3 ≤ j := by omega
        have hjb : j ≤ 3 := by omega
        by_cases c1 : n < 16777216
        · have hv : validB (n : Int) = (((n : Int) / 65536 % 32 == 31) && (decide (129 ≤ (n : Int) / 256 % 256) && decide ((n : Int) % 256 ≤ 127))) := by unfold validB; rw [if_neg (by omega), if_neg (by omega), if_neg (by omega)]
          have HV := hide hv
          clear hv
          have t1 := ht false (by omega) (by rw [hj]; simp; omega)
          have ix0 := get_nums (bigL n j) 0 ((n : Int) / 65536) (by rw [hj]; simp [bigL]; omega) (by omega) (by omega)
          have ix1 := get_nums (bigL n j) 1 ((n : Int) / 256 % 256) (by rw [hj]; simp [bigL]) (by omega) (by omega)
          have ix2 := get_nums (bigL n j) 2 ((n : Int) % 256) (by rw [hj]; simp [bigL]) (by omega) (by omega)
          have HJ := hide hj
          have hsz : j ≤ (strOfNums (bigL n j)).size := by rw [strOfNums_size, bigL_length]; omega
          clear hj ht hj1 hj4
          by_cases c2 : (n : Int) / 65536 % 32 = 31
          · have t2 : ((n : Int) / 65536 % 32 != 31) = false := by rw [c2]; rfl
            have HC := hide c2
            clear c2
            go_wp2_with (go_at_call 22; refine (big_any n j _ (by omega) (by omega)).mono ?_; rintro e w1 ⟨rfl, hb1⟩)
            · have g2 : 129 ≤ (n : Int) / 256 % 256 := by assumption
              go_ret
              exact ⟨ret_bool (by rw [unhide HV, unhide HC]; simp [g2]), hnx.trans (hb1.mono hnx.size)⟩
            · have g2 : (n : Int) / 256 % 256 < 129 := by assumption
              go_ret
              exact ⟨ret_bool (by rw [unhide HV, unhide HC]; simp; omega), hnx.trans (hb1.mono hnx.size)⟩
          · have t2 : ((n : Int) / 65536 % 32 != 31) = true := by simpa using c2
            have HC := hide c2
            clear c2
            go_wp2_with (go_at_call 22; refine (big_any n j _ (by omega) (by omega)).mono ?_; rintro e w1 ⟨rfl, hb1⟩)
            go_ret
            refine ⟨ret_bool ?_, hnx.trans (hb1.mono hnx.size)⟩
            rw [unhide HV, Bool.eq_iff_iff]
            have c3 := unhide HC
            simp
            omega
        · have t1 := ht true (by omega) (by rw [hj]; exact (decide_eq_true (by omega)).symm)
          have HJ := hide hj
          clear hj ht hj1 hj4
          go_wp2
          go_roundw
          case rel => exact ⟨j + 1, by omega, by omega, by go_num, fun _ _ => by rw [unhide HJ]; omega, hnx⟩
          case measure => simp [intOf]; omega
      · have hge2 : 16777216 ≤ n := by have := hge' (by omega); rw [hj] at this; omega
        have hja : 4 ≤ j := by omega
        clear hge' ht hj
        have hv : validB (n : Int) = false := by unfold validB; rw [if_pos (by omega)]
        have HV := hide hv
        clear hv
        go_wp2
        go_ret
        exact ⟨ret_bool (unhide HV).symm, hnx⟩
end Go.Proofs.YtfpglpefofcdeaaGreatDoor
namespace Go.Proofs.YtfpglpefofcdeaaGreatDoor
open Go.RowKit
set_option linter.unusedVariables false

/-- in how many bytes a tag is written -/
def tagLen (t : Nat) : Nat := if t < 256 then 1 else if t < 65536 then 2 else 3
theorem tagLen_le (t : Nat) : 1 ≤ tagLen t ∧ tagLen t ≤ 3 := by unfold tagLen; split <;> (try split) <;> omega
theorem tagLen_of (t j : Nat) (ht : t < 16777216) (h1 : 1 ≤ j) (h3 : j ≤ 3) (hlo : 1 < j → 256 ^ (j - 1) ≤ t) (hhi : t < 256 ^ j) : tagLen t = j := by
  have : j = 1 ∨ j = 2 ∨ j = 3 := by omega
  unfold tagLen
  rcases this with rfl | rfl | rfl
  · rw [if_pos (by omega)]
  · have := hlo (by omega); rw [if_neg (by omega), if_pos (by omega)]
  · have := hlo (by omega); rw [if_neg (by omega), if_neg (by omega)]

set_option maxRecDepth 100000 in
set_option maxHeartbeats 1000000 in
theorem tagText_any (t : Nat) (w : World) (ht : t < 16777216) :
    Calls Tryz.prog 80 #[.int .i64 t] w fun e w' => e = .returned (.string (strOfNums (bigL t (tagLen t)))) ∧ Below w.heap.size w w' := by
  go_enter Tryz.func80, Tryz.ntmps80
  go_wp2
  go_loop [3] (fun n => ∃ j : Nat, 1 ≤ j ∧ j ≤ 3 ∧ n = .int .i64 j ∧ (1 < j → 256 ^ (j - 1) ≤ t)) (fun n => 4 - (intOf n).toNat)
  case atStart => exact ⟨1, by omega, by omega, rfl, by omega⟩
  case round =>
    obtain ⟨j, h1, h3, rfl, hlo⟩ := hrel
    by_cases hhi : t < 256 ^ j
    · have hj := tagLen_of t j ht h1 h3 hlo hhi
      have t1 : decide (wrap64 (2 ^ (8 * j)) ≤ (t : Int)) = false := by
        have hf' := Int.ofNat_lt.2 hhi
        rw [wrap_pow j (by omega)]; exact decide_eq_false (by omega)
      have HJ := hide hj
      clear hlo hhi hj
      go_wp2_with (go_at_call 22; refine (big_any t j _ (by omega) (by omega)).mono ?_; rintro e w1 ⟨rfl, hb1⟩)
      go_ret
      exact ⟨by rw [unhide HJ]; rfl, hb1⟩
    · have hge : 256 ^ j ≤ t := by omega
      have hj2 : j ≤ 2 := by
        rcases Nat.lt_or_ge j 3 with h | h
        · omega
        · have : j = 3 := by omega
          subst this
          omega
      have t1 : decide (wrap64 (2 ^ (8 * j)) ≤ (t : Int)) = true := by
        have hf' := Int.ofNat_le.2 hge
        rw [wrap_pow j (by omega)]; exact decide_eq_true (by omega)
      have HG := hide hge
      clear hlo hhi hge
      go_wp2
      go_round
      case rel => exact ⟨j + 1, by omega, by omega, by go_num, fun _ => by rw [Nat.add_sub_cancel]; exact unhide HG⟩
      case measure => simp [intOf]; omega

/-- the first byte of a tag -/
def firstB (t : Nat) : Nat := t / 256 ^ (tagLen t - 1)
/-- made of others? -/
def madeB (t : Nat) : Bool := firstB t / 32 % 2 == 1
theorem firstB_lt (t : Nat) (ht : t < 16777216) : firstB t < 256 := by
  unfold firstB tagLen
  split
  · simpa using ‹_›
  · split
    · simp; omega
    · simp; omega
theorem bigL_first (t : Nat) (ht : t < 16777216) : (bigL t (tagLen t))[0]? = some (firstB t : Int) := by
  have hf := firstB_lt t ht
  obtain ⟨k, hk⟩ : ∃ k, tagLen t = k + 1 := ⟨tagLen t - 1, by have := (tagLen_le t).1; omega⟩
  unfold firstB at *
  rw [hk] at hf ⊢
  simp only [bigL, List.getElem?_cons_zero, Nat.add_sub_cancel] at hf ⊢
  rw [Nat.mod_eq_of_lt hf]

set_option maxRecDepth 100000 in
theorem rmade_any (t : Nat) (w : World) (ht : t < 16777216) :
    Calls Tryz.prog 79 #[.int .i64 t] w fun e w' => e = .returned (.bool (madeB t)) ∧ Below w.heap.size w w' := by
  have hf := firstB_lt t ht
  have ix := get_nums (bigL t (tagLen t)) 0 (firstB t) (bigL_first t ht) (by omega) (by omega)
  have hsz : 1 ≤ (strOfNums (bigL t (tagLen t))).size := by rw [strOfNums_size, bigL_length]; exact (tagLen_le t).1
  have n1 := fun w => tagText_any t w ht
  have hr : madeB t = (((firstB t : Int) / 32 % 2) == 1) := by unfold madeB; rw [Bool.eq_iff_iff]; simp; omega
  have HR := hide hr
  generalize strOfNums (bigL t (tagLen t)) = s at *
  generalize firstB t = f at *
  have N1 := hide n1
  clear n1 hr
  go_enter Tryz.func79, Tryz.ntmps79
  go_wp2_with fail
  refine (unhide N1 _).mono ?_
  rintro e w1 ⟨rfl, hb1⟩
  go_wp2
  go_ret
  exact ⟨ret_bool (by rw [unhide HR]), hb1⟩

theorem and_32 : ∀ f : Fin 256, bits .and .i64 (f.val : Int) 32 = ((f.val / 32 % 2 * 32 : Nat) : Int) := by decide +kernel

set_option maxRecDepth 100000 in
theorem made_any (t : Nat) (w : World) (ht : t < 16777216) (hval : validB (t : Int) = true) :
    Calls Tryz.prog 114 #[.int .i64 t] w fun e w' => e = .returned (.bool (madeB t)) ∧ w' = w := by
  have hf := firstB_lt t ht
  have h32 := and_32 ⟨firstB t, hf⟩
  simp only at h32
  have hr : madeB t = (((firstB t / 32 % 2 * 32 : Nat) : Int) != 0) := by unfold madeB; rw [Bool.eq_iff_iff]; simp; omega
  have HR := hide hr
  have n0 := fun w => valid_any (t : Int) w (by omega)
  rw [hval] at n0
  have N0 := hide n0
  clear hr n0 hval
  go_enter Tryz.func114, Tryz.ntmps114
  go_wp2_with fail
  refine (unhide N0 _).mono ?_
  rintro e w1 ⟨rfl, hw1⟩
  subst hw1
  go_wp2
  go_loop [3] (fun n => ∃ j : Nat, j < tagLen t ∧ n = .int .i64 (t / 256 ^ j : Nat)) (fun n => (intOf n).toNat)
  case atStart => exact ⟨0, (tagLen_le t).1, by simp⟩
  case round =>
    obtain ⟨j, hj, rfl⟩ := hrel
    have hj3 := (tagLen_le t).2
    have hv : t / 256 ^ j < 16777216 := Nat.lt_of_le_of_lt (Nat.div_le_self _ _) ht
    have hdiv : t / 256 ^ (j + 1) = t / 256 ^ j / 256 := by rw [Nat.pow_succ, Nat.div_div_eq_div_mul]
    by_cases hb : 255 < t / 256 ^ j
    · have hnext : j + 1 < tagLen t := by
        rcases Nat.lt_or_ge (j + 1) (tagLen t) with h | h
        · exact h
        · exfalso
          have : j = tagLen t - 1 := by omega
          have hf' := hf
          unfold firstB at hf'
          rw [← this] at hf'
          omega
      have HD := hide hdiv
      have HN := hide hnext
      generalize t / 256 ^ j = v at *
      clear hdiv hnext hj
      go_wp2
      go_round
      case rel => exact ⟨j + 1, unhide HN, by rw [unhide HD]; rfl⟩
      case measure => simp [intOf]; omega
    · have hfe : firstB t = t / 256 ^ j := by
        have hjl : j + 1 = tagLen t := by
          rcases Nat.lt_or_ge (j + 1) (tagLen t) with h | h
          · exfalso
            have h2 : tagLen t = 2 ∨ tagLen t = 3 := by omega
            have hp : 256 ^ (j + 1) ≤ t := by
              unfold tagLen at h h2
              have : j = 0 ∨ j = 1 := by omega
              rcases this with rfl | rfl
              · split at h
                · omega
                · simp; omega
              · split at h
                · omega
                · split at h
                  · omega
                  · simp; omega
            have := Nat.div_le_div_right (c := 256 ^ j) hp
            rw [Nat.pow_succ, Nat.mul_div_cancel_left _ (Nat.pow_pos (by decide))] at this
            omega
          · omega
        unfold firstB
        rw [← hjl, Nat.add_sub_cancel]
      rw [hfe] at h32 HR
      generalize t / 256 ^ j = v at *
      generalize v / 32 % 2 * 32 = u at *
      clear hdiv hfe
      go_wp2
      go_ret
      exact ⟨ret_bool (by rw [unhide HR]), rfl⟩

theorem validB_lt {t : Int} (h : validB t = true) : 1 ≤ t ∧ t < 16777216 := by
  unfold validB at h
  by_cases hc : t < 1 ∨ 16777216 ≤ t
  · rw [if_pos hc] at h; simp at h
  · omega
/-- is it a tag that is made of others? -/
def madeV (t : Int) : Bool := validB t && madeB t.toNat
theorem madeV_any (t : Int) (w : World) (h₁ : t ≤ 9223372036854775807) :
    Calls Tryz.prog 114 #[.int .i64 t] w fun e w' => e = .returned (.bool (madeV t)) ∧ w' = w := by
  cases hv : validB t with
  | true =>
    have hl := validB_lt hv
    obtain ⟨n, rfl⟩ := Int.eq_ofNat_of_zero_le (show 0 ≤ t by omega)
    have := made_any n w (by omega) hv
    unfold madeV
    rw [hv]
    exact this
  | false =>
    have hm : madeV t = false := by unfold madeV; rw [hv]; rfl
    rw [hm]
    have n0 := fun w => valid_any t w h₁
    rw [hv] at n0
    have N0 := hide n0
    clear n0 hv hm
    go_enter Tryz.func114, Tryz.ntmps114
    go_wp2_with fail
    refine (unhide N0 _).mono ?_
    rintro e w1 ⟨rfl, hw1⟩
    subst hw1
    go_wp2
    go_ret
    exact ⟨rfl, rfl⟩
end Go.Proofs.YtfpglpefofcdeaaGreatDoor
