/- Tags as bytes: tagText, Made of the reference; made of the program. -/
import Derived.Test.YtolicaaifhfhcaaM01
import Derived.Deep.QuietTactic
import Derived.BigQuiet
import Derived.Lib.Strings
import Derived.Test.YtolicaaifhfhcaaM00
namespace Go.Proofs.Ytolicaaifhfhcaa
open Go.RowKit
set_option linter.unusedVariables false

/-- in how many bytes a tag is written -/
def tagLen (t : Nat) : Nat := if t < 256 then 1 else if t < 65536 then 2 else 3
theorem tagLen_le (t : Nat) : 1 ≤ tagLen t ∧ tagLen t ≤ 3 := by unfold tagLen; split <;> (try split) <;> omega
theorem tagLen_of (t j : Nat) (ht : t < 16777216) (h1 : 1 ≤ j) (h3 : j ≤ 3) (hlo : 1 < j → 256 ^ (j - 1) ≤ t) (hhi : t < 256 ^ j) : tagLen t = j := by
  have : j = 1 ∨ j = 2 ∨ j = 3 := by omega
  unfold tagLen
  rcases this with rfl | rfl | rfl
  · rw [if_pos (by omega)]
  · have := hlo (by omega); rw [if_neg (by omega), if_pos (by omega)]
  · have := hlo (by omega); rw [if_neg (by omega), if_neg (by omega)]

set_option maxRecDepth 100000 in
set_option maxHeartbeats 1000000 in
theorem tagText_any (t : Nat) (w : World) (ht : t < 16777216) :
    Calls Try.prog 39 #[.int .i64 t] w fun e w' => e = .returned (.string (strOfNums (bigL t (tagLen t)))) ∧ Below w.heap.size w w' := by
  go_enter Try.func39, Try.ntmps39
  go_wp2
  go_loop [3] (fun n => ∃ j : Nat, 1 ≤ j ∧ j ≤ 3 ∧ n = .int .i64 j ∧ (1 < j → 256 ^ (j - 1) ≤ t)) (fun n => 4 - (intOf n).toNat)
  case atStart => exact ⟨1, by omega, by omega, rfl, by omega⟩
  case round =>
    obtain ⟨j, h1, h3, rfl, hlo⟩ := hrel
    by_cases hhi : t < 256 ^ j
    · have hj := tagLen_of t j ht h1 h3 hlo hhi
      have t1 : decide (wrap64 (2 ^ (8 * j)) ≤ (t : Int)) = false := by
        have hf' := Int.ofNat_lt.2 hhi
        rw [wrap_pow j (by omega)]; exact decide_eq_false (by omega)
      have HJ := hide hj
      clear hlo hhi hj
      go_wp2_with (go_at_call 18; refine (big_any t j _ (by omega) (by omega)).mono ?_; rintro e w1 ⟨rfl, hb1⟩)
      go_ret
      exact ⟨by rw [unhide HJ]; rfl, hb1⟩
    · have hge : 256 ^ j ≤ t := by omega
      have hj2 : j ≤ 2 := by
        rcases Nat.lt_or_ge j 3 with h | h
        · omega
        · have : j = 3 := by omega
          subst this
          omega
      have t1 : decide (wrap64 (2 ^ (8 * j)) ≤ (t : Int)) = true := by
        have hf' := Int.ofNat_le.2 hge
        rw [wrap_pow j (by omega)]; exact decide_eq_true (by omega)
      have HG := hide hge
      clear hlo hhi hge
      go_wp2
      go_round
      case rel => exact ⟨j + 1, by omega, by omega, by go_num, fun _ => by rw [Nat.add_sub_cancel]; exact unhide HG⟩
      case measure => simp [intOf]; omega

/-- the first byte of a tag -/
def firstB (t : Nat) : Nat := t / 256 ^ (tagLen t - 1)
/-- made of others? -/
def madeB (t : Nat) : Bool := firstB t / 32 % 2 == 1
theorem firstB_lt (t : Nat) (ht : t < 16777216) : firstB t < 256 := by
  unfold firstB tagLen
  split
  · simpa using ‹_›
  · split
    · simp; omega
    · simp; omega
theorem bigL_first (t : Nat) (ht : t < 16777216) : (bigL t (tagLen t))[0]? = some (firstB t : Int) := by
  have hf := firstB_lt t ht
  obtain ⟨k, hk⟩ : ∃ k, tagLen t = k + 1 := ⟨tagLen t - 1, by have := (tagLen_le t).1; omega⟩
  unfold firstB at *
  rw [hk] at hf ⊢
  simp only [bigL, List.getElem?_cons_zero, Nat.add_sub_cancel] at hf ⊢
  rw [Nat.mod_eq_of_lt hf]

set_option maxRecDepth 100000 in
theorem rmade_any (t : Nat) (w : World) (ht : t < 16777216) :
    Calls Try.prog 38 #[.int .i64 t] w fun e w' => e = .returned (.bool (madeB t)) ∧ Below w.heap.size w w' := by
  have hf := firstB_lt t ht
  have ix := get_nums (bigL t (tagLen t)) 0 (firstB t) (bigL_first t ht) (by omega) (by omega)
  have hsz : 1 ≤ (strOfNums (bigL t (tagLen t))).size := by rw [strOfNums_size, bigL_length]; exact (tagLen_le t).1
  have n1 := fun w => tagText_any t w ht
  have hr : madeB t = (((firstB t : Int) / 32 % 2) == 1) := by unfold madeB; rw [Bool.eq_iff_iff]; simp; omega
  have HR := hide hr
  generalize strOfNums (bigL t (tagLen t)) = s at *
  generalize firstB t = f at *
  have N1 := hide n1
  clear n1 hr
  go_enter Try.func38, Try.ntmps38
  go_wp2_with fail
  refine (unhide N1 _).mono ?_
  rintro e w1 ⟨rfl, hb1⟩
  go_wp2
  go_ret
  exact ⟨ret_bool (by rw [unhide HR]), hb1⟩

theorem and_32 : ∀ f : Fin 256, bits .and .i64 (f.val : Int) 32 = ((f.val / 32 % 2 * 32 : Nat) : Int) := by decide +kernel

set_option maxRecDepth 100000 in
theorem made_any (t : Nat) (w : World) (ht : t < 16777216) (hval : validB (t : Int) = true) :
    Calls Try.prog 54 #[.int .i64 t] w fun e w' => e = .returned (.bool (madeB t)) ∧ w' = w := by
  have hf := firstB_lt t ht
  have h32 := and_32 ⟨firstB t, hf⟩
  simp only at h32
  have hr : madeB t = (((firstB t / 32 % 2 * 32 : Nat) : Int) != 0) := by unfold madeB; rw [Bool.eq_iff_iff]; simp; omega
  have HR := hide hr
  have n0 := fun w => valid_any (t : Int) w (by omega)
  rw [hval] at n0
  have N0 := hide n0
  clear hr n0 hval
  go_enter Try.func54, Try.ntmps54
  go_wp2_with fail
  refine (unhide N0 _).mono ?_
  rintro e w1 ⟨rfl, hw1⟩
  subst hw1
  go_wp2
  go_loop [3] (fun n => ∃ j : Nat, j < tagLen t ∧ n = .int .i64 (t / 256 ^ j : Nat)) (fun n => (intOf n).toNat)
  case atStart => exact ⟨0, (tagLen_le t).1, by simp⟩
  case round =>
    obtain ⟨j, hj, rfl⟩ := hrel
    have hj3 := (tagLen_le t).2
    have hv : t / 256 ^ j < 16777216 := Nat.lt_of_le_of_lt (Nat.div_le_self _ _) ht
    have hdiv : t / 256 ^ (j + 1) = t / 256 ^ j / 256 := by rw [Nat.pow_succ, Nat.div_div_eq_div_mul]
    by_cases hb : 255 < t / 256 ^ j
    · have hnext : j + 1 < tagLen t := by
        rcases Nat.lt_or_ge (j + 1) (tagLen t) with h | h
        · exact h
        · exfalso
          have : j = tagLen t - 1 := by omega
          have hf' := hf
          unfold firstB at hf'
          rw [← this] at hf'
          omega
      have HD := hide hdiv
      have HN := hide hnext
      generalize t / 256 ^ j = v at *
      clear hdiv hnext hj
      go_wp2
      go_round
      case rel => exact ⟨j + 1, unhide HN, by rw [unhide HD]; rfl⟩
      case measure => simp [intOf]; omega
    · have hfe : firstB t = t / 256 ^ j := by
        have hjl : j + 1 = tagLen t := by
          rcases Nat.lt_or_ge (j + 1) (tagLen t) with h | h
          · exfalso
            have h2 : tagLen t = 2 ∨ tagLen t = 3 := by omega
            have hp : 256 ^ (j + 1) ≤ t := by
              unfold tagLen at h h2
              have : j = 0 ∨ j = 1 := by omega
              rcases this with rfl | rfl
              · split at h
                · omega
                · simp; omega
              · split at h
                · omega
                · split at h
                  · omega
                  · simp; omega
            have := Nat.div_le_div_right (c := 256 ^ j) hp
            rw [Nat.pow_succ, Nat.mul_div_cancel_left _ (Nat.pow_pos (by decide))] at this
            omega
          · omega
        unfold firstB
        rw [← hjl, Nat.add_sub_cancel]
      rw [hfe] at h32 HR
      generalize t / 256 ^ j = v at *
      generalize v / 32 % 2 * 32 = u at *
      clear hdiv hfe
      go_wp2
      go_ret
      exact ⟨ret_bool (by rw [unhide HR]), rfl⟩

theorem validB_lt {t : Int} (h : validB t = true) : 1 ≤ t ∧ t < 16777216 := by
  unfold validB at h
  by_cases hc : t < 1 ∨ 16777216 ≤ t
  · rw [if_pos hc] at h; simp at h
  · omega
/-- is it a tag that is made of others? -/
def madeV (t : Int) : Bool := validB t && madeB t.toNat
theorem madeV_any (t : Int) (w : World) (h₁ : t ≤ 9223372036854775807) :
    Calls Try.prog 54 #[.int .i64 t] w fun e w' => e = .returned (.bool (madeV t)) ∧ w' = w := by
  cases hv : validB t with
  | true =>
    have hl := validB_lt hv
    obtain ⟨n, rfl⟩ := Int.eq_ofNat_of_zero_le (show 0 ≤ t by omega)
    have := made_any n w (by omega) hv
    unfold madeV
    rw [hv]
    exact this
  | false =>
    have hm : madeV t = false := by unfold madeV; rw [hv]; rfl
    rw [hm]
    have n0 := fun w => valid_any t w h₁
    rw [hv] at n0
    have N0 := hide n0
    clear n0 hv hm
    go_enter Try.func54, Try.ntmps54
    go_wp2_with fail
    refine (unhide N0 _).mono ?_
    rintro e w1 ⟨rfl, hw1⟩
    subst hw1
    go_wp2
    go_ret
    exact ⟨rfl, rfl⟩
end Go.Proofs.Ytolicaaifhfhcaa
namespace Go.Proofs.Ytolicaaifhfhcaa
open Go.RowKit

/-- the number that bytes say, the high one first -/
def valN (l : List UInt8) : Nat := l.foldl (fun n b => n * 256 + b.toNat) 0
theorem valN_snoc (l : List UInt8) (b : UInt8) : valN (l ++ [b]) = valN l * 256 + b.toNat := by simp [valN, List.foldl_append]
theorem foldl_ge (l : List UInt8) : ∀ a : Nat, a ≤ l.foldl (fun n b => n * 256 + b.toNat) a := by
  induction l with
  | nil => intro a; simp
  | cons b l ih => intro a; rw [List.foldl_cons]; exact Nat.le_trans (by omega) (ih _)
theorem valN_take_le (l : List UInt8) (k : Nat) : valN (l.take k) ≤ valN l := by
  rw (occs := .pos [2]) [← List.take_append_drop k l]
  unfold valN
  rw [List.foldl_append]
  exact foldl_ge _ _
theorem valN_lt (l : List UInt8) : valN l < 256 ^ l.length := by
  have h : ∀ (l : List UInt8) (a : Nat), l.foldl (fun n b => n * 256 + b.toNat) a < (a + 1) * 256 ^ l.length := by
    intro l
    induction l with
    | nil => intro a; simp
    | cons b l ih =>
      intro a
      rw [List.foldl_cons, List.length_cons, Nat.pow_succ]
      refine Nat.lt_of_lt_of_le (ih _) ?_
      have hb : b.toNat < 256 := b.toNat_lt
      calc (a * 256 + b.toNat + 1) * 256 ^ l.length ≤ ((a + 1) * 256) * 256 ^ l.length := Nat.mul_le_mul_right _ (by omega)
        _ = (a + 1) * (256 ^ l.length * 256) := by rw [Nat.mul_assoc, Nat.mul_comm 256]
  simpa [valN] using h l 0

end Go.Proofs.Ytolicaaifhfhcaa
namespace Go.Proofs.Ytolicaaifhfhcaa
open Go.RowKit
set_option linter.unusedVariables false

/-- how many bytes the tag at the beginning has -/
def tagSz (l : List UInt8) : Nat :=
  match l with
  | [] => 1
  | [a] => if a.toNat % 32 = 31 then 2 else 1
  | a :: b :: _ => if a.toNat % 32 = 31 then (if b.toNat < 128 then 2 else 3) else 1
theorem tagSz_le (l : List UInt8) : 1 ≤ tagSz l ∧ tagSz l ≤ 3 := by
  unfold tagSz
  split
  · omega
  · split <;> omega
  · split
    · split <;> omega
    · omega

end Go.Proofs.Ytolicaaifhfhcaa
namespace Go.Proofs.Ytolicaaifhfhcaa
open Go.RowKit
set_option linter.unusedVariables false

theorem or_i64 (m b : Nat) (hb : b < 256) (h : (m : Int) * 256 + b ≤ 9223372036854775807) : bits .or .i64 ((m : Int) * 256) b = ((m * 256 + b : Nat) : Int) := by
  rw [bits_join .i64 63 (by decide) wraps_i64 8 _ _ (by omega) (by omega) (by omega) (by omega) (by omega) (by omega)]
  omega


theorem valN_take3 (s : ByteArray) (k : Nat) (hk : k ≤ 3) : valN (s.data.toList.take k) < 16777216 := by
  have h1 : valN (s.data.toList.take k) < 256 ^ (s.data.toList.take k).length := valN_lt _
  have h2 : 256 ^ (s.data.toList.take k).length ≤ 256 ^ 3 := Nat.pow_le_pow_right (by omega) (by have := List.length_take_le k s.data.toList; omega)
  omega

end Go.Proofs.Ytolicaaifhfhcaa
