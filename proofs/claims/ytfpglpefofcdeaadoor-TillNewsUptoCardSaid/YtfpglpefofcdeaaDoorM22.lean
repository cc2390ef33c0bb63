/- Which beginning of a text is a tag: plain. -/
import Derived.Test.YtfpglpefofcdeaaDoorM21
namespace Go.Proofs.YtfpglpefofcdeaaDoor
open Go.RowKit
set_option linter.unusedVariables false

/-- are the first n bytes a tag? -/
def goodB (l : List UInt8) (n : Nat) : Bool := validB (valN (l.take n)) && decide (tagLen (valN (l.take n)) = n)
theorem valN_two (a b : UInt8) : valN [a, b] = a.toNat * 256 + b.toNat := by simp [valN]
theorem valN_three (a b c : UInt8) : valN [a, b, c] = (a.toNat * 256 + b.toNat) * 256 + c.toNat := by simp [valN]
theorem valN_one (a : UInt8) : valN [a] = a.toNat := by simp [valN]

theorem validB_iff (t : Nat) : validB (t : Int) = true ↔ (1 ≤ t ∧ t < 256 ∧ t % 32 ≠ 31) ∨ (256 ≤ t ∧ t < 65536 ∧ t / 256 % 32 = 31 ∧ 31 ≤ t % 256 ∧ t % 256 ≤ 127) ∨ (65536 ≤ t ∧ t < 16777216 ∧ t / 65536 % 32 = 31 ∧ 129 ≤ t / 256 % 256 ∧ t % 256 ≤ 127) := by
  unfold validB
  split
  · simp; omega
  · split
    · simp; omega
    · split
      · simp; omega
      · simp; omega
theorem tagLen_iff (t n : Nat) : tagLen t = n ↔ (t < 256 ∧ n = 1) ∨ (256 ≤ t ∧ t < 65536 ∧ n = 2) ∨ (65536 ≤ t ∧ n = 3) := by
  unfold tagLen; split
  · omega
  · split <;> omega
theorem tagSz_one (a : UInt8) (n : Nat) : n = tagSz [a] ↔ (a.toNat % 32 = 31 ∧ n = 2) ∨ (a.toNat % 32 ≠ 31 ∧ n = 1) := by
  simp only [tagSz]; split <;> omega
theorem tagSz_more (a b : UInt8) (r : List UInt8) (n : Nat) : n = tagSz (a :: b :: r) ↔ (a.toNat % 32 = 31 ∧ b.toNat < 128 ∧ n = 2) ∨ (a.toNat % 32 = 31 ∧ 128 ≤ b.toNat ∧ n = 3) ∨ (a.toNat % 32 ≠ 31 ∧ n = 1) := by
  simp only [tagSz]; split
  · split <;> omega
  · omega

theorem good_iff (l : List UInt8) (n : Nat) (h1 : 1 ≤ n) (h3 : n ≤ 3) (hl : n ≤ l.length) : goodB l n = true ↔ n = tagSz l ∧ validB (valN (l.take n)) = true := by
  unfold goodB
  rw [Bool.and_eq_true, decide_eq_true_iff, validB_iff, tagLen_iff]
  match l, hl with
  | [], hl => simp at hl; omega
  | [a], hl =>
    have : n = 1 := by simp at hl; omega
    subst this
    have la := a.toNat_lt
    rw [show [a].take 1 = [a] by rfl, valN_one, tagSz_one]
    omega
  | a :: b :: r, hl =>
    have la := a.toNat_lt
    have lb := b.toNat_lt
    rw [tagSz_more]
    have hn : n = 1 ∨ n = 2 ∨ n = 3 := by omega
    rcases hn with rfl | rfl | rfl
    · rw [show (a :: b :: r).take 1 = [a] by rfl, valN_one]; omega
    · rw [show (a :: b :: r).take 2 = [a, b] by simp, valN_two]
      generalize a.toNat = x at *
      generalize b.toNat = y at *
      have e1 : (x * 256 + y) / 256 = x := by omega
      have e2 : (x * 256 + y) % 256 = y := by omega
      rw [e1, e2]; omega
    · match r, hl with
      | [], hl => simp at hl
      | c :: r, hl =>
        have lc := c.toNat_lt
        rw [show (a :: b :: c :: r).take 3 = [a, b, c] by simp, valN_three]
        generalize a.toNat = x at *
        generalize b.toNat = y at *
        generalize c.toNat = z at *
        have e1 : ((x * 256 + y) * 256 + z) / 65536 = x := by omega
        have e2 : ((x * 256 + y) * 256 + z) % 256 = z := by omega
        have e3 : ((x * 256 + y) * 256 + z) / 256 % 256 = y := by omega
        rw [e1, e2, e3]; omega

/-- a tag's own text begins with the tag, and no more of it -/
theorem tag_text_back (t : Nat) (r : List UInt8) (hv : validB (t : Int) = true) (bs : List UInt8) (hb : bs.length = tagLen t) (hval : valN bs = t) :
    tagSz (bs ++ r) = tagLen t ∧ (bs ++ r).take (tagLen t) = bs := by
  have hk : (bs ++ r).take (tagLen t) = bs := by rw [← hb]; exact List.take_left
  have h13 := tagLen_le t
  have := (good_iff (bs ++ r) (tagLen t) h13.1 h13.2 (by simp; omega)).1 (by unfold goodB; rw [hk, hval, hv]; simp)
  exact ⟨this.1.symm, hk⟩
end Go.Proofs.YtfpglpefofcdeaaDoor
