/- Power of the document's own. -/
import Derived.Test.YtjipcmmaemokhaaDoorM43
import Derived.Test.YtjipcmmaemokhaaDoorM44
import Derived.Deep.DeepCutAuto
namespace Go.Proofs.YtjipcmmaemokhaaDoor
open Go.RowKit
set_option linter.unusedVariables false
set_option linter.unusedSimpArgs false
set_option maxRecDepth 100000

/-- one bit more of the exponent -/
theorem pow_more (x d i n : Nat) (hn : 0 < n) (hb : d / 2 ^ i % 2 = 1) : x ^ (d / 2 ^ (i + 1)) % n * (x ^ (d / 2 ^ (i + 1)) % n) % n * x % n = x ^ (d / 2 ^ i) % n := by
  have e : d / 2 ^ i = d / 2 ^ (i + 1) + d / 2 ^ (i + 1) + 1 := by
    rw [Nat.pow_succ, ← Nat.div_div_eq_div_mul]; omega
  rw [e]
  generalize d / 2 ^ (i + 1) = q
  rw [← Nat.mul_mod, Nat.mod_mul_mod, Nat.pow_succ, Nat.pow_add]
theorem pow_less (x d i n : Nat) (hb : ¬ d / 2 ^ i % 2 = 1) : x ^ (d / 2 ^ (i + 1)) % n * (x ^ (d / 2 ^ (i + 1)) % n) % n = x ^ (d / 2 ^ i) % n := by
  have e : d / 2 ^ i = d / 2 ^ (i + 1) + d / 2 ^ (i + 1) := by
    rw [Nat.pow_succ, ← Nat.div_div_eq_div_mul]; omega
  rw [e]
  generalize d / 2 ^ (i + 1) = q
  rw [← Nat.mul_mod, Nat.pow_add]
theorem mod_big {m : ByteArray} (h : isModB m = true) : 18446744073709551616 ≤ valN m.data.toList ∧ valN m.data.toList < B32 ^ 24 ∧ m.size ≤ 96 ∧ 40 ≤ m.size := by
  unfold isModB at h
  simp only [Bool.and_eq_true, decide_eq_true_eq] at h
  obtain ⟨⟨⟨h1, h2⟩, h3⟩, _⟩ := h
  refine ⟨?_, valN_96 m h2, h2, h1⟩
  have hl : m.data.toList.length = m.size := by simp
  cases hh : m.data.toList with
  | nil => rw [hh] at hl; simp at hl; omega
  | cons c t =>
    rw [hh] at h3 hl
    have h4 : 128 ≤ c.toNat := h3
    rw [valN_consN]
    have h5 : 256 ^ 8 ≤ 256 ^ t.length := Nat.pow_le_pow_right (by decide) (by simp at hl; omega)
    have h6 : 1 * 256 ^ 8 ≤ c.toNat * 256 ^ t.length := Nat.mul_le_mul (by omega) h5
    have h7 : (256 : Nat) ^ 8 = 18446744073709551616 := by decide
    omega
theorem sq_lt {o n : Nat} (h : o < n) (hn : n < B32 ^ 24) (y : Nat) (hy : y < n) : o * y < B32 ^ 5000 := by
  have := Nat.mul_lt_mul'' (Nat.lt_trans h hn) (Nat.lt_trans hy hn)
  rw [← Nat.pow_add] at this
  exact lt_up this 5000 (by decide)
theorem down1 {i : Nat} (h : (i : Int) ≤ 1000000) : ∃ z : Int, z = (i : Int) - 1 ∧ wrap64 ((i : Int) - 1) = z := ⟨_, rfl, by unfold wrap64; omega⟩
theorem len_bd {d L : Nat} (hL : IsLen d L) (h : d < B32 ^ 200) : L ≤ 6400 := by
  by_cases h0 : d = 0
  · rw [hL.2.1 h0]; omega
  · exact isLen_leK hL h0 h (by decide)
end Go.Proofs.YtjipcmmaemokhaaDoor
