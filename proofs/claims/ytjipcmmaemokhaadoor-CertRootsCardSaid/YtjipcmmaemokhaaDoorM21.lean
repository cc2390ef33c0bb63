/- sub of the big numbers. -/
import Derived.Test.YtjipcmmaemokhaaDoorM20
import Derived.Test.YtjipcmmaemokhaaDoorM02
namespace Go.Proofs.YtjipcmmaemokhaaDoor
open Go.RowKit
set_option linter.unusedVariables false

theorem wrap_u64_mod (n : Int) : IntKind.u64.wrap n = n % 18446744073709551616 := by simp [IntKind.wrap, IntKind.bits, IntKind.signed]
theorem u64_nat (n : Int) : ∃ s : Nat, (s : Int) = n % 18446744073709551616 ∧ IntKind.u64.wrap n = (s : Int) := by
  refine ⟨(n % 18446744073709551616).toNat, Int.toNat_of_nonneg (Int.emod_nonneg _ (by decide)), ?_⟩
  rw [wrap_u64_mod, Int.toNat_of_nonneg (Int.emod_nonneg _ (by decide))]
theorem sub_step {R xs ys : List Nat} {cn k av bv r c' : Nat} (hRv : natV R + natV (ys.take k) = natV (xs.take k) + cn * B32 ^ k) (hRl : R.length = k) (ha : xs[k]? = some av) (hb : ys[k]? = some bv ∨ (bv = 0 ∧ ys.length ≤ k)) (hs : r + bv + cn = av + c' * 4294967296) :
    natV (R ++ [r]) + natV (ys.take (k + 1)) = natV (xs.take (k + 1)) + c' * B32 ^ (k + 1) := by
  rw [natV_append, hRl, natV_take_succ xs k av ha]
  have hbt : natV (ys.take (k + 1)) = natV (ys.take k) + bv * B32 ^ k := by
    rcases hb with hb | ⟨rfl, hl⟩
    · exact natV_take_succ ys k bv hb
    · rw [List.take_of_length_le (by omega), List.take_of_length_le (by omega)]; simp
  rw [hbt, Nat.pow_succ]
  simp only [natV, Nat.mul_zero, Nat.add_zero]
  have hs' : r + bv + cn = av + c' * B32 := hs
  have h1 : r * B32 ^ k + bv * B32 ^ k + cn * B32 ^ k = av * B32 ^ k + c' * B32 * B32 ^ k := by
    rw [← Nat.add_mul, ← Nat.add_mul, ← Nat.add_mul, hs']
  have h2 : c' * B32 * B32 ^ k = c' * (B32 ^ k * B32) := by grind
  have h3 : B32 ^ k * r = r * B32 ^ k := Nat.mul_comm _ _
  omega
theorem sub_end {R xs ys : List Nat} {cn : Nat} (hRv : natV R + natV ys = natV xs + cn * B32 ^ xs.length) (hRl : R.length = xs.length) (hok : okV R) (hle : natV ys ≤ natV xs) : natV R = natV xs - natV ys := by
  have h1 := natV_lt hok
  rw [hRl] at h1
  rcases Nat.eq_zero_or_pos cn with h0 | h0
  · rw [h0, Nat.zero_mul] at hRv; omega
  · have := Nat.le_mul_of_pos_left (B32 ^ xs.length) h0
    omega
end Go.Proofs.YtjipcmmaemokhaaDoor
namespace Go.Proofs.YtjipcmmaemokhaaDoor
open Go.RowKit
set_option linter.unusedVariables false

def ordI (a b : Nat) : Int := if a < b then -1 else if b < a then 1 else 0
theorem natV_at (l : List Nat) (j x : Nat) (h : l[j]? = some x) : natV l = natV (l.take j) + x * B32 ^ j + B32 ^ (j + 1) * natV (l.drop (j + 1)) := by
  have hj : j < l.length := (List.getElem?_eq_some_iff.1 h).1
  have e := natV_take_succ l j x h
  conv => lhs; rw [← List.take_append_drop (j + 1) l]
  rw [natV_append, e, List.length_take, Nat.min_eq_left (by omega)]
theorem lt_top {xs ys : List Nat} {j x y : Nat} (ha : okV xs) (hx : xs[j]? = some x) (hy : ys[j]? = some y) (hd : xs.drop (j + 1) = ys.drop (j + 1)) (hlt : x < y) : natV xs < natV ys := by
  have hj : j < xs.length := (List.getElem?_eq_some_iff.1 hx).1
  have h1 := natV_lt (okV_take ha j)
  rw [List.length_take, Nat.min_eq_left (by omega)] at h1
  rw [natV_at xs j x hx, natV_at ys j y hy, hd]
  have h2 : (x + 1) * B32 ^ j ≤ y * B32 ^ j := Nat.mul_le_mul_right _ hlt
  rw [Nat.add_mul, Nat.one_mul] at h2
  omega
theorem dig_ge {n : Nat} (h : n ≠ 0) : B32 ^ ((dig n).length - 1) ≤ n := by
  obtain ⟨x, hx, hx0⟩ := dig_last h
  rw [List.getLast?_eq_getElem?] at hx
  have e := natV_at (dig n) _ x hx
  rw [natV_dig] at e
  have h1 : B32 ^ ((dig n).length - 1) ≤ x * B32 ^ ((dig n).length - 1) := Nat.le_mul_of_pos_left _ (by omega)
  omega
theorem len_lt {a b : Nat} (h : (dig a).length < (dig b).length) : a < b := by
  have hb : b ≠ 0 := fun e => by subst e; rw [dig_zero] at h; simp at h
  have h1 := dig_ge hb
  have h2 := lt_dig a
  have h3 : B32 ^ (dig a).length ≤ B32 ^ ((dig b).length - 1) := Nat.pow_le_pow_right B32_pos (by omega)
  omega
theorem len_le {a b : Nat} (h : a ≤ b) : (dig a).length ≤ (dig b).length := by
  rcases Nat.lt_or_ge (dig b).length (dig a).length with h1 | h1
  · have := len_lt h1; omega
  · exact h1
end Go.Proofs.YtjipcmmaemokhaaDoor
namespace Go.Proofs.YtjipcmmaemokhaaDoor
open Go.RowKit
set_option linter.unusedVariables false

theorem or_sum (c m : Nat) (hc : c < 256) (hm : m < 16777216) : c ||| 256 * m = c + 256 * m := by
  have := Nat.two_pow_add_eq_or_of_lt (i := 8) (b := c) hc m
  rw [show (2 : Nat) ^ 8 = 256 from rfl] at this
  rw [Nat.or_comm, ← this, Nat.add_comm]
theorem left_step {P xs : List Nat} {c k x r c' : Nat} (hv : natV P + c * B32 ^ k = natV (xs.take k) * 256) (hl : P.length = k) (hx : xs[k]? = some x) (hs : r + c' * 4294967296 = c + x * 256) :
    natV (P ++ [r]) + c' * B32 ^ (k + 1) = natV (xs.take (k + 1)) * 256 := by
  rw [natV_append, hl, natV_take_succ xs k x hx, Nat.pow_succ]
  simp only [natV, Nat.mul_zero, Nat.add_zero]
  have hs' : r + c' * B32 = c + x * 256 := hs
  have h1 : r * B32 ^ k + c' * B32 * B32 ^ k = c * B32 ^ k + x * 256 * B32 ^ k := by rw [← Nat.add_mul, ← Nat.add_mul, hs']
  grind
end Go.Proofs.YtjipcmmaemokhaaDoor
namespace Go.Proofs.YtjipcmmaemokhaaDoor
open Go.RowKit
set_option linter.unusedVariables false

/-- in so many bits a number is written -/
def IsLen (n L : Nat) : Prop := n < 2 ^ L ∧ (n = 0 → L = 0) ∧ (n ≠ 0 → 1 ≤ L ∧ 2 ^ (L - 1) ≤ n)
theorem B32_twoP (k : Nat) : B32 ^ k = 2 ^ (32 * k) := by rw [Nat.pow_mul]; rfl
theorem isLen_top {l : List Nat} {x j : Nat} (hok : okV l) (h0 : 1 ≤ l.length) (hx : l[l.length - 1]? = some x) (hx0 : x ≠ 0) (h1 : x < 2 ^ j) (h2 : 2 ^ (j - 1) ≤ x) (hj : 1 ≤ j) : IsLen (natV l) (32 * (l.length - 1) + j) := by
  have e := natV_at l (l.length - 1) x hx
  rw [show l.length - 1 + 1 = l.length by omega, List.drop_of_length_le (Nat.le_refl _)] at e
  simp only [natV, Nat.mul_zero, Nat.add_zero] at e
  have hlow := natV_lt (okV_take hok (l.length - 1))
  rw [List.length_take, Nat.min_eq_left (by omega)] at hlow
  have hB := B32_twoP (l.length - 1)
  generalize B32 ^ (l.length - 1) = Q at *
  have hQ : 0 < Q := by rw [hB]; exact Nat.pow_pos (by decide)
  have hup : (x + 1) * Q ≤ 2 ^ j * Q := Nat.mul_le_mul_right _ h1
  have hdn : 2 ^ (j - 1) * Q ≤ x * Q := Nat.mul_le_mul_right _ h2
  rw [Nat.add_mul, Nat.one_mul] at hup
  have p1 : 2 ^ (32 * (l.length - 1) + j) = 2 ^ j * Q := by rw [Nat.pow_add, ← hB, Nat.mul_comm]
  have p2 : 2 ^ (32 * (l.length - 1) + j - 1) = 2 ^ (j - 1) * Q := by
    rw [show 32 * (l.length - 1) + j - 1 = 32 * (l.length - 1) + (j - 1) by omega, Nat.pow_add, ← hB, Nat.mul_comm]
  have hxQ : 0 < x * Q := Nat.mul_pos (by omega) hQ
  refine ⟨by rw [p1]; omega, fun h => by omega, fun _ => ⟨by omega, by rw [p2]; omega⟩⟩
theorem half_pos {x j : Nat} (h : x / 2 ^ j ≠ 0) : 2 ^ j ≤ x := by
  rcases Nat.lt_or_ge x (2 ^ j) with h' | h'
  · exact absurd (Nat.div_eq_of_lt h') h
  · exact h'
theorem half_zero {x j : Nat} (h : x / 2 ^ j = 0) : x < 2 ^ j := by
  rcases Nat.lt_or_ge x (2 ^ j) with h' | h'
  · exact h'
  · have := Nat.div_pos h' (Nat.pow_pos (by decide)); omega
end Go.Proofs.YtjipcmmaemokhaaDoor
