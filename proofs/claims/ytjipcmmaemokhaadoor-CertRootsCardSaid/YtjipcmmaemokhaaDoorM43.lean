/- The big numbers themselves: Bit. -/
import Derived.Test.YtjipcmmaemokhaaDoorM42
import Derived.Test.YtjipcmmaemokhaaDoorM25
import Derived.Test.YtjipcmmaemokhaaDoorM32
import Derived.Deep.QuietTactic
import Derived.BigQuiet
namespace Go.Proofs.YtjipcmmaemokhaaDoor
open Go.RowKit
set_option linter.unusedVariables false
set_option linter.unusedSimpArgs false
set_option maxRecDepth 100000

theorem bit_word (n i x : Nat) (hx : x = n / B32 ^ (i / 32) % B32) : x / 2 ^ (i % 32) % 2 = n / 2 ^ i % 2 := by
  have e : 2 ^ i = B32 ^ (i / 32) * 2 ^ (i % 32) := by
    rw [B32_as, ← Nat.pow_add]
    congr 1
    omega
  rw [e, ← Nat.div_div_eq_div_mul, hx]
  generalize n / B32 ^ (i / 32) = y
  have h32 : i % 32 < 32 := Nat.mod_lt _ (by decide)
  generalize i % 32 = s at *
  obtain ⟨t, ht, _⟩ : ∃ t, B32 = 2 ^ s * 2 * t ∧ True := ⟨2 ^ (31 - s), by
    rw [← Nat.pow_succ, ← Nat.pow_add, show s + 1 + (31 - s) = 32 by omega]; rfl, trivial⟩
  have h1 := Nat.div_add_mod y B32
  have h3 : B32 * (y / B32) = 2 ^ s * (2 * (t * (y / B32))) := by
    generalize y / B32 = q
    rw [ht]
    simp only [Nat.mul_assoc]
  have h2 : y = y % B32 + 2 ^ s * (2 * (t * (y / B32))) := by
    rw [← h3, Nat.add_comm]; exact h1.symm
  conv => rhs; rw [h2]
  rw [Nat.add_mul_div_left _ _ (Nat.two_pow_pos s), Nat.add_mul_mod_self_left]
theorem bit_none (n i : Nat) (h : (dig n).length ≤ i / 32) : n / 2 ^ i % 2 = 0 := by
  have h1 := lt_dig n
  have h2 : B32 ^ (dig n).length ≤ 2 ^ i := by
    rw [B32_as]; exact Nat.pow_le_pow_right (by decide) (by omega)
  rw [Nat.div_eq_of_lt (Nat.lt_of_lt_of_le h1 h2)]
theorem bit_nums {i m s : Nat} (hm : m = i / 32) (hs : s = i % 32) (hi : (i : Int) ≤ 1000000) : (i : Int).tdiv 32 = (m : Int) ∧ wrap64 ((i : Int).tdiv 32) = (m : Int) ∧ (i : Int) / 32 = (m : Int) ∧ wrap64 (m : Int) = (m : Int) ∧ IntKind.u64.wrap (i : Int) = (i : Int) ∧ (i : Int) % 32 = (s : Int) ∧ s < 32 := by
  have e : (i : Int).tdiv 32 = (m : Int) := by rw [Int.tdiv_eq_ediv_of_nonneg (by omega)]; omega
  exact ⟨e, by rw [e]; unfold wrap64; omega, by omega, by unfold wrap64; omega, wraps_u64 _ (by omega) (by omega), by omega, by omega⟩
theorem shr_nums {x s : Nat} (hx : x < 4294967296) : ∃ y z : Nat, y = x / 2 ^ s ∧ z = x / 2 ^ s % 2 ∧ (x : Int) / 2 ^ s = (y : Int) ∧ IntKind.u64.wrap (y : Int) = (y : Int) ∧ bits .and .u64 (y : Int) 1 = (z : Int) ∧ (x : Int).fdiv (2 ^ min s IntKind.u32.bits) = ((x / 2 ^ min s 32 : Nat) : Int) := by
  have hl : x / 2 ^ s ≤ x := Nat.div_le_self _ _
  refine ⟨x / 2 ^ s, x / 2 ^ s % 2, rfl, rfl, by simp, wraps_u64 _ (Int.natCast_nonneg _) (by omega), ?_, ?_⟩
  · have e := (bits_nat .u64 64 (by decide) (fun n h0 h1 => wraps_u64 n h0 h1) (x / 2 ^ s) 1 (by omega) (by omega)).1
    rw [Nat.and_one_is_mod] at e
    exact e
  · rw [show IntKind.u32.bits = 32 from rfl]
    rw [Int.fdiv_eq_ediv_of_nonneg _ (Int.pow_nonneg (by decide))]
    simp
end Go.Proofs.YtjipcmmaemokhaaDoor
namespace Go.Proofs.YtjipcmmaemokhaaDoor
open Go.RowKit
set_option linter.unusedVariables false
set_option linter.unusedSimpArgs false
set_option maxRecDepth 100000

def zeroT (n : Nat) : ByteArray := ⟨(List.replicate n (0 : UInt8)).toArray⟩
theorem zeroT_size (n : Nat) : (zeroT n).size = n := by simp [zeroT, ByteArray.size]
theorem zeroT_data (n : Nat) : (zeroT n).data.toList = List.replicate n 0 := by simp [zeroT]
theorem zeroT_snoc (n : Nat) : zeroT n ++ ⟨#[0]⟩ = zeroT (n + 1) := by
  apply ByteArray.ext
  apply Array.toList_inj.1
  rw [ByteArray.data_append, Array.toList_append, zeroT_data, zeroT_data, List.replicate_succ']
theorem bigL_pad (n k' j : Nat) (h : n < 256 ^ k') : bigL n (k' + j) = List.replicate j 0 ++ bigL n k' := by
  induction j with
  | zero => rfl
  | succ j ih =>
    have e : bigL n (k' + (j + 1)) = ((n / 256 ^ (k' + j) % 256 : Nat) : Int) :: bigL n (k' + j) := rfl
    have h2 : n < 256 ^ (k' + j) := Nat.lt_of_lt_of_le h (Nat.pow_le_pow_right (by decide) (by omega))
    rw [e, ih, Nat.div_eq_of_lt h2, List.replicate_succ]
    rfl
theorem len_bytes {n L k : Nat} (hL : IsLen n L) (hk : n < 256 ^ k) : n < 256 ^ ((L + 7) / 8) ∧ (L + 7) / 8 ≤ k := by
  have e : ∀ m : Nat, 256 ^ m = 2 ^ (8 * m) := fun m => by rw [Nat.pow_mul]
  obtain ⟨h1, h2, h3⟩ := hL
  refine ⟨?_, ?_⟩
  · rw [e]; exact Nat.lt_of_lt_of_le h1 (Nat.pow_le_pow_right (by decide) (by omega))
  · by_cases h0 : n = 0
    · rw [h2 h0]; omega
    · obtain ⟨h4, h5⟩ := h3 h0
      rw [e] at hk
      have := (Nat.pow_lt_pow_iff_right (by decide : 1 < 2)).1 (Nat.lt_of_le_of_lt h5 hk)
      omega
theorem wide_text {n k k' j : Nat} (h : n < 256 ^ k') (hj : k = k' + j) : zeroT j ++ strOfNums (bigL n k') = strOfNums (bigL n k) := by
  rw [hj, bigL_pad n k' j h]
  apply ByteArray.ext
  apply Array.toList_inj.1
  rw [ByteArray.data_append, Array.toList_append, zeroT_data, strOfNums_data, strOfNums_data, List.map_append, List.map_replicate]
  rfl
end Go.Proofs.YtjipcmmaemokhaaDoor
