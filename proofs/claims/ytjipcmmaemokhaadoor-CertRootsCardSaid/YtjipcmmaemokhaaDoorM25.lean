/- The big numbers themselves: Bytes. -/
import Derived.Test.YtjipcmmaemokhaaDoorM23
import Derived.Deep.DeepCutAuto
import Derived.Test.YtjipcmmaemokhaaDoorM18
namespace Go.Proofs.YtjipcmmaemokhaaDoor
open Go.RowKit
set_option linter.unusedVariables false

theorem dig_get (n : Nat) : ∀ i x, (dig n)[i]? = some x → x = n / B32 ^ i % B32 := by
  induction n using Nat.strongRecOn with
  | _ n ih =>
    intro i x h
    by_cases h0 : n = 0
    · subst h0; rw [dig_zero] at h; simp at h
    · rw [dig_pos h0] at h
      cases i with
      | zero =>
        obtain rfl : n % B32 = x := by simpa using h
        simp
      | succ i =>
        have := ih _ (Nat.div_lt_self (by omega) B32_two) i x (by simpa using h)
        rw [this, Nat.div_div_eq_div_mul, Nat.pow_succ, Nat.mul_comm B32]
theorem byte_word (n i : Nat) : n / B32 ^ (i / 4) % B32 / 2 ^ (8 * (i % 4)) % 256 = n / 256 ^ i % 256 := by
  rw [B32_bytes]
  have e1 : (256 : Nat) ^ i = 256 ^ (4 * (i / 4)) * 2 ^ (8 * (i % 4)) := by
    conv => lhs; rw [← Nat.div_add_mod i 4]
    rw [Nat.pow_add, Nat.pow_mul 2 8 (i % 4)]
  rw [e1, ← Nat.div_div_eq_div_mul]
  generalize n / 256 ^ (4 * (i / 4)) = m
  have h4 : i % 4 = 0 ∨ i % 4 = 1 ∨ i % 4 = 2 ∨ i % 4 = 3 := by omega
  show m % 4294967296 / 2 ^ (8 * (i % 4)) % 256 = m / 2 ^ (8 * (i % 4)) % 256
  rcases h4 with h | h | h | h <;> rw [h] <;> omega
theorem word_there {n L i : Nat} (hL : IsLen n L) (hi : i < (L + 7) / 8) : i / 4 < (dig n).length := by
  have hn : n ≠ 0 := fun e => by have := hL.2.1 e; omega
  obtain ⟨h1, h2⟩ := hL.2.2 hn
  have h3 : 2 ^ (32 * (i / 4)) ≤ n := Nat.le_trans (Nat.pow_le_pow_right (by decide) (by omega)) h2
  have h4 := lt_dig n
  rw [B32_twoP] at h4
  rcases Nat.lt_or_ge (i / 4) (dig n).length with h | h
  · exact h
  · have := Nat.pow_le_pow_right (show 0 < 2 by decide) (show 32 * (dig n).length ≤ 32 * (i / 4) by omega)
    omega
/-- a block of bytes -/
def YRow (w : World) (g : Nat) (L : List Int) : Prop := w.heap[g]? = some (.cells (L.map (Value.int .u8)).toArray 5 (0, 0))
theorem YRow.set {w : World} {g : Nat} {L : List Int} (h : YRow w g L) (i : Nat) (x : Int) : YRow (w.setCell ⟨g, i, none⟩ (.int .u8 x)) g (L.set i x) := by
  unfold YRow at *
  have : (w.setCell ⟨g, i, none⟩ (.int .u8 x)).heap[g]? = some (.cells ((L.map (Value.int .u8)).toArray.setIfInBounds i (.int .u8 x)) 5 (0, 0)) := by
    simp [World.setCell, Array.getElem?_modify, h]
  rw [this, List.setIfInBounds_toArray, List.map_set]
theorem YRow.cell {w : World} {g : Nat} {L : List Int} (h : YRow w g L) (i : Nat) (x : Int) (hi : L[i]? = some x) : w.cell? ⟨g, i, none⟩ = some (.int .u8 x) := by
  rw [cell_of_row _ _ i _ _ _ h]
  simp [hi]
theorem YRow.frozen {w : World} {g : Nat} {L : List Int} (h : YRow w g L) (i : Nat) : w.frozen? ⟨g, i, none⟩ = false := frozen_of_row _ _ i _ _ h
theorem infoU8B : (Tryd.prog.info? 5).map (fun i => (i.zero, i.size, i.bytes)) = some (some (.int .u8 0), 1, 1) := by kernel_rfl
end Go.Proofs.YtjipcmmaemokhaaDoor
namespace Go.Proofs.YtjipcmmaemokhaaDoor
open Go.RowKit
set_option linter.unusedVariables false

theorem by1 (k i j : Nat) (hj : j = k - 1 - i) (hlt : i < k) (hk : (k : Int) ≤ 50000) : IntKind.i64.wrap ((k : Int) - 1) = (k : Int) - 1 ∧ IntKind.i64.wrap ((k : Int) - 1 - (i : Int)) = (j : Int) := by
  constructor <;> (rw [IntKind.wrap_i64]; omega)
theorem by2 (i m s sh : Nat) (hm : m = i / 4) (hs : s = i % 4) (hsh : sh = 8 * s) (hi : i ≤ 50000) : wrap64 ((i : Int).tdiv 4) = (m : Int) ∧ IntKind.u64.wrap (i : Int) = (i : Int) ∧ (i : Int) % 4 = (s : Int) ∧ IntKind.u64.wrap (8 * (s : Int)) = (sh : Int) ∧ sh ≤ 24 := by
  refine ⟨by rw [Int.tdiv_eq_ediv_of_nonneg (by omega)]; unfold wrap64; omega, wraps_u64 _ (by omega) (by omega), by omega, by rw [wraps_u64 _ (by omega) (by omega)]; omega, by omega⟩
theorem by3 (n i m s sh x : Nat) (hm : m = i / 4) (hs : s = i % 4) (hsh : sh = 8 * s) (hx : (dig n)[m]? = some x) : ∃ y bt : Nat, (x : Int).fdiv (2 ^ min (Int.toNat (sh : Int)) IntKind.u32.bits) = (y : Int) ∧ (y : Int) % 256 = (bt : Int) ∧ ((n / 256 ^ i % 256 : Nat) : Int) = (bt : Int) := by
  have hb := byte_word n i
  have hxv := dig_get n m x hx
  rw [hm] at hxv
  rw [← hxv] at hb
  refine ⟨x / 2 ^ sh, n / 256 ^ i % 256, ?_, ?_, rfl⟩
  · have h24 : sh ≤ 32 := by clear hb hxv hx; omega
    rw [Int.toNat_natCast, Nat.min_eq_left (show sh ≤ IntKind.u32.bits from h24), Int.fdiv_eq_ediv_of_nonneg _ (Int.le_of_lt (Int.pow_pos (by decide)))]
    rw [show ((2 : Int) ^ sh) = ((2 ^ sh : Nat) : Int) from (Int.natCast_pow 2 sh).symm]
    exact (Int.natCast_ediv x (2 ^ sh)).symm
  · rw [← hb, hsh, hs]
    exact (Int.natCast_emod _ _).symm
theorem len_bound {n L : Nat} (hL : IsLen n L) (hd : (dig n).length ≤ 10000) : L ≤ 320000 := by
  by_cases h0 : n = 0
  · rw [hL.2.1 h0]; decide
  · obtain ⟨h1, h2⟩ := hL.2.2 h0
    have h4 := lt_dig n
    rw [B32_twoP] at h4
    have h5 := (Nat.pow_lt_pow_iff_right (show 1 < 2 by decide)).1 (Nat.lt_of_le_of_lt h2 h4)
    clear h2 h4 hL
    omega
end Go.Proofs.YtjipcmmaemokhaaDoor
namespace Go.Proofs.YtjipcmmaemokhaaDoor
open Go.RowKit Go.Shelf
set_option linter.unusedVariables false

end Go.Proofs.YtjipcmmaemokhaaDoor
