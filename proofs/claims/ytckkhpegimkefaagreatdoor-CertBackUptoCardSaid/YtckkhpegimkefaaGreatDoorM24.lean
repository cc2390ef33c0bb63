/- Division of the big numbers, by a number of three words or more. (Made by wip/drafts/genKn.py.) -/
import Derived.Test.YtckkhpegimkefaaGreatDoorM23
import Derived.Laws.CopyOwn
namespace Go.Proofs.YtckkhpegimkefaaGreatDoor
open Go.RowKit
set_option linter.unusedVariables false
set_option linter.unusedSimpArgs false
set_option maxRecDepth 1000000

theorem lt_upK {x j : Nat} (h : x < B32 ^ j) (K : Nat) (hj : j ≤ K) : x < B32 ^ K := Nat.lt_of_lt_of_le h (Nat.pow_le_pow_right B32_pos hj)
theorem B32_as (n : Nat) : B32 ^ n = 2 ^ (32 * n) := by rw [Nat.pow_mul]; rfl
theorem dig_lowK {b n : Nat} (h : (dig b).length = n + 1) : B32 ^ n ≤ b := by
  rcases Nat.lt_or_ge b (B32 ^ n) with h' | h'
  · have := dig_len n b h'; omega
  · exact h'
theorem dig_of_len {v n : Nat} (h1 : v < B32 ^ (n + 1)) (h2 : B32 ^ n ≤ v) : (dig v).length = n + 1 := by
  have a := dig_len (n + 1) v h1
  have b := lt_dig v
  rcases Nat.lt_or_ge (dig v).length (n + 1) with h' | h'
  · have : B32 ^ (dig v).length ≤ B32 ^ n := Nat.pow_le_pow_right B32_pos (by omega)
    omega
  · omega
/-- the shift that brings the greatest bit to the front -/
theorem shift_of {b n L : Nat} (hn : (dig b).length = n + 1) (hL : IsLen b L) : ∃ L1 r s : Nat, L = L1 + 1 ∧ r = L1 % 32 ∧ s = 31 - r ∧ s < 32 ∧ r < 32 ∧ b * 2 ^ s < B32 ^ (n + 1) ∧ B32 ^ (n + 1) ≤ 2 * (b * 2 ^ s) := by
  obtain ⟨h1, _, h3⟩ := hL
  have hlo := dig_lowK hn
  have hhi := lt_dig b
  rw [hn] at hhi
  have hb0 : b ≠ 0 := by have : 0 < B32 ^ n := Nat.pow_pos B32_pos; omega
  obtain ⟨h4, h5⟩ := h3 hb0
  rw [B32_as] at hlo hhi
  have e1 : 32 * n < L := (Nat.pow_lt_pow_iff_right (by decide : 1 < 2)).1 (Nat.lt_of_le_of_lt hlo h1)
  have e2 : L - 1 < 32 * (n + 1) := (Nat.pow_lt_pow_iff_right (by decide : 1 < 2)).1 (Nat.lt_of_le_of_lt h5 hhi)
  refine ⟨L - 1, (L - 1) % 32, 31 - (L - 1) % 32, by omega, rfl, rfl, by omega, by omega, ?_, ?_⟩
  · rw [B32_as]
    have h6 : b * 2 ^ (31 - (L - 1) % 32) < 2 ^ L * 2 ^ (31 - (L - 1) % 32) := Nat.mul_lt_mul_of_pos_right h1 (Nat.two_pow_pos _)
    rw [← Nat.pow_add, show L + (31 - (L - 1) % 32) = 32 * (n + 1) by omega] at h6
    exact h6
  · rw [B32_as]
    have h6 : 2 ^ (L - 1) * 2 ^ (31 - (L - 1) % 32) ≤ b * 2 ^ (31 - (L - 1) % 32) := Nat.mul_le_mul_right _ h5
    rw [← Nat.pow_add] at h6
    have e3 : 32 * (n + 1) = L - 1 + (31 - (L - 1) % 32) + 1 := by omega
    rw [e3, Nat.pow_succ]
    omega
theorem shift_nums {L L1 r s : Nat} (hL : L = L1 + 1) (hr : r = L1 % 32) (hs : s = 31 - r) (hl : L ≤ 400000) : wrap64 ((L : Int) - 1) = (L1 : Int) ∧ (L1 : Int).tmod 32 = (r : Int) ∧ (L1 : Int) % 32 = (r : Int) ∧ wrap64 (32 - (r : Int)) = ((s + 1 : Nat) : Int) ∧ wrap64 (((s + 1 : Nat) : Int) - 1) = (s : Int) ∧ IntKind.u64.wrap (s : Int) = (s : Int) ∧ wrap64 (r : Int) = (r : Int) := by
  have e : (L1 : Int).tmod 32 = (L1 : Int) % 32 := Int.tmod_eq_emod_of_nonneg (by omega)
  refine ⟨by unfold wrap64; omega, by rw [e]; omega, by omega, by unfold wrap64; omega, by unfold wrap64; omega, wraps_u64 _ (by omega) (by omega), by unfold wrap64; omega⟩
theorem isLen_leK {b L K M : Nat} (hL : IsLen b L) (h0 : b ≠ 0) (h : b < B32 ^ K) (hM : 32 * K ≤ M) : L ≤ M := by
  obtain ⟨_, _, h3⟩ := hL
  obtain ⟨h4, h5⟩ := h3 h0
  have h6 := Nat.lt_of_le_of_lt h5 h
  rw [B32_as] at h6
  have := (Nat.pow_lt_pow_iff_right (by decide : 1 < 2)).1 h6
  omega
theorem make_le {x n : Nat} (h : x = 4) (hn : (n : Int) ≤ 10000) : x * n ≤ 281474976710656 := by subst h; omega
theorem len_max {n : Nat} (hn : (n : Int) ≤ 10000) : n ≤ maxLen := by unfold maxLen; omega
theorem two_more {la la2 : Nat} (h : la ≤ 5000) (h2 : la2 = la + 2) : wrap64 ((la : Int) + 2) = (la2 : Int) ∧ (la2 : Int) ≤ 10000 := by
  refine ⟨?_, by omega⟩
  unfold wrap64; omega
theorem top_big {vs : List Nat} {n top V : Nat} (hl : vs.length = n + 1) (okv : okV vs) (hv : natV vs = V) (ht : vs[n]? = some top) (hV : B32 ^ (n + 1) ≤ 2 * V) : 2147483648 ≤ top := by
  have e := natV_take_succ vs n top ht
  rw [List.take_of_length_le (by omega), hv] at e
  have l := natV_lt (okV_take okv n)
  rw [List.length_take, Nat.min_eq_left (by omega)] at l
  rcases Nat.lt_or_ge top 2147483648 with h' | h'
  · exfalso
    have h2 : (top + 1) * B32 ^ n ≤ 2147483648 * B32 ^ n := Nat.mul_le_mul_right _ h'
    rw [Nat.add_mul, Nat.one_mul] at h2
    rw [Nat.pow_succ] at hV
    have h3 : B32 ^ n * B32 = 2 * (2147483648 * B32 ^ n) := by show B32 ^ n * 4294967296 = _; omega
    omega
  · exact h'
theorem first_low {A V la n m : Nat} (hA : A < B32 ^ (la + 1)) (hV : B32 ^ (n + 1) ≤ 2 * V) (hm : m + (n + 1) = la + 1) : A < V * B32 ^ (m + 1) := by
  have h1 : B32 ^ (n + 1) * B32 ^ (m + 1) ≤ 2 * V * B32 ^ (m + 1) := Nat.mul_le_mul_right _ hV
  rw [← Nat.pow_add, show n + 1 + (m + 1) = la + 1 + 1 by omega, Nat.pow_succ] at h1
  have h2 : B32 ^ (la + 1) * 2 ≤ B32 ^ (la + 1) * B32 := Nat.mul_le_mul_left _ (by decide)
  have h3 : 2 * V * B32 ^ (m + 1) = 2 * (V * B32 ^ (m + 1)) := Nat.mul_assoc _ _ _
  omega
theorem natV_split (l : List Nat) (k : Nat) : natV l = natV (l.take k) + B32 ^ (min k l.length) * natV (l.drop k) := by
  conv => lhs; rw [← List.take_append_drop k l]
  rw [natV_append, List.length_take]
theorem drop_lt {au : List Nat} {k A V : Nat} (hk : k ≤ au.length) (hA : natV au = A) (h : A < V * B32 ^ k) : natV (au.drop k) < V := by
  have e := natV_split au k
  rw [Nat.min_eq_left hk, hA] at e
  rcases Nat.lt_or_ge (natV (au.drop k)) V with h' | h'
  · exact h'
  · exfalso
    have := Nat.mul_le_mul_left (B32 ^ k) h'
    rw [Nat.mul_comm (B32 ^ k) V] at this
    omega
/-- the window: one word more below -/
theorem window (x : Nat) (Y : List Nat) (n : Nat) (hY : Y.length = n + 1) : ∃ wl un, x :: Y = wl ++ [un] ∧ wl.length = n + 1 ∧ (okV (x :: Y) → okV wl ∧ un < B32) ∧ natV wl + un * B32 ^ (n + 1) = x + B32 * natV Y := by
  have hne : x :: Y ≠ [] := List.cons_ne_nil _ _
  have hl : ((x :: Y).dropLast).length = n + 1 := by simp [hY]
  refine ⟨(x :: Y).dropLast, (x :: Y).getLast hne, (List.dropLast_concat_getLast hne).symm, hl, fun hok => ⟨fun y hy => hok y (List.dropLast_subset _ hy), hok _ (List.getLast_mem hne)⟩, ?_⟩
  have e : natV (x :: Y) = natV ((x :: Y).dropLast ++ [(x :: Y).getLast hne]) := by rw [List.dropLast_concat_getLast hne]
  rw [natV_append, hl] at e
  simp only [natV, Nat.mul_zero, Nat.add_zero] at e
  rw [e, Nat.mul_comm (B32 ^ (n + 1))]
theorem row_window {au Y : List Nat} {j x z n : Nat} (hx : au[j]? = some x) : ∀ wl un, x :: Y = wl ++ [un] → au.take (j + 1) ++ Y ++ List.replicate z 0 = au.take j ++ wl ++ un :: List.replicate z 0 := by
  intro wl un h
  rw [List.take_add_one, hx]
  have : au.take j ++ [x] ++ Y ++ List.replicate z 0 = au.take j ++ (x :: Y) ++ List.replicate z 0 := by simp
  show au.take j ++ (Option.toList (some x)) ++ Y ++ List.replicate z 0 = _
  rw [show Option.toList (some x) = [x] from rfl, this, h]
  simp
theorem row_next (lo A : List Nat) (z : Nat) : lo ++ A ++ 0 :: List.replicate z 0 = lo ++ A ++ List.replicate (z + 1) 0 := rfl
theorem quo_next (j q : Nat) (Qs : List Nat) : (List.replicate (j + 1) 0 ++ Qs).set j q = List.replicate j 0 ++ q :: Qs := by
  rw [List.replicate_succ', List.append_assoc, List.set_append_right _ _ (by simp)]
  simp
end Go.Proofs.YtckkhpegimkefaaGreatDoor
