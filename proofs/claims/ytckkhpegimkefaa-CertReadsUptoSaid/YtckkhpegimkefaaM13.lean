/- times, plain: the low words are made 0, each by so many moduli. -/
import Derived.Test.YtckkhpegimkefaaM12
namespace Go.Proofs.Ytckkhpegimkefaa
open Go.RowKit Go.Shelf
set_option linter.unusedVariables false

/-- what makes the low word 0 -/
def zeroBy (t inv : Nat) : Nat := t * inv % B64
theorem zeroBy_lt (t inv : Nat) : zeroBy t inv < B64 := Nat.mod_lt _ B64_pos
theorem zero_low (B t m0 inv M U : Nat) (hB : 0 < B) (hU : U % B = t % B) (hM : M % B = m0 % B) (hi : (m0 * inv + 1) % B = 0) : (U + t * inv % B * M) % B = 0 := by
  have e : (U + t * inv % B * M) % B = (t + t * inv * m0) % B := by
    rw [Nat.add_mod, Nat.mul_mod, Nat.mod_mod, hU, hM, ← Nat.mul_mod, ← Nat.add_mod]
  rw [e, show t + t * inv * m0 = t * (m0 * inv + 1) by grind, Nat.mul_mod, hi, Nat.mul_zero, Nat.zero_mod]
/-- behind i rounds -/
structure MontAt (xs ys ms : List Nat) (n i : Nat) (row : List Nat) (q : Nat) : Prop where
  len : row.length = 2 * n + 1
  ok : okW row
  sum : natW row = natW xs * natW (ys.take i) + q * natW ms
  low : natW (row.take i) = 0
  lt : q < B64 ^ i
theorem mont_lt (X M Y q P D : Nat) (hP : 0 < P) (hM : 0 < M) (hY : Y < P) (hq : q < P) (h : P * D = X * Y + q * M) : D < X + M := by
  rcases Nat.lt_or_ge D (X + M) with h1 | h1
  · exact h1
  · have h2 : P * (X + M) ≤ P * D := Nat.mul_le_mul_left _ h1
    have h3 : X * Y ≤ X * P := Nat.mul_le_mul_left _ (Nat.le_of_lt hY)
    have h4 : q * M + M ≤ P * M := by
      have : (q + 1) * M ≤ P * M := Nat.mul_le_mul_right _ hq
      rw [Nat.add_mul, Nat.one_mul] at this
      exact this
    have h5 : P * (X + M) = X * P + P * M := by rw [Nat.mul_add, Nat.mul_comm P X]
    omega
theorem MontAt.drop_lt {xs ys ms : List Nat} {n i q : Nat} {row : List Nat} (h : MontAt xs ys ms n i row q) (hy : okW ys) (hyl : ys.length = n) (hi : i ≤ n) (hM : 0 < natW ms) : natW (row.drop i) < natW xs + natW ms := by
  have e := natW_split row i (by rw [h.len]; omega)
  rw [h.low, Nat.zero_add, h.sum] at e
  have hY : natW (ys.take i) < B64 ^ i := by
    have := natW_lt (okW_take hy i)
    rw [List.length_take, hyl, Nat.min_eq_left hi] at this
    exact this
  exact mont_lt _ _ _ _ _ _ (Nat.pow_pos B64_pos) hM hY h.lt e.symm
theorem pow_room (P : Nat) (hP : 0 < P) (a b c d : Nat) (ha : a < 2 * P) (hb : b ≤ (B64 - 1) * P) (hc : c ≤ (B64 - 1) * P) : a + b + c < P * B64 * B64 := by
  have h1 : (B64 - 1) * P + P = P * B64 := by
    rw [Nat.sub_mul, Nat.one_mul, Nat.mul_comm P]
    have : P ≤ B64 * P := Nat.le_mul_of_pos_left _ B64_pos
    omega
  have h2 : P * B64 * 2 ≤ P * B64 * B64 := Nat.mul_le_mul_left _ (by unfold B64; decide)
  omega
/-- the low word of a number -/
theorem natW_mod (l : List Nat) (x : Nat) (h : l[0]? = some x) (hx : x < B64) : natW l % B64 = x := by
  cases l with
  | nil => cases h
  | cons y r =>
    simp only [List.getElem?_cons_zero, Option.some.injEq] at h
    subst h
    rw [natW, Nat.add_mul_mod_self_left, Nat.mod_eq_of_lt hx]
theorem MontAt.step {xs ys ms u1 u2 : List Nat} {n i q y t m0 inv : Nat} {row : List Nat} (h : MontAt xs ys ms n i row q) (hi : i < n) (hy : ys[i]? = some y) (hm0 : ms[0]? = some m0) (hms : okW ms) (hinv : (m0 * inv + 1) % B64 = 0)
    (hu1 : natW u1 = natW (row.drop i) + y * natW xs) (ht : u1[0]? = some t) (hok1 : okW u1) (hok2 : okW u2) (hl2 : u2.length = 2 * n + 1 - i) (hu2 : natW u2 = natW u1 + zeroBy t inv * natW ms) :
    MontAt xs ys ms n (i + 1) (row.take i ++ u2) (q + zeroBy t inv * B64 ^ i) := by
  have hrl := h.len
  have htl : (row.take i).length = i := by rw [List.length_take]; omega
  have e := natW_split row i (by omega)
  have hlow := h.low
  have hsum := h.sum
  rw [hlow, Nat.zero_add] at e
  have hz : natW u2 % B64 = 0 := by
    rw [hu2]
    exact zero_low B64 t m0 inv (natW ms) (natW u1) B64_pos (by rw [natW_mod u1 t ht (okW_get hok1 ht), Nat.mod_eq_of_lt (okW_get hok1 ht)]) (by rw [natW_mod ms m0 hm0 (okW_get hms hm0), Nat.mod_eq_of_lt (okW_get hms hm0)]) hinv
  have h0 : 0 < u2.length := by omega
  obtain ⟨v, hv⟩ : ∃ v, u2[0]? = some v := ⟨u2[0], List.getElem?_eq_getElem h0⟩
  have hv0 : v = 0 := by rw [← natW_mod u2 v hv (okW_get hok2 hv)]; exact hz
  refine ⟨by rw [List.length_append, htl, hl2]; omega, okW_append (okW_take h.ok i) hok2, ?_, ?_, ?_⟩
  · rw [natW_append, htl, hlow, Nat.zero_add, natW_take_succ ys i y hy, hu2, hu1]
    generalize zeroBy t inv = z at *
    generalize natW (row.drop i) = D at *
    generalize natW (ys.take i) = Y at *
    generalize natW row = R at *
    generalize natW xs = X at *
    generalize natW ms = M at *
    generalize B64 ^ i = P at *
    clear hz hu1 hu2 hlow h
    grind
  · have e2 : (row.take i ++ u2).take (i + 1) = row.take i ++ u2.take 1 := by
      rw [List.take_append, htl, List.take_of_length_le (by rw [htl]; omega), Nat.add_sub_cancel_left]
    have e3 : u2.take 1 = [v] := by
      have := List.take_add_one (l := u2) (i := 0)
      rw [hv] at this
      simpa using this
    rw [e2, natW_append, hlow, e3, hv0]
    simp [natW]
  · have hz2 := zeroBy_lt t inv
    have hq := h.lt
    rw [Nat.pow_succ]
    generalize zeroBy t inv = z at *
    generalize B64 ^ i = P at *
    have : (z + 1) * P ≤ B64 * P := Nat.mul_le_mul_right _ hz2
    rw [Nat.add_mul, Nat.one_mul, Nat.mul_comm B64] at this
    omega
theorem natW_drop_eq {row : List Nat} {i : Nat} (h : i ≤ row.length) (hlow : natW (row.take i) = 0) : natW row = B64 ^ i * natW (row.drop i) := by
  have := natW_split row i h
  rw [hlow, Nat.zero_add] at this
  exact this
end Go.Proofs.Ytckkhpegimkefaa
