/- The sum as a run over bits; a burst within 16 bits is seen: plain. -/
import Derived.Test.YthchicolifkpiaaDoorCrc
namespace Go.Proofs.YthchicolifkpiaaDoor

/-- n bits of f taken into x -/
def runF (x : Nat) (f : Nat → Nat) : Nat → Nat
  | 0 => x
  | n + 1 => bitStep (runF x f n) (f n)

theorem runF_lt (x : Nat) (f : Nat → Nat) (n : Nat) (hx : x < 65536) : runF x f n < 65536 := by
  cases n with
  | zero => exact hx
  | succ n => exact bitStep_lt _ _
theorem runF_add (x : Nat) (f : Nat → Nat) (a b : Nat) : runF x f (a + b) = runF (runF x f a) (fun i => f (a + i)) b := by
  induction b with
  | zero => rfl
  | succ b ih => rw [← Nat.add_assoc, runF, ih, runF]
theorem runF_congr (x : Nat) (f g : Nat → Nat) (n : Nat) (h : ∀ i, i < n → f i = g i) : runF x f n = runF x g n := by
  induction n with
  | zero => rfl
  | succ n ih => rw [runF, runF, ih (fun i hi => h i (by omega)), h n (by omega)]

theorem bit_cases {b : Nat} (h : b < 2) : b = 0 ∨ b = 1 := by omega

/-- one step, in one line: what is shifted, and what comes back -/
theorem bitStep_eq (x b : Nat) : bitStep x b = (x * 2 % 65536) ^^^ (if b ^^^ x / 32768 = 1 then 4129 else 0) := by
  unfold bitStep
  split
  · rfl
  · simp
theorem bitStep_xor (x y a b : Nat) (hx : x < 65536) (hy : y < 65536) (ha : a < 2) (hb : b < 2) : bitStep (x ^^^ y) (a ^^^ b) = bitStep x a ^^^ bitStep y b := by
  have h1 : (x ^^^ y) / 32768 = (x / 32768) ^^^ (y / 32768) := by
    rw [show 32768 = 2 ^ 15 by decide, ← Nat.shiftRight_eq_div_pow, ← Nat.shiftRight_eq_div_pow, ← Nat.shiftRight_eq_div_pow, Nat.shiftRight_xor_distrib]
  have h2 : (x ^^^ y) * 2 % 65536 = (x * 2 % 65536) ^^^ (y * 2 % 65536) := by
    have e : ∀ y : Nat, y * 2 = y <<< 1 := fun y => by rw [Nat.shiftLeft_eq]
    rw [e, Nat.shiftLeft_xor_distrib, ← e, ← e, show 65536 = 2 ^ 16 by decide, Nat.xor_mod_two_pow]
  rw [bitStep_eq, bitStep_eq, bitStep_eq, h1, h2]
  have hx2 : x / 32768 < 2 := by omega
  have hy2 : y / 32768 < 2 := by omega
  generalize x / 32768 = p at *
  generalize y / 32768 = q at *
  generalize x * 2 % 65536 = u
  generalize y * 2 % 65536 = v
  have e : (if a ^^^ b ^^^ (p ^^^ q) = 1 then 4129 else 0) = (if a ^^^ p = 1 then 4129 else 0) ^^^ (if b ^^^ q = 1 then (4129 : Nat) else 0) := by
    rcases bit_cases ha with rfl | rfl <;> rcases bit_cases hb with rfl | rfl <;> rcases bit_cases hx2 with rfl | rfl <;> rcases bit_cases hy2 with rfl | rfl <;> decide
  rw [e]
  simp only [Nat.xor_assoc]
  congr 1
  rw [← Nat.xor_assoc, ← Nat.xor_assoc, Nat.xor_comm v]
theorem runF_xor (x y : Nat) (f g : Nat → Nat) (n : Nat) (hx : x < 65536) (hy : y < 65536) (hf : ∀ i, f i < 2) (hg : ∀ i, g i < 2) :
    runF (x ^^^ y) (fun i => f i ^^^ g i) n = runF x f n ^^^ runF y g n := by
  induction n with
  | zero => rfl
  | succ n ih => rw [runF, ih, runF, runF, bitStep_xor _ _ _ _ (runF_lt x f n hx) (runF_lt y g n hy) (hf n) (hg n)]

theorem even_step (r b : Nat) (hr : r < 65536) (hb : b < 2) (h : bitStep r b % 2 = 0) : b = r / 32768 ∧ bitStep r b = r * 2 % 65536 := by
  rw [bitStep_eq] at h ⊢
  by_cases hc : b ^^^ r / 32768 = 1
  · rw [if_pos hc] at h
    have : (r * 2 % 65536 ^^^ 4129) % 2 = (r * 2 % 65536 % 2) ^^^ (4129 % 2) := Nat.xor_mod_two_pow (n := 1)
    rw [this] at h
    have h0 : r * 2 % 65536 % 2 = 0 := by omega
    rw [h0] at h
    simp at h
  · rw [if_neg hc, Nat.xor_zero]
    refine ⟨?_, rfl⟩
    have h2 : r / 32768 < 2 := by omega
    generalize r / 32768 = p at *
    rcases bit_cases hb with rfl | rfl <;> rcases bit_cases h2 with rfl | rfl <;> first | rfl | (exfalso; exact hc (by decide))

/-- what runs to nothing in 16 bits has been fed just its own bits -/
theorem drained (v : Nat) (e : Nat → Nat) (hv : v < 65536) (he : ∀ i, e i < 2) (h : runF v e 16 = 0) :
    ∀ k, k ≤ 16 → runF v e k = v * 2 ^ k % 65536 ∧ ∀ i, i < k → e i = v / 2 ^ (15 - i) % 2 := by
  have hm : ∀ j, j ≤ 16 → runF v e (16 - j) % 2 ^ (16 - j) = 0 := by
    intro j
    induction j with
    | zero => intro _; rw [Nat.sub_zero, h]
    | succ j ih =>
      intro hj
      have h1 := ih (by omega)
      obtain ⟨k, hk⟩ : ∃ k, 16 - j = k + 1 := ⟨15 - j, by omega⟩
      rw [show 16 - (j + 1) = k by omega]
      rw [hk] at h1
      have hev : bitStep (runF v e k) (e k) % 2 = 0 := by
        have h1' : runF v e (k + 1) % 2 ^ (k + 1) = 0 := h1
        have : runF v e (k + 1) % 2 = 0 := by
          rw [← Nat.mod_mod_of_dvd (runF v e (k + 1)) (show 2 ∣ 2 ^ (k + 1) from ⟨2 ^ k, by rw [Nat.pow_succ, Nat.mul_comm]⟩), h1']
        exact this
      have hs := (even_step _ _ (runF_lt v e k hv) (he k) hev).2
      rw [runF, hs] at h1
      have hk15 : k ≤ 15 := by omega
      rw [show (65536 : Nat) = 2 ^ (k + 1) * 2 ^ (15 - k) by rw [← Nat.pow_add, show k + 1 + (15 - k) = 16 by omega], Nat.mod_mul_right_mod, Nat.pow_succ] at h1
      rw [Nat.mul_mod_mul_right] at h1
      omega
  intro k
  induction k with
  | zero => intro _; exact ⟨by simp [runF]; omega, fun i hi => by omega⟩
  | succ k ih =>
    intro hk
    obtain ⟨h1, h2⟩ := ih (by omega)
    have hev : bitStep (runF v e k) (e k) % 2 = 0 := by
      have h3 := hm (15 - k) (by omega)
      rw [show 16 - (15 - k) = k + 1 by omega] at h3
      have : runF v e (k + 1) % 2 = 0 := by
        rw [← Nat.mod_mod_of_dvd (runF v e (k + 1)) (show 2 ∣ 2 ^ (k + 1) from ⟨2 ^ k, by rw [Nat.pow_succ, Nat.mul_comm]⟩), h3]
      exact this
    obtain ⟨h4, h5⟩ := even_step _ _ (runF_lt v e k hv) (he k) hev
    refine ⟨?_, fun i hi => ?_⟩
    · rw [runF, h5, h1, Nat.pow_succ, ← Nat.mul_assoc]
      omega
    · by_cases hik : i = k
      · subst hik
        rw [h4, h1]
        have e1 : 65536 = 32768 * 2 := by decide
        have hd : v * 2 ^ i % 65536 / 32768 = v * 2 ^ i / 32768 % 2 := by omega
        rw [hd, show (32768 : Nat) = 2 ^ (15 - i) * 2 ^ i by rw [← Nat.pow_add, show 15 - i + i = 15 by omega], Nat.mul_div_mul_right _ _ (Nat.pow_pos (by decide))]
      · exact h2 i (by omega)
/-- and what is fed its own bits runs to nothing -/
theorem drains (v : Nat) (e : Nat → Nat) (hv : v < 65536) (h : ∀ i, i < 16 → e i = v / 2 ^ (15 - i) % 2) : ∀ k, k ≤ 16 → runF v e k = v * 2 ^ k % 65536 := by
  intro k
  induction k with
  | zero => intro _; simp [runF]; omega
  | succ k ih =>
    intro hk
    have h1 := ih (by omega)
    have hd : v * 2 ^ k % 65536 / 32768 = v / 2 ^ (15 - k) % 2 := by
      have hd : v * 2 ^ k % 65536 / 32768 = v * 2 ^ k / 32768 % 2 := by omega
      rw [hd, show (32768 : Nat) = 2 ^ (15 - k) * 2 ^ k by rw [← Nat.pow_add, show 15 - k + k = 15 by omega], Nat.mul_div_mul_right _ _ (Nat.pow_pos (by decide))]
    rw [runF, h1, bitStep_eq, hd, h k (by omega), Nat.xor_self, if_neg (by decide), Nat.xor_zero, Nat.pow_succ, ← Nat.mul_assoc]
    omega

theorem zero_back (r : Nat) (hr : r < 65536) (h : bitStep r 0 = 0) : r = 0 := by
  obtain ⟨h1, h2⟩ := even_step r 0 hr (by decide) (by rw [h])
  omega
theorem runF_zeros (x : Nat) (f : Nat → Nat) (hx : x < 65536) : ∀ n, (∀ i, i < n → f i = 0) → (runF x f n = 0 ↔ x = 0) := by
  intro n
  induction n with
  | zero => intro _; exact Iff.rfl
  | succ n ih =>
    intro h
    rw [← ih (fun i hi => h i (by omega)), runF, h n (by omega)]
    constructor
    · exact zero_back _ (runF_lt x f n hx)
    · intro h0; rw [h0]; decide

/-- A BURST IS SEEN: bits that are turned, all of them within 16 that stand next to each other, and that leave no trace, are none. -/
theorem burst (E : Nat → Nat) (at0 N : Nat) (hE : ∀ i, E i < 2) (hlo : ∀ i, i < at0 → E i = 0) (hhi : ∀ i, at0 + 16 ≤ i → E i = 0) (hN : ∀ i, N ≤ i → E i = 0) (h : runF 0 E N = 0) : ∀ i, E i = 0 := by
  -- further on nothing comes
  have hbig : runF 0 E (N + (at0 + 16)) = 0 := by
    rw [runF_add, h]
    exact (runF_zeros 0 _ (by decide) _ (fun i _ => hN _ (by omega))).2 rfl
  rw [show N + (at0 + 16) = (at0 + 16) + N by omega, runF_add] at hbig
  have h16 := (runF_zeros _ _ (runF_lt 0 E _ (by decide)) N (fun i _ => hhi _ (by omega))).1 hbig
  rw [runF_add, (runF_zeros 0 E (by decide) at0 hlo).2 rfl] at h16
  have hd := (drained 0 (fun i => E (at0 + i)) (by decide) (fun i => hE _) h16 16 (Nat.le_refl _)).2
  intro i
  by_cases h1 : i < at0
  · exact hlo i h1
  · by_cases h2 : at0 + 16 ≤ i
    · exact hhi i h2
    · have := hd (i - at0) (by omega)
      rw [show at0 + (i - at0) = i by omega] at this
      rw [this]
      simp

/-- bit i of bytes, the high one first -/
def bitAt (l : List UInt8) (i : Nat) : Nat := (l.getD (i / 8) 0).toNat / 2 ^ (7 - i % 8) % 2
theorem bitAt_lt (l : List UInt8) (i : Nat) : bitAt l i < 2 := Nat.mod_lt _ (by decide)
theorem bitsTo_run (x c : Nat) (f : Nat → Nat) (j : Nat) (hf : ∀ i, i < j → f i = c / 2 ^ (7 - i) % 2) : bitsTo x c j = runF x f j := by
  induction j with
  | zero => rfl
  | succ j ih => rw [bitsTo, runF, ih (fun i hi => hf i (by omega)), hf j (by omega)]
theorem sumN_run (l : List UInt8) : ∀ k, k ≤ l.length → sumN (l.take k) = runF 65535 (bitAt l) (8 * k) := by
  intro k
  induction k with
  | zero => intro _; rfl
  | succ k ih =>
    intro hk
    rw [List.take_succ_eq_append_getElem (by omega), sumN_snoc, ih (by omega), ← bitsTo_eight, Nat.mul_succ, runF_add]
    refine bitsTo_run _ _ _ 8 (fun i hi => ?_)
    unfold bitAt
    rw [show (8 * k + i) / 8 = k by omega, show (8 * k + i) % 8 = i by omega, List.getD_eq_getElem?_getD, List.getElem?_eq_getElem (by omega)]
    rfl
/-- a text whose last two bytes are the sum of the others runs to nothing, and no other -/
theorem sum_zero (l : List UInt8) (k : Nat) (hl : l.length = k + 2) :
    sumN (l.take k) = (l.getD k 0).toNat * 256 + (l.getD (k + 1) 0).toNat ↔ runF 65535 (bitAt l) (8 * (k + 2)) = 0 := by
  have hv := sumN_lt (l.take k)
  have hr := sumN_run l k (by omega)
  rw [show 8 * (k + 2) = 8 * k + 16 by omega, runF_add, ← hr]
  generalize sumN (l.take k) = v at *
  have hb : ∀ i, i < 16 → bitAt l (8 * k + i) = ((l.getD k 0).toNat * 256 + (l.getD (k + 1) 0).toNat) / 2 ^ (15 - i) % 2 := by
    intro i hi
    have l0 : (l.getD k 0).toNat < 256 := UInt8.toNat_lt _
    have l1 : (l.getD (k + 1) 0).toNat < 256 := UInt8.toNat_lt _
    unfold bitAt
    by_cases h8 : i < 8
    · rw [show (8 * k + i) / 8 = k by omega, show (8 * k + i) % 8 = i by omega]
      generalize (l.getD k 0).toNat = x at *
      generalize (l.getD (k + 1) 0).toNat = y at *
      rw [show 15 - i = 8 + (7 - i) by omega, Nat.pow_add, ← Nat.div_div_eq_div_mul, show (x * 256 + y) / 2 ^ 8 = x by omega]
    · rw [show (8 * k + i) / 8 = k + 1 by omega, show (8 * k + i) % 8 = i - 8 by omega, show 7 - (i - 8) = 15 - i by omega]
      generalize (l.getD k 0).toNat = x at *
      generalize (l.getD (k + 1) 0).toNat = y at *
      have hj : 15 - i ≤ 7 := by omega
      rw [show x * 256 + y = y + 2 ^ (15 - i) * (2 * (x * 2 ^ (7 - (15 - i)))) by
        rw [show 2 ^ (15 - i) * (2 * (x * 2 ^ (7 - (15 - i)))) = x * (2 * (2 ^ (15 - i) * 2 ^ (7 - (15 - i)))) by
          rw [Nat.mul_left_comm, Nat.mul_left_comm (2 ^ (15 - i)), Nat.mul_left_comm 2 x], ← Nat.pow_add, show 15 - i + (7 - (15 - i)) = 7 by omega]
        omega]
      rw [Nat.add_mul_div_left _ _ (Nat.pow_pos (by decide))]
      omega
  constructor
  · intro h
    rw [drains v _ hv (fun i hi => by rw [hb i hi, ← h]) 16 (Nat.le_refl _)]
    omega
  · intro h
    have hd := (drained v _ hv (fun i => bitAt_lt _ _) h 16 (Nat.le_refl _)).2
    have l0 : (l.getD k 0).toNat < 256 := UInt8.toNat_lt _
    have l1 : (l.getD (k + 1) 0).toNat < 256 := UInt8.toNat_lt _
    apply Nat.eq_of_testBit_eq
    intro j
    by_cases hj : j < 16
    · have h1 := hd (15 - j) (by omega)
      have h2 := hb (15 - j) (by omega)
      rw [h2, show 15 - (15 - j) = j by omega] at h1
      rw [Nat.testBit_eq_decide_div_mod_eq, Nat.testBit_eq_decide_div_mod_eq, h1]
    · have hp : 65536 ≤ 2 ^ j := by
        have : 2 ^ 16 ≤ 2 ^ j := Nat.pow_le_pow_right (by decide) (by omega)
        omega
      rw [Nat.testBit_lt_two_pow (by omega), Nat.testBit_lt_two_pow (by omega)]
end Go.Proofs.YthchicolifkpiaaDoor
