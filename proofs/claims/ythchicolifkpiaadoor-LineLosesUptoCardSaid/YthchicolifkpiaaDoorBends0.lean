/- A frame is read again as the block that it was made of; one that is bent within 16 bits is not read: plain. -/
import Derived.Test.YthchicolifkpiaaDoorUnframe2
import Derived.Test.YthchicolifkpiaaDoorBurst
namespace Go.Proofs.YthchicolifkpiaaDoor
open Go.RowKit
set_option linter.unusedVariables false

theorem frameS_list (t n : Int) (m h : Bool) (b : ByteArray) :
    (frameS t n m h b).data.toList = frameL t n m h b ++ [UInt8.ofNat (sumN (frameL t n m h b) / 256 % 256), UInt8.ofNat (sumN (frameL t n m h b) % 256)] := by
  unfold frameS
  rw [ByteArray.data_append, Array.toList_append, strOfNums_data]
  simp only [bigL, List.map_cons, List.map_nil, Int.toNat_natCast, Nat.pow_one, Nat.pow_zero, Nat.div_one]
theorem frameL_length (t n : Int) (m h : Bool) (b : ByteArray) : (frameL t n m h b).length = b.size + 2 := by
  simp [frameL]
theorem frameS_size (t n : Int) (m h : Bool) (b : ByteArray) : (frameS t n m h b).size = b.size + 4 := by
  have : (frameS t n m h b).data.toList.length = b.size + 4 := by rw [frameS_list, List.length_append, frameL_length]; rfl
  simpa using this
theorem headN_cases (t n : Int) (m h : Bool) (ht : t = 0 ∨ t = 1) (hn : n = 0 ∨ n = 1) :
    (headN t n m h).toNat ≤ 15 ∧ (((headN t n m h).toNat % 2 : Nat) : Int) = t ∧ (((headN t n m h).toNat / 2 % 2 : Nat) : Int) = n ∧ ((headN t n m h).toNat / 4 % 2 == 1) = m ∧ ((headN t n m h).toNat / 8 % 2 == 1) = h := by
  rcases ht with rfl | rfl <;> rcases hn with rfl | rfl <;> cases m <;> cases h <;> decide

theorem bytes_ext {a b : ByteArray} (h : a.data.toList = b.data.toList) : a = b := by
  apply ByteArray.ext
  apply Array.toList_inj.1
  exact h

theorem roundtrip (t n : Int) (m h : Bool) (b : ByteArray) (he : checkE t n m h b = 0) :
    unfE (frameS t n m h b) = 0 ∧ uT (frameS t n m h b) = t ∧ uN (frameS t n m h b) = n ∧ uM (frameS t n m h b) = m ∧ uH (frameS t n m h b) = h ∧ uB (frameS t n m h b) = b := by
  obtain ⟨ht, hn, hb, _⟩ := checkE_zero he
  rw [turnB_iff] at ht hn
  obtain ⟨h15, eT, eN, eM, eH⟩ := headN_cases t n m h ht hn
  have hsz := frameS_size t n m h b
  have hl := frameS_list t n m h b
  have hlen := frameL_length t n m h b
  have b0 : byteAt (frameS t n m h b) 0 = (headN t n m h).toNat := by
    unfold byteAt
    rw [hl]
    simp [frameL]
    omega
  have b1 : byteAt (frameS t n m h b) 1 = b.size := by
    unfold byteAt
    rw [hl]
    simp [frameL]
    omega
  have hx6 := sumN_lt (frameL t n m h b)
  have bx : byteAt (frameS t n m h b) (b.size + 2) = sumN (frameL t n m h b) / 256 := by
    unfold byteAt
    rw [hl, List.getD_eq_getElem?_getD, List.getElem?_append_right (by omega), hlen]
    simp
    omega
  have by1 : byteAt (frameS t n m h b) (b.size + 3) = sumN (frameL t n m h b) % 256 := by
    unfold byteAt
    rw [hl, List.getD_eq_getElem?_getD, List.getElem?_append_right (by omega), hlen, show b.size + 3 - (b.size + 2) = 1 by omega]
    simp
  have htake : (frameS t n m h b).data.toList.take (b.size + 2) = frameL t n m h b := by rw [hl, ← hlen, List.take_left]
  have hB' : hB (frameS t n m h b) = b := by
    apply bytes_ext
    unfold hB
    rw [ByteArray.data_extract, Array.toList_extract, List.extract_eq_take_drop, hsz, hl]
    simp [frameL]
  have e0 : unfE (frameS t n m h b) = 0 := by
    unfold unfE
    rw [if_neg (by omega), if_neg (by rw [b1, b0]; omega), show (frameS t n m h b).size - 2 = b.size + 2 by omega, show (frameS t n m h b).size - 1 = b.size + 3 by omega, htake, bx, by1, if_neg (by omega)]
    rw [hB', show ((hT (frameS t n m h b) : Nat) : Int) = t by unfold hT; rw [b0]; exact eT, show ((hN (frameS t n m h b) : Nat) : Int) = n by unfold hN; rw [b0]; exact eN,
      show hM (frameS t n m h b) = m by unfold hM; rw [b0]; exact eM, show hH (frameS t n m h b) = h by unfold hH; rw [b0]; exact eH]
    exact he
  refine ⟨e0, ?_, ?_, ?_, ?_, ?_⟩
  · unfold uT; rw [if_pos e0]; unfold hT; rw [b0]; exact eT
  · unfold uN; rw [if_pos e0]; unfold hN; rw [b0]; exact eN
  · unfold uM; rw [if_pos e0]; unfold hM; rw [b0]; exact eM
  · unfold uH; rw [if_pos e0]; unfold hH; rw [b0]; exact eH
  · unfold uB; rw [if_pos e0]; exact hB'

/-- what Unframe takes runs to nothing -/
theorem taken_zero (s : ByteArray) (h : unfE s = 0) : runF 65535 (bitAt s.data.toList) (8 * s.size) = 0 := by
  unfold unfE at h
  by_cases h1 : s.size < 4
  · rw [if_pos h1] at h; simp at h
  · rw [if_neg h1] at h
    by_cases h2 : s.size ≠ 4 + byteAt s 1 ∨ 15 < byteAt s 0
    · rw [if_pos h2] at h; simp at h
    · rw [if_neg h2] at h
      by_cases h3 : sumN (s.data.toList.take (s.size - 2)) ≠ byteAt s (s.size - 2) * 256 + byteAt s (s.size - 1)
      · rw [if_pos h3] at h; simp at h
      · have h3' : sumN (s.data.toList.take (s.size - 2)) = byteAt s (s.size - 2) * 256 + byteAt s (s.size - 1) := by omega
        have hz := sum_zero s.data.toList (s.size - 2) (by simp; omega)
        rw [show s.size - 2 + 1 = s.size - 1 by omega, show s.size - 2 + 2 = s.size by omega] at hz
        exact hz.1 h3'

/-- one bit of bytes is turned -/
def flipL (L : List UInt8) (k : Nat) : List UInt8 := L.set (k / 8) (UInt8.ofNat ((L.getD (k / 8) 0).toNat ^^^ 128 / 2 ^ (k % 8)))
theorem flipL_length (L : List UInt8) (k : Nat) : (flipL L k).length = L.length := by simp [flipL]
theorem flip_bit (c : Nat) (hc : c < 256) (p q : Nat) (hp : p < 8) (hq : q < 8) : (c ^^^ 128 / 2 ^ p) / 2 ^ (7 - q) % 2 = (c / 2 ^ (7 - q) % 2) ^^^ (if q = p then 1 else 0) := by
  have e : 128 / 2 ^ p = 2 ^ (7 - p) := by
    have : p = 0 ∨ p = 1 ∨ p = 2 ∨ p = 3 ∨ p = 4 ∨ p = 5 ∨ p = 6 ∨ p = 7 := by omega
    rcases this with rfl | rfl | rfl | rfl | rfl | rfl | rfl | rfl <;> decide
  rw [e, ← Nat.shiftRight_eq_div_pow, Nat.shiftRight_xor_distrib, Nat.shiftRight_eq_div_pow, Nat.shiftRight_eq_div_pow]
  have h2 : ∀ a b : Nat, (a ^^^ b) % 2 = (a % 2) ^^^ (b % 2) := fun a b => Nat.xor_mod_two_pow (n := 1)
  rw [h2]
  congr 1
  by_cases h : q = p
  · subst h
    rw [if_pos rfl, Nat.div_self (Nat.pow_pos (by decide))]
  · rw [if_neg h]
    have hh : ∀ a b : Fin 8, a ≠ b → 2 ^ (7 - a.val) / 2 ^ (7 - b.val) % 2 = 0 := by decide
    exact hh ⟨p, hp⟩ ⟨q, hq⟩ (by intro e; exact h (by have := congrArg Fin.val e; simpa using this.symm))
theorem bitAt_flip (L : List UInt8) (k i : Nat) (hk : k < 8 * L.length) : bitAt (flipL L k) i = bitAt L i ^^^ (if i = k then 1 else 0) := by
  unfold bitAt flipL
  by_cases h : i / 8 = k / 8
  · rw [h, List.getD_eq_getElem?_getD, List.getElem?_set_self (by omega), Option.getD_some]
    have hc : (L.getD (k / 8) 0).toNat < 256 := UInt8.toNat_lt _
    generalize (L.getD (k / 8) 0).toNat = c at *
    have hx : c ^^^ 128 / 2 ^ (k % 8) < 256 := Nat.xor_lt_two_pow (n := 8) hc (Nat.lt_of_le_of_lt (Nat.div_le_self _ _) (by decide))
    rw [UInt8.toNat_ofNat', show (c ^^^ 128 / 2 ^ (k % 8)) % 2 ^ 8 = c ^^^ 128 / 2 ^ (k % 8) from Nat.mod_eq_of_lt (by simpa using hx), flip_bit c hc (k % 8) (i % 8) (Nat.mod_lt _ (by decide)) (Nat.mod_lt _ (by decide))]
    congr 1
    by_cases hik : i = k
    · rw [if_pos (by rw [hik]), if_pos hik]
    · rw [if_neg (by omega), if_neg hik]
  · rw [List.getD_eq_getElem?_getD, List.getElem?_set_ne (by omega), ← List.getD_eq_getElem?_getD, if_neg (by intro e; exact h (by rw [e])), Nat.xor_zero]

/-- the bytes behind j of the rounds -/
def bentTo (F : List UInt8) (at0 c : Nat) : Nat → List UInt8
  | 0 => F
  | j + 1 => if c / 2 ^ j % 2 = 1 ∧ at0 + j < 8 * F.length then flipL (bentTo F at0 c j) (at0 + j) else bentTo F at0 c j
theorem bentTo_length (F : List UInt8) (at0 c j : Nat) : (bentTo F at0 c j).length = F.length := by
  induction j with
  | zero => rfl
  | succ j ih =>
    unfold bentTo
    split
    · rw [flipL_length, ih]
    · exact ih
theorem bentTo_bit (F : List UInt8) (at0 c j i : Nat) : bitAt (bentTo F at0 c j) i = bitAt F i ^^^ (if at0 ≤ i ∧ i < at0 + j ∧ c / 2 ^ (i - at0) % 2 = 1 ∧ i < 8 * F.length then 1 else 0) := by
  induction j with
  | zero => rw [bentTo, if_neg (by omega), Nat.xor_zero]
  | succ j ih =>
    unfold bentTo
    by_cases h : c / 2 ^ j % 2 = 1 ∧ at0 + j < 8 * F.length
    · rw [if_pos h, bitAt_flip _ _ _ (by rw [bentTo_length]; exact h.2), ih, Nat.xor_assoc]
      congr 1
      by_cases hi : i = at0 + j
      · subst hi
        rw [if_neg (by omega), if_pos rfl, if_pos ⟨by omega, by omega, by rw [show at0 + j - at0 = j by omega]; exact h.1, h.2⟩]
        rfl
      · rw [if_neg hi, Nat.xor_zero]
        by_cases hc : at0 ≤ i ∧ i < at0 + j ∧ c / 2 ^ (i - at0) % 2 = 1 ∧ i < 8 * F.length
        · rw [if_pos hc, if_pos ⟨hc.1, by omega, hc.2.2.1, hc.2.2.2⟩]
        · rw [if_neg hc, if_neg (fun h' => hc ⟨h'.1, by omega, h'.2.2.1, h'.2.2.2⟩)]
    · rw [if_neg h, ih]
      congr 1
      by_cases hc : at0 ≤ i ∧ i < at0 + j ∧ c / 2 ^ (i - at0) % 2 = 1 ∧ i < 8 * F.length
      · rw [if_pos hc, if_pos ⟨hc.1, by omega, hc.2.2.1, hc.2.2.2⟩]
      · rw [if_neg hc]
        rw [if_neg (fun h' => by
          by_cases hi : i = at0 + j
          · subst hi
            rw [show at0 + j - at0 = j by omega] at h'
            exact h ⟨h'.2.2.1, h'.2.2.2⟩
          · exact hc ⟨h'.1, by omega, h'.2.2.1, h'.2.2.2⟩)]
theorem bits_ext (a b : List UInt8) (hl : a.length = b.length) (h : ∀ i, bitAt a i = bitAt b i) : a = b := by
  apply List.ext_getElem hl
  intro i h1 h2
  apply UInt8.toNat_inj.1
  apply Nat.eq_of_testBit_eq
  intro j
  by_cases hj : j < 8
  · have := h (8 * i + (7 - j))
    unfold bitAt at this
    rw [show (8 * i + (7 - j)) / 8 = i by omega, show (8 * i + (7 - j)) % 8 = 7 - j by omega, show 7 - (7 - j) = j by omega, List.getD_eq_getElem?_getD, List.getD_eq_getElem?_getD, List.getElem?_eq_getElem h1, List.getElem?_eq_getElem h2] at this
    rw [Nat.testBit_eq_decide_div_mod_eq, Nat.testBit_eq_decide_div_mod_eq]
    simp only [Option.getD_some] at this
    rw [this]
  · have hp : 256 ≤ 2 ^ j := by
      have : 2 ^ 8 ≤ 2 ^ j := Nat.pow_le_pow_right (by decide) (by omega)
      omega
    rw [Nat.testBit_lt_two_pow (Nat.lt_of_lt_of_le (UInt8.toNat_lt _) hp), Nat.testBit_lt_two_pow (Nat.lt_of_lt_of_le (UInt8.toNat_lt _) hp)]

/-- A BENT FRAME IS NOT TAKEN -/
theorem bent_seen (s s' : ByteArray) (at0 c : Nat) (h0 : unfE s = 0) (hs : s'.data.toList = bentTo s.data.toList at0 c 16) (hne : s'.data.toList ≠ s.data.toList) : unfE s' ≠ 0 := by
  intro h1
  have z0 := taken_zero s h0
  have z1 := taken_zero s' h1
  have hlen : s'.size = s.size := by
    have : s'.data.toList.length = s.data.toList.length := by rw [hs, bentTo_length]
    simpa using this
  rw [hlen, hs] at z1
  have hx := runF_xor 65535 0 (bitAt s.data.toList) (fun i => if at0 ≤ i ∧ i < at0 + 16 ∧ c / 2 ^ (i - at0) % 2 = 1 ∧ i < 8 * s.data.toList.length then 1 else 0) (8 * s.size) (by decide) (by decide) (bitAt_lt _) (fun i => by split <;> decide)
  rw [Nat.xor_zero, z0, Nat.zero_xor] at hx
  rw [runF_congr _ _ _ _ (fun i _ => (bentTo_bit s.data.toList at0 c 16 i).symm), z1] at hx
  have hb := burst _ at0 (8 * s.size) (fun i => by split <;> decide) (fun i hi => if_neg (by omega)) (fun i hi => if_neg (by omega)) (fun i hi => if_neg (by simp; omega)) hx.symm
  apply hne
  rw [hs]
  apply bits_ext _ _ (bentTo_length _ _ _ _)
  intro i
  rw [bentTo_bit, hb i, Nat.xor_zero]
end Go.Proofs.YthchicolifkpiaaDoor
