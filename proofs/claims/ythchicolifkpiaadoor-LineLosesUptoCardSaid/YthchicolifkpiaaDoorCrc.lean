/- The sum of a frame, plain: bit by bit, and four bits at a time by a table: they come to the same. -/
import Derived.WalkKit
namespace Go.Proofs.YthchicolifkpiaaDoor

/-- one bit: what falls out, with the bit that comes, brings 4129 back -/
def bitStep (x b : Nat) : Nat := if b ^^^ x / 32768 = 1 then x * 2 % 65536 ^^^ 4129 else x * 2 % 65536
/-- four bits, the high one first -/
def nibBits (x v : Nat) : Nat := bitStep (bitStep (bitStep (bitStep x (v / 8 % 2)) (v / 4 % 2)) (v / 2 % 2)) (v % 2)
def stepsT : List Nat := [0x0000, 0x1021, 0x2042, 0x3063, 0x4084, 0x50a5, 0x60c6, 0x70e7, 0x8108, 0x9129, 0xa14a, 0xb16b, 0xc18c, 0xd1ad, 0xe1ce, 0xf1ef]
def nib (x v : Nat) : Nat := (x * 16 % 65536) ^^^ stepsT.getD (x / 4096 ^^^ v) 0

theorem bitStep_lt (x b : Nat) : bitStep x b < 65536 := by
  unfold bitStep
  split
  · exact Nat.xor_lt_two_pow (n := 16) (Nat.mod_lt _ (by decide)) (by decide)
  · exact Nat.mod_lt _ (by decide)

theorem bitStep_lin (x l b : Nat) (hl : l < 32768) : bitStep (x ^^^ l) b = bitStep x b ^^^ (2 * l) := by
  have h1 : (x ^^^ l) / 32768 = x / 32768 := by
    rw [show 32768 = 2 ^ 15 by decide, ← Nat.shiftRight_eq_div_pow, ← Nat.shiftRight_eq_div_pow, Nat.shiftRight_xor_distrib, Nat.shiftRight_eq_div_pow l, Nat.div_eq_of_lt (by omega)]
    simp
  have h2 : (x ^^^ l) * 2 % 65536 = (x * 2 % 65536) ^^^ (2 * l) := by
    have e : ∀ y : Nat, y * 2 = y <<< 1 := fun y => by rw [Nat.shiftLeft_eq]
    rw [e, Nat.shiftLeft_xor_distrib, ← e, ← e, show 65536 = 2 ^ 16 by decide, Nat.xor_mod_two_pow, Nat.mul_comm l, Nat.mod_eq_of_lt (a := 2 * l) (by omega)]
  unfold bitStep
  rw [h1, h2]
  split
  · rw [Nat.xor_assoc, Nat.xor_assoc, Nat.xor_comm (2 * l)]
  · rfl

theorem nibBits_lin (x l v : Nat) (hl : l < 4096) : nibBits (x ^^^ l) v = nibBits x v ^^^ (16 * l) := by
  unfold nibBits
  rw [bitStep_lin x l _ (by omega), bitStep_lin _ (2 * l) _ (by omega), bitStep_lin _ (2 * (2 * l)) _ (by omega), bitStep_lin _ (2 * (2 * (2 * l))) _ (by omega)]
  congr 1
  omega

theorem nib_high : ∀ h : Fin 16, ∀ v : Fin 16, nibBits (h.val * 4096) v.val = stepsT.getD (h.val ^^^ v.val) 0 := by decide

theorem nib_eq (x v : Nat) (hx : x < 65536) (hv : v < 16) : nib x v = nibBits x v := by
  have hd : x = (x / 4096 * 4096) ^^^ (x % 4096) := by
    have := Nat.two_pow_add_eq_or_of_lt (i := 12) (b := x % 4096) (Nat.mod_lt _ (by decide)) (x / 4096)
    have e2 : x = x / 4096 * 4096 + x % 4096 := by omega
    have e3 : (x / 4096 * 4096) ^^^ (x % 4096) = x / 4096 * 4096 + x % 4096 := by
      apply Nat.eq_of_testBit_eq
      intro i
      rw [show x / 4096 * 4096 + x % 4096 = 2 ^ 12 * (x / 4096) + x % 4096 by omega, this, Nat.testBit_or, Nat.testBit_xor, show x / 4096 * 4096 = 2 ^ 12 * (x / 4096) by omega]
      by_cases hi : i < 12
      · rw [Nat.testBit_two_pow_mul, show decide (i ≥ 12) = false by simp; omega]; simp
      · rw [Nat.testBit_lt_two_pow (x := x % 4096) (Nat.lt_of_lt_of_le (Nat.mod_lt _ (by decide)) (show 4096 ≤ 2 ^ i from by
          have : 2 ^ 12 ≤ 2 ^ i := Nat.pow_le_pow_right (by decide) (by omega)
          omega))]
        simp
    rw [e3]; exact e2
  have hh := nib_high ⟨x / 4096, by omega⟩ ⟨v, hv⟩
  simp only at hh
  unfold nib
  rw [show nibBits x v = nibBits ((x / 4096 * 4096) ^^^ (x % 4096)) v by rw [← hd], nibBits_lin _ _ _ (Nat.mod_lt _ (by decide)), hh, Nat.xor_comm]
  congr 1
  omega

/-- a byte, bit by bit -/
def byteBits (x c : Nat) : Nat := nibBits (nibBits x (c / 16)) (c % 16)
theorem nibBits_lt (x v : Nat) : nibBits x v < 65536 := bitStep_lt _ _
theorem byteBits_lt (x c : Nat) : byteBits x c < 65536 := bitStep_lt _ _
theorem nib_byte (x c : Nat) (hx : x < 65536) (hc : c < 256) : nib (nib x (c / 16)) (c % 16) = byteBits x c := by
  rw [nib_eq x _ hx (by omega), nib_eq _ _ (nibBits_lt _ _) (by omega)]; rfl

/-- the sum of bytes -/
def sumN (l : List UInt8) : Nat := l.foldl (fun x c => byteBits x c.toNat) 65535
theorem sumN_snoc (l : List UInt8) (c : UInt8) : sumN (l ++ [c]) = byteBits (sumN l) c.toNat := by simp [sumN, List.foldl_append]
theorem sumN_lt (l : List UInt8) : sumN l < 65536 := by
  rcases List.eq_nil_or_concat l with rfl | ⟨l', c, rfl⟩
  · decide
  · rw [List.concat_eq_append, sumN_snoc]; exact byteBits_lt _ _

/-- behind j of a byte's eight bits -/
def bitsTo (x c : Nat) : Nat → Nat
  | 0 => x
  | j + 1 => bitStep (bitsTo x c j) (c / 2 ^ (7 - j) % 2)
theorem bitsTo_eight (x c : Nat) : bitsTo x c 8 = byteBits x c := by
  simp only [bitsTo, byteBits, nibBits]
  have e : ∀ k : Nat, c / 16 / 2 ^ k = c / 2 ^ (k + 4) := fun k => by rw [Nat.div_div_eq_div_mul, Nat.mul_comm 16, Nat.pow_add]
  have e0 := e 3
  have e1 := e 2
  have e2 := e 1
  have e3 := e 0
  simp only [Nat.reducePow, Nat.reduceAdd, Nat.reduceSub, Nat.div_one] at e0 e1 e2 e3 ⊢
  rw [e0, e1, e2]
  have m3 : c / 16 % 2 = c / 16 % 2 := rfl
  have l3 : c % 16 / 8 % 2 = c / 8 % 2 := by omega
  have l2 : c % 16 / 4 % 2 = c / 4 % 2 := by omega
  have l1 : c % 16 / 2 % 2 = c / 2 % 2 := by omega
  have l0 : c % 16 % 2 = c % 2 := by omega
  rw [l3, l2, l1, l0]
theorem bitsTo_lt (x c j : Nat) (hx : x < 65536) : bitsTo x c j < 65536 := by
  cases j with
  | zero => exact hx
  | succ j => exact bitStep_lt _ _
end Go.Proofs.YthchicolifkpiaaDoor
