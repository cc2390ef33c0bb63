/- What is decided by bits, plain. -/
import Derived.Test.YtklnbkfajjgkaagLow0
import Derived.Test.YtklnbkfajjgkaagShM
namespace Go.Proofs.Ytklnbkfajjgkaag
open Go.RowKit
set_option linter.unusedVariables false

def bitsOK (n : Int) : Bool := decide (0 ≤ n) && decide (n ≤ 4095)
def masksOK (m : XMasks) : Bool := bitsOK m.d && (bitsOK m.o && bitsOK m.f)
/-- one of the bits is among those of two masks -/
def hit (b c s : Int) : Bool := (b.toNat &&& (c.toNat ||| s.toNat)) != 0
def decOK (b : Int) (c s : XMasks) : Bool := bitsOK b && (masksOK c && masksOK s)
def decA (b : Int) (c s : XMasks) (able : Bool) : Int :=
  bif !decOK b c s then 0 else bif hit b c.d s.d then 1 else bif able then (bif hit b c.o s.o then 2 else 3) else (bif hit b c.f s.f then 1 else 3)
def decE (b : Int) (c s : XMasks) : Int := bif decOK b c s then 0 else 3

theorem bitsOK_iff (n : Int) : bitsOK n = true ↔ 0 ≤ n ∧ n ≤ 4095 := by simp [bitsOK]

theorem and_nat (a b : Nat) (ha : a < 2 ^ 63) (hb : b < 2 ^ 63) : bits .and .i64 (a : Int) (b : Int) = ((a &&& b : Nat) : Int) := (bits_nat .i64 63 (by decide) wraps_i64 a b ha hb).1
theorem or_natR (a b : Nat) (ha : a < 2 ^ 63) (hb : b < 2 ^ 63) : bits .or .i64 (a : Int) (b : Int) = ((a ||| b : Nat) : Int) := by
  have hx : a ||| b < 2 ^ 63 := Nat.or_lt_two_pow ha hb
  have hp : (2 : Nat) ^ 63 ≤ 2 ^ IntKind.i64.bits := by decide
  simp only [bits, BitVec.toNat_or, BitVec.toNat_ofInt]
  have ea : ((a : Int) % ((2 ^ IntKind.i64.bits : Nat) : Int)).toNat = a := by
    rw [← Int.natCast_emod, Int.toNat_natCast, Nat.mod_eq_of_lt (Nat.lt_of_lt_of_le ha hp)]
  have eb : ((b : Int) % ((2 ^ IntKind.i64.bits : Nat) : Int)).toNat = b := by
    rw [← Int.natCast_emod, Int.toNat_natCast, Nat.mod_eq_of_lt (Nat.lt_of_lt_of_le hb hp)]
  rw [ea, eb]
  exact wraps_i64 _ (by omega) (by exact_mod_cast hx)

/-- as the program asks it -/
theorem hit_or (b c s : Int) (hb : bitsOK b = true) (hc : bitsOK c = true) (hs : bitsOK s = true) : (bits .and .i64 b (bits .or .i64 c s) != 0) = hit b c s := by
  rw [bitsOK_iff] at hb hc hs
  obtain ⟨b, rfl⟩ := Int.eq_ofNat_of_zero_le hb.1
  obtain ⟨c, rfl⟩ := Int.eq_ofNat_of_zero_le hc.1
  obtain ⟨s, rfl⟩ := Int.eq_ofNat_of_zero_le hs.1
  have hx : c ||| s < 2 ^ 12 := Nat.or_lt_two_pow (by omega) (by omega)
  rw [or_natR c s (by omega) (by omega), and_nat b _ (by omega) (Nat.lt_trans hx (by decide))]
  unfold hit
  simp only [Int.toNat_natCast]
  rw [Bool.eq_iff_iff]
  simp
/-- as the document's own asks it -/
theorem hit_sum (b c s : Int) (hb : bitsOK b = true) (hc : bitsOK c = true) (hs : bitsOK s = true) : decide (0 < bits .and .i64 b c + bits .and .i64 b s) = hit b c s ∧ 0 ≤ bits .and .i64 b c ∧ bits .and .i64 b c ≤ 4095 ∧ 0 ≤ bits .and .i64 b s ∧ bits .and .i64 b s ≤ 4095 := by
  rw [bitsOK_iff] at hb hc hs
  obtain ⟨b, rfl⟩ := Int.eq_ofNat_of_zero_le hb.1
  obtain ⟨c, rfl⟩ := Int.eq_ofNat_of_zero_le hc.1
  obtain ⟨s, rfl⟩ := Int.eq_ofNat_of_zero_le hs.1
  rw [and_nat b c (by omega) (by omega), and_nat b s (by omega) (by omega)]
  have h1 : b &&& c ≤ b := Nat.and_le_left
  have h2 : b &&& s ≤ b := Nat.and_le_left
  refine ⟨?_, by omega, by omega, by omega, by omega⟩
  unfold hit
  simp only [Int.toNat_natCast]
  rw [Nat.and_or_distrib_left, Bool.eq_iff_iff]
  simp
  omega

/-- the low twelve bits of whatever number -/
theorem and_all (x : Int) : bits .and .i64 x 4095 = x % 4096 := by
  have hp : (2 : Nat) ^ IntKind.i64.bits = 18446744073709551616 := by decide
  simp only [bits, BitVec.toNat_and, BitVec.toNat_ofInt, hp]
  have e : ((4095 : Int) % ((18446744073709551616 : Nat) : Int)).toNat = 2 ^ 12 - 1 := by decide
  rw [e, Nat.and_two_pow_sub_one_eq_mod]
  have h : (((x % ((18446744073709551616 : Nat) : Int)).toNat % 2 ^ 12 : Nat) : Int) = x % 4096 := by omega
  rw [h]
  exact wraps_i64 _ (by omega) (by omega)

theorem hit_more (b m c s : Nat) (h : hit (b : Int) c s = true) : hit ((b ||| m : Nat) : Int) c s = true := by
  simp only [hit, Int.toNat_natCast] at h ⊢
  rw [Nat.and_comm, Nat.and_or_distrib_left, Nat.and_comm _ b]
  simp at h ⊢
  omega
theorem decOK_more (b m : Nat) (hb : b < 4096) (hm : m < 4096) (c s : XMasks) : decOK ((b ||| m : Nat) : Int) c s = decOK (b : Int) c s := by
  have hx : b ||| m < 2 ^ 12 := Nat.or_lt_two_pow (by omega) (by omega)
  have h1 : bitsOK ((b ||| m : Nat) : Int) = true := by rw [bitsOK_iff]; omega
  have h2 : bitsOK (b : Int) = true := by rw [bitsOK_iff]; omega
  unfold decOK
  rw [h1, h2]
theorem dec_more (b m : Nat) (hb : b < 4096) (hm : m < 4096) (c s : XMasks) (able : Bool) :
    decE ((b ||| m : Nat) : Int) c s = decE b c s ∧ decA ((b ||| m : Nat) : Int) c s able ≤ decA b c s able ∧ (decE b c s == 0) = decide (0 < decA b c s able) := by
  have ho := decOK_more b m hb hm c s
  refine ⟨by unfold decE; rw [ho], ?_, ?_⟩
  · unfold decA
    rw [ho]
    cases h : decOK (b : Int) c s with
    | false => simp
    | true =>
      have c1 : masksOK c = true ∧ masksOK s = true := by simp [decOK] at h; exact h.2
      have nn : ∀ x : XMasks, masksOK x = true → (∃ d : Nat, x.d = d) ∧ (∃ d : Nat, x.o = d) ∧ (∃ d : Nat, x.f = d) := fun x hx => by
        simp only [masksOK, Bool.and_eq_true, bitsOK_iff] at hx
        exact ⟨Int.eq_ofNat_of_zero_le hx.1.1, Int.eq_ofNat_of_zero_le hx.2.1.1, Int.eq_ofNat_of_zero_le hx.2.2.1⟩
      obtain ⟨⟨c1d, e1⟩, ⟨c1o, e2⟩, ⟨c1f, e3⟩⟩ := nn c c1.1
      obtain ⟨⟨s1d, e4⟩, ⟨s1o, e5⟩, ⟨s1f, e6⟩⟩ := nn s c1.2
      rw [e1, e2, e3, e4, e5, e6]
      have k1 := hit_more b m c1d s1d
      have k2 := hit_more b m c1o s1o
      have k3 := hit_more b m c1f s1f
      generalize hit ((b ||| m : Nat) : Int) c1d s1d = x1 at *
      generalize hit ((b ||| m : Nat) : Int) c1o s1o = x2 at *
      generalize hit ((b ||| m : Nat) : Int) c1f s1f = x3 at *
      generalize hit (b : Int) c1d s1d = y1 at *
      generalize hit (b : Int) c1o s1o = y2 at *
      generalize hit (b : Int) c1f s1f = y3 at *
      cases x1 <;> cases x2 <;> cases x3 <;> cases y1 <;> cases y2 <;> cases y3 <;> cases able <;> simp_all
  · unfold decE decA
    cases decOK (b : Int) c s <;> cases hit (b : Int) c.d s.d <;> cases able <;> cases hit (b : Int) c.o s.o <;> cases hit (b : Int) c.f s.f <;> simp
end Go.Proofs.Ytklnbkfajjgkaag
