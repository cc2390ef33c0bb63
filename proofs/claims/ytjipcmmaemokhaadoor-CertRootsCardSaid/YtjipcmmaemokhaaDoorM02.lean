/- Rows of parts, plain: unlike lists are unlike rows. -/
import Derived.Test.YtjipcmmaemokhaaDoorM01
import Derived.Deep.QuietTactic
import Derived.BigQuiet
import Derived.Lib.Strings
namespace Go.Proofs.YtjipcmmaemokhaaDoor
open Go.RowKit
set_option linter.unusedVariables false

/-- a part, with how long it is ahead -/
def partL (p : ByteArray) : List UInt8 := bytesOf (bigL p.size 4) ++ p.data.toList
def rowL : List ByteArray → List UInt8
  | [] => []
  | p :: r => partL p ++ rowL r
def rowS (l : List ByteArray) : ByteArray := ⟨(rowL l).toArray⟩
theorem rowS_data (l : List ByteArray) : (rowS l).data.toList = rowL l := by simp [rowS]
theorem rowL_append (a b : List ByteArray) : rowL (a ++ b) = rowL a ++ rowL b := by
  induction a with
  | nil => rfl
  | cons p r ih => rw [List.cons_append, rowL, rowL, ih, List.append_assoc]
theorem partL_length (p : ByteArray) : (partL p).length = 4 + p.size := by
  simp [partL, bytesOf, bigL_length]
theorem big4_inj (m n : Nat) (hm : m < 4294967296) (hn : n < 4294967296) (h : bytesOf (bigL m 4) = bytesOf (bigL n 4)) : m = n := by
  simp only [bytesOf, bigL, List.map_cons, List.map_nil, List.cons.injEq, and_true] at h
  obtain ⟨h3, h2, h1, h0⟩ := h
  have e3 := congrArg UInt8.toNat h3
  have e2 := congrArg UInt8.toNat h2
  have e1 := congrArg UInt8.toNat h1
  have e0 := congrArg UInt8.toNat h0
  rw [u8_of, u8_of] at e0 e1 e2 e3
  omega
theorem row_inj (a : List ByteArray) : ∀ b : List ByteArray, (∀ p ∈ a, p.size < 4294967296) → (∀ p ∈ b, p.size < 4294967296) → rowL a = rowL b → a = b := by
  induction a with
  | nil =>
    intro b _ _ h
    cases b with
    | nil => rfl
    | cons q r =>
      have := congrArg List.length h
      rw [rowL, rowL, List.length_append, partL_length] at this
      simp only [List.length_nil] at this
      omega
  | cons p r ih =>
    intro b ha hb h
    cases b with
    | nil =>
      have := congrArg List.length h
      rw [rowL, rowL, List.length_append, partL_length] at this
      simp only [List.length_nil] at this
      omega
    | cons q t =>
      rw [rowL, rowL, partL, partL, List.append_assoc, List.append_assoc] at h
      obtain ⟨h1, h2⟩ := List.append_inj h (by simp [bytesOf, bigL_length])
      have hs := big4_inj _ _ (ha p (by simp)) (hb q (by simp)) h1
      obtain ⟨h3, h4⟩ := List.append_inj h2 (by simpa using hs)
      rw [ih t (fun x hx => ha x (by simp [hx])) (fun x hx => hb x (by simp [hx])) h4]
      congr 1
      exact ByteArray.ext (Array.toList_inj.1 h3)
/-- how many bytes a row has -/
def rowN : List ByteArray → Nat
  | [] => 0
  | p :: r => 4 + p.size + rowN r
theorem rowL_length (l : List ByteArray) : (rowL l).length = rowN l := by
  induction l with
  | nil => rfl
  | cons p r ih => rw [rowL, rowN, List.length_append, partL_length, ih]
theorem rowS_size (l : List ByteArray) : (rowS l).size = rowN l := by
  rw [← rowL_length]; simp [rowS, ByteArray.size]
theorem rowS_inj (a b : List ByteArray) (ha : ∀ p ∈ a, p.size < 4294967296) (hb : ∀ p ∈ b, p.size < 4294967296) : rowS a = rowS b ↔ a = b :=
  ⟨fun h => row_inj a b ha hb (by rw [← rowS_data, h, rowS_data]), fun h => by rw [h]⟩
end Go.Proofs.YtjipcmmaemokhaaDoor
namespace Go.Proofs.YtjipcmmaemokhaaDoor
open Go.RowKit
set_option linter.unusedVariables false

theorem wraps_u32 (n : Int) (h₀ : 0 ≤ n) (h₁ : n < 2 ^ 32) : IntKind.u32.wrap n = n := by
  simp [IntKind.wrap, IntKind.bits, IntKind.signed]
  omega
theorem wrap_u32_nat (n : Nat) : IntKind.u32.wrap (n : Int) = ((n % 4294967296 : Nat) : Int) := by
  simp [IntKind.wrap, IntKind.bits, IntKind.signed]
theorem or_nat (k : IntKind) (j : Nat) (hj : j ≤ k.bits) (hk : ∀ n : Int, 0 ≤ n → n < 2 ^ j → k.wrap n = n) (a b : Nat) (ha : a < 2 ^ j) (hb : b < 2 ^ j) : bits .or k a b = ((a ||| b : Nat) : Int) := by
  have hp : 2 ^ j ≤ 2 ^ k.bits := Nat.pow_le_pow_right (by decide) hj
  have hx : a ||| b < 2 ^ j := Nat.or_lt_two_pow ha hb
  simp only [bits, BitVec.toNat_or, BitVec.toNat_ofInt]
  have ea : ((a : Int) % ((2 ^ k.bits : Nat) : Int)).toNat = a := by
    rw [← Int.natCast_emod, Int.toNat_natCast, Nat.mod_eq_of_lt (Nat.lt_of_lt_of_le ha hp)]
  have eb : ((b : Int) % ((2 ^ k.bits : Nat) : Int)).toNat = b := by
    rw [← Int.natCast_emod, Int.toNat_natCast, Nat.mod_eq_of_lt (Nat.lt_of_lt_of_le hb hp)]
  rw [ea, eb]
  exact hk _ (by omega) (by exact_mod_cast hx)
theorem xor_natM (k : IntKind) (j : Nat) (hj : j ≤ k.bits) (hk : ∀ n : Int, 0 ≤ n → n < 2 ^ j → k.wrap n = n) (a b : Nat) (ha : a < 2 ^ j) (hb : b < 2 ^ j) : bits .xor k a b = ((a ^^^ b : Nat) : Int) := by
  have hp : 2 ^ j ≤ 2 ^ k.bits := Nat.pow_le_pow_right (by decide) hj
  have hx : a ^^^ b < 2 ^ j := Nat.xor_lt_two_pow ha hb
  simp only [bits, BitVec.toNat_xor, BitVec.toNat_ofInt]
  have ea : ((a : Int) % ((2 ^ k.bits : Nat) : Int)).toNat = a := by
    rw [← Int.natCast_emod, Int.toNat_natCast, Nat.mod_eq_of_lt (Nat.lt_of_lt_of_le ha hp)]
  have eb : ((b : Int) % ((2 ^ k.bits : Nat) : Int)).toNat = b := by
    rw [← Int.natCast_emod, Int.toNat_natCast, Nat.mod_eq_of_lt (Nat.lt_of_lt_of_le hb hp)]
  rw [ea, eb]
  exact hk _ (by omega) (by exact_mod_cast hx)
theorem or_u32 (a b : Nat) (ha : a < 4294967296) (hb : b < 4294967296) : bits .or .u32 a b = ((a ||| b : Nat) : Int) := or_nat .u32 32 (by decide) wraps_u32 a b ha hb
theorem xor_u32 (a b : Nat) (ha : a < 4294967296) (hb : b < 4294967296) : bits .xor .u32 a b = ((a ^^^ b : Nat) : Int) := xor_natM .u32 32 (by decide) wraps_u32 a b ha hb

theorem rot_bits (x n m k : Nat) (hx : x < 4294967296) (hm : m = 2 ^ n) (hk : k = 2 ^ (32 - n)) : bits .or .u32 ((x : Int) * (m : Int) % 4294967296) ((x : Int) / (k : Int)) = (rl x n : Nat) := by
  rw [show (x : Int) * (m : Int) % 4294967296 = ((x * m % 4294967296 : Nat) : Int) by simp, show (x : Int) / (k : Int) = ((x / k : Nat) : Int) by simp, or_u32 _ _ (Nat.mod_lt _ (by decide)) (Nat.lt_of_le_of_lt (Nat.div_le_self _ _) hx), hm, hk]
  rfl
end Go.Proofs.YtjipcmmaemokhaaDoor
