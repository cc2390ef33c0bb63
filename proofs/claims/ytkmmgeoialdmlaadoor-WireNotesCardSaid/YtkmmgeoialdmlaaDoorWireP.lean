/- Messages, plain: how they are written, and that what is written is read. -/
import Derived.Test.YtkmmgeoialdmlaaDoorLayT
import Derived.Lib.ItoaNum
import Derived.Lib.AtoiAll
namespace Go.Proofs.YtkmmgeoialdmlaaDoor
set_option linter.unusedVariables false

/-- the last k decimal digits of a number -/
def digs : Nat → Nat → List UInt8
  | _, 0 => []
  | n, k + 1 => digs (n / 10) k ++ [UInt8.ofNat (48 + n % 10)]
theorem digs_length : ∀ k n, (digs n k).length = k
  | 0, _ => rfl
  | k + 1, n => by rw [digs, List.length_append, digs_length k]; rfl
theorem dig_ofNat (d : Nat) (h : d < 10) : isDig (UInt8.ofNat (48 + d)) = true := by
  rw [isDig_iff, UInt8.toNat_ofNat']
  omega
theorem digs_all : ∀ k n, (digs n k).all isDig = true
  | 0, _ => rfl
  | k + 1, n => by
    rw [digs, List.all_append, digs_all k, Bool.true_and, List.all_cons, List.all_nil, Bool.and_true]
    exact dig_ofNat (n % 10) (Nat.mod_lt _ (by decide))
/-- the number that digits tell -/
def valD (l : List UInt8) : Nat := l.foldl (fun a b => 10 * a + (b.toNat - 48)) 0
theorem valD_snoc (l : List UInt8) (b : UInt8) : valD (l ++ [b]) = 10 * valD l + (b.toNat - 48) := by simp [valD]
theorem valD_digs : ∀ k n, valD (digs n k) = n % 10 ^ k
  | 0, n => by simp [digs, valD, Nat.mod_one]
  | k + 1, n => by
    rw [digs, valD_snoc, valD_digs k, UInt8.toNat_ofNat']
    have h1 : (48 + n % 10) % 2 ^ 8 - 48 = n % 10 := by omega
    rw [h1, Nat.pow_succ, Nat.mul_comm (10 ^ k) 10, Nat.mod_mul]
    omega
theorem digs_valD : ∀ (k : Nat) (l : List UInt8), l.length = k → l.all isDig = true → digs (valD l) k = l
  | 0, l, hl, _ => by rw [List.eq_nil_of_length_eq_zero hl]; rfl
  | k + 1, l, hl, h => by
    have hne : l ≠ [] := by intro e; rw [e] at hl; cases hl
    obtain ⟨r, b, rfl⟩ : ∃ r b, l = r ++ [b] := ⟨l.dropLast, l.getLast hne, (List.dropLast_concat_getLast hne).symm⟩
    rw [List.all_append, Bool.and_eq_true] at h
    have hb : isDig b = true := by simpa using h.2
    rw [isDig_iff] at hb
    have hr : r.length = k := by simpa using hl
    rw [valD_snoc, digs, show (10 * valD r + (b.toNat - 48)) / 10 = valD r by omega, show (10 * valD r + (b.toNat - 48)) % 10 = b.toNat - 48 by omega, digs_valD k r hr h.1, show 48 + (b.toNat - 48) = b.toNat by omega]
    simp
theorem decDigits_length (n : Nat) : (Lib.decDigits n).length = Lib.nDigits n := by rw [Lib.decDigits_eq]; simp
theorem nDigits_le : ∀ (k n : Nat), n < 10 ^ (k + 1) → Lib.nDigits n ≤ k + 1
  | 0, n, h => by rw [Lib.nDigits_small (by simpa using h)]; exact Nat.le_refl _
  | k + 1, n, h => by
    by_cases h10 : n < 10
    · rw [Lib.nDigits_small h10]; omega
    · rw [Lib.nDigits_big h10]
      have := nDigits_le k (n / 10) (by rw [Nat.pow_succ] at h; omega)
      omega
theorem digs_zero : ∀ k, digs 0 k = List.replicate k 48
  | 0 => rfl
  | k + 1 => by
    rw [digs, Nat.zero_div, digs_zero k, List.replicate_succ']
    rfl
/-- zeros ahead -/
theorem number_digs : ∀ (k n : Nat), n < 10 ^ (k + 1) → List.replicate (k + 1 - Lib.nDigits n) (48 : UInt8) ++ Lib.decDigits n = digs n (k + 1) := by
  intro k
  induction k with
  | zero =>
    intro n h
    have h10 : n < 10 := by simpa using h
    rw [Lib.nDigits_small h10, Lib.decDigits, dif_pos h10, digs, digs, Nat.mod_eq_of_lt h10]
    rfl
  | succ k ih =>
    intro n h
    by_cases h10 : n < 10
    · rw [Lib.nDigits_small h10, Lib.decDigits, dif_pos h10, digs, Nat.div_eq_of_lt h10, digs_zero, Nat.mod_eq_of_lt h10]
      rfl
    · have hd : n / 10 < 10 ^ (k + 1) := by rw [Nat.pow_succ] at h; omega
      have := ih (n / 10) hd
      rw [Lib.nDigits_big h10, Lib.decDigits, dif_neg h10, digs, ← this, ← List.append_assoc]
      have hl := nDigits_le k (n / 10) hd
      rw [show k + 1 + 1 - (Lib.nDigits (n / 10) + 1) = k + 1 - Lib.nDigits (n / 10) by omega]

/-- the fields: bytes at most, digits of a length ahead, digits alone -/
def fmost (n : Nat) : Nat := [19, 12, 1, 5, 10, 10, 4, 8, 9999, 5, 8, 1, 1, 9, 999, 12].getD (n - 1) 0
def fahead (n : Nat) : Nat := [2, 0, 0, 0, 0, 0, 0, 0, 4, 0, 0, 0, 0, 0, 3, 2].getD (n - 1) 0
def fdig (n : Nat) : Bool := [true, true, true, true, true, true, true, false, false, true, false, true, true, false, false, true].getD (n - 1) false
def takesB (n : Nat) (s : ByteArray) : Bool := (decide (s.size = fmost n) || (decide (s.size < fmost n) && decide (0 < fahead n))) && (allDig s || !fdig n)
abbrev Prt := Int × ByteArray
def aheadL (n : Nat) (s : ByteArray) : List UInt8 := digs s.size (fahead n)
def fieldL (p : Prt) : List UInt8 := aheadL p.1.toNat p.2 ++ p.2.data.toList
/-- rising, and each a field's -/
def goodP : Int → List Prt → Bool
  | _, [] => true
  | last, p :: r => decide (last < p.1) && decide (p.1 ≤ 16) && takesB p.1.toNat p.2 && goodP p.1 r
def bitN (n : Nat) : Nat := 2 ^ (16 - n)
def mapN (ps : List Prt) : Nat := (ps.map fun p => bitN p.1.toNat).sum
def bodyL (ps : List Prt) : List UInt8 := ps.flatMap fieldL
def packL (kind : Int) (ps : List Prt) : List UInt8 := digs kind.toNat 2 ++ [UInt8.ofNat (mapN ps / 256), UInt8.ofNat (mapN ps % 256)] ++ bodyL ps
def packE (kind : Int) (ps : List Prt) : Int := if kind < 0 ∨ 99 < kind then 4 else if goodP 0 ps then 0 else 1
def packS (kind : Int) (ps : List Prt) : ByteArray := if packE kind ps = 0 then ⟨(packL kind ps).toArray⟩ else ⟨#[]⟩
/-- its length is one that is written in so many digits -/
theorem takes_ahead (n : Nat) (h1 : 1 ≤ n) (h16 : n ≤ 16) (s : ByteArray) (h : takesB n s = true) : (0 < fahead n → s.size < 10 ^ fahead n) ∧ (fahead n = 0 → s.size = fmost n) := by
  rw [takesB, Bool.and_eq_true, Bool.or_eq_true, Bool.and_eq_true] at h
  have hm : fmost n < 10 ^ fahead n ∨ fahead n = 0 := by
    have : ∀ m : Fin 17, fmost m.val < 10 ^ fahead m.val ∨ fahead m.val = 0 := by decide
    exact this ⟨n, by omega⟩
  rcases h.1 with h2 | h2
  · have := of_decide_eq_true h2
    exact ⟨fun h0 => by rcases hm with hm | hm <;> omega, fun _ => this⟩
  · have h3 := of_decide_eq_true h2.1
    have h4 := of_decide_eq_true h2.2
    exact ⟨fun h0 => by rcases hm with hm | hm <;> omega, fun h0 => by omega⟩
end Go.Proofs.YtkmmgeoialdmlaaDoor
