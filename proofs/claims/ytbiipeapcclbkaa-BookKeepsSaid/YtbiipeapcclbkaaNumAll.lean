/- Numbers in bytes (B6): one contract a call, for every input. -/
import Derived.Test.YtbiipeapcclbkaaNum
namespace Go.Proofs.Ytbiipeapcclbkaa
open Go.RowKit
set_option linter.unusedVariables false

abbrev numOk (n k : Int) : Prop := 1 ≤ k ∧ k ≤ 8 ∧ 0 ≤ n ∧ n < 256 ^ k.toNat
/-- what is answered: the text -/
def numS (n k : Int) : ByteArray := if numOk n k then strOfNums (bigL n.toNat k.toNat) else ⟨#[]⟩
/-- and the error -/
def numE (n k : Int) : Int := if numOk n k then 0 else 3
theorem numS_yes {n k : Int} (h : numOk n k) : numS n k = strOfNums (bigL n.toNat k.toNat) := by rw [numS, if_pos h]
theorem numS_no {n k : Int} (h : ¬ numOk n k) : numS n k = ⟨#[]⟩ := by rw [numS, if_neg h]
theorem numE_yes {n k : Int} (h : numOk n k) : numE n k = 0 := by rw [numE, if_pos h]
theorem numE_no {n k : Int} (h : ¬ numOk n k) : numE n k = 3 := by rw [numE, if_neg h]

theorem num_cases (n k : Int) : (k < 1 ∨ 8 < k) ∨ (1 ≤ k ∧ k ≤ 8 ∧ n < 0) ∨ ∃ n' k' : Nat, n = n' ∧ k = k' ∧ 1 ≤ k' ∧ k' ≤ 8 := by
  by_cases h1 : k < 1 ∨ 8 < k
  · exact .inl h1
  · by_cases h2 : n < 0
    · exact .inr (.inl ⟨by omega, by omega, h2⟩)
    · exact .inr (.inr ⟨n.toNat, k.toNat, by omega, by omega, by omega, by omega⟩)
theorem numOk_nat (n k : Nat) (h1 : 1 ≤ k) (h8 : k ≤ 8) : numOk n k ↔ n < 256 ^ k := by
  have e : ((n : Int) < 256 ^ ((k : Int)).toNat) ↔ n < 256 ^ k := by
    rw [Int.toNat_natCast, show ((256 : Int) ^ k) = ((256 ^ k : Nat) : Int) by simp]
    omega
  constructor
  · intro h
    exact e.1 h.2.2.2
  · intro h
    exact ⟨by omega, by omega, by omega, e.2 h⟩

theorem number_all (n k : Int) (w : World) (hn : n ≤ 9223372036854775807) :
    Calls Try.prog 36 #[.int .i64 n, .int .i64 k] w fun e w' => e = .returned (.tuple #[.string (numS n k), .int .i64 (numE n k)]) ∧ Below w.heap.size w w' := by
  rcases num_cases n k with h | ⟨h1, h8, h⟩ | ⟨n', k', rfl, rfl, h1, h8⟩
  · rw [numS_no (by rintro ⟨_, _, _, _⟩; omega), numE_no (by rintro ⟨_, _, _, _⟩; omega)]
    exact (number_no1 n k w h).mono fun e w' ⟨he, hw⟩ => ⟨he, by rw [hw]; exact Below.refl _ _⟩
  · rw [numS_no (by rintro ⟨_, _, _, _⟩; omega), numE_no (by rintro ⟨_, _, _, _⟩; omega)]
    exact (number_no2 n k w h1 h8 h).mono fun e w' ⟨he, hw⟩ => ⟨he, by rw [hw]; exact Below.refl _ _⟩
  · by_cases hf : n' < 256 ^ k'
    · rw [numS_yes ((numOk_nat n' k' h1 h8).2 hf), numE_yes ((numOk_nat n' k' h1 h8).2 hf)]
      exact number_any n' k' w h1 h8 (by omega) hf
    · rw [numS_no (fun h => hf ((numOk_nat n' k' h1 h8).1 h)), numE_no (fun h => hf ((numOk_nat n' k' h1 h8).1 h))]
      exact (number_no3 n' k' w h1 h8 (by omega) (by omega)).mono fun e w' ⟨he, hw⟩ => ⟨he, by rw [hw]; exact Below.refl _ _⟩

/-- what is read, and the error -/
def readV (s : ByteArray) : Int := if 8 < s.size then 0 else if 9223372036854775807 < valN s.data.toList then 0 else valN s.data.toList
def readE (s : ByteArray) : Int := if 8 < s.size then 2 else if 9223372036854775807 < valN s.data.toList then 3 else 0
theorem readOf_pair (s : ByteArray) (h : s.size ≤ 8) : readOf (valN s.data.toList) = .tuple #[.int .i64 (readV s), .int .i64 (readE s)] := by
  have h8 : ¬ 8 < s.size := by omega
  unfold readV readE
  rw [if_neg h8, if_neg h8]
  by_cases hc : 9223372036854775807 < valN s.data.toList
  · rw [readOf_big hc, if_pos hc, if_pos hc]
  · rw [readOf_small hc, if_neg hc, if_neg hc]
theorem read_all (s : ByteArray) (w : World) (hm : s.size ≤ maxLen) :
    Calls Try.prog 29 #[.string s] w fun e w' => e = .returned (.tuple #[.int .i64 (readV s), .int .i64 (readE s)]) ∧ w' = w := by
  by_cases h : 8 < s.size
  · unfold readV readE
    rw [if_pos h, if_pos h]
    exact read_long s w h hm
  · rw [← readOf_pair s (by omega)]
    exact read_any s w (by omega)

theorem valN_big (n k : Nat) : valN ((bigL n k).map fun z => UInt8.ofNat z.toNat) = n % 256 ^ k := by
  induction k with
  | zero => simp [bigL, valN, Nat.mod_one]
  | succ k ih =>
    simp only [bigL, List.map_cons]
    rw [valN_cons, ih, List.length_map, bigL_length]
    have e : (UInt8.ofNat (((n / 256 ^ k % 256 : Nat) : Int)).toNat).toNat = n / 256 ^ k % 256 := by
      rw [Int.toNat_natCast, UInt8.toNat_ofNat']
      omega
    rw [e, Nat.pow_succ, Nat.mod_mul, Nat.mul_comm, Nat.add_comm]
theorem read_num (n k : Int) (hn : n ≤ 9223372036854775807) (h : numOk n k) : readV (numS n k) = n ∧ readE (numS n k) = 0 := by
  rw [numS_yes h]
  obtain ⟨h1, h8, h0, hf⟩ := h
  obtain ⟨n', rfl⟩ := Int.eq_ofNat_of_zero_le h0
  obtain ⟨k', rfl⟩ := Int.eq_ofNat_of_zero_le (show 0 ≤ k by omega)
  have hf' : n' < 256 ^ k' := ((numOk_nat n' k' (by omega) (by omega)).1 ⟨h1, h8, h0, hf⟩)
  have hs : (strOfNums (bigL n' k')).size = k' := by rw [strOfNums_size, bigL_length]
  have hv : valN (strOfNums (bigL n' k')).data.toList = n' := by rw [strOfNums_data, valN_big, Nat.mod_eq_of_lt hf']
  simp only [Int.toNat_natCast]
  have c1 : ¬ 8 < (strOfNums (bigL n' k')).size := by omega
  have c2 : ¬ 9223372036854775807 < valN (strOfNums (bigL n' k')).data.toList := by omega
  unfold readV readE
  rw [if_neg c1, if_neg c1, if_neg c2, if_neg c2, hv]
  exact ⟨rfl, rfl⟩
theorem numS_size (n k : Int) : (numS n k).size ≤ 8 := by
  by_cases h : numOk n k
  · rw [numS_yes h, strOfNums_size, bigL_length]
    have := h.2.1
    omega
  · rw [numS_no h]
    show (0 : Nat) ≤ 8
    omega
end Go.Proofs.Ytbiipeapcclbkaa
