/- Value of the reference: the number that bytes say. -/
import Derived.Test.YtfpglpefofcdeaaGreatDoorM00
import Derived.Test.YtfpglpefofcdeaaGreatDoorRows
import Derived.Deep.QuietTactic
import Derived.BigQuiet
import Derived.Lib.Strings
namespace Go.Proofs.YtfpglpefofcdeaaGreatDoor
open Go.RowKit

/-- the number that bytes say, the high one first -/
def valN (l : List UInt8) : Nat := l.foldl (fun n b => n * 256 + b.toNat) 0
theorem valN_snoc (l : List UInt8) (b : UInt8) : valN (l ++ [b]) = valN l * 256 + b.toNat := by simp [valN, List.foldl_append]
theorem foldl_ge (l : List UInt8) : ∀ a : Nat, a ≤ l.foldl (fun n b => n * 256 + b.toNat) a := by
  induction l with
  | nil => intro a; simp
  | cons b l ih => intro a; rw [List.foldl_cons]; exact Nat.le_trans (by omega) (ih _)
theorem valN_take_le (l : List UInt8) (k : Nat) : valN (l.take k) ≤ valN l := by
  rw (occs := .pos [2]) [← List.take_append_drop k l]
  unfold valN
  rw [List.foldl_append]
  exact foldl_ge _ _
theorem valN_lt (l : List UInt8) : valN l < 256 ^ l.length := by
  have h : ∀ (l : List UInt8) (a : Nat), l.foldl (fun n b => n * 256 + b.toNat) a < (a + 1) * 256 ^ l.length := by
    intro l
    induction l with
    | nil => intro a; simp
    | cons b l ih =>
      intro a
      rw [List.foldl_cons, List.length_cons, Nat.pow_succ]
      refine Nat.lt_of_lt_of_le (ih _) ?_
      have hb : b.toNat < 256 := b.toNat_lt
      calc (a * 256 + b.toNat + 1) * 256 ^ l.length ≤ ((a + 1) * 256) * 256 ^ l.length := Nat.mul_le_mul_right _ (by omega)
        _ = (a + 1) * (256 ^ l.length * 256) := by rw [Nat.mul_assoc, Nat.mul_comm 256]
  simpa [valN] using h l 0
set_option maxHeartbeats 1000000 in
theorem value_any (s : ByteArray) (w : World) (hs : s.size ≤ 8) (hv : valN s.data.toList ≤ 9223372036854775807) :
    Calls Tryz.prog 64 #[.string s] w fun e w' => e = .returned (.int .i64 (valN s.data.toList)) ∧ w' = w := by
  go_enter Tryz.func64, Tryz.ntmps64
  go_wp2
  go_loop [3, 4] (fun n i => ∃ k : Nat, k ≤ s.size ∧ i = .int .i64 k ∧ n = .int .i64 (valN (s.data.toList.take k))) (fun _ i => s.size - (intOf i).toNat)
  case atStart => exact ⟨0, Nat.zero_le _, rfl, rfl⟩
  case round =>
    obtain ⟨k, hk, rfl, rfl⟩ := hrel
    by_cases hlt : k < s.size
    · have hsn := valN_snoc (s.data.toList.take k) s[k]
      rw [← take_snoc s k hlt] at hsn
      have hle := valN_take_le s.data.toList (k + 1)
      obtain ⟨m, hm⟩ : ∃ m, m = valN (s.data.toList.take k) := ⟨_, rfl⟩
      rw [← hm] at hsn ⊢
      have hmb : (m : Int) * 256 + (s[k].toNat : Int) ≤ 9223372036854775807 := by omega
      have HS : Hid (valN (s.data.toList.take (k + 1)) = m * 256 + s[k].toNat) := hsn
      clear hsn hle hm hv
      go_wp2
      go_round
      case rel => exact ⟨k + 1, by omega, by go_num, by rw [HS.out]; go_num⟩
      case measure => simp [intOf]; omega
    · go_wp2
      go_ret
      exact ⟨ret_int (by rw [List.take_of_length_le (by simp; omega)]), rfl⟩

end Go.Proofs.YtfpglpefofcdeaaGreatDoor
namespace Go.Proofs.YtfpglpefofcdeaaGreatDoor
open Go.RowKit
set_option linter.unusedVariables false

/-- the row behind j rounds: zeros, then the low j bytes -/
def rowAt (n k j : Nat) : List Int := List.replicate (k - j) 0 ++ bigL n j
theorem rowAt_length (n k j : Nat) (h : j ≤ k) : (rowAt n k j).length = k := by simp [rowAt, bigL_length]; omega
theorem rowAt_set (n k j : Nat) (h : j < k) : (rowAt n k j).set (k - 1 - j) ((n / 256 ^ j % 256 : Nat) : Int) = rowAt n k (j + 1) := by
  unfold rowAt
  rw [show k - j = (k - (j + 1)) + 1 by omega, List.replicate_succ', List.append_assoc, show k - 1 - j = (List.replicate (k - (j + 1)) (0 : Int)).length + 0 by simp; omega, List.set_append_right _ _ (by omega)]
  simp [bigL]
theorem made_row (k : Nat) (n : Nat) : (madeCells #[Value.int .u8 0] k).toList = (rowAt n k 0).map (Value.int .u8) := by
  have e : rowAt n k 0 = List.replicate k 0 := by simp [rowAt, bigL]
  rw [e, List.map_replicate]
  apply List.ext_getElem
  · simp [madeCells]
  · intro i h1 h2
    simp [madeCells, Nat.mod_one]
theorem pow_256 (n j : Nat) : ((n : Int) / 2 ^ (8 * j)) = ((n / 256 ^ j : Nat) : Int) := by
  rw [Int.pow_mul]
  simp

set_option maxHeartbeats 1000000 in
theorem number_any (n k : Nat) (w : World) (h1 : 1 ≤ k) (h8 : k ≤ 8) (hn2 : n ≤ 9223372036854775807) (hf : n < 256 ^ k) :
    Calls Tryz.prog 52 #[.int .i64 n, .int .i64 k] w fun e w' => e = .returned (.tuple #[.string (strOfNums (bigL n k)), .int .i64 0]) ∧ Below w.heap.size w w' := by
  obtain ⟨i0, hi, hz0, hz1, hz2⟩ := info_parts infoByte
  have ht : ((n : Int) / 2 ^ (8 * k) != 0) = false := by rw [pow_256, Nat.div_eq_of_lt hf]; rfl
  have hk1 : decide ((k : Int) < 1) = false := by simp; omega
  have hk8 : decide ((8 : Int) < (k : Int)) = false := by simp; omega
  have hn0 : decide ((n : Int) < 0) = false := by simp
  clear hf
  go_enter Tryz.func52, Tryz.ntmps52
  go_wp2_with (at_make; refine wpList_make_full _ rfl _ _ 104 rfl w.heap.size 5 i0 (.int .u8 0) 1 Tryz.underlying104 hi hz0 hz1 .i64 .i64 _ _ k rfl rfl rfl rfl (by rw [hz2]; omega) (by unfold maxLen; omega) (Nat.le_refl _) ?_)
  intro w1 hown hgrow
  rw [made_row k n] at hown
  have hb : Below w.heap.size w w1 := (Below.refl _ _).grown hgrow (Nat.le_refl _) (fun q hq => by cases hq)
  clear hgrow hi hz0 hz1 hz2 hk1 hk8 hn0 ht
  go_wp2
  go_loopw [28] (fun i wr => ∃ j : Nat, j ≤ k ∧ i = .int .i64 j ∧ wr.ownsRow w.heap.size 5 1 (.slice (some ⟨w.heap.size, 0, none⟩) k k) k ((rowAt n k j).map (Value.int .u8)) ∧ Below w.heap.size w wr)
    (fun i _ => k - (intOf i).toNat)
  case atStart => exact ⟨0, Nat.zero_le _, rfl, hown, hb⟩
  case round =>
    obtain ⟨j, hj, rfl, hown, hnx⟩ := hrel
    by_cases hlt : j < k
    · have hfz := hown.frozenAt (k - 1 - j)
      have hca : wr.cell? ⟨w.heap.size, k - 1 - j, none⟩ = some (.int .u8 ((rowAt n k j).getD (k - 1 - j) 0)) := by
        rw [hown.cellAt (k - 1 - j) (by omega)]
        simp [List.getElem?_eq_getElem (show k - 1 - j < (rowAt n k j).length by rw [rowAt_length _ _ _ hj]; omega)]
      go_wp2
      go_roundw
      case rel =>
        refine ⟨j + 1, by omega, by go_num, ?_, hnx.setCell (Nat.le_refl _) _⟩
        have hs := (hown.stored (k - 1 - j) (.int .u8 ((n : Int) / 2 ^ (8 * j) % 256))).1
        rw [← rowAt_set n k j hlt, List.map_set]
        have e : ((n : Int) / 2 ^ (8 * j) % 256) = ((n / 256 ^ j % 256 : Nat) : Int) := by rw [pow_256]; rfl
        rw [e] at hs ⊢
        exact hs
      case measure => simp [intOf]; omega
    · have hkl : j = k := by omega
      subst hkl
      rcases owned_cells hown with ⟨hv, hn⟩ | ⟨g, cap', hv, _, hcl⟩
      · simp at hv
      · simp only [Value.slice.injEq, Option.some.injEq, Addr.mk.injEq, and_true, true_and] at hv
        obtain ⟨hg, hcap⟩ := hv
        subst hg hcap
        have hcv := run_convert_bytes_arg (P := Tryz.prog) wr 104 5 Tryz.underlying104 Tryz.underlying5 w.heap.size 0 j j _ (by rw [rowAt_length _ _ _ hj]) hcl 9 Tryz.underlying9
        rw [show rowAt n j j = bigL n j by simp [rowAt]] at hcv
        clear hown hcl
        go_wp2
        go_ret2
        exact ⟨rfl, hnx⟩

theorem number_no1 (n k : Int) (w : World) (h : k < 1 ∨ 8 < k) :
    Calls Tryz.prog 52 #[.int .i64 n, .int .i64 k] w fun e w' => e = .returned (.tuple #[.string ⟨#[]⟩, .int .i64 3]) ∧ w' = w := by
  rcases h with h | h
  · have hk1 : decide (k < 1) = true := by simp; omega
    go_enter Tryz.func52, Tryz.ntmps52
    go_wp2
    go_ret2
    exact ⟨rfl, rfl⟩
  · have hk1 : decide (k < 1) = false := by simp; omega
    have hk8 : decide (8 < k) = true := by simp; omega
    go_enter Tryz.func52, Tryz.ntmps52
    go_wp2
    go_ret2
    exact ⟨rfl, rfl⟩
theorem number_no2 (n k : Int) (w : World) (h1 : 1 ≤ k) (h8 : k ≤ 8) (h : n < 0) :
    Calls Tryz.prog 52 #[.int .i64 n, .int .i64 k] w fun e w' => e = .returned (.tuple #[.string ⟨#[]⟩, .int .i64 3]) ∧ w' = w := by
  have hk1 : decide (k < 1) = false := by simp; omega
  have hk8 : decide (8 < k) = false := by simp; omega
  have hn0 : decide (n < 0) = true := by simp; omega
  go_enter Tryz.func52, Tryz.ntmps52
  go_wp2
  go_ret2
  exact ⟨rfl, rfl⟩
theorem number_no3 (n k : Nat) (w : World) (h1 : 1 ≤ k) (h8 : k ≤ 8) (hn2 : n ≤ 9223372036854775807) (hf : 256 ^ k ≤ n) :
    Calls Tryz.prog 52 #[.int .i64 n, .int .i64 k] w fun e w' => e = .returned (.tuple #[.string ⟨#[]⟩, .int .i64 3]) ∧ w' = w := by
  have hp := Nat.div_pos hf (Nat.pow_pos (by omega))
  have ht : ((n : Int) / 2 ^ (8 * k) != 0) = true := by rw [pow_256, bne_iff_ne]; omega
  have hk1 : decide ((k : Int) < 1) = false := by simp; omega
  have hk8 : decide ((8 : Int) < (k : Int)) = false := by simp; omega
  have hn0 : decide ((n : Int) < 0) = false := by simp
  clear hf
  go_enter Tryz.func52, Tryz.ntmps52
  go_wp2
  go_ret2
  exact ⟨rfl, rfl⟩


theorem wraps_u64 (n : Int) (h₀ : 0 ≤ n) (h₁ : n < 2 ^ 64) : IntKind.u64.wrap n = n := by
  simp [IntKind.wrap, IntKind.bits, IntKind.signed]
  omega
theorem or_u64 (m b : Nat) (hb : b < 256) (h : (m : Int) * 256 + b ≤ 18446744073709551615) : bits .or .u64 ((m : Int) * 256) b = ((m * 256 + b : Nat) : Int) := by
  rw [bits_join .u64 64 (by decide) wraps_u64 8 _ _ (by omega) (by omega) (by omega) (by omega) (by omega) (by omega)]
  omega
theorem valN_lt8 (l : List UInt8) (h : l.length ≤ 8) : valN l ≤ 18446744073709551615 := by
  have h1 := valN_lt l
  have h2 : 256 ^ l.length ≤ 256 ^ 8 := Nat.pow_le_pow_right (by omega) h
  omega

/-- what is answered of a number that was read -/
def readOf (m : Nat) : Value := if 9223372036854775807 < m then .tuple #[.int .i64 0, .int .i64 3] else .tuple #[.int .i64 m, .int .i64 0]
theorem readOf_big {m : Nat} (h : 9223372036854775807 < m) : readOf m = .tuple #[.int .i64 0, .int .i64 3] := by rw [readOf, if_pos h]
theorem readOf_small {m : Nat} (h : ¬ 9223372036854775807 < m) : readOf m = .tuple #[.int .i64 m, .int .i64 0] := by rw [readOf, if_neg h]

set_option maxHeartbeats 1000000 in
theorem read_any (s : ByteArray) (w : World) (hs : s.size ≤ 8) :
    Calls Tryz.prog 123 #[.string s] w fun e w' => e = .returned (readOf (valN s.data.toList)) ∧ w' = w := by
  have hv := valN_lt8 s.data.toList hs
  go_enter Tryz.func123, Tryz.ntmps123
  go_wp2
  go_loop [4, 11] (fun n i => ∃ k : Nat, k ≤ s.size ∧ i = .int .i64 k ∧ n = .int .u64 (valN (s.data.toList.take k))) (fun _ i => s.size - (intOf i).toNat)
  case atStart => exact ⟨0, Nat.zero_le _, rfl, rfl⟩
  case round =>
    obtain ⟨k, hk, rfl, rfl⟩ := hrel
    by_cases hlt : k < s.size
    · have hsn := valN_snoc (s.data.toList.take k) s[k]
      rw [← take_snoc s k hlt] at hsn
      have hle := valN_take_le s.data.toList (k + 1)
      obtain ⟨m, hm⟩ : ∃ m, m = valN (s.data.toList.take k) := ⟨_, rfl⟩
      rw [← hm] at hsn ⊢
      have hmb : (m : Int) * 256 + (s[k].toNat : Int) ≤ 18446744073709551615 := by omega
      have HS : Hid (valN (s.data.toList.take (k + 1)) = m * 256 + s[k].toNat) := hsn
      clear hsn hle hm hv
      go_wp2
      go_round
      case rel => exact ⟨k + 1, by omega, by go_num, by rw [HS.out, or_u64 m _ (s[k].toNat_lt) hmb]⟩
      case measure => simp [intOf]; omega
    · obtain ⟨m, hm⟩ : ∃ m, m = valN s.data.toList := ⟨_, rfl⟩
      rw [List.take_of_length_le (by simp; omega), ← hm]
      rw [← hm] at hv
      have HM : Hid (m = valN s.data.toList) := hm
      clear hm
      by_cases hc : 9223372036854775807 < m
      · go_wp2
        go_ret2
        exact ⟨by rw [← HM.out, readOf_big hc]; rfl, rfl⟩
      · go_wp2
        go_ret2
        exact ⟨by rw [← HM.out, readOf_small hc]; rfl, rfl⟩
theorem read_long (s : ByteArray) (w : World) (hs : 8 < s.size) (hm : s.size ≤ maxLen) :
    Calls Tryz.prog 123 #[.string s] w fun e w' => e = .returned (.tuple #[.int .i64 0, .int .i64 2]) ∧ w' = w := by
  unfold maxLen at hm
  go_enter Tryz.func123, Tryz.ntmps123
  go_wp2
  go_ret2
  exact ⟨rfl, rfl⟩
theorem valN_cons (b : UInt8) (l : List UInt8) : valN (b :: l) = b.toNat * 256 ^ l.length + valN l := by
  have h : ∀ (l : List UInt8) (a : Nat), l.foldl (fun n b => n * 256 + b.toNat) a = a * 256 ^ l.length + l.foldl (fun n b => n * 256 + b.toNat) 0 := by
    intro l
    induction l with
    | nil => intro a; simp
    | cons b l ih =>
      intro a
      rw [List.foldl_cons, List.foldl_cons, List.length_cons, ih (a * 256 + b.toNat), ih (0 * 256 + b.toNat), Nat.pow_succ, Nat.add_mul]
      rw [show a * 256 * 256 ^ l.length = a * (256 ^ l.length * 256) by rw [Nat.mul_assoc, Nat.mul_comm 256], Nat.zero_mul, Nat.zero_add, Nat.add_assoc]
  show (b :: l).foldl _ 0 = _
  rw [List.foldl_cons, h]
  simp [valN]
theorem valN_eight (s : ByteArray) (h8 : s.size = 8) : 9223372036854775807 < valN s.data.toList ↔ 128 ≤ (s[0]'(by omega)).toNat := by
  match hl : s.data.toList with
  | [] => have : s.data.toList.length = 8 := by simpa using h8
          rw [hl] at this; simp at this
  | b :: l =>
    have hlen : s.data.toList.length = 8 := by simpa using h8
    have hb : s[0]'(by omega) = b := by
      have : s.data.toList[0]'(by omega) = b := by simp [hl]
      rw [← this]; rfl
    rw [hb, valN_cons]
    have hl7 : l.length = 7 := by rw [hl] at hlen; simpa using hlen
    have h1 := valN_lt l
    rw [hl7] at h1 ⊢
    omega
theorem value_eight (s : ByteArray) (w : World) (hs : s.size ≤ 8) (hv : ¬ 9223372036854775807 < valN s.data.toList) :
    Calls Tryz.prog 64 #[.string s] w fun e w' => e = .returned (.int .i64 (valN s.data.toList)) ∧ w' = w := value_any s w hs (by omega)


end Go.Proofs.YtfpglpefofcdeaaGreatDoor
namespace Go.Proofs.YtfpglpefofcdeaaGreatDoor
open Go.RowKit
set_option linter.unusedVariables false

abbrev numOk (n k : Int) : Prop := 1 ≤ k ∧ k ≤ 8 ∧ 0 ≤ n ∧ n < 256 ^ k.toNat
/-- what is answered: the text -/
def numS (n k : Int) : ByteArray := if numOk n k then strOfNums (bigL n.toNat k.toNat) else ⟨#[]⟩
/-- and the error -/
def numE (n k : Int) : Int := if numOk n k then 0 else 3
theorem numS_yes {n k : Int} (h : numOk n k) : numS n k = strOfNums (bigL n.toNat k.toNat) := by rw [numS, if_pos h]
theorem numS_no {n k : Int} (h : ¬ numOk n k) : numS n k = ⟨#[]⟩ := by rw [numS, if_neg h]
theorem numE_yes {n k : Int} (h : numOk n k) : numE n k = 0 := by rw [numE, if_pos h]
theorem numE_no {n k : Int} (h : ¬ numOk n k) : numE n k = 3 := by rw [numE, if_neg h]

theorem num_cases (n k : Int) : (k < 1 ∨ 8 < k) ∨ (1 ≤ k ∧ k ≤ 8 ∧ n < 0) ∨ ∃ n' k' : Nat, n = n' ∧ k = k' ∧ 1 ≤ k' ∧ k' ≤ 8 := by
  by_cases h1 : k < 1 ∨ 8 < k
  · exact .inl h1
  · by_cases h2 : n < 0
    · exact .inr (.inl ⟨by omega, by omega, h2⟩)
    · exact .inr (.inr ⟨n.toNat, k.toNat, by omega, by omega, by omega, by omega⟩)
theorem numOk_nat (n k : Nat) (h1 : 1 ≤ k) (h8 : k ≤ 8) : numOk n k ↔ n < 256 ^ k := by
  have e : ((n : Int) < 256 ^ ((k : Int)).toNat) ↔ n < 256 ^ k := by
    rw [Int.toNat_natCast, show ((256 : Int) ^ k) = ((256 ^ k : Nat) : Int) by simp]
    omega
  constructor
  · intro h
    exact e.1 h.2.2.2
  · intro h
    exact ⟨by omega, by omega, by omega, e.2 h⟩

theorem number_all (n k : Int) (w : World) (hn : n ≤ 9223372036854775807) :
    Calls Tryz.prog 52 #[.int .i64 n, .int .i64 k] w fun e w' => e = .returned (.tuple #[.string (numS n k), .int .i64 (numE n k)]) ∧ Below w.heap.size w w' := by
  rcases num_cases n k with h | ⟨h1, h8, h⟩ | ⟨n', k', rfl, rfl, h1, h8⟩
  · rw [numS_no (by rintro ⟨_, _, _, _⟩; omega), numE_no (by rintro ⟨_, _, _, _⟩; omega)]
    exact (number_no1 n k w h).mono fun e w' ⟨he, hw⟩ => ⟨he, by rw [hw]; exact Below.refl _ _⟩
  · rw [numS_no (by rintro ⟨_, _, _, _⟩; omega), numE_no (by rintro ⟨_, _, _, _⟩; omega)]
    exact (number_no2 n k w h1 h8 h).mono fun e w' ⟨he, hw⟩ => ⟨he, by rw [hw]; exact Below.refl _ _⟩
  · by_cases hf : n' < 256 ^ k'
    · rw [numS_yes ((numOk_nat n' k' h1 h8).2 hf), numE_yes ((numOk_nat n' k' h1 h8).2 hf)]
      exact number_any n' k' w h1 h8 (by omega) hf
    · rw [numS_no (fun h => hf ((numOk_nat n' k' h1 h8).1 h)), numE_no (fun h => hf ((numOk_nat n' k' h1 h8).1 h))]
      exact (number_no3 n' k' w h1 h8 (by omega) (by omega)).mono fun e w' ⟨he, hw⟩ => ⟨he, by rw [hw]; exact Below.refl _ _⟩

/-- what is read, and the error -/
def readV (s : ByteArray) : Int := if 8 < s.size then 0 else if 9223372036854775807 < valN s.data.toList then 0 else valN s.data.toList
def readE (s : ByteArray) : Int := if 8 < s.size then 2 else if 9223372036854775807 < valN s.data.toList then 3 else 0
theorem readOf_pair (s : ByteArray) (h : s.size ≤ 8) : readOf (valN s.data.toList) = .tuple #[.int .i64 (readV s), .int .i64 (readE s)] := by
  have h8 : ¬ 8 < s.size := by omega
  unfold readV readE
  rw [if_neg h8, if_neg h8]
  by_cases hc : 9223372036854775807 < valN s.data.toList
  · rw [readOf_big hc, if_pos hc, if_pos hc]
  · rw [readOf_small hc, if_neg hc, if_neg hc]
theorem read_all (s : ByteArray) (w : World) (hm : s.size ≤ maxLen) :
    Calls Tryz.prog 123 #[.string s] w fun e w' => e = .returned (.tuple #[.int .i64 (readV s), .int .i64 (readE s)]) ∧ w' = w := by
  by_cases h : 8 < s.size
  · unfold readV readE
    rw [if_pos h, if_pos h]
    exact read_long s w h hm
  · rw [← readOf_pair s (by omega)]
    exact read_any s w (by omega)

theorem valN_big (n k : Nat) : valN ((bigL n k).map fun z => UInt8.ofNat z.toNat) = n % 256 ^ k := by
  induction k with
  | zero => simp [bigL, valN, Nat.mod_one]
  | succ k ih =>
    simp only [bigL, List.map_cons]
    rw [valN_cons, ih, List.length_map, bigL_length]
    have e : (UInt8.ofNat (((n / 256 ^ k % 256 : Nat) : Int)).toNat).toNat = n / 256 ^ k % 256 := by
      rw [Int.toNat_natCast, UInt8.toNat_ofNat']
      omega
    rw [e, Nat.pow_succ, Nat.mod_mul, Nat.mul_comm, Nat.add_comm]
theorem read_num (n k : Int) (hn : n ≤ 9223372036854775807) (h : numOk n k) : readV (numS n k) = n ∧ readE (numS n k) = 0 := by
  rw [numS_yes h]
  obtain ⟨h1, h8, h0, hf⟩ := h
  obtain ⟨n', rfl⟩ := Int.eq_ofNat_of_zero_le h0
  obtain ⟨k', rfl⟩ := Int.eq_ofNat_of_zero_le (show 0 ≤ k by omega)
  have hf' : n' < 256 ^ k' := ((numOk_nat n' k' (by omega) (by omega)).1 ⟨h1, h8, h0, hf⟩)
  have hs : (strOfNums (bigL n' k')).size = k' := by rw [strOfNums_size, bigL_length]
  have hv : valN (strOfNums (bigL n' k')).data.toList = n' := by rw [strOfNums_data, valN_big, Nat.mod_eq_of_lt hf']
  simp only [Int.toNat_natCast]
  have c1 : ¬ 8 < (strOfNums (bigL n' k')).size := by omega
  have c2 : ¬ 9223372036854775807 < valN (strOfNums (bigL n' k')).data.toList := by omega
  unfold readV readE
  rw [if_neg c1, if_neg c1, if_neg c2, if_neg c2, hv]
  exact ⟨rfl, rfl⟩
theorem numS_size (n k : Int) : (numS n k).size ≤ 8 := by
  by_cases h : numOk n k
  · rw [numS_yes h, strOfNums_size, bigL_length]
    have := h.2.1
    omega
  · rw [numS_no h]
    show (0 : Nat) ≤ 8
    omega
end Go.Proofs.YtfpglpefofcdeaaGreatDoor
namespace Go.Proofs.YtfpglpefofcdeaaGreatDoor
open Go.RowKit
set_option linter.unusedVariables false
set_option linter.unusedSimpArgs false
set_option maxRecDepth 100000

/-- how a way is written -/
def wayN (x : XWay) : List Int := [x.code, x.when, if x.next then 1 else 0]
def wayL : List XWay → List Int
  | [] => []
  | x :: r => wayN x ++ wayL r
theorem wayL_append (l m : List XWay) : wayL (l ++ m) = wayL l ++ wayL m := by
  induction l with
  | nil => rfl
  | cons x l ih => simp [wayL, ih]
theorem wayL_take {l : List XWay} {k : Nat} {x : XWay} (h : l[k]? = some x) : wayL (l.take (k + 1)) = wayL (l.take k) ++ wayN x := by
  obtain ⟨h1, h2⟩ := List.getElem?_eq_some_iff.1 h
  rw [List.take_succ_eq_append_getElem h1, h2, wayL_append]
  simp [wayL]
theorem wayL_len (l : List XWay) : (wayL l).length = 3 * l.length := by
  induction l with
  | nil => rfl
  | cons x l ih => simp only [wayL, List.length_append, ih, List.length_cons]; unfold wayN; simp; omega
/-- ways, written -/
def wayT (v : XWays) : ByteArray := numS v.x 8 ++ numS v.y 8 ++ strOfNums (wayL v.list)
theorem sCells_nums (xs : List Int) (h : ∀ x ∈ xs, 0 ≤ x ∧ x ≤ 255) : sCells (strOfNums xs) = xs.map (Value.int .u8) := by
  unfold sCells strOfNums
  simp only [List.map_map]
  apply List.map_congr_left
  intro x hx
  have := h x hx
  simp only [Function.comp]
  congr 1
  have h2 : x.toNat < 256 := by omega
  rw [UInt8.toNat_ofNat', Nat.mod_eq_of_lt h2]
  omega
theorem wayN_byte {x : XWay} (h : inBw x = true) : ∀ n ∈ wayN x, 0 ≤ n ∧ n ≤ 255 := by
  have h1 : (0 ≤ x.code ∧ x.code ≤ 63) ∧ (0 ≤ x.when ∧ x.when ≤ 7) := of_decide_eq_true h
  intro n hn
  unfold wayN at hn
  simp only [List.mem_cons, List.not_mem_nil, or_false] at hn
  rcases hn with rfl | rfl | rfl
  · omega
  · omega
  · split <;> omega
theorem wayL_byte {l : List XWay} (h : ∀ x ∈ l, inBw x = true) : ∀ n ∈ wayL l, 0 ≤ n ∧ n ≤ 255 := by
  induction l with
  | nil => intro n hn; cases hn
  | cons x l ih =>
    intro n hn
    rcases List.mem_append.1 (show n ∈ wayN x ++ wayL l from hn) with h1 | h1
    · exact wayN_byte (h x (by simp)) n h1
    · exact ih (fun y hy => h y (by simp [hy])) n h1
theorem ways_in {v : XWays} (h : waysE v = 0) : ∀ x ∈ v.list, inBw x = true := by
  have := (waysE_zero h).2.2
  intro x hx
  cases hb : inBw x with
  | true => rfl
  | false => rw [List.any_eq_true.2 ⟨x, hx, by rw [hb]; rfl⟩] at this; cases this
set_option maxHeartbeats 4000000 in
theorem waysText_any (v : XWays) (w : World) (hr : RowWay w v.listo v.list) (he : waysE v = 0) :
    Calls Tryz.prog 38 #[valWays v] w fun e w' => e = .returned (.string (wayT v)) ∧ Below w.heap.size w w' := by
  obtain ⟨hl, ⟨hx, hy⟩, _⟩ := waysE_zero he
  have hin := ways_in he
  have N1 := hide (fun W => number_all v.x 8 W (by omega))
  have N2 := hide (fun W => number_all v.y 8 W (by omega))
  have z1 := numS_size v.x 8
  have z2 := numS_size v.y 8
  have HIN := hide hin; have HR := hide hr; have HLL := hide hl
  have HT : Hid (wayT v = numS v.x 8 ++ numS v.y 8 ++ strOfNums (wayL v.list)) := hide rfl
  generalize wayT v = T at *
  generalize numS v.x 8 = s1 at *
  generalize numS v.y 8 = s2 at *
  generalize numE v.x 8 = e1 at *
  generalize numE v.y 8 = e2 at *
  have ha1 := fun w' => run_string_add_sum (P := Tryz.prog) w' s1 s2 (by omega)
  have hcv := fun w' => Lib.run_convert_string_bytes (P := Tryz.prog) w' 9 104 5 (s1 ++ s2) Tryz.underlying9 Tryz.underlying104 Tryz.underlying5
  have hsz : (s1 ++ s2).size ≤ 16 := by rw [ByteArray.size_append]; omega
  obtain ⟨vx, vy, vo, vl, vc⟩ := v
  obtain ⟨W1, hW1⟩ : ∃ W1, W1 = w.alloc (.cells #[.int .i64 vx, .int .i64 vy, .slice vo vl.length vc] 28) := ⟨_, rfl⟩
  have hB1 : Below w.heap.size w W1 := by rw [hW1]; exact (Below.refl _ _).alloc (Nat.le_refl _) _
  have hX1 : W1.heap[w.heap.size]? = some (.cells #[.int .i64 vx, .int .i64 vy, .slice vo vl.length vc] 28) := by rw [hW1]; exact heap_alloc_new _ _
  have hC : ∀ wx, Below W1.heap.size W1 wx → wx.cell? ⟨w.heap.size, 1, none⟩ = some (.int .i64 vy) ∧ wx.cell? ⟨w.heap.size, 2, none⟩ = some (.slice vo vl.length vc) := fun wx hb => by
    have x1 := (hb.block _ (Array.getElem?_eq_some_iff.1 hX1).1).trans hX1
    refine ⟨?_, ?_⟩ <;> simp [World.cell?, x1]
  have c0 : W1.cell? ⟨w.heap.size, 0, none⟩ = some (.int .i64 vx) := by simp [World.cell?, hX1]
  unfold valWays
  dsimp only at *
  have HC := hide hC; have HB1 := hide hB1; have HW1 := hide hW1; have HSZ := hide hsz
  have hll : (vl.length : Int) ≤ 20 := by omega
  clear hr he hl hx hy hin z1 z2 hW1 hB1 hX1 hC hsz
  go_enter Tryz.func38, Tryz.ntmps38
  go_upto_region 1 with fail
  rw [← unhide HW1]
  go_wp2_with fail
  refine (unhide N1 _).mono ?_
  rintro e y1 ⟨rfl, k1⟩
  obtain ⟨d1, d2⟩ := unhide HC y1 k1
  have HK1 := hide k1
  clear k1
  go_wp2_with fail
  refine (unhide N2 _).mono ?_
  rintro e y2 ⟨rfl, k2⟩
  have k3 := (unhide HK1).trans (k2.mono (unhide HK1).size)
  have hb0 := brow_new y2 (s1 ++ s2) (by have := unhide HSZ; unfold maxLen; omega)
  have hbw0 : Below y2.heap.size y2 (Lib.bytesWorld y2 5 (s1 ++ s2)) := ⟨rfl, rfl, rfl, by rw [Lib.bytesWorld_size]; omega, fun k hk => Lib.bytesWorld_at_old _ _ _ _ hk⟩
  have k4 := k3.trans (hbw0.mono k3.size)
  obtain ⟨d3, d4⟩ := unhide HC _ k4
  have h5 := hb0
  obtain ⟨W3, hW3⟩ : ∃ W3, W3 = Lib.bytesWorld y2 5 (s1 ++ s2) := ⟨_, rfl⟩
  obtain ⟨cp, hcp⟩ : ∃ cp, cp = grownCap y2 (s1 ++ s2).size 0 5 := ⟨_, rfl⟩
  have hcv2 := hcv y2
  rw [← hW3, ← hcp] at hcv2 hb0
  rw [← hW3] at d4 k4
  have hb1 : BRow W3 w.heap.size (.slice (some ⟨y2.heap.size, 0, none⟩) (s1 ++ s2).size cp) (sCells (s1 ++ s2 ++ strOfNums (wayL ([] : List XWay)))) := by
    obtain ⟨g, cap, cur, fr, e1, e2, e3⟩ := hb0
    have : s1 ++ s2 ++ strOfNums (wayL ([] : List XWay)) = s1 ++ s2 := by apply ByteArray.ext; simp [wayL, strOfNums]
    rw [this]
    exact ⟨g, cap, cur, fr, e1, Nat.le_trans ((unhide HB1).trans (k3.mono (unhide HB1).size)).size e2, e3⟩
  rw [ByteArray.size_append] at hb1
  have HBR := hide hb1; have HK4 := hide k4
  clear hb0 hb1 hbw0 h5 k2 k3 k4 hcv d1 d2 d3 hW3 hcp c0
  go_wp2
  have hBW : Below w.heap.size w W3 := (unhide HB1).trans ((unhide HK4).mono (unhide HB1).size)
  have HBW := hide hBW
  clear hBW d4 hcv2
  go_loopw [7, 30] (fun bv iv wx => ∃ i : Nat, i ≤ vl.length ∧ iv = .int .i64 (i : Int) ∧ BRow wx w.heap.size bv (sCells (s1 ++ s2 ++ strOfNums (wayL (vl.take i)))) ∧ Below w.heap.size w wx) (fun _ iv _ => vl.length - (intOf iv).toNat)
  case atStart => exact ⟨0, Nat.zero_le _, rfl, unhide HBR, unhide HBW⟩
  case round =>
    obtain ⟨i, hi, rfl, hbr, hbw⟩ := hrel
    by_cases hlt : i < vl.length
    · obtain ⟨x, hx⟩ : ∃ x, vl[i]? = some x := ⟨_, List.getElem?_eq_getElem hlt⟩
      have hxin := unhide HIN x (List.mem_of_getElem? hx)
      rcases (unhide HR).1 with hn | ⟨gb, go, rfl, hgl, hcell⟩
      · rw [hn] at hlt; simp at hlt
      obtain ⟨p0, p1, p2⟩ := hcell i x hx
      replace p0 := (hbw.cell (p := ⟨gb, go + i * 3, none⟩) hgl).trans p0
      replace p1 := (hbw.cell (p := ⟨gb, go + i * 3 + 1, none⟩) hgl).trans p1
      replace p2 := (hbw.cell (p := ⟨gb, go + i * 3 + 2, none⟩) hgl).trans p2
      have hki : (i : Int) < (vl.length : Int) := by omega
      have hwt := wayL_take hx
      have hby := wayN_byte hxin
      have hb2 : (0 ≤ x.code ∧ x.code ≤ 63) ∧ (0 ≤ x.when ∧ x.when ≤ 7) := of_decide_eq_true hxin
      obtain ⟨xc, xw, xn⟩ := x
      dsimp only at p0 p1 p2 hb2
      have u1 : IntKind.u8.wrap xc = xc := by unfold IntKind.wrap; simp [IntKind.signed, IntKind.bits]; omega
      have u2 : IntKind.u8.wrap xw = xw := by unfold IntKind.wrap; simp [IntKind.signed, IntKind.bits]; omega
      have hlen3 : (sCells (s1 ++ s2 ++ strOfNums (wayL (vl.take i)))).length + 3 ≤ 1000000 := by
        rw [sCells_len, ByteArray.size_append, strOfNums_size, wayL_len, List.length_take]
        have := unhide HSZ; have := unhide HLL; omega
      have hfin : ∀ nx : Int, nx = (if xn then 1 else 0) → ∃ v' w', (Builtin.append_ #[104, 104] 104 #[u7, .slice (some ⟨wr.heap.size + 1, 0, none⟩) 3 3]).run Tryz.prog ((wr.alloc (.cells #[.int .i64 xc, .int .i64 xw, .bool xn] 86)).alloc (.cells #[.int .u8 xc, .int .u8 xw, .int .u8 nx] 5)) = .ok v' w' ∧ BRow w' w.heap.size v' (sCells (s1 ++ s2 ++ strOfNums (wayL (vl.take (i + 1))))) ∧ Below w.heap.size w w' := by
        intro nx hnx
        have hb5 : Below wr.heap.size wr ((wr.alloc (.cells #[.int .i64 xc, .int .i64 xw, .bool xn] 86)).alloc (.cells #[.int .u8 xc, .int .u8 xw, .int .u8 nx] 5)) := ((Below.refl _ _).alloc (Nat.le_refl _) _).alloc (by simp) _
        have hnb : ((wr.alloc (.cells #[.int .i64 xc, .int .i64 xw, .bool xn] 86)).alloc (.cells #[.int .u8 xc, .int .u8 xw, .int .u8 nx] 5)).heap[wr.heap.size + 1]? = some (.cells #[.int .u8 xc, .int .u8 xw, .int .u8 nx] 5) := by
          have := heap_alloc_new (wr.alloc (.cells #[.int .i64 xc, .int .i64 xw, .bool xn] 86)) (.cells #[.int .u8 xc, .int .u8 xw, .int .u8 nx] 5)
          rwa [show (wr.alloc (.cells #[.int .i64 xc, .int .i64 xw, .bool xn] 86)).heap.size = wr.heap.size + 1 by simp] at this
        obtain ⟨v', w', hrun, hbr', hbl'⟩ := run_append3 (hbr.below hb5) (Nat.le_trans hbw.size hb5.size) hlen3 (wr.heap.size + 1) xc xw nx hnb
        refine ⟨v', w', hrun, ?_, (hbw.trans (hb5.mono hbw.size)).trans hbl'⟩
        have e : s1 ++ s2 ++ strOfNums (wayL (vl.take (i + 1))) = s1 ++ s2 ++ strOfNums (wayL (vl.take i)) ++ strOfNums (wayN ⟨xc, xw, xn⟩) := by
          rw [hwt]
          apply ByteArray.ext
          simp [strOfNums]
        rw [e, sCells_append, sCells_nums _ hby]
        unfold wayN
        dsimp only
        rw [← hnx]
        exact hbr'
      have HFIN := hide hfin
      clear hx hcell hgl hwt hby hb2 hlen3 hfin hbr hbw hxin
      cases xn with
      | true =>
        obtain ⟨v', w', hrun, hbr', hbl'⟩ := unhide HFIN 1 rfl
        have HB' := hide hbr'; have HL' := hide hbl'
        have HRUN := hide hrun
        clear hbr' hbl' hrun
        go_wp2_with (at_builtin; refine wpList_append_run rfl _ _ 104 rfl rfl _ _ v' w' rfl rfl (unhide HRUN) ?_)
        go_roundw
        case rel => exact ⟨i + 1, by omega, by go_num, unhide HB', unhide HL'⟩
        case measure => simp [intOf]; omega
      | false =>
        obtain ⟨v', w', hrun, hbr', hbl'⟩ := unhide HFIN 0 rfl
        have HB' := hide hbr'; have HL' := hide hbl'
        have HRUN := hide hrun
        clear hbr' hbl' hrun
        go_wp2_with (at_builtin; refine wpList_append_run rfl _ _ 104 rfl rfl _ _ v' w' rfl rfl (unhide HRUN) ?_)
        go_roundw
        case rel => exact ⟨i + 1, by omega, by go_num, unhide HB', unhide HL'⟩
        case measure => simp [intOf]; omega
    · have hki : ¬ (i : Int) < (vl.length : Int) := by omega
      rw [List.take_of_length_le (by omega), ← unhide HT] at hbr
      have hcv3 := brow_conv hbr
      have HB := hide hbw
      clear hbr hbw
      go_wp2
      go_ret
      exact ⟨rfl, unhide HB⟩
end Go.Proofs.YtfpglpefofcdeaaGreatDoor
namespace Go.Proofs.YtfpglpefofcdeaaGreatDoor
open Go.ChangeShapes Go.WideShapes Go.ChangeAt Go.RowKit Go.Deep
set_option linter.unusedVariables false
set_option maxRecDepth 100000

structure XDeal where
  shop : Int
  trace : Int
  amount : Int
  cash : Bool
  day : Int
  bits : Int
  nonce : ByteArray
deriving Inhabited
def valDeal (x : XDeal) : Value := .agg #[.int .i64 x.shop, .int .i64 x.trace, .int .i64 x.amount, .bool x.cash, .int .i64 x.day, .int .i64 x.bits, .string x.nonce]
def okDeal (W : World) (x : XDeal) : Prop := (-9223372036854775808 ≤ x.shop ∧ x.shop ≤ 9223372036854775807) ∧ (-9223372036854775808 ≤ x.trace ∧ x.trace ≤ 9223372036854775807) ∧ (-9223372036854775808 ≤ x.amount ∧ x.amount ≤ 9223372036854775807) ∧ (-9223372036854775808 ≤ x.day ∧ x.day ≤ 9223372036854775807) ∧ (-9223372036854775808 ≤ x.bits ∧ x.bits ≤ 9223372036854775807) ∧ x.nonce.size ≤ maxLen
theorem cellsOfDeal : Tryz.prog.cellsOf 46 = 7 := by kernel_rfl
theorem okDeal.below {W W' : World} {x : XDeal} (h : okDeal W x) (hb : Below W.heap.size W W') : okDeal W' x := by
  obtain ⟨h0, h1, h2, h3, h4, h5⟩ := h
  exact ⟨h0, h1, h2, h3, h4, h5⟩
theorem opencDeal {H : Type} {enc : TypeId × Value → H} {W : World} {k : Nat} {cs : List Value} {y : DataW H × List MemPlace}
    (h : DataW.trod enc Tryz.prog W 0 (fun _ => true) true k 46 cs = some y) :
    ∃ x : XDeal, cs = [.int .i64 x.shop, .int .i64 x.trace, .int .i64 x.amount, .bool x.cash, .int .i64 x.day, .int .i64 x.bits, .string x.nonce] ∧ okDeal W x := by
  obtain ⟨xs, k', _, _, hsz, hlen, hq⟩ := DataW.trod_struct Tryz.underlying46 h
  rw [cellsOfDeal] at hsz
  match cs, hsz with
  | [c0, c1, c2, c3, c4, c5, c6], _ =>
    match xs, hlen with
    | [y0, y1, y2, y3, y4, y5, y6], _ =>
      have h0 : DataW.trod enc Tryz.prog W 0 (fun _ => true) true k' 3 [c0] = some y0 := by simpa [cellsOfBool, cellsOfInt, cellsOfString] using hq 0 _ rfl
      obtain ⟨z0, e0, g0, w0⟩ := DataW.trod_int Tryz.underlying3 h0
      have h1 : DataW.trod enc Tryz.prog W 0 (fun _ => true) true k' 3 [c1] = some y1 := by simpa [cellsOfBool, cellsOfInt, cellsOfString] using hq 1 _ rfl
      obtain ⟨z1, e1, g1, w1⟩ := DataW.trod_int Tryz.underlying3 h1
      have h2 : DataW.trod enc Tryz.prog W 0 (fun _ => true) true k' 3 [c2] = some y2 := by simpa [cellsOfBool, cellsOfInt, cellsOfString] using hq 2 _ rfl
      obtain ⟨z2, e2, g2, w2⟩ := DataW.trod_int Tryz.underlying3 h2
      have h3 : DataW.trod enc Tryz.prog W 0 (fun _ => true) true k' 4 [c3] = some y3 := by simpa [cellsOfBool, cellsOfInt, cellsOfString] using hq 3 _ rfl
      obtain ⟨z3, e3, g3⟩ := DataW.trod_bool Tryz.underlying4 h3
      have h4 : DataW.trod enc Tryz.prog W 0 (fun _ => true) true k' 3 [c4] = some y4 := by simpa [cellsOfBool, cellsOfInt, cellsOfString] using hq 4 _ rfl
      obtain ⟨z4, e4, g4, w4⟩ := DataW.trod_int Tryz.underlying3 h4
      have h5 : DataW.trod enc Tryz.prog W 0 (fun _ => true) true k' 3 [c5] = some y5 := by simpa [cellsOfBool, cellsOfInt, cellsOfString] using hq 5 _ rfl
      obtain ⟨z5, e5, g5, w5⟩ := DataW.trod_int Tryz.underlying3 h5
      have h6 : DataW.trod enc Tryz.prog W 0 (fun _ => true) true k' 9 [c6] = some y6 := by simpa [cellsOfBool, cellsOfInt, cellsOfString] using hq 6 _ rfl
      obtain ⟨z6, e6, g6, w6⟩ := DataW.trod_string Tryz.underlying9 h6
      simp at e0 e1 e2 e3 e4 e5 e6
      subst e0
      subst e1
      subst e2
      subst e3
      subst e4
      subst e5
      subst e6
      exact ⟨⟨z0, z1, z2, z3, z4, z5, z6⟩, rfl, ⟨bounds_i64 w0, bounds_i64 w1, bounds_i64 w2, bounds_i64 w4, bounds_i64 w5, w6⟩⟩
theorem openDeal {H : Type} {enc : TypeId × Value → H} {W : World} {b0 : Nat} {r : Reach} {v : Value} {d : DataW H} {p : List MemPlace}
    (hv : Value.okWide Tryz.prog W r b0 46 v) (h : DataW.Trod enc Tryz.prog W 0 (fun _ => true) true 46 v d p) : ∃ x : XDeal, v = valDeal x ∧ okDeal W x := by
  obtain ⟨cs, rfl, hsz⟩ := okWide_struct Tryz.underlying46 hv
  obtain ⟨fuel, hf⟩ := h
  obtain ⟨x, hx, ho⟩ := opencDeal hf
  obtain ⟨l⟩ := cs
  simp only [Value.cells] at hx
  subst hx
  exact ⟨x, rfl, ho⟩
def bulkDeal (x : XDeal) : Nat := x.nonce.size
theorem opencbDeal {H : Type} {enc : TypeId × Value → H} {W : World} {k : Nat} {cs : List Value} {y : DataW H × List MemPlace}
    (h : DataW.trod enc Tryz.prog W 0 (fun _ => true) true k 46 cs = some y) :
    ∃ x : XDeal, cs = [.int .i64 x.shop, .int .i64 x.trace, .int .i64 x.amount, .bool x.cash, .int .i64 x.day, .int .i64 x.bits, .string x.nonce] ∧ okDeal W x ∧ bulkDeal x ≤ Rows.uptoBulk y.1 := by
  obtain ⟨xs, k', _, hagg, hsz, hlen, hq⟩ := DataW.trod_struct Tryz.underlying46 h
  rw [cellsOfDeal] at hsz
  match cs, hsz with
  | [c0, c1, c2, c3, c4, c5, c6], _ =>
    match xs, hlen, hagg with
    | [y0, y1, y2, y3, y4, y5, y6], _, hagg =>
      have hbk := congrArg Rows.uptoBulk (Prod.ext_iff.1 hagg).1
      have h0 : DataW.trod enc Tryz.prog W 0 (fun _ => true) true k' 3 [c0] = some y0 := by simpa [cellsOfBool, cellsOfInt, cellsOfString] using hq 0 _ rfl
      obtain ⟨z0, e0, g0, w0⟩ := DataW.trod_int Tryz.underlying3 h0
      subst g0
      have h1 : DataW.trod enc Tryz.prog W 0 (fun _ => true) true k' 3 [c1] = some y1 := by simpa [cellsOfBool, cellsOfInt, cellsOfString] using hq 1 _ rfl
      obtain ⟨z1, e1, g1, w1⟩ := DataW.trod_int Tryz.underlying3 h1
      subst g1
      have h2 : DataW.trod enc Tryz.prog W 0 (fun _ => true) true k' 3 [c2] = some y2 := by simpa [cellsOfBool, cellsOfInt, cellsOfString] using hq 2 _ rfl
      obtain ⟨z2, e2, g2, w2⟩ := DataW.trod_int Tryz.underlying3 h2
      subst g2
      have h3 : DataW.trod enc Tryz.prog W 0 (fun _ => true) true k' 4 [c3] = some y3 := by simpa [cellsOfBool, cellsOfInt, cellsOfString] using hq 3 _ rfl
      obtain ⟨z3, e3, g3⟩ := DataW.trod_bool Tryz.underlying4 h3
      subst g3
      have h4 : DataW.trod enc Tryz.prog W 0 (fun _ => true) true k' 3 [c4] = some y4 := by simpa [cellsOfBool, cellsOfInt, cellsOfString] using hq 4 _ rfl
      obtain ⟨z4, e4, g4, w4⟩ := DataW.trod_int Tryz.underlying3 h4
      subst g4
      have h5 : DataW.trod enc Tryz.prog W 0 (fun _ => true) true k' 3 [c5] = some y5 := by simpa [cellsOfBool, cellsOfInt, cellsOfString] using hq 5 _ rfl
      obtain ⟨z5, e5, g5, w5⟩ := DataW.trod_int Tryz.underlying3 h5
      subst g5
      have h6 : DataW.trod enc Tryz.prog W 0 (fun _ => true) true k' 9 [c6] = some y6 := by simpa [cellsOfBool, cellsOfInt, cellsOfString] using hq 6 _ rfl
      obtain ⟨z6, e6, g6, w6⟩ := DataW.trod_string Tryz.underlying9 h6
      have l6 : z6.data.toList.length = z6.size := by simp
      subst g6
      simp at e0 e1 e2 e3 e4 e5 e6
      subst e0
      subst e1
      subst e2
      subst e3
      subst e4
      subst e5
      subst e6
      refine ⟨⟨z0, z1, z2, z3, z4, z5, z6⟩, rfl, ⟨bounds_i64 w0, bounds_i64 w1, bounds_i64 w2, bounds_i64 w4, bounds_i64 w5, w6⟩, ?_⟩
      simp only [List.map_cons, List.map_nil, Rows.uptoBulk, Rows.uptoBulkAll] at hbk
      rw [hbk]
      unfold bulkDeal
      dsimp only
      omega
theorem openbDeal {H : Type} {enc : TypeId × Value → H} {W : World} {b0 : Nat} {r : Reach} {v : Value} {d : DataW H} {p : List MemPlace}
    (hv : Value.okWide Tryz.prog W r b0 46 v) (h : DataW.Trod enc Tryz.prog W 0 (fun _ => true) true 46 v d p) : ∃ x : XDeal, v = valDeal x ∧ okDeal W x ∧ bulkDeal x ≤ Rows.uptoBulk d := by
  obtain ⟨cs, rfl, hsz⟩ := okWide_struct Tryz.underlying46 hv
  obtain ⟨fuel, hf⟩ := h
  obtain ⟨x, hx, ho, hb⟩ := opencbDeal hf
  obtain ⟨l⟩ := cs
  simp only [Value.cells] at hx
  subst hx
  exact ⟨x, rfl, ho, hb⟩
structure XCommand where
  dO : Int
  name : ByteArray
  digits : ByteArray
  want : Int
  deal : XDeal
  extra : ByteArray
  answer : ByteArray
  orders : ByteArray
deriving Inhabited
def valCommand (x : XCommand) : Value := .agg #[.int .i64 x.dO, .string x.name, .string x.digits, .int .i64 x.want, .int .i64 x.deal.shop, .int .i64 x.deal.trace, .int .i64 x.deal.amount, .bool x.deal.cash, .int .i64 x.deal.day, .int .i64 x.deal.bits, .string x.deal.nonce, .string x.extra, .string x.answer, .string x.orders]
def okCommand (W : World) (x : XCommand) : Prop := (-9223372036854775808 ≤ x.dO ∧ x.dO ≤ 9223372036854775807) ∧ x.name.size ≤ maxLen ∧ x.digits.size ≤ maxLen ∧ (-9223372036854775808 ≤ x.want ∧ x.want ≤ 9223372036854775807) ∧ okDeal W x.deal ∧ x.extra.size ≤ maxLen ∧ x.answer.size ≤ maxLen ∧ x.orders.size ≤ maxLen
theorem cellsOfCommand : Tryz.prog.cellsOf 48 = 14 := by kernel_rfl
theorem okCommand.below {W W' : World} {x : XCommand} (h : okCommand W x) (hb : Below W.heap.size W W') : okCommand W' x := by
  obtain ⟨h0, h1, h2, h3, h4, h5, h6, h7⟩ := h
  exact ⟨h0, h1, h2, h3, h4.below hb, h5, h6, h7⟩
theorem opencCommand {H : Type} {enc : TypeId × Value → H} {W : World} {k : Nat} {cs : List Value} {y : DataW H × List MemPlace}
    (h : DataW.trod enc Tryz.prog W 0 (fun _ => true) true k 48 cs = some y) :
    ∃ x : XCommand, cs = [.int .i64 x.dO, .string x.name, .string x.digits, .int .i64 x.want, .int .i64 x.deal.shop, .int .i64 x.deal.trace, .int .i64 x.deal.amount, .bool x.deal.cash, .int .i64 x.deal.day, .int .i64 x.deal.bits, .string x.deal.nonce, .string x.extra, .string x.answer, .string x.orders] ∧ okCommand W x := by
  obtain ⟨xs, k', _, _, hsz, hlen, hq⟩ := DataW.trod_struct Tryz.underlying48 h
  rw [cellsOfCommand] at hsz
  match cs, hsz with
  | [c0, c1, c2, c3, c4, c5, c6, c7, c8, c9, c10, c11, c12, c13], _ =>
    match xs, hlen with
    | [y0, y1, y2, y3, y4, y5, y6, y7], _ =>
      have h0 : DataW.trod enc Tryz.prog W 0 (fun _ => true) true k' 3 [c0] = some y0 := by simpa [cellsOfBool, cellsOfDeal, cellsOfInt, cellsOfString] using hq 0 _ rfl
      obtain ⟨z0, e0, g0, w0⟩ := DataW.trod_int Tryz.underlying3 h0
      have h1 : DataW.trod enc Tryz.prog W 0 (fun _ => true) true k' 9 [c1] = some y1 := by simpa [cellsOfBool, cellsOfDeal, cellsOfInt, cellsOfString] using hq 1 _ rfl
      obtain ⟨z1, e1, g1, w1⟩ := DataW.trod_string Tryz.underlying9 h1
      have h2 : DataW.trod enc Tryz.prog W 0 (fun _ => true) true k' 9 [c2] = some y2 := by simpa [cellsOfBool, cellsOfDeal, cellsOfInt, cellsOfString] using hq 2 _ rfl
      obtain ⟨z2, e2, g2, w2⟩ := DataW.trod_string Tryz.underlying9 h2
      have h3 : DataW.trod enc Tryz.prog W 0 (fun _ => true) true k' 3 [c3] = some y3 := by simpa [cellsOfBool, cellsOfDeal, cellsOfInt, cellsOfString] using hq 3 _ rfl
      obtain ⟨z3, e3, g3, w3⟩ := DataW.trod_int Tryz.underlying3 h3
      have h4 : DataW.trod enc Tryz.prog W 0 (fun _ => true) true k' 46 [c4, c5, c6, c7, c8, c9, c10] = some y4 := by simpa [cellsOfBool, cellsOfDeal, cellsOfInt, cellsOfString] using hq 4 _ rfl
      obtain ⟨z4, e4, w4⟩ := opencDeal h4
      have h5 : DataW.trod enc Tryz.prog W 0 (fun _ => true) true k' 9 [c11] = some y5 := by simpa [cellsOfBool, cellsOfDeal, cellsOfInt, cellsOfString] using hq 5 _ rfl
      obtain ⟨z5, e5, g5, w5⟩ := DataW.trod_string Tryz.underlying9 h5
      have h6 : DataW.trod enc Tryz.prog W 0 (fun _ => true) true k' 9 [c12] = some y6 := by simpa [cellsOfBool, cellsOfDeal, cellsOfInt, cellsOfString] using hq 6 _ rfl
      obtain ⟨z6, e6, g6, w6⟩ := DataW.trod_string Tryz.underlying9 h6
      have h7 : DataW.trod enc Tryz.prog W 0 (fun _ => true) true k' 9 [c13] = some y7 := by simpa [cellsOfBool, cellsOfDeal, cellsOfInt, cellsOfString] using hq 7 _ rfl
      obtain ⟨z7, e7, g7, w7⟩ := DataW.trod_string Tryz.underlying9 h7
      simp at e0 e1 e2 e3 e4 e5 e6 e7
      subst e0
      subst e1
      subst e2
      subst e3
      obtain ⟨rfl, rfl, rfl, rfl, rfl, rfl, rfl⟩ := e4
      subst e5
      subst e6
      subst e7
      exact ⟨⟨z0, z1, z2, z3, z4, z5, z6, z7⟩, rfl, ⟨bounds_i64 w0, w1, w2, bounds_i64 w3, w4, w5, w6, w7⟩⟩
theorem openCommand {H : Type} {enc : TypeId × Value → H} {W : World} {b0 : Nat} {r : Reach} {v : Value} {d : DataW H} {p : List MemPlace}
    (hv : Value.okWide Tryz.prog W r b0 48 v) (h : DataW.Trod enc Tryz.prog W 0 (fun _ => true) true 48 v d p) : ∃ x : XCommand, v = valCommand x ∧ okCommand W x := by
  obtain ⟨cs, rfl, hsz⟩ := okWide_struct Tryz.underlying48 hv
  obtain ⟨fuel, hf⟩ := h
  obtain ⟨x, hx, ho⟩ := opencCommand hf
  obtain ⟨l⟩ := cs
  simp only [Value.cells] at hx
  subst hx
  exact ⟨x, rfl, ho⟩
def bulkCommand (x : XCommand) : Nat := x.name.size + x.digits.size + bulkDeal x.deal + x.extra.size + x.answer.size + x.orders.size
theorem opencbCommand {H : Type} {enc : TypeId × Value → H} {W : World} {k : Nat} {cs : List Value} {y : DataW H × List MemPlace}
    (h : DataW.trod enc Tryz.prog W 0 (fun _ => true) true k 48 cs = some y) :
    ∃ x : XCommand, cs = [.int .i64 x.dO, .string x.name, .string x.digits, .int .i64 x.want, .int .i64 x.deal.shop, .int .i64 x.deal.trace, .int .i64 x.deal.amount, .bool x.deal.cash, .int .i64 x.deal.day, .int .i64 x.deal.bits, .string x.deal.nonce, .string x.extra, .string x.answer, .string x.orders] ∧ okCommand W x ∧ bulkCommand x ≤ Rows.uptoBulk y.1 := by
  obtain ⟨xs, k', _, hagg, hsz, hlen, hq⟩ := DataW.trod_struct Tryz.underlying48 h
  rw [cellsOfCommand] at hsz
  match cs, hsz with
  | [c0, c1, c2, c3, c4, c5, c6, c7, c8, c9, c10, c11, c12, c13], _ =>
    match xs, hlen, hagg with
    | [y0, y1, y2, y3, y4, y5, y6, y7], _, hagg =>
      have hbk := congrArg Rows.uptoBulk (Prod.ext_iff.1 hagg).1
      have h0 : DataW.trod enc Tryz.prog W 0 (fun _ => true) true k' 3 [c0] = some y0 := by simpa [cellsOfBool, cellsOfDeal, cellsOfInt, cellsOfString] using hq 0 _ rfl
      obtain ⟨z0, e0, g0, w0⟩ := DataW.trod_int Tryz.underlying3 h0
      subst g0
      have h1 : DataW.trod enc Tryz.prog W 0 (fun _ => true) true k' 9 [c1] = some y1 := by simpa [cellsOfBool, cellsOfDeal, cellsOfInt, cellsOfString] using hq 1 _ rfl
      obtain ⟨z1, e1, g1, w1⟩ := DataW.trod_string Tryz.underlying9 h1
      have l1 : z1.data.toList.length = z1.size := by simp
      subst g1
      have h2 : DataW.trod enc Tryz.prog W 0 (fun _ => true) true k' 9 [c2] = some y2 := by simpa [cellsOfBool, cellsOfDeal, cellsOfInt, cellsOfString] using hq 2 _ rfl
      obtain ⟨z2, e2, g2, w2⟩ := DataW.trod_string Tryz.underlying9 h2
      have l2 : z2.data.toList.length = z2.size := by simp
      subst g2
      have h3 : DataW.trod enc Tryz.prog W 0 (fun _ => true) true k' 3 [c3] = some y3 := by simpa [cellsOfBool, cellsOfDeal, cellsOfInt, cellsOfString] using hq 3 _ rfl
      obtain ⟨z3, e3, g3, w3⟩ := DataW.trod_int Tryz.underlying3 h3
      subst g3
      have h4 : DataW.trod enc Tryz.prog W 0 (fun _ => true) true k' 46 [c4, c5, c6, c7, c8, c9, c10] = some y4 := by simpa [cellsOfBool, cellsOfDeal, cellsOfInt, cellsOfString] using hq 4 _ rfl
      obtain ⟨z4, e4, w4, b4⟩ := opencbDeal h4
      have h5 : DataW.trod enc Tryz.prog W 0 (fun _ => true) true k' 9 [c11] = some y5 := by simpa [cellsOfBool, cellsOfDeal, cellsOfInt, cellsOfString] using hq 5 _ rfl
      obtain ⟨z5, e5, g5, w5⟩ := DataW.trod_string Tryz.underlying9 h5
      have l5 : z5.data.toList.length = z5.size := by simp
      subst g5
      have h6 : DataW.trod enc Tryz.prog W 0 (fun _ => true) true k' 9 [c12] = some y6 := by simpa [cellsOfBool, cellsOfDeal, cellsOfInt, cellsOfString] using hq 6 _ rfl
      obtain ⟨z6, e6, g6, w6⟩ := DataW.trod_string Tryz.underlying9 h6
      have l6 : z6.data.toList.length = z6.size := by simp
      subst g6
      have h7 : DataW.trod enc Tryz.prog W 0 (fun _ => true) true k' 9 [c13] = some y7 := by simpa [cellsOfBool, cellsOfDeal, cellsOfInt, cellsOfString] using hq 7 _ rfl
      obtain ⟨z7, e7, g7, w7⟩ := DataW.trod_string Tryz.underlying9 h7
      have l7 : z7.data.toList.length = z7.size := by simp
      subst g7
      simp at e0 e1 e2 e3 e4 e5 e6 e7
      subst e0
      subst e1
      subst e2
      subst e3
      obtain ⟨rfl, rfl, rfl, rfl, rfl, rfl, rfl⟩ := e4
      subst e5
      subst e6
      subst e7
      refine ⟨⟨z0, z1, z2, z3, z4, z5, z6, z7⟩, rfl, ⟨bounds_i64 w0, w1, w2, bounds_i64 w3, w4, w5, w6, w7⟩, ?_⟩
      simp only [List.map_cons, List.map_nil, Rows.uptoBulk, Rows.uptoBulkAll] at hbk
      rw [hbk]
      unfold bulkCommand
      dsimp only
      omega
theorem openbCommand {H : Type} {enc : TypeId × Value → H} {W : World} {b0 : Nat} {r : Reach} {v : Value} {d : DataW H} {p : List MemPlace}
    (hv : Value.okWide Tryz.prog W r b0 48 v) (h : DataW.Trod enc Tryz.prog W 0 (fun _ => true) true 48 v d p) : ∃ x : XCommand, v = valCommand x ∧ okCommand W x ∧ bulkCommand x ≤ Rows.uptoBulk d := by
  obtain ⟨cs, rfl, hsz⟩ := okWide_struct Tryz.underlying48 hv
  obtain ⟨fuel, hf⟩ := h
  obtain ⟨x, hx, ho, hb⟩ := opencbCommand hf
  obtain ⟨l⟩ := cs
  simp only [Value.cells] at hx
  subst hx
  exact ⟨x, rfl, ho, hb⟩
end Go.Proofs.YtfpglpefofcdeaaGreatDoor
namespace Go.Proofs.YtfpglpefofcdeaaGreatDoor
open Go.RowKit
set_option linter.unusedVariables false

/-- is it a tag? -/
def validB (t : Int) : Bool :=
  if t < 1 ∨ 16777216 ≤ t then false
  else if t < 256 then !(t % 32 == 31)
  else if t < 65536 then (t / 256 % 32 == 31) && (decide (31 ≤ t % 256) && decide (t % 256 ≤ 127))
  else (t / 65536 % 32 == 31) && (decide (129 ≤ t / 256 % 256) && decide (t % 256 ≤ 127))

theorem and_31 (x : Int) (h₀ : 0 ≤ x) (h₁ : x ≤ 9223372036854775807) : bits .and .i64 x 31 = x % 32 := bits_mask .i64 63 (by decide) wraps_i64 5 (by decide) x h₀ (by omega)
theorem and_255 (x : Int) (h₀ : 0 ≤ x) (h₁ : x ≤ 9223372036854775807) : bits .and .i64 x 255 = x % 256 := bits_mask .i64 63 (by decide) wraps_i64 8 (by decide) x h₀ (by omega)

theorem get_nums (xs : List Int) (i : Nat) (v : Int) (hv : xs[i]? = some v) (h0 : 0 ≤ v) (h1 : v < 256) (h : i < (strOfNums xs).size) : (((strOfNums xs)[i]'h).toNat : Int) = v := by
  have e : (strOfNums xs)[i]'h = ((xs.map fun n => UInt8.ofNat n.toNat).toArray)[i]'(by simpa [strOfNums_size] using h) := rfl
  have hx : i < xs.length := by rw [strOfNums_size] at h; exact h
  rw [e]
  have ev : xs[i] = v := by rw [List.getElem?_eq_getElem hx] at hv; exact Option.some.inj hv
  simp only [List.getElem_toArray, List.getElem_map, ev, UInt8.toNat_ofNat']
  omega

theorem goesOn_any (x : Int) (w : World) (h₀ : 0 ≤ x) (h₁ : x ≤ 9223372036854775807) :
    Calls Tryz.prog 130 #[.int .i64 x] w fun e w' => e = .returned (.bool (x % 32 == 31)) ∧ w' = w := by
  have e := and_31 x h₀ h₁
  go_enter Tryz.func130, Tryz.ntmps130
  go_wp2
  go_ret
  exact ⟨rfl, rfl⟩

set_option maxHeartbeats 1000000 in
theorem valid_any (t : Int) (w : World) (h₁ : t ≤ 9223372036854775807) :
    Calls Tryz.prog 113 #[.int .i64 t] w fun e w' => e = .returned (.bool (validB t)) ∧ w' = w := by
  by_cases c0 : t < 1
  · have hv : validB t = false := by unfold validB; rw [if_pos (.inl c0)]
    rw [hv]
    go_enter Tryz.func113, Tryz.ntmps113
    go_wp2
    go_ret
    exact ⟨rfl, rfl⟩
  · by_cases c1 : 16777216 ≤ t
    · have hv : validB t = false := by unfold validB; rw [if_pos (.inr c1)]
      rw [hv]
      go_enter Tryz.func113, Tryz.ntmps113
      go_wp2
      go_ret
      exact ⟨rfl, rfl⟩
    · have hn : ¬ (t < 1 ∨ 16777216 ≤ t) := by omega
      have e1 := and_255 t (by omega) h₁
      have e2 := and_255 (t / 256) (by omega) (by omega)
      by_cases c2 : t < 256
      · have hv : validB t = !(t % 32 == 31) := by unfold validB; rw [if_neg hn, if_pos c2]
        rw [hv]
        clear hn
        go_enter Tryz.func113, Tryz.ntmps113
        go_wp2_with (go_at_call 130; refine (goesOn_any t _ (by omega) (by omega)).mono ?_; rintro e w1 ⟨rfl, rfl⟩)
        go_ret
        exact ⟨rfl, rfl⟩
      · by_cases c3 : t < 65536
        · have hv : validB t = ((t / 256 % 32 == 31) && (decide (31 ≤ t % 256) && decide (t % 256 ≤ 127))) := by unfold validB; rw [if_neg hn, if_neg c2, if_pos c3]
          rw [hv]
          clear hn
          go_enter Tryz.func113, Tryz.ntmps113
          go_wp2_with (go_at_call 130; refine (goesOn_any (t / 256) _ (by omega) (by omega)).mono ?_; rintro e w1 ⟨rfl, rfl⟩)
          · have g1 : t / 256 % 32 = 31 := by assumption
            have g2 : 31 ≤ t % 256 := by assumption
            go_ret
            exact ⟨ret_bool (by simp [g1, g2]), rfl⟩
          · have g1 : t / 256 % 32 = 31 := by assumption
            have g2 : t % 256 < 31 := by assumption
            go_ret
            exact ⟨ret_bool (by simp; omega), rfl⟩
          · have g1 : ¬ t / 256 % 32 = 31 := by assumption
            go_ret
            exact ⟨ret_bool (by simp [g1]), rfl⟩
        · have hv : validB t = ((t / 65536 % 32 == 31) && (decide (129 ≤ t / 256 % 256) && decide (t % 256 ≤ 127))) := by unfold validB; rw [if_neg hn, if_neg c2, if_neg c3]
          rw [hv]
          clear hn
          go_enter Tryz.func113, Tryz.ntmps113
          go_wp2_with (go_at_call 130; refine (goesOn_any (t / 65536) _ (by omega) (by omega)).mono ?_; rintro e w1 ⟨rfl, rfl⟩)
          · have g1 : t / 65536 % 32 = 31 := by assumption
            have g2 : 129 ≤ t / 256 % 256 := by assumption
            go_ret
            exact ⟨ret_bool (by simp [g1, g2]), rfl⟩
          · have g1 : t / 65536 % 32 = 31 := by assumption
            have g2 : t / 256 % 256 < 129 := by assumption
            go_ret
            exact ⟨ret_bool (by simp; omega), rfl⟩
          · have g1 : ¬ t / 65536 % 32 = 31 := by assumption
            go_ret
            exact ⟨ret_bool (by simp [g1]), rfl⟩

set_option maxRecDepth 100000 in
set_option maxHeartbeats 1000000 in
theorem rvalid_any (t : Int) (w : World) (h₁ : t ≤ 9223372036854775807) :
    Calls Tryz.prog 78 #[.int .i64 t] w fun e w' => e = .returned (.bool (validB t)) ∧ Below w.heap.size w w' := by
  go_enter Tryz.func78, Tryz.ntmps78
  go_wp2
  go_loopw [3] (fun n wr => ∃ j : Nat, 1 ≤ j ∧ j ≤ 4 ∧ n = .int .i64 j ∧ (1 ≤ t → 1 < j → 256 ^ (j - 1) ≤ t) ∧ Below w.heap.size w wr) (fun n _ => 4 - (intOf n).toNat)
  case atStart => exact ⟨1, by omega, by omega, rfl, by omega, Below.refl _ _⟩
  case round =>
    obtain ⟨j, hj1, hj4, rfl, hge, hnx⟩ := hrel
    by_cases c0 : t < 1
    · by_cases c4 : j ≤ 3
      · clear hge
        go_wp2
        go_roundw
        case rel => exact ⟨j + 1, by omega, by omega, by go_num, by omega, hnx⟩
        case measure => simp [intOf]; omega
      · clear hge
        have hv : validB t = false := by unfold validB; rw [if_pos (.inl c0)]
        have HV := hide hv
        clear hv
        go_wp2
        go_ret
        exact ⟨ret_bool (unhide HV).symm, hnx⟩
    · have hj : j = 1 ∨ j = 2 ∨ j = 3 ∨ j = 4 := by omega
      have hge' := hge (by omega)
      clear hge
      obtain ⟨n, rfl⟩ := Int.eq_ofNat_of_zero_le (show 0 ≤ t by omega)
      have ht : ∀ b : Bool, j ≤ 3 → (b = decide (((256 ^ j : Nat) : Int) ≤ (n : Int))) → decide (wrap64 (2 ^ (8 * j)) ≤ (n : Int)) = b := fun b h3 e => by
        rw [e, wrap_pow j (by omega)]
      rcases hj with hj | hj | hj | hj
      · have hge2 : 1 ≤ n := by omega
        clear hge'
        have hja : 1 ≤ j := by omega
        have hjb : j ≤ 1 := by omega
        by_cases c1 : n < 256
        · have hv : validB (n : Int) = !((n : Int) % 32 == 31) := by unfold validB; rw [if_neg (by omega), if_pos (by omega)]
          have HV := hide hv
          clear hv
          have t1 := ht false (by omega) (by rw [hj]; simp; omega)
          have ix0 := get_nums (bigL n j) 0 (n) (by rw [hj]; simp [bigL]; omega) (by omega) (by omega)
          have HJ := hide hj
          have hsz : j ≤ (strOfNums (bigL n j)).size := by rw [strOfNums_size, bigL_length]; omega
          clear hj ht hj1 hj4
          by_cases c2 : (n : Int) % 32 = 31
          · have t2 : ((n : Int) % 32 != 31) = false := by rw [c2]; rfl
            have HC := hide c2
            clear c2
            go_wp2_with (go_at_call 22; refine (big_any n j _ (by omega) (by omega)).mono ?_; rintro e w1 ⟨rfl, hb1⟩)
            go_ret
            exact ⟨ret_bool (by rw [unhide HV, unhide HC]; rfl), hnx.trans (hb1.mono hnx.size)⟩
          · have t2 : ((n : Int) % 32 != 31) = true := by simpa using c2
            have HC := hide c2
            clear c2
            go_wp2_with (go_at_call 22; refine (big_any n j _ (by omega) (by omega)).mono ?_; rintro e w1 ⟨rfl, hb1⟩)
            go_ret
            refine ⟨ret_bool ?_, hnx.trans (hb1.mono hnx.size)⟩
            rw [unhide HV, Bool.eq_iff_iff]
            have c3 := unhide HC
            simp
            omega
        · have t1 := ht true (by omega) (by rw [hj]; exact (decide_eq_true (by omega)).symm)
          have HJ := hide hj
          clear hj ht hj1 hj4
          go_wp2
          go_roundw
          case rel => exact ⟨j + 1, by omega, by omega, by go_num, fun _ _ => by rw [unhide HJ]; omega, hnx⟩
          case measure => simp [intOf]; omega
      · have hge2 : 256 ≤ n := by have := hge' (by omega); rw [hj] at this; omega
        clear hge'
        have hja : 2 ≤ j := by omega
        have hjb : j ≤ 2 := by omega
        by_cases c1 : n < 65536
        · have hv : validB (n : Int) = (((n : Int) / 256 % 32 == 31) && (decide (31 ≤ (n : Int) % 256) && decide ((n : Int) % 256 ≤ 127))) := by unfold validB; rw [if_neg (by omega), if_neg (by omega), if_pos (by omega)]
          have HV := hide hv
          clear hv
          have t1 := ht false (by omega) (by rw [hj]; simp; omega)
          have ix0 := get_nums (bigL n j) 0 ((n : Int) / 256) (by rw [hj]; simp [bigL]; omega) (by omega) (by omega)
          have ix1 := get_nums (bigL n j) 1 ((n : Int) % 256) (by rw [hj]; simp [bigL]) (by omega) (by omega)
          have HJ := hide hj
          have hsz : j ≤ (strOfNums (bigL n j)).size := by rw [strOfNums_size, bigL_length]; omega
          clear hj ht hj1 hj4
          by_cases c2 : (n : Int) / 256 % 32 = 31
          · have t2 : ((n : Int) / 256 % 32 != 31) = false := by rw [c2]; rfl
            have HC := hide c2
            clear c2
            go_wp2_with (go_at_call 22; refine (big_any n j _ (by omega) (by omega)).mono ?_; rintro e w1 ⟨rfl, hb1⟩)
            · have g2 : 31 ≤ (n : Int) % 256 := by assumption
              go_ret
              exact ⟨ret_bool (by rw [unhide HV, unhide HC]; simp [g2]), hnx.trans (hb1.mono hnx.size)⟩
            · have g2 : (n : Int) % 256 < 31 := by assumption
              go_ret
              exact ⟨ret_bool (by rw [unhide HV, unhide HC]; simp; omega), hnx.trans (hb1.mono hnx.size)⟩
          · have t2 : ((n : Int) / 256 % 32 != 31) = true := by simpa using c2
            have HC := hide c2
            clear c2
            go_wp2_with (go_at_call 22; refine (big_any n j _ (by omega) (by omega)).mono ?_; rintro e w1 ⟨rfl, hb1⟩)
            go_ret
            refine ⟨ret_bool ?_, hnx.trans (hb1.mono hnx.size)⟩
            rw [unhide HV, Bool.eq_iff_iff]
            have c3 := unhide HC
            simp
            omega
        · have t1 := ht true (by omega) (by rw [hj]; exact (decide_eq_true (by omega)).symm)
          have HJ := hide hj
          clear hj ht hj1 hj4
          go_wp2
          go_roundw
          case rel => exact ⟨j + 1, by omega, by omega, by go_num, fun _ _ => by rw [unhide HJ]; omega, hnx⟩
          case measure => simp [intOf]; omega
      · have hge2 : 65536 ≤ n := by have := hge' (by omega); rw [hj] at this; omega
        clear hge'
        have hja : 3 ≤ j := by omega
        have hjb : j ≤ 3 := by omega
        by_cases c1 : n < 16777216
        · have hv : validB (n : Int) = (((n : Int) / 65536 % 32 == 31) && (decide (129 ≤ (n : Int) / 256 % 256) && decide ((n : Int) % 256 ≤ 127))) := by unfold validB; rw [if_neg (by omega), if_neg (by omega), if_neg (by omega)]
          have HV := hide hv
          clear hv
          have t1 := ht false (by omega) (by rw [hj]; simp; omega)
          have ix0 := get_nums (bigL n j) 0 ((n : Int) / 65536) (by rw [hj]; simp [bigL]; omega) (by omega) (by omega)
          have ix1 := get_nums (bigL n j) 1 ((n : Int) / 256 % 256) (by rw [hj]; simp [bigL]) (by omega) (by omega)
          have ix2 := get_nums (bigL n j) 2 ((n : Int) % 256) (by rw [hj]; simp [bigL]) (by omega) (by omega)
          have HJ := hide hj
          have hsz : j ≤ (strOfNums (bigL n j)).size := by rw [strOfNums_size, bigL_length]; omega
          clear hj ht hj1 hj4
          by_cases c2 : (n : Int) / 65536 % 32 = 31
          · have t2 : ((n : Int) / 65536 % 32 != 31) = false := by rw [c2]; rfl
            have HC := hide c2
            clear c2
            go_wp2_with (go_at_call 22; refine (big_any n j _ (by omega) (by omega)).mono ?_; rintro e w1 ⟨rfl, hb1⟩)
            · have g2 : 129 ≤ (n : Int) / 256 % 256 := by assumption
              go_ret
              exact ⟨ret_bool (by rw [unhide HV, unhide HC]; simp [g2]), hnx.trans (hb1.mono hnx.size)⟩
            · have g2 : (n : Int) / 256 % 256 < 129 := by assumption
              go_ret
              exact ⟨ret_bool (by rw [unhide HV, unhide HC]; simp; omega), hnx.trans (hb1.mono hnx.size)⟩
          · have t2 : ((n : Int) / 65536 % 32 != 31) = true := by simpa using c2
            have HC := hide c2
            clear c2
            go_wp2_with (go_at_call 22; refine (big_any n j _ (by omega) (by omega)).mono ?_; rintro e w1 ⟨rfl, hb1⟩)
            go_ret
            refine ⟨ret_bool ?_, hnx.trans (hb1.mono hnx.size)⟩
            rw [unhide HV, Bool.eq_iff_iff]
            have c3 := unhide HC
            simp
            omega
        · have t1 := ht true (by omega) (by rw [hj]; exact (decide_eq_true (by omega)).symm)
          have HJ := hide hj
          clear hj ht hj1 hj4
          go_wp2
          go_roundw
          case rel => exact ⟨j + 1, by omega, by omega, by go_num, fun _ _ => by rw [unhide HJ]; omega, hnx⟩
          case measure => simp [intOf]; omega
      · have hge2 : 16777216 ≤ n := by have := hge' (by omega); rw [hj] at this; omega
        have hja : 4 ≤ j := by omega
        clear hge' ht hj
        have hv : validB (n : Int) = false := by unfold validB; rw [if_pos (by omega)]
        have HV := hide hv
        clear hv
        go_wp2
        go_ret
        exact ⟨ret_bool (unhide HV).symm, hnx⟩
end Go.Proofs.YtfpglpefofcdeaaGreatDoor
namespace Go.Proofs.YtfpglpefofcdeaaGreatDoor
open Go.RowKit
set_option linter.unusedVariables false

/-- in how many bytes a tag is written -/
def tagLen (t : Nat) : Nat := if t < 256 then 1 else if t < 65536 then 2 else 3
theorem tagLen_le (t : Nat) : 1 ≤ tagLen t ∧ tagLen t ≤ 3 := by unfold tagLen; split <;> (try split) <;> omega
theorem tagLen_of (t j : Nat) (ht : t < 16777216) (h1 : 1 ≤ j) (h3 : j ≤ 3) (hlo : 1 < j → 256 ^ (j - 1) ≤ t) (hhi : t < 256 ^ j) : tagLen t = j := by
  have : j = 1 ∨ j = 2 ∨ j = 3 := by omega
  unfold tagLen
  rcases this with rfl | rfl | rfl
  · rw [if_pos (by omega)]
  · have := hlo (by omega); rw [if_neg (by omega), if_pos (by omega)]
  · have := hlo (by omega); rw [if_neg (by omega), if_neg (by omega)]

set_option maxRecDepth 100000 in
set_option maxHeartbeats 1000000 in
theorem tagText_any (t : Nat) (w : World) (ht : t < 16777216) :
    Calls Tryz.prog 80 #[.int .i64 t] w fun e w' => e = .returned (.string (strOfNums (bigL t (tagLen t)))) ∧ Below w.heap.size w w' := by
  go_enter Tryz.func80, Tryz.ntmps80
  go_wp2
  go_loop [3] (fun n => ∃ j : Nat, 1 ≤ j ∧ j ≤ 3 ∧ n = .int .i64 j ∧ (1 < j → 256 ^ (j - 1) ≤ t)) (fun n => 4 - (intOf n).toNat)
  case atStart => exact ⟨1, by omega, by omega, rfl, by omega⟩
  case round =>
    obtain ⟨j, h1, h3, rfl, hlo⟩ := hrel
    by_cases hhi : t < 256 ^ j
    · have hj := tagLen_of t j ht h1 h3 hlo hhi
      have t1 : decide (wrap64 (2 ^ (8 * j)) ≤ (t : Int)) = false := by
        have hf' := Int.ofNat_lt.2 hhi
        rw [wrap_pow j (by omega)]; exact decide_eq_false (by omega)
      have HJ := hide hj
      clear hlo hhi hj
      go_wp2_with (go_at_call 22; refine (big_any t j _ (by omega) (by omega)).mono ?_; rintro e w1 ⟨rfl, hb1⟩)
      go_ret
      exact ⟨by rw [unhide HJ]; rfl, hb1⟩
    · have hge : 256 ^ j ≤ t := by omega
      have hj2 : j ≤ 2 := by
        rcases Nat.lt_or_ge j 3 with h | h
        · omega
        · have : j = 3 := by omega
          subst this
          omega
      have t1 : decide (wrap64 (2 ^ (8 * j)) ≤ (t : Int)) = true := by
        have hf' := Int.ofNat_le.2 hge
        rw [wrap_pow j (by omega)]; exact decide_eq_true (by omega)
      have HG := hide hge
      clear hlo hhi hge
      go_wp2
      go_round
      case rel => exact ⟨j + 1, by omega, by omega, by go_num, fun _ => by rw [Nat.add_sub_cancel]; exact unhide HG⟩
      case measure => simp [intOf]; omega

/-- the first byte of a tag -/
def firstB (t : Nat) : Nat := t / 256 ^ (tagLen t - 1)
/-- made of others? -/
def madeB (t : Nat) : Bool := firstB t / 32 % 2 == 1
theorem firstB_lt (t : Nat) (ht : t < 16777216) : firstB t < 256 := by
  unfold firstB tagLen
  split
  · simpa using ‹_›
  · split
    · simp; omega
    · simp; omega
theorem bigL_first (t : Nat) (ht : t < 16777216) : (bigL t (tagLen t))[0]? = some (firstB t : Int) := by
  have hf := firstB_lt t ht
  obtain ⟨k, hk⟩ : ∃ k, tagLen t = k + 1 := ⟨tagLen t - 1, by have := (tagLen_le t).1; omega⟩
  unfold firstB at *
  rw [hk] at hf ⊢
  simp only [bigL, List.getElem?_cons_zero, Nat.add_sub_cancel] at hf ⊢
  rw [Nat.mod_eq_of_lt hf]

set_option maxRecDepth 100000 in
theorem rmade_any (t : Nat) (w : World) (ht : t < 16777216) :
    Calls Tryz.prog 79 #[.int .i64 t] w fun e w' => e = .returned (.bool (madeB t)) ∧ Below w.heap.size w w' := by
  have hf := firstB_lt t ht
  have ix := get_nums (bigL t (tagLen t)) 0 (firstB t) (bigL_first t ht) (by omega) (by omega)
  have hsz : 1 ≤ (strOfNums (bigL t (tagLen t))).size := by rw [strOfNums_size, bigL_length]; exact (tagLen_le t).1
  have n1 := fun w => tagText_any t w ht
  have hr : madeB t = (((firstB t : Int) / 32 % 2) == 1) := by unfold madeB; rw [Bool.eq_iff_iff]; simp; omega
  have HR := hide hr
  generalize strOfNums (bigL t (tagLen t)) = s at *
  generalize firstB t = f at *
  have N1 := hide n1
  clear n1 hr
  go_enter Tryz.func79, Tryz.ntmps79
  go_wp2_with fail
  refine (unhide N1 _).mono ?_
  rintro e w1 ⟨rfl, hb1⟩
  go_wp2
  go_ret
  exact ⟨ret_bool (by rw [unhide HR]), hb1⟩

theorem and_32 : ∀ f : Fin 256, bits .and .i64 (f.val : Int) 32 = ((f.val / 32 % 2 * 32 : Nat) : Int) := by decide +kernel

set_option maxRecDepth 100000 in
theorem made_any (t : Nat) (w : World) (ht : t < 16777216) (hval : validB (t : Int) = true) :
    Calls Tryz.prog 114 #[.int .i64 t] w fun e w' => e = .returned (.bool (madeB t)) ∧ w' = w := by
  have hf := firstB_lt t ht
  have h32 := and_32 ⟨firstB t, hf⟩
  simp only at h32
  have hr : madeB t = (((firstB t / 32 % 2 * 32 : Nat) : Int) != 0) := by unfold madeB; rw [Bool.eq_iff_iff]; simp; omega
  have HR := hide hr
  have n0 := fun w => valid_any (t : Int) w (by omega)
  rw [hval] at n0
  have N0 := hide n0
  clear hr n0 hval
  go_enter Tryz.func114, Tryz.ntmps114
  go_wp2_with fail
  refine (unhide N0 _).mono ?_
  rintro e w1 ⟨rfl, hw1⟩
  subst hw1
  go_wp2
  go_loop [3] (fun n => ∃ j : Nat, j < tagLen t ∧ n = .int .i64 (t / 256 ^ j : Nat)) (fun n => (intOf n).toNat)
  case atStart => exact ⟨0, (tagLen_le t).1, by simp⟩
  case round =>
    obtain ⟨j, hj, rfl⟩ := hrel
    have hj3 := (tagLen_le t).2
    have hv : t / 256 ^ j < 16777216 := Nat.lt_of_le_of_lt (Nat.div_le_self _ _) ht
    have hdiv : t / 256 ^ (j + 1) = t / 256 ^ j / 256 := by rw [Nat.pow_succ, Nat.div_div_eq_div_mul]
    by_cases hb : 255 < t / 256 ^ j
    · have hnext : j + 1 < tagLen t := by
        rcases Nat.lt_or_ge (j + 1) (tagLen t) with h | h
        · exact h
        · exfalso
          have : j = tagLen t - 1 := by omega
          have hf' := hf
          unfold firstB at hf'
          rw [← this] at hf'
          omega
      have HD := hide hdiv
      have HN := hide hnext
      generalize t / 256 ^ j = v at *
      clear hdiv hnext hj
      go_wp2
      go_round
      case rel => exact ⟨j + 1, unhide HN, by rw [unhide HD]; rfl⟩
      case measure => simp [intOf]; omega
    · have hfe : firstB t = t / 256 ^ j := by
        have hjl : j + 1 = tagLen t := by
          rcases Nat.lt_or_ge (j + 1) (tagLen t) with h | h
          · exfalso
            have h2 : tagLen t = 2 ∨ tagLen t = 3 := by omega
            have hp : 256 ^ (j + 1) ≤ t := by
              unfold tagLen at h h2
              have : j = 0 ∨ j = 1 := by omega
              rcases this with rfl | rfl
              · split at h
                · omega
                · simp; omega
              · split at h
                · omega
                · split at h
                  · omega
                  · simp; omega
            have := Nat.div_le_div_right (c := 256 ^ j) hp
            rw [Nat.pow_succ, Nat.mul_div_cancel_left _ (Nat.pow_pos (by decide))] at this
            omega
          · omega
        unfold firstB
        rw [← hjl, Nat.add_sub_cancel]
      rw [hfe] at h32 HR
      generalize t / 256 ^ j = v at *
      generalize v / 32 % 2 * 32 = u at *
      clear hdiv hfe
      go_wp2
      go_ret
      exact ⟨ret_bool (by rw [unhide HR]), rfl⟩

theorem validB_lt {t : Int} (h : validB t = true) : 1 ≤ t ∧ t < 16777216 := by
  unfold validB at h
  by_cases hc : t < 1 ∨ 16777216 ≤ t
  · rw [if_pos hc] at h; simp at h
  · omega
/-- is it a tag that is made of others? -/
def madeV (t : Int) : Bool := validB t && madeB t.toNat
theorem madeV_any (t : Int) (w : World) (h₁ : t ≤ 9223372036854775807) :
    Calls Tryz.prog 114 #[.int .i64 t] w fun e w' => e = .returned (.bool (madeV t)) ∧ w' = w := by
  cases hv : validB t with
  | true =>
    have hl := validB_lt hv
    obtain ⟨n, rfl⟩ := Int.eq_ofNat_of_zero_le (show 0 ≤ t by omega)
    have := made_any n w (by omega) hv
    unfold madeV
    rw [hv]
    exact this
  | false =>
    have hm : madeV t = false := by unfold madeV; rw [hv]; rfl
    rw [hm]
    have n0 := fun w => valid_any t w h₁
    rw [hv] at n0
    have N0 := hide n0
    clear n0 hv hm
    go_enter Tryz.func114, Tryz.ntmps114
    go_wp2_with fail
    refine (unhide N0 _).mono ?_
    rintro e w1 ⟨rfl, hw1⟩
    subst hw1
    go_wp2
    go_ret
    exact ⟨rfl, rfl⟩
end Go.Proofs.YtfpglpefofcdeaaGreatDoor
namespace Go.Proofs.YtfpglpefofcdeaaGreatDoor
open Go.RowKit
set_option linter.unusedVariables false

/-- how many bytes the tag at the beginning has -/
def tagSz (l : List UInt8) : Nat :=
  match l with
  | [] => 1
  | [a] => if a.toNat % 32 = 31 then 2 else 1
  | a :: b :: _ => if a.toNat % 32 = 31 then (if b.toNat < 128 then 2 else 3) else 1
theorem tagSz_le (l : List UInt8) : 1 ≤ tagSz l ∧ tagSz l ≤ 3 := by
  unfold tagSz
  split
  · omega
  · split <;> omega
  · split
    · split <;> omega
    · omega

set_option maxRecDepth 100000 in
set_option maxHeartbeats 1000000 in
theorem tagSize_any (s : ByteArray) (w : World) (hs : s.size ≤ maxLen) :
    Calls Tryz.prog 132 #[.string s] w fun e w' => e = .returned (.int .i64 (tagSz s.data.toList)) ∧ w' = w := by
  unfold maxLen at hs
  match hl : s.data.toList with
  | [] =>
    have hz : s.size = 0 := by have : s.data.toList.length = 0 := by rw [hl]; rfl
                               simpa using this
    have he : s.toList.isEmpty = true := by rw [Lib.toList_data, hl]; rfl
    clear hl
    go_enter Tryz.func132, Tryz.ntmps132
    go_wp2
    go_ret
    exact ⟨rfl, rfl⟩
  | [a] =>
    have hz : s.size = 1 := by have : s.data.toList.length = 1 := by rw [hl]; rfl
                               simpa using this
    have he : s.toList.isEmpty = false := by rw [Lib.toList_data, hl]; rfl
    have g0 := get_byte s 0
    have b0 : byteAt s 0 = a.toNat := by unfold byteAt; rw [hl]; rfl
    rw [b0] at g0
    have la := a.toNat_lt
    have hv : tagSz [a] = if a.toNat % 32 = 31 then 2 else 1 := rfl
    have HV := hide hv
    generalize a.toNat = x at *
    clear hl b0 hv
    have hz1 : 1 ≤ s.size := by omega
    have hz2 : s.size ≤ 1 := by omega
    clear hz
    by_cases hx : x % 32 = 31
    · have t1 : ((x : Int) % 32 == 31) = true := by simp; omega
      have HX := hide hx
      clear hx
      go_enter Tryz.func132, Tryz.ntmps132
      go_wp2_with (go_at_call 130; refine (goesOn_any (x : Int) _ (by omega) (by omega)).mono ?_; rintro e w1 ⟨rfl, rfl⟩)
      go_ret
      exact ⟨by rw [unhide HV, if_pos (unhide HX)]; rfl, rfl⟩
    · have t1 : ((x : Int) % 32 == 31) = false := by simp; omega
      have HX := hide hx
      clear hx
      go_enter Tryz.func132, Tryz.ntmps132
      go_wp2_with (go_at_call 130; refine (goesOn_any (x : Int) _ (by omega) (by omega)).mono ?_; rintro e w1 ⟨rfl, rfl⟩)
      go_ret
      exact ⟨by rw [unhide HV, if_neg (unhide HX)]; rfl, rfl⟩
  | a :: b :: r =>
    have hz1 : 2 ≤ s.size := by have : 2 ≤ s.data.toList.length := by rw [hl]; simp
                                simpa using this
    have he : s.toList.isEmpty = false := by rw [Lib.toList_data, hl]; rfl
    have g0 := get_byte s 0
    have g1 := get_byte s 1
    have b0 : byteAt s 0 = a.toNat := by unfold byteAt; rw [hl]; rfl
    have b1 : byteAt s 1 = b.toNat := by unfold byteAt; rw [hl]; rfl
    rw [b0] at g0
    rw [b1] at g1
    have la := a.toNat_lt
    have lb := b.toNat_lt
    have hv : tagSz (a :: b :: r) = if a.toNat % 32 = 31 then (if b.toNat < 128 then 2 else 3) else 1 := rfl
    have HV := hide hv
    generalize a.toNat = x at *
    generalize b.toNat = y at *
    clear hl b0 b1 hv
    by_cases hx : x % 32 = 31
    · have t1 : ((x : Int) % 32 == 31) = true := by simp; omega
      have HX := hide hx
      clear hx
      by_cases hy : y < 128
      · have HY := hide hy
        go_enter Tryz.func132, Tryz.ntmps132
        go_wp2_with (go_at_call 130; refine (goesOn_any (x : Int) _ (by omega) (by omega)).mono ?_; rintro e w1 ⟨rfl, rfl⟩)
        go_ret
        exact ⟨by rw [unhide HV, if_pos (unhide HX), if_pos (unhide HY)]; rfl, rfl⟩
      · have HY := hide hy
        go_enter Tryz.func132, Tryz.ntmps132
        go_wp2_with (go_at_call 130; refine (goesOn_any (x : Int) _ (by omega) (by omega)).mono ?_; rintro e w1 ⟨rfl, rfl⟩)
        go_ret
        exact ⟨by rw [unhide HV, if_pos (unhide HX), if_neg (unhide HY)]; rfl, rfl⟩
    · have t1 : ((x : Int) % 32 == 31) = false := by simp; omega
      have HX := hide hx
      clear hx
      go_enter Tryz.func132, Tryz.ntmps132
      go_wp2_with (go_at_call 130; refine (goesOn_any (x : Int) _ (by omega) (by omega)).mono ?_; rintro e w1 ⟨rfl, rfl⟩)
      go_ret
      exact ⟨by rw [unhide HV, if_neg (unhide HX)]; rfl, rfl⟩
end Go.Proofs.YtfpglpefofcdeaaGreatDoor
namespace Go.Proofs.YtfpglpefofcdeaaGreatDoor
open Go.RowKit
set_option linter.unusedVariables false

theorem or_i64 (m b : Nat) (hb : b < 256) (h : (m : Int) * 256 + b ≤ 9223372036854775807) : bits .or .i64 ((m : Int) * 256) b = ((m * 256 + b : Nat) : Int) := by
  rw [bits_join .i64 63 (by decide) wraps_i64 8 _ _ (by omega) (by omega) (by omega) (by omega) (by omega) (by omega)]
  omega

set_option maxRecDepth 100000 in
theorem cutTag_no (s : ByteArray) (w : World) (hs : s.size ≤ maxLen) (h : s.size < tagSz s.data.toList) :
    Calls Tryz.prog 120 #[.string s] w fun e w' => e = .returned (.tuple #[.int .i64 0, .string ⟨#[]⟩, .bool false]) ∧ w' = w := by
  have n1 := fun w => tagSize_any s w hs
  have h3 := (tagSz_le s.data.toList).2
  unfold maxLen at hs
  generalize tagSz s.data.toList = k at *
  have N1 := hide n1
  clear n1
  go_enter Tryz.func120, Tryz.ntmps120
  go_wp2_with fail
  refine (unhide N1 _).mono ?_
  rintro e w1 ⟨rfl, rfl⟩
  go_wp2
  go_ret3
  exact ⟨rfl, rfl⟩

theorem valN_take3 (s : ByteArray) (k : Nat) (hk : k ≤ 3) : valN (s.data.toList.take k) < 16777216 := by
  have h1 : valN (s.data.toList.take k) < 256 ^ (s.data.toList.take k).length := valN_lt _
  have h2 : 256 ^ (s.data.toList.take k).length ≤ 256 ^ 3 := Nat.pow_le_pow_right (by omega) (by have := List.length_take_le k s.data.toList; omega)
  omega

set_option maxRecDepth 100000 in
set_option maxHeartbeats 1000000 in
theorem cutTag_yes (s : ByteArray) (w : World) (hs : s.size ≤ maxLen) (h : tagSz s.data.toList ≤ s.size) :
    Calls Tryz.prog 120 #[.string s] w fun e w' => e = .returned (.tuple #[.int .i64 (valN (s.data.toList.take (tagSz s.data.toList))), .string (s.extract (tagSz s.data.toList) s.size), .bool (validB (valN (s.data.toList.take (tagSz s.data.toList))))]) ∧ ∃ q, w' = w.drewN q := by
  have n1 := fun w => tagSize_any s w hs
  have h3 := (tagSz_le s.data.toList).2
  unfold maxLen at hs
  generalize tagSz s.data.toList = k at *
  have N1 := hide n1
  clear n1
  go_enter Tryz.func120, Tryz.ntmps120
  go_wp2_with fail
  refine (unhide N1 _).mono ?_
  rintro e w1 ⟨rfl, rfl⟩
  go_wp2
  go_loop [2, 14] (fun n i => ∃ j : Nat, j ≤ k ∧ i = .int .i64 j ∧ n = .int .i64 (valN (s.data.toList.take j))) (fun _ i => k - (intOf i).toNat)
  case atStart => exact ⟨0, Nat.zero_le _, rfl, rfl⟩
  case round =>
    obtain ⟨j, hj, rfl, rfl⟩ := hrel
    by_cases hlt : j < k
    · have hsn := valN_snoc (s.data.toList.take j) (s[j]'(by omega))
      rw [← take_snoc s j (by omega)] at hsn
      have hm6 := valN_take3 s j (by omega)
      have gj := get_byte s j
      have lj := byteAt_lt s j
      rw [show (s[j]'(by omega)).toNat = byteAt s j by have := get_byte s j (by omega); omega] at hsn
      generalize byteAt s j = y at *
      generalize valN (s.data.toList.take j) = m at *
      have o1 := or_i64 m y lj (by omega)
      have hjs : j < s.size := by omega
      have HS := hide hsn
      clear hsn
      go_wp2
      go_round
      case rel => exact ⟨j + 1, by omega, by go_num, by rw [unhide HS]; go_num⟩
      case measure => simp [intOf]; omega
    · have hjk : j = k := by omega
      subst hjk
      have hm6 := valN_take3 s j (by omega)
      have e4 : (j : Int) ≤ (s.size : Int) := by omega
      have n2 := fun w => valid_any (valN (s.data.toList.take j)) w (by omega)
      obtain ⟨m, hm⟩ : ∃ m, m = valN (s.data.toList.take j) := ⟨_, rfl⟩
      rw [← hm] at hm6 n2 ⊢
      obtain ⟨v, hv⟩ : ∃ v, v = validB (m : Int) := ⟨_, rfl⟩
      rw [← hv] at n2
      have N2 := hide n2; have HM := hide hm; have HV := hide hv
      clear n2 hm hv
      go_wp2_with fail
      go_quiet ((go_at_call 113; exact Calls.quiet_of_same (unhide N2 _)))
      go_wp2
      go_ret3
      exact ⟨by rw [← unhide HM, ← unhide HV]; rfl, _, rfl⟩
end Go.Proofs.YtfpglpefofcdeaaGreatDoor
