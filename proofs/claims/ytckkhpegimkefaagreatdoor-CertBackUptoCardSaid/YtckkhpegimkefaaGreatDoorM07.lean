/- Derive, Seal, Sealed of the program and of the reference. -/
import Derived.Test.YtckkhpegimkefaaGreatDoorM03
import Derived.Test.YtckkhpegimkefaaGreatDoorM04
import Derived.Test.YtckkhpegimkefaaGreatDoorM06
import Derived.Test.YtckkhpegimkefaaGreatDoorM00
import Derived.Laws.Concat
namespace Go.Proofs.YtckkhpegimkefaaGreatDoor
open Go.RowKit
set_option linter.unusedVariables false

theorem TRow.new (w : World) (fs : List ByteArray) (e : TypeId) : TRow (w.alloc (.cells (fs.map Value.string).toArray e)) (some ⟨w.heap.size, 0, none⟩) fs := by
  refine .inr ⟨w.heap.size, 0, rfl, by simp, fun i s hi => ?_⟩
  rw [Nat.zero_add, cell_of_row _ _ i _ e _ (heap_alloc_new w _)]
  simp [hi]
theorem alloc_below (w : World) (o : Obj) : Below w.heap.size w (w.alloc o) := (Below.refl _ _).alloc (Nat.le_refl _) _
def sealWord : ByteArray := ⟨#[115, 101, 97, 108]⟩
theorem sealWord_size : sealWord.size = 4 := rfl
def deriveS (k l t : ByteArray) : ByteArray := foldS (rowS [k, l, t])
def sealF (t : ByteArray) : ByteArray := foldS (rowS [sealWord, t])
def sealS (k t : ByteArray) : ByteArray := (turnS k (sealF t)).extract 0 8

theorem seal_eq {x y : ByteArray} (h : x = y) : (x.toList == y.toList) = true := by rw [h]; simp
theorem seal_ne {x y : ByteArray} (h : ¬ x = y) : (x.toList == y.toList) = false := by
  rw [beq_eq_false_iff_ne, Lib.toList_data, Lib.toList_data]
  exact fun e => h (ByteArray.ext (Array.toList_inj.1 e))
end Go.Proofs.YtckkhpegimkefaaGreatDoor
namespace Go.Proofs.YtckkhpegimkefaaGreatDoor
open Go.RowKit
set_option linter.unusedVariables false

/-- the row behind j rounds: zeros, then the low j bytes -/
def rowAt (n k j : Nat) : List Int := List.replicate (k - j) 0 ++ bigL n j
theorem rowAt_length (n k j : Nat) (h : j ≤ k) : (rowAt n k j).length = k := by simp [rowAt, bigL_length]; omega
theorem rowAt_set (n k j : Nat) (h : j < k) : (rowAt n k j).set (k - 1 - j) ((n / 256 ^ j % 256 : Nat) : Int) = rowAt n k (j + 1) := by
  unfold rowAt
  rw [show k - j = (k - (j + 1)) + 1 by omega, List.replicate_succ', List.append_assoc, show k - 1 - j = (List.replicate (k - (j + 1)) (0 : Int)).length + 0 by simp; omega, List.set_append_right _ _ (by omega)]
  simp [bigL]
theorem made_row (k : Nat) (n : Nat) : (madeCells #[Value.int .u8 0] k).toList = (rowAt n k 0).map (Value.int .u8) := by
  have e : rowAt n k 0 = List.replicate k 0 := by simp [rowAt, bigL]
  rw [e, List.map_replicate]
  apply List.ext_getElem
  · simp [madeCells]
  · intro i h1 h2
    simp [madeCells, Nat.mod_one]
theorem pow_256 (n j : Nat) : ((n : Int) / 2 ^ (8 * j)) = ((n / 256 ^ j : Nat) : Int) := by
  rw [Int.pow_mul]
  simp

set_option maxHeartbeats 1000000 in
theorem number_any (n k : Nat) (w : World) (h1 : 1 ≤ k) (h8 : k ≤ 8) (hn2 : n ≤ 9223372036854775807) (hf : n < 256 ^ k) :
    Calls Tryz.prog 51 #[.int .i64 n, .int .i64 k] w fun e w' => e = .returned (.tuple #[.string (strOfNums (bigL n k)), .int .i64 0]) ∧ Below w.heap.size w w' := by
  obtain ⟨i0, hi, hz0, hz1, hz2⟩ := info_parts infoByte
  have ht : ((n : Int) / 2 ^ (8 * k) != 0) = false := by rw [pow_256, Nat.div_eq_of_lt hf]; rfl
  have hk1 : decide ((k : Int) < 1) = false := by simp; omega
  have hk8 : decide ((8 : Int) < (k : Int)) = false := by simp; omega
  have hn0 : decide ((n : Int) < 0) = false := by simp
  clear hf
  go_enter Tryz.func51, Tryz.ntmps51
  go_wp2_with (at_make; refine wpList_make_full _ rfl _ _ 43 rfl w.heap.size 5 i0 (.int .u8 0) 1 Tryz.underlying43 hi hz0 hz1 .i64 .i64 _ _ k rfl rfl rfl rfl (by rw [hz2]; omega) (by unfold maxLen; omega) (Nat.le_refl _) ?_)
  intro w1 hown hgrow
  rw [made_row k n] at hown
  have hb : Below w.heap.size w w1 := (Below.refl _ _).grown hgrow (Nat.le_refl _) (fun q hq => by cases hq)
  clear hgrow hi hz0 hz1 hz2 hk1 hk8 hn0 ht
  go_wp2
  go_loopw [28] (fun i wr => ∃ j : Nat, j ≤ k ∧ i = .int .i64 j ∧ wr.ownsRow w.heap.size 5 1 (.slice (some ⟨w.heap.size, 0, none⟩) k k) k ((rowAt n k j).map (Value.int .u8)) ∧ Below w.heap.size w wr)
    (fun i _ => k - (intOf i).toNat)
  case atStart => exact ⟨0, Nat.zero_le _, rfl, hown, hb⟩
  case round =>
    obtain ⟨j, hj, rfl, hown, hnx⟩ := hrel
    by_cases hlt : j < k
    · have hfz := hown.frozenAt (k - 1 - j)
      have hca : wr.cell? ⟨w.heap.size, k - 1 - j, none⟩ = some (.int .u8 ((rowAt n k j).getD (k - 1 - j) 0)) := by
        rw [hown.cellAt (k - 1 - j) (by omega)]
        simp [List.getElem?_eq_getElem (show k - 1 - j < (rowAt n k j).length by rw [rowAt_length _ _ _ hj]; omega)]
      go_wp2
      go_roundw
      case rel =>
        refine ⟨j + 1, by omega, by go_num, ?_, hnx.setCell (Nat.le_refl _) _⟩
        have hs := (hown.stored (k - 1 - j) (.int .u8 ((n : Int) / 2 ^ (8 * j) % 256))).1
        rw [← rowAt_set n k j hlt, List.map_set]
        have e : ((n : Int) / 2 ^ (8 * j) % 256) = ((n / 256 ^ j % 256 : Nat) : Int) := by rw [pow_256]; rfl
        rw [e] at hs ⊢
        exact hs
      case measure => simp [intOf]; omega
    · have hkl : j = k := by omega
      subst hkl
      rcases owned_cells hown with ⟨hv, hn⟩ | ⟨g, cap', hv, _, hcl⟩
      · simp at hv
      · simp only [Value.slice.injEq, Option.some.injEq, Addr.mk.injEq, and_true, true_and] at hv
        obtain ⟨hg, hcap⟩ := hv
        subst hg hcap
        have hcv := run_convert_bytes_arg (P := Tryz.prog) wr 43 5 Tryz.underlying43 Tryz.underlying5 w.heap.size 0 j j _ (by rw [rowAt_length _ _ _ hj]) hcl 9 Tryz.underlying9
        rw [show rowAt n j j = bigL n j by simp [rowAt]] at hcv
        clear hown hcl
        go_wp2
        go_ret2
        exact ⟨rfl, hnx⟩

theorem number_no1 (n k : Int) (w : World) (h : k < 1 ∨ 8 < k) :
    Calls Tryz.prog 51 #[.int .i64 n, .int .i64 k] w fun e w' => e = .returned (.tuple #[.string ⟨#[]⟩, .int .i64 3]) ∧ w' = w := by
  rcases h with h | h
  · have hk1 : decide (k < 1) = true := by simp; omega
    go_enter Tryz.func51, Tryz.ntmps51
    go_wp2
    go_ret2
    exact ⟨rfl, rfl⟩
  · have hk1 : decide (k < 1) = false := by simp; omega
    have hk8 : decide (8 < k) = true := by simp; omega
    go_enter Tryz.func51, Tryz.ntmps51
    go_wp2
    go_ret2
    exact ⟨rfl, rfl⟩
theorem number_no2 (n k : Int) (w : World) (h1 : 1 ≤ k) (h8 : k ≤ 8) (h : n < 0) :
    Calls Tryz.prog 51 #[.int .i64 n, .int .i64 k] w fun e w' => e = .returned (.tuple #[.string ⟨#[]⟩, .int .i64 3]) ∧ w' = w := by
  have hk1 : decide (k < 1) = false := by simp; omega
  have hk8 : decide (8 < k) = false := by simp; omega
  have hn0 : decide (n < 0) = true := by simp; omega
  go_enter Tryz.func51, Tryz.ntmps51
  go_wp2
  go_ret2
  exact ⟨rfl, rfl⟩
theorem number_no3 (n k : Nat) (w : World) (h1 : 1 ≤ k) (h8 : k ≤ 8) (hn2 : n ≤ 9223372036854775807) (hf : 256 ^ k ≤ n) :
    Calls Tryz.prog 51 #[.int .i64 n, .int .i64 k] w fun e w' => e = .returned (.tuple #[.string ⟨#[]⟩, .int .i64 3]) ∧ w' = w := by
  have hp := Nat.div_pos hf (Nat.pow_pos (by omega))
  have ht : ((n : Int) / 2 ^ (8 * k) != 0) = true := by rw [pow_256, bne_iff_ne]; omega
  have hk1 : decide ((k : Int) < 1) = false := by simp; omega
  have hk8 : decide ((8 : Int) < (k : Int)) = false := by simp; omega
  have hn0 : decide ((n : Int) < 0) = false := by simp
  clear hf
  go_enter Tryz.func51, Tryz.ntmps51
  go_wp2
  go_ret2
  exact ⟨rfl, rfl⟩


theorem wraps_u64 (n : Int) (h₀ : 0 ≤ n) (h₁ : n < 2 ^ 64) : IntKind.u64.wrap n = n := by
  simp [IntKind.wrap, IntKind.bits, IntKind.signed]
  omega
theorem or_u64 (m b : Nat) (hb : b < 256) (h : (m : Int) * 256 + b ≤ 18446744073709551615) : bits .or .u64 ((m : Int) * 256) b = ((m * 256 + b : Nat) : Int) := by
  rw [bits_join .u64 64 (by decide) wraps_u64 8 _ _ (by omega) (by omega) (by omega) (by omega) (by omega) (by omega)]
  omega
theorem valN_lt8 (l : List UInt8) (h : l.length ≤ 8) : valN l ≤ 18446744073709551615 := by
  have h1 := valN_lt l
  have h2 : 256 ^ l.length ≤ 256 ^ 8 := Nat.pow_le_pow_right (by omega) h
  omega

/-- what is answered of a number that was read -/
def readOf (m : Nat) : Value := if 9223372036854775807 < m then .tuple #[.int .i64 0, .int .i64 3] else .tuple #[.int .i64 m, .int .i64 0]
theorem readOf_big {m : Nat} (h : 9223372036854775807 < m) : readOf m = .tuple #[.int .i64 0, .int .i64 3] := by rw [readOf, if_pos h]
theorem readOf_small {m : Nat} (h : ¬ 9223372036854775807 < m) : readOf m = .tuple #[.int .i64 m, .int .i64 0] := by rw [readOf, if_neg h]

set_option maxHeartbeats 1000000 in
theorem readN_any (s : ByteArray) (w : World) (hs : s.size ≤ 8) :
    Calls Tryz.prog 57 #[.string s] w fun e w' => e = .returned (readOf (valN s.data.toList)) ∧ w' = w := by
  have hv := valN_lt8 s.data.toList hs
  go_enter Tryz.func57, Tryz.ntmps57
  go_wp2
  go_loop [4, 11] (fun n i => ∃ k : Nat, k ≤ s.size ∧ i = .int .i64 k ∧ n = .int .u64 (valN (s.data.toList.take k))) (fun _ i => s.size - (intOf i).toNat)
  case atStart => exact ⟨0, Nat.zero_le _, rfl, rfl⟩
  case round =>
    obtain ⟨k, hk, rfl, rfl⟩ := hrel
    by_cases hlt : k < s.size
    · have hsn := valN_snoc (s.data.toList.take k) s[k]
      rw [← take_snoc s k hlt] at hsn
      have hle := valN_take_le s.data.toList (k + 1)
      obtain ⟨m, hm⟩ : ∃ m, m = valN (s.data.toList.take k) := ⟨_, rfl⟩
      rw [← hm] at hsn ⊢
      have hmb : (m : Int) * 256 + (s[k].toNat : Int) ≤ 18446744073709551615 := by omega
      have HS : Hid (valN (s.data.toList.take (k + 1)) = m * 256 + s[k].toNat) := hsn
      clear hsn hle hm hv
      go_wp2
      go_round
      case rel => exact ⟨k + 1, by omega, by go_num, by rw [HS.out, or_u64 m _ (s[k].toNat_lt) hmb]⟩
      case measure => simp [intOf]; omega
    · obtain ⟨m, hm⟩ : ∃ m, m = valN s.data.toList := ⟨_, rfl⟩
      rw [List.take_of_length_le (by simp; omega), ← hm]
      rw [← hm] at hv
      have HM : Hid (m = valN s.data.toList) := hm
      clear hm
      by_cases hc : 9223372036854775807 < m
      · go_wp2
        go_ret2
        exact ⟨by rw [← HM.out, readOf_big hc]; rfl, rfl⟩
      · go_wp2
        go_ret2
        exact ⟨by rw [← HM.out, readOf_small hc]; rfl, rfl⟩
theorem read_long (s : ByteArray) (w : World) (hs : 8 < s.size) (hm : s.size ≤ maxLen) :
    Calls Tryz.prog 57 #[.string s] w fun e w' => e = .returned (.tuple #[.int .i64 0, .int .i64 2]) ∧ w' = w := by
  unfold maxLen at hm
  go_enter Tryz.func57, Tryz.ntmps57
  go_wp2
  go_ret2
  exact ⟨rfl, rfl⟩
theorem valN_cons (b : UInt8) (l : List UInt8) : valN (b :: l) = b.toNat * 256 ^ l.length + valN l := by
  have h : ∀ (l : List UInt8) (a : Nat), l.foldl (fun n b => n * 256 + b.toNat) a = a * 256 ^ l.length + l.foldl (fun n b => n * 256 + b.toNat) 0 := by
    intro l
    induction l with
    | nil => intro a; simp
    | cons b l ih =>
      intro a
      rw [List.foldl_cons, List.foldl_cons, List.length_cons, ih (a * 256 + b.toNat), ih (0 * 256 + b.toNat), Nat.pow_succ, Nat.add_mul]
      rw [show a * 256 * 256 ^ l.length = a * (256 ^ l.length * 256) by rw [Nat.mul_assoc, Nat.mul_comm 256], Nat.zero_mul, Nat.zero_add, Nat.add_assoc]
  show (b :: l).foldl _ 0 = _
  rw [List.foldl_cons, h]
  simp [valN]
theorem valN_eight (s : ByteArray) (h8 : s.size = 8) : 9223372036854775807 < valN s.data.toList ↔ 128 ≤ (s[0]'(by omega)).toNat := by
  match hl : s.data.toList with
  | [] => have : s.data.toList.length = 8 := by simpa using h8
          rw [hl] at this; simp at this
  | b :: l =>
    have hlen : s.data.toList.length = 8 := by simpa using h8
    have hb : s[0]'(by omega) = b := by
      have : s.data.toList[0]'(by omega) = b := by simp [hl]
      rw [← this]; rfl
    rw [hb, valN_cons]
    have hl7 : l.length = 7 := by rw [hl] at hlen; simpa using hlen
    have h1 := valN_lt l
    rw [hl7] at h1 ⊢
    omega
theorem value_eight (s : ByteArray) (w : World) (hs : s.size ≤ 8) (hv : ¬ 9223372036854775807 < valN s.data.toList) :
    Calls Tryz.prog 40 #[.string s] w fun e w' => e = .returned (.int .i64 (valN s.data.toList)) ∧ w' = w := value_any s w hs (by omega)


end Go.Proofs.YtckkhpegimkefaaGreatDoor
namespace Go.Proofs.YtckkhpegimkefaaGreatDoor
open Go.RowKit
set_option linter.unusedVariables false

abbrev numOk (n k : Int) : Prop := 1 ≤ k ∧ k ≤ 8 ∧ 0 ≤ n ∧ n < 256 ^ k.toNat
/-- what is answered: the text -/
def numS (n k : Int) : ByteArray := if numOk n k then strOfNums (bigL n.toNat k.toNat) else ⟨#[]⟩
/-- and the error -/
def numE (n k : Int) : Int := if numOk n k then 0 else 3
theorem numS_yes {n k : Int} (h : numOk n k) : numS n k = strOfNums (bigL n.toNat k.toNat) := by rw [numS, if_pos h]
theorem numS_no {n k : Int} (h : ¬ numOk n k) : numS n k = ⟨#[]⟩ := by rw [numS, if_neg h]
theorem numE_yes {n k : Int} (h : numOk n k) : numE n k = 0 := by rw [numE, if_pos h]
theorem numE_no {n k : Int} (h : ¬ numOk n k) : numE n k = 3 := by rw [numE, if_neg h]

theorem num_cases (n k : Int) : (k < 1 ∨ 8 < k) ∨ (1 ≤ k ∧ k ≤ 8 ∧ n < 0) ∨ ∃ n' k' : Nat, n = n' ∧ k = k' ∧ 1 ≤ k' ∧ k' ≤ 8 := by
  by_cases h1 : k < 1 ∨ 8 < k
  · exact .inl h1
  · by_cases h2 : n < 0
    · exact .inr (.inl ⟨by omega, by omega, h2⟩)
    · exact .inr (.inr ⟨n.toNat, k.toNat, by omega, by omega, by omega, by omega⟩)
theorem numOk_nat (n k : Nat) (h1 : 1 ≤ k) (h8 : k ≤ 8) : numOk n k ↔ n < 256 ^ k := by
  have e : ((n : Int) < 256 ^ ((k : Int)).toNat) ↔ n < 256 ^ k := by
    rw [Int.toNat_natCast, show ((256 : Int) ^ k) = ((256 ^ k : Nat) : Int) by simp]
    omega
  constructor
  · intro h
    exact e.1 h.2.2.2
  · intro h
    exact ⟨by omega, by omega, by omega, e.2 h⟩

theorem number_all (n k : Int) (w : World) (hn : n ≤ 9223372036854775807) :
    Calls Tryz.prog 51 #[.int .i64 n, .int .i64 k] w fun e w' => e = .returned (.tuple #[.string (numS n k), .int .i64 (numE n k)]) ∧ Below w.heap.size w w' := by
  rcases num_cases n k with h | ⟨h1, h8, h⟩ | ⟨n', k', rfl, rfl, h1, h8⟩
  · rw [numS_no (by rintro ⟨_, _, _, _⟩; omega), numE_no (by rintro ⟨_, _, _, _⟩; omega)]
    exact (number_no1 n k w h).mono fun e w' ⟨he, hw⟩ => ⟨he, by rw [hw]; exact Below.refl _ _⟩
  · rw [numS_no (by rintro ⟨_, _, _, _⟩; omega), numE_no (by rintro ⟨_, _, _, _⟩; omega)]
    exact (number_no2 n k w h1 h8 h).mono fun e w' ⟨he, hw⟩ => ⟨he, by rw [hw]; exact Below.refl _ _⟩
  · by_cases hf : n' < 256 ^ k'
    · rw [numS_yes ((numOk_nat n' k' h1 h8).2 hf), numE_yes ((numOk_nat n' k' h1 h8).2 hf)]
      exact number_any n' k' w h1 h8 (by omega) hf
    · rw [numS_no (fun h => hf ((numOk_nat n' k' h1 h8).1 h)), numE_no (fun h => hf ((numOk_nat n' k' h1 h8).1 h))]
      exact (number_no3 n' k' w h1 h8 (by omega) (by omega)).mono fun e w' ⟨he, hw⟩ => ⟨he, by rw [hw]; exact Below.refl _ _⟩

/-- what is read, and the error -/
def readV (s : ByteArray) : Int := if 8 < s.size then 0 else if 9223372036854775807 < valN s.data.toList then 0 else valN s.data.toList
def readE (s : ByteArray) : Int := if 8 < s.size then 2 else if 9223372036854775807 < valN s.data.toList then 3 else 0
theorem readOf_pair (s : ByteArray) (h : s.size ≤ 8) : readOf (valN s.data.toList) = .tuple #[.int .i64 (readV s), .int .i64 (readE s)] := by
  have h8 : ¬ 8 < s.size := by omega
  unfold readV readE
  rw [if_neg h8, if_neg h8]
  by_cases hc : 9223372036854775807 < valN s.data.toList
  · rw [readOf_big hc, if_pos hc, if_pos hc]
  · rw [readOf_small hc, if_neg hc, if_neg hc]
theorem read_all (s : ByteArray) (w : World) (hm : s.size ≤ maxLen) :
    Calls Tryz.prog 57 #[.string s] w fun e w' => e = .returned (.tuple #[.int .i64 (readV s), .int .i64 (readE s)]) ∧ w' = w := by
  by_cases h : 8 < s.size
  · unfold readV readE
    rw [if_pos h, if_pos h]
    exact read_long s w h hm
  · rw [← readOf_pair s (by omega)]
    exact readN_any s w (by omega)

theorem valN_big (n k : Nat) : valN ((bigL n k).map fun z => UInt8.ofNat z.toNat) = n % 256 ^ k := by
  induction k with
  | zero => simp [bigL, valN, Nat.mod_one]
  | succ k ih =>
    simp only [bigL, List.map_cons]
    rw [valN_cons, ih, List.length_map, bigL_length]
    have e : (UInt8.ofNat (((n / 256 ^ k % 256 : Nat) : Int)).toNat).toNat = n / 256 ^ k % 256 := by
      rw [Int.toNat_natCast, UInt8.toNat_ofNat']
      omega
    rw [e, Nat.pow_succ, Nat.mod_mul, Nat.mul_comm, Nat.add_comm]
theorem read_num (n k : Int) (hn : n ≤ 9223372036854775807) (h : numOk n k) : readV (numS n k) = n ∧ readE (numS n k) = 0 := by
  rw [numS_yes h]
  obtain ⟨h1, h8, h0, hf⟩ := h
  obtain ⟨n', rfl⟩ := Int.eq_ofNat_of_zero_le h0
  obtain ⟨k', rfl⟩ := Int.eq_ofNat_of_zero_le (show 0 ≤ k by omega)
  have hf' : n' < 256 ^ k' := ((numOk_nat n' k' (by omega) (by omega)).1 ⟨h1, h8, h0, hf⟩)
  have hs : (strOfNums (bigL n' k')).size = k' := by rw [strOfNums_size, bigL_length]
  have hv : valN (strOfNums (bigL n' k')).data.toList = n' := by rw [strOfNums_data, valN_big, Nat.mod_eq_of_lt hf']
  simp only [Int.toNat_natCast]
  have c1 : ¬ 8 < (strOfNums (bigL n' k')).size := by omega
  have c2 : ¬ 9223372036854775807 < valN (strOfNums (bigL n' k')).data.toList := by omega
  unfold readV readE
  rw [if_neg c1, if_neg c1, if_neg c2, if_neg c2, hv]
  exact ⟨rfl, rfl⟩
theorem numS_size (n k : Int) : (numS n k).size ≤ 8 := by
  by_cases h : numOk n k
  · rw [numS_yes h, strOfNums_size, bigL_length]
    have := h.2.1
    omega
  · rw [numS_no h]
    show (0 : Nat) ≤ 8
    omega
end Go.Proofs.YtckkhpegimkefaaGreatDoor
namespace Go.Proofs.YtckkhpegimkefaaGreatDoor
open Go.RowKit Go.Shelf
set_option linter.unusedVariables false
set_option linter.unusedSimpArgs false
set_option maxRecDepth 100000

def kindT (n : Int) : ByteArray := strOfNums [lowByte n]
def headT (n : Int) : ByteArray := strOfNums [106, lowByte n]
def lastT : ByteArray := ⟨#[188, 188, 188, 188]⟩
def bodyT (b : ByteArray) : ByteArray := strOfNums (bigL b.size 2) ++ b
def manyT (c : UInt8) (n : Nat) : ByteArray := ⟨(List.replicate n c).toArray⟩
theorem manyT_size (c : UInt8) (n : Nat) : (manyT c n).size = n := by simp [manyT, ByteArray.size]
def laidI (n : Nat) (t : ByteArray) : ByteArray := t.extract 0 (min t.size (n - 22))
def laidR (n : Nat) (t : ByteArray) : ByteArray := t.extract (min t.size (n - 22)) t.size
def laidF (k : Int) (t beside : ByteArray) : ByteArray := foldS (rowS [kindT k, t, beside])
def laidW (n : Nat) (k : Int) (t beside : ByteArray) : ByteArray := headT k ++ laidI n t ++ manyT 187 (n - 22 - (laidI n t).size) ++ laidF k t beside ++ lastT
theorem bodyT_size (b : ByteArray) : (bodyT b).size = b.size + 2 := by
  rw [bodyT, ByteArray.size_append, strOfNums_size, bigL_length]; omega
theorem laidI_size (n : Nat) (t : ByteArray) : (laidI n t).size = min t.size (n - 22) := by
  rw [laidI, ByteArray.size_extract]; omega
theorem kindT_size (k : Int) : (kindT k).size = 1 := by rw [kindT, strOfNums_size]; rfl
theorem headT_size (k : Int) : (headT k).size = 2 := by rw [headT, strOfNums_size]; rfl
theorem laidF_size (k : Int) (t b : ByteArray) : (laidF k t b).size = 16 := foldS_size _
theorem laidW_size (n : Nat) (k : Int) (t b : ByteArray) (hn : 22 ≤ n) : (laidW n k t b).size = n := by
  rw [laidW]
  simp only [ByteArray.size_append, headT_size, laidF_size, manyT_size, laidI_size]
  have : lastT.size = 4 := rfl
  omega
theorem many_repeat (c : UInt8) (n : Nat) : (⟨(Lib.repeatL (⟨#[c]⟩ : ByteArray).data.toList n).toArray⟩ : ByteArray) = manyT c n := by
  unfold manyT
  congr 2
  induction n with
  | zero => rfl
  | succ n ih => simp only [Lib.repeatL, ih]; rfl
theorem repeatC_any (c : UInt8) (n : Nat) (w : World) (hc : n ≤ 1000) : Calls Tryz.prog 52 #[.string ⟨#[c]⟩, .int .i64 n] w fun e w' => e = .returned (.string (manyT c n)) ∧ Below w.heap.size w w' := by
  have h1 : (⟨#[c]⟩ : ByteArray).size = 1 := rfl
  have := Any.strings_Repeat Tryz.lays105 Tryz.Builder_Extra_105 ⟨#[c]⟩ n w (by omega) (by rw [h1]; omega)
  rw [many_repeat] at this
  exact this
theorem one_byteC (w : World) (x : Int) :
    (convert 43 9 (.slice (some ⟨w.heap.size, 0, none⟩) 1 1)).run Tryz.prog (w.alloc (.cells #[.int .u8 x] 5)) = .ok (.string (strOfNums [x])) (w.alloc (.cells #[.int .u8 x] 5)) :=
  run_convert_bytes_arg (P := Tryz.prog) _ 43 5 Tryz.underlying43 Tryz.underlying5 w.heap.size 0 1 1 [x] rfl (fun i hi => by
    have h2 : i = 0 := by omega
    subst h2; simp) 9 Tryz.underlying9
theorem two_bytesC (w : World) (x y : Int) :
    (convert 43 9 (.slice (some ⟨w.heap.size, 0, none⟩) 2 2)).run Tryz.prog (w.alloc (.cells #[.int .u8 x, .int .u8 y] 5)) = .ok (.string (strOfNums [x, y])) (w.alloc (.cells #[.int .u8 x, .int .u8 y] 5)) :=
  run_convert_bytes_arg (P := Tryz.prog) _ 43 5 Tryz.underlying43 Tryz.underlying5 w.heap.size 0 2 2 [x, y] rfl (fun i hi => by
    have h2 : i = 0 ∨ i = 1 := by omega
    rcases h2 with rfl | rfl <;> simp) 9 Tryz.underlying9

theorem two_bytesD (w : World) (x y : Int) :
    (convert 43 9 (.slice (some ⟨w.heap.size, 0, none⟩) 2 2)).run Tryz.prog (w.alloc (.cells #[.int .u8 x, .int .u8 y] 5)).drew = .ok (.string (strOfNums [x, y])) (w.alloc (.cells #[.int .u8 x, .int .u8 y] 5)).drew :=
  run_convert_bytes_arg (P := Tryz.prog) _ 43 5 Tryz.underlying43 Tryz.underlying5 w.heap.size 0 2 2 [x, y] rfl (fun i hi => by
    have h2 : i = 0 ∨ i = 1 := by omega
    rcases h2 with rfl | rfl <;> simp) 9 Tryz.underlying9
set_option maxHeartbeats 4000000 in
theorem layOut_any (n : Nat) (k : Int) (body beside : ByteArray) (w : World) (hn : 22 ≤ n) (hn2 : n ≤ 1000) (hb : body.size ≤ 1000) (hs : beside.size ≤ 2097152) :
    Calls Tryz.prog 26 #[.int .i64 n, .int .i64 k, .string body, .string beside] w fun e w' => e = .returned (.tuple #[.string (laidW n k (bodyT body) beside), .string (laidR n (bodyT body))]) ∧ Below w.heap.size w w' := by
  have hno : numOk (body.size : Int) 2 := by unfold numOk; refine ⟨by omega, by omega, by omega, ?_⟩; simp; omega
  have n1 := fun w => number_all (body.size : Int) 2 w (by omega)
  rw [numS_yes hno, numE_yes hno] at n1
  simp only [Int.toNat_natCast, show (2 : Int).toNat = 2 from rfl] at n1
  clear hno
  obtain ⟨t, ht⟩ : ∃ t, t = bodyT body := ⟨_, rfl⟩
  have htz : t.size = body.size + 2 := by rw [ht, bodyT_size]
  have ha1 := fun w' => run_string_add_sum (P := Tryz.prog) w' (strOfNums (bigL body.size 2)) body (by rw [strOfNums_size, bigL_length]; omega)
  rw [show strOfNums (bigL body.size 2) ++ body = t from ht.symm] at ha1
  obtain ⟨I, hI⟩ : ∃ I, I = laidI n t := ⟨_, rfl⟩
  obtain ⟨m, hm⟩ : ∃ m, m = n - 22 := ⟨_, rfl⟩
  obtain ⟨j, hj⟩ : ∃ j, j = min t.size m := ⟨_, rfl⟩
  obtain ⟨d, hd⟩ : ∃ d, d = m - j := ⟨_, rfl⟩
  have hIz : I.size = j := by rw [hI, laidI_size, hj, hm]
  have n2 := fun w => repeatC_any 187 d w (by omega)
  obtain ⟨M, hM⟩ : ∃ M, M = manyT 187 d := ⟨_, rfl⟩
  have hMz : M.size = d := by rw [hM, manyT_size]
  rw [← hM] at n2
  have hbk : bulkT [kindT k, t, beside] ≤ 4194304 := by simp only [bulkT, kindT_size]; omega
  have hrn := rowN_bulk [kindT k, t, beside]
  have n3 : ∀ w2 : World, Calls Tryz.prog 54 #[.slice (some ⟨w2.heap.size + 1, 0, none⟩) 3 3] ((w2.alloc (.cells #[.int .u8 (k % 256)] 5)).alloc (.cells #[.string (strOfNums [k % 256]), .string t, .string beside] 9)) fun e w' => e = .returned (.string (rowS [kindT k, t, beside])) ∧ Below (w2.heap.size + 2) ((w2.alloc (.cells #[.int .u8 (k % 256)] 5)).alloc (.cells #[.string (strOfNums [k % 256]), .string t, .string beside] 9)) w' := fun w2 => by
    have h := row_any [kindT k, t, beside] _ 3 _ (TRow.new (w2.alloc (.cells #[.int .u8 (k % 256)] 5)) [kindT k, t, beside] 9) hbk
    have e1 : (w2.alloc (.cells #[.int .u8 (k % 256)] 5)).heap.size = w2.heap.size + 1 := by simp
    have e2 : ((w2.alloc (.cells #[.int .u8 (k % 256)] 5)).alloc (.cells (List.map Value.string [kindT k, t, beside]).toArray 9)).heap.size = w2.heap.size + 2 := by simp
    rw [e2, e1] at h
    exact h
  have n4 := fun w => fold_any (rowS [kindT k, t, beside]) (by rw [rowS_size]; omega) w
  obtain ⟨F, hF⟩ : ∃ F, F = laidF k t beside := ⟨_, rfl⟩
  have hFz : F.size = 16 := by rw [hF, laidF_size]
  rw [show foldS (rowS [kindT k, t, beside]) = F from hF.symm] at n4
  obtain ⟨R, hR⟩ : ∃ R, R = rowS [kindT k, t, beside] := ⟨_, rfl⟩
  rw [← hR] at n3 n4
  have hW : laidW n k t beside = headT k ++ I ++ M ++ F ++ lastT := by rw [laidW, hM, hF, ← hI, hIz, hd, hm]
  have hRs : laidR n t = t.extract j t.size := by rw [laidR, hj, hm]
  rw [← ht, hW, hRs]
  have hc1 := one_byteC
  have hc2 := two_bytesC
  have hc3 := two_bytesD
  have hwk : IntKind.u8.wrap k = k % 256 := rfl
  have hjt : j ≤ t.size := by omega
  have sl1 : t.extract 0 j = I := by rw [hI, laidI, hj, hm]
  have hh := headT_size k
  have a1 := fun w' => run_string_add_sum (P := Tryz.prog) w' (headT k) I (by omega)
  have a2 := fun w' => run_string_add_sum (P := Tryz.prog) w' (headT k ++ I) M (by rw [ByteArray.size_append]; omega)
  have a3 := fun w' => run_string_add_sum (P := Tryz.prog) w' (headT k ++ I ++ M) F (by simp only [ByteArray.size_append]; omega)
  have a4 := fun w' => run_string_add_sum (P := Tryz.prog) w' (headT k ++ I ++ M ++ F) lastT (by simp only [ByteArray.size_append]; have : lastT.size = 4 := rfl; omega)
  have w1 : wrap64 ((n : Int) - 2) = (n : Int) - 2 := by unfold wrap64; omega
  have w2 : wrap64 ((n : Int) - 2 - 20) = (m : Int) := by unfold wrap64; omega
  have w3 : min (t.size : Int) (m : Int) = (j : Int) := by omega
  have w4 : wrap64 ((m : Int) - (j : Int)) = (d : Int) := by unfold wrap64; omega
  have hzi : (t.size : Int) ≤ 1002 := by omega
  unfold headT kindT lastT lowByte at *
  generalize strOfNums (bigL body.size 2) = nb at *
  have N1 := hide n1; have N2 := hide n2; have N3 := hide n3; have N4 := hide n4
  have hjI : (j : Int) ≤ (t.size : Int) := by omega
  have HT := hide htz
  clear n1 n2 n3 n4 ht hI hM hF hR hW hRs hrn hbk hb hs hn hn2 hMz hFz hh htz hd hj hm hjt
  go_enter Tryz.func26, Tryz.ntmps26
  go_wp2_with fail
  refine (unhide N1 _).mono ?_
  rintro e w1 ⟨rfl, b1⟩
  have B1 := hide b1
  clear b1
  go_wp2_with fail
  refine (unhide N2 _).mono ?_
  rintro e w2 ⟨rfl, b2⟩
  have B2 := hide ((unhide B1).trans (b2.mono (unhide B1).size))
  clear b2
  go_wp2_with fail
  refine (unhide N3 _).mono ?_
  rintro e w3 ⟨rfl, b3⟩
  have B3 := hide ((((unhide B2).alloc (unhide B2).size (.cells #[.int .u8 (k % 256)] 5)).alloc (by have := (unhide B2).size; simp; omega) (.cells #[.string (strOfNums [k % 256]), .string t, .string beside] 9)).trans (b3.mono (by have := (unhide B2).size; omega)))
  clear b3
  go_wp2_with fail
  refine (unhide N4 _).mono ?_
  rintro e w4 ⟨rfl, b4⟩
  have B4 := hide ((unhide B3).trans (b4.mono (unhide B3).size))
  clear b4
  go_wp2_with fail
  go_region
  all_goals
    go_wp2
    go_ret2
    exact ⟨rfl, ((unhide B4).alloc (unhide B4).size _).drew⟩
end Go.Proofs.YtckkhpegimkefaaGreatDoor
