/- Numbers in bytes (B6): one contract a call, for every input. -/
import Derived.Test.YtmdcaljccegiiaaGreatDoorM08
import Derived.Test.YtmdcaljccegiiaaGreatDoorM04
import Derived.Test.YtmdcaljccegiiaaGreatDoorM05
import Derived.Laws.Concat
namespace Go.Proofs.YtmdcaljccegiiaaGreatDoor
open Go.RowKit
set_option linter.unusedVariables false

abbrev numOk (n k : Int) : Prop := 1 ≤ k ∧ k ≤ 8 ∧ 0 ≤ n ∧ n < 256 ^ k.toNat
/-- what is answered: the text -/
def numS (n k : Int) : ByteArray := if numOk n k then strOfNums (bigL n.toNat k.toNat) else ⟨#[]⟩
/-- and the error -/
def numE (n k : Int) : Int := if numOk n k then 0 else 3
theorem numS_yes {n k : Int} (h : numOk n k) : numS n k = strOfNums (bigL n.toNat k.toNat) := by rw [numS, if_pos h]
theorem numS_no {n k : Int} (h : ¬ numOk n k) : numS n k = ⟨#[]⟩ := by rw [numS, if_neg h]
theorem numE_yes {n k : Int} (h : numOk n k) : numE n k = 0 := by rw [numE, if_pos h]
theorem numE_no {n k : Int} (h : ¬ numOk n k) : numE n k = 3 := by rw [numE, if_neg h]

theorem num_cases (n k : Int) : (k < 1 ∨ 8 < k) ∨ (1 ≤ k ∧ k ≤ 8 ∧ n < 0) ∨ ∃ n' k' : Nat, n = n' ∧ k = k' ∧ 1 ≤ k' ∧ k' ≤ 8 := by
  by_cases h1 : k < 1 ∨ 8 < k
  · exact .inl h1
  · by_cases h2 : n < 0
    · exact .inr (.inl ⟨by omega, by omega, h2⟩)
    · exact .inr (.inr ⟨n.toNat, k.toNat, by omega, by omega, by omega, by omega⟩)
theorem numOk_nat (n k : Nat) (h1 : 1 ≤ k) (h8 : k ≤ 8) : numOk n k ↔ n < 256 ^ k := by
  have e : ((n : Int) < 256 ^ ((k : Int)).toNat) ↔ n < 256 ^ k := by
    rw [Int.toNat_natCast, show ((256 : Int) ^ k) = ((256 ^ k : Nat) : Int) by simp]
    omega
  constructor
  · intro h
    exact e.1 h.2.2.2
  · intro h
    exact ⟨by omega, by omega, by omega, e.2 h⟩

theorem number_all (n k : Int) (w : World) (hn : n ≤ 9223372036854775807) :
    Calls Tryz.prog 12 #[.int .i64 n, .int .i64 k] w fun e w' => e = .returned (.tuple #[.string (numS n k), .int .i64 (numE n k)]) ∧ Below w.heap.size w w' := by
  rcases num_cases n k with h | ⟨h1, h8, h⟩ | ⟨n', k', rfl, rfl, h1, h8⟩
  · rw [numS_no (by rintro ⟨_, _, _, _⟩; omega), numE_no (by rintro ⟨_, _, _, _⟩; omega)]
    exact (number_no1 n k w h).mono fun e w' ⟨he, hw⟩ => ⟨he, by rw [hw]; exact Below.refl _ _⟩
  · rw [numS_no (by rintro ⟨_, _, _, _⟩; omega), numE_no (by rintro ⟨_, _, _, _⟩; omega)]
    exact (number_no2 n k w h1 h8 h).mono fun e w' ⟨he, hw⟩ => ⟨he, by rw [hw]; exact Below.refl _ _⟩
  · by_cases hf : n' < 256 ^ k'
    · rw [numS_yes ((numOk_nat n' k' h1 h8).2 hf), numE_yes ((numOk_nat n' k' h1 h8).2 hf)]
      exact number_any n' k' w h1 h8 (by omega) hf
    · rw [numS_no (fun h => hf ((numOk_nat n' k' h1 h8).1 h)), numE_no (fun h => hf ((numOk_nat n' k' h1 h8).1 h))]
      exact (number_no3 n' k' w h1 h8 (by omega) (by omega)).mono fun e w' ⟨he, hw⟩ => ⟨he, by rw [hw]; exact Below.refl _ _⟩

/-- what is read, and the error -/
def readV (s : ByteArray) : Int := if 8 < s.size then 0 else if 9223372036854775807 < valN s.data.toList then 0 else valN s.data.toList
def readE (s : ByteArray) : Int := if 8 < s.size then 2 else if 9223372036854775807 < valN s.data.toList then 3 else 0
theorem readOf_pair (s : ByteArray) (h : s.size ≤ 8) : readOf (valN s.data.toList) = .tuple #[.int .i64 (readV s), .int .i64 (readE s)] := by
  have h8 : ¬ 8 < s.size := by omega
  unfold readV readE
  rw [if_neg h8, if_neg h8]
  by_cases hc : 9223372036854775807 < valN s.data.toList
  · rw [readOf_big hc, if_pos hc, if_pos hc]
  · rw [readOf_small hc, if_neg hc, if_neg hc]
theorem read_all (s : ByteArray) (w : World) (hm : s.size ≤ maxLen) :
    Calls Tryz.prog 17 #[.string s] w fun e w' => e = .returned (.tuple #[.int .i64 (readV s), .int .i64 (readE s)]) ∧ w' = w := by
  by_cases h : 8 < s.size
  · unfold readV readE
    rw [if_pos h, if_pos h]
    exact read_long s w h hm
  · rw [← readOf_pair s (by omega)]
    exact readN_any s w (by omega)

theorem valN_big (n k : Nat) : valN ((bigL n k).map fun z => UInt8.ofNat z.toNat) = n % 256 ^ k := by
  induction k with
  | zero => simp [bigL, valN, Nat.mod_one]
  | succ k ih =>
    simp only [bigL, List.map_cons]
    rw [valN_cons, ih, List.length_map, bigL_length]
    have e : (UInt8.ofNat (((n / 256 ^ k % 256 : Nat) : Int)).toNat).toNat = n / 256 ^ k % 256 := by
      rw [Int.toNat_natCast, UInt8.toNat_ofNat']
      omega
    rw [e, Nat.pow_succ, Nat.mod_mul, Nat.mul_comm, Nat.add_comm]
theorem read_num (n k : Int) (hn : n ≤ 9223372036854775807) (h : numOk n k) : readV (numS n k) = n ∧ readE (numS n k) = 0 := by
  rw [numS_yes h]
  obtain ⟨h1, h8, h0, hf⟩ := h
  obtain ⟨n', rfl⟩ := Int.eq_ofNat_of_zero_le h0
  obtain ⟨k', rfl⟩ := Int.eq_ofNat_of_zero_le (show 0 ≤ k by omega)
  have hf' : n' < 256 ^ k' := ((numOk_nat n' k' (by omega) (by omega)).1 ⟨h1, h8, h0, hf⟩)
  have hs : (strOfNums (bigL n' k')).size = k' := by rw [strOfNums_size, bigL_length]
  have hv : valN (strOfNums (bigL n' k')).data.toList = n' := by rw [strOfNums_data, valN_big, Nat.mod_eq_of_lt hf']
  simp only [Int.toNat_natCast]
  have c1 : ¬ 8 < (strOfNums (bigL n' k')).size := by omega
  have c2 : ¬ 9223372036854775807 < valN (strOfNums (bigL n' k')).data.toList := by omega
  unfold readV readE
  rw [if_neg c1, if_neg c1, if_neg c2, if_neg c2, hv]
  exact ⟨rfl, rfl⟩
theorem numS_size (n k : Int) : (numS n k).size ≤ 8 := by
  by_cases h : numOk n k
  · rw [numS_yes h, strOfNums_size, bigL_length]
    have := h.2.1
    omega
  · rw [numS_no h]
    show (0 : Nat) ≤ 8
    omega
end Go.Proofs.YtmdcaljccegiiaaGreatDoor
namespace Go.Proofs.YtmdcaljccegiiaaGreatDoor
open Go.RowKit Go.Shelf
set_option linter.unusedVariables false
set_option linter.unusedSimpArgs false
set_option maxRecDepth 100000

def kindT (n : Int) : ByteArray := strOfNums [lowByte n]
def headT (n : Int) : ByteArray := strOfNums [106, lowByte n]
def lastT : ByteArray := ⟨#[188, 188, 188, 188]⟩
def bodyT (b : ByteArray) : ByteArray := strOfNums (bigL b.size 2) ++ b
def manyT (c : UInt8) (n : Nat) : ByteArray := ⟨(List.replicate n c).toArray⟩
theorem manyT_size (c : UInt8) (n : Nat) : (manyT c n).size = n := by simp [manyT, ByteArray.size]
def laidI (n : Nat) (t : ByteArray) : ByteArray := t.extract 0 (min t.size (n - 22))
def laidR (n : Nat) (t : ByteArray) : ByteArray := t.extract (min t.size (n - 22)) t.size
def laidF (k : Int) (t beside : ByteArray) : ByteArray := foldS (rowS [kindT k, t, beside])
def laidW (n : Nat) (k : Int) (t beside : ByteArray) : ByteArray := headT k ++ laidI n t ++ manyT 187 (n - 22 - (laidI n t).size) ++ laidF k t beside ++ lastT
theorem bodyT_size (b : ByteArray) : (bodyT b).size = b.size + 2 := by
  rw [bodyT, ByteArray.size_append, strOfNums_size, bigL_length]; omega
theorem laidI_size (n : Nat) (t : ByteArray) : (laidI n t).size = min t.size (n - 22) := by
  rw [laidI, ByteArray.size_extract]; omega
theorem kindT_size (k : Int) : (kindT k).size = 1 := by rw [kindT, strOfNums_size]; rfl
theorem headT_size (k : Int) : (headT k).size = 2 := by rw [headT, strOfNums_size]; rfl
theorem laidF_size (k : Int) (t b : ByteArray) : (laidF k t b).size = 16 := foldS_size _
theorem laidW_size (n : Nat) (k : Int) (t b : ByteArray) (hn : 22 ≤ n) : (laidW n k t b).size = n := by
  rw [laidW]
  simp only [ByteArray.size_append, headT_size, laidF_size, manyT_size, laidI_size]
  have : lastT.size = 4 := rfl
  omega
theorem many_repeat (c : UInt8) (n : Nat) : (⟨(Lib.repeatL (⟨#[c]⟩ : ByteArray).data.toList n).toArray⟩ : ByteArray) = manyT c n := by
  unfold manyT
  congr 2
  induction n with
  | zero => rfl
  | succ n ih => simp only [Lib.repeatL, ih]; rfl
theorem repeatC_any (c : UInt8) (n : Nat) (w : World) (hc : n ≤ 1000) : Calls Tryz.prog 57 #[.string ⟨#[c]⟩, .int .i64 n] w fun e w' => e = .returned (.string (manyT c n)) ∧ Below w.heap.size w w' := by
  have h1 : (⟨#[c]⟩ : ByteArray).size = 1 := rfl
  have := Any.strings_Repeat Tryz.lays105 Tryz.Builder_Extra_105 ⟨#[c]⟩ n w (by omega) (by rw [h1]; omega)
  rw [many_repeat] at this
  exact this
theorem one_byteC (w : World) (x : Int) :
    (convert 39 9 (.slice (some ⟨w.heap.size, 0, none⟩) 1 1)).run Tryz.prog (w.alloc (.cells #[.int .u8 x] 5)) = .ok (.string (strOfNums [x])) (w.alloc (.cells #[.int .u8 x] 5)) :=
  run_convert_bytes_arg (P := Tryz.prog) _ 39 5 Tryz.underlying39 Tryz.underlying5 w.heap.size 0 1 1 [x] rfl (fun i hi => by
    have h2 : i = 0 := by omega
    subst h2; simp) 9 Tryz.underlying9
theorem two_bytesC (w : World) (x y : Int) :
    (convert 39 9 (.slice (some ⟨w.heap.size, 0, none⟩) 2 2)).run Tryz.prog (w.alloc (.cells #[.int .u8 x, .int .u8 y] 5)) = .ok (.string (strOfNums [x, y])) (w.alloc (.cells #[.int .u8 x, .int .u8 y] 5)) :=
  run_convert_bytes_arg (P := Tryz.prog) _ 39 5 Tryz.underlying39 Tryz.underlying5 w.heap.size 0 2 2 [x, y] rfl (fun i hi => by
    have h2 : i = 0 ∨ i = 1 := by omega
    rcases h2 with rfl | rfl <;> simp) 9 Tryz.underlying9

theorem two_bytesD (w : World) (x y : Int) :
    (convert 39 9 (.slice (some ⟨w.heap.size, 0, none⟩) 2 2)).run Tryz.prog (w.alloc (.cells #[.int .u8 x, .int .u8 y] 5)).drew = .ok (.string (strOfNums [x, y])) (w.alloc (.cells #[.int .u8 x, .int .u8 y] 5)).drew :=
  run_convert_bytes_arg (P := Tryz.prog) _ 39 5 Tryz.underlying39 Tryz.underlying5 w.heap.size 0 2 2 [x, y] rfl (fun i hi => by
    have h2 : i = 0 ∨ i = 1 := by omega
    rcases h2 with rfl | rfl <;> simp) 9 Tryz.underlying9
set_option maxHeartbeats 4000000 in
theorem layOut_any (n : Nat) (k : Int) (body beside : ByteArray) (w : World) (hn : 22 ≤ n) (hn2 : n ≤ 1000) (hb : body.size ≤ 1000) (hs : beside.size ≤ 2097152) :
    Calls Tryz.prog 26 #[.int .i64 n, .int .i64 k, .string body, .string beside] w fun e w' => e = .returned (.tuple #[.string (laidW n k (bodyT body) beside), .string (laidR n (bodyT body))]) ∧ Below w.heap.size w w' := by
  have hno : numOk (body.size : Int) 2 := by unfold numOk; refine ⟨by omega, by omega, by omega, ?_⟩; simp; omega
  have n1 := fun w => number_all (body.size : Int) 2 w (by omega)
  rw [numS_yes hno, numE_yes hno] at n1
  simp only [Int.toNat_natCast, show (2 : Int).toNat = 2 from rfl] at n1
  clear hno
  obtain ⟨t, ht⟩ : ∃ t, t = bodyT body := ⟨_, rfl⟩
  have htz : t.size = body.size + 2 := by rw [ht, bodyT_size]
  have ha1 := fun w' => run_string_add_sum (P := Tryz.prog) w' (strOfNums (bigL body.size 2)) body (by rw [strOfNums_size, bigL_length]; omega)
  rw [show strOfNums (bigL body.size 2) ++ body = t from ht.symm] at ha1
  obtain ⟨I, hI⟩ : ∃ I, I = laidI n t := ⟨_, rfl⟩
  obtain ⟨m, hm⟩ : ∃ m, m = n - 22 := ⟨_, rfl⟩
  obtain ⟨j, hj⟩ : ∃ j, j = min t.size m := ⟨_, rfl⟩
  obtain ⟨d, hd⟩ : ∃ d, d = m - j := ⟨_, rfl⟩
  have hIz : I.size = j := by rw [hI, laidI_size, hj, hm]
  have n2 := fun w => repeatC_any 187 d w (by omega)
  obtain ⟨M, hM⟩ : ∃ M, M = manyT 187 d := ⟨_, rfl⟩
  have hMz : M.size = d := by rw [hM, manyT_size]
  rw [← hM] at n2
  have hbk : bulkT [kindT k, t, beside] ≤ 4194304 := by simp only [bulkT, kindT_size]; omega
  have hrn := rowN_bulk [kindT k, t, beside]
  have n3 : ∀ w2 : World, Calls Tryz.prog 59 #[.slice (some ⟨w2.heap.size + 1, 0, none⟩) 3 3] ((w2.alloc (.cells #[.int .u8 (k % 256)] 5)).alloc (.cells #[.string (strOfNums [k % 256]), .string t, .string beside] 9)) fun e w' => e = .returned (.string (rowS [kindT k, t, beside])) ∧ Below (w2.heap.size + 2) ((w2.alloc (.cells #[.int .u8 (k % 256)] 5)).alloc (.cells #[.string (strOfNums [k % 256]), .string t, .string beside] 9)) w' := fun w2 => by
    have h := row_any [kindT k, t, beside] _ 3 _ (TRow.new (w2.alloc (.cells #[.int .u8 (k % 256)] 5)) [kindT k, t, beside] 9) hbk
    have e1 : (w2.alloc (.cells #[.int .u8 (k % 256)] 5)).heap.size = w2.heap.size + 1 := by simp
    have e2 : ((w2.alloc (.cells #[.int .u8 (k % 256)] 5)).alloc (.cells (List.map Value.string [kindT k, t, beside]).toArray 9)).heap.size = w2.heap.size + 2 := by simp
    rw [e2, e1] at h
    exact h
  have n4 := fun w => fold_any (rowS [kindT k, t, beside]) (by rw [rowS_size]; omega) w
  obtain ⟨F, hF⟩ : ∃ F, F = laidF k t beside := ⟨_, rfl⟩
  have hFz : F.size = 16 := by rw [hF, laidF_size]
  rw [show foldS (rowS [kindT k, t, beside]) = F from hF.symm] at n4
  obtain ⟨R, hR⟩ : ∃ R, R = rowS [kindT k, t, beside] := ⟨_, rfl⟩
  rw [← hR] at n3 n4
  have hW : laidW n k t beside = headT k ++ I ++ M ++ F ++ lastT := by rw [laidW, hM, hF, ← hI, hIz, hd, hm]
  have hRs : laidR n t = t.extract j t.size := by rw [laidR, hj, hm]
  rw [← ht, hW, hRs]
  have hc1 := one_byteC
  have hc2 := two_bytesC
  have hc3 := two_bytesD
  have hwk : IntKind.u8.wrap k = k % 256 := rfl
  have hjt : j ≤ t.size := by omega
  have sl1 : t.extract 0 j = I := by rw [hI, laidI, hj, hm]
  have hh := headT_size k
  have a1 := fun w' => run_string_add_sum (P := Tryz.prog) w' (headT k) I (by omega)
  have a2 := fun w' => run_string_add_sum (P := Tryz.prog) w' (headT k ++ I) M (by rw [ByteArray.size_append]; omega)
  have a3 := fun w' => run_string_add_sum (P := Tryz.prog) w' (headT k ++ I ++ M) F (by simp only [ByteArray.size_append]; omega)
  have a4 := fun w' => run_string_add_sum (P := Tryz.prog) w' (headT k ++ I ++ M ++ F) lastT (by simp only [ByteArray.size_append]; have : lastT.size = 4 := rfl; omega)
  have w1 : wrap64 ((n : Int) - 2) = (n : Int) - 2 := by unfold wrap64; omega
  have w2 : wrap64 ((n : Int) - 2 - 20) = (m : Int) := by unfold wrap64; omega
  have w3 : min (t.size : Int) (m : Int) = (j : Int) := by omega
  have w4 : wrap64 ((m : Int) - (j : Int)) = (d : Int) := by unfold wrap64; omega
  have hzi : (t.size : Int) ≤ 1002 := by omega
  unfold headT kindT lastT lowByte at *
  generalize strOfNums (bigL body.size 2) = nb at *
  have N1 := hide n1; have N2 := hide n2; have N3 := hide n3; have N4 := hide n4
  have hjI : (j : Int) ≤ (t.size : Int) := by omega
  have HT := hide htz
  clear n1 n2 n3 n4 ht hI hM hF hR hW hRs hrn hbk hb hs hn hn2 hMz hFz hh htz hd hj hm hjt
  go_enter Tryz.func26, Tryz.ntmps26
  go_wp2_with fail
  refine (unhide N1 _).mono ?_
  rintro e w1 ⟨rfl, b1⟩
  have B1 := hide b1
  clear b1
  go_wp2_with fail
  refine (unhide N2 _).mono ?_
  rintro e w2 ⟨rfl, b2⟩
  have B2 := hide ((unhide B1).trans (b2.mono (unhide B1).size))
  clear b2
  go_wp2_with fail
  refine (unhide N3 _).mono ?_
  rintro e w3 ⟨rfl, b3⟩
  have B3 := hide ((((unhide B2).alloc (unhide B2).size (.cells #[.int .u8 (k % 256)] 5)).alloc (by have := (unhide B2).size; simp; omega) (.cells #[.string (strOfNums [k % 256]), .string t, .string beside] 9)).trans (b3.mono (by have := (unhide B2).size; omega)))
  clear b3
  go_wp2_with fail
  refine (unhide N4 _).mono ?_
  rintro e w4 ⟨rfl, b4⟩
  have B4 := hide ((unhide B3).trans (b4.mono (unhide B3).size))
  clear b4
  go_wp2_with fail
  go_region
  all_goals
    go_wp2
    go_ret2
    exact ⟨rfl, ((unhide B4).alloc (unhide B4).size _).drew⟩
end Go.Proofs.YtmdcaljccegiiaaGreatDoor
