/- What is certified, laid out by the document's own. -/
import Derived.Test.YtmdcaljccegiiaaGreatDoorM09
import Derived.Test.YtmdcaljccegiiaaGreatDoorM08
import Derived.Test.YtmdcaljccegiiaaGreatDoorM00
import Derived.Deep.QuietTactic
import Derived.BigQuiet
import Derived.WalkSmall
namespace Go.Proofs.YtmdcaljccegiiaaGreatDoor
open Go.RowKit
set_option linter.unusedVariables false
set_option linter.unusedSimpArgs false
set_option maxRecDepth 100000

theorem manyT_snoc (c : UInt8) (n : Nat) : manyT c n ++ strOfNums [(c.toNat : Int)] = manyT c (n + 1) := by
  apply ByteArray.ext
  apply Array.toList_inj.1
  rw [ByteArray.data_append, Array.toList_append]
  simp only [manyT, strOfNums, List.replicate_succ']
  simp
set_option maxHeartbeats 1000000 in
theorem rrepeat_any (c : UInt8) (n : Nat) (hn : n ≤ 1000) (w : World) :
    Calls Tryz.prog 37 #[.int .u8 c.toNat, .int .i64 n] w fun e w' => e = .returned (.string (manyT c n)) ∧ Below w.heap.size w w' := by
  have hcv := one_byteC
  have hcl : (c.toNat : Int) < 256 := by have := c.toNat_lt; omega
  have HC := hide (fun n => manyT_snoc c n)
  obtain ⟨x, hx⟩ : ∃ x : Int, x = (c.toNat : Int) := ⟨_, rfl⟩
  rw [← hx] at HC hcl ⊢
  clear hx
  go_enter Tryz.func37, Tryz.ntmps37
  go_wp2
  go_loopw [5, 6] (fun s i wr => ∃ k : Nat, k ≤ n ∧ i = .int .i64 k ∧ s = .string (manyT c k) ∧ Below w.heap.size w wr) (fun _ i _ => n - (intOf i).toNat)
  case atStart => exact ⟨0, Nat.zero_le _, rfl, rfl, Below.refl _ _⟩
  case round =>
    obtain ⟨k, hk, rfl, rfl, hbw⟩ := hrel
    have HB := hide hbw
    clear hbw
    by_cases hlt : k < n
    · have hz := manyT_size c k
      have h1 : (strOfNums [x]).size = 1 := by rw [strOfNums_size]; rfl
      have hs := unhide HC k
      have HS := hide hs
      clear hs
      have ha := fun w' => run_string_add_sum (P := Tryz.prog) w' (manyT c k) (strOfNums [x]) (by omega)
      generalize manyT c k = t at *
      go_wp2
      exact ⟨⟨k + 1, by omega, by go_num, by rw [unhide HS], (unhide HB).alloc (unhide HB).size _⟩, by simp [intOf]; omega⟩
    · have hkn : k = n := by omega
      subst hkn
      go_wp2
      go_ret
      exact ⟨rfl, unhide HB⟩
theorem TRow.new1 (w2 : World) (o : Obj) (t u v : ByteArray) : TRow ((w2.alloc o).alloc (.cells #[.string t, .string u, .string v] 9)) (some ⟨w2.heap.size + 1, 0, none⟩) [t, u, v] := by
  have h := TRow.new (w2.alloc o) [t, u, v] 9
  have e1 : (w2.alloc o).heap.size = w2.heap.size + 1 := by simp
  rw [e1] at h
  exact h
set_option maxHeartbeats 4000000 in
theorem rlaid_any (n : Nat) (k : Int) (body beside : ByteArray) (w : World) (hn : 22 ≤ n) (hn2 : n ≤ 1000) (hb : body.size ≤ 1000) (hs : beside.size ≤ 2097152) :
    Calls Tryz.prog 21 #[.int .i64 n, .int .i64 k, .string body, .string beside] w fun e w' => e = .returned (.tuple #[.string (laidW n k (bodyT body) beside), .string (laidR n (bodyT body))]) ∧ Below w.heap.size w w' := by
  have n1 := fun w => (big_any body.size 2 w (by decide) (by omega) : Calls Tryz.prog 16 #[.int .i64 body.size, .int .i64 2] w _)
  obtain ⟨t, ht⟩ : ∃ t, t = bodyT body := ⟨_, rfl⟩
  have htz : t.size = body.size + 2 := by rw [ht, bodyT_size]
  have ha1 := fun w' => run_string_add_sum (P := Tryz.prog) w' (strOfNums (bigL body.size 2)) body (by rw [strOfNums_size, bigL_length]; omega)
  rw [show strOfNums (bigL body.size 2) ++ body = t from ht.symm] at ha1
  obtain ⟨I, hI⟩ : ∃ I, I = laidI n t := ⟨_, rfl⟩
  obtain ⟨m, hm⟩ : ∃ m, m = n - 22 := ⟨_, rfl⟩
  obtain ⟨j, hj⟩ : ∃ j, j = min t.size m := ⟨_, rfl⟩
  obtain ⟨d, hd⟩ : ∃ d, d = m - j := ⟨_, rfl⟩
  have hIz : I.size = j := by rw [hI, laidI_size, hj, hm]
  have n2 := fun w => rrepeat_any 187 d (by omega) w
  rw [show (((187 : UInt8).toNat : Nat) : Int) = 187 from rfl] at n2
  have n5 := fun w => (rrepeat_any 188 4 (by decide) w : Calls Tryz.prog 37 #[.int .u8 188, .int .i64 4] w _)
  rw [show manyT 188 4 = lastT from rfl] at n5
  obtain ⟨M, hM⟩ : ∃ M, M = manyT 187 d := ⟨_, rfl⟩
  have hMz : M.size = d := by rw [hM, manyT_size]
  rw [← hM] at n2
  have hbk : bulkT [kindT k, t, beside] ≤ 4194304 := by simp only [bulkT, kindT_size]; omega
  have hrn := rowN_bulk [kindT k, t, beside]
  have n3 := fun (w2 : World) => rrow_any [kindT k, t, beside] (some ⟨w2.heap.size, 0, none⟩) 3 (w2.alloc (.cells #[.string (kindT k), .string t, .string beside] 9)) (TRow.new w2 [kindT k, t, beside] 9) (by omega) (by simp)
  have n4 := fun w => rfold_any (rowS [kindT k, t, beside]) (by rw [rowS_size]; omega) w
  have n6 := fun (w : World) (b off cap : Nat) (hbB : b < w.heap.size) (hc : w.cell? ⟨b, off, none⟩ = some (.int .i64 106)) => bytes_one 106 b off cap w hbB hc
  rw [show lowByte 106 = 106 from rfl] at n6
  have n7 := fun (w : World) (b off cap : Nat) (hbB : b < w.heap.size) (hc : w.cell? ⟨b, off, none⟩ = some (.int .i64 k)) => bytes_one k b off cap w hbB hc
  rw [show strOfNums [lowByte k] = kindT k from rfl] at n7
  obtain ⟨F, hF⟩ : ∃ F, F = laidF k t beside := ⟨_, rfl⟩
  have hFz : F.size = 16 := by rw [hF, laidF_size]
  rw [show foldS (rowS [kindT k, t, beside]) = F from hF.symm] at n4
  obtain ⟨R, hR⟩ : ∃ R, R = rowS [kindT k, t, beside] := ⟨_, rfl⟩
  rw [← hR] at n3 n4
  have hhd : strOfNums [106] ++ kindT k = headT k := strOfNums_append _ _
  have hW : laidW n k t beside = strOfNums [106] ++ kindT k ++ (I ++ M) ++ F ++ lastT := by rw [laidW, hM, hF, ← hI, hIz, hd, hm, hhd, ByteArray.append_assoc (a := headT k)]
  have hRs : laidR n t = t.extract j t.size := by rw [laidR, hj, hm]
  rw [← ht, hW, hRs]
  have hkz := kindT_size k
  have hL4 : lastT.size = 4 := rfl
  have h106 : (strOfNums [106]).size = 1 := by rw [strOfNums_size]; rfl
  have hjI : (j : Int) ≤ (t.size : Int) := by omega
  have sl1 : t.extract 0 j = I := by rw [hI, laidI, hj, hm]
  have w2 : wrap64 ((n : Int) - 22) = (m : Int) := by unfold wrap64; omega
  have w4 : wrap64 ((m : Int) - (j : Int)) = (d : Int) := by unfold wrap64; omega
  have a0 := fun w' => run_string_add_sum (P := Tryz.prog) w' I M (by omega)
  have a1 := fun w' => run_string_add_sum (P := Tryz.prog) w' (strOfNums [106]) (kindT k) (by omega)
  have a2 := fun w' => run_string_add_sum (P := Tryz.prog) w' (strOfNums [106] ++ kindT k) (I ++ M) (by simp only [ByteArray.size_append]; omega)
  have a3 := fun w' => run_string_add_sum (P := Tryz.prog) w' (strOfNums [106] ++ kindT k ++ (I ++ M)) F (by simp only [ByteArray.size_append]; omega)
  have a4 := fun w' => run_string_add_sum (P := Tryz.prog) w' (strOfNums [106] ++ kindT k ++ (I ++ M) ++ F) lastT (by simp only [ByteArray.size_append]; omega)
  have hIM : (I ++ M).size = m := by rw [ByteArray.size_append]; omega
  have N1 := hide n1; have N2 := hide n2; have N3 := hide n3; have N4 := hide n4; have N5 := hide n5; have N6 := hide n6; have N7 := hide n7
  generalize strOfNums (bigL body.size 2) = nb at *
  generalize kindT k = kd at *
  generalize strOfNums [106] = h6 at *
  generalize lastT = la at *
  clear n1 n2 n3 n4 n5 n6 n7 ht hF hR hW hRs hrn hbk hb hs hhd hkz hL4 h106 hIM hFz
  have hcase : (decide (m < t.size) = true ∧ j = m) ∨ (decide (m < t.size) = false ∧ j = t.size) := by
    by_cases h : m < t.size
    · exact .inl ⟨by simpa using h, by omega⟩
    · exact .inr ⟨by simpa using h, by omega⟩
  rcases hcase with ⟨hlt, hjm⟩ | ⟨hge, hjt⟩
  · have hd0 : d = 0 := by omega
    subst hjm
    subst hd0
    clear hI hM hn hn2 hMz htz hd hj hm
    go_enter Tryz.func21, Tryz.ntmps21
    go_wp2_with fail
    refine (unhide N1 _).mono ?_
    rintro e w1 ⟨rfl, b1⟩
    have B1 := hide b1.drew
    clear b1
    go_wp2_with fail
    go_region
    all_goals
      go_wp2_with fail
      refine (unhide N2 _).mono ?_
      rintro e w2' ⟨rfl, b2⟩
      have B2 := hide ((unhide B1).trans (b2.mono (unhide B1).size))
      clear b2
      go_wp2_with fail
      refine (unhide N7 _ _ _ _ (by simp) (by simp)).mono ?_
      rintro e w3 ⟨rfl, b3⟩
      have B3 := hide (((unhide B2).alloc (unhide B2).size (.cells #[.int .i64 k] 3)).trans (b3.mono (by have := (unhide B2).size; simp; omega)))
      clear b3
      go_wp2_with fail
      refine (unhide N6 _ _ _ _ (by simp) (by simp)).mono ?_
      rintro e w4' ⟨rfl, b4⟩
      have B4 := hide (((unhide B3).alloc (unhide B3).size (.cells #[.int .i64 106] 3)).trans (b4.mono (by have := (unhide B3).size; simp; omega)))
      clear b4
      go_wp2_with fail
      refine (unhide N3 _).mono ?_
      rintro e w5 ⟨rfl, b5⟩
      have B5 := hide (((unhide B4).alloc (unhide B4).size (.cells #[.string kd, .string t, .string beside] 9)).trans (b5.mono (by have := (unhide B4).size; simp; omega)))
      clear b5
      go_wp2_with fail
      refine (unhide N4 _).mono ?_
      rintro e w6 ⟨rfl, b6⟩
      have B6 := hide ((unhide B5).trans (b6.mono (unhide B5).size))
      clear b6
      go_wp2_with fail
      refine (unhide N5 _).mono ?_
      rintro e w7 ⟨rfl, b7⟩
      have B7 := hide ((unhide B6).trans (b7.mono (unhide B6).size))
      clear b7
      go_wp2
      go_ret2
      exact ⟨rfl, unhide B7⟩
  · have hIt : I = t := by rw [← sl1, hjt]; exact ByteArray.extract_zero_size
    have hex : t.extract t.size t.size = ⟨#[]⟩ := by
      apply ByteArray.ext
      simp [ByteArray.data_extract]
    subst hjt
    subst hIt
    clear hI hM hn hn2 hMz htz hd hj hm sl1 hjI hIz
    have HX := hide hex
    clear hex
    go_enter Tryz.func21, Tryz.ntmps21
    go_wp2_with fail
    refine (unhide N1 _).mono ?_
    rintro e w1 ⟨rfl, b1⟩
    have B1 := hide b1
    clear b1
    go_wp2_with fail
    refine (unhide N2 _).mono ?_
    rintro e w2' ⟨rfl, b2⟩
    have B2 := hide ((unhide B1).trans (b2.mono (unhide B1).size))
    clear b2
    go_wp2_with fail
    refine (unhide N7 _ _ _ _ (by simp) (by simp)).mono ?_
    rintro e w3 ⟨rfl, b3⟩
    have B3 := hide (((unhide B2).alloc (unhide B2).size (.cells #[.int .i64 k] 3)).trans (b3.mono (by have := (unhide B2).size; simp; omega)))
    clear b3
    go_wp2_with fail
    refine (unhide N6 _ _ _ _ (by simp) (by simp)).mono ?_
    rintro e w4' ⟨rfl, b4⟩
    have B4 := hide (((unhide B3).alloc (unhide B3).size (.cells #[.int .i64 106] 3)).trans (b4.mono (by have := (unhide B3).size; simp; omega)))
    clear b4
    go_wp2_with fail
    refine (unhide N3 _).mono ?_
    rintro e w5 ⟨rfl, b5⟩
    have B5 := hide (((unhide B4).alloc (unhide B4).size (.cells #[.string kd, .string I, .string beside] 9)).trans (b5.mono (by have := (unhide B4).size; simp; omega)))
    clear b5
    go_wp2_with fail
    refine (unhide N4 _).mono ?_
    rintro e w6 ⟨rfl, b6⟩
    have B6 := hide ((unhide B5).trans (b6.mono (unhide B5).size))
    clear b6
    go_wp2_with fail
    refine (unhide N5 _).mono ?_
    rintro e w7 ⟨rfl, b7⟩
    have B7 := hide ((unhide B6).trans (b7.mono (unhide B6).size))
    clear b7
    go_wp2
    go_ret2
    exact ⟨by rw [unhide HX]; rfl, unhide B7⟩
end Go.Proofs.YtmdcaljccegiiaaGreatDoor
namespace Go.Proofs.YtmdcaljccegiiaaGreatDoor
open Go.RowKit
set_option linter.unusedVariables false

/-- 2^32 -/
def B32 : Nat := 4294967296
theorem B32_pos : 0 < B32 := by unfold B32; decide
theorem B32_two : 2 ≤ B32 := by unfold B32; decide
/-- the number of a list of words, the low one first -/
def natV : List Nat → Nat
  | [] => 0
  | x :: r => x + B32 * natV r
def okV (l : List Nat) : Prop := ∀ x ∈ l, x < B32
theorem okV_nil : okV [] := fun x hx => by cases hx
theorem okV_get {l : List Nat} (h : okV l) {i x : Nat} (hi : l[i]? = some x) : x < B32 := h x (List.mem_of_getElem? hi)
theorem okV_cons {x : Nat} {l : List Nat} (h : okV (x :: l)) : x < B32 ∧ okV l := ⟨h x (by simp), fun y hy => h y (by simp [hy])⟩
theorem okV_append {a b : List Nat} (ha : okV a) (hb : okV b) : okV (a ++ b) := fun x hx => by
  rcases List.mem_append.1 hx with h | h
  · exact ha x h
  · exact hb x h
theorem okV_take {a : List Nat} (h : okV a) (n : Nat) : okV (a.take n) := fun x hx => h x (List.mem_of_mem_take hx)
theorem okV_set {a : List Nat} (h : okV a) (i x : Nat) (hx : x < B32) : okV (a.set i x) := fun y hy => by
  rcases List.mem_or_eq_of_mem_set hy with h1 | h1
  · exact h y h1
  · rw [h1]; exact hx
theorem okV_zeros (n : Nat) : okV (List.replicate n 0) := fun x hx => by
  rw [(List.mem_replicate.1 hx).2]; exact B32_pos
theorem natV_append (a b : List Nat) : natV (a ++ b) = natV a + B32 ^ a.length * natV b := by
  induction a with
  | nil => simp [natV]
  | cons x r ih =>
    simp only [List.cons_append, natV, List.length_cons, Nat.pow_succ, ih]
    grind
theorem natV_lt {l : List Nat} (h : okV l) : natV l < B32 ^ l.length := by
  induction l with
  | nil => simp [natV]
  | cons x r ih =>
    obtain ⟨hx, hr'⟩ := okV_cons h
    have hr := ih hr'
    simp only [natV, List.length_cons, Nat.pow_succ]
    have h2 : B32 * (natV r + 1) ≤ B32 * B32 ^ r.length := Nat.mul_le_mul_left _ hr
    have h3 : B32 * (natV r + 1) = B32 * natV r + B32 := by rw [Nat.mul_add, Nat.mul_one]
    have h4 : B32 ^ r.length * B32 = B32 * B32 ^ r.length := Nat.mul_comm _ _
    omega
theorem natV_zeros (n : Nat) : natV (List.replicate n 0) = 0 := by
  induction n with
  | zero => rfl
  | succ n ih => simp [List.replicate_succ, natV, ih]
theorem natV_take_succ (l : List Nat) (i x : Nat) (h : l[i]? = some x) : natV (l.take (i + 1)) = natV (l.take i) + x * B32 ^ i := by
  have hi : i < l.length := (List.getElem?_eq_some_iff.1 h).1
  rw [List.take_add_one, h, natV_append, List.length_take, Nat.min_eq_left (by omega)]
  simp [natV, Nat.mul_comm]
/-- the words of a number, without a nought at the end -/
def dig (n : Nat) : List Nat := if h : n = 0 then [] else n % B32 :: dig (n / B32)
termination_by n
decreasing_by exact Nat.div_lt_self (by omega) B32_two
theorem dig_zero : dig 0 = [] := by rw [dig]; simp
theorem dig_pos {n : Nat} (h : n ≠ 0) : dig n = n % B32 :: dig (n / B32) := by rw [dig]; simp [h]
theorem natV_dig (n : Nat) : natV (dig n) = n := by
  induction n using Nat.strongRecOn with
  | _ n ih =>
    by_cases h : n = 0
    · subst h; rw [dig_zero]; rfl
    · rw [dig_pos h, natV, ih _ (Nat.div_lt_self (by omega) B32_two)]
      have := Nat.div_add_mod n B32
      omega
theorem okV_dig (n : Nat) : okV (dig n) := by
  induction n using Nat.strongRecOn with
  | _ n ih =>
    by_cases h : n = 0
    · subst h; rw [dig_zero]; exact okV_nil
    · rw [dig_pos h]
      intro x hx
      rcases List.mem_cons.1 hx with rfl | hx
      · exact Nat.mod_lt _ B32_pos
      · exact ih _ (Nat.div_lt_self (by omega) B32_two) x hx
theorem natV_cons_div {x : Nat} {r : List Nat} (hx : x < B32) : (x + B32 * natV r) / B32 = natV r ∧ (x + B32 * natV r) % B32 = x := by
  constructor
  · rw [Nat.add_mul_div_left _ _ B32_pos, Nat.div_eq_of_lt hx, Nat.zero_add]
  · rw [Nat.add_mul_mod_self_left, Nat.mod_eq_of_lt hx]
/-- a list without a nought at its end is the number's own -/
theorem dig_of {l : List Nat} (h : okV l) (hl : ∀ x, l.getLast? = some x → x ≠ 0) : dig (natV l) = l := by
  induction l with
  | nil => exact dig_zero
  | cons x r ih =>
    obtain ⟨hx, hr⟩ := okV_cons h
    obtain ⟨e1, e2⟩ := natV_cons_div (r := r) hx
    have hr0 : r = [] ∨ natV r ≠ 0 := by
      rcases Decidable.em (r = []) with h0 | h0
      · exact .inl h0
      · right
        have := ih hr (fun y hy => hl y (by rw [List.getLast?_cons, hy]; rfl))
        intro hz
        rw [hz, dig_zero] at this
        exact h0 this.symm
    have hne : natV (x :: r) ≠ 0 := by
      rcases hr0 with rfl | h0
      · have := hl x rfl
        simp only [natV]; omega
      · simp only [natV]
        have := Nat.mul_pos B32_pos (Nat.pos_of_ne_zero h0)
        omega
    rw [dig_pos hne]
    simp only [natV] at *
    rw [e1, e2]
    congr 1
    rcases hr0 with rfl | h0
    · exact dig_zero
    · exact ih hr (fun y hy => hl y (by rw [List.getLast?_cons, hy]; rfl))
/-- noughts at the end change nothing: the number's own words are the first ones -/
theorem dig_take {l : List Nat} (h : okV l) (n : Nat) (hn : n ≤ l.length) (hz : ∀ i x, n ≤ i → l[i]? = some x → x = 0) (hl : n = 0 ∨ ∃ x, l[n - 1]? = some x ∧ x ≠ 0) : dig (natV l) = l.take n := by
  have e : l = l.take n ++ l.drop n := (List.take_append_drop n l).symm
  have hd : l.drop n = List.replicate (l.length - n) 0 := by
    rw [← List.length_drop]
    apply List.eq_replicate_of_mem
    intro x hx
    obtain ⟨i, hi⟩ := List.getElem?_of_mem hx
    rw [List.getElem?_drop] at hi
    exact hz _ x (by omega) hi
  have hv : natV l = natV (l.take n) := by
    conv => lhs; rw [e]
    rw [natV_append, hd, natV_zeros, Nat.mul_zero, Nat.add_zero]
  rw [hv]
  refine dig_of (okV_take h n) (fun x hx => ?_)
  rcases hl with rfl | ⟨y, hy, hy0⟩
  · simp at hx
  · rw [List.getLast?_eq_getElem?, List.length_take, Nat.min_eq_left hn] at hx
    have hn0 : n - 1 < n := by
      rcases Nat.eq_zero_or_pos n with h0 | h0
      · subst h0; simp at hx
      · omega
    rw [List.getElem?_take_of_lt hn0, hy] at hx
    obtain rfl : y = x := by simpa using hx
    exact hy0
theorem dig_len (k : Nat) : ∀ n, n < B32 ^ k → (dig n).length ≤ k := by
  induction k with
  | zero =>
    intro n h
    obtain rfl : n = 0 := by simpa using h
    rw [dig_zero]; simp
  | succ k ih =>
    intro n h
    by_cases h0 : n = 0
    · subst h0; rw [dig_zero]; simp
    · rw [dig_pos h0, List.length_cons]
      have := ih (n / B32) (Nat.div_lt_of_lt_mul (by rw [Nat.mul_comm, ← Nat.pow_succ]; exact h))
      omega
theorem dig_length (l : List Nat) (h : okV l) : (dig (natV l)).length ≤ l.length := dig_len _ _ (natV_lt h)
theorem lt_dig (n : Nat) : n < B32 ^ (dig n).length := by
  have := natV_lt (okV_dig n)
  rwa [natV_dig] at this
theorem dig_last {n : Nat} (h : n ≠ 0) : ∃ x, (dig n).getLast? = some x ∧ x ≠ 0 := by
  induction n using Nat.strongRecOn with
  | _ n ih =>
    rw [dig_pos h]
    by_cases h0 : n / B32 = 0
    · rw [h0, dig_zero]
      refine ⟨n % B32, rfl, fun e => h ?_⟩
      have := Nat.div_add_mod n B32
      rw [h0, e] at this
      omega
    · obtain ⟨x, hx, hx0⟩ := ih _ (Nat.div_lt_self (by omega) B32_two) h0
      exact ⟨x, by rw [List.getLast?_cons, hx]; rfl, hx0⟩
end Go.Proofs.YtmdcaljccegiiaaGreatDoor
namespace Go.Proofs.YtmdcaljccegiiaaGreatDoor
open Go.RowKit
set_option linter.unusedVariables false

/-- words that lie in a row, to be read -/
def WRow (w : World) (ao : Option Addr) (ws : List Nat) : Prop := ws = [] ∨ ∃ g off, ao = some ⟨g, off, none⟩ ∧ g < w.heap.size ∧ ∀ i x, ws[i]? = some x → w.cell? ⟨g, off + i, none⟩ = some (.int .u32 (x : Nat))
theorem WRow.below {w w' : World} {ao : Option Addr} {ws : List Nat} (h : WRow w ao ws) (hb : Below w.heap.size w w') : WRow w' ao ws := by
  rcases h with h | ⟨g, off, e, hlt, hc⟩
  · exact .inl h
  · exact .inr ⟨g, off, e, Nat.lt_of_lt_of_le hlt hb.size, fun i x hi => (hb.cell (p := ⟨g, off + i, none⟩) hlt).trans (hc i x hi)⟩
theorem WRow.take {w : World} {ao : Option Addr} {ws : List Nat} (h : WRow w ao ws) (n : Nat) : WRow w ao (ws.take n) := by
  rcases h with rfl | ⟨g, off, e, hlt, hc⟩
  · exact .inl (by simp)
  · refine .inr ⟨g, off, e, hlt, fun i x hi => hc i x ?_⟩
    have hin : i < n := by
      have := (List.getElem?_eq_some_iff.1 hi).1
      rw [List.length_take] at this
      omega
    rwa [List.getElem?_take_of_lt hin] at hi
/-- a whole block of words -/
def VCells (row : List Nat) : Array Value := (row.map fun x : Nat => Value.int .u32 (x : Int)).toArray
def VRow (w : World) (g : Nat) (row : List Nat) : Prop := w.heap[g]? = some (.cells (VCells row) 100 (0, 0))
theorem VRow.cell {w : World} {g : Nat} {row : List Nat} (h : VRow w g row) (i x : Nat) (hi : row[i]? = some x) : w.cell? ⟨g, i, none⟩ = some (.int .u32 (x : Nat)) := by
  rw [cell_of_row _ _ i _ _ _ h]
  simp [VCells, hi]
theorem VRow.frozen {w : World} {g : Nat} {row : List Nat} (h : VRow w g row) (i : Nat) : w.frozen? ⟨g, i, none⟩ = false := frozen_of_row _ _ i _ _ h
theorem VRow.lt {w : World} {g : Nat} {row : List Nat} (h : VRow w g row) : g < w.heap.size := by
  rcases Nat.lt_or_ge g w.heap.size with h' | h'
  · exact h'
  · unfold VRow at h
    rw [Array.getElem?_eq_none h'] at h; cases h
theorem VRow.set {w : World} {g : Nat} {row : List Nat} (h : VRow w g row) (i x : Nat) : VRow (w.setCell ⟨g, i, none⟩ (.int .u32 (x : Nat))) g (row.set i x) := by
  unfold VRow at *
  have : (w.setCell ⟨g, i, none⟩ (.int .u32 (x : Nat))).heap[g]? = some (.cells ((VCells row).setIfInBounds i (.int .u32 (x : Nat))) 100 (0, 0)) := by
    simp [World.setCell, Array.getElem?_modify, h]
  rw [this]
  congr 2
  unfold VCells
  rw [List.setIfInBounds_toArray, List.map_set]
theorem VRow.wrow {w : World} {g : Nat} {row : List Nat} (h : VRow w g row) : WRow w (some ⟨g, 0, none⟩) row :=
  .inr ⟨g, 0, rfl, h.lt, fun i x hi => by rw [Nat.zero_add]; exact h.cell i x hi⟩
theorem VRow.below {w w' : World} {g : Nat} {row : List Nat} (h : VRow w g row) (hb : Below w.heap.size w w') : VRow w' g row := by
  have hg := h.lt
  unfold VRow at *
  rw [hb.block g hg, h]

set_option maxHeartbeats 1000000 in
theorem trim_any (ws : List Nat) (g off cap : Nat) (w : World) (hr : WRow w (some ⟨g, off, none⟩) ws) (hok : okV ws) (hl : (ws.length : Int) ≤ 1000000) (hcap : (ws.length : Int) ≤ (cap : Int)) (hc2 : (cap : Int) ≤ 1000000) :
    Calls Tryz.prog 101 #[.slice (some ⟨g, off, none⟩) ws.length cap] w fun e w' => e = .returned (.slice (some ⟨g, off, none⟩) (dig (natV ws)).length cap) ∧ w' = w := by
  have HR := hide hr; have HOK := hide hok
  clear hr hok
  go_enter Tryz.func101, Tryz.ntmps101
  go_wp2
  go_loopw [3] (fun n wr => ∃ k : Nat, k ≤ ws.length ∧ n = .int .i64 k ∧ Hid (∀ i x, k ≤ i → ws[i]? = some x → x = 0) ∧ wr = w) (fun n _ => (intOf n).toNat)
  case atStart => exact ⟨ws.length, Nat.le_refl _, rfl, hide (fun i x hi hx => by rw [List.getElem?_eq_none hi] at hx; cases hx), rfl⟩
  case round =>
    obtain ⟨k, hk, rfl, HZ, rfl⟩ := hrel
    have fin : (k = 0 ∨ ∃ x, ws[k - 1]? = some x ∧ x ≠ 0) → (dig (natV ws)).length = k := fun h => by
      rw [dig_take (unhide HOK) k hk (unhide HZ) h, List.length_take]
      omega
    have HFIN := hide fin
    clear fin
    have hkc : (k : Int) ≤ (cap : Int) := by omega
    cases k with
    | zero =>
      have HE := hide (unhide HFIN (.inl rfl))
      clear HFIN
      go_wp2
      go_ret
      exact ⟨by rw [unhide HE]; rfl, rfl⟩
    | succ j =>
      obtain ⟨x, hx⟩ : ∃ x, ws[j]? = some x := ⟨_, List.getElem?_eq_getElem (by omega)⟩
      rcases (unhide HR) with hnil | ⟨g', off', he, hb, hc⟩
      · rw [hnil] at hx; simp at hx
      obtain ⟨rfl, rfl⟩ : g = g' ∧ off = off' := by simpa using he
      have c0 := hc j x hx
      have hji : (j : Int) < (ws.length : Int) := by omega
      have hw1 : IntKind.i64.wrap (((j + 1 : Nat) : Int) - 1) = (j : Int) := by rw [IntKind.wrap_i64]; omega
      have hgt : decide (0 < ((j + 1 : Nat) : Int)) = true := decide_eq_true (by omega)
      by_cases hx0 : x = 0
      · subst hx0
        have HZ2 : Hid (∀ i x, j ≤ i → ws[i]? = some x → x = 0) := hide (fun i x hi hxi => by
          rcases Nat.lt_or_ge i (j + 1) with h | h
          · obtain rfl : i = j := by omega
            rw [hx] at hxi
            simpa using hxi.symm
          · exact unhide HZ i x h hxi)
        clear hx hc he
        go_wp2
        go_roundw
        case rel => exact ⟨j, by omega, by go_num, HZ2, by first | rfl | trivial⟩
        case measure => simp [intOf]; try omega
      · have HE := hide (unhide HFIN (.inr ⟨x, hx, hx0⟩))
        have hxI : ((x : Int) == 0) = false := by simp; omega
        clear hx hc he hx0 HFIN
        go_wp2
        go_ret
        exact ⟨by rw [unhide HE]; rfl, rfl⟩
theorem trim_nil (w : World) :
    Calls Tryz.prog 101 #[.slice none 0 0] w fun e w' => e = .returned (.slice none 0 0) ∧ w' = w := by
  go_enter Tryz.func101, Tryz.ntmps101
  go_wp2
  go_loopw [3] (fun n wr => n = .int .i64 0 ∧ wr = w) (fun n _ => 0)
  case atStart => exact ⟨rfl, rfl⟩
  case round =>
    obtain ⟨rfl, rfl⟩ := hrel
    go_wp2
    go_ret
    exact ⟨rfl, rfl⟩
end Go.Proofs.YtmdcaljccegiiaaGreatDoor
