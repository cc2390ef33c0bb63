/- What is certified, laid out by the document's own. -/
import Derived.Test.YtckkhpegimkefaaGreatDoorM07
import Derived.Test.YtckkhpegimkefaaGreatDoorM06
import Derived.Test.YtckkhpegimkefaaGreatDoorM00
import Derived.Shelf.Bits.Mul64
import Derived.Laws.Externs
import Derived.Deep.QuietTactic
import Derived.BigQuiet
namespace Go.Proofs.YtckkhpegimkefaaGreatDoor
open Go.RowKit
set_option linter.unusedVariables false
set_option linter.unusedSimpArgs false
set_option maxRecDepth 100000

theorem manyT_snoc (c : UInt8) (n : Nat) : manyT c n ++ strOfNums [(c.toNat : Int)] = manyT c (n + 1) := by
  apply ByteArray.ext
  apply Array.toList_inj.1
  rw [ByteArray.data_append, Array.toList_append]
  simp only [manyT, strOfNums, List.replicate_succ']
  simp
set_option maxHeartbeats 1000000 in
theorem rrepeat_any (c : UInt8) (n : Nat) (hn : n ≤ 1000) (w : World) :
    Calls Tryz.prog 69 #[.int .u8 c.toNat, .int .i64 n] w fun e w' => e = .returned (.string (manyT c n)) ∧ Below w.heap.size w w' := by
  have hcv := one_byteC
  have hcl : (c.toNat : Int) < 256 := by have := c.toNat_lt; omega
  have HC := hide (fun n => manyT_snoc c n)
  obtain ⟨x, hx⟩ : ∃ x : Int, x = (c.toNat : Int) := ⟨_, rfl⟩
  rw [← hx] at HC hcl ⊢
  clear hx
  go_enter Tryz.func69, Tryz.ntmps69
  go_wp2
  go_loopw [5, 6] (fun s i wr => ∃ k : Nat, k ≤ n ∧ i = .int .i64 k ∧ s = .string (manyT c k) ∧ Below w.heap.size w wr) (fun _ i _ => n - (intOf i).toNat)
  case atStart => exact ⟨0, Nat.zero_le _, rfl, rfl, Below.refl _ _⟩
  case round =>
    obtain ⟨k, hk, rfl, rfl, hbw⟩ := hrel
    have HB := hide hbw
    clear hbw
    by_cases hlt : k < n
    · have hz := manyT_size c k
      have h1 : (strOfNums [x]).size = 1 := by rw [strOfNums_size]; rfl
      have hs := unhide HC k
      have HS := hide hs
      clear hs
      have ha := fun w' => run_string_add_sum (P := Tryz.prog) w' (manyT c k) (strOfNums [x]) (by omega)
      generalize manyT c k = t at *
      go_wp2
      exact ⟨⟨k + 1, by omega, by go_num, by rw [unhide HS], (unhide HB).alloc (unhide HB).size _⟩, by simp [intOf]; omega⟩
    · have hkn : k = n := by omega
      subst hkn
      go_wp2
      go_ret
      exact ⟨rfl, unhide HB⟩
theorem TRow.new1 (w2 : World) (o : Obj) (t u v : ByteArray) : TRow ((w2.alloc o).alloc (.cells #[.string t, .string u, .string v] 9)) (some ⟨w2.heap.size + 1, 0, none⟩) [t, u, v] := by
  have h := TRow.new (w2.alloc o) [t, u, v] 9
  have e1 : (w2.alloc o).heap.size = w2.heap.size + 1 := by simp
  rw [e1] at h
  exact h
set_option maxHeartbeats 4000000 in
theorem rlaid_any (n : Nat) (k : Int) (body beside : ByteArray) (w : World) (hn : 22 ≤ n) (hn2 : n ≤ 1000) (hb : body.size ≤ 1000) (hs : beside.size ≤ 2097152) :
    Calls Tryz.prog 41 #[.int .i64 n, .int .i64 k, .string body, .string beside] w fun e w' => e = .returned (.tuple #[.string (laidW n k (bodyT body) beside), .string (laidR n (bodyT body))]) ∧ Below w.heap.size w w' := by
  have n1 := fun w => (big_any body.size 2 w (by decide) (by omega) : Calls Tryz.prog 32 #[.int .i64 body.size, .int .i64 2] w _)
  obtain ⟨t, ht⟩ : ∃ t, t = bodyT body := ⟨_, rfl⟩
  have htz : t.size = body.size + 2 := by rw [ht, bodyT_size]
  have ha1 := fun w' => run_string_add_sum (P := Tryz.prog) w' (strOfNums (bigL body.size 2)) body (by rw [strOfNums_size, bigL_length]; omega)
  rw [show strOfNums (bigL body.size 2) ++ body = t from ht.symm] at ha1
  obtain ⟨I, hI⟩ : ∃ I, I = laidI n t := ⟨_, rfl⟩
  obtain ⟨m, hm⟩ : ∃ m, m = n - 22 := ⟨_, rfl⟩
  obtain ⟨j, hj⟩ : ∃ j, j = min t.size m := ⟨_, rfl⟩
  obtain ⟨d, hd⟩ : ∃ d, d = m - j := ⟨_, rfl⟩
  have hIz : I.size = j := by rw [hI, laidI_size, hj, hm]
  have n2 := fun w => rrepeat_any 187 d (by omega) w
  rw [show (((187 : UInt8).toNat : Nat) : Int) = 187 from rfl] at n2
  have n5 := fun w => (rrepeat_any 188 4 (by decide) w : Calls Tryz.prog 69 #[.int .u8 188, .int .i64 4] w _)
  rw [show manyT 188 4 = lastT from rfl] at n5
  obtain ⟨M, hM⟩ : ∃ M, M = manyT 187 d := ⟨_, rfl⟩
  have hMz : M.size = d := by rw [hM, manyT_size]
  rw [← hM] at n2
  have hbk : bulkT [kindT k, t, beside] ≤ 4194304 := by simp only [bulkT, kindT_size]; omega
  have hrn := rowN_bulk [kindT k, t, beside]
  have n3 := fun (w2 : World) => rrow_any [kindT k, t, beside] (some ⟨w2.heap.size, 0, none⟩) 3 (w2.alloc (.cells #[.string (kindT k), .string t, .string beside] 9)) (TRow.new w2 [kindT k, t, beside] 9) (by omega) (by simp)
  have n4 := fun w => rfold_any (rowS [kindT k, t, beside]) (by rw [rowS_size]; omega) w
  have n6 := fun (w : World) (b off cap : Nat) (hbB : b < w.heap.size) (hc : w.cell? ⟨b, off, none⟩ = some (.int .i64 106)) => bytes_one 106 b off cap w hbB hc
  rw [show lowByte 106 = 106 from rfl] at n6
  have n7 := fun (w : World) (b off cap : Nat) (hbB : b < w.heap.size) (hc : w.cell? ⟨b, off, none⟩ = some (.int .i64 k)) => bytes_one k b off cap w hbB hc
  rw [show strOfNums [lowByte k] = kindT k from rfl] at n7
  obtain ⟨F, hF⟩ : ∃ F, F = laidF k t beside := ⟨_, rfl⟩
  have hFz : F.size = 16 := by rw [hF, laidF_size]
  rw [show foldS (rowS [kindT k, t, beside]) = F from hF.symm] at n4
  obtain ⟨R, hR⟩ : ∃ R, R = rowS [kindT k, t, beside] := ⟨_, rfl⟩
  rw [← hR] at n3 n4
  have hhd : strOfNums [106] ++ kindT k = headT k := strOfNums_append _ _
  have hW : laidW n k t beside = strOfNums [106] ++ kindT k ++ (I ++ M) ++ F ++ lastT := by rw [laidW, hM, hF, ← hI, hIz, hd, hm, hhd, ByteArray.append_assoc (a := headT k)]
  have hRs : laidR n t = t.extract j t.size := by rw [laidR, hj, hm]
  rw [← ht, hW, hRs]
  have hkz := kindT_size k
  have hL4 : lastT.size = 4 := rfl
  have h106 : (strOfNums [106]).size = 1 := by rw [strOfNums_size]; rfl
  have hjI : (j : Int) ≤ (t.size : Int) := by omega
  have sl1 : t.extract 0 j = I := by rw [hI, laidI, hj, hm]
  have w2 : wrap64 ((n : Int) - 22) = (m : Int) := by unfold wrap64; omega
  have w4 : wrap64 ((m : Int) - (j : Int)) = (d : Int) := by unfold wrap64; omega
  have a0 := fun w' => run_string_add_sum (P := Tryz.prog) w' I M (by omega)
  have a1 := fun w' => run_string_add_sum (P := Tryz.prog) w' (strOfNums [106]) (kindT k) (by omega)
  have a2 := fun w' => run_string_add_sum (P := Tryz.prog) w' (strOfNums [106] ++ kindT k) (I ++ M) (by simp only [ByteArray.size_append]; omega)
  have a3 := fun w' => run_string_add_sum (P := Tryz.prog) w' (strOfNums [106] ++ kindT k ++ (I ++ M)) F (by simp only [ByteArray.size_append]; omega)
  have a4 := fun w' => run_string_add_sum (P := Tryz.prog) w' (strOfNums [106] ++ kindT k ++ (I ++ M) ++ F) lastT (by simp only [ByteArray.size_append]; omega)
  have hIM : (I ++ M).size = m := by rw [ByteArray.size_append]; omega
  have N1 := hide n1; have N2 := hide n2; have N3 := hide n3; have N4 := hide n4; have N5 := hide n5; have N6 := hide n6; have N7 := hide n7
  generalize strOfNums (bigL body.size 2) = nb at *
  generalize kindT k = kd at *
  generalize strOfNums [106] = h6 at *
  generalize lastT = la at *
  clear n1 n2 n3 n4 n5 n6 n7 ht hF hR hW hRs hrn hbk hb hs hhd hkz hL4 h106 hIM hFz
  have hcase : (decide (m < t.size) = true ∧ j = m) ∨ (decide (m < t.size) = false ∧ j = t.size) := by
    by_cases h : m < t.size
    · exact .inl ⟨by simpa using h, by omega⟩
    · exact .inr ⟨by simpa using h, by omega⟩
  rcases hcase with ⟨hlt, hjm⟩ | ⟨hge, hjt⟩
  · have hd0 : d = 0 := by omega
    subst hjm
    subst hd0
    clear hI hM hn hn2 hMz htz hd hj hm
    go_enter Tryz.func41, Tryz.ntmps41
    go_wp2_with fail
    refine (unhide N1 _).mono ?_
    rintro e w1 ⟨rfl, b1⟩
    have B1 := hide b1.drew
    clear b1
    go_wp2_with fail
    go_region
    all_goals
      go_wp2_with fail
      refine (unhide N2 _).mono ?_
      rintro e w2' ⟨rfl, b2⟩
      have B2 := hide ((unhide B1).trans (b2.mono (unhide B1).size))
      clear b2
      go_wp2_with fail
      refine (unhide N7 _ _ _ _ (by simp) (by simp)).mono ?_
      rintro e w3 ⟨rfl, b3⟩
      have B3 := hide (((unhide B2).alloc (unhide B2).size (.cells #[.int .i64 k] 3)).trans (b3.mono (by have := (unhide B2).size; simp; omega)))
      clear b3
      go_wp2_with fail
      refine (unhide N6 _ _ _ _ (by simp) (by simp)).mono ?_
      rintro e w4' ⟨rfl, b4⟩
      have B4 := hide (((unhide B3).alloc (unhide B3).size (.cells #[.int .i64 106] 3)).trans (b4.mono (by have := (unhide B3).size; simp; omega)))
      clear b4
      go_wp2_with fail
      refine (unhide N3 _).mono ?_
      rintro e w5 ⟨rfl, b5⟩
      have B5 := hide (((unhide B4).alloc (unhide B4).size (.cells #[.string kd, .string t, .string beside] 9)).trans (b5.mono (by have := (unhide B4).size; simp; omega)))
      clear b5
      go_wp2_with fail
      refine (unhide N4 _).mono ?_
      rintro e w6 ⟨rfl, b6⟩
      have B6 := hide ((unhide B5).trans (b6.mono (unhide B5).size))
      clear b6
      go_wp2_with fail
      refine (unhide N5 _).mono ?_
      rintro e w7 ⟨rfl, b7⟩
      have B7 := hide ((unhide B6).trans (b7.mono (unhide B6).size))
      clear b7
      go_wp2
      go_ret2
      exact ⟨rfl, unhide B7⟩
  · have hIt : I = t := by rw [← sl1, hjt]; exact ByteArray.extract_zero_size
    have hex : t.extract t.size t.size = ⟨#[]⟩ := by
      apply ByteArray.ext
      simp [ByteArray.data_extract]
    subst hjt
    subst hIt
    clear hI hM hn hn2 hMz htz hd hj hm sl1 hjI hIz
    have HX := hide hex
    clear hex
    go_enter Tryz.func41, Tryz.ntmps41
    go_wp2_with fail
    refine (unhide N1 _).mono ?_
    rintro e w1 ⟨rfl, b1⟩
    have B1 := hide b1
    clear b1
    go_wp2_with fail
    refine (unhide N2 _).mono ?_
    rintro e w2' ⟨rfl, b2⟩
    have B2 := hide ((unhide B1).trans (b2.mono (unhide B1).size))
    clear b2
    go_wp2_with fail
    refine (unhide N7 _ _ _ _ (by simp) (by simp)).mono ?_
    rintro e w3 ⟨rfl, b3⟩
    have B3 := hide (((unhide B2).alloc (unhide B2).size (.cells #[.int .i64 k] 3)).trans (b3.mono (by have := (unhide B2).size; simp; omega)))
    clear b3
    go_wp2_with fail
    refine (unhide N6 _ _ _ _ (by simp) (by simp)).mono ?_
    rintro e w4' ⟨rfl, b4⟩
    have B4 := hide (((unhide B3).alloc (unhide B3).size (.cells #[.int .i64 106] 3)).trans (b4.mono (by have := (unhide B3).size; simp; omega)))
    clear b4
    go_wp2_with fail
    refine (unhide N3 _).mono ?_
    rintro e w5 ⟨rfl, b5⟩
    have B5 := hide (((unhide B4).alloc (unhide B4).size (.cells #[.string kd, .string I, .string beside] 9)).trans (b5.mono (by have := (unhide B4).size; simp; omega)))
    clear b5
    go_wp2_with fail
    refine (unhide N4 _).mono ?_
    rintro e w6 ⟨rfl, b6⟩
    have B6 := hide ((unhide B5).trans (b6.mono (unhide B5).size))
    clear b6
    go_wp2_with fail
    refine (unhide N5 _).mono ?_
    rintro e w7 ⟨rfl, b7⟩
    have B7 := hide ((unhide B6).trans (b7.mono (unhide B6).size))
    clear b7
    go_wp2
    go_ret2
    exact ⟨by rw [unhide HX]; rfl, unhide B7⟩
end Go.Proofs.YtckkhpegimkefaaGreatDoor
namespace Go.Proofs.YtckkhpegimkefaaGreatDoor
open Go.RowKit
set_option linter.unusedVariables false

/-- 2^64 -/
def B64 : Nat := 18446744073709551616
theorem B64_pos : 0 < B64 := by unfold B64; decide
/-- the number of a list of words, the low one first -/
def natW : List Nat → Nat
  | [] => 0
  | x :: r => x + B64 * natW r
def okW (l : List Nat) : Prop := ∀ x ∈ l, x < B64
theorem okW_nil : okW [] := fun x hx => by cases hx
theorem okW_get {l : List Nat} (h : okW l) {i x : Nat} (hi : l[i]? = some x) : x < B64 := h x (List.mem_of_getElem? hi)
theorem okW_append {a b : List Nat} (ha : okW a) (hb : okW b) : okW (a ++ b) := fun x hx => by
  rcases List.mem_append.1 hx with h | h
  · exact ha x h
  · exact hb x h
theorem okW_take {a : List Nat} (h : okW a) (n : Nat) : okW (a.take n) := fun x hx => h x (List.mem_of_mem_take hx)
theorem okW_drop {a : List Nat} (h : okW a) (n : Nat) : okW (a.drop n) := fun x hx => h x (List.mem_of_mem_drop hx)
theorem okW_set {a : List Nat} (h : okW a) (i x : Nat) (hx : x < B64) : okW (a.set i x) := fun y hy => by
  rcases List.mem_or_eq_of_mem_set hy with h1 | h1
  · exact h y h1
  · rw [h1]; exact hx
theorem okW_zeros (n : Nat) : okW (List.replicate n 0) := fun x hx => by
  rw [(List.mem_replicate.1 hx).2]; exact B64_pos
theorem natW_append (a b : List Nat) : natW (a ++ b) = natW a + B64 ^ a.length * natW b := by
  induction a with
  | nil => simp [natW]
  | cons x r ih =>
    simp only [List.cons_append, natW, List.length_cons, Nat.pow_succ, ih]
    grind
theorem natW_lt {l : List Nat} (h : okW l) : natW l < B64 ^ l.length := by
  induction l with
  | nil => simp [natW]
  | cons x r ih =>
    have hx := h x (by simp)
    have hr := ih (fun y hy => h y (by simp [hy]))
    simp only [natW, List.length_cons, Nat.pow_succ]
    have h2 : B64 * (natW r + 1) ≤ B64 * B64 ^ r.length := Nat.mul_le_mul_left _ hr
    have h3 : B64 * (natW r + 1) = B64 * natW r + B64 := by rw [Nat.mul_add, Nat.mul_one]
    have h4 : B64 ^ r.length * B64 = B64 * B64 ^ r.length := Nat.mul_comm _ _
    omega
theorem natW_zeros (n : Nat) : natW (List.replicate n 0) = 0 := by
  induction n with
  | zero => rfl
  | succ n ih => simp [List.replicate_succ, natW, ih]
theorem natW_take_succ (l : List Nat) (i x : Nat) (h : l[i]? = some x) : natW (l.take (i + 1)) = natW (l.take i) + x * B64 ^ i := by
  have hi : i < l.length := by
    rcases Nat.lt_or_ge i l.length with h' | h'
    · exact h'
    · rw [List.getElem?_eq_none h'] at h; cases h
  rw [List.take_add_one, h, natW_append, List.length_take, Nat.min_eq_left (by omega)]
  simp [natW, Nat.mul_comm]
theorem natW_inj {a : List Nat} : ∀ {b : List Nat}, okW a → okW b → a.length = b.length → natW a = natW b → a = b := by
  induction a with
  | nil => intro b _ _ hl _; cases b with
    | nil => rfl
    | cons y t => simp at hl
  | cons x r ih =>
    intro b ha hb hl h
    cases b with
    | nil => simp at hl
    | cons y t =>
      have hx := ha x (by simp)
      have hy := hb y (by simp)
      simp only [natW] at h
      unfold B64 at hx hy h
      have e1 : x = y := by omega
      have e2 : natW r = natW t := by omega
      rw [e1, ih (fun z hz => ha z (by simp [hz])) (fun z hz => hb z (by simp [hz])) (by simpa using hl) e2]
theorem natW_split (l : List Nat) (k : Nat) (h : k ≤ l.length) : natW l = natW (l.take k) + B64 ^ k * natW (l.drop k) := by
  conv => lhs; rw [← List.take_append_drop k l]
  rw [natW_append, List.length_take, Nat.min_eq_left h]

/-- a digit of n times x, added to t, with what is over -/
def digN (x n o t : Nat) : Nat := x * n + o + t
theorem dig_lt (x n o t : Nat) (hx : x < B64) (hn : n < B64) (ho : o < B64) (ht : t < B64) : digN x n o t < B64 * B64 := by
  have h1 : x * n ≤ (B64 - 1) * (B64 - 1) := Nat.mul_le_mul (by omega) (by omega)
  have h2 : (B64 - 1) * (B64 - 1) = 340282366920938463426481119284349108225 := by unfold B64; rfl
  have h3 : B64 * B64 = 340282366920938463463374607431768211456 := by unfold B64; rfl
  unfold digN
  unfold B64 at ho ht
  omega
theorem dig_low (p o t : Nat) : (t + (p % B64 + o) % B64) % B64 = (p + o + t) % B64 := by unfold B64; omega
theorem dig_over (p o t : Nat) (ho : o < B64) (ht : t < B64) : p / B64 + (p % B64 + o) / B64 + (t + (p % B64 + o) % B64) / B64 = (p + o + t) / B64 := by unfold B64 at *; omega
theorem add_stepW (a o b c n d x t : Nat) (h : a + o * b = c + n * d) : a + digN x n o t % B64 * b + digN x n o t / B64 * (b * B64) = c + t * b + n * (d + x * b) := by
  have hq := Nat.div_add_mod (digN x n o t) B64
  generalize digN x n o t % B64 = r at *
  generalize digN x n o t / B64 = q at *
  unfold digN at hq
  grind
end Go.Proofs.YtckkhpegimkefaaGreatDoor
namespace Go.Proofs.YtckkhpegimkefaaGreatDoor
open Go.RowKit Go.Shelf
set_option linter.unusedVariables false

def Tryz.lays264_ren : Go.Shelf.Ren := ⟨fun | 264 => 99 | _ => 0, fun | 46 => 72 | 53 => 82 | _ => 0, fun _ => 0⟩
theorem Tryz.lays264 : Go.Proofs.Lays.n264 Tryz.prog Tryz.lays264_ren := {
  mixed := by kernel_rfl
  f264 := Tryz.func99.trans (congrArg some (by kernel_rfl))
  t46 := Tryz.underlying72
  a46 := Tryz.isAgg72
  z46 := Tryz.sizeOf72
  v46 := Tryz.zeroValue72
  t53 := Tryz.underlying82
  a53 := Tryz.isAgg82
  z53 := Tryz.sizeOf82
  v53 := Tryz.zeroValue82 }
theorem mul64_any (x y : Nat) (hx : x < B64) (hy : y < B64) (w : World) :
    Calls Tryz.prog 99 #[.int .u64 x, .int .u64 y] w fun e w' => e = .returned (.tuple #[.int .u64 ((x * y / B64 : Nat) : Int), .int .u64 ((x * y % B64 : Nat) : Int)]) ∧ w' = w :=
  Any.bits_Mul64 Tryz.lays264 x y hx hy w
theorem add64_run (x y c : Nat) (hc : c ≤ 1) (w : World) :
    (callFunc 100 #[.int .u64 x, .int .u64 y, .int .u64 c]).run Tryz.prog w = .ok (.value (.tuple #[.int .u64 (((x + y + c) % B64 : Nat) : Int), .int .u64 (((x + y + c) / B64 : Nat) : Int)])) w := by
  unfold B64
  rw [run_callFunc_extern Tryz.func100 (by kernel_rfl) (by kernel_rfl) (by kernel_rfl) (e := add64Entry) (by kernel_rfl), run_add64 x y c (by omega) (by omega) (by omega) (by omega)]
  simp only [Result.andThen]
  congr 5 <;> omega

theorem add64_run0 (x y : Nat) (w : World) :
    (callFunc 100 #[.int .u64 x, .int .u64 y, .int .u64 0]).run Tryz.prog w = .ok (.value (.tuple #[.int .u64 (((x + y) % B64 : Nat) : Int), .int .u64 (((x + y) / B64 : Nat) : Int)])) w := add64_run x y 0 (by omega) w

/-- words that lie in a row, to be read -/
def NumAt (w : World) (g off : Nat) (ws : List Nat) : Prop := g < w.heap.size ∧ ∀ i x, ws[i]? = some x → w.cell? ⟨g, off + i, none⟩ = some (.int .u64 (x : Nat))
theorem NumAt.below {w w' : World} {g off : Nat} {ws : List Nat} (h : NumAt w g off ws) (hb : Below w.heap.size w w') : NumAt w' g off ws :=
  ⟨Nat.lt_of_lt_of_le h.1 hb.size, fun i x hi => (hb.cell (p := ⟨g, off + i, none⟩) h.1).trans (h.2 i x hi)⟩
/-- a whole block of words -/
def UCells (row : List Nat) : Array Value := (row.map fun x : Nat => Value.int .u64 (x : Int)).toArray
def URow (w : World) (g : Nat) (row : List Nat) : Prop := w.heap[g]? = some (.cells (UCells row) 82 (0, 0))
theorem URow.cell {w : World} {g : Nat} {row : List Nat} (h : URow w g row) (i x : Nat) (hi : row[i]? = some x) : w.cell? ⟨g, i, none⟩ = some (.int .u64 (x : Nat)) := by
  rw [cell_of_row _ _ i _ _ _ h]
  simp [UCells, hi]
theorem URow.frozen {w : World} {g : Nat} {row : List Nat} (h : URow w g row) (i : Nat) : w.frozen? ⟨g, i, none⟩ = false := frozen_of_row _ _ i _ _ h
theorem URow.lt {w : World} {g : Nat} {row : List Nat} (h : URow w g row) : g < w.heap.size := by
  rcases Nat.lt_or_ge g w.heap.size with h' | h'
  · exact h'
  · unfold URow at h
    rw [Array.getElem?_eq_none h'] at h; cases h
theorem set_rowN {w : World} {g j : Nat} {cs : Array Value} {e : TypeId} {fr : Nat × Nat} {v : Value} (h : w.heap[g]? = some (.cells cs e fr)) : (w.setCell ⟨g, j, none⟩ v).heap[g]? = some (.cells (cs.setIfInBounds j v) e fr) := by
  simp [World.setCell, Array.getElem?_modify, h]
theorem URow.set {w : World} {g : Nat} {row : List Nat} (h : URow w g row) (i x : Nat) : URow (w.setCell ⟨g, i, none⟩ (.int .u64 (x : Nat))) g (row.set i x) := by
  unfold URow
  rw [set_rowN h]
  congr 2
  unfold UCells
  rw [List.setIfInBounds_toArray, List.map_set]
theorem URow.numAt {w : World} {g : Nat} {row : List Nat} (h : URow w g row) (off : Nat) : NumAt w g off (row.drop off) :=
  ⟨h.lt, fun i x hi => h.cell (off + i) x (by rw [← hi, List.getElem?_drop])⟩
theorem URow.below {w w' : World} {g : Nat} {row : List Nat} (h : URow w g row) (hb : Below w.heap.size w w') : URow w' g row := by
  have hg := h.lt
  unfold URow at *
  rw [hb.block g hg, h]
theorem URow.drew {w : World} {g : Nat} {row : List Nat} (h : URow w g row) : URow w.drew g row := h
/-- one block alone has turned -/
structure Only (g : Nat) (w w' : World) : Prop where
  os : w'.os = w.os
  tape : w'.tape = w.tape
  output : w'.output = w.output
  size : w'.heap.size = w.heap.size
  block : ∀ k, k ≠ g → w'.heap[k]? = w.heap[k]?
theorem Only.refl (g : Nat) (w : World) : Only g w w := ⟨rfl, rfl, rfl, rfl, fun _ _ => rfl⟩
theorem Only.setCell {g : Nat} {w w' : World} (h : Only g w w') (j : Nat) (v : Value) : Only g w (w'.setCell ⟨g, j, none⟩ v) :=
  ⟨h.os, h.tape, h.output, by simp [World.setCell, h.size], fun k hk => by rw [← h.block k hk]; simp [World.setCell, Array.getElem?_modify, Ne.symm hk]⟩
theorem Only.drew {g : Nat} {w w' : World} (h : Only g w w') : Only g w w'.drew := ⟨h.os, h.tape, h.output, h.size, h.block⟩
theorem Only.trans {g : Nat} {a b c : World} (h : Only g a b) (k : Only g b c) : Only g a c :=
  ⟨k.os.trans h.os, k.tape.trans h.tape, k.output.trans h.output, k.size.trans h.size, fun n hn => (k.block n hn).trans (h.block n hn)⟩
theorem Only.below {g B : Nat} {a b : World} (h : Only g a b) (hB : B ≤ g) : Below B a b := ⟨h.os, h.tape, h.output, by rw [h.size]; exact Nat.le_refl _, fun k hk => h.block k (by omega)⟩
theorem NumAt.only {w w' : World} {g off q : Nat} {ws : List Nat} (h : NumAt w g off ws) (hb : Only q w w') (hq : g ≠ q) : NumAt w' g off ws :=
  ⟨by rw [hb.size]; exact h.1, fun i x hi => by
    have hc := h.2 i x hi
    unfold World.cell? at *
    rw [hb.block g hq]
    exact hc⟩
end Go.Proofs.YtckkhpegimkefaaGreatDoor
