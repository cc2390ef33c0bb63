/- Small things of no one function. -/
import Derived.Test.YtajkbkljonejnaaGreatDoorProg
import Derived.WalkKit
import Derived.WalkSpells
import Derived.WalkLawsBesides
import Derived.Laws.BytesArg
import Derived.Deep.RegionLaw
import Derived.Lib.Strings
import Derived.Below
import Derived.Laws.AppendOwn
import Derived.Deep.OwnRows
namespace Go.Proofs.YtajkbkljonejnaaGreatDoor
open Go.RowKit
theorem hide {p : Prop} (h : p) : Hid p := h
theorem unhide {p : Prop} (h : Hid p) : p := h
theorem wraps_i64 (n : Int) (h₀ : 0 ≤ n) (h₁ : n < 2 ^ 63) : IntKind.i64.wrap n = n := by rw [IntKind.wrap_i64]; omega
theorem ret_bool {a b : Bool} (h : a = b) : Ending.returned (.bool a) = .returned (.bool b) := by rw [h]
theorem ret_int {k : IntKind} {a b : Int} (h : a = b) : Ending.returned (.int k a) = .returned (.int k b) := by rw [h]
end Go.Proofs.YtajkbkljonejnaaGreatDoor
namespace Go.Proofs.YtajkbkljonejnaaGreatDoor
open Go.RowKit
theorem infoByte : (Tryz.prog.info? 5).map (fun i => (i.zero, i.size, i.bytes)) = some (some (.int .u8 0), 1, 1) := by kernel_rfl
def bigL (n : Nat) : Nat → List Int
  | 0 => []
  | k + 1 => ((n / 256 ^ k % 256 : Nat) : Int) :: bigL n k
theorem bigL_length (n k : Nat) : (bigL n k).length = k := by
  induction k with
  | zero => rfl
  | succ k ih => simp [bigL, ih]
theorem strOfNums_append (xs ys : List Int) : strOfNums xs ++ strOfNums ys = strOfNums (xs ++ ys) := by
  apply ByteArray.ext
  simp [strOfNums]
theorem bigL_bytes (n k : Nat) : ∀ z ∈ bigL n k, 0 ≤ z ∧ z < 256 := by
  induction k with
  | zero => simp [bigL]
  | succ k ih =>
    intro z hz
    simp only [bigL, List.mem_cons] at hz
    rcases hz with h | h
    · omega
    · exact ih z h
theorem wrap_pow (k : Nat) (h : k < 8) : wrap64 (2 ^ (8 * k)) = ((256 ^ k : Nat) : Int) := by
  have hk : k = 0 ∨ k = 1 ∨ k = 2 ∨ k = 3 ∨ k = 4 ∨ k = 5 ∨ k = 6 ∨ k = 7 := by omega
  rcases hk with rfl | rfl | rfl | rfl | rfl | rfl | rfl | rfl <;> (unfold wrap64; decide)
theorem take_snoc (s : ByteArray) (k : Nat) (h : k < s.size) : s.data.toList.take (k + 1) = s.data.toList.take k ++ [s[k]] := by
  rw [List.take_succ_eq_append_getElem (by simpa using h)]; rfl
def byteAt (s : ByteArray) (i : Nat) : Nat := (s.data.toList.getD i 0).toNat
theorem get_byte (s : ByteArray) (i : Nat) (h : i < s.size) : ((s[i]'h).toNat : Int) = (byteAt s i : Int) := by
  unfold byteAt
  have e : s.data.toList.getD i 0 = s[i]'h := by
    rw [List.getD_eq_getElem?_getD, List.getElem?_eq_getElem (by simpa using h)]; rfl
  rw [e]
def lowByte (n : Int) : Int := n % 256
theorem lowByte_mod (m : Int) : lowByte (m % 256) = m % 256 := by unfold lowByte; omega
theorem owned_cells {w : World} {base n : Nat} {v : Value} {xs : List Int} (h : w.ownsRow base 5 1 v n (xs.map (Value.int .u8))) :
    (v = .slice none 0 0 ∧ xs = []) ∨ ∃ g cap, v = .slice (some ⟨g, 0, none⟩) n cap ∧ xs.length = n ∧ ∀ i, i < n → w.cell? ⟨g, 0 + i, none⟩ = some (.int .u8 (xs.getD i 0)) := by
  have h' := h
  obtain ⟨h1, h2⟩ := h
  have hl : xs.length = n := by simpa using h1
  rcases h2 with ⟨rfl, rfl⟩ | ⟨g, cap, cur, rfl, hg, hh, r⟩
  · exact .inl ⟨rfl, List.length_eq_zero_iff.1 hl⟩
  · refine .inr ⟨g, cap, rfl, hl, fun i hi => ?_⟩
    have := h'.cells (g := g) rfl i (.int .u8 (xs.getD i 0)) (by simp [List.getElem?_eq_getElem (show i < xs.length by omega)])
    rw [show (⟨g, 0, none⟩ : Addr).add i = ⟨g, 0 + i, none⟩ from by unfold Addr.add; split <;> simp_all] at this
    exact this
set_option maxHeartbeats 1000000 in
theorem bytes_any (zs : List Int) (b off len cap : Nat) (w : World) (hlen : zs.length = len) (hl : len ≤ 1000) (hbB : b < w.heap.size)
    (hc : ∀ i, i < len → w.cell? ⟨b, off + i, none⟩ = some (.int .i64 (zs.getD i 0))) :
    Calls Tryz.prog 54 #[.slice (some ⟨b, off, none⟩) len cap] w fun e w' => e = .returned (.string (strOfNums (zs.map lowByte))) ∧ Below w.heap.size w w' := by
  obtain ⟨i0, hi, hz0, hz1, hz2⟩ := info_parts infoByte
  go_enter Tryz.func54, Tryz.ntmps54
  go_wp2
  go_loopw [3, 4] (fun v i wr => ∃ k : Nat, k ≤ len ∧ i = .int .i64 k ∧ wr.ownsRow w.heap.size 5 1 v k (((zs.take k).map lowByte).map (Value.int .u8)) ∧ Below w.heap.size w wr)
    (fun _ i _ => len - (intOf i).toNat)
  case atStart => exact ⟨0, Nat.zero_le _, rfl, World.ownsRow_nil _ _ _ _, Below.refl _ _⟩
  case round =>
    obtain ⟨k, hk, rfl, hown, hnx⟩ := hrel
    have hcx : k < len → wr.cell? ⟨b, off + k, none⟩ = some (.int .i64 (zs.getD k 0)) := fun h => (hnx.cell (by exact hbB)).trans (hc k h)
    by_cases hlt : k < len
    · obtain ⟨x, hx⟩ : ∃ x, x = zs.getD k 0 := ⟨_, rfl⟩
      have hcy := hcx hlt
      rw [← hx] at hcy
      have HX : Hid (x = zs.getD k 0) := hx
      clear hx hcx hc
      go_wp2_with (at_builtin; refine wpList_append_own _ rfl _ _ 55 rfl w.heap.size 5 i0 (.int .u8 0) 1 1 Tryz.underlying55 hi hz0 hz1 hz2 rfl (by decide) _ _ _ rfl (hown.alloc _) ⟨wr.heap.size, 0, none⟩ 1 1 [.int .u8 (x % 256)] rfl rfl (cell_one_new _ _ _) ?c2 ?c3 ?c4 ?c5 ?_)
      case c2 => intro u hu; simp at hu; subst hu; rfl
      case c3 => unfold maxLen; omega
      case c4 => omega
      case c5 => have := hnx.size; simp; omega
      intro v' w1 hown' hgrow _
      have hb1 : Below w.heap.size w w1 := (hnx.alloc hnx.size _).grown hgrow (by have := hnx.size; simp; omega) (fun q hq => ((hown.lt q hq).1))
      have hown2 : w1.ownsRow w.heap.size 5 1 v' (k + 1) (((zs.take (k + 1)).map lowByte).map (Value.int .u8)) := by
        rw [List.take_succ_eq_append_getElem (by omega)]
        have e : x = zs[k] := by rw [HX.out]; simp [List.getElem?_eq_getElem (show k < zs.length by omega)]
        rw [e] at hown'
        rw [List.map_append, List.map_append]
        simpa [lowByte] using hown'
      clear hown' hgrow hown hnx
      go_wp2
      go_roundw
      case rel => exact ⟨k + 1, by omega, by go_num, hown2, hb1⟩
      case measure => simp [intOf]; omega
    · have hkl : k = len := by omega
      subst hkl
      clear hcx hc
      rcases owned_cells hown with ⟨hv, hn⟩ | ⟨g, cap', hv, _, hcl⟩
      · have hcv := run_convert_bytes_nil (P := Tryz.prog) wr 55 5 Tryz.underlying55 Tryz.underlying5 0 0 9 Tryz.underlying9
        subst hv
        clear hown
        have hz : zs = [] := by simpa [List.take_of_length_le (Nat.le_of_eq hlen)] using hn
        subst hz
        go_wp2
        go_ret
        exact ⟨rfl, hnx⟩
      · have hcv := run_convert_bytes_arg (P := Tryz.prog) wr 55 5 Tryz.underlying55 Tryz.underlying5 g 0 k cap' _ (by simp; omega) hcl 9 Tryz.underlying9
        rw [List.take_of_length_le (Nat.le_of_eq hlen)] at hcv
        subst hv
        clear hown hcl
        go_wp2
        go_ret
        exact ⟨rfl, hnx⟩
theorem bytes_one (x : Int) (b off cap : Nat) (w : World) (hbB : b < w.heap.size) (hc : w.cell? ⟨b, off, none⟩ = some (.int .i64 x)) :
    Calls Tryz.prog 54 #[.slice (some ⟨b, off, none⟩) 1 cap] w fun e w' => e = .returned (.string (strOfNums [lowByte x])) ∧ Below w.heap.size w w' :=
  bytes_any [x] b off 1 cap w rfl (by omega) hbB (fun i hi => by
    have h0 : i = 0 := by omega
    subst h0
    exact hc)
set_option maxHeartbeats 1000000 in
theorem big_any (n : Nat) (k : Nat) (w : World) (hk : k ≤ 8) (hn : n ≤ 9223372036854775807) :
    Calls Tryz.prog 89 #[.int .i64 n, .int .i64 k] w fun e w' => e = .returned (.string (strOfNums (bigL n k))) ∧ Below w.heap.size w w' := by
  go_enter Tryz.func89, Tryz.ntmps89
  go_wp2
  go_loopw [0, 5, 6] (fun m s i wr => ∃ j : Nat, j ≤ k ∧ i = .int .i64 j ∧ m = .int .i64 (n / 256 ^ j : Nat) ∧ s = .string (strOfNums (bigL n j)) ∧ Below w.heap.size w wr)
    (fun _ _ i _ => k - (intOf i).toNat)
  case atStart => exact ⟨0, Nat.zero_le _, rfl, by simp, rfl, Below.refl _ _⟩
  case round =>
    obtain ⟨j, hj, rfl, rfl, rfl, hnx⟩ := hrel
    obtain ⟨m, hm⟩ : ∃ m, m = n / 256 ^ j := ⟨_, rfl⟩
    have hmle : m ≤ 9223372036854775807 := by rw [hm]; exact Nat.le_trans (Nat.div_le_self _ _) hn
    rw [← hm]
    have HM : Hid (m = n / 256 ^ j) := hm
    clear hm
    by_cases hlt : j < k
    · have hsz1 : (strOfNums [(m : Int) % 256]).size ≤ 1 := by simp [strOfNums_size]
      have hsz2 : (strOfNums (bigL n j)).size ≤ 8 := by rw [strOfNums_size, bigL_length]; omega
      go_wp2_with fail
      refine (bytes_one ((m : Int) % 256) _ _ _ _ (by simp) (by simp)).mono ?_
      rintro e w1 ⟨rfl, hb1⟩
      rw [lowByte_mod]
      have hb2 : Below w.heap.size w w1 := (hnx.alloc hnx.size _).trans (hb1.mono (by have := hnx.size; simp; omega))
      clear hnx hb1
      go_wp2
      go_roundw
      case rel =>
        refine ⟨j + 1, by omega, by go_num, ?_, ?_, hb2⟩
        · rw [HM.out, Nat.pow_succ, ← Nat.div_div_eq_div_mul]; rfl
        · rw [strOfNums_append]; simp only [bigL, List.singleton_append, ← HM.out]; rfl
      case measure => simp [intOf]; omega
    · have hkl : j = k := by omega
      subst hkl
      go_wp2
      go_ret
      exact ⟨rfl, hnx⟩
end Go.Proofs.YtajkbkljonejnaaGreatDoor
namespace Go.Proofs.YtajkbkljonejnaaGreatDoor
open Go.RowKit
def valN (l : List UInt8) : Nat := l.foldl (fun n b => n * 256 + b.toNat) 0
theorem valN_snoc (l : List UInt8) (b : UInt8) : valN (l ++ [b]) = valN l * 256 + b.toNat := by simp [valN, List.foldl_append]
theorem foldl_ge (l : List UInt8) : ∀ a : Nat, a ≤ l.foldl (fun n b => n * 256 + b.toNat) a := by
  induction l with
  | nil => intro a; simp
  | cons b l ih => intro a; rw [List.foldl_cons]; exact Nat.le_trans (by omega) (ih _)
theorem valN_take_le (l : List UInt8) (k : Nat) : valN (l.take k) ≤ valN l := by
  rw (occs := .pos [2]) [← List.take_append_drop k l]
  unfold valN
  rw [List.foldl_append]
  exact foldl_ge _ _
theorem valN_lt (l : List UInt8) : valN l < 256 ^ l.length := by
  have h : ∀ (l : List UInt8) (a : Nat), l.foldl (fun n b => n * 256 + b.toNat) a < (a + 1) * 256 ^ l.length := by
    intro l
    induction l with
    | nil => intro a; simp
    | cons b l ih =>
      intro a
      rw [List.foldl_cons, List.length_cons, Nat.pow_succ]
      refine Nat.lt_of_lt_of_le (ih _) ?_
      have hb : b.toNat < 256 := b.toNat_lt
      calc (a * 256 + b.toNat + 1) * 256 ^ l.length ≤ ((a + 1) * 256) * 256 ^ l.length := Nat.mul_le_mul_right _ (by omega)
        _ = (a + 1) * (256 ^ l.length * 256) := by rw [Nat.mul_assoc, Nat.mul_comm 256]
  simpa [valN] using h l 0
set_option maxHeartbeats 1000000 in
theorem value_any (s : ByteArray) (w : World) (hs : s.size ≤ 8) (hv : valN s.data.toList ≤ 9223372036854775807) :
    Calls Tryz.prog 35 #[.string s] w fun e w' => e = .returned (.int .i64 (valN s.data.toList)) ∧ w' = w := by
  go_enter Tryz.func35, Tryz.ntmps35
  go_wp2
  go_loop [3, 4] (fun n i => ∃ k : Nat, k ≤ s.size ∧ i = .int .i64 k ∧ n = .int .i64 (valN (s.data.toList.take k))) (fun _ i => s.size - (intOf i).toNat)
  case atStart => exact ⟨0, Nat.zero_le _, rfl, rfl⟩
  case round =>
    obtain ⟨k, hk, rfl, rfl⟩ := hrel
    by_cases hlt : k < s.size
    · have hsn := valN_snoc (s.data.toList.take k) s[k]
      rw [← take_snoc s k hlt] at hsn
      have hle := valN_take_le s.data.toList (k + 1)
      obtain ⟨m, hm⟩ : ∃ m, m = valN (s.data.toList.take k) := ⟨_, rfl⟩
      rw [← hm] at hsn ⊢
      have hmb : (m : Int) * 256 + (s[k].toNat : Int) ≤ 9223372036854775807 := by omega
      have HS : Hid (valN (s.data.toList.take (k + 1)) = m * 256 + s[k].toNat) := hsn
      clear hsn hle hm hv
      go_wp2
      go_round
      case rel => exact ⟨k + 1, by omega, by go_num, by rw [HS.out]; go_num⟩
      case measure => simp [intOf]; omega
    · go_wp2
      go_ret
      exact ⟨ret_int (by rw [List.take_of_length_le (by simp; omega)]), rfl⟩
end Go.Proofs.YtajkbkljonejnaaGreatDoor
namespace Go.Proofs.YtajkbkljonejnaaGreatDoor
open Go.RowKit
set_option linter.unusedVariables false
def rowAt (n k j : Nat) : List Int := List.replicate (k - j) 0 ++ bigL n j
theorem rowAt_length (n k j : Nat) (h : j ≤ k) : (rowAt n k j).length = k := by simp [rowAt, bigL_length]; omega
theorem rowAt_set (n k j : Nat) (h : j < k) : (rowAt n k j).set (k - 1 - j) ((n / 256 ^ j % 256 : Nat) : Int) = rowAt n k (j + 1) := by
  unfold rowAt
  rw [show k - j = (k - (j + 1)) + 1 by omega, List.replicate_succ', List.append_assoc, show k - 1 - j = (List.replicate (k - (j + 1)) (0 : Int)).length + 0 by simp; omega, List.set_append_right _ _ (by omega)]
  simp [bigL]
theorem made_row (k : Nat) (n : Nat) : (madeCells #[Value.int .u8 0] k).toList = (rowAt n k 0).map (Value.int .u8) := by
  have e : rowAt n k 0 = List.replicate k 0 := by simp [rowAt, bigL]
  rw [e, List.map_replicate]
  apply List.ext_getElem
  · simp [madeCells]
  · intro i h1 h2
    simp [madeCells, Nat.mod_one]
theorem pow_256 (n j : Nat) : ((n : Int) / 2 ^ (8 * j)) = ((n / 256 ^ j : Nat) : Int) := by
  rw [Int.pow_mul]
  simp
set_option maxHeartbeats 1000000 in
theorem number_any (n k : Nat) (w : World) (h1 : 1 ≤ k) (h8 : k ≤ 8) (hn2 : n ≤ 9223372036854775807) (hf : n < 256 ^ k) :
    Calls Tryz.prog 108 #[.int .i64 n, .int .i64 k] w fun e w' => e = .returned (.tuple #[.string (strOfNums (bigL n k)), .int .i64 0]) ∧ Below w.heap.size w w' := by
  obtain ⟨i0, hi, hz0, hz1, hz2⟩ := info_parts infoByte
  have ht : ((n : Int) / 2 ^ (8 * k) != 0) = false := by rw [pow_256, Nat.div_eq_of_lt hf]; rfl
  have hk1 : decide ((k : Int) < 1) = false := by simp; omega
  have hk8 : decide ((8 : Int) < (k : Int)) = false := by simp; omega
  have hn0 : decide ((n : Int) < 0) = false := by simp
  clear hf
  go_enter Tryz.func108, Tryz.ntmps108
  go_wp2_with (at_make; refine wpList_make_full _ rfl _ _ 55 rfl w.heap.size 5 i0 (.int .u8 0) 1 Tryz.underlying55 hi hz0 hz1 .i64 .i64 _ _ k rfl rfl rfl rfl (by rw [hz2]; omega) (by unfold maxLen; omega) (Nat.le_refl _) ?_)
  intro w1 hown hgrow
  rw [made_row k n] at hown
  have hb : Below w.heap.size w w1 := (Below.refl _ _).grown hgrow (Nat.le_refl _) (fun q hq => by cases hq)
  clear hgrow hi hz0 hz1 hz2 hk1 hk8 hn0 ht
  go_wp2
  go_loopw [28] (fun i wr => ∃ j : Nat, j ≤ k ∧ i = .int .i64 j ∧ wr.ownsRow w.heap.size 5 1 (.slice (some ⟨w.heap.size, 0, none⟩) k k) k ((rowAt n k j).map (Value.int .u8)) ∧ Below w.heap.size w wr)
    (fun i _ => k - (intOf i).toNat)
  case atStart => exact ⟨0, Nat.zero_le _, rfl, hown, hb⟩
  case round =>
    obtain ⟨j, hj, rfl, hown, hnx⟩ := hrel
    by_cases hlt : j < k
    · have hfz := hown.frozenAt (k - 1 - j)
      have hca : wr.cell? ⟨w.heap.size, k - 1 - j, none⟩ = some (.int .u8 ((rowAt n k j).getD (k - 1 - j) 0)) := by
        rw [hown.cellAt (k - 1 - j) (by omega)]
        simp [List.getElem?_eq_getElem (show k - 1 - j < (rowAt n k j).length by rw [rowAt_length _ _ _ hj]; omega)]
      go_wp2
      go_roundw
      case rel =>
        refine ⟨j + 1, by omega, by go_num, ?_, hnx.setCell (Nat.le_refl _) _⟩
        have hs := (hown.stored (k - 1 - j) (.int .u8 ((n : Int) / 2 ^ (8 * j) % 256))).1
        rw [← rowAt_set n k j hlt, List.map_set]
        have e : ((n : Int) / 2 ^ (8 * j) % 256) = ((n / 256 ^ j % 256 : Nat) : Int) := by rw [pow_256]; rfl
        rw [e] at hs ⊢
        exact hs
      case measure => simp [intOf]; omega
    · have hkl : j = k := by omega
      subst hkl
      rcases owned_cells hown with ⟨hv, hn⟩ | ⟨g, cap', hv, _, hcl⟩
      · simp at hv
      · simp only [Value.slice.injEq, Option.some.injEq, Addr.mk.injEq, and_true, true_and] at hv
        obtain ⟨hg, hcap⟩ := hv
        subst hg hcap
        have hcv := run_convert_bytes_arg (P := Tryz.prog) wr 55 5 Tryz.underlying55 Tryz.underlying5 w.heap.size 0 j j _ (by rw [rowAt_length _ _ _ hj]) hcl 9 Tryz.underlying9
        rw [show rowAt n j j = bigL n j by simp [rowAt]] at hcv
        clear hown hcl
        go_wp2
        go_ret2
        exact ⟨rfl, hnx⟩
theorem number_no1 (n k : Int) (w : World) (h : k < 1 ∨ 8 < k) :
    Calls Tryz.prog 108 #[.int .i64 n, .int .i64 k] w fun e w' => e = .returned (.tuple #[.string ⟨#[]⟩, .int .i64 3]) ∧ w' = w := by
  rcases h with h | h
  · have hk1 : decide (k < 1) = true := by simp; omega
    go_enter Tryz.func108, Tryz.ntmps108
    go_wp2
    go_ret2
    exact ⟨rfl, rfl⟩
  · have hk1 : decide (k < 1) = false := by simp; omega
    have hk8 : decide (8 < k) = true := by simp; omega
    go_enter Tryz.func108, Tryz.ntmps108
    go_wp2
    go_ret2
    exact ⟨rfl, rfl⟩
theorem number_no2 (n k : Int) (w : World) (h1 : 1 ≤ k) (h8 : k ≤ 8) (h : n < 0) :
    Calls Tryz.prog 108 #[.int .i64 n, .int .i64 k] w fun e w' => e = .returned (.tuple #[.string ⟨#[]⟩, .int .i64 3]) ∧ w' = w := by
  have hk1 : decide (k < 1) = false := by simp; omega
  have hk8 : decide (8 < k) = false := by simp; omega
  have hn0 : decide (n < 0) = true := by simp; omega
  go_enter Tryz.func108, Tryz.ntmps108
  go_wp2
  go_ret2
  exact ⟨rfl, rfl⟩
theorem number_no3 (n k : Nat) (w : World) (h1 : 1 ≤ k) (h8 : k ≤ 8) (hn2 : n ≤ 9223372036854775807) (hf : 256 ^ k ≤ n) :
    Calls Tryz.prog 108 #[.int .i64 n, .int .i64 k] w fun e w' => e = .returned (.tuple #[.string ⟨#[]⟩, .int .i64 3]) ∧ w' = w := by
  have hp := Nat.div_pos hf (Nat.pow_pos (by omega))
  have ht : ((n : Int) / 2 ^ (8 * k) != 0) = true := by rw [pow_256, bne_iff_ne]; omega
  have hk1 : decide ((k : Int) < 1) = false := by simp; omega
  have hk8 : decide ((8 : Int) < (k : Int)) = false := by simp; omega
  have hn0 : decide ((n : Int) < 0) = false := by simp
  clear hf
  go_enter Tryz.func108, Tryz.ntmps108
  go_wp2
  go_ret2
  exact ⟨rfl, rfl⟩
theorem wraps_u64 (n : Int) (h₀ : 0 ≤ n) (h₁ : n < 2 ^ 64) : IntKind.u64.wrap n = n := by
  simp [IntKind.wrap, IntKind.bits, IntKind.signed]
  omega
theorem or_u64 (m b : Nat) (hb : b < 256) (h : (m : Int) * 256 + b ≤ 18446744073709551615) : bits .or .u64 ((m : Int) * 256) b = ((m * 256 + b : Nat) : Int) := by
  rw [bits_join .u64 64 (by decide) wraps_u64 8 _ _ (by omega) (by omega) (by omega) (by omega) (by omega) (by omega)]
  omega
theorem valN_lt8 (l : List UInt8) (h : l.length ≤ 8) : valN l ≤ 18446744073709551615 := by
  have h1 := valN_lt l
  have h2 : 256 ^ l.length ≤ 256 ^ 8 := Nat.pow_le_pow_right (by omega) h
  omega
def readOf (m : Nat) : Value := if 9223372036854775807 < m then .tuple #[.int .i64 0, .int .i64 3] else .tuple #[.int .i64 m, .int .i64 0]
theorem readOf_big {m : Nat} (h : 9223372036854775807 < m) : readOf m = .tuple #[.int .i64 0, .int .i64 3] := by rw [readOf, if_pos h]
theorem readOf_small {m : Nat} (h : ¬ 9223372036854775807 < m) : readOf m = .tuple #[.int .i64 m, .int .i64 0] := by rw [readOf, if_neg h]
set_option maxHeartbeats 1000000 in
theorem readN_any (s : ByteArray) (w : World) (hs : s.size ≤ 8) :
    Calls Tryz.prog 30 #[.string s] w fun e w' => e = .returned (readOf (valN s.data.toList)) ∧ w' = w := by
  have hv := valN_lt8 s.data.toList hs
  go_enter Tryz.func30, Tryz.ntmps30
  go_wp2
  go_loop [4, 11] (fun n i => ∃ k : Nat, k ≤ s.size ∧ i = .int .i64 k ∧ n = .int .u64 (valN (s.data.toList.take k))) (fun _ i => s.size - (intOf i).toNat)
  case atStart => exact ⟨0, Nat.zero_le _, rfl, rfl⟩
  case round =>
    obtain ⟨k, hk, rfl, rfl⟩ := hrel
    by_cases hlt : k < s.size
    · have hsn := valN_snoc (s.data.toList.take k) s[k]
      rw [← take_snoc s k hlt] at hsn
      have hle := valN_take_le s.data.toList (k + 1)
      obtain ⟨m, hm⟩ : ∃ m, m = valN (s.data.toList.take k) := ⟨_, rfl⟩
      rw [← hm] at hsn ⊢
      have hmb : (m : Int) * 256 + (s[k].toNat : Int) ≤ 18446744073709551615 := by omega
      have HS : Hid (valN (s.data.toList.take (k + 1)) = m * 256 + s[k].toNat) := hsn
      clear hsn hle hm hv
      go_wp2
      go_round
      case rel => exact ⟨k + 1, by omega, by go_num, by rw [HS.out, or_u64 m _ (s[k].toNat_lt) hmb]⟩
      case measure => simp [intOf]; omega
    · obtain ⟨m, hm⟩ : ∃ m, m = valN s.data.toList := ⟨_, rfl⟩
      rw [List.take_of_length_le (by simp; omega), ← hm]
      rw [← hm] at hv
      have HM : Hid (m = valN s.data.toList) := hm
      clear hm
      by_cases hc : 9223372036854775807 < m
      · go_wp2
        go_ret2
        exact ⟨by rw [← HM.out, readOf_big hc]; rfl, rfl⟩
      · go_wp2
        go_ret2
        exact ⟨by rw [← HM.out, readOf_small hc]; rfl, rfl⟩
theorem read_long (s : ByteArray) (w : World) (hs : 8 < s.size) (hm : s.size ≤ maxLen) :
    Calls Tryz.prog 30 #[.string s] w fun e w' => e = .returned (.tuple #[.int .i64 0, .int .i64 2]) ∧ w' = w := by
  unfold maxLen at hm
  go_enter Tryz.func30, Tryz.ntmps30
  go_wp2
  go_ret2
  exact ⟨rfl, rfl⟩
theorem valN_cons (b : UInt8) (l : List UInt8) : valN (b :: l) = b.toNat * 256 ^ l.length + valN l := by
  have h : ∀ (l : List UInt8) (a : Nat), l.foldl (fun n b => n * 256 + b.toNat) a = a * 256 ^ l.length + l.foldl (fun n b => n * 256 + b.toNat) 0 := by
    intro l
    induction l with
    | nil => intro a; simp
    | cons b l ih =>
      intro a
      rw [List.foldl_cons, List.foldl_cons, List.length_cons, ih (a * 256 + b.toNat), ih (0 * 256 + b.toNat), Nat.pow_succ, Nat.add_mul]
      rw [show a * 256 * 256 ^ l.length = a * (256 ^ l.length * 256) by rw [Nat.mul_assoc, Nat.mul_comm 256], Nat.zero_mul, Nat.zero_add, Nat.add_assoc]
  show (b :: l).foldl _ 0 = _
  rw [List.foldl_cons, h]
  simp [valN]
end Go.Proofs.YtajkbkljonejnaaGreatDoor
namespace Go.Proofs.YtajkbkljonejnaaGreatDoor
open Go.RowKit
set_option linter.unusedVariables false
abbrev numOk (n k : Int) : Prop := 1 ≤ k ∧ k ≤ 8 ∧ 0 ≤ n ∧ n < 256 ^ k.toNat
def numS (n k : Int) : ByteArray := if numOk n k then strOfNums (bigL n.toNat k.toNat) else ⟨#[]⟩
def numE (n k : Int) : Int := if numOk n k then 0 else 3
theorem numS_yes {n k : Int} (h : numOk n k) : numS n k = strOfNums (bigL n.toNat k.toNat) := by rw [numS, if_pos h]
theorem numS_no {n k : Int} (h : ¬ numOk n k) : numS n k = ⟨#[]⟩ := by rw [numS, if_neg h]
theorem numE_yes {n k : Int} (h : numOk n k) : numE n k = 0 := by rw [numE, if_pos h]
theorem numE_no {n k : Int} (h : ¬ numOk n k) : numE n k = 3 := by rw [numE, if_neg h]
theorem num_cases (n k : Int) : (k < 1 ∨ 8 < k) ∨ (1 ≤ k ∧ k ≤ 8 ∧ n < 0) ∨ ∃ n' k' : Nat, n = n' ∧ k = k' ∧ 1 ≤ k' ∧ k' ≤ 8 := by
  by_cases h1 : k < 1 ∨ 8 < k
  · exact .inl h1
  · by_cases h2 : n < 0
    · exact .inr (.inl ⟨by omega, by omega, h2⟩)
    · exact .inr (.inr ⟨n.toNat, k.toNat, by omega, by omega, by omega, by omega⟩)
theorem numOk_nat (n k : Nat) (h1 : 1 ≤ k) (h8 : k ≤ 8) : numOk n k ↔ n < 256 ^ k := by
  have e : ((n : Int) < 256 ^ ((k : Int)).toNat) ↔ n < 256 ^ k := by
    rw [Int.toNat_natCast, show ((256 : Int) ^ k) = ((256 ^ k : Nat) : Int) by simp]
    omega
  constructor
  · intro h
    exact e.1 h.2.2.2
  · intro h
    exact ⟨by omega, by omega, by omega, e.2 h⟩
theorem number_all (n k : Int) (w : World) (hn : n ≤ 9223372036854775807) :
    Calls Tryz.prog 108 #[.int .i64 n, .int .i64 k] w fun e w' => e = .returned (.tuple #[.string (numS n k), .int .i64 (numE n k)]) ∧ Below w.heap.size w w' := by
  rcases num_cases n k with h | ⟨h1, h8, h⟩ | ⟨n', k', rfl, rfl, h1, h8⟩
  · rw [numS_no (by rintro ⟨_, _, _, _⟩; omega), numE_no (by rintro ⟨_, _, _, _⟩; omega)]
    exact (number_no1 n k w h).mono fun e w' ⟨he, hw⟩ => ⟨he, by rw [hw]; exact Below.refl _ _⟩
  · rw [numS_no (by rintro ⟨_, _, _, _⟩; omega), numE_no (by rintro ⟨_, _, _, _⟩; omega)]
    exact (number_no2 n k w h1 h8 h).mono fun e w' ⟨he, hw⟩ => ⟨he, by rw [hw]; exact Below.refl _ _⟩
  · by_cases hf : n' < 256 ^ k'
    · rw [numS_yes ((numOk_nat n' k' h1 h8).2 hf), numE_yes ((numOk_nat n' k' h1 h8).2 hf)]
      exact number_any n' k' w h1 h8 (by omega) hf
    · rw [numS_no (fun h => hf ((numOk_nat n' k' h1 h8).1 h)), numE_no (fun h => hf ((numOk_nat n' k' h1 h8).1 h))]
      exact (number_no3 n' k' w h1 h8 (by omega) (by omega)).mono fun e w' ⟨he, hw⟩ => ⟨he, by rw [hw]; exact Below.refl _ _⟩
def readV (s : ByteArray) : Int := if 8 < s.size then 0 else if 9223372036854775807 < valN s.data.toList then 0 else valN s.data.toList
def readE (s : ByteArray) : Int := if 8 < s.size then 2 else if 9223372036854775807 < valN s.data.toList then 3 else 0
theorem readOf_pair (s : ByteArray) (h : s.size ≤ 8) : readOf (valN s.data.toList) = .tuple #[.int .i64 (readV s), .int .i64 (readE s)] := by
  have h8 : ¬ 8 < s.size := by omega
  unfold readV readE
  rw [if_neg h8, if_neg h8]
  by_cases hc : 9223372036854775807 < valN s.data.toList
  · rw [readOf_big hc, if_pos hc, if_pos hc]
  · rw [readOf_small hc, if_neg hc, if_neg hc]
theorem read_all (s : ByteArray) (w : World) (hm : s.size ≤ maxLen) :
    Calls Tryz.prog 30 #[.string s] w fun e w' => e = .returned (.tuple #[.int .i64 (readV s), .int .i64 (readE s)]) ∧ w' = w := by
  by_cases h : 8 < s.size
  · unfold readV readE
    rw [if_pos h, if_pos h]
    exact read_long s w h hm
  · rw [← readOf_pair s (by omega)]
    exact readN_any s w (by omega)
theorem valN_big (n k : Nat) : valN ((bigL n k).map fun z => UInt8.ofNat z.toNat) = n % 256 ^ k := by
  induction k with
  | zero => simp [bigL, valN, Nat.mod_one]
  | succ k ih =>
    simp only [bigL, List.map_cons]
    rw [valN_cons, ih, List.length_map, bigL_length]
    have e : (UInt8.ofNat (((n / 256 ^ k % 256 : Nat) : Int)).toNat).toNat = n / 256 ^ k % 256 := by
      rw [Int.toNat_natCast, UInt8.toNat_ofNat']
      omega
    rw [e, Nat.pow_succ, Nat.mod_mul, Nat.mul_comm, Nat.add_comm]
theorem read_num (n k : Int) (hn : n ≤ 9223372036854775807) (h : numOk n k) : readV (numS n k) = n ∧ readE (numS n k) = 0 := by
  rw [numS_yes h]
  obtain ⟨h1, h8, h0, hf⟩ := h
  obtain ⟨n', rfl⟩ := Int.eq_ofNat_of_zero_le h0
  obtain ⟨k', rfl⟩ := Int.eq_ofNat_of_zero_le (show 0 ≤ k by omega)
  have hf' : n' < 256 ^ k' := ((numOk_nat n' k' (by omega) (by omega)).1 ⟨h1, h8, h0, hf⟩)
  have hs : (strOfNums (bigL n' k')).size = k' := by rw [strOfNums_size, bigL_length]
  have hv : valN (strOfNums (bigL n' k')).data.toList = n' := by rw [strOfNums_data, valN_big, Nat.mod_eq_of_lt hf']
  simp only [Int.toNat_natCast]
  have c1 : ¬ 8 < (strOfNums (bigL n' k')).size := by omega
  have c2 : ¬ 9223372036854775807 < valN (strOfNums (bigL n' k')).data.toList := by omega
  unfold readV readE
  rw [if_neg c1, if_neg c1, if_neg c2, if_neg c2, hv]
  exact ⟨rfl, rfl⟩
theorem numS_size (n k : Int) : (numS n k).size ≤ 8 := by
  by_cases h : numOk n k
  · rw [numS_yes h, strOfNums_size, bigL_length]
    have := h.2.1
    omega
  · rw [numS_no h]
    show (0 : Nat) ≤ 8
    omega
end Go.Proofs.YtajkbkljonejnaaGreatDoor
namespace Go.Proofs.YtajkbkljonejnaaGreatDoor
set_option linter.unusedVariables false
set_option linter.unusedSimpArgs false
set_option maxRecDepth 100000
structure Ks where
  count : Int
  last : Int
  spent : Int
  run : Int
  left : Int
  orders : Int
  blocked : Bool
  owing : Bool
  purse : Int
  one : Int
  runs : Int
  version : Int
  key : ByteArray
  pin : ByteArray
def digK (s : ByteArray) : Prop := 4 ≤ s.size ∧ s.size ≤ 12 ∧ ∀ c, c ∈ s.data.toList → 48 ≤ c.toNat ∧ c.toNat ≤ 57
structure OkK (k : Ks) : Prop where
  count : 0 ≤ k.count ∧ k.count ≤ 65535
  last : 0 ≤ k.last ∧ k.last ≤ 65535
  spent : 0 ≤ k.spent ∧ k.spent ≤ 999999999999
  run : 0 ≤ k.run ∧ k.run ≤ 255
  left : 0 ≤ k.left ∧ k.left ≤ 15
  orders : 0 ≤ k.orders ∧ k.orders ≤ 65535
  purse : 0 ≤ k.purse ∧ k.purse ≤ 999999999999
  one : 0 ≤ k.one ∧ k.one ≤ 999999999999
  runs : 0 ≤ k.runs ∧ k.runs ≤ 255
  version : 0 ≤ k.version ∧ k.version ≤ 255
  key : k.key.size = 16
  pin : digK k.pin
def flK (b : Bool) : Int := if b then 1 else 0
theorem extract_leftK (s t : ByteArray) (a b : Nat) (h : b ≤ s.size) : (s ++ t).extract a b = s.extract a b := by
  apply ByteArray.ext
  apply Array.toList_inj.1
  have h1 : s.data.toList.length = s.size := by simp
  simp only [ByteArray.data_extract, ByteArray.data_append, Array.toList_extract, Array.toList_append, List.extract_eq_take_drop]
  rw [List.drop_append, List.take_append, List.length_drop, h1]
  by_cases hab : a ≤ b
  · rw [show b - a - (s.size - a) = 0 by omega, List.take_zero, List.append_nil]
  · rw [show b - a = 0 by omega]; simp
theorem extract_midK (s t : ByteArray) (a b : Nat) (ha : s.size ≤ a) : (s ++ t).extract a b = t.extract (a - s.size) (b - s.size) := by
  apply ByteArray.ext
  apply Array.toList_inj.1
  have h1 : s.data.toList.length = s.size := by simp
  simp only [ByteArray.data_extract, ByteArray.data_append, Array.toList_extract, Array.toList_append, List.extract_eq_take_drop]
  rw [List.drop_append, h1, List.drop_of_length_le (by omega), List.nil_append]
  congr 1
  omega
theorem extract_allK (s : ByteArray) (n : Nat) (h : s.size = n) : s.extract 0 n = s := by
  subst h
  apply ByteArray.ext
  simp
theorem numS_sizeK {n : Int} {k : Nat} (h1 : 1 ≤ k) (h8 : k ≤ 8) (h : 0 ≤ n) (h2 : n.toNat < 256 ^ k) (h3 : n ≤ 9223372036854775807) : (numS n (k : Int)).size = k ∧ readV (numS n (k : Int)) = n := by
  obtain ⟨m, rfl⟩ := Int.eq_ofNat_of_zero_le h
  have hk := (numOk_nat m k h1 h8).2 h2
  refine ⟨?_, (read_num m k h3 hk).1⟩
  rw [numS_yes hk, strOfNums_size, bigL_length, Int.toNat_natCast]
theorem numS1K {n : Int} (h : 0 ≤ n ∧ n ≤ 255) : (numS n 1).size = 1 ∧ readV (numS n 1) = n := numS_sizeK (k := 1) (by decide) (by decide) h.1 (by show n.toNat < 256; omega) (by omega)
theorem numS2K {n : Int} (h : 0 ≤ n ∧ n ≤ 65535) : (numS n 2).size = 2 ∧ readV (numS n 2) = n := numS_sizeK (k := 2) (by decide) (by decide) h.1 (by show n.toNat < 65536; omega) (by omega)
theorem numS8K {n : Int} (h : 0 ≤ n ∧ n ≤ 999999999999) : (numS n 8).size = 8 ∧ readV (numS n 8) = n := numS_sizeK (k := 8) (by decide) (by decide) h.1 (by show n.toNat < 18446744073709551616; omega) (by omega)
def zsK (n : Nat) : ByteArray := ⟨Array.replicate n 0⟩
theorem zsK_size (n : Nat) : (zsK n).size = n := by simp [zsK, ByteArray.size]
def c0K (k : Ks) : ByteArray := numS k.count 2 ++ (numS k.last 2 ++ (numS k.spent 8 ++ (numS k.run 1 ++ (numS k.left 1 ++ numS k.orders 2))))
def c1K (k : Ks) : ByteArray := numS k.purse 8 ++ numS k.one 8
def c2K (k : Ks) : ByteArray := numS k.runs 1 ++ (numS k.version 1 ++ (numS (flK k.blocked) 1 ++ (numS (flK k.owing) 1 ++ (k.pin ++ zsK (12 - k.pin.size)))))
def cK (k : Ks) : Nat → ByteArray
  | 0 => c0K k
  | 1 => c1K k
  | 2 => c2K k
  | _ => k.key
def trimZ (s : ByteArray) : ByteArray := ⟨((s.data.toList.reverse.dropWhile (· == 0)).reverse).toArray⟩
def readK (C : Nat → ByteArray) : Ks := {
  count := readV ((C 0).extract 0 2), last := readV ((C 0).extract 2 4), spent := readV ((C 0).extract 4 12), run := readV ((C 0).extract 12 13), left := readV ((C 0).extract 13 14), orders := readV ((C 0).extract 14 16)
  purse := readV ((C 1).extract 0 8), one := readV ((C 1).extract 8 16)
  runs := readV ((C 2).extract 0 1), version := readV ((C 2).extract 1 2), blocked := readV ((C 2).extract 2 3) == 1, owing := readV ((C 2).extract 3 4) == 1
  pin := trimZ ((C 2).extract 4 16), key := C 3 }
theorem trimZ_pin (p : ByteArray) (n : Nat) (h : digK p) : trimZ (p ++ zsK n) = p := by
  unfold trimZ
  apply ByteArray.ext
  apply Array.toList_inj.1
  show ((p ++ zsK n).data.toList.reverse.dropWhile (· == 0)).reverse = p.data.toList
  rw [ByteArray.data_append, Array.toList_append, show (zsK n).data.toList = List.replicate n 0 by simp [zsK], List.reverse_append, List.reverse_replicate]
  have hz : ∀ (l : List UInt8) (n : Nat), (List.replicate n 0 ++ l).dropWhile (· == 0) = l.dropWhile (· == 0) := by
    intro l n
    induction n with
    | zero => rfl
    | succ n ih => simp [List.replicate_succ]
  rw [hz]
  obtain ⟨h4, _, hd⟩ := h
  have hd' : p.data.toList.reverse.dropWhile (· == 0) = p.data.toList.reverse := by
    cases hr : p.data.toList.reverse with
    | nil => rfl
    | cons c l =>
      have hc : c ∈ p.data.toList := by
        have : c ∈ p.data.toList.reverse := by rw [hr]; simp
        simpa using this
      have := hd c hc
      have hne : (c == 0) = false := by
        rw [beq_eq_false_iff_ne]
        rintro rfl
        simp at this
      rw [List.dropWhile_cons, hne]
      rfl
  rw [hd', List.reverse_reverse]
theorem flK_read (b : Bool) : (flK b == 1) = b := by cases b <;> rfl
theorem flK_in (b : Bool) : 0 ≤ flK b ∧ flK b ≤ 255 := by cases b <;> decide
theorem cK_size {k : Ks} (h : OkK k) (i : Nat) : (cK k i).size = 16 := by
  have hl : 0 ≤ k.left ∧ k.left ≤ 255 := ⟨h.left.1, by have := h.left.2; omega⟩
  have a1 := (numS2K h.count).1; have a2 := (numS2K h.last).1; have a3 := (numS8K h.spent).1; have a4 := (numS1K h.run).1; have a5 := (numS1K hl).1; have a6 := (numS2K h.orders).1
  have a7 := (numS8K h.purse).1; have a8 := (numS8K h.one).1; have a9 := (numS1K h.runs).1; have b1 := (numS1K h.version).1; have b2 := (numS1K (flK_in k.blocked)).1; have b3 := (numS1K (flK_in k.owing)).1
  match i with
  | 0 => show (c0K k).size = 16; unfold c0K; simp only [ByteArray.size_append]; omega
  | 1 => show (c1K k).size = 16; unfold c1K; simp only [ByteArray.size_append]; omega
  | 2 => show (c2K k).size = 16; unfold c2K; have := h.pin.1; have := h.pin.2.1; simp only [ByteArray.size_append, zsK_size]; omega
  | n + 3 => exact h.key
theorem part2K {a b c : ByteArray} {i j k : Nat} (h1 : a.size = i) (h2 : b.size = j - i) (h3 : i ≤ j) : (a ++ (b ++ c)).extract i j = b := by
  rw [extract_midK _ _ _ _ (by omega), h1, Nat.sub_self, extract_leftK _ _ _ _ (by omega)]
  exact extract_allK _ _ h2
theorem readK_cK {k : Ks} (h : OkK k) : readK (cK k) = k := by
  have hl : 0 ≤ k.left ∧ k.left ≤ 255 := ⟨h.left.1, by have := h.left.2; omega⟩
  obtain ⟨a1, v1⟩ := numS2K h.count; obtain ⟨a2, v2⟩ := numS2K h.last; obtain ⟨a3, v3⟩ := numS8K h.spent; obtain ⟨a4, v4⟩ := numS1K h.run; obtain ⟨a5, v5⟩ := numS1K hl; obtain ⟨a6, v6⟩ := numS2K h.orders
  obtain ⟨a7, v7⟩ := numS8K h.purse; obtain ⟨a8, v8⟩ := numS8K h.one; obtain ⟨a9, v9⟩ := numS1K h.runs; obtain ⟨b1, w1⟩ := numS1K h.version; obtain ⟨b2, w2⟩ := numS1K (flK_in k.blocked); obtain ⟨b3, w3⟩ := numS1K (flK_in k.owing)
  have hp := h.pin
  have hp4 := hp.1
  have hp12 := hp.2.1
  have e1 : (c0K k).extract 0 2 = numS k.count 2 := by unfold c0K; rw [extract_leftK _ _ _ _ (by omega)]; exact extract_allK _ _ a1
  have e2 : (c0K k).extract 2 4 = numS k.last 2 := by
    unfold c0K
    rw [extract_midK _ _ _ _ (by omega), a1, extract_leftK _ _ _ _ (by omega)]; exact extract_allK _ _ a2
  have e3 : (c0K k).extract 4 12 = numS k.spent 8 := by
    unfold c0K
    rw [extract_midK _ _ _ _ (by omega), a1, extract_midK _ _ _ _ (by omega), a2, extract_leftK _ _ _ _ (by omega)]; exact extract_allK _ _ a3
  have e4 : (c0K k).extract 12 13 = numS k.run 1 := by
    unfold c0K
    rw [extract_midK _ _ _ _ (by omega), a1, extract_midK _ _ _ _ (by omega), a2, extract_midK _ _ _ _ (by omega), a3, extract_leftK _ _ _ _ (by omega)]; exact extract_allK _ _ a4
  have e5 : (c0K k).extract 13 14 = numS k.left 1 := by
    unfold c0K
    rw [extract_midK _ _ _ _ (by omega), a1, extract_midK _ _ _ _ (by omega), a2, extract_midK _ _ _ _ (by omega), a3, extract_midK _ _ _ _ (by omega), a4, extract_leftK _ _ _ _ (by omega)]; exact extract_allK _ _ a5
  have e6 : (c0K k).extract 14 16 = numS k.orders 2 := by
    unfold c0K
    rw [extract_midK _ _ _ _ (by omega), a1, extract_midK _ _ _ _ (by omega), a2, extract_midK _ _ _ _ (by omega), a3, extract_midK _ _ _ _ (by omega), a4, extract_midK _ _ _ _ (by omega), a5]; exact extract_allK _ _ a6
  have e7 : (c1K k).extract 0 8 = numS k.purse 8 := by unfold c1K; rw [extract_leftK _ _ _ _ (by omega)]; exact extract_allK _ _ a7
  have e8 : (c1K k).extract 8 16 = numS k.one 8 := by
    unfold c1K
    rw [extract_midK _ _ _ _ (by omega), a7]; exact extract_allK _ _ a8
  have e9 : (c2K k).extract 0 1 = numS k.runs 1 := by unfold c2K; rw [extract_leftK _ _ _ _ (by omega)]; exact extract_allK _ _ a9
  have f1 : (c2K k).extract 1 2 = numS k.version 1 := by
    unfold c2K
    rw [extract_midK _ _ _ _ (by omega), a9, extract_leftK _ _ _ _ (by omega)]; exact extract_allK _ _ b1
  have f2 : (c2K k).extract 2 3 = numS (flK k.blocked) 1 := by
    unfold c2K
    rw [extract_midK _ _ _ _ (by omega), a9, extract_midK _ _ _ _ (by omega), b1, extract_leftK _ _ _ _ (by omega)]; exact extract_allK _ _ b2
  have f3 : (c2K k).extract 3 4 = numS (flK k.owing) 1 := by
    unfold c2K
    rw [extract_midK _ _ _ _ (by omega), a9, extract_midK _ _ _ _ (by omega), b1, extract_midK _ _ _ _ (by omega), b2, extract_leftK _ _ _ _ (by omega)]; exact extract_allK _ _ b3
  have f4 : (c2K k).extract 4 16 = k.pin ++ zsK (12 - k.pin.size) := by
    unfold c2K
    rw [extract_midK _ _ _ _ (by omega), a9, extract_midK _ _ _ _ (by omega), b1, extract_midK _ _ _ _ (by omega), b2, extract_midK _ _ _ _ (by omega), b3]
    exact extract_allK _ _ (by rw [ByteArray.size_append, zsK_size]; omega)
  unfold readK
  show Ks.mk (readV ((c0K k).extract 0 2)) (readV ((c0K k).extract 2 4)) (readV ((c0K k).extract 4 12)) (readV ((c0K k).extract 12 13)) (readV ((c0K k).extract 13 14)) (readV ((c0K k).extract 14 16)) (readV ((c2K k).extract 2 3) == 1) (readV ((c2K k).extract 3 4) == 1) (readV ((c1K k).extract 0 8)) (readV ((c1K k).extract 8 16)) (readV ((c2K k).extract 0 1)) (readV ((c2K k).extract 1 2)) k.key (trimZ ((c2K k).extract 4 16)) = k
  rw [e1, e2, e3, e4, e5, e6, e7, e8, e9, f1, f2, f3, f4, v1, v2, v3, v4, v5, v6, v7, v8, v9, w1, w2, w3, flK_read, flK_read, trimZ_pin _ _ hp]
end Go.Proofs.YtajkbkljonejnaaGreatDoor
namespace Go.Proofs.YtajkbkljonejnaaGreatDoor
open Go.RowKit
set_option linter.unusedVariables false
theorem toList_neK {x y : ByteArray} (h : ¬ x = y) : (x.toList == y.toList) = false := by
  have hb : ∀ z : ByteArray, z.toList = z.data.toList := fun z => Lib.toList_data z
  rw [beq_eq_false_iff_ne, hb, hb]
  exact fun e => h (ByteArray.ext (Array.toList_inj.1 e))
end Go.Proofs.YtajkbkljonejnaaGreatDoor
namespace Go.Proofs.YtajkbkljonejnaaGreatDoor
open Go.RowKit
set_option linter.unusedVariables false
set_option linter.unusedSimpArgs false
set_option maxRecDepth 100000
theorem eqNilK {t : ByteArray} (h : t.size = 0) : t = ⟨#[]⟩ := by
  apply ByteArray.ext
  apply Array.toList_inj.1
  show t.data.toList = []
  apply List.eq_nil_of_length_eq_zero
  have e : t.data.size = t.size := rfl
  rw [Array.length_toList, e, h]
theorem trimZ_nil {t : ByteArray} (h : t.size = 0) : trimZ t = t := by
  rw [eqNilK h]
  rfl
theorem last_splitK {t : ByteArray} {n : Nat} (h : t.size = n + 1) : t.data.toList = (t.extract 0 n).data.toList ++ [t.data.toList.getD n 0] := by
  have hl : t.data.toList.length = n + 1 := by simpa using h
  have e1 : (t.extract 0 n).data.toList = t.data.toList.take n := by
    simp only [ByteArray.data_extract, Array.toList_extract, List.extract_eq_take_drop]
    simp
  rw [e1, List.getD_eq_getElem?_getD, List.getElem?_eq_getElem (by omega)]
  show _ = List.take n t.data.toList ++ [t.data.toList[n]]
  rw [← List.take_succ_eq_append_getElem (by omega), List.take_of_length_le (by omega)]
theorem trimZ_last {t : ByteArray} {n : Nat} (h : t.size = n + 1) (hb : byteAt t n = 0) : trimZ (t.extract 0 n) = trimZ t := by
  unfold trimZ
  rw [last_splitK h, List.reverse_append]
  have : t.data.toList.getD n 0 = 0 := by
    apply UInt8.toNat_inj.1
    exact hb
  rw [this]
  show _ = (⟨((List.dropWhile (· == 0) ([0] ++ _)).reverse).toArray⟩ : ByteArray)
  rw [List.singleton_append, List.dropWhile_cons]
  rfl
theorem trimZ_stop {t : ByteArray} {n : Nat} (h : t.size = n + 1) (hb : byteAt t n ≠ 0) : trimZ t = t := by
  unfold trimZ
  have hne : (t.data.toList.getD n 0 == 0) = false := by
    rw [beq_eq_false_iff_ne]
    intro e
    exact hb (by unfold byteAt; rw [e]; rfl)
  have hs := last_splitK h
  have e : (t.data.toList.reverse.dropWhile (· == 0)).reverse = t.data.toList := by
    conv => lhs; rw [hs, List.reverse_append]
    rw [List.reverse_singleton, List.singleton_append, List.dropWhile_cons, hne]
    show (_ :: (t.extract 0 n).data.toList.reverse).reverse = _
    rw [List.reverse_cons, List.reverse_reverse]
    exact hs.symm
  rw [e]
def szOf : Value → Nat
  | .string s => s.size
  | _ => 0
theorem isEmptyK {s : ByteArray} {b : Bool} (h : decide (s.size = 0) = b) : s.toList.isEmpty = b := by
  have hb : s.toList = s.data.toList := Lib.toList_data s
  have hl : s.data.toList.length = s.size := by simp
  rw [hb, ← h]
  cases hs : s.data.toList with
  | nil => rw [hs] at hl; simp at hl; simp [← hl]
  | cons x l => rw [hs] at hl; simp at hl; simp [← hl]
set_option maxHeartbeats 2000000 in
theorem trimByte_any (s : ByteArray) (hm : (s.size : Int) ≤ 9000000000000) (w : World) :
    Calls Tryz.prog 94 #[.string s, .int .u8 0] w fun e w' => e = .returned (.string (trimZ s)) ∧ w' = w := by
  have HM := hide hm
  clear hm
  go_enter Tryz.func94, Tryz.ntmps94
  go_wp2
  go_loopw [0] (fun s0 wr => ∃ t : ByteArray, s0 = .string t ∧ Hid (trimZ t = trimZ s ∧ t.size ≤ s.size) ∧ wr = w) (fun s0 _ => szOf s0)
  case atStart => exact ⟨s, rfl, hide ⟨rfl, Nat.le_refl _⟩, rfl⟩
  case round =>
    obtain ⟨t, rfl, ht, rfl⟩ := hrel
    obtain ⟨ht, hle⟩ := ht.out
    have hmm := unhide HM
    by_cases h0 : t.size = 0
    · have hz : ¬ (t.size : Int) > 0 := by omega
      have e : trimZ s = t := by rw [← ht, trimZ_nil h0]
      have HE := hide e
      have hz2 : (t.size : Int) = 0 := by omega
      clear ht hle hmm h0 e
      go_wp2
      go_ret
      exact ⟨by rw [unhide HE]; rfl, rfl⟩
    · obtain ⟨n, hn⟩ : ∃ n, t.size = n + 1 := ⟨t.size - 1, by omega⟩
      have hz : (t.size : Int) > 0 := by omega
      have hw : wrap64 ((t.size : Int) - 1) = (n : Int) := by unfold wrap64; omega
      have hnl : n < t.size := by omega
      have hnl2 : n ≤ t.size := by omega
      have hgb : ∀ h, ((t[n]'h).toNat : Int) = (byteAt t n : Int) := fun h => get_byte t n h
      by_cases hb : byteAt t n = 0
      · have e := trimZ_last hn hb
        have HE := hide (show trimZ (t.extract 0 n) = trimZ s ∧ (t.extract 0 n).size ≤ s.size from ⟨by rw [e, ht], by rw [ByteArray.size_extract]; omega⟩)
        have HS : Hid ((t.extract 0 n).size < t.size) := hide (by rw [ByteArray.size_extract]; omega)
        rw [hb] at hgb
        have hh0 : ¬ n = t.size := by omega
        have hn0 : (0 : Int) ≤ (n : Int) := by omega
        have HN := hide hn
        clear ht hle hmm h0 e hb hn
        go_wp2
        go_roundw
        case rel => exact ⟨t.extract 0 n, rfl, HE, trivial⟩
        case measure => have := unhide HS; simp only [szOf]; omega
      · have e : trimZ s = t := by rw [← ht, trimZ_stop hn hb]
        have HE := hide e
        have hb2 : (((byteAt t n : Nat) : Int) == 0) = false := by simpa using hb
        have HN := hide hn
        clear ht hle hmm h0 e hb hn
        go_wp2
        go_ret
        exact ⟨by rw [unhide HE]; rfl, rfl⟩
theorem trimR_any (s : ByteArray) (hm : (s.size : Int) ≤ 9000000000000) (w : World) :
    Calls Tryz.prog 50 #[.string s, .string ⟨#[0]⟩] w fun e w' => e = .returned (.string (trimZ s)) ∧ w' = w := by
  have N1 := hide (trimByte_any s hm w)
  by_cases h0 : s.size = 0
  · have e := trimZ_nil h0
    have hs := eqNilK h0
    subst hs
    have HE := hide e
    clear hm N1 h0 e
    go_enter Tryz.func50, Tryz.ntmps50
    go_wp2
    go_ret
    exact ⟨by rw [unhide HE]; rfl, rfl⟩
  · have hz := isEmptyK (b := false) (decide_eq_false h0)
    clear hm h0
    generalize trimZ s = ts at *
    go_enter Tryz.func50, Tryz.ntmps50
    go_wp2_with fail
    refine (unhide N1).mono ?_
    rintro r y1 ⟨rfl, hw1⟩
    subst hw1
    go_wp2
    go_ret
    exact ⟨rfl, rfl⟩
end Go.Proofs.YtajkbkljonejnaaGreatDoor
namespace Go.Proofs.YtajkbkljonejnaaGreatDoor
set_option linter.unusedVariables false
structure Mm where
  C : List ByteArray
  pw : Int
  off : Bool
structure En where
  what : Int
  how : Int
  text : ByteArray
def nC (n : Nat) : Nat := (n + 15) / 16
def wid (e : En) : Nat := 1 + nC e.text.size
def posL : List En → Nat
  | [] => 0
  | e :: l => wid e + posL l
theorem posL_append (l m : List En) : posL (l ++ m) = posL l + posL m := by
  induction l with
  | nil => simp [posL]
  | cons e l ih => simp only [List.cons_append, posL, ih]; omega
theorem posL_snoc (l : List En) (e : En) : posL (l ++ [e]) = posL l + wid e := by rw [posL_append]; rfl
theorem posL_take (l : List En) (i : Nat) : posL (l.take i) ≤ posL l := by
  have := posL_append (l.take i) (l.drop i)
  rw [List.take_append_drop] at this
  omega
theorem posL_take_succ {l : List En} {i : Nat} {e : En} (h : l[i]? = some e) : posL (l.take (i + 1)) = posL (l.take i) + wid e := by
  obtain ⟨hk, he⟩ := List.getElem?_eq_some_iff.1 h
  rw [List.take_succ_eq_append_getElem hk, he, posL_snoc]
def pad (s : ByteArray) : ByteArray := ⟨s.data ++ Array.replicate (16 - s.size) 0⟩
theorem pad_size (s : ByteArray) (h : s.size ≤ 16) : (pad s).size = 16 := by
  unfold pad
  show (s.data ++ Array.replicate (16 - s.size) 0).size = 16
  rw [Array.size_append, Array.size_replicate]
  have : s.data.size = s.size := rfl
  omega
def zeroCk : ByteArray := pad ⟨#[]⟩
def chunk (t : ByteArray) (j : Nat) : ByteArray := pad (t.extract (j * 16) (min (j * 16 + 16) t.size))
def headTk (e : En) : ByteArray := numS e.what 1 ++ numS e.how 1 ++ numS (e.text.size : Int) 2
def headB (e : En) : ByteArray := pad (headTk e)
def okEn (e : En) : Prop := 1 ≤ e.what ∧ e.what ≤ 250 ∧ 0 ≤ e.how ∧ e.how ≤ 250 ∧ e.text.size ≤ 20000
theorem numS_len {n : Nat} {k : Nat} (h1 : 1 ≤ k) (h8 : k ≤ 8) (h : n < 256 ^ k) : (numS (n : Int) (k : Int)).size = k := by
  rw [numS_yes ((numOk_nat n k h1 h8).2 h)]
  show (strOfNums (bigL (n : Int).toNat (k : Int).toNat)).size = k
  simp [strOfNums, ByteArray.size, bigL_length]
theorem headT_parts (e : En) (h : okEn e) : (numS e.what 1).size = 1 ∧ (numS e.how 1).size = 1 ∧ (numS (e.text.size : Int) 2).size = 2 := by
  obtain ⟨h1, h2, h3, h4, h5⟩ := h
  refine ⟨?_, ?_, numS_len (n := e.text.size) (k := 2) (by decide) (by decide) (by omega)⟩
  · have := numS_len (n := e.what.toNat) (k := 1) (by decide) (by decide) (by omega)
    rwa [show ((e.what.toNat : Nat) : Int) = e.what by omega] at this
  · have := numS_len (n := e.how.toNat) (k := 1) (by decide) (by decide) (by omega)
    rwa [show ((e.how.toNat : Nat) : Int) = e.how by omega] at this
theorem headTk_size (e : En) (h : okEn e) : (headTk e).size = 4 := by
  obtain ⟨h1, h2, h3⟩ := headT_parts e h
  unfold headTk
  rw [ByteArray.size_append, ByteArray.size_append]; omega
theorem headB_size (e : En) (h : okEn e) : (headB e).size = 16 := pad_size _ (by rw [headTk_size e h]; decide)
def LiesAt (C : List ByteArray) (p : Nat) (e : En) : Prop := C[p]? = some (headB e) ∧ ∀ j, j < nC e.text.size → C[p + 1 + j]? = some (chunk e.text j)
structure Laid (C : List ByteArray) (L : List En) : Prop where
  each : ∀ i e, L[i]? = some e → LiesAt C (posL (L.take i)) e
  last : C[posL L]? = some zeroCk
  ok : ∀ e ∈ L, okEn e
  sz : ∀ c ∈ C, c.size = 16
theorem Laid.lt {C : List ByteArray} {L : List En} (h : Laid C L) : posL L < C.length := (List.getElem?_eq_some_iff.1 h.last).1
theorem Laid.put {C C' : List ByteArray} {L : List En} {e : En} (h : Laid C L) (he : okEn e) (hs : ∀ i, i < posL L → C'[i]? = C[i]?) (hl : LiesAt C' (posL L) e) (hz : C'[posL L + wid e]? = some zeroCk) (hsz : ∀ c ∈ C', c.size = 16) : Laid C' (L ++ [e]) := by
  refine ⟨fun i x hx => ?_, by rw [posL_snoc]; exact hz, fun x hx => ?_, hsz⟩
  · by_cases hi : i < L.length
    · rw [List.getElem?_append_left hi] at hx
      rw [List.take_append_of_le_length (by omega)]
      obtain ⟨q1, q2⟩ := h.each i x hx
      have hp := posL_take_succ hx
      have ht := posL_take L (i + 1)
      unfold wid at hp
      exact ⟨(hs _ (by omega)).trans q1, fun j hj => (hs _ (by omega)).trans (q2 j hj)⟩
    · have hi2 : i = L.length := by
        have := (List.getElem?_eq_some_iff.1 hx).1
        rw [List.length_append] at this
        simp at this; omega
      subst hi2
      rw [List.getElem?_append_right (Nat.le_refl _)] at hx
      obtain rfl : e = x := by simpa using hx
      rw [List.take_append_of_le_length (Nat.le_refl _), List.take_length]
      exact hl
  · rcases List.mem_append.1 hx with hx | hx
    · exact h.ok x hx
    · simp at hx; rw [hx]; exact he
theorem Laid.done {C : List ByteArray} {L : List En} {i : Nat} {e e' : En} (h : Laid C L) (hi : L[i]? = some e) (ht : e'.text = e.text) (he : okEn e') : Laid (C.set (posL (L.take i)) (headB e')) (L.set i e') := by
  have hw : wid e' = wid e := by unfold wid; rw [ht]
  obtain ⟨hil, hie⟩ := List.getElem?_eq_some_iff.1 hi
  have htk : ∀ k, posL ((L.set i e').take k) = posL (L.take k) := by
    intro k
    have hL : L = L.take i ++ e :: L.drop (i + 1) := by rw [← hie, List.getElem_cons_drop, List.take_append_drop]
    have hL' : L.set i e' = L.take i ++ e' :: L.drop (i + 1) := by rw [List.set_eq_take_append_cons_drop, if_pos hil]
    rw [hL']
    conv => rhs; rw [hL]
    rw [List.take_append, List.take_append, posL_append, posL_append]
    congr 1
    cases hk : k - (L.take i).length with
    | zero => rfl
    | succ n => simp only [List.take_succ_cons, posL, hw]
  have hpos : posL (L.set i e') = posL L := by
    have := htk L.length
    rwa [List.take_length, List.take_of_length_le (by simp)] at this
  have hlt := h.lt
  have hpi : posL (L.take i) + wid e ≤ posL L := by
    have h1 := posL_take_succ hi
    have h2 := posL_take L (i + 1)
    omega
  have hw1 : 1 ≤ wid e := by unfold wid; omega
  refine ⟨fun k x hx => ?_, ?_, fun x hx => ?_, fun c hc => ?_⟩
  · rw [htk]
    by_cases hki : k = i
    · subst hki
      rw [List.getElem?_set_self hil] at hx
      obtain rfl : e' = x := by simpa using hx
      refine ⟨List.getElem?_set_self (by omega), fun j hj => ?_⟩
      rw [List.getElem?_set_ne (by omega), ht]
      rw [ht] at hj
      exact (h.each k e hi).2 j hj
    · rw [List.getElem?_set_ne (fun e => hki e.symm)] at hx
      obtain ⟨q1, q2⟩ := h.each k x hx
      have hne : ∀ j, j < wid x → posL (L.take i) ≠ posL (L.take k) + j := by
        intro j hj
        have mono : ∀ a b : Nat, a ≤ b → posL (L.take a) ≤ posL (L.take b) := fun a b hab => by
          have := posL_take (L.take b) a
          rwa [List.take_take, Nat.min_eq_left hab] at this
        rcases Nat.lt_or_ge k i with hlt2 | hge
        · have h1 := posL_take_succ hx
          have h2 := mono (k + 1) i hlt2
          omega
        · have h1 := posL_take_succ hi
          have h2 := mono (i + 1) k (by omega)
          omega
      refine ⟨?_, fun j hj => ?_⟩
      · rw [List.getElem?_set_ne (by have := hne 0 (by unfold wid; omega); simpa using this)]; exact q1
      · rw [List.getElem?_set_ne (by have := hne (1 + j) (by unfold wid; omega); rw [Nat.add_assoc]; exact this)]; exact q2 j hj
  · rw [hpos, List.getElem?_set_ne (by omega)]; exact h.last
  · rcases List.mem_or_eq_of_mem_set hx with hx | rfl
    · exact h.ok x hx
    · exact he
  · rcases List.mem_or_eq_of_mem_set hc with hc | rfl
    · exact h.sz c hc
    · exact headB_size _ he
end Go.Proofs.YtajkbkljonejnaaGreatDoor
namespace Go.Proofs.YtajkbkljonejnaaGreatDoor
open Go.RowKit
set_option linter.unusedVariables false
structure Chg (F : Nat → Prop) (w w' : World) : Prop where
  os : w'.os = w.os
  tape : w'.tape = w.tape
  output : w'.output = w.output
  size : w.heap.size ≤ w'.heap.size
  block : ∀ i, i < w.heap.size → ¬ F i → w'.heap[i]? = w.heap[i]?
theorem Chg.refl (F : Nat → Prop) (w : World) : Chg F w w := ⟨rfl, rfl, rfl, Nat.le_refl _, fun _ _ _ => rfl⟩
theorem Chg.trans {F G : Nat → Prop} {w w1 w2 : World} (h : Chg F w w1) (k : Chg G w1 w2) (hG : ∀ x, G x → F x ∨ w.heap.size ≤ x) : Chg F w w2 :=
  ⟨k.os.trans h.os, k.tape.trans h.tape, k.output.trans h.output, Nat.le_trans h.size k.size, fun i hi hn => (k.block i (Nat.lt_of_lt_of_le hi h.size) (fun hg => (hG i hg).elim hn (fun h => by omega))).trans (h.block i hi hn)⟩
theorem Chg.mono {F G : Nat → Prop} {w w' : World} (h : Chg F w w') (hG : ∀ x, F x → G x) : Chg G w w' := ⟨h.os, h.tape, h.output, h.size, fun i hi hn => h.block i hi (fun hf => hn (hG i hf))⟩
theorem Chg.of_below {w w' : World} (F : Nat → Prop) (h : Below w.heap.size w w') : Chg F w w' := ⟨h.os, h.tape, h.output, h.size, fun k hk _ => h.block k hk⟩
theorem Chg.below {F : Nat → Prop} {w w' : World} {B : Nat} (h : Chg F w w') (hB : B ≤ w.heap.size) (hF : ∀ x, F x → B ≤ x) : Below B w w' :=
  ⟨h.os, h.tape, h.output, h.size, fun k hk => h.block k (by omega) (fun hf => by have := hF k hf; omega)⟩
theorem Chg.drewN {F : Nat → Prop} {w w' : World} (h : Chg F w w') (q : Nat) : Chg F w (w'.drewN q) := ⟨h.os, h.tape, h.output, h.size, h.block⟩
theorem Chg.drew {F : Nat → Prop} {w w' : World} (h : Chg F w w') : Chg F w w'.drew := ⟨h.os, h.tape, h.output, h.size, h.block⟩
theorem Chg.setCell (w : World) (a : Addr) (u : Value) : Chg (fun x => x = a.block) w (w.setCell a u) :=
  ⟨rfl, rfl, rfl, by simp [World.setCell], fun k hk hn => by simp [World.setCell, Array.getElem?_modify, Ne.symm hn]⟩
theorem Chg.grown {w w' : World} {row : Nat} (hg : w.grownBy w' (some row)) : Chg (fun x => x = row) w w' := ⟨hg.os, hg.tape, hg.output, hg.size, fun k hk hn => hg.block k hk (fun e => hn (Option.some.inj e))⟩
end Go.Proofs.YtajkbkljonejnaaGreatDoor
namespace Go.Proofs.YtajkbkljonejnaaGreatDoor
open Go.RowKit
set_option linter.unusedVariables false
def rowC {α : Type} (c : α → List Value) : List α → List Value
  | [] => []
  | x :: r => c x ++ rowC c r
theorem rowC_snoc {α : Type} (c : α → List Value) (l : List α) (x : α) : rowC c (l ++ [x]) = rowC c l ++ c x := by
  induction l with
  | nil => simp [rowC]
  | cons y r ih => simp [rowC, ih]
theorem rowC_length {α : Type} {c : α → List Value} {m : Nat} (hc : ∀ x, (c x).length = m) (l : List α) : (rowC c l).length = l.length * m := by
  induction l with
  | nil => simp [rowC]
  | cons y r ih => simp only [rowC, List.length_append, List.length_cons, ih, hc]; rw [Nat.add_mul]; omega
theorem rowC_at {α : Type} {c : α → List Value} {m : Nat} (hc : ∀ x, (c x).length = m) (l : List α) : ∀ (i j : Nat) (x : α), l[i]? = some x → j < m → (rowC c l)[i * m + j]? = (c x)[j]? := by
  induction l with
  | nil => intro i j x h; simp at h
  | cons y r ih =>
    intro i j x h hj
    cases i with
    | zero =>
      obtain rfl : y = x := by simpa using h
      rw [rowC, Nat.zero_mul, Nat.zero_add, List.getElem?_append_left (by rw [hc]; exact hj)]
    | succ i =>
      have := ih i j x (by simpa using h) hj
      rw [rowC, List.getElem?_append_right (by rw [hc, Nat.add_mul]; omega), hc, ← this]
      congr 1
      rw [Nat.add_mul]; omega
def OwnR {α : Type} (w : World) (base : Nat) (e : TypeId) (m : Nat) (c : α → List Value) (v : Value) (l : List α) : Prop := w.ownsRow base e m v l.length (rowC c l)
theorem block_ltR {w : World} {g : Nat} {o : Obj} (h : w.heap[g]? = some o) : g < w.heap.size := (Array.getElem?_eq_some_iff.1 h).1
section
variable {α : Type} {w w' : World} {base : Nat} {e : TypeId} {m : Nat} {c : α → List Value} {v : Value} {l : List α}
theorem OwnR.nil (w : World) (base : Nat) (e : TypeId) (m : Nat) (c : α → List Value) : OwnR w base e m c (.slice none 0 0) [] := World.ownsRow_nil _ _ _ _
theorem OwnR.alloc (h : OwnR w base e m c v l) (o : Obj) : OwnR (w.alloc o) base e m c v l := World.ownsRow.alloc h o
theorem OwnR.drew (h : OwnR w base e m c v l) : OwnR w.drew base e m c v l := h
theorem OwnR.drewN (h : OwnR w base e m c v l) (q : Nat) : OwnR (w.drewN q) base e m c v l := h
theorem OwnR.kept {row : Option Nat} (h : OwnR w base e m c v l) (hg : w.grownBy w' row) (hne : v.ownBlock = none ∨ v.ownBlock ≠ row) : OwnR w' base e m c v l := World.ownsRow.kept h hg hne
theorem OwnR.below (h : OwnR w base e m c v l) (hb : Below w.heap.size w w') : OwnR w' base e m c v l := by
  refine ⟨h.1, ?_⟩
  rcases h.2 with h0 | ⟨g, cap, cur, e1, e2, e3, e4⟩
  · exact .inl h0
  · exact .inr ⟨g, cap, cur, e1, e2, by rw [hb.block g (block_ltR e3)]; exact e3, e4⟩
theorem OwnR.other (h : OwnR w base e m c v l) {a : Addr} (hne : v.ownBlock ≠ some a.block) (u : Value) : OwnR (w.setCell a u) base e m c v l := by
  refine ⟨h.1, ?_⟩
  rcases h.2 with h0 | ⟨g, cap, cur, e1, e2, e3, e4⟩
  · exact .inl h0
  · refine .inr ⟨g, cap, cur, e1, e2, ?_, e4⟩
    subst e1
    have hg : a.block ≠ g := fun hx => hne (by simp [Value.ownBlock, hx])
    simp [World.setCell, Array.getElem?_modify, hg, e3]
theorem OwnR.mono {base' : Nat} (h : OwnR w base e m c v l) (hb : base' ≤ base) : OwnR w base' e m c v l := by
  refine ⟨h.1, ?_⟩
  rcases h.2 with h0 | ⟨g, cap, cur, e1, e2, e3, e4⟩
  · exact .inl h0
  · exact .inr ⟨g, cap, cur, e1, Nat.le_trans hb e2, e3, e4⟩
theorem OwnR.lt (h : OwnR w base e m c v l) : ∀ k, v.ownBlock = some k → base ≤ k ∧ k < w.heap.size := World.ownsRow.lt h
theorem OwnR.form (h : OwnR w base e m c v l) : (∃ ao cap, v = .slice ao l.length cap) ∧ (l = [] ∨ ∃ g cap, v = .slice (some ⟨g, 0, none⟩) l.length cap ∧ base ≤ g ∧ g < w.heap.size) := by
  rcases h.2 with ⟨h0, h1⟩ | ⟨g, cap, cur, e1, e2, e3, e4⟩
  · exact ⟨⟨none, 0, by rw [h0, h1]⟩, .inl (List.length_eq_zero_iff.1 h1)⟩
  · exact ⟨⟨_, cap, e1⟩, .inr ⟨g, cap, e1, e2, block_ltR e3⟩⟩
theorem OwnR.cell {g cap : Nat} (hc : ∀ x, (c x).length = m) (h : OwnR w base e m c (.slice (some ⟨g, 0, none⟩) l.length cap) l) (i : Nat) (x : α) (hx : l[i]? = some x) (j : Nat) (hj : j < m) : w.cell? ⟨g, i * m + j, none⟩ = (c x)[j]? := by
  have hi : i < l.length := (List.getElem?_eq_some_iff.1 hx).1
  have hlt : i * m + j < l.length * m := by
    have : (i + 1) * m ≤ l.length * m := Nat.mul_le_mul_right m hi
    rw [Nat.add_mul] at this; omega
  rw [World.ownsRow.cellAt h _ hlt, rowC_at hc l i j x hx hj]
theorem OwnR.frozen {g cap n : Nat} (h : OwnR w base e m c (.slice (some ⟨g, 0, none⟩) n cap) l) (hn : n = l.length) (j : Nat) : w.frozen? ⟨g, j, none⟩ = false := by
  subst hn; exact World.ownsRow.frozenAt h j
theorem OwnR.snoc (x : α) (h : w'.ownsRow base e m v (l.length + 1) (rowC c l ++ c x)) : OwnR w' base e m c v (l ++ [x]) := by
  unfold OwnR
  rw [rowC_snoc, List.length_append]
  exact h
end
theorem new_cells (w : World) (cs : Array Value) (e : TypeId) (j : Nat) : (w.alloc (.cells cs e)).cell? ((⟨w.heap.size, 0, none⟩ : Addr).add j) = cs[j]? := by
  have hg := heap_alloc_new w (.cells cs e)
  rw [show (⟨w.heap.size, 0, none⟩ : Addr).add j = ⟨w.heap.size, 0 + j, none⟩ from by unfold Addr.add; split <;> simp_all, Nat.zero_add]
  unfold World.cell?
  rw [hg]
  simp
end Go.Proofs.YtajkbkljonejnaaGreatDoor
