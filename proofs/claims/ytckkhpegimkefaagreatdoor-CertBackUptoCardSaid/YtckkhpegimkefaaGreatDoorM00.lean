/- Small things of no one function. -/
import Derived.Test.YtckkhpegimkefaaGreatDoorProg
import Derived.WalkKit
import Derived.WalkSpells
import Derived.WalkLawsBesides
import Derived.Laws.BytesArg
import Derived.Deep.QuietTactic
import Derived.BigQuiet
import Derived.Lib.Strings
namespace Go.Proofs.YtckkhpegimkefaaGreatDoor
open Go.RowKit

theorem hide {p : Prop} (h : p) : Hid p := h
theorem unhide {p : Prop} (h : Hid p) : p := h
theorem wraps_i64 (n : Int) (h₀ : 0 ≤ n) (h₁ : n < 2 ^ 63) : IntKind.i64.wrap n = n := by rw [IntKind.wrap_i64]; omega
theorem ret_bool {a b : Bool} (h : a = b) : Ending.returned (.bool a) = .returned (.bool b) := by rw [h]
theorem ret_int {k : IntKind} {a b : Int} (h : a = b) : Ending.returned (.int k a) = .returned (.int k b) := by rw [h]
end Go.Proofs.YtckkhpegimkefaaGreatDoor
namespace Go.Proofs.YtckkhpegimkefaaGreatDoor
open Go.RowKit

theorem infoByte : (Tryz.prog.info? 5).map (fun i => (i.zero, i.size, i.bytes)) = some (some (.int .u8 0), 1, 1) := by kernel_rfl

/-- k bytes of a number, the high one first -/
def bigL (n : Nat) : Nat → List Int
  | 0 => []
  | k + 1 => ((n / 256 ^ k % 256 : Nat) : Int) :: bigL n k

theorem bigL_length (n k : Nat) : (bigL n k).length = k := by
  induction k with
  | zero => rfl
  | succ k ih => simp [bigL, ih]

theorem strOfNums_append (xs ys : List Int) : strOfNums xs ++ strOfNums ys = strOfNums (xs ++ ys) := by
  apply ByteArray.ext
  simp [strOfNums]

theorem bigL_bytes (n k : Nat) : ∀ z ∈ bigL n k, 0 ≤ z ∧ z < 256 := by
  induction k with
  | zero => simp [bigL]
  | succ k ih =>
    intro z hz
    simp only [bigL, List.mem_cons] at hz
    rcases hz with h | h
    · omega
    · exact ih z h

theorem wrap_pow (k : Nat) (h : k < 8) : wrap64 (2 ^ (8 * k)) = ((256 ^ k : Nat) : Int) := by
  have hk : k = 0 ∨ k = 1 ∨ k = 2 ∨ k = 3 ∨ k = 4 ∨ k = 5 ∨ k = 6 ∨ k = 7 := by omega
  rcases hk with rfl | rfl | rfl | rfl | rfl | rfl | rfl | rfl <;> (unfold wrap64; decide)

theorem take_snoc (s : ByteArray) (k : Nat) (h : k < s.size) : s.data.toList.take (k + 1) = s.data.toList.take k ++ [s[k]] := by
  rw [List.take_succ_eq_append_getElem (by simpa using h)]; rfl

/-- the byte at a place -/
def byteAt (s : ByteArray) (i : Nat) : Nat := (s.data.toList.getD i 0).toNat
theorem byteAt_lt (s : ByteArray) (i : Nat) : byteAt s i < 256 := UInt8.toNat_lt _
theorem get_byte (s : ByteArray) (i : Nat) (h : i < s.size) : ((s[i]'h).toNat : Int) = (byteAt s i : Int) := by
  unfold byteAt
  have e : s.data.toList.getD i 0 = s[i]'h := by
    rw [List.getD_eq_getElem?_getD, List.getElem?_eq_getElem (by simpa using h)]; rfl
  rw [e]
/-- the byte that a number is cut to -/
def lowByte (n : Int) : Int := n % 256
theorem lowByte_mod (m : Int) : lowByte (m % 256) = m % 256 := by unfold lowByte; omega

theorem owned_cells {w : World} {base n : Nat} {v : Value} {xs : List Int} (h : w.ownsRow base 5 1 v n (xs.map (Value.int .u8))) :
    (v = .slice none 0 0 ∧ xs = []) ∨ ∃ g cap, v = .slice (some ⟨g, 0, none⟩) n cap ∧ xs.length = n ∧ ∀ i, i < n → w.cell? ⟨g, 0 + i, none⟩ = some (.int .u8 (xs.getD i 0)) := by
  have h' := h
  obtain ⟨h1, h2⟩ := h
  have hl : xs.length = n := by simpa using h1
  rcases h2 with ⟨rfl, rfl⟩ | ⟨g, cap, cur, rfl, hg, hh, r⟩
  · exact .inl ⟨rfl, List.length_eq_zero_iff.1 hl⟩
  · refine .inr ⟨g, cap, rfl, hl, fun i hi => ?_⟩
    have := h'.cells (g := g) rfl i (.int .u8 (xs.getD i 0)) (by simp [List.getElem?_eq_getElem (show i < xs.length by omega)])
    rw [show (⟨g, 0, none⟩ : Addr).add i = ⟨g, 0 + i, none⟩ from by unfold Addr.add; split <;> simp_all] at this
    exact this

set_option maxHeartbeats 1000000 in
theorem bytes_any (zs : List Int) (b off len cap : Nat) (w : World) (hlen : zs.length = len) (hl : len ≤ 1000) (hbB : b < w.heap.size)
    (hc : ∀ i, i < len → w.cell? ⟨b, off + i, none⟩ = some (.int .i64 (zs.getD i 0))) :
    Calls Tryz.prog 30 #[.slice (some ⟨b, off, none⟩) len cap] w fun e w' => e = .returned (.string (strOfNums (zs.map lowByte))) ∧ Below w.heap.size w w' := by
  obtain ⟨i0, hi, hz0, hz1, hz2⟩ := info_parts infoByte
  go_enter Tryz.func30, Tryz.ntmps30
  go_wp2
  go_loopw [3, 4] (fun v i wr => ∃ k : Nat, k ≤ len ∧ i = .int .i64 k ∧ wr.ownsRow w.heap.size 5 1 v k (((zs.take k).map lowByte).map (Value.int .u8)) ∧ Below w.heap.size w wr)
    (fun _ i _ => len - (intOf i).toNat)
  case atStart => exact ⟨0, Nat.zero_le _, rfl, World.ownsRow_nil _ _ _ _, Below.refl _ _⟩
  case round =>
    obtain ⟨k, hk, rfl, hown, hnx⟩ := hrel
    have hcx : k < len → wr.cell? ⟨b, off + k, none⟩ = some (.int .i64 (zs.getD k 0)) := fun h => (hnx.cell (by exact hbB)).trans (hc k h)
    by_cases hlt : k < len
    · obtain ⟨x, hx⟩ : ∃ x, x = zs.getD k 0 := ⟨_, rfl⟩
      have hcy := hcx hlt
      rw [← hx] at hcy
      have HX : Hid (x = zs.getD k 0) := hx
      clear hx hcx hc
      go_wp2_with (at_builtin; refine wpList_append_own _ rfl _ _ 43 rfl w.heap.size 5 i0 (.int .u8 0) 1 1 Tryz.underlying43 hi hz0 hz1 hz2 rfl (by decide) _ _ _ rfl (hown.alloc _) ⟨wr.heap.size, 0, none⟩ 1 1 [.int .u8 (x % 256)] rfl rfl (cell_one_new _ _ _) ?c2 ?c3 ?c4 ?c5 ?_)
      case c2 => intro u hu; simp at hu; subst hu; rfl
      case c3 => unfold maxLen; omega
      case c4 => omega
      case c5 => have := hnx.size; simp; omega
      intro v' w1 hown' hgrow _
      have hb1 : Below w.heap.size w w1 := (hnx.alloc hnx.size _).grown hgrow (by have := hnx.size; simp; omega) (fun q hq => ((hown.lt q hq).1))
      have hown2 : w1.ownsRow w.heap.size 5 1 v' (k + 1) (((zs.take (k + 1)).map lowByte).map (Value.int .u8)) := by
        rw [List.take_succ_eq_append_getElem (by omega)]
        have e : x = zs[k] := by rw [HX.out]; simp [List.getElem?_eq_getElem (show k < zs.length by omega)]
        rw [e] at hown'
        rw [List.map_append, List.map_append]
        simpa [lowByte] using hown'
      clear hown' hgrow hown hnx
      go_wp2
      go_roundw
      case rel => exact ⟨k + 1, by omega, by go_num, hown2, hb1⟩
      case measure => simp [intOf]; omega
    · have hkl : k = len := by omega
      subst hkl
      clear hcx hc
      rcases owned_cells hown with ⟨hv, hn⟩ | ⟨g, cap', hv, _, hcl⟩
      · have hcv := run_convert_bytes_nil (P := Tryz.prog) wr 43 5 Tryz.underlying43 Tryz.underlying5 0 0 9 Tryz.underlying9
        subst hv
        clear hown
        have hz : zs = [] := by simpa [List.take_of_length_le (Nat.le_of_eq hlen)] using hn
        subst hz
        go_wp2
        go_ret
        exact ⟨rfl, hnx⟩
      · have hcv := run_convert_bytes_arg (P := Tryz.prog) wr 43 5 Tryz.underlying43 Tryz.underlying5 g 0 k cap' _ (by simp; omega) hcl 9 Tryz.underlying9
        rw [List.take_of_length_le (Nat.le_of_eq hlen)] at hcv
        subst hv
        clear hown hcl
        go_wp2
        go_ret
        exact ⟨rfl, hnx⟩

/-- of one number -/
theorem bytes_one (x : Int) (b off cap : Nat) (w : World) (hbB : b < w.heap.size) (hc : w.cell? ⟨b, off, none⟩ = some (.int .i64 x)) :
    Calls Tryz.prog 30 #[.slice (some ⟨b, off, none⟩) 1 cap] w fun e w' => e = .returned (.string (strOfNums [lowByte x])) ∧ Below w.heap.size w w' :=
  bytes_any [x] b off 1 cap w rfl (by omega) hbB (fun i hi => by
    have h0 : i = 0 := by omega
    subst h0
    exact hc)

set_option maxHeartbeats 1000000 in
theorem big_any (n : Nat) (k : Nat) (w : World) (hk : k ≤ 8) (hn : n ≤ 9223372036854775807) :
    Calls Tryz.prog 32 #[.int .i64 n, .int .i64 k] w fun e w' => e = .returned (.string (strOfNums (bigL n k))) ∧ Below w.heap.size w w' := by
  go_enter Tryz.func32, Tryz.ntmps32
  go_wp2
  go_loopw [0, 5, 6] (fun m s i wr => ∃ j : Nat, j ≤ k ∧ i = .int .i64 j ∧ m = .int .i64 (n / 256 ^ j : Nat) ∧ s = .string (strOfNums (bigL n j)) ∧ Below w.heap.size w wr)
    (fun _ _ i _ => k - (intOf i).toNat)
  case atStart => exact ⟨0, Nat.zero_le _, rfl, by simp, rfl, Below.refl _ _⟩
  case round =>
    obtain ⟨j, hj, rfl, rfl, rfl, hnx⟩ := hrel
    obtain ⟨m, hm⟩ : ∃ m, m = n / 256 ^ j := ⟨_, rfl⟩
    have hmle : m ≤ 9223372036854775807 := by rw [hm]; exact Nat.le_trans (Nat.div_le_self _ _) hn
    rw [← hm]
    have HM : Hid (m = n / 256 ^ j) := hm
    clear hm
    by_cases hlt : j < k
    · have hsz1 : (strOfNums [(m : Int) % 256]).size ≤ 1 := by simp [strOfNums_size]
      have hsz2 : (strOfNums (bigL n j)).size ≤ 8 := by rw [strOfNums_size, bigL_length]; omega
      go_wp2_with fail
      refine (bytes_one ((m : Int) % 256) _ _ _ _ (by simp) (by simp)).mono ?_
      rintro e w1 ⟨rfl, hb1⟩
      rw [lowByte_mod]
      have hb2 : Below w.heap.size w w1 := (hnx.alloc hnx.size _).trans (hb1.mono (by have := hnx.size; simp; omega))
      clear hnx hb1
      go_wp2
      go_roundw
      case rel =>
        refine ⟨j + 1, by omega, by go_num, ?_, ?_, hb2⟩
        · rw [HM.out, Nat.pow_succ, ← Nat.div_div_eq_div_mul]; rfl
        · rw [strOfNums_append]; simp only [bigL, List.singleton_append, ← HM.out]; rfl
      case measure => simp [intOf]; omega
    · have hkl : j = k := by omega
      subst hkl
      go_wp2
      go_ret
      exact ⟨rfl, hnx⟩

end Go.Proofs.YtckkhpegimkefaaGreatDoor
namespace Go.Proofs.YtckkhpegimkefaaGreatDoor
open Go.RowKit

/-- the number that bytes say, the high one first -/
def valN (l : List UInt8) : Nat := l.foldl (fun n b => n * 256 + b.toNat) 0
theorem valN_snoc (l : List UInt8) (b : UInt8) : valN (l ++ [b]) = valN l * 256 + b.toNat := by simp [valN, List.foldl_append]
theorem foldl_ge (l : List UInt8) : ∀ a : Nat, a ≤ l.foldl (fun n b => n * 256 + b.toNat) a := by
  induction l with
  | nil => intro a; simp
  | cons b l ih => intro a; rw [List.foldl_cons]; exact Nat.le_trans (by omega) (ih _)
theorem valN_take_le (l : List UInt8) (k : Nat) : valN (l.take k) ≤ valN l := by
  rw (occs := .pos [2]) [← List.take_append_drop k l]
  unfold valN
  rw [List.foldl_append]
  exact foldl_ge _ _
theorem valN_lt (l : List UInt8) : valN l < 256 ^ l.length := by
  have h : ∀ (l : List UInt8) (a : Nat), l.foldl (fun n b => n * 256 + b.toNat) a < (a + 1) * 256 ^ l.length := by
    intro l
    induction l with
    | nil => intro a; simp
    | cons b l ih =>
      intro a
      rw [List.foldl_cons, List.length_cons, Nat.pow_succ]
      refine Nat.lt_of_lt_of_le (ih _) ?_
      have hb : b.toNat < 256 := b.toNat_lt
      calc (a * 256 + b.toNat + 1) * 256 ^ l.length ≤ ((a + 1) * 256) * 256 ^ l.length := Nat.mul_le_mul_right _ (by omega)
        _ = (a + 1) * (256 ^ l.length * 256) := by rw [Nat.mul_assoc, Nat.mul_comm 256]
  simpa [valN] using h l 0
set_option maxHeartbeats 1000000 in
theorem value_any (s : ByteArray) (w : World) (hs : s.size ≤ 8) (hv : valN s.data.toList ≤ 9223372036854775807) :
    Calls Tryz.prog 40 #[.string s] w fun e w' => e = .returned (.int .i64 (valN s.data.toList)) ∧ w' = w := by
  go_enter Tryz.func40, Tryz.ntmps40
  go_wp2
  go_loop [3, 4] (fun n i => ∃ k : Nat, k ≤ s.size ∧ i = .int .i64 k ∧ n = .int .i64 (valN (s.data.toList.take k))) (fun _ i => s.size - (intOf i).toNat)
  case atStart => exact ⟨0, Nat.zero_le _, rfl, rfl⟩
  case round =>
    obtain ⟨k, hk, rfl, rfl⟩ := hrel
    by_cases hlt : k < s.size
    · have hsn := valN_snoc (s.data.toList.take k) s[k]
      rw [← take_snoc s k hlt] at hsn
      have hle := valN_take_le s.data.toList (k + 1)
      obtain ⟨m, hm⟩ : ∃ m, m = valN (s.data.toList.take k) := ⟨_, rfl⟩
      rw [← hm] at hsn ⊢
      have hmb : (m : Int) * 256 + (s[k].toNat : Int) ≤ 9223372036854775807 := by omega
      have HS : Hid (valN (s.data.toList.take (k + 1)) = m * 256 + s[k].toNat) := hsn
      clear hsn hle hm hv
      go_wp2
      go_round
      case rel => exact ⟨k + 1, by omega, by go_num, by rw [HS.out]; go_num⟩
      case measure => simp [intOf]; omega
    · go_wp2
      go_ret
      exact ⟨ret_int (by rw [List.take_of_length_le (by simp; omega)]), rfl⟩

end Go.Proofs.YtckkhpegimkefaaGreatDoor
namespace Go.Proofs.YtckkhpegimkefaaGreatDoor
open Go.RowKit
set_option linter.unusedVariables false

/-- a word turned to the left -/
def rl (x n : Nat) : Nat := x * 2 ^ n % 4294967296 ||| x / 2 ^ (32 - n)

theorem or_add (a b k : Nat) (h : b < 2 ^ k) : a * 2 ^ k ||| b = a * 2 ^ k + b := by
  have := Nat.shiftLeft_add_eq_or_of_lt h a
  rw [Nat.shiftLeft_eq] at this
  exact this.symm
theorem rl12 (x : Nat) (h : x < 4294967296) : rl x 12 = x % 1048576 * 4096 + x / 1048576 := by
  unfold rl
  rw [show x * 2 ^ 12 % 4294967296 = (x % 1048576) * 2 ^ 12 by omega, or_add _ _ 12 (by omega)]
theorem rl16 (x : Nat) (h : x < 4294967296) : rl x 16 = x % 65536 * 65536 + x / 65536 := by
  unfold rl
  rw [show x * 2 ^ 16 % 4294967296 = (x % 65536) * 2 ^ 16 by omega, or_add _ _ 16 (by omega)]
theorem rl20 (x : Nat) (h : x < 4294967296) : rl x 20 = x % 4096 * 1048576 + x / 4096 := by
  unfold rl
  rw [show x * 2 ^ 20 % 4294967296 = (x % 4096) * 2 ^ 20 by omega, or_add _ _ 20 (by omega)]
theorem rl12_lt (x : Nat) (h : x < 4294967296) : rl x 12 < 4294967296 := by rw [rl12 x h]; omega
theorem rl16_lt (x : Nat) (h : x < 4294967296) : rl x 16 < 4294967296 := by rw [rl16 x h]; omega
theorem rl20_lt (x : Nat) (h : x < 4294967296) : rl x 20 < 4294967296 := by rw [rl20 x h]; omega
theorem rl12_20 (x : Nat) (h : x < 4294967296) : rl (rl x 12) 20 = x := by
  rw [rl20 _ (rl12_lt x h), rl12 x h]; omega
theorem rl20_12 (x : Nat) (h : x < 4294967296) : rl (rl x 20) 12 = x := by
  rw [rl12 _ (rl20_lt x h), rl20 x h]; omega
theorem rl16_16 (x : Nat) (h : x < 4294967296) : rl (rl x 16) 16 = x := by
  rw [rl16 _ (rl16_lt x h), rl16 x h]; omega
theorem xor_lt32 {a b : Nat} (ha : a < 4294967296) (hb : b < 4294967296) : a ^^^ b < 4294967296 := Nat.xor_lt_two_pow (n := 32) ha hb
theorem xor_twice (a b : Nat) : (a ^^^ b) ^^^ b = a := by rw [Nat.xor_assoc, Nat.xor_self, Nat.xor_zero]

/-- four words -/
structure Blk where
  a : Nat
  b : Nat
  c : Nat
  d : Nat
def Blk.ok (v : Blk) : Prop := v.a < 4294967296 ∧ v.b < 4294967296 ∧ v.c < 4294967296 ∧ v.d < 4294967296
/-- the word with a number -/
def Blk.at (v : Blk) : Nat → Nat
  | 0 => v.a
  | 1 => v.b
  | 2 => v.c
  | _ => v.d
theorem Blk.at_lt {v : Blk} (h : v.ok) (i : Nat) : v.at i < 4294967296 := by
  obtain ⟨h1, h2, h3, h4⟩ := h
  match i with
  | 0 => exact h1
  | 1 => exact h2
  | 2 => exact h3
  | n + 3 => exact h4
/-- what a round adds -/
def added (k : Blk) (i : Nat) : Nat := k.at (i % 4) + i * 2654435769
def nextA (k : Blk) (i : Nat) (v : Blk) : Nat := (v.a + v.b + added k i) % 4294967296
def nextD (k : Blk) (i : Nat) (v : Blk) : Nat := rl (v.d ^^^ nextA k i v) 16
def nextC (k : Blk) (i : Nat) (v : Blk) : Nat := (v.c + nextD k i v) % 4294967296
def nextB (k : Blk) (i : Nat) (v : Blk) : Nat := rl (v.b ^^^ nextC k i v) 12
/-- a round -/
def rnd (k : Blk) (i : Nat) (v : Blk) : Blk := ⟨nextB k i v, nextC k i v, nextD k i v, nextA k i v⟩
/-- so many rounds -/
def fwd (k : Blk) : Nat → Blk → Blk
  | 0, v => v
  | n + 1, v => rnd k n (fwd k n v)
/-- the way back of a round: the words are (b, c, d, a) -/
def lastB (v : Blk) : Nat := rl v.a 20 ^^^ v.b
def lastC (v : Blk) : Nat := (v.b + (4294967296 - v.c)) % 4294967296
def lastD (v : Blk) : Nat := rl v.c 16 ^^^ v.d
def lastA (k : Blk) (i : Nat) (v : Blk) : Nat := (v.d + (4294967296 - (lastB v + added k i) % 4294967296)) % 4294967296
def unrnd (k : Blk) (i : Nat) (v : Blk) : Blk := ⟨lastA k i v, lastB v, lastC v, lastD v⟩
/-- so many of the last rounds undone -/
def bwd (k : Blk) : Nat → Blk → Blk
  | 0, v => v
  | n + 1, v => unrnd k (11 - n) (bwd k n v)

theorem nextA_lt (k : Blk) (i : Nat) (v : Blk) : nextA k i v < 4294967296 := Nat.mod_lt _ (by decide)
theorem nextD_lt (k : Blk) (i : Nat) (v : Blk) (h : v.ok) : nextD k i v < 4294967296 := rl16_lt _ (xor_lt32 h.2.2.2 (nextA_lt k i v))
theorem nextC_lt (k : Blk) (i : Nat) (v : Blk) : nextC k i v < 4294967296 := Nat.mod_lt _ (by decide)
theorem nextB_lt (k : Blk) (i : Nat) (v : Blk) (h : v.ok) : nextB k i v < 4294967296 := rl12_lt _ (xor_lt32 h.2.1 (nextC_lt k i v))
theorem rnd_ok (k : Blk) (i : Nat) (v : Blk) (h : v.ok) : (rnd k i v).ok := ⟨nextB_lt k i v h, nextC_lt k i v, nextD_lt k i v h, nextA_lt k i v⟩
theorem fwd_ok (k : Blk) (n : Nat) (v : Blk) (h : v.ok) : (fwd k n v).ok := by
  induction n with
  | zero => exact h
  | succ n ih => exact rnd_ok k n _ ih
theorem lastA_lt (k : Blk) (i : Nat) (v : Blk) : lastA k i v < 4294967296 := Nat.mod_lt _ (by decide)
theorem lastB_lt (v : Blk) (h : v.ok) : lastB v < 4294967296 := xor_lt32 (rl20_lt _ h.1) h.2.1
theorem lastC_lt (v : Blk) : lastC v < 4294967296 := Nat.mod_lt _ (by decide)
theorem lastD_lt (v : Blk) (h : v.ok) : lastD v < 4294967296 := xor_lt32 (rl16_lt _ h.2.2.1) h.2.2.2
theorem unrnd_ok (k : Blk) (i : Nat) (v : Blk) (h : v.ok) : (unrnd k i v).ok := ⟨lastA_lt k i v, lastB_lt v h, lastC_lt v, lastD_lt v h⟩
theorem bwd_ok (k : Blk) (n : Nat) (v : Blk) (h : v.ok) : (bwd k n v).ok := by
  induction n with
  | zero => exact h
  | succ n ih => exact unrnd_ok k _ _ ih

theorem unrnd_rnd (k : Blk) (i : Nat) (v : Blk) (h : v.ok) : unrnd k i (rnd k i v) = v := by
  have hb : lastB (rnd k i v) = v.b := by
    show rl (rl (v.b ^^^ nextC k i v) 12) 20 ^^^ nextC k i v = v.b
    rw [rl12_20 _ (xor_lt32 h.2.1 (nextC_lt k i v)), xor_twice]
  have hc : lastC (rnd k i v) = v.c := by
    show (nextC k i v + (4294967296 - nextD k i v)) % 4294967296 = v.c
    have h1 := nextD_lt k i v h
    have h2 := h.2.2.1
    unfold nextC
    omega
  have hd : lastD (rnd k i v) = v.d := by
    show rl (rl (v.d ^^^ nextA k i v) 16) 16 ^^^ nextA k i v = v.d
    rw [rl16_16 _ (xor_lt32 h.2.2.2 (nextA_lt k i v)), xor_twice]
  have ha : lastA k i (rnd k i v) = v.a := by
    unfold lastA
    rw [hb]
    show (nextA k i v + (4294967296 - (v.b + added k i) % 4294967296)) % 4294967296 = v.a
    have h1 := h.1
    unfold nextA
    omega
  cases v
  simp only [unrnd, hb, hc, hd, ha]
theorem rnd_unrnd (k : Blk) (i : Nat) (v : Blk) (h : v.ok) : rnd k i (unrnd k i v) = v := by
  have ha : nextA k i (unrnd k i v) = v.d := by
    show (lastA k i v + lastB v + added k i) % 4294967296 = v.d
    have h1 := h.2.2.2
    unfold lastA
    omega
  have hd : nextD k i (unrnd k i v) = v.c := by
    unfold nextD
    rw [ha]
    show rl ((rl v.c 16 ^^^ v.d) ^^^ v.d) 16 = v.c
    rw [xor_twice, rl16_16 _ h.2.2.1]
  have hc : nextC k i (unrnd k i v) = v.b := by
    unfold nextC
    rw [hd]
    show ((v.b + (4294967296 - v.c)) % 4294967296 + v.c) % 4294967296 = v.b
    have h1 := h.2.1
    have h2 := h.2.2.1
    omega
  have hb : nextB k i (unrnd k i v) = v.a := by
    unfold nextB
    rw [hc]
    show rl ((rl v.a 20 ^^^ v.b) ^^^ v.b) 12 = v.a
    rw [xor_twice, rl20_12 _ h.1]
  cases v
  simp only [rnd, hb, hc, hd, ha]
theorem fwd_bwd_step (k : Blk) (n : Nat) : ∀ v : Blk, v.ok → n ≤ 12 → bwd k n (fwd k 12 v) = fwd k (12 - n) v := by
  induction n with
  | zero => intro v h hn; rfl
  | succ n ih =>
    intro v h hn
    rw [bwd, ih v h (by omega), show 12 - n = (11 - n) + 1 by omega, fwd, unrnd_rnd _ _ _ (fwd_ok k _ v h), show 12 - (n + 1) = 11 - n by omega]
theorem bwd_fwd (k : Blk) (v : Blk) (h : v.ok) : bwd k 12 (fwd k 12 v) = v := fwd_bwd_step k 12 v h (Nat.le_refl _)
theorem bwd_fwd_step (k : Blk) (n : Nat) : ∀ v : Blk, v.ok → n ≤ 12 → fwd k n (bwd k 12 v) = bwd k (12 - n) v := by
  induction n with
  | zero => intro v h hn; rfl
  | succ n ih =>
    intro v h hn
    rw [fwd, ih v h (by omega), show 12 - n = (11 - n) + 1 by omega, bwd, show 11 - (11 - n) = n by omega, rnd_unrnd _ _ _ (bwd_ok k _ v h), show 12 - (n + 1) = 11 - n by omega]
theorem fwd_bwd (k : Blk) (v : Blk) (h : v.ok) : fwd k 12 (bwd k 12 v) = v := bwd_fwd_step k 12 v h (Nat.le_refl _)

/-- the text of a block -/
def blkL (v : Blk) : List Int := bigL v.a 4 ++ (bigL v.b 4 ++ (bigL v.c 4 ++ bigL v.d 4))
/-- four bytes of a text as a word -/
def wordAt (l : List UInt8) (j : Nat) : Nat := valN ((l.drop (4 * j)).take 4)
/-- the block of a text -/
def blkOf (l : List UInt8) : Blk := ⟨wordAt l 0, wordAt l 1, wordAt l 2, wordAt l 3⟩
def blkS (v : Blk) : ByteArray := strOfNums (blkL v)

theorem wordAt_lt (l : List UInt8) (j : Nat) : wordAt l j < 4294967296 := by
  have h := valN_lt ((l.drop (4 * j)).take 4)
  have h2 : 256 ^ ((l.drop (4 * j)).take 4).length ≤ 256 ^ 4 := Nat.pow_le_pow_right (by omega) (by simp; omega)
  unfold wordAt
  omega
theorem blkOf_ok (l : List UInt8) : (blkOf l).ok := ⟨wordAt_lt l 0, wordAt_lt l 1, wordAt_lt l 2, wordAt_lt l 3⟩
theorem blkL_length (v : Blk) : (blkL v).length = 16 := by simp [blkL, bigL_length]
theorem blkS_size (v : Blk) : (blkS v).size = 16 := by rw [blkS, strOfNums_size, blkL_length]

theorem val4 (b0 b1 b2 b3 : UInt8) : valN [b0, b1, b2, b3] = ((b0.toNat * 256 + b1.toNat) * 256 + b2.toNat) * 256 + b3.toNat := by
  simp [valN]
theorem u8_of (n : Nat) : (UInt8.ofNat (((n % 256 : Nat) : Int)).toNat).toNat = n % 256 := by
  rw [Int.toNat_natCast, UInt8.toNat_ofNat']
  omega
theorem list16 (l : List UInt8) (h : l.length = 16) : ∃ x0 x1 x2 x3 x4 x5 x6 x7 x8 x9 xa xb xc xd xe xf, l = [x0, x1, x2, x3, x4, x5, x6, x7, x8, x9, xa, xb, xc, xd, xe, xf] := by
  match l, h with
  | [x0, x1, x2, x3, x4, x5, x6, x7, x8, x9, xa, xb, xc, xd, xe, xf], _ => exact ⟨_, _, _, _, _, _, _, _, _, _, _, _, _, _, _, _, rfl⟩
theorem u8_back (b : UInt8) (n : Nat) (h : n % 256 = b.toNat) : UInt8.ofNat (((n % 256 : Nat) : Int)).toNat = b := by
  apply UInt8.toNat_inj.1
  rw [u8_of, h]
theorem val_four (v : Nat) (h : v < 4294967296) : ((v / 256 ^ 3 % 256 * 256 + v / 256 ^ 2 % 256) * 256 + v / 256 ^ 1 % 256) * 256 + v / 256 ^ 0 % 256 = v := by omega
theorem blkOf_blkS (v : Blk) (h : v.ok) : blkOf (blkS v).data.toList = v := by
  obtain ⟨h1, h2, h3, h4⟩ := h
  cases v with | mk a b c d =>
  simp only at h1 h2 h3 h4
  simp only [blkOf, blkS, blkL, strOfNums_data, wordAt, bigL, List.map_cons, List.map_nil, List.cons_append, List.nil_append, Nat.mul_zero, List.drop_zero, List.take_succ_cons, List.take_zero, Nat.reduceMul, List.drop_succ_cons, val4, u8_of]
  rw [val_four a h1, val_four b h2, val_four c h3, val_four d h4]
theorem big_four (b0 b1 b2 b3 : UInt8) : (bigL (valN [b0, b1, b2, b3]) 4).map (fun z => UInt8.ofNat z.toNat) = [b0, b1, b2, b3] := by
  rw [val4]
  have e0 := b0.toNat_lt
  have e1 := b1.toNat_lt
  have e2 := b2.toNat_lt
  have e3 := b3.toNat_lt
  simp only [bigL, List.map_cons, List.map_nil]
  rw [u8_back b0 _ (by omega), u8_back b1 _ (by omega), u8_back b2 _ (by omega), u8_back b3 _ (by omega)]
theorem blkS_blkOf (s : ByteArray) (h : s.size = 16) : blkS (blkOf s.data.toList) = s := by
  obtain ⟨x0, x1, x2, x3, x4, x5, x6, x7, x8, x9, xa, xb, xc, xd, xe, xf, hl⟩ := list16 s.data.toList (by simpa using h)
  apply ByteArray.ext
  apply Array.toList_inj.1
  rw [hl]
  simp only [blkS, blkL, strOfNums_data, List.map_append, blkOf, wordAt, Nat.mul_zero, List.drop_zero, List.take_succ_cons, List.take_zero, Nat.reduceMul, List.drop_succ_cons, big_four, List.cons_append, List.nil_append]

/-- a block stirred by a key; and the way back -/
def turnS (k s : ByteArray) : ByteArray := blkS (fwd (blkOf k.data.toList) 12 (blkOf s.data.toList))
def backS (k s : ByteArray) : ByteArray := blkS (bwd (blkOf k.data.toList) 12 (blkOf s.data.toList))
theorem turnS_size (k s : ByteArray) : (turnS k s).size = 16 := blkS_size _
theorem backS_size (k s : ByteArray) : (backS k s).size = 16 := blkS_size _
theorem turn_back (k s : ByteArray) (h : s.size = 16) : turnS k (backS k s) = s := by
  unfold turnS backS
  rw [blkOf_blkS _ (bwd_ok _ _ _ (blkOf_ok _)), fwd_bwd _ _ (blkOf_ok _), blkS_blkOf s h]
theorem back_turn (k s : ByteArray) (h : s.size = 16) : backS k (turnS k s) = s := by
  unfold turnS backS
  rw [blkOf_blkS _ (fwd_ok _ _ _ (blkOf_ok _)), bwd_fwd _ _ (blkOf_ok _), blkS_blkOf s h]
theorem turn_inj (k a b : ByteArray) (ha : a.size = 16) (hb : b.size = 16) : turnS k a = turnS k b ↔ a = b :=
  ⟨fun e => by rw [← back_turn k a ha, e, back_turn k b hb], fun e => by rw [e]⟩
end Go.Proofs.YtckkhpegimkefaaGreatDoor
namespace Go.Proofs.YtckkhpegimkefaaGreatDoor
open Go.RowKit
set_option linter.unusedVariables false

def zeroB : Blk := ⟨0, 0, 0, 0⟩
theorem zeroB_ok : zeroB.ok := by unfold zeroB Blk.ok; decide
def xorB (u v : Blk) : Blk := ⟨u.a ^^^ v.a, u.b ^^^ v.b, u.c ^^^ v.c, u.d ^^^ v.d⟩
theorem xorB_ok {u v : Blk} (h : u.ok) (k : v.ok) : (xorB u v).ok := ⟨xor_lt32 h.1 k.1, xor_lt32 h.2.1 k.2.1, xor_lt32 h.2.2.1 k.2.2.1, xor_lt32 h.2.2.2 k.2.2.2⟩
/-- h becomes Turn(piece, h) exclusive-or h -/
def foldStep (h p : Blk) : Blk := xorB (fwd p 12 h) h
theorem foldStep_ok {h : Blk} (hk : h.ok) (p : Blk) : (foldStep h p).ok := xorB_ok (fwd_ok p 12 h hk) hk
def piece (l : List UInt8) (i : Nat) : List UInt8 := (l.drop (16 * i)).take 16
/-- behind so many pieces of a text -/
def foldN (l : List UInt8) : Nat → Blk
  | 0 => zeroB
  | k + 1 => foldStep (foldN l k) (blkOf (piece l k))
theorem foldN_ok (l : List UInt8) (k : Nat) : (foldN l k).ok := by
  induction k with
  | zero => exact zeroB_ok
  | succ k ih => exact foldStep_ok ih _

/-- bytes of numbers -/
def bytesOf (xs : List Int) : List UInt8 := xs.map fun z => UInt8.ofNat z.toNat
/-- what stands behind a text of n bytes -/
def fillN (n : Nat) : Nat := 15 - n % 16
def padded (l : List UInt8) : List UInt8 := l ++ (128 :: (List.replicate (fillN l.length) 0 ++ (List.replicate 8 0 ++ bytesOf (bigL l.length 8))))
theorem padded_length (l : List UInt8) : (padded l).length = 16 * (l.length / 16 + 2) := by
  simp only [padded, List.length_append, List.length_cons, List.length_replicate, bytesOf, List.length_map, bigL_length, fillN]
  omega
/-- the fold of a text -/
def foldB (l : List UInt8) : Blk := foldN (padded l) (l.length / 16 + 2)
def foldS (s : ByteArray) : ByteArray := blkS (foldB s.data.toList)
theorem foldS_size (s : ByteArray) : (foldS s).size = 16 := blkS_size _
theorem foldB_ok (l : List UInt8) : (foldB l).ok := foldN_ok _ _

theorem piece_same (l r : List UInt8) (i : Nat) (h : 16 * (i + 1) ≤ l.length) : piece (l ++ r) i = piece l i := by
  unfold piece
  rw [List.drop_append_of_le_length (by omega), List.take_append_of_le_length (by simp; omega)]
theorem foldN_same (l r : List UInt8) (k : Nat) (h : 16 * k ≤ l.length) : foldN (l ++ r) k = foldN l k := by
  induction k with
  | zero => rfl
  | succ k ih => rw [foldN, foldN, ih (by omega), piece_same l r k (by omega)]
/-- the piece that the text ends in -/
def lastPiece (l : List UInt8) : List UInt8 := l.drop (16 * (l.length / 16)) ++ 128 :: List.replicate (fillN l.length) 0
theorem lastPiece_length (l : List UInt8) : (lastPiece l).length = 16 := by
  simp only [lastPiece, List.length_append, List.length_drop, List.length_cons, List.length_replicate, fillN]
  omega
theorem padded_split (l : List UInt8) : padded l = (l ++ 128 :: List.replicate (fillN l.length) 0) ++ (List.replicate 8 0 ++ bytesOf (bigL l.length 8)) := by
  simp [padded]
theorem piece_last (l : List UInt8) : piece (padded l) (l.length / 16) = lastPiece l := by
  rw [padded_split, piece_same _ _ _ (by simp only [List.length_append, List.length_cons, List.length_replicate, fillN]; omega)]
  unfold piece
  rw [List.drop_append_of_le_length (by omega)]
  exact List.take_of_length_le (Nat.le_of_eq (lastPiece_length l))
theorem piece_size (l : List UInt8) : piece (padded l) (l.length / 16 + 1) = List.replicate 8 0 ++ bytesOf (bigL l.length 8) := by
  rw [padded_split]
  unfold piece
  rw [List.drop_append_of_le_length (by simp only [List.length_append, List.length_cons, List.length_replicate, fillN]; omega), List.drop_of_length_le (by simp only [List.length_append, List.length_cons, List.length_replicate, fillN]; omega), List.nil_append]
  exact List.take_of_length_le (by simp [bytesOf, bigL_length])
theorem blkOf_size (n : Nat) (h : n < 18446744073709551616) : blkOf (List.replicate 8 0 ++ bytesOf (bigL n 8)) = ⟨0, 0, n / 4294967296, n % 4294967296⟩ := by
  simp only [List.replicate_succ, List.replicate_zero, blkOf, wordAt, bytesOf, bigL, List.map_cons, List.map_nil, List.cons_append, List.nil_append, Nat.mul_zero, List.drop_zero, List.take_succ_cons, List.take_zero, Nat.reduceMul, List.drop_succ_cons, val4, u8_of]
  congr 1
  · omega
  · omega
/-- the fold as the program makes it -/
theorem foldB_eq (l : List UInt8) (h : l.length < 18446744073709551616) : foldB l = foldStep (foldStep (foldN l (l.length / 16)) (blkOf (lastPiece l))) ⟨0, 0, l.length / 4294967296, l.length % 4294967296⟩ := by
  unfold foldB
  rw [show l.length / 16 + 2 = (l.length / 16 + 1) + 1 by omega, foldN, foldN, piece_last, piece_size, blkOf_size _ h]
  congr 2
  exact foldN_same _ _ _ (by omega)
end Go.Proofs.YtckkhpegimkefaaGreatDoor
namespace Go.Proofs.YtckkhpegimkefaaGreatDoor
open Go.RowKit
set_option linter.unusedVariables false

/-- a part, with how long it is ahead -/
def partL (p : ByteArray) : List UInt8 := bytesOf (bigL p.size 4) ++ p.data.toList
def rowL : List ByteArray → List UInt8
  | [] => []
  | p :: r => partL p ++ rowL r
def rowS (l : List ByteArray) : ByteArray := ⟨(rowL l).toArray⟩
theorem rowS_data (l : List ByteArray) : (rowS l).data.toList = rowL l := by simp [rowS]
theorem rowL_append (a b : List ByteArray) : rowL (a ++ b) = rowL a ++ rowL b := by
  induction a with
  | nil => rfl
  | cons p r ih => rw [List.cons_append, rowL, rowL, ih, List.append_assoc]
theorem partL_length (p : ByteArray) : (partL p).length = 4 + p.size := by
  simp [partL, bytesOf, bigL_length]
theorem big4_inj (m n : Nat) (hm : m < 4294967296) (hn : n < 4294967296) (h : bytesOf (bigL m 4) = bytesOf (bigL n 4)) : m = n := by
  simp only [bytesOf, bigL, List.map_cons, List.map_nil, List.cons.injEq, and_true] at h
  obtain ⟨h3, h2, h1, h0⟩ := h
  have e3 := congrArg UInt8.toNat h3
  have e2 := congrArg UInt8.toNat h2
  have e1 := congrArg UInt8.toNat h1
  have e0 := congrArg UInt8.toNat h0
  rw [u8_of, u8_of] at e0 e1 e2 e3
  omega
theorem row_inj (a : List ByteArray) : ∀ b : List ByteArray, (∀ p ∈ a, p.size < 4294967296) → (∀ p ∈ b, p.size < 4294967296) → rowL a = rowL b → a = b := by
  induction a with
  | nil =>
    intro b _ _ h
    cases b with
    | nil => rfl
    | cons q r =>
      have := congrArg List.length h
      rw [rowL, rowL, List.length_append, partL_length] at this
      simp only [List.length_nil] at this
      omega
  | cons p r ih =>
    intro b ha hb h
    cases b with
    | nil =>
      have := congrArg List.length h
      rw [rowL, rowL, List.length_append, partL_length] at this
      simp only [List.length_nil] at this
      omega
    | cons q t =>
      rw [rowL, rowL, partL, partL, List.append_assoc, List.append_assoc] at h
      obtain ⟨h1, h2⟩ := List.append_inj h (by simp [bytesOf, bigL_length])
      have hs := big4_inj _ _ (ha p (by simp)) (hb q (by simp)) h1
      obtain ⟨h3, h4⟩ := List.append_inj h2 (by simpa using hs)
      rw [ih t (fun x hx => ha x (by simp [hx])) (fun x hx => hb x (by simp [hx])) h4]
      congr 1
      exact ByteArray.ext (Array.toList_inj.1 h3)
/-- how many bytes a row has -/
def rowN : List ByteArray → Nat
  | [] => 0
  | p :: r => 4 + p.size + rowN r
theorem rowL_length (l : List ByteArray) : (rowL l).length = rowN l := by
  induction l with
  | nil => rfl
  | cons p r ih => rw [rowL, rowN, List.length_append, partL_length, ih]
theorem rowS_size (l : List ByteArray) : (rowS l).size = rowN l := by
  rw [← rowL_length]; simp [rowS, ByteArray.size]
theorem rowS_inj (a b : List ByteArray) (ha : ∀ p ∈ a, p.size < 4294967296) (hb : ∀ p ∈ b, p.size < 4294967296) : rowS a = rowS b ↔ a = b :=
  ⟨fun h => row_inj a b ha hb (by rw [← rowS_data, h, rowS_data]), fun h => by rw [h]⟩
end Go.Proofs.YtckkhpegimkefaaGreatDoor
namespace Go.Proofs.YtckkhpegimkefaaGreatDoor
open Go.RowKit
set_option linter.unusedVariables false

theorem wraps_u32 (n : Int) (h₀ : 0 ≤ n) (h₁ : n < 2 ^ 32) : IntKind.u32.wrap n = n := by
  simp [IntKind.wrap, IntKind.bits, IntKind.signed]
  omega
theorem wrap_u32_nat (n : Nat) : IntKind.u32.wrap (n : Int) = ((n % 4294967296 : Nat) : Int) := by
  simp [IntKind.wrap, IntKind.bits, IntKind.signed]
theorem or_nat (k : IntKind) (j : Nat) (hj : j ≤ k.bits) (hk : ∀ n : Int, 0 ≤ n → n < 2 ^ j → k.wrap n = n) (a b : Nat) (ha : a < 2 ^ j) (hb : b < 2 ^ j) : bits .or k a b = ((a ||| b : Nat) : Int) := by
  have hp : 2 ^ j ≤ 2 ^ k.bits := Nat.pow_le_pow_right (by decide) hj
  have hx : a ||| b < 2 ^ j := Nat.or_lt_two_pow ha hb
  simp only [bits, BitVec.toNat_or, BitVec.toNat_ofInt]
  have ea : ((a : Int) % ((2 ^ k.bits : Nat) : Int)).toNat = a := by
    rw [← Int.natCast_emod, Int.toNat_natCast, Nat.mod_eq_of_lt (Nat.lt_of_lt_of_le ha hp)]
  have eb : ((b : Int) % ((2 ^ k.bits : Nat) : Int)).toNat = b := by
    rw [← Int.natCast_emod, Int.toNat_natCast, Nat.mod_eq_of_lt (Nat.lt_of_lt_of_le hb hp)]
  rw [ea, eb]
  exact hk _ (by omega) (by exact_mod_cast hx)
theorem xor_natM (k : IntKind) (j : Nat) (hj : j ≤ k.bits) (hk : ∀ n : Int, 0 ≤ n → n < 2 ^ j → k.wrap n = n) (a b : Nat) (ha : a < 2 ^ j) (hb : b < 2 ^ j) : bits .xor k a b = ((a ^^^ b : Nat) : Int) := by
  have hp : 2 ^ j ≤ 2 ^ k.bits := Nat.pow_le_pow_right (by decide) hj
  have hx : a ^^^ b < 2 ^ j := Nat.xor_lt_two_pow ha hb
  simp only [bits, BitVec.toNat_xor, BitVec.toNat_ofInt]
  have ea : ((a : Int) % ((2 ^ k.bits : Nat) : Int)).toNat = a := by
    rw [← Int.natCast_emod, Int.toNat_natCast, Nat.mod_eq_of_lt (Nat.lt_of_lt_of_le ha hp)]
  have eb : ((b : Int) % ((2 ^ k.bits : Nat) : Int)).toNat = b := by
    rw [← Int.natCast_emod, Int.toNat_natCast, Nat.mod_eq_of_lt (Nat.lt_of_lt_of_le hb hp)]
  rw [ea, eb]
  exact hk _ (by omega) (by exact_mod_cast hx)
theorem or_u32 (a b : Nat) (ha : a < 4294967296) (hb : b < 4294967296) : bits .or .u32 a b = ((a ||| b : Nat) : Int) := or_nat .u32 32 (by decide) wraps_u32 a b ha hb
theorem xor_u32 (a b : Nat) (ha : a < 4294967296) (hb : b < 4294967296) : bits .xor .u32 a b = ((a ^^^ b : Nat) : Int) := xor_natM .u32 32 (by decide) wraps_u32 a b ha hb

theorem rot_bits (x n m k : Nat) (hx : x < 4294967296) (hm : m = 2 ^ n) (hk : k = 2 ^ (32 - n)) : bits .or .u32 ((x : Int) * (m : Int) % 4294967296) ((x : Int) / (k : Int)) = (rl x n : Nat) := by
  rw [show (x : Int) * (m : Int) % 4294967296 = ((x * m % 4294967296 : Nat) : Int) by simp, show (x : Int) / (k : Int) = ((x / k : Nat) : Int) by simp, or_u32 _ _ (Nat.mod_lt _ (by decide)) (Nat.lt_of_le_of_lt (Nat.div_le_self _ _) hx), hm, hk]
  rfl
set_option maxHeartbeats 1000000 in
set_option maxRecDepth 100000 in
theorem rot16_any (x : Nat) (hx : x < 4294967296) (w : World) :
    Calls Tryz.prog 106 #[.int .u32 x, .int .i64 16] w fun e w' => e = .returned (.int .u32 (rl x 16 : Nat)) ∧ w' = w := by
  have hr : bits .or .u32 ((x : Int) * 65536 % 4294967296) ((x : Int) / 65536) = (rl x 16 : Nat) := rot_bits x 16 65536 65536 hx (by decide) (by decide)
  have hm : bits .and .u64 16 31 = 16 := by decide
  clear hx
  go_enter Tryz.func106, Tryz.ntmps106
  go_wp2
  go_ret
  exact ⟨rfl, rfl⟩
set_option maxHeartbeats 1000000 in
set_option maxRecDepth 100000 in
theorem rot12_any (x : Nat) (hx : x < 4294967296) (w : World) :
    Calls Tryz.prog 106 #[.int .u32 x, .int .i64 12] w fun e w' => e = .returned (.int .u32 (rl x 12 : Nat)) ∧ w' = w := by
  have hr : bits .or .u32 ((x : Int) * 4096 % 4294967296) ((x : Int) / 1048576) = (rl x 12 : Nat) := rot_bits x 12 4096 1048576 hx (by decide) (by decide)
  have hm : bits .and .u64 12 31 = 12 := by decide
  clear hx
  go_enter Tryz.func106, Tryz.ntmps106
  go_wp2
  go_ret
  exact ⟨rfl, rfl⟩
set_option maxHeartbeats 1000000 in
set_option maxRecDepth 100000 in
theorem rotm12_any (x : Nat) (hx : x < 4294967296) (w : World) :
    Calls Tryz.prog 106 #[.int .u32 x, .int .i64 (-12)] w fun e w' => e = .returned (.int .u32 (rl x 20 : Nat)) ∧ w' = w := by
  have hr : bits .or .u32 ((x : Int) * 1048576 % 4294967296) ((x : Int) / 4096) = (rl x 20 : Nat) := rot_bits x 20 1048576 4096 hx (by decide) (by decide)
  have hm : bits .and .u64 (IntKind.u64.wrap (-12)) 31 = 20 := by decide
  clear hx
  go_enter Tryz.func106, Tryz.ntmps106
  go_wp2
  go_ret
  exact ⟨rfl, rfl⟩
set_option maxHeartbeats 1000000 in
set_option maxRecDepth 100000 in
theorem rotm16_any (x : Nat) (hx : x < 4294967296) (w : World) :
    Calls Tryz.prog 106 #[.int .u32 x, .int .i64 (-16)] w fun e w' => e = .returned (.int .u32 (rl x 16 : Nat)) ∧ w' = w := by
  have hr : bits .or .u32 ((x : Int) * 65536 % 4294967296) ((x : Int) / 65536) = (rl x 16 : Nat) := rot_bits x 16 65536 65536 hx (by decide) (by decide)
  have hm : bits .and .u64 (IntKind.u64.wrap (-16)) 31 = 16 := by decide
  clear hx
  go_enter Tryz.func106, Tryz.ntmps106
  go_wp2
  go_ret
  exact ⟨rfl, rfl⟩
end Go.Proofs.YtckkhpegimkefaaGreatDoor
