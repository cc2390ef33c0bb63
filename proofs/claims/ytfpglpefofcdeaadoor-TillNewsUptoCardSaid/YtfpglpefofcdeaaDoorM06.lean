/- The small helpers of the reference: bytes, Big, Value: what each call answers, and that nothing old is turned. -/
import Derived.Test.YtfpglpefofcdeaaDoorM02
import Derived.WalkKit
import Derived.WalkSpells
import Derived.WalkLawsBesides
import Derived.Laws.BytesArg
namespace Go.Proofs.YtfpglpefofcdeaaDoor
open Go.RowKit

theorem infoByte : (Tryd.prog.info? 5).map (fun i => (i.zero, i.size, i.bytes)) = some (some (.int .u8 0), 1, 1) := by kernel_rfl

/-- k bytes of a number, the high one first -/
def bigL (n : Nat) : Nat → List Int
  | 0 => []
  | k + 1 => ((n / 256 ^ k % 256 : Nat) : Int) :: bigL n k

theorem bigL_length (n k : Nat) : (bigL n k).length = k := by
  induction k with
  | zero => rfl
  | succ k ih => simp [bigL, ih]

theorem strOfNums_append (xs ys : List Int) : strOfNums xs ++ strOfNums ys = strOfNums (xs ++ ys) := by
  apply ByteArray.ext
  simp [strOfNums]

theorem bigL_bytes (n k : Nat) : ∀ z ∈ bigL n k, 0 ≤ z ∧ z < 256 := by
  induction k with
  | zero => simp [bigL]
  | succ k ih =>
    intro z hz
    simp only [bigL, List.mem_cons] at hz
    rcases hz with h | h
    · omega
    · exact ih z h

theorem wrap_pow (k : Nat) (h : k < 8) : wrap64 (2 ^ (8 * k)) = ((256 ^ k : Nat) : Int) := by
  have hk : k = 0 ∨ k = 1 ∨ k = 2 ∨ k = 3 ∨ k = 4 ∨ k = 5 ∨ k = 6 ∨ k = 7 := by omega
  rcases hk with rfl | rfl | rfl | rfl | rfl | rfl | rfl | rfl <;> (unfold wrap64; decide)

theorem take_snoc (s : ByteArray) (k : Nat) (h : k < s.size) : s.data.toList.take (k + 1) = s.data.toList.take k ++ [s[k]] := by
  rw [List.take_succ_eq_append_getElem (by simpa using h)]; rfl

/-- the byte at a place -/
def byteAt (s : ByteArray) (i : Nat) : Nat := (s.data.toList.getD i 0).toNat
theorem byteAt_lt (s : ByteArray) (i : Nat) : byteAt s i < 256 := UInt8.toNat_lt _
theorem get_byte (s : ByteArray) (i : Nat) (h : i < s.size) : ((s[i]'h).toNat : Int) = (byteAt s i : Int) := by
  unfold byteAt
  have e : s.data.toList.getD i 0 = s[i]'h := by
    rw [List.getD_eq_getElem?_getD, List.getElem?_eq_getElem (by simpa using h)]; rfl
  rw [e]
/-- the byte that a number is cut to -/
def lowByte (n : Int) : Int := n % 256
theorem lowByte_mod (m : Int) : lowByte (m % 256) = m % 256 := by unfold lowByte; omega

theorem owned_cells {w : World} {base n : Nat} {v : Value} {xs : List Int} (h : w.ownsRow base 5 1 v n (xs.map (Value.int .u8))) :
    (v = .slice none 0 0 ∧ xs = []) ∨ ∃ g cap, v = .slice (some ⟨g, 0, none⟩) n cap ∧ xs.length = n ∧ ∀ i, i < n → w.cell? ⟨g, 0 + i, none⟩ = some (.int .u8 (xs.getD i 0)) := by
  have h' := h
  obtain ⟨h1, h2⟩ := h
  have hl : xs.length = n := by simpa using h1
  rcases h2 with ⟨rfl, rfl⟩ | ⟨g, cap, cur, rfl, hg, hh, r⟩
  · exact .inl ⟨rfl, List.length_eq_zero_iff.1 hl⟩
  · refine .inr ⟨g, cap, rfl, hl, fun i hi => ?_⟩
    have := h'.cells (g := g) rfl i (.int .u8 (xs.getD i 0)) (by simp [List.getElem?_eq_getElem (show i < xs.length by omega)])
    rw [show (⟨g, 0, none⟩ : Addr).add i = ⟨g, 0 + i, none⟩ from by unfold Addr.add; split <;> simp_all] at this
    exact this

set_option maxHeartbeats 1000000 in
theorem bytes_any (zs : List Int) (b off len cap : Nat) (w : World) (hlen : zs.length = len) (hl : len ≤ 1000) (hbB : b < w.heap.size)
    (hc : ∀ i, i < len → w.cell? ⟨b, off + i, none⟩ = some (.int .i64 (zs.getD i 0))) :
    Calls Tryd.prog 49 #[.slice (some ⟨b, off, none⟩) len cap] w fun e w' => e = .returned (.string (strOfNums (zs.map lowByte))) ∧ Below w.heap.size w w' := by
  obtain ⟨i0, hi, hz0, hz1, hz2⟩ := info_parts infoByte
  go_enter Tryd.func49, Tryd.ntmps49
  go_wp2
  go_loopw [3, 4] (fun v i wr => ∃ k : Nat, k ≤ len ∧ i = .int .i64 k ∧ wr.ownsRow w.heap.size 5 1 v k (((zs.take k).map lowByte).map (Value.int .u8)) ∧ Below w.heap.size w wr)
    (fun _ i _ => len - (intOf i).toNat)
  case atStart => exact ⟨0, Nat.zero_le _, rfl, World.ownsRow_nil _ _ _ _, Below.refl _ _⟩
  case round =>
    obtain ⟨k, hk, rfl, hown, hnx⟩ := hrel
    have hcx : k < len → wr.cell? ⟨b, off + k, none⟩ = some (.int .i64 (zs.getD k 0)) := fun h => (hnx.cell (by exact hbB)).trans (hc k h)
    by_cases hlt : k < len
    · obtain ⟨x, hx⟩ : ∃ x, x = zs.getD k 0 := ⟨_, rfl⟩
      have hcy := hcx hlt
      rw [← hx] at hcy
      have HX : Hid (x = zs.getD k 0) := hx
      clear hx hcx hc
      go_wp2_with (at_builtin; refine wpList_append_own _ rfl _ _ 114 rfl w.heap.size 5 i0 (.int .u8 0) 1 1 Tryd.underlying114 hi hz0 hz1 hz2 rfl (by decide) _ _ _ rfl (hown.alloc _) ⟨wr.heap.size, 0, none⟩ 1 1 [.int .u8 (x % 256)] rfl rfl (cell_one_new _ _ _) ?c2 ?c3 ?c4 ?c5 ?_)
      case c2 => intro u hu; simp at hu; subst hu; rfl
      case c3 => unfold maxLen; omega
      case c4 => omega
      case c5 => have := hnx.size; simp; omega
      intro v' w1 hown' hgrow _
      have hb1 : Below w.heap.size w w1 := (hnx.alloc hnx.size _).grown hgrow (by have := hnx.size; simp; omega) (fun q hq => ((hown.lt q hq).1))
      have hown2 : w1.ownsRow w.heap.size 5 1 v' (k + 1) (((zs.take (k + 1)).map lowByte).map (Value.int .u8)) := by
        rw [List.take_succ_eq_append_getElem (by omega)]
        have e : x = zs[k] := by rw [HX.out]; simp [List.getElem?_eq_getElem (show k < zs.length by omega)]
        rw [e] at hown'
        rw [List.map_append, List.map_append]
        simpa [lowByte] using hown'
      clear hown' hgrow hown hnx
      go_wp2
      go_roundw
      case rel => exact ⟨k + 1, by omega, by go_num, hown2, hb1⟩
      case measure => simp [intOf]; omega
    · have hkl : k = len := by omega
      subst hkl
      clear hcx hc
      rcases owned_cells hown with ⟨hv, hn⟩ | ⟨g, cap', hv, _, hcl⟩
      · have hcv := run_convert_bytes_nil (P := Tryd.prog) wr 114 5 Tryd.underlying114 Tryd.underlying5 0 0 9 Tryd.underlying9
        subst hv
        clear hown
        have hz : zs = [] := by simpa [List.take_of_length_le (Nat.le_of_eq hlen)] using hn
        subst hz
        go_wp2
        go_ret
        exact ⟨rfl, hnx⟩
      · have hcv := run_convert_bytes_arg (P := Tryd.prog) wr 114 5 Tryd.underlying114 Tryd.underlying5 g 0 k cap' _ (by simp; omega) hcl 9 Tryd.underlying9
        rw [List.take_of_length_le (Nat.le_of_eq hlen)] at hcv
        subst hv
        clear hown hcl
        go_wp2
        go_ret
        exact ⟨rfl, hnx⟩

/-- of one number -/
theorem bytes_one (x : Int) (b off cap : Nat) (w : World) (hbB : b < w.heap.size) (hc : w.cell? ⟨b, off, none⟩ = some (.int .i64 x)) :
    Calls Tryd.prog 49 #[.slice (some ⟨b, off, none⟩) 1 cap] w fun e w' => e = .returned (.string (strOfNums [lowByte x])) ∧ Below w.heap.size w w' :=
  bytes_any [x] b off 1 cap w rfl (by omega) hbB (fun i hi => by
    have h0 : i = 0 := by omega
    subst h0
    exact hc)

set_option maxHeartbeats 1000000 in
theorem big_any (n : Nat) (k : Nat) (w : World) (hk : k ≤ 8) (hn : n ≤ 9223372036854775807) :
    Calls Tryd.prog 71 #[.int .i64 n, .int .i64 k] w fun e w' => e = .returned (.string (strOfNums (bigL n k))) ∧ Below w.heap.size w w' := by
  go_enter Tryd.func71, Tryd.ntmps71
  go_wp2
  go_loopw [0, 5, 6] (fun m s i wr => ∃ j : Nat, j ≤ k ∧ i = .int .i64 j ∧ m = .int .i64 (n / 256 ^ j : Nat) ∧ s = .string (strOfNums (bigL n j)) ∧ Below w.heap.size w wr)
    (fun _ _ i _ => k - (intOf i).toNat)
  case atStart => exact ⟨0, Nat.zero_le _, rfl, by simp, rfl, Below.refl _ _⟩
  case round =>
    obtain ⟨j, hj, rfl, rfl, rfl, hnx⟩ := hrel
    obtain ⟨m, hm⟩ : ∃ m, m = n / 256 ^ j := ⟨_, rfl⟩
    have hmle : m ≤ 9223372036854775807 := by rw [hm]; exact Nat.le_trans (Nat.div_le_self _ _) hn
    rw [← hm]
    have HM : Hid (m = n / 256 ^ j) := hm
    clear hm
    by_cases hlt : j < k
    · have hsz1 : (strOfNums [(m : Int) % 256]).size ≤ 1 := by simp [strOfNums_size]
      have hsz2 : (strOfNums (bigL n j)).size ≤ 8 := by rw [strOfNums_size, bigL_length]; omega
      go_wp2_with fail
      refine (bytes_one ((m : Int) % 256) _ _ _ _ (by simp) (by simp)).mono ?_
      rintro e w1 ⟨rfl, hb1⟩
      rw [lowByte_mod]
      have hb2 : Below w.heap.size w w1 := (hnx.alloc hnx.size _).trans (hb1.mono (by have := hnx.size; simp; omega))
      clear hnx hb1
      go_wp2
      go_roundw
      case rel =>
        refine ⟨j + 1, by omega, by go_num, ?_, ?_, hb2⟩
        · rw [HM.out, Nat.pow_succ, ← Nat.div_div_eq_div_mul]; rfl
        · rw [strOfNums_append]; simp only [bigL, List.singleton_append, ← HM.out]; rfl
      case measure => simp [intOf]; omega
    · have hkl : j = k := by omega
      subst hkl
      go_wp2
      go_ret
      exact ⟨rfl, hnx⟩

end Go.Proofs.YtfpglpefofcdeaaDoor
namespace Go.Proofs.YtfpglpefofcdeaaDoor
open Go.RowKit

/-- the number that bytes say, the high one first -/
def valN (l : List UInt8) : Nat := l.foldl (fun n b => n * 256 + b.toNat) 0
theorem valN_snoc (l : List UInt8) (b : UInt8) : valN (l ++ [b]) = valN l * 256 + b.toNat := by simp [valN, List.foldl_append]
theorem foldl_ge (l : List UInt8) : ∀ a : Nat, a ≤ l.foldl (fun n b => n * 256 + b.toNat) a := by
  induction l with
  | nil => intro a; simp
  | cons b l ih => intro a; rw [List.foldl_cons]; exact Nat.le_trans (by omega) (ih _)
theorem valN_take_le (l : List UInt8) (k : Nat) : valN (l.take k) ≤ valN l := by
  rw (occs := .pos [2]) [← List.take_append_drop k l]
  unfold valN
  rw [List.foldl_append]
  exact foldl_ge _ _
theorem valN_lt (l : List UInt8) : valN l < 256 ^ l.length := by
  have h : ∀ (l : List UInt8) (a : Nat), l.foldl (fun n b => n * 256 + b.toNat) a < (a + 1) * 256 ^ l.length := by
    intro l
    induction l with
    | nil => intro a; simp
    | cons b l ih =>
      intro a
      rw [List.foldl_cons, List.length_cons, Nat.pow_succ]
      refine Nat.lt_of_lt_of_le (ih _) ?_
      have hb : b.toNat < 256 := b.toNat_lt
      calc (a * 256 + b.toNat + 1) * 256 ^ l.length ≤ ((a + 1) * 256) * 256 ^ l.length := Nat.mul_le_mul_right _ (by omega)
        _ = (a + 1) * (256 ^ l.length * 256) := by rw [Nat.mul_assoc, Nat.mul_comm 256]
  simpa [valN] using h l 0

end Go.Proofs.YtfpglpefofcdeaaDoor
