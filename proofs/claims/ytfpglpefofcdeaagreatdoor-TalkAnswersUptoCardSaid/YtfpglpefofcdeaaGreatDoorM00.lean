/- Small things of no one function. -/
import Derived.Test.YtfpglpefofcdeaaGreatDoorProg
import Derived.WalkKit
import Derived.WalkSpells
import Derived.WalkLawsBesides
import Derived.Laws.BytesArg
import Derived.Below
import Derived.Laws.AppendOwn
import Derived.Lib.ConvBytes
import Derived.ProofKit
import Derived.OpenShut
import Derived.ShutString
import Derived.ChangeOld
import Derived.Deep.Slices
import Derived.Deep.QuietTactic
import Derived.Deep.RegionWith
import Derived.Deep.DeepCutAuto
import Derived.Deep.CutBlock
namespace Go.Proofs.YtfpglpefofcdeaaGreatDoor
open Go.RowKit

theorem hide {p : Prop} (h : p) : Hid p := h
theorem unhide {p : Prop} (h : Hid p) : p := h
theorem wraps_i64 (n : Int) (h₀ : 0 ≤ n) (h₁ : n < 2 ^ 63) : IntKind.i64.wrap n = n := by rw [IntKind.wrap_i64]; omega
theorem ret_bool {a b : Bool} (h : a = b) : Ending.returned (.bool a) = .returned (.bool b) := by rw [h]
theorem ret_int {k : IntKind} {a b : Int} (h : a = b) : Ending.returned (.int k a) = .returned (.int k b) := by rw [h]
end Go.Proofs.YtfpglpefofcdeaaGreatDoor
namespace Go.Proofs.YtfpglpefofcdeaaGreatDoor
open Go.RowKit

theorem infoByte : (Tryz.prog.info? 5).map (fun i => (i.zero, i.size, i.bytes)) = some (some (.int .u8 0), 1, 1) := by kernel_rfl

/-- k bytes of a number, the high one first -/
def bigL (n : Nat) : Nat → List Int
  | 0 => []
  | k + 1 => ((n / 256 ^ k % 256 : Nat) : Int) :: bigL n k

theorem bigL_length (n k : Nat) : (bigL n k).length = k := by
  induction k with
  | zero => rfl
  | succ k ih => simp [bigL, ih]

theorem strOfNums_append (xs ys : List Int) : strOfNums xs ++ strOfNums ys = strOfNums (xs ++ ys) := by
  apply ByteArray.ext
  simp [strOfNums]

theorem bigL_bytes (n k : Nat) : ∀ z ∈ bigL n k, 0 ≤ z ∧ z < 256 := by
  induction k with
  | zero => simp [bigL]
  | succ k ih =>
    intro z hz
    simp only [bigL, List.mem_cons] at hz
    rcases hz with h | h
    · omega
    · exact ih z h

theorem wrap_pow (k : Nat) (h : k < 8) : wrap64 (2 ^ (8 * k)) = ((256 ^ k : Nat) : Int) := by
  have hk : k = 0 ∨ k = 1 ∨ k = 2 ∨ k = 3 ∨ k = 4 ∨ k = 5 ∨ k = 6 ∨ k = 7 := by omega
  rcases hk with rfl | rfl | rfl | rfl | rfl | rfl | rfl | rfl <;> (unfold wrap64; decide)

theorem take_snoc (s : ByteArray) (k : Nat) (h : k < s.size) : s.data.toList.take (k + 1) = s.data.toList.take k ++ [s[k]] := by
  rw [List.take_succ_eq_append_getElem (by simpa using h)]; rfl

/-- the byte at a place -/
def byteAt (s : ByteArray) (i : Nat) : Nat := (s.data.toList.getD i 0).toNat
theorem byteAt_lt (s : ByteArray) (i : Nat) : byteAt s i < 256 := UInt8.toNat_lt _
theorem get_byte (s : ByteArray) (i : Nat) (h : i < s.size) : ((s[i]'h).toNat : Int) = (byteAt s i : Int) := by
  unfold byteAt
  have e : s.data.toList.getD i 0 = s[i]'h := by
    rw [List.getD_eq_getElem?_getD, List.getElem?_eq_getElem (by simpa using h)]; rfl
  rw [e]
/-- the byte that a number is cut to -/
def lowByte (n : Int) : Int := n % 256
theorem lowByte_mod (m : Int) : lowByte (m % 256) = m % 256 := by unfold lowByte; omega

theorem owned_cells {w : World} {base n : Nat} {v : Value} {xs : List Int} (h : w.ownsRow base 5 1 v n (xs.map (Value.int .u8))) :
    (v = .slice none 0 0 ∧ xs = []) ∨ ∃ g cap, v = .slice (some ⟨g, 0, none⟩) n cap ∧ xs.length = n ∧ ∀ i, i < n → w.cell? ⟨g, 0 + i, none⟩ = some (.int .u8 (xs.getD i 0)) := by
  have h' := h
  obtain ⟨h1, h2⟩ := h
  have hl : xs.length = n := by simpa using h1
  rcases h2 with ⟨rfl, rfl⟩ | ⟨g, cap, cur, rfl, hg, hh, r⟩
  · exact .inl ⟨rfl, List.length_eq_zero_iff.1 hl⟩
  · refine .inr ⟨g, cap, rfl, hl, fun i hi => ?_⟩
    have := h'.cells (g := g) rfl i (.int .u8 (xs.getD i 0)) (by simp [List.getElem?_eq_getElem (show i < xs.length by omega)])
    rw [show (⟨g, 0, none⟩ : Addr).add i = ⟨g, 0 + i, none⟩ from by unfold Addr.add; split <;> simp_all] at this
    exact this

set_option maxHeartbeats 1000000 in
theorem bytes_any (zs : List Int) (b off len cap : Nat) (w : World) (hlen : zs.length = len) (hl : len ≤ 1000) (hbB : b < w.heap.size)
    (hc : ∀ i, i < len → w.cell? ⟨b, off + i, none⟩ = some (.int .i64 (zs.getD i 0))) :
    Calls Tryz.prog 19 #[.slice (some ⟨b, off, none⟩) len cap] w fun e w' => e = .returned (.string (strOfNums (zs.map lowByte))) ∧ Below w.heap.size w w' := by
  obtain ⟨i0, hi, hz0, hz1, hz2⟩ := info_parts infoByte
  go_enter Tryz.func19, Tryz.ntmps19
  go_wp2
  go_loopw [3, 4] (fun v i wr => ∃ k : Nat, k ≤ len ∧ i = .int .i64 k ∧ wr.ownsRow w.heap.size 5 1 v k (((zs.take k).map lowByte).map (Value.int .u8)) ∧ Below w.heap.size w wr)
    (fun _ i _ => len - (intOf i).toNat)
  case atStart => exact ⟨0, Nat.zero_le _, rfl, World.ownsRow_nil _ _ _ _, Below.refl _ _⟩
  case round =>
    obtain ⟨k, hk, rfl, hown, hnx⟩ := hrel
    have hcx : k < len → wr.cell? ⟨b, off + k, none⟩ = some (.int .i64 (zs.getD k 0)) := fun h => (hnx.cell (by exact hbB)).trans (hc k h)
    by_cases hlt : k < len
    · obtain ⟨x, hx⟩ : ∃ x, x = zs.getD k 0 := ⟨_, rfl⟩
      have hcy := hcx hlt
      rw [← hx] at hcy
      have HX : Hid (x = zs.getD k 0) := hx
      clear hx hcx hc
      go_wp2_with (at_builtin; refine wpList_append_own _ rfl _ _ 104 rfl w.heap.size 5 i0 (.int .u8 0) 1 1 Tryz.underlying104 hi hz0 hz1 hz2 rfl (by decide) _ _ _ rfl (hown.alloc _) ⟨wr.heap.size, 0, none⟩ 1 1 [.int .u8 (x % 256)] rfl rfl (cell_one_new _ _ _) ?c2 ?c3 ?c4 ?c5 ?_)
      case c2 => intro u hu; simp at hu; subst hu; rfl
      case c3 => unfold maxLen; omega
      case c4 => omega
      case c5 => have := hnx.size; simp; omega
      intro v' w1 hown' hgrow _
      have hb1 : Below w.heap.size w w1 := (hnx.alloc hnx.size _).grown hgrow (by have := hnx.size; simp; omega) (fun q hq => ((hown.lt q hq).1))
      have hown2 : w1.ownsRow w.heap.size 5 1 v' (k + 1) (((zs.take (k + 1)).map lowByte).map (Value.int .u8)) := by
        rw [List.take_succ_eq_append_getElem (by omega)]
        have e : x = zs[k] := by rw [HX.out]; simp [List.getElem?_eq_getElem (show k < zs.length by omega)]
        rw [e] at hown'
        rw [List.map_append, List.map_append]
        simpa [lowByte] using hown'
      clear hown' hgrow hown hnx
      go_wp2
      go_roundw
      case rel => exact ⟨k + 1, by omega, by go_num, hown2, hb1⟩
      case measure => simp [intOf]; omega
    · have hkl : k = len := by omega
      subst hkl
      clear hcx hc
      rcases owned_cells hown with ⟨hv, hn⟩ | ⟨g, cap', hv, _, hcl⟩
      · have hcv := run_convert_bytes_nil (P := Tryz.prog) wr 104 5 Tryz.underlying104 Tryz.underlying5 0 0 9 Tryz.underlying9
        subst hv
        clear hown
        have hz : zs = [] := by simpa [List.take_of_length_le (Nat.le_of_eq hlen)] using hn
        subst hz
        go_wp2
        go_ret
        exact ⟨rfl, hnx⟩
      · have hcv := run_convert_bytes_arg (P := Tryz.prog) wr 104 5 Tryz.underlying104 Tryz.underlying5 g 0 k cap' _ (by simp; omega) hcl 9 Tryz.underlying9
        rw [List.take_of_length_le (Nat.le_of_eq hlen)] at hcv
        subst hv
        clear hown hcl
        go_wp2
        go_ret
        exact ⟨rfl, hnx⟩

/-- of one number -/
theorem bytes_one (x : Int) (b off cap : Nat) (w : World) (hbB : b < w.heap.size) (hc : w.cell? ⟨b, off, none⟩ = some (.int .i64 x)) :
    Calls Tryz.prog 19 #[.slice (some ⟨b, off, none⟩) 1 cap] w fun e w' => e = .returned (.string (strOfNums [lowByte x])) ∧ Below w.heap.size w w' :=
  bytes_any [x] b off 1 cap w rfl (by omega) hbB (fun i hi => by
    have h0 : i = 0 := by omega
    subst h0
    exact hc)

set_option maxHeartbeats 1000000 in
theorem big_any (n : Nat) (k : Nat) (w : World) (hk : k ≤ 8) (hn : n ≤ 9223372036854775807) :
    Calls Tryz.prog 22 #[.int .i64 n, .int .i64 k] w fun e w' => e = .returned (.string (strOfNums (bigL n k))) ∧ Below w.heap.size w w' := by
  go_enter Tryz.func22, Tryz.ntmps22
  go_wp2
  go_loopw [0, 5, 6] (fun m s i wr => ∃ j : Nat, j ≤ k ∧ i = .int .i64 j ∧ m = .int .i64 (n / 256 ^ j : Nat) ∧ s = .string (strOfNums (bigL n j)) ∧ Below w.heap.size w wr)
    (fun _ _ i _ => k - (intOf i).toNat)
  case atStart => exact ⟨0, Nat.zero_le _, rfl, by simp, rfl, Below.refl _ _⟩
  case round =>
    obtain ⟨j, hj, rfl, rfl, rfl, hnx⟩ := hrel
    obtain ⟨m, hm⟩ : ∃ m, m = n / 256 ^ j := ⟨_, rfl⟩
    have hmle : m ≤ 9223372036854775807 := by rw [hm]; exact Nat.le_trans (Nat.div_le_self _ _) hn
    rw [← hm]
    have HM : Hid (m = n / 256 ^ j) := hm
    clear hm
    by_cases hlt : j < k
    · have hsz1 : (strOfNums [(m : Int) % 256]).size ≤ 1 := by simp [strOfNums_size]
      have hsz2 : (strOfNums (bigL n j)).size ≤ 8 := by rw [strOfNums_size, bigL_length]; omega
      go_wp2_with fail
      refine (bytes_one ((m : Int) % 256) _ _ _ _ (by simp) (by simp)).mono ?_
      rintro e w1 ⟨rfl, hb1⟩
      rw [lowByte_mod]
      have hb2 : Below w.heap.size w w1 := (hnx.alloc hnx.size _).trans (hb1.mono (by have := hnx.size; simp; omega))
      clear hnx hb1
      go_wp2
      go_roundw
      case rel =>
        refine ⟨j + 1, by omega, by go_num, ?_, ?_, hb2⟩
        · rw [HM.out, Nat.pow_succ, ← Nat.div_div_eq_div_mul]; rfl
        · rw [strOfNums_append]; simp only [bigL, List.singleton_append, ← HM.out]; rfl
      case measure => simp [intOf]; omega
    · have hkl : j = k := by omega
      subst hkl
      go_wp2
      go_ret
      exact ⟨rfl, hnx⟩

end Go.Proofs.YtfpglpefofcdeaaGreatDoor
namespace Go.Proofs.YtfpglpefofcdeaaGreatDoor
open Go.RowKit
set_option linter.unusedVariables false
set_option linter.unusedSimpArgs false
set_option maxRecDepth 100000

/-- a row of bytes that a call made -/
def BRow (w : World) (B : Nat) (v : Value) (s : List Value) : Prop := ∃ g cap cur fr, v = .slice (some ⟨g, 0, none⟩) s.length cap ∧ B ≤ g ∧ w.heap[g]? = some (.cells cur 5 fr) ∧ (fr = (0, 0) ∨ cur.size ≤ fr.1) ∧ s.length ≤ cap ∧ cap ≤ maxLen ∧ cur.size = cap ∧ cur.toList.take s.length = s
theorem BRow.below {w w' : World} {B : Nat} {v : Value} {s : List Value} (h : BRow w B v s) (hb : Below w.heap.size w w') : BRow w' B v s := by
  obtain ⟨g, cap, cur, fr, h1, h2, h3, h4⟩ := h
  exact ⟨g, cap, cur, fr, h1, h2, (hb.block g (Array.getElem?_eq_some_iff.1 h3).1).trans h3, h4⟩
def sCells (s : ByteArray) : List Value := s.data.toList.map fun b => Value.int .u8 b.toNat
theorem sCells_len (s : ByteArray) : (sCells s).length = s.size := by unfold sCells; rw [List.length_map, Array.length_toList]; rfl
theorem sCells_append (a b : ByteArray) : sCells (a ++ b) = sCells a ++ sCells b := by unfold sCells; rw [ByteArray.data_append, Array.toList_append, List.map_append]
theorem brow_new (w : World) (s : ByteArray) (hs : s.size ≤ maxLen) : BRow (Lib.bytesWorld w 5 s) w.heap.size (.slice (some ⟨w.heap.size, 0, none⟩) s.size (grownCap w s.size 0 5)) (sCells s) := by
  have hge := grownCap_ge w s.size 0 5
  have hle := grownCap_le_maxLen w s.size 0 5 hs
  refine ⟨w.heap.size, _, _, _, by rw [sCells_len], Nat.le_refl _, Lib.bytesWorld_at_new w 5 s, .inr (Nat.le_refl _), by rw [sCells_len]; exact hge, hle, ?_, ?_⟩
  · unfold Lib.bytesCells
    rw [Array.size_append, Array.size_map, Array.size_replicate]
    have : s.data.size = s.size := rfl
    omega
  · unfold Lib.bytesCells
    rw [Array.toList_append, sCells_len]
    have h1 : (s.data.map fun b => Value.int .u8 b.toNat).toList = sCells s := by unfold sCells; simp
    rw [h1, List.take_append_of_le_length (by rw [sCells_len]; exact Nat.le_refl _), ← sCells_len s, List.take_length]
theorem brow_conv {w : World} {B : Nat} {v : Value} {s : ByteArray} (h : BRow w B v (sCells s)) : (convert 104 9 v).run Tryz.prog w = .ok (.string s) w := by
  obtain ⟨g, cap, cur, fr, rfl, h2, h3, h4, h5, h6, h7, h8⟩ := h
  rw [sCells_len] at h5 h8 ⊢
  have hcell : ∀ i, i < s.size → w.cell? ⟨g, i, none⟩ = some (.int .u8 ((s.data.toList.map fun c => (c.toNat : Int)).getD i 0)) := by
    intro i hi
    have e1 : cur[i]? = (sCells s)[i]? := by
      rw [← h8, List.getElem?_take_of_lt hi, Array.getElem?_toList]
    have hi2 : i < s.data.toList.length := by rw [Array.length_toList]; exact hi
    have : w.cell? ⟨g, i, none⟩ = cur[i]? := by simp [World.cell?, h3]
    rw [this, e1]
    unfold sCells
    rw [List.getElem?_map, List.getD_eq_getElem?_getD, List.getElem?_map, List.getElem?_eq_getElem hi2]
    rfl
  have := run_convert_bytes_arg (P := Tryz.prog) w 104 5 Tryz.underlying104 Tryz.underlying5 g 0 s.size cap (s.data.toList.map fun c => (c.toNat : Int)) (by rw [List.length_map, Array.length_toList]; rfl) (fun i hi => by rw [Nat.zero_add]; exact hcell i hi) 9 Tryz.underlying9
  rw [this]
  congr 2
  have e : (List.map (fun c => (c.toNat : Int)) s.data.toList).map (fun n => UInt8.ofNat n.toNat) = s.data.toList := by
    rw [List.map_map]
    conv => rhs; rw [← List.map_id s.data.toList]
    apply List.map_congr_left
    intro c _
    simp
  apply ByteArray.ext
  apply Array.toList_inj.1
  first
    | (rw [strOfNums_list]; exact e)
    | (simp [strOfNums]; rw [List.map_map] at e; exact e)
theorem infoU8T : (Tryz.prog.info? 5).map (fun i => (i.zero, i.size, i.bytes)) = some (some (.int .u8 0), 1, 1) := by kernel_rfl
theorem infoU8_parts : ∃ i, Tryz.prog.info? 5 = some i ∧ i.zero = some (.int .u8 0) ∧ i.size = 1 ∧ i.bytes = 1 := by
  have h := infoU8T
  cases hi : Tryz.prog.info? 5 with
  | none => rw [hi] at h; cases h
  | some i =>
    rw [hi] at h
    injection h with h
    injection h with h1 h
    injection h with h2 h3
    exact ⟨i, rfl, h1, h2, h3⟩
theorem set3T (a b c x y z : Value) (t : List Value) : ∀ (L : List Value), (((L ++ a :: b :: c :: t).set L.length x).set (L.length + 1) y).set (L.length + 2) z = L ++ x :: y :: z :: t := by
  intro L
  induction L with
  | nil => rfl
  | cons u L ih =>
    simp only [List.cons_append, List.length_cons, List.set_cons_succ, ih, show L.length + 1 + 1 = (L.length + 1) + 1 from rfl, show L.length + 1 + 2 = (L.length + 2) + 1 from rfl]
set_option maxHeartbeats 2000000 in
/-- three bytes more -/
theorem run_append3 {w : World} {B : Nat} {v : Value} {s : List Value} (h : BRow w B v s) (hB : B ≤ w.heap.size) (hl : s.length + 3 ≤ 1000000) (a : Nat) (x y z : Int) (ha : w.heap[a]? = some (.cells #[.int .u8 x, .int .u8 y, .int .u8 z] 5)) :
    ∃ v' w', (Builtin.append_ #[104, 104] 104 #[v, .slice (some ⟨a, 0, none⟩) 3 3]).run Tryz.prog w = .ok v' w' ∧ BRow w' B v' (s ++ [.int .u8 x, .int .u8 y, .int .u8 z]) ∧ Below B w w' := by
  obtain ⟨i, hi, hz, hsize, hby⟩ := infoU8_parts
  have hnews : ∀ (W : World), W.heap[a]? = w.heap[a]? → ∀ j u, [Value.int .u8 x, .int .u8 y, .int .u8 z][j]? = some u → W.cell? ((⟨a, 0, none⟩ : Addr).add j) = some u := by
    intro W hW j u hu
    have hc : W.heap[a]? = some (.cells #[.int .u8 x, .int .u8 y, .int .u8 z] 5) := hW.trans ha
    rw [Addr.add_lit, Nat.zero_add]
    simp only [World.cell?, hc]
    rw [← hu]
    simp
  obtain ⟨g, cap, cur, fr, rfl, h2, h3, h4, h5, h6, h7, h8⟩ := h
  have hlen : (s ++ [Value.int .u8 x, .int .u8 y, .int .u8 z]).length = s.length + 3 := by simp
  by_cases hroom : s.length + 3 ≤ cap
  · have hfr : ∀ (W : World) (cur' : Array Value) (j : Nat), cur'.size = cap → W.heap[g]? = some (.cells cur' 5 fr) → j < cap → W.frozen? ⟨g, j, none⟩ = false := by
      intro W cur' j hc hW hj
      simp only [World.frozen?, hW]
      rcases h4 with h4 | h4
      · rw [h4]; simp
      · simp; omega
    have hcl : ∀ (W : World) (cur' : Array Value) (j : Nat), cur'.size = cap → W.heap[g]? = some (.cells cur' 5 fr) → j < cap → ∃ u, W.cell? ⟨g, j, none⟩ = some u := by
      intro W cur' j hc hW hj
      exact ⟨cur'[j]'(by omega), by simp only [World.cell?, hW]; exact Array.getElem?_eq_getElem (by omega)⟩
    have hset : ∀ (W : World) (cur' : Array Value) (j : Nat) (u : Value), W.heap[g]? = some (.cells cur' 5 fr) → (W.setCell ⟨g, j, none⟩ u).heap[g]? = some (.cells (cur'.setIfInBounds j u) 5 fr) := by
      intro W cur' j u hW
      simp [World.setCell, Array.getElem?_modify, hW]
    have k1 := hset w cur s.length (.int .u8 x) h3
    have k2 := hset _ _ (s.length + 1) (.int .u8 y) k1
    have k3 := hset _ _ (s.length + 2) (.int .u8 z) k2
    obtain ⟨u0, c0⟩ := hcl w cur s.length h7 h3 (by omega)
    obtain ⟨u1, c1⟩ := hcl _ _ (s.length + 1) (by rw [Array.size_setIfInBounds]; exact h7) k1 (by omega)
    obtain ⟨u2, c2⟩ := hcl _ _ (s.length + 2) (by rw [Array.size_setIfInBounds, Array.size_setIfInBounds]; exact h7) k2 (by omega)
    have f0 := hfr w cur s.length h7 h3 (by omega)
    have f1 := hfr _ _ (s.length + 1) (by rw [Array.size_setIfInBounds]; exact h7) k1 (by omega)
    have f2 := hfr _ _ (s.length + 2) (by rw [Array.size_setIfInBounds, Array.size_setIfInBounds]; exact h7) k2 (by omega)
    have hf := run_firstCells_some (P := Tryz.prog) w 1 3 ⟨a, 0, none⟩ 3 3 [Value.int .u8 x, .int .u8 y, .int .u8 z] rfl (hnews w rfl)
    refine ⟨.slice (some ⟨g, 0, none⟩) (s.length + 3) cap, ((w.setCell ⟨g, s.length, none⟩ (.int .u8 x)).setCell ⟨g, s.length + 1, none⟩ (.int .u8 y)).setCell ⟨g, s.length + 2, none⟩ (.int .u8 z), ?_, ⟨g, cap, _, fr, by rw [hlen], h2, k3, ?_, by rw [hlen]; exact hroom, h6, ?_, ?_⟩, ?_⟩
    · have hst : (storeCells ⟨g, s.length, none⟩ [Value.int .u8 x, .int .u8 y, .int .u8 z] 0).run Tryz.prog w = .ok () (((w.setCell ⟨g, s.length, none⟩ (.int .u8 x)).setCell ⟨g, s.length + 1, none⟩ (.int .u8 y)).setCell ⟨g, s.length + 2, none⟩ (.int .u8 z)) := by
        have s0 := run_store Tryz.prog w ⟨g, s.length, none⟩ (.int .u8 x) .plain rfl
        have s1 := run_store Tryz.prog (w.setCell ⟨g, s.length, none⟩ (.int .u8 x)) ⟨g, s.length + 1, none⟩ (.int .u8 y) .plain rfl
        have s2 := run_store Tryz.prog ((w.setCell ⟨g, s.length, none⟩ (.int .u8 x)).setCell ⟨g, s.length + 1, none⟩ (.int .u8 y)) ⟨g, s.length + 2, none⟩ (.int .u8 z) .plain rfl
        rw [c0, f0] at s0
        rw [c1, f1] at s1
        rw [c2, f2] at s2
        simp [storeCells, Addr.add_lit, s0, s1, s2]
      simp [Builtin.append_, run_underlying Tryz.underlying104, sizeOf, typeInfo, hi, hsize, Builtin.lenOf, hroom, hf, Addr.add_lit, hst]
    · rw [Array.size_setIfInBounds, Array.size_setIfInBounds, Array.size_setIfInBounds]; exact h4
    · rw [Array.size_setIfInBounds, Array.size_setIfInBounds, Array.size_setIfInBounds]; exact h7
    · rw [hlen]
      simp only [Array.toList_setIfInBounds]
      have hd : ∃ r0 r1 r2 tl, cur.toList.drop s.length = r0 :: r1 :: r2 :: tl := by
        have hl2 : 3 ≤ (cur.toList.drop s.length).length := by rw [List.length_drop, Array.length_toList]; omega
        match hq : cur.toList.drop s.length, hl2 with
        | r0 :: r1 :: r2 :: tl, _ => exact ⟨r0, r1, r2, tl, rfl⟩
      obtain ⟨r0, r1, r2, tl, hd⟩ := hd
      have hcur : cur.toList = s ++ r0 :: r1 :: r2 :: tl := by rw [← hd]; conv => lhs; rw [← List.take_append_drop s.length cur.toList, h8]
      rw [hcur, set3T]
      rw [show s ++ Value.int .u8 x :: Value.int .u8 y :: Value.int .u8 z :: tl = (s ++ [Value.int .u8 x, .int .u8 y, .int .u8 z]) ++ tl by simp, ← hlen]
      exact List.take_left
    · exact (((Below.refl B w).setCell (p := ⟨g, s.length, none⟩) h2 _).setCell (p := ⟨g, s.length + 1, none⟩) h2 _).setCell (p := ⟨g, s.length + 2, none⟩) h2 _
  · have hold : ∀ j u, s[j]? = some u → w.cell? ((⟨g, 0, none⟩ : Addr).add j) = some u := by
      intro j u hu
      rw [Addr.add_lit, Nat.zero_add]
      simp only [World.cell?, h3]
      have hj := (List.getElem?_eq_some_iff.1 hu).1
      rw [← Array.getElem?_toList, ← List.getElem?_take_of_lt hj, h8]; exact hu
    have hr := run_append_grow (P := Tryz.prog) w 104 104 5 i (.int .u8 0) Tryz.underlying104 hi hz ⟨g, 0, none⟩ s.length cap s (by rw [hsize, Nat.mul_one]) hold ⟨a, 0, none⟩ 3 3 [Value.int .u8 x, .int .u8 y, .int .u8 z] (by rw [hsize]; rfl) (hnews w rfl) (by omega) (by omega) (growslice_fits (by omega) (by rw [hby]; omega))
    refine ⟨_, _, hr, ⟨w.heap.size, _, _, (0, 0), by rw [hlen], hB, heap_alloc_new w.drew _, .inl rfl, by rw [hlen]; exact grownCap_ge _ _ _ _, grownCap_le_maxLen w (s.length + 3) cap 5 (by unfold maxLen; omega), ?_, ?_⟩, ?_⟩
    · have hge := grownCap_ge w (s.length + 3) cap 5
      simp only [Array.size_append, List.size_toArray, size_zeroCells]
      have : (Value.int .u8 0).cells.size = 1 := rfl
      rw [this]
      simp
      omega
    · simp only [Array.toList_append, List.append_assoc]
      rw [hlen, ← List.append_assoc]
      exact List.take_left' (by simp)
    · exact ((Below.refl B w).drew).alloc hB _
theorem wpList_append_run {P : Program} {w : World} {ops : Array Oper} {rest : List Oper} {o : Oper} {a : Act} {Q : Exit → Act → World → Prop} (hgd : o.guard = none) (s x : Operand) (t : TypeId)
    (ho : o.op = .call { callee := .builtin .append, args := #[s, x], argTypes := #[t, t] }) (hty : o.type = t) (v u v' : Value) (w' : World) (hs : a.eval s = v) (hx : a.eval x = u)
    (hrun : (Builtin.append_ #[t, t] t #[v, u]).run P w = .ok v' w') (h : wpList P ops Q rest (a.put o.dst v') w') : wpList P ops Q (o :: rest) a w := by
  refine wpList_plain hgd fun K hK => ?_
  unfold Oper.wp
  simp [execOp, ho, resolve, invoke, builtin, hs, hx, hty, hrun, Result.andThen]
  exact hK _ _ h
end Go.Proofs.YtfpglpefofcdeaaGreatDoor
namespace Go.Proofs.YtfpglpefofcdeaaGreatDoor
open Go.ChangeShapes Go.WideShapes Go.ChangeAt Go.RowKit Go.Deep
set_option linter.unusedVariables false

theorem cellsOfInt : Tryz.prog.cellsOf 3 = 1 := by kernel_rfl
theorem cellsOfBool : Tryz.prog.cellsOf 4 = 1 := by kernel_rfl
theorem cellsOfString : Tryz.prog.cellsOf 9 = 1 := by kernel_rfl
theorem cell_ltR {w : World} {a : Addr} {v : Value} (h : w.cell? a = some v) : a.block < w.heap.size := by
  rcases Nat.lt_or_ge a.block w.heap.size with h1 | h1
  · exact h1
  · unfold World.cell? at h
    rw [Array.getElem?_eq_none h1] at h
    cases h
end Go.Proofs.YtfpglpefofcdeaaGreatDoor
namespace Go.Proofs.YtfpglpefofcdeaaGreatDoor
open Go.ChangeShapes Go.WideShapes Go.ChangeAt Go.RowKit Go.Deep
set_option linter.unusedVariables false
set_option maxRecDepth 100000

def Rowint (W : World) (ao : Option Addr) (l : List Int) : Prop :=
  (l = [] ∨ ∃ b off, ao = some ⟨b, off, none⟩ ∧ b < W.heap.size ∧ ∀ i x, l[i]? = some x → W.cell? ⟨b, off + i, none⟩ = some (.int .i64 x)) ∧ (∀ x ∈ l, (-9223372036854775808 ≤ x ∧ x ≤ 9223372036854775807)) ∧ l.length ≤ maxLen
theorem Rowint.below {W W' : World} {ao : Option Addr} {l : List Int} (h : Rowint W ao l) (hb : Below W.heap.size W W') : Rowint W' ao l := by
  obtain ⟨h, ho, hm⟩ := h
  refine ⟨?_, ho, hm⟩
  rcases h with h | ⟨b, off, e, hlt, hc⟩
  · exact .inl h
  · exact .inr ⟨b, off, e, Nat.lt_of_lt_of_le hlt hb.size, fun i s hi => (hb.cell (p := ⟨b, off + i, none⟩) hlt).trans (hc i s hi)⟩
theorem cellsOfSlint : Tryz.prog.cellsOf 103 = 1 := by kernel_rfl
theorem opencint {H : Type} {enc : TypeId × Value → H} {W : World} {k : Nat} {cs : List Value} {y : DataW H × List MemPlace}
    (h : DataW.trod enc Tryz.prog W 0 (fun _ => true) true k 3 cs = some y) : ∃ x : Int, cs = [.int .i64 x] ∧ (-9223372036854775808 ≤ x ∧ x ≤ 9223372036854775807) := by
  obtain ⟨z, e, _, w⟩ := DataW.trod_int Tryz.underlying3 h
  exact ⟨z, e, bounds_i64 w⟩
theorem openrint {H : Type} {enc : TypeId × Value → H} {W : World} {k : Nat} {cs : List Value} {y : DataW H × List MemPlace}
    (h : DataW.trod enc Tryz.prog W 0 (fun _ => true) true k 103 cs = some y) :
    ∃ (ao : Option Addr) (l : List Int) (cap : Nat), cs = [.slice ao l.length cap] ∧ Rowint W ao l ∧ l.length ≤ cap ∧ (l = [] ∨ ∃ es ss, y.1 = .slice es ss ∧ es.length = l.length) := by
  rcases open_slice Tryz.underlying103 h with ⟨rfl, rfl⟩ | ⟨a, len, cap, mm, nn, D, Pl, rfl, _, hl, hm, hmm, hx, hel⟩
  · exact ⟨none, [], 0, rfl, ⟨.inl rfl, by simp, by simp⟩, Nat.le_refl _, .inl rfl⟩
  · simp only [if_true] at hmm
    rw [cellsOfInt] at hel
    obtain ⟨F, hF⟩ := choose_lt (α := Int) (n := mm) (p := fun i x => (W.cell? ((a.add (i * 1)).add 0) = some (.int .i64 x)) ∧ (-9223372036854775808 ≤ x ∧ x ≤ 9223372036854775807)) (fun i hi => by
      obtain ⟨cs', h1, h2⟩ := hel i hi
      obtain ⟨x, rfl, hok⟩ := opencint h2
      obtain ⟨_, _, hc⟩ := World.cells?_some h1
      exact ⟨x, hc 0 (by omega), hok⟩)
    refine ⟨some a, (List.range len).map F, cap, by simp, ⟨?_, ?_, by rw [List.length_map, List.length_range]; omega⟩, by rw [List.length_map, List.length_range]; exact hl, .inr ⟨_, _, by rw [hx], by simp⟩⟩
    · by_cases hl0 : len = 0
      · subst hl0; exact .inl rfl
      · obtain ⟨b, off, spot⟩ := a
        have hc0 := (hF 0 (by omega)).1
        have hspot : spot = none := by simpa [Addr.add] using World.cell?_spot hc0
        subst hspot
        refine .inr ⟨b, off, rfl, by simpa [Addr.add] using cell_ltR hc0, fun i x hi => ?_⟩
        have hi' : i < len := by
          rcases Nat.lt_or_ge i len with h | h
          · exact h
          · rw [List.getElem?_eq_none (by simpa using h)] at hi; cases hi
        rw [List.getElem?_map, List.getElem?_range hi'] at hi
        obtain rfl : F i = x := by simpa using hi
        have := (hF i (by omega)).1
        simp only [WideShapes.add_plain, Nat.mul_one, Nat.add_zero] at this
        exact this
    · intro x hx
      obtain ⟨i, hi, rfl⟩ := List.mem_map.1 hx
      exact (hF i (by have : i < len := by simpa using hi
                      omega)).2
theorem openRint {H : Type} {enc : TypeId × Value → H} {W : World} {b0 : Nat} {r : Reach} {v : Value} {d : DataW H} {p : List MemPlace}
    (hv : Value.okWide Tryz.prog W r b0 103 v) (h : DataW.Trod enc Tryz.prog W 0 (fun _ => true) true 103 v d p) : ∃ (ao : Option Addr) (l : List Int) (cap : Nat), v = .slice ao l.length cap ∧ Rowint W ao l ∧ (l = [] ∨ ∃ es ss, d = .slice es ss ∧ es.length = l.length) := by
  obtain ⟨a0, len, cap, rfl⟩ := okWide_slice Tryz.underlying103 hv
  obtain ⟨fuel, hf⟩ := h
  obtain ⟨ao, l, cap', hx, hr, _, hd⟩ := openrint hf
  simp [Value.cells] at hx
  obtain ⟨rfl, rfl, rfl⟩ := hx
  exact ⟨_, l, _, rfl, hr, hd⟩
def Rowstring (W : World) (ao : Option Addr) (l : List ByteArray) : Prop :=
  (l = [] ∨ ∃ b off, ao = some ⟨b, off, none⟩ ∧ b < W.heap.size ∧ ∀ i x, l[i]? = some x → W.cell? ⟨b, off + i, none⟩ = some (.string x)) ∧ (∀ x ∈ l, x.size ≤ maxLen) ∧ l.length ≤ maxLen
theorem Rowstring.below {W W' : World} {ao : Option Addr} {l : List ByteArray} (h : Rowstring W ao l) (hb : Below W.heap.size W W') : Rowstring W' ao l := by
  obtain ⟨h, ho, hm⟩ := h
  refine ⟨?_, ho, hm⟩
  rcases h with h | ⟨b, off, e, hlt, hc⟩
  · exact .inl h
  · exact .inr ⟨b, off, e, Nat.lt_of_lt_of_le hlt hb.size, fun i s hi => (hb.cell (p := ⟨b, off + i, none⟩) hlt).trans (hc i s hi)⟩
theorem cellsOfSlstring : Tryz.prog.cellsOf 83 = 1 := by kernel_rfl
theorem opencstring {H : Type} {enc : TypeId × Value → H} {W : World} {k : Nat} {cs : List Value} {y : DataW H × List MemPlace}
    (h : DataW.trod enc Tryz.prog W 0 (fun _ => true) true k 9 cs = some y) : ∃ x : ByteArray, cs = [.string x] ∧ x.size ≤ maxLen := by
  obtain ⟨z, e, _, w⟩ := DataW.trod_string Tryz.underlying9 h
  exact ⟨z, e, w⟩
theorem openrstring {H : Type} {enc : TypeId × Value → H} {W : World} {k : Nat} {cs : List Value} {y : DataW H × List MemPlace}
    (h : DataW.trod enc Tryz.prog W 0 (fun _ => true) true k 83 cs = some y) :
    ∃ (ao : Option Addr) (l : List ByteArray) (cap : Nat), cs = [.slice ao l.length cap] ∧ Rowstring W ao l ∧ l.length ≤ cap ∧ (l = [] ∨ ∃ es ss, y.1 = .slice es ss ∧ es.length = l.length) := by
  rcases open_slice Tryz.underlying83 h with ⟨rfl, rfl⟩ | ⟨a, len, cap, mm, nn, D, Pl, rfl, _, hl, hm, hmm, hx, hel⟩
  · exact ⟨none, [], 0, rfl, ⟨.inl rfl, by simp, by simp⟩, Nat.le_refl _, .inl rfl⟩
  · simp only [if_true] at hmm
    rw [cellsOfString] at hel
    obtain ⟨F, hF⟩ := choose_lt (α := ByteArray) (n := mm) (p := fun i x => (W.cell? ((a.add (i * 1)).add 0) = some (.string x)) ∧ x.size ≤ maxLen) (fun i hi => by
      obtain ⟨cs', h1, h2⟩ := hel i hi
      obtain ⟨x, rfl, hok⟩ := opencstring h2
      obtain ⟨_, _, hc⟩ := World.cells?_some h1
      exact ⟨x, hc 0 (by omega), hok⟩)
    refine ⟨some a, (List.range len).map F, cap, by simp, ⟨?_, ?_, by rw [List.length_map, List.length_range]; omega⟩, by rw [List.length_map, List.length_range]; exact hl, .inr ⟨_, _, by rw [hx], by simp⟩⟩
    · by_cases hl0 : len = 0
      · subst hl0; exact .inl rfl
      · obtain ⟨b, off, spot⟩ := a
        have hc0 := (hF 0 (by omega)).1
        have hspot : spot = none := by simpa [Addr.add] using World.cell?_spot hc0
        subst hspot
        refine .inr ⟨b, off, rfl, by simpa [Addr.add] using cell_ltR hc0, fun i x hi => ?_⟩
        have hi' : i < len := by
          rcases Nat.lt_or_ge i len with h | h
          · exact h
          · rw [List.getElem?_eq_none (by simpa using h)] at hi; cases hi
        rw [List.getElem?_map, List.getElem?_range hi'] at hi
        obtain rfl : F i = x := by simpa using hi
        have := (hF i (by omega)).1
        simp only [WideShapes.add_plain, Nat.mul_one, Nat.add_zero] at this
        exact this
    · intro x hx
      obtain ⟨i, hi, rfl⟩ := List.mem_map.1 hx
      exact (hF i (by have : i < len := by simpa using hi
                      omega)).2
theorem openRstring {H : Type} {enc : TypeId × Value → H} {W : World} {b0 : Nat} {r : Reach} {v : Value} {d : DataW H} {p : List MemPlace}
    (hv : Value.okWide Tryz.prog W r b0 83 v) (h : DataW.Trod enc Tryz.prog W 0 (fun _ => true) true 83 v d p) : ∃ (ao : Option Addr) (l : List ByteArray) (cap : Nat), v = .slice ao l.length cap ∧ Rowstring W ao l ∧ (l = [] ∨ ∃ es ss, d = .slice es ss ∧ es.length = l.length) := by
  obtain ⟨a0, len, cap, rfl⟩ := okWide_slice Tryz.underlying83 hv
  obtain ⟨fuel, hf⟩ := h
  obtain ⟨ao, l, cap', hx, hr, _, hd⟩ := openrstring hf
  simp [Value.cells] at hx
  obtain ⟨rfl, rfl, rfl⟩ := hx
  exact ⟨_, l, _, rfl, hr, hd⟩
structure XWay where
  code : Int
  when : Int
  next : Bool
deriving Inhabited
def valWay (x : XWay) : Value := .agg #[.int .i64 x.code, .int .i64 x.when, .bool x.next]
def okWay (W : World) (x : XWay) : Prop := (-9223372036854775808 ≤ x.code ∧ x.code ≤ 9223372036854775807) ∧ (-9223372036854775808 ≤ x.when ∧ x.when ≤ 9223372036854775807)
theorem cellsOfWay : Tryz.prog.cellsOf 86 = 3 := by kernel_rfl
theorem okWay.below {W W' : World} {x : XWay} (h : okWay W x) (hb : Below W.heap.size W W') : okWay W' x := by
  obtain ⟨h0, h1⟩ := h
  exact ⟨h0, h1⟩
theorem opencWay {H : Type} {enc : TypeId × Value → H} {W : World} {k : Nat} {cs : List Value} {y : DataW H × List MemPlace}
    (h : DataW.trod enc Tryz.prog W 0 (fun _ => true) true k 86 cs = some y) :
    ∃ x : XWay, cs = [.int .i64 x.code, .int .i64 x.when, .bool x.next] ∧ okWay W x := by
  obtain ⟨xs, k', _, _, hsz, hlen, hq⟩ := DataW.trod_struct Tryz.underlying86 h
  rw [cellsOfWay] at hsz
  match cs, hsz with
  | [c0, c1, c2], _ =>
    match xs, hlen with
    | [y0, y1, y2], _ =>
      have h0 : DataW.trod enc Tryz.prog W 0 (fun _ => true) true k' 3 [c0] = some y0 := by simpa [cellsOfBool, cellsOfInt, cellsOfString] using hq 0 _ rfl
      obtain ⟨z0, e0, g0, w0⟩ := DataW.trod_int Tryz.underlying3 h0
      have h1 : DataW.trod enc Tryz.prog W 0 (fun _ => true) true k' 3 [c1] = some y1 := by simpa [cellsOfBool, cellsOfInt, cellsOfString] using hq 1 _ rfl
      obtain ⟨z1, e1, g1, w1⟩ := DataW.trod_int Tryz.underlying3 h1
      have h2 : DataW.trod enc Tryz.prog W 0 (fun _ => true) true k' 4 [c2] = some y2 := by simpa [cellsOfBool, cellsOfInt, cellsOfString] using hq 2 _ rfl
      obtain ⟨z2, e2, g2⟩ := DataW.trod_bool Tryz.underlying4 h2
      simp at e0 e1 e2
      subst e0
      subst e1
      subst e2
      exact ⟨⟨z0, z1, z2⟩, rfl, ⟨bounds_i64 w0, bounds_i64 w1⟩⟩
theorem openWay {H : Type} {enc : TypeId × Value → H} {W : World} {b0 : Nat} {r : Reach} {v : Value} {d : DataW H} {p : List MemPlace}
    (hv : Value.okWide Tryz.prog W r b0 86 v) (h : DataW.Trod enc Tryz.prog W 0 (fun _ => true) true 86 v d p) : ∃ x : XWay, v = valWay x ∧ okWay W x := by
  obtain ⟨cs, rfl, hsz⟩ := okWide_struct Tryz.underlying86 hv
  obtain ⟨fuel, hf⟩ := h
  obtain ⟨x, hx, ho⟩ := opencWay hf
  obtain ⟨l⟩ := cs
  simp only [Value.cells] at hx
  subst hx
  exact ⟨x, rfl, ho⟩
def RowWay (W : World) (ao : Option Addr) (l : List XWay) : Prop :=
  (l = [] ∨ ∃ b off, ao = some ⟨b, off, none⟩ ∧ b < W.heap.size ∧ ∀ i x, l[i]? = some x → W.cell? ⟨b, off + i * 3, none⟩ = some (.int .i64 x.code) ∧ W.cell? ⟨b, off + i * 3 + 1, none⟩ = some (.int .i64 x.when) ∧ W.cell? ⟨b, off + i * 3 + 2, none⟩ = some (.bool x.next)) ∧ (∀ x ∈ l, okWay W x) ∧ l.length ≤ maxLen
theorem RowWay.below {W W' : World} {ao : Option Addr} {l : List XWay} (h : RowWay W ao l) (hb : Below W.heap.size W W') : RowWay W' ao l := by
  obtain ⟨h, ho, hm⟩ := h
  refine ⟨?_, fun x hx => (ho x hx).below hb, hm⟩
  rcases h with h | ⟨b, off, e, hlt, hc⟩
  · exact .inl h
  · refine .inr ⟨b, off, e, Nat.lt_of_lt_of_le hlt hb.size, fun i s hi => ?_⟩
    obtain ⟨c0, c1, c2⟩ := hc i s hi
    exact ⟨(hb.cell (p := ⟨b, off + i * 3, none⟩) hlt).trans c0, (hb.cell (p := ⟨b, off + i * 3 + 1, none⟩) hlt).trans c1, (hb.cell (p := ⟨b, off + i * 3 + 2, none⟩) hlt).trans c2⟩
theorem cellsOfSlWay : Tryz.prog.cellsOf 26 = 1 := by kernel_rfl
theorem openrWay {H : Type} {enc : TypeId × Value → H} {W : World} {k : Nat} {cs : List Value} {y : DataW H × List MemPlace}
    (h : DataW.trod enc Tryz.prog W 0 (fun _ => true) true k 26 cs = some y) :
    ∃ (ao : Option Addr) (l : List XWay) (cap : Nat), cs = [.slice ao l.length cap] ∧ RowWay W ao l ∧ l.length ≤ cap ∧ (l = [] ∨ ∃ es ss, y.1 = .slice es ss ∧ es.length = l.length) := by
  rcases open_slice Tryz.underlying26 h with ⟨rfl, rfl⟩ | ⟨a, len, cap, mm, nn, D, Pl, rfl, _, hl, hm, hmm, hx, hel⟩
  · exact ⟨none, [], 0, rfl, ⟨.inl rfl, by simp, by simp⟩, Nat.le_refl _, .inl rfl⟩
  · simp only [if_true] at hmm
    rw [cellsOfWay] at hel
    obtain ⟨F, hF⟩ := choose_lt (α := XWay) (n := mm) (p := fun i x => (W.cell? ((a.add (i * 3)).add 0) = some (.int .i64 x.code) ∧ W.cell? ((a.add (i * 3)).add 1) = some (.int .i64 x.when) ∧ W.cell? ((a.add (i * 3)).add 2) = some (.bool x.next)) ∧ okWay W x) (fun i hi => by
      obtain ⟨cs', h1, h2⟩ := hel i hi
      obtain ⟨x, rfl, hok⟩ := opencWay h2
      obtain ⟨_, _, hc⟩ := World.cells?_some h1
      exact ⟨x, ⟨hc 0 (by omega), hc 1 (by omega), hc 2 (by omega)⟩, hok⟩)
    refine ⟨some a, (List.range len).map F, cap, by simp, ⟨?_, ?_, by rw [List.length_map, List.length_range]; omega⟩, by rw [List.length_map, List.length_range]; exact hl, .inr ⟨_, _, by rw [hx], by simp⟩⟩
    · by_cases hl0 : len = 0
      · subst hl0; exact .inl rfl
      · obtain ⟨b, off, spot⟩ := a
        have hc0 := (hF 0 (by omega)).1.1
        have hspot : spot = none := by simpa [Addr.add] using World.cell?_spot hc0
        subst hspot
        refine .inr ⟨b, off, rfl, by simpa [Addr.add] using cell_ltR hc0, fun i x hi => ?_⟩
        have hi' : i < len := by
          rcases Nat.lt_or_ge i len with h | h
          · exact h
          · rw [List.getElem?_eq_none (by simpa using h)] at hi; cases hi
        rw [List.getElem?_map, List.getElem?_range hi'] at hi
        obtain rfl : F i = x := by simpa using hi
        have := (hF i (by omega)).1
        simp only [WideShapes.add_plain, Nat.add_zero] at this
        exact this
    · intro x hx
      obtain ⟨i, hi, rfl⟩ := List.mem_map.1 hx
      exact (hF i (by have : i < len := by simpa using hi
                      omega)).2
theorem openRWay {H : Type} {enc : TypeId × Value → H} {W : World} {b0 : Nat} {r : Reach} {v : Value} {d : DataW H} {p : List MemPlace}
    (hv : Value.okWide Tryz.prog W r b0 26 v) (h : DataW.Trod enc Tryz.prog W 0 (fun _ => true) true 26 v d p) : ∃ (ao : Option Addr) (l : List XWay) (cap : Nat), v = .slice ao l.length cap ∧ RowWay W ao l ∧ (l = [] ∨ ∃ es ss, d = .slice es ss ∧ es.length = l.length) := by
  obtain ⟨a0, len, cap, rfl⟩ := okWide_slice Tryz.underlying26 hv
  obtain ⟨fuel, hf⟩ := h
  obtain ⟨ao, l, cap', hx, hr, _, hd⟩ := openrWay hf
  simp [Value.cells] at hx
  obtain ⟨rfl, rfl, rfl⟩ := hx
  exact ⟨_, l, _, rfl, hr, hd⟩
structure XWays where
  x : Int
  y : Int
  listo : Option Addr
  list : List XWay
  listc : Nat
deriving Inhabited
def valWays (x : XWays) : Value := .agg #[.int .i64 x.x, .int .i64 x.y, .slice x.listo x.list.length x.listc]
def okWays (W : World) (x : XWays) : Prop := (-9223372036854775808 ≤ x.x ∧ x.x ≤ 9223372036854775807) ∧ (-9223372036854775808 ≤ x.y ∧ x.y ≤ 9223372036854775807) ∧ RowWay W x.listo x.list
theorem cellsOfWays : Tryz.prog.cellsOf 28 = 3 := by kernel_rfl
theorem okWays.below {W W' : World} {x : XWays} (h : okWays W x) (hb : Below W.heap.size W W') : okWays W' x := by
  obtain ⟨h0, h1, h2⟩ := h
  exact ⟨h0, h1, h2.below hb⟩
theorem opencWays {H : Type} {enc : TypeId × Value → H} {W : World} {k : Nat} {cs : List Value} {y : DataW H × List MemPlace}
    (h : DataW.trod enc Tryz.prog W 0 (fun _ => true) true k 28 cs = some y) :
    ∃ x : XWays, cs = [.int .i64 x.x, .int .i64 x.y, .slice x.listo x.list.length x.listc] ∧ okWays W x := by
  obtain ⟨xs, k', _, _, hsz, hlen, hq⟩ := DataW.trod_struct Tryz.underlying28 h
  rw [cellsOfWays] at hsz
  match cs, hsz with
  | [c0, c1, c2], _ =>
    match xs, hlen with
    | [y0, y1, y2], _ =>
      have h0 : DataW.trod enc Tryz.prog W 0 (fun _ => true) true k' 3 [c0] = some y0 := by simpa [cellsOfBool, cellsOfInt, cellsOfSlWay, cellsOfString] using hq 0 _ rfl
      obtain ⟨z0, e0, g0, w0⟩ := DataW.trod_int Tryz.underlying3 h0
      have h1 : DataW.trod enc Tryz.prog W 0 (fun _ => true) true k' 3 [c1] = some y1 := by simpa [cellsOfBool, cellsOfInt, cellsOfSlWay, cellsOfString] using hq 1 _ rfl
      obtain ⟨z1, e1, g1, w1⟩ := DataW.trod_int Tryz.underlying3 h1
      have h2 : DataW.trod enc Tryz.prog W 0 (fun _ => true) true k' 26 [c2] = some y2 := by simpa [cellsOfBool, cellsOfInt, cellsOfSlWay, cellsOfString] using hq 2 _ rfl
      obtain ⟨zo2, z2, zc2, e2, w2, wc2, _⟩ := openrWay h2
      simp at e0 e1 e2
      subst e0
      subst e1
      subst e2
      exact ⟨⟨z0, z1, zo2, z2, zc2⟩, rfl, ⟨bounds_i64 w0, bounds_i64 w1, w2⟩⟩
theorem openWays {H : Type} {enc : TypeId × Value → H} {W : World} {b0 : Nat} {r : Reach} {v : Value} {d : DataW H} {p : List MemPlace}
    (hv : Value.okWide Tryz.prog W r b0 28 v) (h : DataW.Trod enc Tryz.prog W 0 (fun _ => true) true 28 v d p) : ∃ x : XWays, v = valWays x ∧ okWays W x := by
  obtain ⟨cs, rfl, hsz⟩ := okWide_struct Tryz.underlying28 hv
  obtain ⟨fuel, hf⟩ := h
  obtain ⟨x, hx, ho⟩ := opencWays hf
  obtain ⟨l⟩ := cs
  simp only [Value.cells] at hx
  subst hx
  exact ⟨x, rfl, ho⟩
structure XScene where
  amount : Int
  cash : Bool
  ableo : Option Addr
  able : List Int
  ablec : Nat
  wello : Option Addr
  well : List Int
  wellc : Nat
deriving Inhabited
def valScene (x : XScene) : Value := .agg #[.int .i64 x.amount, .bool x.cash, .slice x.ableo x.able.length x.ablec, .slice x.wello x.well.length x.wellc]
def okScene (W : World) (x : XScene) : Prop := (-9223372036854775808 ≤ x.amount ∧ x.amount ≤ 9223372036854775807) ∧ Rowint W x.ableo x.able ∧ Rowint W x.wello x.well
theorem okScene.below {W W' : World} {x : XScene} (h : okScene W x) (hb : Below W.heap.size W W') : okScene W' x := by
  obtain ⟨h0, h1, h2⟩ := h
  exact ⟨h0, h1.below hb, h2.below hb⟩
structure XRisk where
  floor : Int
  frm : Int
  share : Int
  most : Int
  lower : Int
  upper : Int
  blacko : Option Addr
  black : List ByteArray
  blackc : Nat
deriving Inhabited
def valRisk (x : XRisk) : Value := .agg #[.int .i64 x.floor, .int .i64 x.frm, .int .i64 x.share, .int .i64 x.most, .int .i64 x.lower, .int .i64 x.upper, .slice x.blacko x.black.length x.blackc]
def okRisk (W : World) (x : XRisk) : Prop := (-9223372036854775808 ≤ x.floor ∧ x.floor ≤ 9223372036854775807) ∧ (-9223372036854775808 ≤ x.frm ∧ x.frm ≤ 9223372036854775807) ∧ (-9223372036854775808 ≤ x.share ∧ x.share ≤ 9223372036854775807) ∧ (-9223372036854775808 ≤ x.most ∧ x.most ≤ 9223372036854775807) ∧ (-9223372036854775808 ≤ x.lower ∧ x.lower ≤ 9223372036854775807) ∧ (-9223372036854775808 ≤ x.upper ∧ x.upper ≤ 9223372036854775807) ∧ Rowstring W x.blacko x.black
theorem okRisk.below {W W' : World} {x : XRisk} (h : okRisk W x) (hb : Below W.heap.size W W') : okRisk W' x := by
  obtain ⟨h0, h1, h2, h3, h4, h5, h6⟩ := h
  exact ⟨h0, h1, h2, h3, h4, h5, h6.below hb⟩
structure XSeen where
  id : ByteArray
  amount : Int
  other : Int
  count : Int
  last : Int
  draw : Int
deriving Inhabited
def valSeen (x : XSeen) : Value := .agg #[.string x.id, .int .i64 x.amount, .int .i64 x.other, .int .i64 x.count, .int .i64 x.last, .int .i64 x.draw]
def okSeen (W : World) (x : XSeen) : Prop := x.id.size ≤ maxLen ∧ (-9223372036854775808 ≤ x.amount ∧ x.amount ≤ 9223372036854775807) ∧ (-9223372036854775808 ≤ x.other ∧ x.other ≤ 9223372036854775807) ∧ (-9223372036854775808 ≤ x.count ∧ x.count ≤ 9223372036854775807) ∧ (-9223372036854775808 ≤ x.last ∧ x.last ≤ 9223372036854775807) ∧ (-9223372036854775808 ≤ x.draw ∧ x.draw ≤ 9223372036854775807)
theorem okSeen.below {W W' : World} {x : XSeen} (h : okSeen W x) (hb : Below W.heap.size W W') : okSeen W' x := by
  obtain ⟨h0, h1, h2, h3, h4, h5⟩ := h
  exact ⟨h0, h1, h2, h3, h4, h5⟩
end Go.Proofs.YtfpglpefofcdeaaGreatDoor
namespace Go.Proofs.YtfpglpefofcdeaaGreatDoor
open Go.RowKit
set_option linter.unusedVariables false

/-- the walk in the order of the text, shut: so that nothing lays it open but a step -/
structure Quietly (P : Program) (ops : Array Oper) (C : World → Prop) (Q : Act → Prop) (l : List Oper) (a : Act) : Prop where
  out : wpQuiet P ops C Q l a
theorem Quietly.nil {P : Program} {ops : Array Oper} {C : World → Prop} {Q : Act → Prop} {a : Act} (h : Q a) : Quietly P ops C Q [] a := ⟨h⟩
theorem Quietly.step {P : Program} {ops : Array Oper} {C : World → Prop} {Q : Act → Prop} {a : Act} {o : Oper} {rest : List Oper}
    (h : ∀ K : Act → Prop, (∀ a, Quietly P ops C Q rest a → K a) → if Region.wanted o (yielded ops a.tmps) then o.quiet P a C K else K (a.put o.dst undef)) : Quietly P ops C Q (o :: rest) a :=
  ⟨wpQuiet_step fun K hK => h K fun a ha => hK a ha.out⟩
theorem wp_region_below {P : Program} {id : Nat} {Q : Exit → Act → World → Prop} {a : Act} {w : World} {l : List Oper} (w0 : World) (hb : Below w0.heap.size w0 w)
    (hm : P.follows .mixedOrders = true) (hB : Region.lexB .any l.toArray = true)
    (h : Quietly P l.toArray (fun w' => Below w0.heap.size w0 w') (fun a' => ∀ w', Below w0.heap.size w0 w' → Q .normal a' w') l a) : (Code.region id l.toArray true).wp P Q a w :=
  wp_region_quiet (C := fun w' => Below w0.heap.size w0 w') hm hB hb.drew (by simpa using h.out)
theorem calls_below {P : Program} {f : FuncId} {args : Array Value} {w0 w : World} {v : Value} (hb : Below w0.heap.size w0 w)
    (h : Calls P f args w fun e w' => e = .returned v ∧ Below w.heap.size w w') : Calls P f args w fun e w' => e = .returned v ∧ Below w0.heap.size w0 w' :=
  h.mono fun _ _ ⟨he, hk⟩ => ⟨he, hb.trans (hk.mono hb.size)⟩
theorem calls_same {P : Program} {f : FuncId} {args : Array Value} {w0 w : World} {v : Value} (hb : Below w0.heap.size w0 w)
    (h : Calls P f args w fun e w' => e = .returned v ∧ w' = w) : Calls P f args w fun e w' => e = .returned v ∧ Below w0.heap.size w0 w' :=
  h.mono fun _ _ ⟨he, hk⟩ => ⟨he, hk ▸ hb⟩
/-- Below, once more behind -/
theorem below_more {a b c : World} {B : Nat} (h : Below B a b) (hB : B ≤ b.heap.size) (k : Below b.heap.size b c) : Below B a c := h.trans (k.mono hB)
end Go.Proofs.YtfpglpefofcdeaaGreatDoor
namespace Go.Proofs.YtfpglpefofcdeaaGreatDoor
open Go.RowKit
set_option linter.unusedVariables false

theorem withinJ_any (n lo hi : Int) (w : World) :
    Calls Tryz.prog 111 #[.int .i64 n, .int .i64 lo, .int .i64 hi] w fun e w' => e = .returned (.bool (decide (lo ≤ n ∧ n ≤ hi))) ∧ w' = w := by
  by_cases c0 : lo ≤ n
  · go_enter Tryz.func111, Tryz.ntmps111
    go_wp2
    go_ret
    exact ⟨ret_bool (by simp [c0]), rfl⟩
  · go_enter Tryz.func111, Tryz.ntmps111
    go_wp2
    go_ret
    exact ⟨ret_bool (by simp; omega), rfl⟩
theorem isAmount_any (n : Int) (w : World) :
    Calls Tryz.prog 69 #[.int .i64 n] w fun e w' => e = .returned (.bool (decide (0 ≤ n ∧ n ≤ 999999999999))) ∧ w' = w := by
  have n1 := fun w => withinJ_any n 0 999999999999 w
  generalize decide (0 ≤ n ∧ n ≤ 999999999999) = q at *
  have N1 := hide n1
  clear n1
  go_enter Tryz.func69, Tryz.ntmps69
  go_wp2_with fail
  refine (unhide N1 _).mono ?_
  rintro e w1 ⟨rfl, rfl⟩
  go_wp2
  go_ret
  exact ⟨rfl, rfl⟩
set_option maxRecDepth 100000 in
theorem ramount_any (n : Int) (w : World) :
    Calls Tryz.prog 77 #[.int .i64 n] w fun e w' => e = .returned (.bool (decide (0 ≤ n ∧ n ≤ 999999999999))) ∧ w' = w := by
  by_cases c0 : 0 ≤ n
  · go_enter Tryz.func77, Tryz.ntmps77
    go_wp2
    go_ret
    exact ⟨ret_bool (by simp [c0]), rfl⟩
  · go_enter Tryz.func77, Tryz.ntmps77
    go_wp2
    go_ret
    exact ⟨ret_bool (by simp; omega), rfl⟩

/-- what is wrong with how a shop guards itself -/
def RiskOK (r : XRisk) : Prop := (0 ≤ r.floor ∧ r.floor ≤ 999999999999) ∧ (0 ≤ r.frm ∧ r.frm ≤ r.floor) ∧ (0 ≤ r.share ∧ r.share ≤ 99) ∧ (r.share ≤ r.most ∧ r.most ≤ 99) ∧ (0 ≤ r.lower ∧ r.lower ≤ 255) ∧ (0 ≤ r.upper ∧ r.upper ≤ 255)
instance (r : XRisk) : Decidable (RiskOK r) := by unfold RiskOK; infer_instance
def riskE (r : XRisk) : Int := if 1000 < r.black.length then 2 else if RiskOK r then 0 else 3
/-- what is wrong with what a shop knows of a card -/
def SeenOK (s : XSeen) : Prop := (0 ≤ s.amount ∧ s.amount ≤ 999999999999) ∧ (0 ≤ s.other ∧ s.other ≤ 999999999999) ∧ (0 ≤ s.count ∧ s.count ≤ 65535) ∧ (0 ≤ s.last ∧ s.last ≤ 65535) ∧ (1 ≤ s.draw ∧ s.draw ≤ 99)
instance (s : XSeen) : Decidable (SeenOK s) := by unfold SeenOK; infer_instance
def seenE (s : XSeen) : Int := if SeenOK s then 0 else 3

theorem riskE_long {r : XRisk} (h : 1000 < r.black.length) : riskE r = 2 := by rw [riskE, if_pos h]
theorem riskE_ok {r : XRisk} (h : r.black.length ≤ 1000) (ho : RiskOK r) : riskE r = 0 := by rw [riskE, if_neg (by omega), if_pos ho]
theorem riskE_no {r : XRisk} (h : r.black.length ≤ 1000) (ho : ¬ RiskOK r) : riskE r = 3 := by rw [riskE, if_neg (by omega), if_neg ho]




/-- how many of a hundred are drawn -/
def pct (r : XRisk) (n : Int) : Int := if n < r.frm then r.share else r.share + (r.most - r.share) * (n - r.frm) / (r.floor - r.frm)
theorem pct_bounds (r : XRisk) (n : Int) (h : RiskOK r) (hn : n < r.floor) : r.share ≤ pct r n ∧ pct r n ≤ r.most := by
  obtain ⟨h1, h2, h3, h4, h5, h6⟩ := h
  unfold pct
  split
  · omega
  · rename_i hc
    have hd : 0 < r.floor - r.frm := by omega
    have hp : 0 ≤ (r.most - r.share) * (n - r.frm) := Int.mul_nonneg (by omega) (by omega)
    have hle : (r.most - r.share) * (n - r.frm) ≤ (r.most - r.share) * (r.floor - r.frm) := Int.mul_le_mul_of_nonneg_left (by omega) (by omega)
    have h7 : 0 ≤ (r.most - r.share) * (n - r.frm) / (r.floor - r.frm) := Int.ediv_nonneg hp (by omega)
    have h8 : (r.most - r.share) * (n - r.frm) / (r.floor - r.frm) ≤ r.most - r.share := by
      have := Int.ediv_le_ediv hd hle
      rw [Int.mul_ediv_cancel _ (by omega)] at this
      exact this
    omega
theorem pct_rises (r : XRisk) (n m : Int) (h : RiskOK r) (hnm : n ≤ m) (hm : m < r.floor) : pct r n ≤ pct r m := by
  by_cases hc : n < r.frm
  · have := (pct_bounds r m h hm).1
    rw [show pct r n = r.share by unfold pct; rw [if_pos hc]]
    exact this
  · obtain ⟨h1, h2, h3, h4, h5, h6⟩ := h
    unfold pct
    rw [if_neg hc, if_neg (by omega)]
    have hd : 0 < r.floor - r.frm := by omega
    have hle : (r.most - r.share) * (n - r.frm) ≤ (r.most - r.share) * (m - r.frm) := Int.mul_le_mul_of_nonneg_left (by omega) (by omega)
    have := Int.ediv_le_ediv hd hle
    omega
end Go.Proofs.YtfpglpefofcdeaaGreatDoor
namespace Go.Proofs.YtfpglpefofcdeaaGreatDoor
open Go.RowKit
set_option linter.unusedVariables false

/-- is a number among others? -/
def inInts (x : Int) (l : List Int) : Bool := l.any (fun y => x == y)
theorem anyW_take_succ {α : Type} (l : List α) (p : α → Bool) (k : Nat) (y : α) (h : l[k]? = some y) : (l.take (k + 1)).any p = ((l.take k).any p || p y) := by
  obtain ⟨hk, rfl⟩ := List.getElem?_eq_some_iff.1 h
  rw [List.take_succ_eq_append_getElem hk, List.any_append]
  simp
theorem anyW_of_take {α : Type} (l : List α) (p : α → Bool) (k : Nat) (h : (l.take k).any p = true) : l.any p = true := by
  have e := List.take_append_drop k l
  rw [← e, List.any_append, h, Bool.true_or]


/-- has a way the numbers that ways have? -/
def inBw (x : XWay) : Bool := decide ((0 ≤ x.code ∧ x.code ≤ 63) ∧ (0 ≤ x.when ∧ x.when ≤ 7))
def waysE (v : XWays) : Int := if 20 < v.list.length then 2 else if ((0 ≤ v.x ∧ v.x ≤ 999999999999) ∧ (0 ≤ v.y ∧ v.y ≤ 999999999999)) ∧ v.list.any (fun x => !inBw x) = false then 0 else 3

set_option maxHeartbeats 1000000 in
theorem isOutside_any (x : XWay) (w : World) :
    Calls Tryz.prog 71 #[valWay x] w fun e w' => e = .returned (.bool (!inBw x)) ∧ Below w.heap.size w w' := by
  obtain ⟨code, when, next⟩ := x
  have n1 := fun w => withinJ_any code 0 63 w
  have n2 := fun w => withinJ_any when 0 7 w
  have hbx := fun o : Obj => (Below.refl w.heap.size w).alloc (Nat.le_refl _) o
  have HB := hide hbx
  have hi : inBw ⟨code, when, next⟩ = (decide (0 ≤ code ∧ code ≤ 63) && decide (0 ≤ when ∧ when ≤ 7)) := by
    unfold inBw; rw [Bool.eq_iff_iff]; simp
  rw [hi]
  clear hbx hi
  generalize decide (0 ≤ code ∧ code ≤ 63) = q1 at *
  generalize decide (0 ≤ when ∧ when ≤ 7) = q2 at *
  unfold valWay
  simp only
  have N1 := hide n1; have N2 := hide n2
  clear n1 n2
  cases q1 <;> cases q2 <;>
  · go_enter Tryz.func71, Tryz.ntmps71
    go_wp2_with (first | (go_at_call_of 111 (Value.int .i64 63); refine (unhide N1 _).mono ?_; rintro e w1 ⟨rfl, hw1⟩; subst hw1) | (go_at_call_of 111 (Value.int .i64 7); refine (unhide N2 _).mono ?_; rintro e w1 ⟨rfl, hw1⟩; subst hw1))
    go_ret
    exact ⟨ret_bool (by simp), unhide HB _⟩

set_option maxHeartbeats 1000000 in
theorem indexF_any (l : List XWay) (ao : Option Addr) (cap : Nat) (w : World) (hr : RowWay w ao l) :
    Calls Tryz.prog 112 #[.slice ao l.length cap, .func (.func 71) #[] #[]] w fun e w' => (∃ v : Int, e = .returned (.int .i64 v) ∧ decide (0 ≤ v) = l.any (fun x => !inBw x)) ∧ Below w.heap.size w w' := by
  obtain ⟨hr, _, hm⟩ := hr
  go_enter Tryz.func112, Tryz.ntmps112
  go_wp2
  go_loopw [8] (fun i wr => ∃ k : Nat, k ≤ l.length ∧ i = .int .i64 k ∧ Hid ((l.take k).any (fun x => !inBw x) = false) ∧ Below w.heap.size w wr) (fun i _ => l.length - (intOf i).toNat)
  case atStart => exact ⟨0, Nat.zero_le _, rfl, hide (by simp), Below.refl _ _⟩
  case round =>
    obtain ⟨k, hk, rfl, HA, hbw⟩ := hrel
    by_cases hlt : k < l.length
    · obtain ⟨y, hy⟩ : ∃ y, l[k]? = some y := ⟨_, List.getElem?_eq_getElem hlt⟩
      rcases hr with hnil | ⟨b, off, rfl, hb, hc⟩
      · rw [hnil] at hlt; simp at hlt
      obtain ⟨c0, c1, c2⟩ := hc k y hy
      have d0 : wr.cell? ⟨b, off + k * 3, none⟩ = _ := (hbw.cell (p := ⟨b, off + k * 3, none⟩) hb).trans c0
      have d1 : wr.cell? ⟨b, off + k * 3 + 1, none⟩ = _ := (hbw.cell (p := ⟨b, off + k * 3 + 1, none⟩) hb).trans c1
      have d2 : wr.cell? ⟨b, off + k * 3 + 2, none⟩ = _ := (hbw.cell (p := ⟨b, off + k * 3 + 2, none⟩) hb).trans c2
      have hs := anyW_take_succ l (fun x => !inBw x) k y hy
      rw [unhide HA, Bool.false_or] at hs
      have hml : l.length ≤ 9223372036854775807 := by simpa [maxLen] using hm
      have n1 := isOutside_any y wr
      clear hc hm c0 c1 c2
      unfold valWay at n1
      cases he : inBw y with
      | false =>
        have HF := hide (anyW_of_take l _ (k + 1) (hs.trans (by rw [he]; rfl)))
        rw [he] at n1
        have N1 := hide n1
        clear hs hy n1 he
        go_wp2_with fail
        refine (unhide N1).mono ?_
        rintro e w1 ⟨rfl, hb1⟩
        go_wp2
        go_ret
        exact ⟨⟨_, rfl, by rw [unhide HF]; simp⟩, hbw.trans (hb1.mono hbw.size)⟩
      | true =>
        have HS : Hid ((l.take (k + 1)).any (fun x => !inBw x) = false) := hide (by simp [hs, he])
        rw [he] at n1
        have N1 := hide n1
        clear hs hy n1 he
        go_wp2_with fail
        refine (unhide N1).mono ?_
        rintro e w1 ⟨rfl, hb1⟩
        go_wp2
        go_roundw
        case rel => exact ⟨k + 1, by omega, by go_num, HS, hbw.trans (hb1.mono hbw.size)⟩
        case measure => simp [intOf]; omega
    · have HF : Hid (l.any (fun x => !inBw x) = false) := hide (by have := unhide HA; rw [List.take_of_length_le (by omega)] at this; exact this)
      go_wp2
      go_ret
      exact ⟨⟨_, rfl, by rw [unhide HF]; rfl⟩, hbw⟩
theorem containsF_any (l : List XWay) (ao : Option Addr) (cap : Nat) (w : World) (hr : RowWay w ao l) :
    Calls Tryz.prog 70 #[.slice ao l.length cap, .func (.func 71) #[] #[]] w fun e w' => e = .returned (.bool (l.any (fun x => !inBw x))) ∧ Below w.heap.size w w' := by
  have N1 := hide (indexF_any l ao cap w hr)
  clear hr
  generalize l.any (fun x => !inBw x) = q at *
  go_enter Tryz.func70, Tryz.ntmps70
  go_wp2_with fail
  refine (unhide N1).mono ?_
  rintro e w1 ⟨⟨v, rfl, hv⟩, hb1⟩
  have HV := hide hv
  clear hv
  go_wp2
  go_ret
  exact ⟨ret_bool (unhide HV), hb1⟩
end Go.Proofs.YtfpglpefofcdeaaGreatDoor
namespace Go.Proofs.YtfpglpefofcdeaaGreatDoor
open Go.RowKit
set_option linter.unusedVariables false

theorem waysE_long {v : XWays} (h : 20 < v.list.length) : waysE v = 2 := by rw [waysE, if_pos h]
theorem waysE_ok {v : XWays} (h : v.list.length ≤ 20) (hx : 0 ≤ v.x ∧ v.x ≤ 999999999999) (hy : 0 ≤ v.y ∧ v.y ≤ 999999999999) (hl : v.list.any (fun x => !inBw x) = false) : waysE v = 0 := by
  rw [waysE, if_neg (by omega), if_pos ⟨⟨hx, hy⟩, hl⟩]
theorem waysE_no {v : XWays} (h : v.list.length ≤ 20) (hn : ¬ (((0 ≤ v.x ∧ v.x ≤ 999999999999) ∧ (0 ≤ v.y ∧ v.y ≤ 999999999999)) ∧ v.list.any (fun x => !inBw x) = false)) : waysE v = 3 := by
  rw [waysE, if_neg (by omega), if_neg hn]
theorem waysE_zero {v : XWays} (h : waysE v = 0) : v.list.length ≤ 20 ∧ ((0 ≤ v.x ∧ v.x ≤ 999999999999) ∧ (0 ≤ v.y ∧ v.y ≤ 999999999999)) ∧ v.list.any (fun x => !inBw x) = false := by
  unfold waysE at h
  split at h
  · cases h
  · split at h
    · rename_i h1 h2; exact ⟨by omega, h2⟩
    · cases h

set_option maxHeartbeats 2000000 in
theorem checkWays_any (v : XWays) (w : World) (hr : RowWay w v.listo v.list) :
    Calls Tryz.prog 34 #[valWays v] w fun e w' => e = .returned (.int .i64 (waysE v)) ∧ Below w.heap.size w w' := by
  have n1 := fun w => isAmount_any v.x w
  have n2 := fun w => isAmount_any v.y w
  have n3 := fun w' (hb : Below w.heap.size w w') => containsF_any v.list v.listo v.listc w' (hr.below hb)
  have hbx := fun o : Obj => (Below.refl w.heap.size w).alloc (Nat.le_refl _) o
  have N3 := hide (fun o : Obj => n3 _ (hbx o))
  have HB := hide hbx
  have el := @waysE_long v
  have eo := @waysE_ok v
  have en := @waysE_no v
  clear hr n3 hbx
  unfold valWays
  generalize waysE v = E at *
  by_cases hl : 20 < v.list.length
  · have HE := hide (el hl)
    clear n1 n2 el eo en
    go_enter Tryz.func34, Tryz.ntmps34
    go_wp2
    go_ret
    exact ⟨ret_int (unhide HE).symm, unhide HB _⟩
  · clear el
    have hl' : v.list.length ≤ 20 := by omega
    have eo' := eo hl'
    have en' := en hl'
    clear eo en
    by_cases hx : 0 ≤ v.x ∧ v.x ≤ 999999999999
    · rw [decide_eq_true hx] at n1
      by_cases hy : 0 ≤ v.y ∧ v.y ≤ 999999999999
      · rw [decide_eq_true hy] at n2
        have eo2 := eo' hx hy
        have en2 : ¬ v.list.any (fun x => !inBw x) = false → E = 3 := fun h => en' (fun hh => h hh.2)
        clear eo' en' hx hy
        generalize v.list.any (fun x => !inBw x) = q at *
        have N1 := hide n1; have N2 := hide n2
        have HE : Hid (E = bif q then 3 else 0) := hide (by cases q with
          | true => exact en2 (by simp)
          | false => exact eo2 rfl)
        clear n1 n2 eo2 en2
        cases q <;>
        · go_enter Tryz.func34, Tryz.ntmps34
          go_wp2_with fail
          refine (unhide N1 _).mono ?_
          rintro e w1 ⟨rfl, hw1⟩
          subst hw1
          go_wp2_with fail
          refine (unhide N2 _).mono ?_
          rintro e w1 ⟨rfl, hw1⟩
          subst hw1
          go_wp2_with fail
          refine (unhide N3 _).mono ?_
          rintro e w1 ⟨rfl, hb1⟩
          go_wp2
          go_ret
          exact ⟨ret_int (by rw [unhide HE]; rfl), (unhide HB _).trans (hb1.mono (by simp))⟩
      · rw [decide_eq_false hy] at n2
        have HE := hide (en' (fun hh => hy hh.1.2))
        have N1 := hide n1; have N2 := hide n2
        clear n1 n2 eo' en' hx hy
        go_enter Tryz.func34, Tryz.ntmps34
        go_wp2_with fail
        refine (unhide N1 _).mono ?_
        rintro e w1 ⟨rfl, hw1⟩
        subst hw1
        go_wp2_with fail
        refine (unhide N2 _).mono ?_
        rintro e w1 ⟨rfl, hw1⟩
        subst hw1
        go_wp2
        go_ret
        exact ⟨ret_int (unhide HE).symm, unhide HB _⟩
    · rw [decide_eq_false hx] at n1
      have HE := hide (en' (fun hh => hx hh.1.1))
      have N1 := hide n1
      clear n1 n2 eo' en' hx
      go_enter Tryz.func34, Tryz.ntmps34
      go_wp2_with fail
      refine (unhide N1 _).mono ?_
      rintro e w1 ⟨rfl, hw1⟩
      subst hw1
      go_wp2
      go_ret
      exact ⟨ret_int (unhide HE).symm, unhide HB _⟩

/-- does a way apply? -/
def appB (x : XWay) (v : XWays) (s : XScene) : Bool :=
  if x.when = 1 then s.cash else if x.when = 2 then !s.cash else if x.when = 3 then inInts x.code s.able else
  if x.when = 4 then decide (s.amount < v.x) else if x.when = 5 then decide (v.x < s.amount) else if x.when = 6 then decide (s.amount < v.y) else if x.when = 7 then decide (v.y < s.amount) else true
/-- does a way that is gone go well? -/
def wellB (code : Int) (s : XScene) : Bool := if code = 5 then true else if code = 0 ∨ 5 < code then false else (inInts code s.able && inInts code s.well)

def WsAt (w : World) (g : Nat) (v : XWays) : Prop := w.heap[g]? = some (.cells #[.int .i64 v.x, .int .i64 v.y, .slice v.listo v.list.length v.listc] 28)
theorem block_ltW {w : World} {g : Nat} {o : Obj} (h : w.heap[g]? = some o) : g < w.heap.size := by
  rcases Nat.lt_or_ge g w.heap.size with h1 | h1
  · exact h1
  · rw [Array.getElem?_eq_none h1] at h
    cases h
theorem WsAt.below {w w' : World} {g : Nat} {v : XWays} (h : WsAt w g v) (hb : Below w.heap.size w w') : WsAt w' g v := (hb.block g (block_ltW h)).trans h
theorem WsAt.cells {w : World} {g : Nat} {v : XWays} (h : WsAt w g v) : w.cell? ⟨g, 0, none⟩ = some (.int .i64 v.x) ∧ w.cell? ⟨g, 1, none⟩ = some (.int .i64 v.y) ∧ w.cell? ⟨g, 2, none⟩ = some (.slice v.listo v.list.length v.listc) :=
  ⟨cell_of_row _ _ _ _ _ _ h, cell_of_row _ _ _ _ _ _ h, cell_of_row _ _ _ _ _ _ h⟩


end Go.Proofs.YtfpglpefofcdeaaGreatDoor
