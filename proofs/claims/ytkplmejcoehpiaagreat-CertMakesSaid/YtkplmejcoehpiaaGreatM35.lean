/- A text as a number, by the document's own: whole. -/
import Derived.Test.YtkplmejcoehpiaaGreatM18
import Derived.Lib.ConvBytes
import Derived.Test.YtkplmejcoehpiaaGreatM00
import Derived.Shelf.Bits.Mul64
import Derived.Laws.Externs
import Derived.Deep.QuietTactic
import Derived.BigQuiet
namespace Go.Proofs.YtkplmejcoehpiaaGreat
open Go.RowKit
set_option linter.unusedVariables false
set_option linter.unusedSimpArgs false
set_option maxRecDepth 100000

theorem bytesWorld_belowW (w : World) (e : TypeId) (s : ByteArray) : Below w.heap.size w (Lib.bytesWorld w e s) :=
  ⟨rfl, rfl, rfl, by rw [Lib.bytesWorld_size]; omega, fun q hq => Lib.bytesWorld_at_old w e s q hq⟩
set_option maxHeartbeats 1000000 in
theorem whole_any (s : ByteArray) (w : World) (hs : (s.size : Int) ≤ 1000) :
    Calls Tryz.prog 26 #[.string s] w fun e w' => (e = .returned (.pointer (some ⟨w.heap.size, 0, none⟩)) ∧ IntAt w' w.heap.size (valN s.data.toList)) ∧ Below w.heap.size w w' ∧ w.heap.size < w'.heap.size := by
  obtain ⟨W1, hW1⟩ : ∃ W1, W1 = w.alloc (.cells #[.bool false, .slice none 0 0] 63) := ⟨_, rfl⟩
  have hX1 : W1.heap[w.heap.size]? = some (.cells #[.bool false, .slice none 0 0] 63 (0, 0)) := by rw [hW1]; exact heap_alloc_new _ _
  have hB1 : Below w.heap.size w W1 := by rw [hW1]; exact (Below.refl _ _).alloc (Nat.le_refl _) _
  obtain ⟨W2, hW2⟩ : ∃ W2, W2 = Lib.bytesWorld W1 5 s := ⟨_, rfl⟩
  have hB2 : Below W1.heap.size W1 W2 := by rw [hW2]; exact bytesWorld_belowW _ _ _
  have hX2 : BoxAt3 W2 w.heap.size false (.slice none 0 0) := ⟨(hB2.block _ (heap_lt hX1)).trans hX1, _, _, _, rfl⟩
  have hcell : ∀ i (h : i < s.size), W2.cell? ⟨W1.heap.size, i, none⟩ = some (.int .u8 ((s[i]'h).toNat : Int)) := fun i h => by
    rw [hW2, Lib.bytesWorld_cell W1 5 s i h]
    have e : s.data.toList.getD i 0 = s[i]'h := by
      rw [List.getD_eq_getElem?_getD, List.getElem?_eq_getElem (by simpa using h)]; rfl
    rw [e]
  have hsz : W2.heap.size = W1.heap.size + 1 := by rw [hW2, Lib.bytesWorld_size]
  have hlt : w.heap.size < W2.heap.size := by have := heap_lt hX1; omega
  have N0 := setBytes_any s W1.heap.size (grownCap W1 s.size 0 5) w.heap.size false (.slice none 0 0) W2 hcell (by omega) hX2 hs
  have hcv := Lib.run_convert_string_bytes (P := Tryz.prog) W1 9 55 5 s Tryz.underlying9 Tryz.underlying55 Tryz.underlying5
  rw [← hW2] at hcv
  have HB := hide (hB1.trans (hB2.mono hB1.size))
  have HLT := hide hlt
  have HN := hide N0
  generalize grownCap W1 s.size 0 5 = CP at *
  generalize hg1 : W1.heap.size = g1 at *
  have hcv' : ∀ v w', (convert 9 55 (.string s)).run Tryz.prog W1 = .ok v w' → True := fun _ _ _ => trivial
  clear hX1 hB1 hB2 hX2 hcell hsz hcv' N0 hW2 hg1 hlt hs
  rw [hW1] at hcv
  clear hW1
  go_enter Tryz.func26, Tryz.ntmps26
  go_wp2_with fail
  refine (unhide HN).mono ?_
  rintro e y ⟨rfl, hI, hb, _, hz⟩
  have HI := hide hI; have HBB := hide ((unhide HB).trans (hb w.heap.size (Nat.le_refl _)))
  have HZ := hide (Nat.lt_of_lt_of_le (unhide HLT) hz)
  clear hI hb hz
  go_wp2
  go_ret
  exact ⟨⟨rfl, unhide HI⟩, unhide HBB, unhide HZ⟩
end Go.Proofs.YtkplmejcoehpiaaGreat
namespace Go.Proofs.YtkplmejcoehpiaaGreat
open Go.RowKit
set_option linter.unusedVariables false

/-- 2^64 -/
def B64 : Nat := 18446744073709551616
theorem B64_pos : 0 < B64 := by unfold B64; decide
/-- the number of a list of words, the low one first -/
def natW : List Nat → Nat
  | [] => 0
  | x :: r => x + B64 * natW r
def okW (l : List Nat) : Prop := ∀ x ∈ l, x < B64
theorem okW_nil : okW [] := fun x hx => by cases hx
theorem okW_get {l : List Nat} (h : okW l) {i x : Nat} (hi : l[i]? = some x) : x < B64 := h x (List.mem_of_getElem? hi)
theorem okW_append {a b : List Nat} (ha : okW a) (hb : okW b) : okW (a ++ b) := fun x hx => by
  rcases List.mem_append.1 hx with h | h
  · exact ha x h
  · exact hb x h
theorem okW_take {a : List Nat} (h : okW a) (n : Nat) : okW (a.take n) := fun x hx => h x (List.mem_of_mem_take hx)
theorem okW_drop {a : List Nat} (h : okW a) (n : Nat) : okW (a.drop n) := fun x hx => h x (List.mem_of_mem_drop hx)
theorem okW_set {a : List Nat} (h : okW a) (i x : Nat) (hx : x < B64) : okW (a.set i x) := fun y hy => by
  rcases List.mem_or_eq_of_mem_set hy with h1 | h1
  · exact h y h1
  · rw [h1]; exact hx
theorem okW_zeros (n : Nat) : okW (List.replicate n 0) := fun x hx => by
  rw [(List.mem_replicate.1 hx).2]; exact B64_pos
theorem natW_append (a b : List Nat) : natW (a ++ b) = natW a + B64 ^ a.length * natW b := by
  induction a with
  | nil => simp [natW]
  | cons x r ih =>
    simp only [List.cons_append, natW, List.length_cons, Nat.pow_succ, ih]
    grind
theorem natW_lt {l : List Nat} (h : okW l) : natW l < B64 ^ l.length := by
  induction l with
  | nil => simp [natW]
  | cons x r ih =>
    have hx := h x (by simp)
    have hr := ih (fun y hy => h y (by simp [hy]))
    simp only [natW, List.length_cons, Nat.pow_succ]
    have h2 : B64 * (natW r + 1) ≤ B64 * B64 ^ r.length := Nat.mul_le_mul_left _ hr
    have h3 : B64 * (natW r + 1) = B64 * natW r + B64 := by rw [Nat.mul_add, Nat.mul_one]
    have h4 : B64 ^ r.length * B64 = B64 * B64 ^ r.length := Nat.mul_comm _ _
    omega
theorem natW_zeros (n : Nat) : natW (List.replicate n 0) = 0 := by
  induction n with
  | zero => rfl
  | succ n ih => simp [List.replicate_succ, natW, ih]
theorem natW_take_succ (l : List Nat) (i x : Nat) (h : l[i]? = some x) : natW (l.take (i + 1)) = natW (l.take i) + x * B64 ^ i := by
  have hi : i < l.length := by
    rcases Nat.lt_or_ge i l.length with h' | h'
    · exact h'
    · rw [List.getElem?_eq_none h'] at h; cases h
  rw [List.take_add_one, h, natW_append, List.length_take, Nat.min_eq_left (by omega)]
  simp [natW, Nat.mul_comm]
theorem natW_inj {a : List Nat} : ∀ {b : List Nat}, okW a → okW b → a.length = b.length → natW a = natW b → a = b := by
  induction a with
  | nil => intro b _ _ hl _; cases b with
    | nil => rfl
    | cons y t => simp at hl
  | cons x r ih =>
    intro b ha hb hl h
    cases b with
    | nil => simp at hl
    | cons y t =>
      have hx := ha x (by simp)
      have hy := hb y (by simp)
      simp only [natW] at h
      unfold B64 at hx hy h
      have e1 : x = y := by omega
      have e2 : natW r = natW t := by omega
      rw [e1, ih (fun z hz => ha z (by simp [hz])) (fun z hz => hb z (by simp [hz])) (by simpa using hl) e2]
theorem natW_split (l : List Nat) (k : Nat) (h : k ≤ l.length) : natW l = natW (l.take k) + B64 ^ k * natW (l.drop k) := by
  conv => lhs; rw [← List.take_append_drop k l]
  rw [natW_append, List.length_take, Nat.min_eq_left h]

/-- a digit of n times x, added to t, with what is over -/
def digN (x n o t : Nat) : Nat := x * n + o + t
theorem dig_lt (x n o t : Nat) (hx : x < B64) (hn : n < B64) (ho : o < B64) (ht : t < B64) : digN x n o t < B64 * B64 := by
  have h1 : x * n ≤ (B64 - 1) * (B64 - 1) := Nat.mul_le_mul (by omega) (by omega)
  have h2 : (B64 - 1) * (B64 - 1) = 340282366920938463426481119284349108225 := by unfold B64; rfl
  have h3 : B64 * B64 = 340282366920938463463374607431768211456 := by unfold B64; rfl
  unfold digN
  unfold B64 at ho ht
  omega
theorem dig_low (p o t : Nat) : (t + (p % B64 + o) % B64) % B64 = (p + o + t) % B64 := by unfold B64; omega
theorem dig_over (p o t : Nat) (ho : o < B64) (ht : t < B64) : p / B64 + (p % B64 + o) / B64 + (t + (p % B64 + o) % B64) / B64 = (p + o + t) / B64 := by unfold B64 at *; omega
theorem add_stepW (a o b c n d x t : Nat) (h : a + o * b = c + n * d) : a + digN x n o t % B64 * b + digN x n o t / B64 * (b * B64) = c + t * b + n * (d + x * b) := by
  have hq := Nat.div_add_mod (digN x n o t) B64
  generalize digN x n o t % B64 = r at *
  generalize digN x n o t / B64 = q at *
  unfold digN at hq
  grind
end Go.Proofs.YtkplmejcoehpiaaGreat
namespace Go.Proofs.YtkplmejcoehpiaaGreat
open Go.RowKit Go.Shelf
set_option linter.unusedVariables false

def Tryz.lays264_ren : Go.Shelf.Ren := ⟨fun | 264 => 77 | _ => 0, fun | 46 => 74 | 53 => 48 | _ => 0, fun _ => 0⟩
theorem Tryz.lays264 : Go.Proofs.Lays.n264 Tryz.prog Tryz.lays264_ren := {
  mixed := by kernel_rfl
  f264 := Tryz.func77.trans (congrArg some (by kernel_rfl))
  t46 := Tryz.underlying74
  a46 := Tryz.isAgg74
  z46 := Tryz.sizeOf74
  v46 := Tryz.zeroValue74
  t53 := Tryz.underlying48
  a53 := Tryz.isAgg48
  z53 := Tryz.sizeOf48
  v53 := Tryz.zeroValue48 }
theorem mul64_any (x y : Nat) (hx : x < B64) (hy : y < B64) (w : World) :
    Calls Tryz.prog 77 #[.int .u64 x, .int .u64 y] w fun e w' => e = .returned (.tuple #[.int .u64 ((x * y / B64 : Nat) : Int), .int .u64 ((x * y % B64 : Nat) : Int)]) ∧ w' = w :=
  Any.bits_Mul64 Tryz.lays264 x y hx hy w
theorem add64_run (x y c : Nat) (hc : c ≤ 1) (w : World) :
    (callFunc 78 #[.int .u64 x, .int .u64 y, .int .u64 c]).run Tryz.prog w = .ok (.value (.tuple #[.int .u64 (((x + y + c) % B64 : Nat) : Int), .int .u64 (((x + y + c) / B64 : Nat) : Int)])) w := by
  unfold B64
  rw [run_callFunc_extern Tryz.func78 (by kernel_rfl) (by kernel_rfl) (by kernel_rfl) (e := add64Entry) (by kernel_rfl), run_add64 x y c (by omega) (by omega) (by omega) (by omega)]
  simp only [Result.andThen]
  congr 5 <;> omega

theorem add64_run0 (x y : Nat) (w : World) :
    (callFunc 78 #[.int .u64 x, .int .u64 y, .int .u64 0]).run Tryz.prog w = .ok (.value (.tuple #[.int .u64 (((x + y) % B64 : Nat) : Int), .int .u64 (((x + y) / B64 : Nat) : Int)])) w := add64_run x y 0 (by omega) w

/-- words that lie in a row, to be read -/
def NumAt (w : World) (g off : Nat) (ws : List Nat) : Prop := g < w.heap.size ∧ ∀ i x, ws[i]? = some x → w.cell? ⟨g, off + i, none⟩ = some (.int .u64 (x : Nat))
theorem NumAt.below {w w' : World} {g off : Nat} {ws : List Nat} (h : NumAt w g off ws) (hb : Below w.heap.size w w') : NumAt w' g off ws :=
  ⟨Nat.lt_of_lt_of_le h.1 hb.size, fun i x hi => (hb.cell (p := ⟨g, off + i, none⟩) h.1).trans (h.2 i x hi)⟩
/-- a whole block of words -/
def UCells (row : List Nat) : Array Value := (row.map fun x : Nat => Value.int .u64 (x : Int)).toArray
def URow (w : World) (g : Nat) (row : List Nat) : Prop := w.heap[g]? = some (.cells (UCells row) 48 (0, 0))
theorem URow.cell {w : World} {g : Nat} {row : List Nat} (h : URow w g row) (i x : Nat) (hi : row[i]? = some x) : w.cell? ⟨g, i, none⟩ = some (.int .u64 (x : Nat)) := by
  rw [cell_of_row _ _ i _ _ _ h]
  simp [UCells, hi]
theorem URow.frozen {w : World} {g : Nat} {row : List Nat} (h : URow w g row) (i : Nat) : w.frozen? ⟨g, i, none⟩ = false := frozen_of_row _ _ i _ _ h
theorem URow.lt {w : World} {g : Nat} {row : List Nat} (h : URow w g row) : g < w.heap.size := by
  rcases Nat.lt_or_ge g w.heap.size with h' | h'
  · exact h'
  · unfold URow at h
    rw [Array.getElem?_eq_none h'] at h; cases h
theorem set_rowN {w : World} {g j : Nat} {cs : Array Value} {e : TypeId} {fr : Nat × Nat} {v : Value} (h : w.heap[g]? = some (.cells cs e fr)) : (w.setCell ⟨g, j, none⟩ v).heap[g]? = some (.cells (cs.setIfInBounds j v) e fr) := by
  simp [World.setCell, Array.getElem?_modify, h]
theorem URow.set {w : World} {g : Nat} {row : List Nat} (h : URow w g row) (i x : Nat) : URow (w.setCell ⟨g, i, none⟩ (.int .u64 (x : Nat))) g (row.set i x) := by
  unfold URow
  rw [set_rowN h]
  congr 2
  unfold UCells
  rw [List.setIfInBounds_toArray, List.map_set]
theorem URow.numAt {w : World} {g : Nat} {row : List Nat} (h : URow w g row) (off : Nat) : NumAt w g off (row.drop off) :=
  ⟨h.lt, fun i x hi => h.cell (off + i) x (by rw [← hi, List.getElem?_drop])⟩
theorem URow.below {w w' : World} {g : Nat} {row : List Nat} (h : URow w g row) (hb : Below w.heap.size w w') : URow w' g row := by
  have hg := h.lt
  unfold URow at *
  rw [hb.block g hg, h]
theorem URow.drew {w : World} {g : Nat} {row : List Nat} (h : URow w g row) : URow w.drew g row := h
/-- one block alone has turned -/
structure Only (g : Nat) (w w' : World) : Prop where
  os : w'.os = w.os
  tape : w'.tape = w.tape
  output : w'.output = w.output
  size : w'.heap.size = w.heap.size
  block : ∀ k, k ≠ g → w'.heap[k]? = w.heap[k]?
theorem Only.refl (g : Nat) (w : World) : Only g w w := ⟨rfl, rfl, rfl, rfl, fun _ _ => rfl⟩
theorem Only.setCell {g : Nat} {w w' : World} (h : Only g w w') (j : Nat) (v : Value) : Only g w (w'.setCell ⟨g, j, none⟩ v) :=
  ⟨h.os, h.tape, h.output, by simp [World.setCell, h.size], fun k hk => by rw [← h.block k hk]; simp [World.setCell, Array.getElem?_modify, Ne.symm hk]⟩
theorem Only.drew {g : Nat} {w w' : World} (h : Only g w w') : Only g w w'.drew := ⟨h.os, h.tape, h.output, h.size, h.block⟩
theorem Only.trans {g : Nat} {a b c : World} (h : Only g a b) (k : Only g b c) : Only g a c :=
  ⟨k.os.trans h.os, k.tape.trans h.tape, k.output.trans h.output, k.size.trans h.size, fun n hn => (k.block n hn).trans (h.block n hn)⟩
theorem Only.below {g B : Nat} {a b : World} (h : Only g a b) (hB : B ≤ g) : Below B a b := ⟨h.os, h.tape, h.output, by rw [h.size]; exact Nat.le_refl _, fun k hk => h.block k (by omega)⟩
theorem NumAt.only {w w' : World} {g off q : Nat} {ws : List Nat} (h : NumAt w g off ws) (hb : Only q w w') (hq : g ≠ q) : NumAt w' g off ws :=
  ⟨by rw [hb.size]; exact h.1, fun i x hi => by
    have hc := h.2 i x hi
    unfold World.cell? at *
    rw [hb.block g hq]
    exact hc⟩
end Go.Proofs.YtkplmejcoehpiaaGreat
namespace Go.Proofs.YtkplmejcoehpiaaGreat
open Go.RowKit Go.Shelf
set_option linter.unusedVariables false

theorem wrap64N (a b c : Nat) (h : a + b = c) (hc : c < B64) : IntKind.u64.wrap ((a : Int) + (b : Int)) = (c : Int) := by
  unfold B64 at hc
  rw [IntKind.wrap_u64]
  omega
theorem get_pre {pre u : List Nat} {i : Nat} : (pre ++ u)[pre.length + i]? = u[i]? := by
  rw [List.getElem?_append_right (by omega), Nat.add_sub_cancel_left]
theorem set_pre {pre u : List Nat} {i x : Nat} : (pre ++ u).set (pre.length + i) x = pre ++ u.set i x := by
  rw [List.set_append_right _ _ (by omega), Nat.add_sub_cancel_left]
theorem take_set (u : List Nat) (i x : Nat) (h : i < u.length) : (u.set i x).take (i + 1) = u.take i ++ [x] := by
  rw [List.take_set, List.take_add_one, List.getElem?_eq_getElem h, List.set_append_right _ _ (by simp; omega), List.length_take, Nat.min_eq_left (by omega), Nat.sub_self]
  rfl
theorem drop_set (u : List Nat) (i x : Nat) : (u.set i x).drop (i + 1) = u.drop (i + 1) := by
  rw [List.drop_set_of_lt (by omega)]

/-- behind i words -/
structure AddAt (r0 xs : List Nat) (n i : Nat) (u : List Nat) (o : Nat) : Prop where
  len : u.length = r0.length
  ok : okW u
  rest : u.drop i = r0.drop i
  sum : natW (u.take i) + o * B64 ^ i = natW (r0.take i) + n * natW (xs.take i)
  lt : o < B64
theorem AddAt.step {r0 xs : List Nat} {n i o xw tw : Nat} {u : List Nat} (h : AddAt r0 xs n i u o) (hx : xs[i]? = some xw) (ht : u[i]? = some tw) (hn : n < B64) (hxw : xw < B64) :
    AddAt r0 xs n (i + 1) (u.set i (digN xw n o tw % B64)) (digN xw n o tw / B64) := by
  have htw := okW_get h.ok ht
  have hi : i < u.length := by
    rcases Nat.lt_or_ge i u.length with h' | h'
    · exact h'
    · rw [List.getElem?_eq_none h'] at ht; cases ht
  have hr : r0[i]? = some tw := by
    have e : u.drop i = r0.drop i := h.rest
    have e2 := congrArg (fun l => l[0]?) e
    simp only [List.getElem?_drop, Nat.add_zero] at e2
    rw [← e2]; exact ht
  have hd := dig_lt xw n o tw hxw hn h.lt htw
  refine ⟨by rw [List.length_set]; exact h.len, okW_set h.ok _ _ (Nat.mod_lt _ B64_pos), ?_, ?_, Nat.div_lt_of_lt_mul hd⟩
  · rw [drop_set, ← List.drop_drop, ← List.drop_drop, h.rest]
  · rw [take_set u i _ hi, natW_append, natW_take_succ r0 i tw hr, natW_take_succ xs i xw hx, List.length_take, Nat.min_eq_left (by omega), Nat.pow_succ]
    have := add_stepW (natW (u.take i)) o (B64 ^ i) (natW (r0.take i)) n (natW (xs.take i)) xw tw h.sum
    simp only [natW, Nat.mul_zero, Nat.add_zero]
    rw [Nat.mul_comm (B64 ^ i)]
    exact this

theorem AddAt.carry {r0 xs : List Nat} {n i o tw : Nat} {u : List Nat} (h : AddAt r0 xs n i u o) (hi : xs.length ≤ i) (ht : u[i]? = some tw) :
    AddAt r0 xs n (i + 1) (u.set i ((tw + o) % B64)) ((tw + o) / B64) := by
  have htw := okW_get h.ok ht
  have hi2 : i < u.length := by
    rcases Nat.lt_or_ge i u.length with h' | h'
    · exact h'
    · rw [List.getElem?_eq_none h'] at ht; cases ht
  have hr : r0[i]? = some tw := by
    have e : u.drop i = r0.drop i := h.rest
    have e2 := congrArg (fun l => l[0]?) e
    simp only [List.getElem?_drop, Nat.add_zero] at e2
    rw [← e2]; exact ht
  have hd : (tw + o) / B64 < B64 := by have := h.lt; unfold B64 at *; omega
  refine ⟨by rw [List.length_set]; exact h.len, okW_set h.ok _ _ (Nat.mod_lt _ B64_pos), ?_, ?_, hd⟩
  · rw [drop_set, ← List.drop_drop, ← List.drop_drop, h.rest]
  · have hs := h.sum
    rw [List.take_of_length_le hi] at hs
    rw [take_set u i _ hi2, natW_append, natW_take_succ r0 i tw hr, List.take_of_length_le (show xs.length ≤ i + 1 by omega), List.length_take, Nat.min_eq_left (by omega), Nat.pow_succ]
    have hq := Nat.div_add_mod (tw + o) B64
    generalize (tw + o) % B64 = r at *
    generalize (tw + o) / B64 = q at *
    simp only [natW, Nat.mul_zero, Nat.add_zero]
    grind
theorem AddAt.done {r0 xs : List Nat} {n k o : Nat} {u : List Nat} (h : AddAt r0 xs n k u o) (hk : xs.length ≤ k) (hk2 : k ≤ r0.length) (hroom : natW r0 + n * natW xs < B64 ^ r0.length) (hd : o = 0 ∨ k = r0.length) : natW u = natW r0 + n * natW xs := by
  have hs := h.sum
  rw [List.take_of_length_le hk] at hs
  have e1 := natW_split u k (by rw [h.len]; exact hk2)
  have e2 := natW_split r0 k hk2
  rw [h.rest] at e1
  have h0 : o = 0 := by
    rcases hd with hd | hd
    · exact hd
    · subst hd
      rw [List.take_of_length_le (Nat.le_refl r0.length)] at hs
      rcases Nat.eq_zero_or_pos o with h1 | h1
      · exact h1
      · have : B64 ^ r0.length ≤ o * B64 ^ r0.length := Nat.le_mul_of_pos_left _ h1
        omega
  subst h0
  rw [Nat.zero_mul, Nat.add_zero] at hs
  omega

set_option maxHeartbeats 4000000 in
set_option maxRecDepth 100000 in
theorem addTimes_any (pre r0 xs : List Nat) (n : Nat) (g tc g' o' xc : Nat) (w : World) (hT : URow w g (pre ++ r0)) (hX : NumAt w g' o' xs) (hne : g' ≠ g) (hlen : xs.length ≤ r0.length) (hn : n < B64) (hxs : okW xs) (hr0 : okW r0)
    (hroom : natW r0 + n * natW xs < B64 ^ r0.length) (hbig : (r0.length : Int) ≤ 1000000) :
    Calls Tryz.prog 45 #[.slice (some ⟨g, pre.length, none⟩) r0.length tc, .slice (some ⟨g', o', none⟩) xs.length xc, .int .u64 n] w fun e w' => e = .returned (.tuple #[]) ∧ ∃ u, URow w' g (pre ++ u) ∧ u.length = r0.length ∧ okW u ∧ natW u = natW r0 + n * natW xs ∧ Only g w w' := by
  go_enter Tryz.func45, Tryz.ntmps45
  go_wp2
  have HN := hide hn
  have HX := hide hX
  have HXS := hide hxs
  have HRM := hide hroom
  clear hn hxs hroom
  go_loopw [6, 15] (fun ov i wr => ∃ (k o : Nat) (u : List Nat), k ≤ xs.length ∧ i = .int .i64 k ∧ ov = .int .u64 (o : Nat) ∧ AddAt r0 xs n k u o ∧ URow wr g (pre ++ u) ∧ Only g w wr) (fun _ i _ => xs.length - (intOf i).toNat)
  case atStart => exact ⟨0, 0, r0, Nat.zero_le _, rfl, rfl, ⟨rfl, hr0, rfl, by simp [natW], B64_pos⟩, hT, Only.refl _ _⟩
  case round =>
    obtain ⟨k, o, u, hk, rfl, rfl, hA, hU, hO⟩ := hrel
    by_cases hlt : k < xs.length
    · obtain ⟨xw, hxw⟩ : ∃ x, xs[k]? = some x := ⟨xs[k], List.getElem?_eq_getElem hlt⟩
      have hul := hA.len
      obtain ⟨tw, htw⟩ : ∃ x, u[k]? = some x := ⟨u[k]'(by omega), List.getElem?_eq_getElem (by omega)⟩
      have hxb := okW_get (unhide HXS) hxw
      have htb := okW_get hA.ok htw
      have hst := hA.step hxw htw (unhide HN) hxb
      have cx := ((unhide HX).only hO hne).2 k xw hxw
      have ct := hU.cell (pre.length + k) tw (by rw [get_pre]; exact htw)
      have ft := hU.frozen (pre.length + k)
      have hset := hU.set (pre.length + k) (digN xw n o tw % B64)
      rw [set_pre] at hset
      have M1 := hide (fun w => mul64_any xw n hxb (unhide HN) w)
      have a1 := fun w => add64_run0 (xw * n % B64) o w
      have a2 := fun w => add64_run0 tw ((xw * n % B64 + o) % B64) w
      have e1 := dig_low (xw * n) o tw
      have e2 := dig_over (xw * n) o tw hA.lt htb
      rw [show xw * n + o + tw = digN xw n o tw from rfl] at e1 e2
      rw [e1] at a2
      have hov : digN xw n o tw / B64 < B64 := hst.lt
      generalize digN xw n o tw % B64 = dd at *
      generalize digN xw n o tw / B64 = ov at *
      generalize (tw + (xw * n % B64 + o) % B64) / B64 = c2 at *
      generalize (xw * n % B64 + o) % B64 = s1 at *
      generalize (xw * n % B64 + o) / B64 = c1 at *
      generalize xw * n % B64 = lo at *
      generalize xw * n / B64 = hi at *
      obtain ⟨h1, hh1⟩ : ∃ h1, h1 = hi + c1 := ⟨_, rfl⟩
      have w1 := wrap64N hi c1 h1 hh1.symm (by omega)
      have w2 := wrap64N h1 c2 ov (by omega) hov
      have HST := hide hst
      have HSE := hide hset
      have HO := hide hO
      have hki : (k : Int) < (xs.length : Int) := by omega
      have hkt : (k : Int) < (r0.length : Int) := by omega
      clear hst hset hO hA hU e1 e2 hh1 hov htw hxw hxb htb hT
      go_wp2_with fail
      refine (unhide M1 _).mono ?_
      rintro e y1 ⟨rfl, rfl⟩
      go_wp2
      go_roundw
      case rel => exact ⟨k + 1, ov, _, hlt, by go_num, rfl, unhide HST, unhide HSE, (unhide HO).setCell _ _⟩
      case measure => simp [intOf]; omega
    · have hkx : k = xs.length := by omega
      subst hkx
      clear hT
      go_wp2
      go_loopw [6, 12] (fun ov i wr => ∃ (k o : Nat) (u : List Nat), xs.length ≤ k ∧ k ≤ r0.length ∧ i = .int .i64 k ∧ ov = .int .u64 (o : Nat) ∧ AddAt r0 xs n k u o ∧ URow wr g (pre ++ u) ∧ Only g w wr) (fun _ i _ => r0.length - (intOf i).toNat)
      case atStart => exact ⟨xs.length, o, u, Nat.le_refl _, hlen, rfl, rfl, hA, hU, hO⟩
      case round =>
        clear hA hU hO
        obtain ⟨k, o, u, hk1, hk2, rfl, rfl, hA, hU, hO⟩ := hrel
        by_cases hc : o ≠ 0 ∧ k < r0.length
        · obtain ⟨ho, hlt⟩ := hc
          have hul := hA.len
          obtain ⟨tw, htw⟩ : ∃ x, u[k]? = some x := ⟨u[k]'(by omega), List.getElem?_eq_getElem (by omega)⟩
          have hst := hA.carry hk1 htw
          have ct := hU.cell (pre.length + k) tw (by rw [get_pre]; exact htw)
          have ft := hU.frozen (pre.length + k)
          have hset := hU.set (pre.length + k) ((tw + o) % B64)
          rw [set_pre] at hset
          have a2 := fun w => add64_run0 tw o w
          have t0 : ((o : Int) != 0) = true := by rw [bne_iff_ne]; omega
          have hkt : (k : Int) < (r0.length : Int) := by omega
          generalize (tw + o) % B64 = dd at *
          generalize (tw + o) / B64 = c2 at *
          have HST := hide hst
          have HSE := hide hset
          have HO := hide hO
          clear hst hset hO hA hU htw ho
          go_wp2
          go_roundw
          case rel => exact ⟨k + 1, c2, _, by omega, hlt, by go_num, rfl, unhide HST, unhide HSE, (unhide HO).setCell _ _⟩
          case measure => simp [intOf]; omega
        · have hdone := hA.done hk1 hk2 (unhide HRM) (by omega)
          have HD := hide hdone
          have HA := hide hA
          have HU := hide hU
          have HO := hide hO
          by_cases ho : o = 0
          · have t0 : ((o : Int) != 0) = false := by rw [bne_eq_false_iff_eq]; omega
            clear hc hdone hA hU hO ho
            go_wp2
            go_end0
            exact ⟨rfl, u, unhide HU, (unhide HA).len, (unhide HA).ok, unhide HD, unhide HO⟩
          · have t0 : ((o : Int) != 0) = true := by rw [bne_iff_ne]; omega
            have hkt : ¬ (k : Int) < (r0.length : Int) := by omega
            clear hc hdone hA hU hO ho
            go_wp2
            go_end0
            exact ⟨rfl, u, unhide HU, (unhide HA).len, (unhide HA).ok, unhide HD, unhide HO⟩
end Go.Proofs.YtkplmejcoehpiaaGreat
