/- Words of 64 bits in memory; the library's sums; addTimes. -/
import Derived.Test.YtjipcmmaemokhaaDoorM03
import Derived.Shelf.Bits.Mul64
import Derived.Laws.Externs
import Derived.Deep.QuietTactic
import Derived.BigQuiet
namespace Go.Proofs.YtjipcmmaemokhaaDoor
open Go.RowKit Go.Shelf
set_option linter.unusedVariables false

def Tryd.lays264_ren : Go.Shelf.Ren := ⟨fun | 264 => 28 | _ => 0, fun | 46 => 43 | 53 => 40 | _ => 0, fun _ => 0⟩
theorem Tryd.lays264 : Go.Proofs.Lays.n264 Tryd.prog Tryd.lays264_ren := {
  mixed := by kernel_rfl
  f264 := Tryd.func28.trans (congrArg some (by kernel_rfl))
  t46 := Tryd.underlying43
  a46 := Tryd.isAgg43
  z46 := Tryd.sizeOf43
  v46 := Tryd.zeroValue43
  t53 := Tryd.underlying40
  a53 := Tryd.isAgg40
  z53 := Tryd.sizeOf40
  v53 := Tryd.zeroValue40 }
theorem mul64_any (x y : Nat) (hx : x < B64) (hy : y < B64) (w : World) :
    Calls Tryd.prog 28 #[.int .u64 x, .int .u64 y] w fun e w' => e = .returned (.tuple #[.int .u64 ((x * y / B64 : Nat) : Int), .int .u64 ((x * y % B64 : Nat) : Int)]) ∧ w' = w :=
  Any.bits_Mul64 Tryd.lays264 x y hx hy w
theorem add64_run (x y c : Nat) (hc : c ≤ 1) (w : World) :
    (callFunc 29 #[.int .u64 x, .int .u64 y, .int .u64 c]).run Tryd.prog w = .ok (.value (.tuple #[.int .u64 (((x + y + c) % B64 : Nat) : Int), .int .u64 (((x + y + c) / B64 : Nat) : Int)])) w := by
  unfold B64
  rw [run_callFunc_extern Tryd.func29 (by kernel_rfl) (by kernel_rfl) (by kernel_rfl) (e := add64Entry) (by kernel_rfl), run_add64 x y c (by omega) (by omega) (by omega) (by omega)]
  simp only [Result.andThen]
  congr 5 <;> omega

theorem add64_run0 (x y : Nat) (w : World) :
    (callFunc 29 #[.int .u64 x, .int .u64 y, .int .u64 0]).run Tryd.prog w = .ok (.value (.tuple #[.int .u64 (((x + y) % B64 : Nat) : Int), .int .u64 (((x + y) / B64 : Nat) : Int)])) w := add64_run x y 0 (by omega) w

/-- words that lie in a row, to be read -/
def NumAt (w : World) (g off : Nat) (ws : List Nat) : Prop := g < w.heap.size ∧ ∀ i x, ws[i]? = some x → w.cell? ⟨g, off + i, none⟩ = some (.int .u64 (x : Nat))
theorem NumAt.below {w w' : World} {g off : Nat} {ws : List Nat} (h : NumAt w g off ws) (hb : Below w.heap.size w w') : NumAt w' g off ws :=
  ⟨Nat.lt_of_lt_of_le h.1 hb.size, fun i x hi => (hb.cell (p := ⟨g, off + i, none⟩) h.1).trans (h.2 i x hi)⟩
/-- a whole block of words -/
def UCells (row : List Nat) : Array Value := (row.map fun x : Nat => Value.int .u64 (x : Int)).toArray
def URow (w : World) (g : Nat) (row : List Nat) : Prop := w.heap[g]? = some (.cells (UCells row) 40 (0, 0))
theorem URow.cell {w : World} {g : Nat} {row : List Nat} (h : URow w g row) (i x : Nat) (hi : row[i]? = some x) : w.cell? ⟨g, i, none⟩ = some (.int .u64 (x : Nat)) := by
  rw [cell_of_row _ _ i _ _ _ h]
  simp [UCells, hi]
theorem URow.frozen {w : World} {g : Nat} {row : List Nat} (h : URow w g row) (i : Nat) : w.frozen? ⟨g, i, none⟩ = false := frozen_of_row _ _ i _ _ h
theorem URow.lt {w : World} {g : Nat} {row : List Nat} (h : URow w g row) : g < w.heap.size := by
  rcases Nat.lt_or_ge g w.heap.size with h' | h'
  · exact h'
  · unfold URow at h
    rw [Array.getElem?_eq_none h'] at h; cases h
theorem set_rowN {w : World} {g j : Nat} {cs : Array Value} {e : TypeId} {fr : Nat × Nat} {v : Value} (h : w.heap[g]? = some (.cells cs e fr)) : (w.setCell ⟨g, j, none⟩ v).heap[g]? = some (.cells (cs.setIfInBounds j v) e fr) := by
  simp [World.setCell, Array.getElem?_modify, h]
theorem URow.set {w : World} {g : Nat} {row : List Nat} (h : URow w g row) (i x : Nat) : URow (w.setCell ⟨g, i, none⟩ (.int .u64 (x : Nat))) g (row.set i x) := by
  unfold URow
  rw [set_rowN h]
  congr 2
  unfold UCells
  rw [List.setIfInBounds_toArray, List.map_set]
theorem URow.numAt {w : World} {g : Nat} {row : List Nat} (h : URow w g row) (off : Nat) : NumAt w g off (row.drop off) :=
  ⟨h.lt, fun i x hi => h.cell (off + i) x (by rw [← hi, List.getElem?_drop])⟩
theorem URow.below {w w' : World} {g : Nat} {row : List Nat} (h : URow w g row) (hb : Below w.heap.size w w') : URow w' g row := by
  have hg := h.lt
  unfold URow at *
  rw [hb.block g hg, h]
theorem URow.drew {w : World} {g : Nat} {row : List Nat} (h : URow w g row) : URow w.drew g row := h
/-- one block alone has turned -/
structure Only (g : Nat) (w w' : World) : Prop where
  os : w'.os = w.os
  tape : w'.tape = w.tape
  output : w'.output = w.output
  size : w'.heap.size = w.heap.size
  block : ∀ k, k ≠ g → w'.heap[k]? = w.heap[k]?
theorem Only.refl (g : Nat) (w : World) : Only g w w := ⟨rfl, rfl, rfl, rfl, fun _ _ => rfl⟩
theorem Only.setCell {g : Nat} {w w' : World} (h : Only g w w') (j : Nat) (v : Value) : Only g w (w'.setCell ⟨g, j, none⟩ v) :=
  ⟨h.os, h.tape, h.output, by simp [World.setCell, h.size], fun k hk => by rw [← h.block k hk]; simp [World.setCell, Array.getElem?_modify, Ne.symm hk]⟩
theorem Only.drew {g : Nat} {w w' : World} (h : Only g w w') : Only g w w'.drew := ⟨h.os, h.tape, h.output, h.size, h.block⟩
theorem Only.trans {g : Nat} {a b c : World} (h : Only g a b) (k : Only g b c) : Only g a c :=
  ⟨k.os.trans h.os, k.tape.trans h.tape, k.output.trans h.output, k.size.trans h.size, fun n hn => (k.block n hn).trans (h.block n hn)⟩
theorem Only.below {g B : Nat} {a b : World} (h : Only g a b) (hB : B ≤ g) : Below B a b := ⟨h.os, h.tape, h.output, by rw [h.size]; exact Nat.le_refl _, fun k hk => h.block k (by omega)⟩
theorem NumAt.only {w w' : World} {g off q : Nat} {ws : List Nat} (h : NumAt w g off ws) (hb : Only q w w') (hq : g ≠ q) : NumAt w' g off ws :=
  ⟨by rw [hb.size]; exact h.1, fun i x hi => by
    have hc := h.2 i x hi
    unfold World.cell? at *
    rw [hb.block g hq]
    exact hc⟩
end Go.Proofs.YtjipcmmaemokhaaDoor
