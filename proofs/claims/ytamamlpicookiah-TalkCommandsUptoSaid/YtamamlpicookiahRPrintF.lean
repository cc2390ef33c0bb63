/- PrintFields of the reference; and one contract each. -/
import Derived.Test.YtamamlpicookiahPrintF
import Derived.Deep.RegionHeld3
namespace Go.Proofs.Ytamamlpicookiah
open Go.RowKit
set_option linter.unusedVariables false

def printS (fs : List (Int × Int)) : ByteArray := if fieldsE fs = 0 then strOfNums (textL fs) else ⟨#[]⟩

theorem three_sizes (L : List Int) (tn ln : Nat) : (strOfNums (tagL tn)).size ≤ 3 ∧ (strOfNums [lowByte (ln : Int)]).size ≤ 1 ∧ (strOfNums (tagL tn) ++ strOfNums [lowByte (ln : Int)]).size ≤ 4 := by
  have h := (tagLen_le tn).2
  rw [ByteArray.size_append, strOfNums_size, strOfNums_size, tagL_length]
  simp
  omega

theorem new_cell (w : World) (x : Value) (e : TypeId) : (w.alloc (.cells #[x] e)).cell? ⟨w.heap.size, 0, none⟩ = some x := (cell_of_row _ _ 0 #[x] e _ (heap_alloc_new w _)).trans rfl
theorem bytes_low (ln : Nat) (hlow : lowByte (ln : Int) = (ln : Int)) (b off cap : Nat) (w : World) (hc : w.cell? ⟨b, off, none⟩ = some (.int .i64 (ln : Int))) :
    Calls Try.prog 16 #[.slice (some ⟨b, off, none⟩) 1 cap] w fun e w' => e = .returned (.string (strOfNums [(ln : Int)])) ∧ Below w.heap.size w w' := by
  have h := bytes_one (ln : Int) b off cap w (World.block_lt_of_cell? _ _ hc) hc
  rw [hlow] at h
  exact h

end Go.Proofs.Ytamamlpicookiah
