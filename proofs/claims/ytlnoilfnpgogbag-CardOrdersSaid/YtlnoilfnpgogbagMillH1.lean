/- Hide of the program. -/
import Derived.Test.YtlnoilfnpgogbagMillH0
import Derived.Test.YtlnoilfnpgogbagMillF2
import Derived.Test.YtlnoilfnpgogbagRepeat
import Derived.Lib.ConvBytes
namespace Go.Proofs.Ytlnoilfnpgogbag
open Go.RowKit Go.Shelf
set_option linter.unusedVariables false

/-- bytes in a row, spare room behind them -/
def ORow (w : World) (g : Nat) (L : List Int) : Prop := ∃ (sp : Array Value) (fr : Nat × Nat), w.heap[g]? = some (.cells ((L.map (Value.int .u8)).toArray ++ sp) 5 fr) ∧ L.length ≤ fr.1
theorem ORow.cell {w : World} {g : Nat} {L : List Int} (h : ORow w g L) (j : Nat) (x : Int) (hx : L[j]? = some x) : w.cell? ⟨g, j, none⟩ = some (.int .u8 x) := by
  obtain ⟨sp, fr, hh, hl⟩ := h
  have hj : j < L.length := by
    rcases Nat.lt_or_ge j L.length with h | h
    · exact h
    · rw [List.getElem?_eq_none h] at hx; cases hx
  rw [cell_of_row _ _ j _ _ _ hh, Array.getElem?_append_left (by simpa using hj)]
  simp [hx]
theorem ORow.frozen {w : World} {g : Nat} {L : List Int} (h : ORow w g L) (j : Nat) (hj : j < L.length) : w.frozen? ⟨g, j, none⟩ = false := by
  obtain ⟨sp, fr, hh, hl⟩ := h
  simp [World.frozen?, hh]
  omega
theorem ORow.set {w : World} {g : Nat} {L : List Int} (h : ORow w g L) (j : Nat) (hj : j < L.length) (x : Int) : ORow (w.setCell ⟨g, j, none⟩ (.int .u8 x)) g (L.set j x) := by
  obtain ⟨sp, fr, hh, hl⟩ := h
  refine ⟨sp, fr, ?_, by simpa using hl⟩
  rw [set_rowM hh]
  congr 2
  rw [List.map_set]
  apply Array.toList_inj.1
  simp only [Array.toList_setIfInBounds, Array.toList_append]
  rw [List.set_append_left _ _ (by simpa using hj)]
theorem ORow.lt {w : World} {g : Nat} {L : List Int} (h : ORow w g L) : g < w.heap.size := by
  obtain ⟨sp, fr, hh, hl⟩ := h
  rcases Nat.lt_or_ge g w.heap.size with h | h
  · exact h
  · rw [Array.getElem?_eq_none h] at hh; cases hh
theorem ORow.below {w w' : World} {g : Nat} {L : List Int} (h : ORow w g L) (hb : Below w.heap.size w w') : ORow w' g L := by
  have hg := h.lt
  obtain ⟨sp, fr, hh, hl⟩ := h
  exact ⟨sp, fr, by rw [hb.block g hg, hh], hl⟩
theorem ORow.other {w : World} {g : Nat} {L : List Int} (h : ORow w g L) (b j : Nat) (hb : b ≠ g) (x : Value) : ORow (w.setCell ⟨b, j, none⟩ x) g L := by
  obtain ⟨sp, fr, hh, hl⟩ := h
  refine ⟨sp, fr, ?_, hl⟩
  rw [← hh]
  simp [World.setCell, Array.getElem?_modify, hb]
theorem ORow.drew {w : World} {g : Nat} {L : List Int} (h : ORow w g L) : ORow w.drew g L := h
theorem ORow.conv (w : World) (s : ByteArray) : ORow (Lib.bytesWorld w 5 s) w.heap.size (s.data.toList.map fun c => (c.toNat : Int)) := by
  refine ⟨Array.replicate (grownCap w s.size 0 5 - s.size) (.int .u8 0), ((Lib.bytesCells w 5 s).size, (Lib.bytesCells w 5 s).size + 1), ?_, ?_⟩
  · rw [Lib.bytesWorld_at_new]
    congr 2
    unfold Lib.bytesCells
    congr 1
    apply Array.toList_inj.1
    simp
  · simp [Lib.bytesCells]
theorem conv_below (w : World) (s : ByteArray) : Below w.heap.size w (Lib.bytesWorld w 5 s) :=
  ⟨rfl, rfl, rfl, by rw [Lib.bytesWorld_size]; omega, fun k hk => Lib.bytesWorld_at_old _ _ _ _ hk⟩
/-- two blocks filled -/
theorem two_filled {w W : World} {B g : Nat} {u0 v0 : Blk} (hb : Below B w W) (h0 : BlkAt W g u0) (h1 : BlkAt W (g + 1) v0) (hB : B ≤ g) (u v : Blk) :
    Below B w ((((((((W.setCell ⟨g, 0, none⟩ (.int .u32 (u.a : Nat))).setCell ⟨g, 1, none⟩ (.int .u32 (u.b : Nat))).setCell ⟨g, 2, none⟩ (.int .u32 (u.c : Nat))).setCell ⟨g, 3, none⟩ (.int .u32 (u.d : Nat))).setCell ⟨g + 1, 0, none⟩ (.int .u32 (v.a : Nat))).setCell ⟨g + 1, 1, none⟩ (.int .u32 (v.b : Nat))).setCell ⟨g + 1, 2, none⟩ (.int .u32 (v.c : Nat))).setCell ⟨g + 1, 3, none⟩ (.int .u32 (v.d : Nat))) ∧
    BlkAt ((((((((W.setCell ⟨g, 0, none⟩ (.int .u32 (u.a : Nat))).setCell ⟨g, 1, none⟩ (.int .u32 (u.b : Nat))).setCell ⟨g, 2, none⟩ (.int .u32 (u.c : Nat))).setCell ⟨g, 3, none⟩ (.int .u32 (u.d : Nat))).setCell ⟨g + 1, 0, none⟩ (.int .u32 (v.a : Nat))).setCell ⟨g + 1, 1, none⟩ (.int .u32 (v.b : Nat))).setCell ⟨g + 1, 2, none⟩ (.int .u32 (v.c : Nat))).setCell ⟨g + 1, 3, none⟩ (.int .u32 (v.d : Nat))) g u ∧
    BlkAt ((((((((W.setCell ⟨g, 0, none⟩ (.int .u32 (u.a : Nat))).setCell ⟨g, 1, none⟩ (.int .u32 (u.b : Nat))).setCell ⟨g, 2, none⟩ (.int .u32 (u.c : Nat))).setCell ⟨g, 3, none⟩ (.int .u32 (u.d : Nat))).setCell ⟨g + 1, 0, none⟩ (.int .u32 (v.a : Nat))).setCell ⟨g + 1, 1, none⟩ (.int .u32 (v.b : Nat))).setCell ⟨g + 1, 2, none⟩ (.int .u32 (v.c : Nat))).setCell ⟨g + 1, 3, none⟩ (.int .u32 (v.d : Nat))) (g + 1) v := by
  refine ⟨?_, ?_, ?_⟩
  · exact ((((((((hb.setCell hB _).setCell hB _).setCell hB _).setCell hB _).setCell (Nat.le_succ_of_le hB) _).setCell (Nat.le_succ_of_le hB) _).setCell (Nat.le_succ_of_le hB) _).setCell (Nat.le_succ_of_le hB) _)
  · exact ((((h0.put4 u).other (g + 1) 0 (by omega) (.int .u32 (v.a : Nat))).other (g + 1) 1 (by omega) (.int .u32 (v.b : Nat))).other (g + 1) 2 (by omega) (.int .u32 (v.c : Nat))).other (g + 1) 3 (by omega) (.int .u32 (v.d : Nat))
  · exact ((((h1.other g 0 (by omega) (.int .u32 (u.a : Nat))).other g 1 (by omega) (.int .u32 (u.b : Nat))).other g 2 (by omega) (.int .u32 (u.c : Nat))).other g 3 (by omega) (.int .u32 (u.d : Nat))).put4 v
theorem repeat_anyM (s : ByteArray) (c : Nat) (w : World) (hc : c ≤ 9223372036854775807) (hlen : s.size * c ≤ 140737488355328) :
    Calls Try.prog 80 #[.string s, .int .i64 c] w fun e w' => e = .returned (.string ⟨(Lib.repeatL s.data.toList c).toArray⟩) ∧ Below w.heap.size w w' :=
  Any.strings_Repeat Try.lays105 Try.Builder_Extra_105 s c w hc hlen
theorem zeros8_any (w : World) : Calls Try.prog 80 #[.string ⟨#[0]⟩, .int .i64 8] w fun e w' => e = .returned (.string (zeroS 8)) ∧ Below w.heap.size w w' := by
  have h1 : (⟨#[0]⟩ : ByteArray).size = 1 := rfl
  exact repeat_anyM ⟨#[0]⟩ 8 w (by decide) (by rw [h1]; decide)
theorem blkS_get (v : Blk) (r : Nat) (h : r < (blkS v).size) : ((blkS v)[r]'h).toNat = byteB v r := by
  have hr : r < 16 := by rw [blkS_size] at h; exact h
  have e : (blkS v).data.toList[r]? = some ((blkS v)[r]'h) := by rw [List.getElem?_eq_getElem (by simpa using h)]; rfl
  have e' : (blkS v).data.toList[r]? = some (UInt8.ofNat (byteB v r)) := by
    rw [blkS, strOfNums_data, List.getElem?_map, blkL_at v r hr, Option.map_some, Int.toNat_natCast]
    rfl
  rw [e'] at e
  rw [← Option.some.inj e, UInt8.toNat_ofNat']
  exact Nat.mod_eq_of_lt (byteB_lt v r)
end Go.Proofs.Ytlnoilfnpgogbag
