/- ParseFields of the program. -/
import Derived.Test.YtajkbkljonejnaaGreatDoorM35
import Derived.Test.YtajkbkljonejnaaGreatDoorM34
import Derived.Test.YtajkbkljonejnaaGreatDoorM02
import Derived.ArgAppend
import Derived.Lib.AppendStr
import Derived.Deep.RegionHeld3
import Derived.Lib.ConvBytes
namespace Go.Proofs.YtajkbkljonejnaaGreatDoor
open Go.RowKit
set_option linter.unusedVariables false
end Go.Proofs.YtajkbkljonejnaaGreatDoor
namespace Go.Proofs.YtajkbkljonejnaaGreatDoor
open Go.RowKit
set_option linter.unusedVariables false
end Go.Proofs.YtajkbkljonejnaaGreatDoor
namespace Go.Proofs.YtajkbkljonejnaaGreatDoor
open Go.RowKit
set_option linter.unusedVariables false
end Go.Proofs.YtajkbkljonejnaaGreatDoor
namespace Go.Proofs.YtajkbkljonejnaaGreatDoor
open Go.RowKit
set_option linter.unusedVariables false
end Go.Proofs.YtajkbkljonejnaaGreatDoor
namespace Go.Proofs.YtajkbkljonejnaaGreatDoor
open Go.RowKit
set_option linter.unusedVariables false
def headD (s : ByteArray) : Option (Nat × Nat × Nat) :=
  if s.size < tagSz s.data.toList then none
  else if validB (tagAt s) = false then none
  else match lenAt (behind s (tagSz s.data.toList)) with
    | none => none
    | some (n, k) => some (tagAt s, n, tagSz s.data.toList + k)
end Go.Proofs.YtajkbkljonejnaaGreatDoor
namespace Go.Proofs.YtajkbkljonejnaaGreatDoor
open Go.RowKit
set_option linter.unusedVariables false
theorem RHold.cons {W : World} {A : Nat → Prop} {d : Nat} {rs : List Raw} {acc : List It} (h : RHold W A d rs acc) {r : Raw} {x : It} (h1 : r.tag = x.tag) (h2 : r.text = x.text) (h3 : r.n = x.list.length) (h4 : r.n ≤ r.cc) (h5 : IRowA W A d r.co x.list) (h6 : x.tag ≤ 9223372036854775807) (h7 : x.text.size ≤ maxLen) : RHold W A d ([r] ++ rs) (x :: acc) := by
  refine ⟨by simp [h.1], fun i r' x' hr hx => ?_⟩
  cases i with
  | zero => simp at hr hx; subst hr hx; exact ⟨h1, h2, h3, h4, h5, h6, h7⟩
  | succ i => exact h.2 i r' x' (by simpa using hr) (by simpa using hx)
end Go.Proofs.YtajkbkljonejnaaGreatDoor
namespace Go.Proofs.YtajkbkljonejnaaGreatDoor
open Go.RowKit
set_option linter.unusedVariables false
structure RoomTo (g : Nat) (w w' : World) : Prop where
  os : w'.os = w.os
  tape : w'.tape = w.tape
  output : w'.output = w.output
  size : w.heap.size ≤ w'.heap.size
  block : ∀ b, b < w.heap.size → b ≠ g → w'.heap[b]? = w.heap[b]?
def Six (g : Nat) (w : World) : Prop := ∃ cs e, w.heap[g]? = some (.cells cs e (0, 0)) ∧ cs.size = 6
theorem Six.lt {g : Nat} {w : World} (h : Six g w) : g < w.heap.size := by
  obtain ⟨cs, e, h, _⟩ := h
  rcases Nat.lt_or_ge g w.heap.size with h1 | h1
  · exact h1
  · rw [Array.getElem?_eq_none h1] at h; cases h
theorem Six.cell {g : Nat} {w : World} (h : Six g w) (j : Nat) (hj : j < 6) : (w.cell? ⟨g, j, none⟩).isSome = true := by
  obtain ⟨cs, e, h, hs⟩ := h
  rw [cell_of_row w g j cs e _ h]
  simp [hs, hj]
theorem Six.alloc {g : Nat} {w : World} (h : Six g w) (o : Obj) : Six g (w.alloc o) := by
  have hl := h.lt
  obtain ⟨cs, e, h, hs⟩ := h
  exact ⟨cs, e, by rw [Below.heap_alloc _ _ _ hl]; exact h, hs⟩
theorem Six.setCell {g : Nat} {w : World} (h : Six g w) (j : Nat) (v : Value) : Six g (w.setCell ⟨g, j, none⟩ v) := by
  obtain ⟨cs, e, h, hs⟩ := h
  exact ⟨cs.setIfInBounds j v, e, by simp [World.setCell, Array.getElem?_modify, h], by simpa using hs⟩
theorem RoomTo.refl (g : Nat) (w : World) : RoomTo g w w := ⟨rfl, rfl, rfl, Nat.le_refl _, fun _ _ _ => rfl⟩
theorem RoomTo.alloc {g : Nat} {w w' : World} (h : RoomTo g w w') (o : Obj) : RoomTo g w (w'.alloc o) :=
  ⟨h.os, h.tape, h.output, by have := h.size; simp; omega, fun b hb hne => (Below.heap_alloc _ _ _ (by have := h.size; omega)).trans (h.block b hb hne)⟩
theorem RoomTo.setCell {g : Nat} {w w' : World} (h : RoomTo g w w') (j : Nat) (v : Value) : RoomTo g w (w'.setCell ⟨g, j, none⟩ v) :=
  ⟨h.os, h.tape, h.output, by have := h.size; simpa using this, fun b hb hne => (Below.heap_setCell _ _ _ _ hne).trans (h.block b hb hne)⟩
theorem RoomTo.drew {g : Nat} {w w' : World} (h : RoomTo g w w') : RoomTo g w w'.drew := ⟨h.os, h.tape, h.output, h.size, h.block⟩
theorem RoomTo.trans {g : Nat} {a b c : World} (h : RoomTo g a b) (k : RoomTo g b c) : RoomTo g a c :=
  ⟨k.os.trans h.os, k.tape.trans h.tape, k.output.trans h.output, Nat.le_trans h.size k.size, fun i hi hne => (k.block i (Nat.lt_of_lt_of_le hi h.size) hne).trans (h.block i hi hne)⟩
end Go.Proofs.YtajkbkljonejnaaGreatDoor
namespace Go.Proofs.YtajkbkljonejnaaGreatDoor
open Go.RowKit
set_option linter.unusedVariables false
structure RoomC (g gi : Nat) (v : Value) (w0 w : World) : Prop where
  six : Six g w
  room : RoomTo g w0 w
  cell : w.cell? ⟨gi, 0, none⟩ = some v
theorem RoomTo.below {B g : Nat} {a w w' : World} (h : Below B a w) (hB : B ≤ w.heap.size) (hg : B ≤ g) (hr : RoomTo g w w') : Below B a w' :=
  ⟨hr.os.trans h.os, hr.tape.trans h.tape, hr.output.trans h.output, Nat.le_trans h.size hr.size, fun k hk => (hr.block k (by omega) (by omega)).trans (h.block k hk)⟩
end Go.Proofs.YtajkbkljonejnaaGreatDoor
namespace Go.Proofs.YtajkbkljonejnaaGreatDoor
open Go.RowKit
set_option linter.unusedVariables false
end Go.Proofs.YtajkbkljonejnaaGreatDoor
namespace Go.Proofs.YtajkbkljonejnaaGreatDoor
open Go.RowKit
set_option linter.unusedVariables false
def Bytes (l : List Int) : Prop := ∀ n ∈ l, 0 ≤ n ∧ n < 256
end Go.Proofs.YtajkbkljonejnaaGreatDoor
