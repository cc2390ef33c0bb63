/- The program's end with all its rows, and what a call leaves alone. -/
import Derived.Test.YthchicolifkpiaaDoorStrLies
namespace Go.Proofs.YthchicolifkpiaaDoor
open Go.RowKit Go.Lib
set_option linter.unusedVariables false

/-- the blocks of an end -/
def InP (b : Nat) (tv pv gv : Value) (q : Nat) : Prop := q = b ∨ tv.ownBlock = some q ∨ pv.ownBlock = some q ∨ gv.ownBlock = some q
/-- all but those blocks, and new ones, is as it was -/
structure KeepP (S : Nat → Prop) (w w' : World) : Prop where
  os : w'.os = w.os
  tape : w'.tape = w.tape
  output : w'.output = w.output
  size : w.heap.size ≤ w'.heap.size
  block : ∀ q, q < w.heap.size → ¬ S q → w'.heap[q]? = w.heap[q]?
theorem KeepP.refl (S : Nat → Prop) (w : World) : KeepP S w w := ⟨rfl, rfl, rfl, Nat.le_refl _, fun _ _ _ => rfl⟩
theorem KeepP.trans {S S' : Nat → Prop} {w w1 w2 : World} (h : KeepP S w w1) (k : KeepP S' w1 w2) (hs : ∀ q, S' q → S q ∨ w.heap.size ≤ q) : KeepP S w w2 :=
  ⟨k.os.trans h.os, k.tape.trans h.tape, k.output.trans h.output, Nat.le_trans h.size k.size, fun q hq hn => (k.block q (Nat.lt_of_lt_of_le hq h.size) (fun hx => (hs q hx).elim hn (fun hy => by omega))).trans (h.block q hq hn)⟩
theorem KeepP.of_below {S : Nat → Prop} {w w' : World} (h : Below w.heap.size w w') : KeepP S w w' := ⟨h.os, h.tape, h.output, h.size, fun q hq _ => h.block q hq⟩
theorem KeepP.of_grown {S : Nat → Prop} {w w' : World} {row : Option Nat} (h : w.grownBy w' row) (hs : ∀ q, row = some q → S q) : KeepP S w w' := ⟨h.os, h.tape, h.output, h.size, fun q hq hn => h.block q hq (fun e => hn (hs q e.symm))⟩
theorem KeepP.set {S : Nat → Prop} {w w' : World} (h : KeepP S w w') (b j : Nat) (v : Value) (hb : S b) : KeepP S w (w'.setCell ⟨b, j, none⟩ v) :=
  ⟨h.os, h.tape, h.output, by simpa using h.size, fun q hq hn => by
    have : q ≠ b := fun e => hn (e ▸ hb)
    rw [← h.block q hq hn]
    simp [World.setCell, Array.getElem?_modify, Ne.symm this]⟩
theorem KeepP.alloc {S : Nat → Prop} {w w' : World} (h : KeepP S w w') (o : Obj) : KeepP S w (w'.alloc o) :=
  ⟨h.os, h.tape, h.output, by have := h.size; simp; omega, fun q hq hn => by
    rw [← h.block q hq hn]
    exact Below.heap_alloc _ _ _ (Nat.lt_of_lt_of_le hq h.size)⟩
theorem KeepP.drew {S : Nat → Prop} {w w' : World} (h : KeepP S w w') : KeepP S w w'.drew := ⟨h.os, h.tape, h.output, h.size, h.block⟩
theorem KeepP.below {S : Nat → Prop} {w w' : World} {base : Nat} (h : KeepP S w w') (hs : ∀ q, S q → base ≤ q) (hb : base ≤ w.heap.size) : Below base w w' :=
  ⟨h.os, h.tape, h.output, h.size, fun q hq => h.block q (by omega) (fun hx => by have := hs q hx; omega)⟩
theorem KeepP.cell {S : Nat → Prop} {w w' : World} (h : KeepP S w w') {a : Addr} (ha : a.block < w.heap.size) (hn : ¬ S a.block) : w'.cell? a = w.cell? a := World.cell?_of_block (h.block _ ha hn)

/-- an end that lies in memory -/
structure PAt (w : World) (b base : Nat) (T : List ByteArray) (arr turn pause aw : Int) (owed : Bool) (part : ByteArray) (lost : Bool) (got : List ByteArray) (tv pv gv : Value) : Prop where
  blk : EndAt w b tv arr turn pause aw owed pv lost gv
  lo : base ≤ b
  ot : w.ownsRow base 9 1 tv T.length (cellsT T)
  op : w.ownsRow base 5 1 pv part.size (strCells part)
  og : w.ownsRow base 9 1 gv got.length (cellsT got)
  nt : tv.ownBlock ≠ some b
  np : pv.ownBlock ≠ some b
  ng : gv.ownBlock ≠ some b
  tp : Apart tv pv
  tg : Apart tv gv
  pg : Apart pv gv
/-- what a step of it leaves alone -/
structure StepP (b : Nat) (w w' : World) (tv pv gv tv' pv' gv' : Value) : Prop where
  keep : KeepP (InP b tv pv gv) w w'
  new : ∀ q, InP b tv' pv' gv' q → InP b tv pv gv q ∨ w.heap.size ≤ q
theorem StepP.trans {b : Nat} {w w1 w2 : World} {tv pv gv tv1 pv1 gv1 tv2 pv2 gv2 : Value} (h : StepP b w w1 tv pv gv tv1 pv1 gv1) (k : StepP b w1 w2 tv1 pv1 gv1 tv2 pv2 gv2) : StepP b w w2 tv pv gv tv2 pv2 gv2 :=
  ⟨h.keep.trans k.keep h.new, fun q hq => (k.new q hq).elim (h.new q) (fun hx => .inr (Nat.le_trans h.keep.size hx))⟩
theorem StepP.of_below {b : Nat} {w w' : World} {tv pv gv : Value} (h : Below w.heap.size w w') : StepP b w w' tv pv gv tv pv gv := ⟨KeepP.of_below h, fun q hq => .inl hq⟩
theorem slot_kept {w w' : World} {base : Nat} {e : TypeId} {size n : Nat} {v : Value} {xs : List Value} (h : w.ownsRow base e size v n xs) (hb : ∀ q, v.ownBlock = some q → w'.heap[q]? = w.heap[q]?) : w'.ownsRow base e size v n xs := by
  rcases h with ⟨h1, h2⟩
  refine ⟨h1, ?_⟩
  rcases h2 with h2 | ⟨g, cap, cur, rfl, h3, h4, h5⟩
  · exact .inl h2
  · exact .inr ⟨g, cap, cur, rfl, h3, (hb g rfl).trans h4, h5⟩
theorem PAt.lt {w : World} {b base : Nat} {T : List ByteArray} {arr turn pause aw : Int} {owed : Bool} {part : ByteArray} {lost : Bool} {got : List ByteArray} {tv pv gv : Value} (h : PAt w b base T arr turn pause aw owed part lost got tv pv gv) :
    b < w.heap.size := World.block_lt_of_cell? w ⟨b, 1, none⟩ ((cell_of_row _ _ 1 _ _ _ h.blk).trans rfl)
theorem PAt.ge {w : World} {b base : Nat} {T : List ByteArray} {arr turn pause aw : Int} {owed : Bool} {part : ByteArray} {lost : Bool} {got : List ByteArray} {tv pv gv : Value} (h : PAt w b base T arr turn pause aw owed part lost got tv pv gv) :
    ∀ q, InP b tv pv gv q → base ≤ q ∧ q < w.heap.size := by
  rintro q (rfl | hq | hq | hq)
  · exact ⟨h.lo, h.lt⟩
  · exact h.ot.lt q hq
  · exact h.op.lt q hq
  · exact h.og.lt q hq
theorem PAt.below {w w' : World} {b base : Nat} {T : List ByteArray} {arr turn pause aw : Int} {owed : Bool} {part : ByteArray} {lost : Bool} {got : List ByteArray} {tv pv gv : Value} (h : PAt w b base T arr turn pause aw owed part lost got tv pv gv) (hb : Below w.heap.size w w') :
    PAt w' b base T arr turn pause aw owed part lost got tv pv gv where
  blk := (hb.block b h.lt).trans h.blk
  lo := h.lo
  ot := slot_kept h.ot fun q hq => hb.block q (h.ot.lt q hq).2
  op := slot_kept h.op fun q hq => hb.block q (h.op.lt q hq).2
  og := slot_kept h.og fun q hq => hb.block q (h.og.lt q hq).2
  nt := h.nt
  np := h.np
  ng := h.ng
  tp := h.tp
  tg := h.tg
  pg := h.pg
theorem set_other {w : World} {b q j : Nat} {v : Value} (h : q ≠ b) : (w.setCell ⟨b, j, none⟩ v).heap[q]? = w.heap[q]? := by simp [World.setCell, Array.getElem?_modify, Ne.symm h]
/-- a store into the end's block alone -/
theorem PAt.put {w : World} {b base j : Nat} {T : List ByteArray} {arr turn pause aw arr' turn' pause' aw' : Int} {owed owed' : Bool} {part : ByteArray} {lost lost' : Bool} {got : List ByteArray} {tv pv gv v : Value} (h : PAt w b base T arr turn pause aw owed part lost got tv pv gv)
    (hb : EndAt (w.setCell ⟨b, j, none⟩ v) b tv arr' turn' pause' aw' owed' pv lost' gv) : PAt (w.setCell ⟨b, j, none⟩ v) b base T arr' turn' pause' aw' owed' part lost' got tv pv gv where
  blk := hb
  lo := h.lo
  ot := slot_kept h.ot fun q hq => set_other (fun e => h.nt (e ▸ hq))
  op := slot_kept h.op fun q hq => set_other (fun e => h.np (e ▸ hq))
  og := slot_kept h.og fun q hq => set_other (fun e => h.ng (e ▸ hq))
  nt := h.nt
  np := h.np
  ng := h.ng
  tp := h.tp
  tg := h.tg
  pg := h.pg
/-- the six cells of a document's end -/
theorem six_cells {w : World} {g : Nat} {a0 a1 a2 a3 a4 a5 : Value} {e : TypeId} (h : w.heap[g]? = some (.cells #[a0, a1, a2, a3, a4, a5] e)) :
    (w.cell? ⟨g, 0, none⟩ = some a0 ∧ w.cell? ⟨g, 1, none⟩ = some a1 ∧ w.cell? ⟨g, 2, none⟩ = some a2 ∧ w.cell? ⟨g, 3, none⟩ = some a3 ∧ w.cell? ⟨g, 4, none⟩ = some a4 ∧ w.cell? ⟨g, 5, none⟩ = some a5) ∧
    w.frozen? ⟨g, 0, none⟩ = false ∧ w.frozen? ⟨g, 1, none⟩ = false ∧ w.frozen? ⟨g, 2, none⟩ = false ∧ w.frozen? ⟨g, 3, none⟩ = false ∧ w.frozen? ⟨g, 4, none⟩ = false ∧ w.frozen? ⟨g, 5, none⟩ = false :=
  ⟨⟨(cell_of_row _ _ 0 _ _ _ h).trans rfl, (cell_of_row _ _ 1 _ _ _ h).trans rfl, (cell_of_row _ _ 2 _ _ _ h).trans rfl, (cell_of_row _ _ 3 _ _ _ h).trans rfl, (cell_of_row _ _ 4 _ _ _ h).trans rfl, (cell_of_row _ _ 5 _ _ _ h).trans rfl⟩,
    frozen_of_row _ _ 0 _ _ h, frozen_of_row _ _ 1 _ _ h, frozen_of_row _ _ 2 _ _ h, frozen_of_row _ _ 3 _ _ h, frozen_of_row _ _ 4 _ _ h, frozen_of_row _ _ 5 _ _ h⟩
theorem five_cells {w : World} {g : Nat} {a0 a1 a2 a3 a4 : Value} {e : TypeId} (h : w.heap[g]? = some (.cells #[a0, a1, a2, a3, a4] e)) :
    (w.cell? ⟨g, 0, none⟩ = some a0 ∧ w.cell? ⟨g, 1, none⟩ = some a1 ∧ w.cell? ⟨g, 2, none⟩ = some a2 ∧ w.cell? ⟨g, 3, none⟩ = some a3 ∧ w.cell? ⟨g, 4, none⟩ = some a4) ∧
    w.frozen? ⟨g, 0, none⟩ = false ∧ w.frozen? ⟨g, 1, none⟩ = false ∧ w.frozen? ⟨g, 2, none⟩ = false ∧ w.frozen? ⟨g, 3, none⟩ = false ∧ w.frozen? ⟨g, 4, none⟩ = false :=
  ⟨⟨(cell_of_row _ _ 0 _ _ _ h).trans rfl, (cell_of_row _ _ 1 _ _ _ h).trans rfl, (cell_of_row _ _ 2 _ _ _ h).trans rfl, (cell_of_row _ _ 3 _ _ _ h).trans rfl, (cell_of_row _ _ 4 _ _ _ h).trans rfl⟩,
    frozen_of_row _ _ 0 _ _ h, frozen_of_row _ _ 1 _ _ h, frozen_of_row _ _ 2 _ _ h, frozen_of_row _ _ 3 _ _ h, frozen_of_row _ _ 4 _ _ h⟩
end Go.Proofs.YthchicolifkpiaaDoor
