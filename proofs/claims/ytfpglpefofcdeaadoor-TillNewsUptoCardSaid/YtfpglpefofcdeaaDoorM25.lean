/- appendTag and appendHead of the program onto a slice of an array that has room. -/
import Derived.Test.YtfpglpefofcdeaaDoorM18
import Derived.Test.YtfpglpefofcdeaaDoorM16
import Derived.ArgAppend
namespace Go.Proofs.YtfpglpefofcdeaaDoor
open Go.RowKit
set_option linter.unusedVariables false

theorem wpList_append_room {P : Program} (w : World) {ops : Array Oper} {rest : List Oper} {o : Oper} {a : Act} {Q : Exit → Act → World → Prop} (hgd : o.guard = none) (s x : Operand) (t : TypeId)
    (ho : o.op = .call { callee := .builtin .append, args := #[s, x], argTypes := #[t, t] }) (e : TypeId) (i : TypeInfo) (ht : P.underlying t = some (.slice e)) (hi : P.info? e = some i) (h1s : i.size = 1)
    (g n cap : Nat) (hs : a.eval s = .slice (some ⟨g, 0, none⟩) n cap) (ad : Addr) (m c : Nat) (news : List Value) (hx : a.eval x = .slice (some ad) m c) (hl : news.length = m) (hnews : ∀ j u, news[j]? = some u → w.cell? (ad.add j) = some u) (h1 : ∀ u ∈ news, u.oneCell' = true)
    (hroom : n + m ≤ cap) (hc : ∀ j, j < news.length → (w.cell? ⟨g, n + j, none⟩).isSome = true) (hf : ∀ j, w.frozen? ⟨g, j, none⟩ = false)
    (h : wpList P ops Q rest (a.put o.dst (.slice (some ⟨g, 0, none⟩) (n + m) cap)) (w.setCells g n news)) : wpList P ops Q (o :: rest) a w := by
  refine wpList_plain hgd fun K hK => ?_
  have hrun := run_append_room_cells (P := P) w t o.type e i ht hi g 0 n cap ad m c news (by rw [h1s]; omega) hnews h1 hroom (by rw [h1s]; simpa using hc) (fun j _ => by rw [h1s]; exact hf _)
  rw [h1s, Nat.mul_one, Nat.zero_add] at hrun
  unfold Oper.wp
  simp [execOp, ho, resolve, invoke, builtin, hs, hx, hrun, Result.andThen]
  exact hK _ _ h

/-- all as it was but for one block, which holds as many cells, and new ones -/
structure RoomTo (g : Nat) (w w' : World) : Prop where
  os : w'.os = w.os
  tape : w'.tape = w.tape
  output : w'.output = w.output
  size : w.heap.size ≤ w'.heap.size
  block : ∀ b, b < w.heap.size → b ≠ g → w'.heap[b]? = w.heap[b]?
def Six (g : Nat) (w : World) : Prop := ∃ cs e, w.heap[g]? = some (.cells cs e (0, 0)) ∧ cs.size = 6
theorem Six.lt {g : Nat} {w : World} (h : Six g w) : g < w.heap.size := by
  obtain ⟨cs, e, h, _⟩ := h
  rcases Nat.lt_or_ge g w.heap.size with h1 | h1
  · exact h1
  · rw [Array.getElem?_eq_none h1] at h; cases h
theorem Six.cell {g : Nat} {w : World} (h : Six g w) (j : Nat) (hj : j < 6) : (w.cell? ⟨g, j, none⟩).isSome = true := by
  obtain ⟨cs, e, h, hs⟩ := h
  rw [cell_of_row w g j cs e _ h]
  simp [hs, hj]
theorem Six.free {g : Nat} {w : World} (h : Six g w) (j : Nat) : w.frozen? ⟨g, j, none⟩ = false := by
  obtain ⟨cs, e, h, hs⟩ := h
  exact frozen_of_row w g j cs e h
theorem Six.alloc {g : Nat} {w : World} (h : Six g w) (o : Obj) : Six g (w.alloc o) := by
  have hl := h.lt
  obtain ⟨cs, e, h, hs⟩ := h
  exact ⟨cs, e, by rw [Below.heap_alloc _ _ _ hl]; exact h, hs⟩
theorem Six.setCell {g : Nat} {w : World} (h : Six g w) (j : Nat) (v : Value) : Six g (w.setCell ⟨g, j, none⟩ v) := by
  obtain ⟨cs, e, h, hs⟩ := h
  exact ⟨cs.setIfInBounds j v, e, by simp [World.setCell, Array.getElem?_modify, h], by simpa using hs⟩
theorem Six.setCells {g : Nat} : ∀ (vs : List Value) (o : Nat) {w : World}, Six g w → Six g (w.setCells g o vs)
  | [], _, _, h => h
  | v :: r, o, _, h => Six.setCells r (o + 1) (h.setCell o v)
theorem RoomTo.refl (g : Nat) (w : World) : RoomTo g w w := ⟨rfl, rfl, rfl, Nat.le_refl _, fun _ _ _ => rfl⟩
theorem RoomTo.alloc {g : Nat} {w w' : World} (h : RoomTo g w w') (o : Obj) : RoomTo g w (w'.alloc o) :=
  ⟨h.os, h.tape, h.output, by have := h.size; simp; omega, fun b hb hne => (Below.heap_alloc _ _ _ (by have := h.size; omega)).trans (h.block b hb hne)⟩
theorem RoomTo.setCell {g : Nat} {w w' : World} (h : RoomTo g w w') (j : Nat) (v : Value) : RoomTo g w (w'.setCell ⟨g, j, none⟩ v) :=
  ⟨h.os, h.tape, h.output, by have := h.size; simpa using this, fun b hb hne => (Below.heap_setCell _ _ _ _ hne).trans (h.block b hb hne)⟩
theorem RoomTo.setCells {g : Nat} : ∀ (vs : List Value) (o : Nat) {w w' : World}, RoomTo g w w' → RoomTo g w (w'.setCells g o vs)
  | [], _, _, _, h => h
  | v :: r, o, _, _, h => RoomTo.setCells r (o + 1) (h.setCell o v)
theorem RoomTo.drew {g : Nat} {w w' : World} (h : RoomTo g w w') : RoomTo g w w'.drew := ⟨h.os, h.tape, h.output, h.size, h.block⟩
theorem RoomTo.trans {g : Nat} {a b c : World} (h : RoomTo g a b) (k : RoomTo g b c) : RoomTo g a c :=
  ⟨k.os.trans h.os, k.tape.trans h.tape, k.output.trans h.output, Nat.le_trans h.size k.size, fun i hi hne => (k.block i (Nat.lt_of_lt_of_le hi h.size) hne).trans (h.block i hi hne)⟩

set_option maxRecDepth 100000 in
set_option maxHeartbeats 1000000 in
theorem appendTag_room (t : Nat) (g : Nat) (w : World) (ht : t < 16777216) (h6 : Six g w) :
    Calls Tryd.prog 91 #[.slice (some ⟨g, 0, none⟩) 0 6, .int .i64 t] w fun e w' => e = .returned (.slice (some ⟨g, 0, none⟩) (tagLen t) 6) ∧ Six g w' ∧ RoomTo g w w' := by
  obtain ⟨i0, hi, hz0, hz1, hz2⟩ := info_parts infoByte
  by_cases c1 : t < 256
  · have hL : tagLen t = 1 := by unfold tagLen; rw [if_pos c1]
    rw [hL]
    clear hL
    go_enter Tryd.func91, Tryd.ntmps91
    go_wp2_with (at_builtin; refine wpList_append_room _ rfl _ _ 114 rfl 5 i0 Tryd.underlying114 hi hz1 g 0 6 rfl ⟨w.heap.size, 0, none⟩ 1 1 [.int .u8 ((t : Int))] rfl rfl (cell_one_new _ _ _) ?c2 (by omega) ?c3 ?c4 ?_)
    case c2 => intro u hu; simp at hu; subst hu; rfl
    case c3 => intro j hj; exact (h6.alloc _).cell _ (by simp at hj; omega)
    case c4 => exact (h6.alloc _).free
    go_wp2
    go_ret
    exact ⟨rfl, Six.setCells _ _ (h6.alloc _), RoomTo.setCells _ _ ((RoomTo.refl _ _).alloc _)⟩
  · by_cases c2 : t < 65536
    · have hL : tagLen t = 2 := by unfold tagLen; rw [if_neg c1, if_pos c2]
      rw [hL]
      clear hL
      go_enter Tryd.func91, Tryd.ntmps91
      go_wp2_with (at_builtin; refine wpList_append_room _ rfl _ _ 114 rfl 5 i0 Tryd.underlying114 hi hz1 g 0 6 rfl ⟨w.heap.size, 0, none⟩ 2 2 [.int .u8 ((t : Int) / 256), .int .u8 ((t : Int) % 256)] rfl rfl (two_new _ _ _ _) ?c2 (by omega) ?c3 ?c4 ?_)
      case c2 => intro u hu; simp at hu; rcases hu with rfl | rfl <;> rfl
      case c3 => intro j hj; exact (h6.alloc _).cell _ (by simp at hj; omega)
      case c4 => exact (h6.alloc _).free
      go_wp2
      go_ret
      exact ⟨rfl, Six.setCells _ _ (h6.alloc _), RoomTo.setCells _ _ ((RoomTo.refl _ _).alloc _)⟩
    · have hL : tagLen t = 3 := by unfold tagLen; rw [if_neg c1, if_neg c2]
      rw [hL]
      clear hL
      go_enter Tryd.func91, Tryd.ntmps91
      go_wp2_with (at_builtin; refine wpList_append_room _ rfl _ _ 114 rfl 5 i0 Tryd.underlying114 hi hz1 g 0 6 rfl ⟨w.heap.size, 0, none⟩ 3 3 [.int .u8 ((t : Int) / 65536), .int .u8 ((t : Int) / 256 % 256), .int .u8 ((t : Int) % 256)] rfl rfl (three_new _ _ _ _ _) ?c2 (by omega) ?c3 ?c4 ?_)
      case c2 => intro u hu; simp at hu; rcases hu with rfl | rfl | rfl <;> rfl
      case c3 => intro j hj; exact (h6.alloc _).cell _ (by simp at hj; omega)
      case c4 => exact (h6.alloc _).free
      go_wp2
      go_ret
      exact ⟨rfl, Six.setCells _ _ (h6.alloc _), RoomTo.setCells _ _ ((RoomTo.refl _ _).alloc _)⟩

/-- in how many bytes a length is written -/
def lenLen (n : Nat) : Nat := if n < 128 then 1 else if n < 256 then 2 else 3

set_option maxRecDepth 100000 in
set_option maxHeartbeats 2000000 in
theorem appendHead_room (t n : Nat) (g : Nat) (w : World) (ht : t < 16777216) (hn : (n : Int) ≤ 9000000000000000000) (h6 : Six g w) :
    Calls Tryd.prog 84 #[.slice (some ⟨g, 0, none⟩) 0 6, .int .i64 t, .int .i64 n] w fun e w' => e = .returned (.slice (some ⟨g, 0, none⟩) (tagLen t + lenLen n) 6) ∧ Six g w' ∧ RoomTo g w w' := by
  obtain ⟨i0, hi, hz0, hz1, hz2⟩ := info_parts infoByte
  have N1 := hide (appendTag_room t g w ht h6)
  have h3 := tagLen_le t
  generalize tagLen t = k at *
  by_cases c1 : n < 128
  · have hL : lenLen n = 1 := by unfold lenLen; rw [if_pos c1]
    rw [hL]
    clear hL
    go_enter Tryd.func84, Tryd.ntmps84
    go_wp2_with fail
    refine (unhide N1).mono ?_
    rintro e w1 ⟨rfl, h61, hr1⟩
    go_wp2_with (at_builtin; refine wpList_append_room _ rfl _ _ 114 rfl 5 i0 Tryd.underlying114 hi hz1 g k 6 rfl ⟨w1.heap.size, 0, none⟩ 1 1 [.int .u8 ((n : Int))] rfl rfl (cell_one_new _ _ _) ?c2 (by omega) ?c3 ?c4 ?_)
    case c2 => intro u hu; simp at hu; subst hu; rfl
    case c3 => intro j hj; exact (h61.alloc _).cell _ (by simp at hj; omega)
    case c4 => exact (h61.alloc _).free
    go_wp2
    go_ret
    exact ⟨rfl, Six.setCells _ _ (h61.alloc _), RoomTo.setCells _ _ (hr1.alloc _)⟩
  · by_cases c2 : n < 256
    · have hL : lenLen n = 2 := by unfold lenLen; rw [if_neg c1, if_pos c2]
      rw [hL]
      clear hL
      go_enter Tryd.func84, Tryd.ntmps84
      go_wp2_with fail
      refine (unhide N1).mono ?_
      rintro e w1 ⟨rfl, h61, hr1⟩
      go_wp2_with (at_builtin; refine wpList_append_room _ rfl _ _ 114 rfl 5 i0 Tryd.underlying114 hi hz1 g k 6 rfl ⟨w1.heap.size, 0, none⟩ 2 2 [.int .u8 129, .int .u8 ((n : Int))] rfl rfl (two_new _ _ _ _) ?c2 (by omega) ?c3 ?c4 ?_)
      case c2 => intro u hu; simp at hu; rcases hu with rfl | rfl <;> rfl
      case c3 => intro j hj; exact (h61.alloc _).cell _ (by simp at hj; omega)
      case c4 => exact (h61.alloc _).free
      go_wp2
      go_ret
      exact ⟨rfl, Six.setCells _ _ (h61.alloc _), RoomTo.setCells _ _ (hr1.alloc _)⟩
    · have hL : lenLen n = 3 := by unfold lenLen; rw [if_neg c1, if_neg c2]
      rw [hL]
      clear hL
      go_enter Tryd.func84, Tryd.ntmps84
      go_wp2_with fail
      refine (unhide N1).mono ?_
      rintro e w1 ⟨rfl, h61, hr1⟩
      go_wp2_with (at_builtin; refine wpList_append_room _ rfl _ _ 114 rfl 5 i0 Tryd.underlying114 hi hz1 g k 6 rfl ⟨w1.heap.size, 0, none⟩ 3 3 [.int .u8 130, .int .u8 ((n : Int) / 256 % 256), .int .u8 ((n : Int) % 256)] rfl rfl (three_new _ _ _ _ _) ?c2 (by omega) ?c3 ?c4 ?_)
      case c2 => intro u hu; simp at hu; rcases hu with rfl | rfl | rfl <;> rfl
      case c3 => intro j hj; exact (h61.alloc _).cell _ (by simp at hj; omega)
      case c4 => exact (h61.alloc _).free
      go_wp2
      go_ret
      exact ⟨rfl, Six.setCells _ _ (h61.alloc _), RoomTo.setCells _ _ (hr1.alloc _)⟩
end Go.Proofs.YtfpglpefofcdeaaDoor
