/- appendTag and appendHead of the program onto a slice of an array that has room. -/
import Derived.Test.YtolicaaifhfhcaaM03
import Derived.Test.YtolicaaifhfhcaaM30
import Derived.ArgAppend
namespace Go.Proofs.Ytolicaaifhfhcaa
open Go.RowKit
set_option linter.unusedVariables false

theorem wpList_append_room {P : Program} (w : World) {ops : Array Oper} {rest : List Oper} {o : Oper} {a : Act} {Q : Exit → Act → World → Prop} (hgd : o.guard = none) (s x : Operand) (t : TypeId)
    (ho : o.op = .call { callee := .builtin .append, args := #[s, x], argTypes := #[t, t] }) (e : TypeId) (i : TypeInfo) (ht : P.underlying t = some (.slice e)) (hi : P.info? e = some i) (h1s : i.size = 1)
    (g n cap : Nat) (hs : a.eval s = .slice (some ⟨g, 0, none⟩) n cap) (ad : Addr) (m c : Nat) (news : List Value) (hx : a.eval x = .slice (some ad) m c) (hl : news.length = m) (hnews : ∀ j u, news[j]? = some u → w.cell? (ad.add j) = some u) (h1 : ∀ u ∈ news, u.oneCell' = true)
    (hroom : n + m ≤ cap) (hc : ∀ j, j < news.length → (w.cell? ⟨g, n + j, none⟩).isSome = true) (hf : ∀ j, w.frozen? ⟨g, j, none⟩ = false)
    (h : wpList P ops Q rest (a.put o.dst (.slice (some ⟨g, 0, none⟩) (n + m) cap)) (w.setCells g n news)) : wpList P ops Q (o :: rest) a w := by
  refine wpList_plain hgd fun K hK => ?_
  have hrun := run_append_room_cells (P := P) w t o.type e i ht hi g 0 n cap ad m c news (by rw [h1s]; omega) hnews h1 hroom (by rw [h1s]; simpa using hc) (fun j _ => by rw [h1s]; exact hf _)
  rw [h1s, Nat.mul_one, Nat.zero_add] at hrun
  unfold Oper.wp
  simp [execOp, ho, resolve, invoke, builtin, hs, hx, hrun, Result.andThen]
  exact hK _ _ h

/-- all as it was but for one block, which holds as many cells, and new ones -/
structure RoomTo (g : Nat) (w w' : World) : Prop where
  os : w'.os = w.os
  tape : w'.tape = w.tape
  output : w'.output = w.output
  size : w.heap.size ≤ w'.heap.size
  block : ∀ b, b < w.heap.size → b ≠ g → w'.heap[b]? = w.heap[b]?
def Six (g : Nat) (w : World) : Prop := ∃ cs e, w.heap[g]? = some (.cells cs e (0, 0)) ∧ cs.size = 6
theorem Six.lt {g : Nat} {w : World} (h : Six g w) : g < w.heap.size := by
  obtain ⟨cs, e, h, _⟩ := h
  rcases Nat.lt_or_ge g w.heap.size with h1 | h1
  · exact h1
  · rw [Array.getElem?_eq_none h1] at h; cases h
theorem Six.cell {g : Nat} {w : World} (h : Six g w) (j : Nat) (hj : j < 6) : (w.cell? ⟨g, j, none⟩).isSome = true := by
  obtain ⟨cs, e, h, hs⟩ := h
  rw [cell_of_row w g j cs e _ h]
  simp [hs, hj]
theorem Six.free {g : Nat} {w : World} (h : Six g w) (j : Nat) : w.frozen? ⟨g, j, none⟩ = false := by
  obtain ⟨cs, e, h, hs⟩ := h
  exact frozen_of_row w g j cs e h
theorem Six.alloc {g : Nat} {w : World} (h : Six g w) (o : Obj) : Six g (w.alloc o) := by
  have hl := h.lt
  obtain ⟨cs, e, h, hs⟩ := h
  exact ⟨cs, e, by rw [Below.heap_alloc _ _ _ hl]; exact h, hs⟩
theorem Six.setCell {g : Nat} {w : World} (h : Six g w) (j : Nat) (v : Value) : Six g (w.setCell ⟨g, j, none⟩ v) := by
  obtain ⟨cs, e, h, hs⟩ := h
  exact ⟨cs.setIfInBounds j v, e, by simp [World.setCell, Array.getElem?_modify, h], by simpa using hs⟩
theorem Six.setCells {g : Nat} : ∀ (vs : List Value) (o : Nat) {w : World}, Six g w → Six g (w.setCells g o vs)
  | [], _, _, h => h
  | v :: r, o, _, h => Six.setCells r (o + 1) (h.setCell o v)
theorem RoomTo.refl (g : Nat) (w : World) : RoomTo g w w := ⟨rfl, rfl, rfl, Nat.le_refl _, fun _ _ _ => rfl⟩
theorem RoomTo.alloc {g : Nat} {w w' : World} (h : RoomTo g w w') (o : Obj) : RoomTo g w (w'.alloc o) :=
  ⟨h.os, h.tape, h.output, by have := h.size; simp; omega, fun b hb hne => (Below.heap_alloc _ _ _ (by have := h.size; omega)).trans (h.block b hb hne)⟩
theorem RoomTo.setCell {g : Nat} {w w' : World} (h : RoomTo g w w') (j : Nat) (v : Value) : RoomTo g w (w'.setCell ⟨g, j, none⟩ v) :=
  ⟨h.os, h.tape, h.output, by have := h.size; simpa using this, fun b hb hne => (Below.heap_setCell _ _ _ _ hne).trans (h.block b hb hne)⟩
theorem RoomTo.setCells {g : Nat} : ∀ (vs : List Value) (o : Nat) {w w' : World}, RoomTo g w w' → RoomTo g w (w'.setCells g o vs)
  | [], _, _, _, h => h
  | v :: r, o, _, _, h => RoomTo.setCells r (o + 1) (h.setCell o v)
theorem RoomTo.drew {g : Nat} {w w' : World} (h : RoomTo g w w') : RoomTo g w w'.drew := ⟨h.os, h.tape, h.output, h.size, h.block⟩
theorem RoomTo.trans {g : Nat} {a b c : World} (h : RoomTo g a b) (k : RoomTo g b c) : RoomTo g a c :=
  ⟨k.os.trans h.os, k.tape.trans h.tape, k.output.trans h.output, Nat.le_trans h.size k.size, fun i hi hne => (k.block i (Nat.lt_of_lt_of_le hi h.size) hne).trans (h.block i hi hne)⟩

set_option maxRecDepth 100000 in
set_option maxHeartbeats 1000000 in
theorem appendTag_room (t : Nat) (g : Nat) (w : World) (ht : t < 16777216) (h6 : Six g w) :
    Calls Try.prog 35 #[.slice (some ⟨g, 0, none⟩) 0 6, .int .i64 t] w fun e w' => e = .returned (.slice (some ⟨g, 0, none⟩) (tagLen t) 6) ∧ Six g w' ∧ RoomTo g w w' := by
  obtain ⟨i0, hi, hz0, hz1, hz2⟩ := info_parts infoByte
  by_cases c1 : t < 256
  · have hL : tagLen t = 1 := by unfold tagLen; rw [if_pos c1]
    rw [hL]
    clear hL
    go_enter Try.func35, Try.ntmps35
    go_wp2_with (at_builtin; refine wpList_append_room _ rfl _ _ 55 rfl 5 i0 Try.underlying55 hi hz1 g 0 6 rfl ⟨w.heap.size, 0, none⟩ 1 1 [.int .u8 ((t : Int))] rfl rfl (cell_one_new _ _ _) ?c2 (by omega) ?c3 ?c4 ?_)
    case c2 => intro u hu; simp at hu; subst hu; rfl
    case c3 => intro j hj; exact (h6.alloc _).cell _ (by simp at hj; omega)
    case c4 => exact (h6.alloc _).free
    go_wp2
    go_ret
    exact ⟨rfl, Six.setCells _ _ (h6.alloc _), RoomTo.setCells _ _ ((RoomTo.refl _ _).alloc _)⟩
  · by_cases c2 : t < 65536
    · have hL : tagLen t = 2 := by unfold tagLen; rw [if_neg c1, if_pos c2]
      rw [hL]
      clear hL
      go_enter Try.func35, Try.ntmps35
      go_wp2_with (at_builtin; refine wpList_append_room _ rfl _ _ 55 rfl 5 i0 Try.underlying55 hi hz1 g 0 6 rfl ⟨w.heap.size, 0, none⟩ 2 2 [.int .u8 ((t : Int) / 256), .int .u8 ((t : Int) % 256)] rfl rfl (two_new _ _ _ _) ?c2 (by omega) ?c3 ?c4 ?_)
      case c2 => intro u hu; simp at hu; rcases hu with rfl | rfl <;> rfl
      case c3 => intro j hj; exact (h6.alloc _).cell _ (by simp at hj; omega)
      case c4 => exact (h6.alloc _).free
      go_wp2
      go_ret
      exact ⟨rfl, Six.setCells _ _ (h6.alloc _), RoomTo.setCells _ _ ((RoomTo.refl _ _).alloc _)⟩
    · have hL : tagLen t = 3 := by unfold tagLen; rw [if_neg c1, if_neg c2]
      rw [hL]
      clear hL
      go_enter Try.func35, Try.ntmps35
      go_wp2_with (at_builtin; refine wpList_append_room _ rfl _ _ 55 rfl 5 i0 Try.underlying55 hi hz1 g 0 6 rfl ⟨w.heap.size, 0, none⟩ 3 3 [.int .u8 ((t : Int) / 65536), .int .u8 ((t : Int) / 256 % 256), .int .u8 ((t : Int) % 256)] rfl rfl (three_new _ _ _ _ _) ?c2 (by omega) ?c3 ?c4 ?_)
      case c2 => intro u hu; simp at hu; rcases hu with rfl | rfl | rfl <;> rfl
      case c3 => intro j hj; exact (h6.alloc _).cell _ (by simp at hj; omega)
      case c4 => exact (h6.alloc _).free
      go_wp2
      go_ret
      exact ⟨rfl, Six.setCells _ _ (h6.alloc _), RoomTo.setCells _ _ ((RoomTo.refl _ _).alloc _)⟩

/-- in how many bytes a length is written -/
def lenLen (n : Nat) : Nat := if n < 128 then 1 else if n < 256 then 2 else 3

end Go.Proofs.Ytolicaaifhfhcaa
namespace Go.Proofs.Ytolicaaifhfhcaa
open Go.RowKit
set_option linter.unusedVariables false

/-- has it a tag and, beside it, only what such a tag may have? -/
def fitsB (t : Int) (s n : Nat) : Bool := if madeV t = true then s == 0 else validB t && n == 0
theorem str_empty (s : ByteArray) : s.toList.isEmpty = (s.size == 0) := by
  rw [Lib.toList_data]
  have hl : s.data.toList.length = s.size := by simp
  cases hq : s.data.toList with
  | nil =>
    rw [hq] at hl
    have : s.size = 0 := by rw [← hl]; rfl
    rw [this]; rfl
  | cons a b =>
    rw [hq] at hl
    have : s.size ≠ 0 := by rw [← hl]; simp
    rw [beq_eq_false_iff_ne.2 this]; rfl


/-- one item more: in how many bytes, and how deep; M: of its own list -/
def stepM (M : List It → Option (Nat × Nat)) (acc : Option (Nat × Nat)) (x : It) : Option (Nat × Nat) :=
  match acc with
  | none => none
  | some (s, p) => if fitsB x.tag x.text.size x.list.length = true then (M x.list).map fun b => (s + (tagLen x.tag.toNat + lenLen (b.1 + x.text.size)) + (b.1 + x.text.size), max p (1 + b.2)) else none
def measD : Nat → List It → Option (Nat × Nat)
  | 0, _ => some (0, 0)
  | d + 1, l => l.foldl (stepM (measD d)) (some (0, 0))
theorem step_none (M : List It → Option (Nat × Nat)) (l : List It) : l.foldl (stepM M) none = none := by
  induction l with
  | nil => rfl
  | cons x r ih => rw [List.foldl_cons]; exact ih
theorem fold_take {M : List It → Option (Nat × Nat)} {l : List It} {k : Nat} {x : It} {a : Option (Nat × Nat)} (hx : l[k]? = some x) : (l.take (k + 1)).foldl (stepM M) a = stepM M ((l.take k).foldl (stepM M) a) x := by
  have hk : k < l.length := by
    rcases Nat.lt_or_ge k l.length with h | h
    · exact h
    · rw [List.getElem?_eq_none h] at hx; cases hx
  rw [List.getElem?_eq_getElem hk] at hx
  rw [List.take_succ_eq_append_getElem hk, List.foldl_append, Option.some.inj hx]
  rfl
theorem fold_stop {M : List It → Option (Nat × Nat)} {l : List It} {k : Nat} {a : Option (Nat × Nat)} (h : (l.take k).foldl (stepM M) a = none) : l.foldl (stepM M) a = none := by
  conv => lhs; rw [← List.take_append_drop k l]
  rw [List.foldl_append, h, step_none]
theorem lenLen_le (n : Nat) : 1 ≤ lenLen n ∧ lenLen n ≤ 3 := by unfold lenLen; split <;> (try split) <;> omega
theorem step_yes (M : List It → Option (Nat × Nat)) (s p : Nat) (x : It) : stepM M (some (s, p)) x = if fitsB x.tag x.text.size x.list.length = true then (M x.list).map fun b => (s + (tagLen x.tag.toNat + lenLen (b.1 + x.text.size)) + (b.1 + x.text.size), max p (1 + b.2)) else none := rfl
theorem fold_le {M : List It → Option (Nat × Nat)} {d : Nat} (hM : ∀ l s p, M l = some (s, p) → s ≤ 7 * wt d l ∧ p ≤ d) : ∀ (l : List It) (s0 p0 s p : Nat), l.foldl (stepM M) (some (s0, p0)) = some (s, p) → s ≤ s0 + 7 * wt (d + 1) l ∧ p ≤ max p0 (d + 1)
  | [], s0, p0, s, p, h => by simp at h; obtain ⟨rfl, rfl⟩ := h; omega
  | x :: r, s0, p0, s, p, h => by
    rw [List.foldl_cons, step_yes] at h
    by_cases hf : fitsB x.tag x.text.size x.list.length = true
    · rw [if_pos hf] at h
      cases hm : M x.list with
      | none => rw [hm, Option.map_none, step_none] at h; cases h
      | some b =>
        obtain ⟨b1, b2⟩ := b
        rw [hm, Option.map_some] at h
        have h1 := hM _ _ _ hm
        have h2 := fold_le hM r _ _ s p h
        have h3 := tagLen_le x.tag.toNat
        have h4 := lenLen_le (b1 + x.text.size)
        have e : wt (d + 1) (x :: r) = 1 + x.text.size + wt d x.list + wt (d + 1) r := by simp [wt]
        rw [e]
        simp only at h2
        omega
    · rw [if_neg hf, step_none] at h; cases h
theorem meas_le : ∀ (d : Nat) (l : List It) (s p : Nat), measD d l = some (s, p) → s ≤ 7 * wt d l ∧ p ≤ d
  | 0, l, s, p, h => by simp [measD] at h; obtain ⟨rfl, rfl⟩ := h; omega
  | d + 1, l, s, p, h => by
    have := fold_le (meas_le d) l 0 0 s p h
    omega
def measV (r : Option (Nat × Nat)) : Value := match r with
  | some (s, p) => .tuple #[.int .i64 s, .int .i64 p, .bool true]
  | none => .tuple #[.int .i64 0, .int .i64 0, .bool false]
theorem ret_meas {s p : Nat} {r : Option (Nat × Nat)} (h : r = some (s, p)) : Ending.returned (.tuple #[.int .i64 s, .int .i64 p, .bool true]) = .returned (measV r) := by rw [h]; rfl
theorem ret_meas_no {r : Option (Nat × Nat)} (h : r = none) : Ending.returned (.tuple #[.int .i64 0, .int .i64 0, .bool false]) = .returned (measV r) := by rw [h]; rfl

theorem wp_region_in {P : Program} {id : Nat} {Q : Exit → Act → World → Prop} {a : Act} {w : World} {l : List Oper} (C : World → Prop) (hC : C w.drew)
    (hm : P.follows .mixedOrders = true) (hB : Region.lexB .any l.toArray = true)
    (h : Quietly P l.toArray C (fun a' => ∀ w', C w' → Q .normal a' w') l a) : (Code.region id l.toArray true).wp P Q a w :=
  wp_region_quiet (C := C) hm hB hC (by simpa using h.out)
/-- worlds in which the small array is being written -/
structure RoomC (g gi : Nat) (v : Value) (w0 w : World) : Prop where
  six : Six g w
  room : RoomTo g w0 w
  cell : w.cell? ⟨gi, 0, none⟩ = some v
theorem calls_room {P : Program} {f : FuncId} {args : Array Value} {w0 w : World} {g gi : Nat} {v u : Value} (hw : RoomC g gi u w0 w) (hne : gi ≠ g) (hlt : gi < w0.heap.size)
    (h : Calls P f args w fun e w' => e = .returned v ∧ Six g w' ∧ RoomTo g w w') : Calls P f args w fun e w' => e = .returned v ∧ RoomC g gi u w0 w' :=
  h.mono fun _ w' ⟨he, h6, hr⟩ => ⟨he, h6, hw.room.trans hr, (World.cell?_of_block (w := w) (w' := w') (a := ⟨gi, 0, none⟩) (hr.block gi (Nat.lt_of_lt_of_le hlt hw.room.size) hne)).trans hw.cell⟩
theorem RoomTo.below {B g : Nat} {a w w' : World} (h : Below B a w) (hB : B ≤ w.heap.size) (hg : B ≤ g) (hr : RoomTo g w w') : Below B a w' :=
  ⟨hr.os.trans h.os, hr.tape.trans h.tape, hr.output.trans h.output, Nat.le_trans h.size hr.size, fun k hk => (hr.block k (by omega) (by omega)).trans (h.block k hk)⟩
theorem six_new (w : World) (e : TypeId) (a b c d f h : Value) : Six w.heap.size (w.alloc (.cells #[a, b, c, d, f, h] e)) := ⟨_, e, heap_alloc_new w _, rfl⟩

end Go.Proofs.Ytolicaaifhfhcaa
