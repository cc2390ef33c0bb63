/- appendTag and appendHead of the program onto a slice of an array that has room. -/
import Derived.Test.YtfpglpefofcdeaaGreatDoorM02
import Derived.ArgAppend
import Derived.Lib.AppendStr
import Derived.Deep.RegionHeld3
import Derived.Lib.ConvBytes
import Derived.Test.YtfpglpefofcdeaaGreatDoorM03
import Derived.Test.YtfpglpefofcdeaaGreatDoorM05
import Derived.Test.YtfpglpefofcdeaaGreatDoorM00
import Derived.Maps.OwnSet
import Derived.Maps.OwnOps
import Derived.Maps.Views
import Derived.StringKeys
import Derived.Deep.RegionWith
import Derived.Lib.Strings
namespace Go.Proofs.YtfpglpefofcdeaaGreatDoor
open Go.RowKit
set_option linter.unusedVariables false

theorem wpList_append_room {P : Program} (w : World) {ops : Array Oper} {rest : List Oper} {o : Oper} {a : Act} {Q : Exit → Act → World → Prop} (hgd : o.guard = none) (s x : Operand) (t : TypeId)
    (ho : o.op = .call { callee := .builtin .append, args := #[s, x], argTypes := #[t, t] }) (e : TypeId) (i : TypeInfo) (ht : P.underlying t = some (.slice e)) (hi : P.info? e = some i) (h1s : i.size = 1)
    (g n cap : Nat) (hs : a.eval s = .slice (some ⟨g, 0, none⟩) n cap) (ad : Addr) (m c : Nat) (news : List Value) (hx : a.eval x = .slice (some ad) m c) (hl : news.length = m) (hnews : ∀ j u, news[j]? = some u → w.cell? (ad.add j) = some u) (h1 : ∀ u ∈ news, u.oneCell' = true)
    (hroom : n + m ≤ cap) (hc : ∀ j, j < news.length → (w.cell? ⟨g, n + j, none⟩).isSome = true) (hf : ∀ j, w.frozen? ⟨g, j, none⟩ = false)
    (h : wpList P ops Q rest (a.put o.dst (.slice (some ⟨g, 0, none⟩) (n + m) cap)) (w.setCells g n news)) : wpList P ops Q (o :: rest) a w := by
  refine wpList_plain hgd fun K hK => ?_
  have hrun := run_append_room_cells (P := P) w t o.type e i ht hi g 0 n cap ad m c news (by rw [h1s]; omega) hnews h1 hroom (by rw [h1s]; simpa using hc) (fun j _ => by rw [h1s]; exact hf _)
  rw [h1s, Nat.mul_one, Nat.zero_add] at hrun
  unfold Oper.wp
  simp [execOp, ho, resolve, invoke, builtin, hs, hx, hrun, Result.andThen]
  exact hK _ _ h

/-- all as it was but for one block, which holds as many cells, and new ones -/
structure RoomTo (g : Nat) (w w' : World) : Prop where
  os : w'.os = w.os
  tape : w'.tape = w.tape
  output : w'.output = w.output
  size : w.heap.size ≤ w'.heap.size
  block : ∀ b, b < w.heap.size → b ≠ g → w'.heap[b]? = w.heap[b]?
def Six (g : Nat) (w : World) : Prop := ∃ cs e, w.heap[g]? = some (.cells cs e (0, 0)) ∧ cs.size = 6
theorem Six.lt {g : Nat} {w : World} (h : Six g w) : g < w.heap.size := by
  obtain ⟨cs, e, h, _⟩ := h
  rcases Nat.lt_or_ge g w.heap.size with h1 | h1
  · exact h1
  · rw [Array.getElem?_eq_none h1] at h; cases h
theorem Six.cell {g : Nat} {w : World} (h : Six g w) (j : Nat) (hj : j < 6) : (w.cell? ⟨g, j, none⟩).isSome = true := by
  obtain ⟨cs, e, h, hs⟩ := h
  rw [cell_of_row w g j cs e _ h]
  simp [hs, hj]
theorem Six.free {g : Nat} {w : World} (h : Six g w) (j : Nat) : w.frozen? ⟨g, j, none⟩ = false := by
  obtain ⟨cs, e, h, hs⟩ := h
  exact frozen_of_row w g j cs e h
theorem Six.alloc {g : Nat} {w : World} (h : Six g w) (o : Obj) : Six g (w.alloc o) := by
  have hl := h.lt
  obtain ⟨cs, e, h, hs⟩ := h
  exact ⟨cs, e, by rw [Below.heap_alloc _ _ _ hl]; exact h, hs⟩
theorem Six.setCell {g : Nat} {w : World} (h : Six g w) (j : Nat) (v : Value) : Six g (w.setCell ⟨g, j, none⟩ v) := by
  obtain ⟨cs, e, h, hs⟩ := h
  exact ⟨cs.setIfInBounds j v, e, by simp [World.setCell, Array.getElem?_modify, h], by simpa using hs⟩
theorem Six.setCells {g : Nat} : ∀ (vs : List Value) (o : Nat) {w : World}, Six g w → Six g (w.setCells g o vs)
  | [], _, _, h => h
  | v :: r, o, _, h => Six.setCells r (o + 1) (h.setCell o v)
theorem RoomTo.refl (g : Nat) (w : World) : RoomTo g w w := ⟨rfl, rfl, rfl, Nat.le_refl _, fun _ _ _ => rfl⟩
theorem RoomTo.alloc {g : Nat} {w w' : World} (h : RoomTo g w w') (o : Obj) : RoomTo g w (w'.alloc o) :=
  ⟨h.os, h.tape, h.output, by have := h.size; simp; omega, fun b hb hne => (Below.heap_alloc _ _ _ (by have := h.size; omega)).trans (h.block b hb hne)⟩
theorem RoomTo.setCell {g : Nat} {w w' : World} (h : RoomTo g w w') (j : Nat) (v : Value) : RoomTo g w (w'.setCell ⟨g, j, none⟩ v) :=
  ⟨h.os, h.tape, h.output, by have := h.size; simpa using this, fun b hb hne => (Below.heap_setCell _ _ _ _ hne).trans (h.block b hb hne)⟩
theorem RoomTo.setCells {g : Nat} : ∀ (vs : List Value) (o : Nat) {w w' : World}, RoomTo g w w' → RoomTo g w (w'.setCells g o vs)
  | [], _, _, _, h => h
  | v :: r, o, _, _, h => RoomTo.setCells r (o + 1) (h.setCell o v)
theorem RoomTo.drew {g : Nat} {w w' : World} (h : RoomTo g w w') : RoomTo g w w'.drew := ⟨h.os, h.tape, h.output, h.size, h.block⟩
theorem RoomTo.trans {g : Nat} {a b c : World} (h : RoomTo g a b) (k : RoomTo g b c) : RoomTo g a c :=
  ⟨k.os.trans h.os, k.tape.trans h.tape, k.output.trans h.output, Nat.le_trans h.size k.size, fun i hi hne => (k.block i (Nat.lt_of_lt_of_le hi h.size) hne).trans (h.block i hi hne)⟩

set_option maxRecDepth 100000 in
set_option maxHeartbeats 1000000 in
theorem appendTag_room (t : Nat) (g : Nat) (w : World) (ht : t < 16777216) (h6 : Six g w) :
    Calls Tryz.prog 73 #[.slice (some ⟨g, 0, none⟩) 0 6, .int .i64 t] w fun e w' => e = .returned (.slice (some ⟨g, 0, none⟩) (tagLen t) 6) ∧ Six g w' ∧ RoomTo g w w' := by
  obtain ⟨i0, hi, hz0, hz1, hz2⟩ := info_parts infoByte
  by_cases c1 : t < 256
  · have hL : tagLen t = 1 := by unfold tagLen; rw [if_pos c1]
    rw [hL]
    clear hL
    go_enter Tryz.func73, Tryz.ntmps73
    go_wp2_with (at_builtin; refine wpList_append_room _ rfl _ _ 104 rfl 5 i0 Tryz.underlying104 hi hz1 g 0 6 rfl ⟨w.heap.size, 0, none⟩ 1 1 [.int .u8 ((t : Int))] rfl rfl (cell_one_new _ _ _) ?c2 (by omega) ?c3 ?c4 ?_)
    case c2 => intro u hu; simp at hu; subst hu; rfl
    case c3 => intro j hj; exact (h6.alloc _).cell _ (by simp at hj; omega)
    case c4 => exact (h6.alloc _).free
    go_wp2
    go_ret
    exact ⟨rfl, Six.setCells _ _ (h6.alloc _), RoomTo.setCells _ _ ((RoomTo.refl _ _).alloc _)⟩
  · by_cases c2 : t < 65536
    · have hL : tagLen t = 2 := by unfold tagLen; rw [if_neg c1, if_pos c2]
      rw [hL]
      clear hL
      go_enter Tryz.func73, Tryz.ntmps73
      go_wp2_with (at_builtin; refine wpList_append_room _ rfl _ _ 104 rfl 5 i0 Tryz.underlying104 hi hz1 g 0 6 rfl ⟨w.heap.size, 0, none⟩ 2 2 [.int .u8 ((t : Int) / 256), .int .u8 ((t : Int) % 256)] rfl rfl (two_new _ _ _ _) ?c2 (by omega) ?c3 ?c4 ?_)
      case c2 => intro u hu; simp at hu; rcases hu with rfl | rfl <;> rfl
      case c3 => intro j hj; exact (h6.alloc _).cell _ (by simp at hj; omega)
      case c4 => exact (h6.alloc _).free
      go_wp2
      go_ret
      exact ⟨rfl, Six.setCells _ _ (h6.alloc _), RoomTo.setCells _ _ ((RoomTo.refl _ _).alloc _)⟩
    · have hL : tagLen t = 3 := by unfold tagLen; rw [if_neg c1, if_neg c2]
      rw [hL]
      clear hL
      go_enter Tryz.func73, Tryz.ntmps73
      go_wp2_with (at_builtin; refine wpList_append_room _ rfl _ _ 104 rfl 5 i0 Tryz.underlying104 hi hz1 g 0 6 rfl ⟨w.heap.size, 0, none⟩ 3 3 [.int .u8 ((t : Int) / 65536), .int .u8 ((t : Int) / 256 % 256), .int .u8 ((t : Int) % 256)] rfl rfl (three_new _ _ _ _ _) ?c2 (by omega) ?c3 ?c4 ?_)
      case c2 => intro u hu; simp at hu; rcases hu with rfl | rfl | rfl <;> rfl
      case c3 => intro j hj; exact (h6.alloc _).cell _ (by simp at hj; omega)
      case c4 => exact (h6.alloc _).free
      go_wp2
      go_ret
      exact ⟨rfl, Six.setCells _ _ (h6.alloc _), RoomTo.setCells _ _ ((RoomTo.refl _ _).alloc _)⟩

/-- in how many bytes a length is written -/
def lenLen (n : Nat) : Nat := if n < 128 then 1 else if n < 256 then 2 else 3

set_option maxRecDepth 100000 in
set_option maxHeartbeats 2000000 in
theorem appendHead_room (t n : Nat) (g : Nat) (w : World) (ht : t < 16777216) (hn : (n : Int) ≤ 9000000000000000000) (h6 : Six g w) :
    Calls Tryz.prog 119 #[.slice (some ⟨g, 0, none⟩) 0 6, .int .i64 t, .int .i64 n] w fun e w' => e = .returned (.slice (some ⟨g, 0, none⟩) (tagLen t + lenLen n) 6) ∧ Six g w' ∧ RoomTo g w w' := by
  obtain ⟨i0, hi, hz0, hz1, hz2⟩ := info_parts infoByte
  have N1 := hide (appendTag_room t g w ht h6)
  have h3 := tagLen_le t
  generalize tagLen t = k at *
  by_cases c1 : n < 128
  · have hL : lenLen n = 1 := by unfold lenLen; rw [if_pos c1]
    rw [hL]
    clear hL
    go_enter Tryz.func119, Tryz.ntmps119
    go_wp2_with fail
    refine (unhide N1).mono ?_
    rintro e w1 ⟨rfl, h61, hr1⟩
    go_wp2_with (at_builtin; refine wpList_append_room _ rfl _ _ 104 rfl 5 i0 Tryz.underlying104 hi hz1 g k 6 rfl ⟨w1.heap.size, 0, none⟩ 1 1 [.int .u8 ((n : Int))] rfl rfl (cell_one_new _ _ _) ?c2 (by omega) ?c3 ?c4 ?_)
    case c2 => intro u hu; simp at hu; subst hu; rfl
    case c3 => intro j hj; exact (h61.alloc _).cell _ (by simp at hj; omega)
    case c4 => exact (h61.alloc _).free
    go_wp2
    go_ret
    exact ⟨rfl, Six.setCells _ _ (h61.alloc _), RoomTo.setCells _ _ (hr1.alloc _)⟩
  · by_cases c2 : n < 256
    · have hL : lenLen n = 2 := by unfold lenLen; rw [if_neg c1, if_pos c2]
      rw [hL]
      clear hL
      go_enter Tryz.func119, Tryz.ntmps119
      go_wp2_with fail
      refine (unhide N1).mono ?_
      rintro e w1 ⟨rfl, h61, hr1⟩
      go_wp2_with (at_builtin; refine wpList_append_room _ rfl _ _ 104 rfl 5 i0 Tryz.underlying104 hi hz1 g k 6 rfl ⟨w1.heap.size, 0, none⟩ 2 2 [.int .u8 129, .int .u8 ((n : Int))] rfl rfl (two_new _ _ _ _) ?c2 (by omega) ?c3 ?c4 ?_)
      case c2 => intro u hu; simp at hu; rcases hu with rfl | rfl <;> rfl
      case c3 => intro j hj; exact (h61.alloc _).cell _ (by simp at hj; omega)
      case c4 => exact (h61.alloc _).free
      go_wp2
      go_ret
      exact ⟨rfl, Six.setCells _ _ (h61.alloc _), RoomTo.setCells _ _ (hr1.alloc _)⟩
    · have hL : lenLen n = 3 := by unfold lenLen; rw [if_neg c1, if_neg c2]
      rw [hL]
      clear hL
      go_enter Tryz.func119, Tryz.ntmps119
      go_wp2_with fail
      refine (unhide N1).mono ?_
      rintro e w1 ⟨rfl, h61, hr1⟩
      go_wp2_with (at_builtin; refine wpList_append_room _ rfl _ _ 104 rfl 5 i0 Tryz.underlying104 hi hz1 g k 6 rfl ⟨w1.heap.size, 0, none⟩ 3 3 [.int .u8 130, .int .u8 ((n : Int) / 256 % 256), .int .u8 ((n : Int) % 256)] rfl rfl (three_new _ _ _ _ _) ?c2 (by omega) ?c3 ?c4 ?_)
      case c2 => intro u hu; simp at hu; rcases hu with rfl | rfl | rfl <;> rfl
      case c3 => intro j hj; exact (h61.alloc _).cell _ (by simp at hj; omega)
      case c4 => exact (h61.alloc _).free
      go_wp2
      go_ret
      exact ⟨rfl, Six.setCells _ _ (h61.alloc _), RoomTo.setCells _ _ (hr1.alloc _)⟩
end Go.Proofs.YtfpglpefofcdeaaGreatDoor
namespace Go.Proofs.YtfpglpefofcdeaaGreatDoor
open Go.RowKit
set_option linter.unusedVariables false

/-- has it a tag and, beside it, only what such a tag may have? -/
def fitsB (t : Int) (s n : Nat) : Bool := if madeV t = true then s == 0 else validB t && n == 0
theorem str_empty (s : ByteArray) : s.toList.isEmpty = (s.size == 0) := by
  rw [Lib.toList_data]
  have hl : s.data.toList.length = s.size := by simp
  cases hq : s.data.toList with
  | nil =>
    rw [hq] at hl
    have : s.size = 0 := by rw [← hl]; rfl
    rw [this]; rfl
  | cons a b =>
    rw [hq] at hl
    have : s.size ≠ 0 := by rw [← hl]; simp
    rw [beq_eq_false_iff_ne.2 this]; rfl

set_option maxRecDepth 100000 in
theorem fits_any (t : Int) (s : ByteArray) (co : Option Addr) (n cc : Nat) (w : World) (ht : t ≤ 9223372036854775807) (hn : (n : Int) ≤ 9000000000000000000) :
    Calls Tryz.prog 118 #[.agg #[.int .i64 t, .string s, .slice co n cc]] w fun e w' => e = .returned (.bool (fitsB t s.size n)) ∧ Below w.heap.size w w' := by
  have n1 := fun w => madeV_any t w ht
  have n2 := fun w => valid_any t w ht
  unfold fitsB
  have he := str_empty s
  cases hm : madeV t with
  | true =>
    rw [hm] at n1
    have N1 := hide n1
    clear n1 n2 hm
    simp only [if_true]
    rw [← he]
    clear he
    go_enter Tryz.func118, Tryz.ntmps118
    go_wp2_with fail
    refine (unhide N1 _).mono ?_
    rintro e w1 ⟨rfl, hw1⟩
    subst hw1
    go_wp2
    go_ret
    exact ⟨by first | rfl | simp, by first | exact (Below.refl _ _).alloc (Nat.le_refl _) _ | exact Below.refl _ _⟩
  | false =>
    rw [hm] at n1
    simp only [Bool.false_eq_true, if_false]
    cases hv : validB t with
    | true =>
      rw [hv] at n2
      have N1 := hide n1; have N2 := hide n2
      have hz : ((n : Int) == 0) = (n == 0) := by rw [Bool.eq_iff_iff]; simp
      rw [Bool.true_and, ← hz]
      clear n1 n2 hm hv he hz
      go_enter Tryz.func118, Tryz.ntmps118
      go_wp2_with fail
      refine (unhide N1 _).mono ?_
      rintro e w1 ⟨rfl, hw1⟩
      subst hw1
      go_wp2_with fail
      refine (unhide N2 _).mono ?_
      rintro e w1 ⟨rfl, hw1⟩
      subst hw1
      go_wp2
      go_ret
      exact ⟨by first | rfl | simp, by first | exact (Below.refl _ _).alloc (Nat.le_refl _) _ | exact Below.refl _ _⟩
    | false =>
      rw [hv] at n2
      have N1 := hide n1; have N2 := hide n2
      rw [Bool.false_and]
      clear n1 n2 hm hv he
      go_enter Tryz.func118, Tryz.ntmps118
      go_wp2_with fail
      refine (unhide N1 _).mono ?_
      rintro e w1 ⟨rfl, hw1⟩
      subst hw1
      go_wp2_with fail
      refine (unhide N2 _).mono ?_
      rintro e w1 ⟨rfl, hw1⟩
      subst hw1
      go_wp2
      go_ret
      exact ⟨by first | rfl | simp, by first | exact (Below.refl _ _).alloc (Nat.le_refl _) _ | exact Below.refl _ _⟩

/-- one item more: in how many bytes, and how deep; M: of its own list -/
def stepM (M : List It → Option (Nat × Nat)) (acc : Option (Nat × Nat)) (x : It) : Option (Nat × Nat) :=
  match acc with
  | none => none
  | some (s, p) => if fitsB x.tag x.text.size x.list.length = true then (M x.list).map fun b => (s + (tagLen x.tag.toNat + lenLen (b.1 + x.text.size)) + (b.1 + x.text.size), max p (1 + b.2)) else none
def measD : Nat → List It → Option (Nat × Nat)
  | 0, _ => some (0, 0)
  | d + 1, l => l.foldl (stepM (measD d)) (some (0, 0))
theorem step_none (M : List It → Option (Nat × Nat)) (l : List It) : l.foldl (stepM M) none = none := by
  induction l with
  | nil => rfl
  | cons x r ih => rw [List.foldl_cons]; exact ih
theorem fold_take {M : List It → Option (Nat × Nat)} {l : List It} {k : Nat} {x : It} {a : Option (Nat × Nat)} (hx : l[k]? = some x) : (l.take (k + 1)).foldl (stepM M) a = stepM M ((l.take k).foldl (stepM M) a) x := by
  have hk : k < l.length := by
    rcases Nat.lt_or_ge k l.length with h | h
    · exact h
    · rw [List.getElem?_eq_none h] at hx; cases hx
  rw [List.getElem?_eq_getElem hk] at hx
  rw [List.take_succ_eq_append_getElem hk, List.foldl_append, Option.some.inj hx]
  rfl
theorem fold_stop {M : List It → Option (Nat × Nat)} {l : List It} {k : Nat} {a : Option (Nat × Nat)} (h : (l.take k).foldl (stepM M) a = none) : l.foldl (stepM M) a = none := by
  conv => lhs; rw [← List.take_append_drop k l]
  rw [List.foldl_append, h, step_none]
theorem lenLen_le (n : Nat) : 1 ≤ lenLen n ∧ lenLen n ≤ 3 := by unfold lenLen; split <;> (try split) <;> omega
theorem step_yes (M : List It → Option (Nat × Nat)) (s p : Nat) (x : It) : stepM M (some (s, p)) x = if fitsB x.tag x.text.size x.list.length = true then (M x.list).map fun b => (s + (tagLen x.tag.toNat + lenLen (b.1 + x.text.size)) + (b.1 + x.text.size), max p (1 + b.2)) else none := rfl
theorem fold_le {M : List It → Option (Nat × Nat)} {d : Nat} (hM : ∀ l s p, M l = some (s, p) → s ≤ 7 * wt d l ∧ p ≤ d) : ∀ (l : List It) (s0 p0 s p : Nat), l.foldl (stepM M) (some (s0, p0)) = some (s, p) → s ≤ s0 + 7 * wt (d + 1) l ∧ p ≤ max p0 (d + 1)
  | [], s0, p0, s, p, h => by simp at h; obtain ⟨rfl, rfl⟩ := h; omega
  | x :: r, s0, p0, s, p, h => by
    rw [List.foldl_cons, step_yes] at h
    by_cases hf : fitsB x.tag x.text.size x.list.length = true
    · rw [if_pos hf] at h
      cases hm : M x.list with
      | none => rw [hm, Option.map_none, step_none] at h; cases h
      | some b =>
        obtain ⟨b1, b2⟩ := b
        rw [hm, Option.map_some] at h
        have h1 := hM _ _ _ hm
        have h2 := fold_le hM r _ _ s p h
        have h3 := tagLen_le x.tag.toNat
        have h4 := lenLen_le (b1 + x.text.size)
        have e : wt (d + 1) (x :: r) = 1 + x.text.size + wt d x.list + wt (d + 1) r := by simp [wt]
        rw [e]
        simp only at h2
        omega
    · rw [if_neg hf, step_none] at h; cases h
theorem meas_le : ∀ (d : Nat) (l : List It) (s p : Nat), measD d l = some (s, p) → s ≤ 7 * wt d l ∧ p ≤ d
  | 0, l, s, p, h => by simp [measD] at h; obtain ⟨rfl, rfl⟩ := h; omega
  | d + 1, l, s, p, h => by
    have := fold_le (meas_le d) l 0 0 s p h
    omega
def measV (r : Option (Nat × Nat)) : Value := match r with
  | some (s, p) => .tuple #[.int .i64 s, .int .i64 p, .bool true]
  | none => .tuple #[.int .i64 0, .int .i64 0, .bool false]
theorem ret_meas {s p : Nat} {r : Option (Nat × Nat)} (h : r = some (s, p)) : Ending.returned (.tuple #[.int .i64 s, .int .i64 p, .bool true]) = .returned (measV r) := by rw [h]; rfl
theorem ret_meas_no {r : Option (Nat × Nat)} (h : r = none) : Ending.returned (.tuple #[.int .i64 0, .int .i64 0, .bool false]) = .returned (measV r) := by rw [h]; rfl

theorem wp_region_in {P : Program} {id : Nat} {Q : Exit → Act → World → Prop} {a : Act} {w : World} {l : List Oper} (C : World → Prop) (hC : C w.drew)
    (hm : P.follows .mixedOrders = true) (hB : Region.lexB .any l.toArray = true)
    (h : Quietly P l.toArray C (fun a' => ∀ w', C w' → Q .normal a' w') l a) : (Code.region id l.toArray true).wp P Q a w :=
  wp_region_quiet (C := C) hm hB hC (by simpa using h.out)
/-- worlds in which the small array is being written -/
structure RoomC (g gi : Nat) (v : Value) (w0 w : World) : Prop where
  six : Six g w
  room : RoomTo g w0 w
  cell : w.cell? ⟨gi, 0, none⟩ = some v
theorem calls_room {P : Program} {f : FuncId} {args : Array Value} {w0 w : World} {g gi : Nat} {v u : Value} (hw : RoomC g gi u w0 w) (hne : gi ≠ g) (hlt : gi < w0.heap.size)
    (h : Calls P f args w fun e w' => e = .returned v ∧ Six g w' ∧ RoomTo g w w') : Calls P f args w fun e w' => e = .returned v ∧ RoomC g gi u w0 w' :=
  h.mono fun _ w' ⟨he, h6, hr⟩ => ⟨he, h6, hw.room.trans hr, (World.cell?_of_block (w := w) (w' := w') (a := ⟨gi, 0, none⟩) (hr.block gi (Nat.lt_of_lt_of_le hlt hw.room.size) hne)).trans hw.cell⟩
theorem RoomTo.below {B g : Nat} {a w w' : World} (h : Below B a w) (hB : B ≤ w.heap.size) (hg : B ≤ g) (hr : RoomTo g w w') : Below B a w' :=
  ⟨hr.os.trans h.os, hr.tape.trans h.tape, hr.output.trans h.output, Nat.le_trans h.size hr.size, fun k hk => (hr.block k (by omega) (by omega)).trans (h.block k hk)⟩
theorem six_new (w : World) (e : TypeId) (a b c d f h : Value) : Six w.heap.size (w.alloc (.cells #[a, b, c, d, f, h] e)) := ⟨_, e, heap_alloc_new w _, rfl⟩

set_option maxRecDepth 1000000 in
set_option maxHeartbeats 8000000 in
theorem measure_any : ∀ (d : Nat) (l : List It) (ao : Option Addr) (cap : Nat) (w : World), IRow w d ao l → wt d l ≤ 2097152 → d ≤ 2097152 →
    Calls Tryz.prog 89 #[.slice ao l.length cap] w fun e w' => e = .returned (measV (measD d l)) ∧ Below w.heap.size w w'
  | 0, l, ao, cap, w, hr, hw, hdm => by
    have hl : l = [] := hr
    subst hl
    clear hr hw
    go_enter Tryz.func89, Tryz.ntmps89
    go_wp2
    go_loopw [2, 3, 13] (fun sv pv i wr => sv = .int .i64 0 ∧ pv = .int .i64 0 ∧ i = .int .i64 0 ∧ Below w.heap.size w wr) (fun _ _ _ _ => 0)
    case atStart => exact ⟨rfl, rfl, rfl, Below.refl _ _⟩
    case round =>
      obtain ⟨rfl, rfl, rfl, hbw⟩ := hrel
      go_wp2
      go_ret3
      exact ⟨rfl, hbw⟩
  | d + 1, l, ao, cap, w, hr, hw, hdm => by
    have hlen := hr.length_le
    have hlm : (l.length : Int) ≤ 2097152 := by omega
    have hres : measD (d + 1) l = l.foldl (stepM (measD d)) (some (0, 0)) := rfl
    have IH := hide (measure_any d)
    have HW := hide hw; have HR := hide hres; have HD := hide hdm
    clear hw hres hlen hdm
    go_enter Tryz.func89, Tryz.ntmps89
    go_wp2
    go_loopw [2, 3, 13] (fun sv pv i wr => ∃ k s p : Nat, k ≤ l.length ∧ sv = .int .i64 s ∧ pv = .int .i64 p ∧ i = .int .i64 k ∧ (l.take k).foldl (stepM (measD d)) (some (0, 0)) = some (s, p) ∧ Below w.heap.size w wr) (fun _ _ i _ => l.length - (intOf i).toNat)
    case atStart => exact ⟨0, 0, 0, Nat.zero_le _, rfl, rfl, rfl, by simp, Below.refl _ _⟩
    case round =>
      rename World => wo
      obtain ⟨k, s, p, hk, rfl, rfl, rfl, hfo, hbw⟩ := hrel
      by_cases hlt : k < l.length
      · rcases hr with hnil | ⟨b, off, rfl, hb, hc⟩
        · rw [hnil] at hlt; simp at hlt
        obtain ⟨x, hx⟩ : ∃ x, l[k]? = some x := ⟨_, List.getElem?_eq_getElem hlt⟩
        obtain ⟨co, cc, c0, c1, c2, hcc, hsub, htag, htxt⟩ := hc k x hx
        have hwx := wt_get (d := d) hx
        have hww := unhide HW
        have hxn := hsub.length_le
        have d0 : wo.cell? ⟨b, off + k * 3, none⟩ = _ := (hbw.cell (p := ⟨b, off + k * 3, none⟩) hb).trans c0
        have d1 : wo.cell? ⟨b, off + k * 3 + 1, none⟩ = _ := (hbw.cell (p := ⟨b, off + k * 3 + 1, none⟩) hb).trans c1
        have d2 : wo.cell? ⟨b, off + k * 3 + 2, none⟩ = _ := (hbw.cell (p := ⟨b, off + k * 3 + 2, none⟩) hb).trans c2
        have hbk : b < wo.heap.size := World.block_lt_of_cell? _ _ d0
        have hsm : (s : Int) ≤ 14680064 ∧ (p : Int) ≤ 2097153 := by
          have h1 := fold_le (meas_le d) (l.take k) 0 0 s p hfo
          have h2 : wt (d + 1) (l.take k) ≤ wt (d + 1) l := by
            conv => rhs; rw [← List.take_append_drop k l]
            simp only [wt, List.map_append, List.sum_append]
            omega
          have := unhide HD
          omega
        have hts : (x.text.size : Int) ≤ 2097152 := by omega
        have n1 := fun w => fits_any x.tag x.text co x.list.length cc w htag (by omega)
        have N2 := hide (fun (w2 : World) (h : Below w.heap.size w w2) => unhide IH x.list co cc w2 (IRow.below h d hsub) (by omega) (by have := unhide HD; omega))
        have hnx := fold_take (M := measD d) (a := some (0, 0)) hx
        rw [hfo] at hnx
        have hml := meas_le d x.list
        have hwl : wt d x.list ≤ 2097152 := by omega
        have hft : fitsB x.tag x.text.size x.list.length = true → validB x.tag = true := fun h => by
          unfold fitsB at h
          split at h
          · rename_i hm; unfold madeV at hm; simp at hm; exact hm.1
          · simp at h; exact h.1
        simp only [stepM] at hnx
        generalize x.tag = xt at *
        generalize x.text = xs at *
        generalize x.list.length = xn at *
        generalize measD d x.list = xm at *
        clear c0 c1 c2 hc hsub hx hww hwx hxn hfo
        cases hf : fitsB xt xs.size xn with
        | false =>
          rw [hf] at n1 hnx
          simp only [Bool.false_eq_true, if_false] at hnx
          have N1 := hide n1; have HN := hide (fold_stop hnx)
          clear n1 hnx hf hml hwl hft N2
          go_wp2_with fail
          refine (unhide N1 _).mono ?_
          rintro e w2 ⟨rfl, hb2⟩
          go_wp2
          go_ret3
          exact ⟨ret_meas_no (by rw [unhide HR, unhide HN]), by
            first
              | exact below_more hbw hbw.size hb2
              | exact below_more (hbw.alloc hbw.size _) (by have := hbw.size; simp; omega) hb2⟩
        | true =>
          rw [hf] at n1 hnx
          simp only [if_true] at hnx
          have hvt := hft hf
          obtain ⟨hv1, hv2⟩ := validB_lt hvt
          obtain ⟨tn, rfl⟩ := Int.eq_ofNat_of_zero_le (show 0 ≤ xt by omega)
          have ht6 : tn < 16777216 := by omega
          cases hxm : xm with
          | none =>
            rw [hxm] at N2 hnx
            have N1 := hide n1; have HN := hide (fold_stop hnx)
            clear n1 hnx hf hml hwl hft hvt hv1 hv2 ht6 hxm
            go_wp2_with fail
            have hblk1 := heap_alloc_new wo (.cells #[.int .i64 (tn : Int), .string xs, .slice co xn cc] 101)
            have hbel1 : Below w.heap.size w (wo.alloc (.cells #[.int .i64 (tn : Int), .string xs, .slice co xn cc] 101)) := hbw.alloc hbw.size _
            have hsz1 : wo.heap.size < (wo.alloc (.cells #[.int .i64 (tn : Int), .string xs, .slice co xn cc] 101)).heap.size := by simp
            have hgi : w.heap.size ≤ wo.heap.size := hbw.size
            generalize wo.alloc (.cells #[.int .i64 (tn : Int), .string xs, .slice co xn cc] 101) = wi at *
            clear hbw d0 d1 d2 hbk
            generalize wo.heap.size = gi at *
            refine (unhide N1 _).mono ?_
            rintro e w2 ⟨rfl, hb2⟩
            have hblk2 : w2.heap[gi]? = some (.cells #[.int .i64 (tn : Int), .string xs, .slice co xn cc] 101 (0, 0)) := (hb2.block _ hsz1).trans hblk1
            have hbel2 := below_more hbel1 hbel1.size hb2
            have hsz2 : gi < w2.heap.size := Nat.lt_of_lt_of_le hsz1 hb2.size
            have z0 : w2.cell? ⟨gi, 0, none⟩ = some (.int .i64 (tn : Int)) := cell_of_row _ _ 0 _ _ _ hblk2
            have z2 : w2.cell? ⟨gi, 2, none⟩ = some (.slice co xn cc) := cell_of_row _ _ 2 _ _ _ hblk2
            clear hblk1 hbel1 hsz1 hb2
            go_wp2_with fail
            refine (unhide N2 _ hbel2).mono ?_
            rintro e w3 ⟨he, hb3⟩
            have hblk3 : w3.heap[gi]? = some (.cells #[.int .i64 (tn : Int), .string xs, .slice co xn cc] 101 (0, 0)) := (hb3.block _ hsz2).trans hblk2
            have hbel3 := below_more hbel2 hbel2.size hb3
            have hsz3 : gi < w3.heap.size := Nat.lt_of_lt_of_le hsz2 hb3.size
            clear z0 z2 hblk2 hbel2 hsz2 hb3 N2
            have he2 : e = .returned (.tuple #[.int .i64 0, .int .i64 0, .bool false]) := he
            subst he2
            clear he
            go_wp2
            go_ret3
            exact ⟨ret_meas_no (by rw [unhide HR, unhide HN]), hbel3⟩
          | some bb =>
            obtain ⟨b1, b2⟩ := bb
            rw [hxm] at N2 hnx
            simp only [Option.map_some, Int.toNat_natCast] at hnx
            have hbb := hml b1 b2 hxm
            have N1 := hide n1; have HX := hide hnx
            have hb1 : (b1 : Int) ≤ 14680064 := by omega
            have hb2' : (b2 : Int) ≤ 2097152 := by have := unhide HD; omega
            have n6 := fun g w h => appendHead_room tn (b1 + xs.size) g w ht6 (by omega) h
            have h3 := tagLen_le tn
            have h4 := lenLen_le (b1 + xs.size)
            have h5 : ((tagLen tn + lenLen (b1 + xs.size) : Nat) : Int) ≤ 6 := by omega
            rw [show ((b1 + xs.size : Nat) : Int) = (b1 : Int) + (xs.size : Int) from by omega] at n6
            generalize tagLen tn + lenLen (b1 + xs.size) = hd6 at *
            have hw1 : IntKind.i64.wrap ((hd6 : Int) + ((b1 : Int) + (xs.size : Int))) = (hd6 : Int) + ((b1 : Int) + (xs.size : Int)) := wraps_i64 _ (by omega) (by omega)
            have hw2 : IntKind.i64.wrap ((s : Int) + ((hd6 : Int) + ((b1 : Int) + (xs.size : Int)))) = (s : Int) + ((hd6 : Int) + ((b1 : Int) + (xs.size : Int))) := wraps_i64 _ (by omega) (by omega)
            have N6 := hide n6
            clear n1 n6 hnx hf hml hwl hft hvt hv1 hv2 ht6 hxm hbb
            go_wp2_with fail
            have hblk1 := heap_alloc_new wo (.cells #[.int .i64 (tn : Int), .string xs, .slice co xn cc] 101)
            have hbel1 : Below w.heap.size w (wo.alloc (.cells #[.int .i64 (tn : Int), .string xs, .slice co xn cc] 101)) := hbw.alloc hbw.size _
            have hsz1 : wo.heap.size < (wo.alloc (.cells #[.int .i64 (tn : Int), .string xs, .slice co xn cc] 101)).heap.size := by simp
            have hgi : w.heap.size ≤ wo.heap.size := hbw.size
            generalize wo.alloc (.cells #[.int .i64 (tn : Int), .string xs, .slice co xn cc] 101) = wi at *
            clear hbw d0 d1 d2 hbk
            generalize wo.heap.size = gi at *
            refine (unhide N1 _).mono ?_
            rintro e w2 ⟨rfl, hb2⟩
            have hblk2 : w2.heap[gi]? = some (.cells #[.int .i64 (tn : Int), .string xs, .slice co xn cc] 101 (0, 0)) := (hb2.block _ hsz1).trans hblk1
            have hbel2 := below_more hbel1 hbel1.size hb2
            have hsz2 : gi < w2.heap.size := Nat.lt_of_lt_of_le hsz1 hb2.size
            have z0 : w2.cell? ⟨gi, 0, none⟩ = some (.int .i64 (tn : Int)) := cell_of_row _ _ 0 _ _ _ hblk2
            have z2 : w2.cell? ⟨gi, 2, none⟩ = some (.slice co xn cc) := cell_of_row _ _ 2 _ _ _ hblk2
            clear hblk1 hbel1 hsz1 hb2
            go_wp2_with fail
            refine (unhide N2 _ hbel2).mono ?_
            rintro e w3 ⟨he, hb3⟩
            have hblk3 : w3.heap[gi]? = some (.cells #[.int .i64 (tn : Int), .string xs, .slice co xn cc] 101 (0, 0)) := (hb3.block _ hsz2).trans hblk2
            have hbel3 := below_more hbel2 hbel2.size hb3
            have hsz3 : gi < w3.heap.size := Nat.lt_of_lt_of_le hsz2 hb3.size
            clear z0 z2 hblk2 hbel2 hsz2 hb3 N2
            have he2 : e = .returned (.tuple #[.int .i64 b1, .int .i64 b2, .bool true]) := he
            subst he2
            clear he
            have z0 : w3.cell? ⟨gi, 0, none⟩ = some (.int .i64 (tn : Int)) := cell_of_row _ _ 0 _ _ _ hblk3
            have z1 : w3.cell? ⟨gi, 1, none⟩ = some (.string xs) := cell_of_row _ _ 1 _ _ _ hblk3
            go_wp2_with fail
            have hC0 : ∀ o, RoomC w3.heap.size gi (.int .i64 (tn : Int)) (w3.alloc (.cells #[.int .u8 0, .int .u8 0, .int .u8 0, .int .u8 0, .int .u8 0, .int .u8 0] o)) (w3.alloc (.cells #[.int .u8 0, .int .u8 0, .int .u8 0, .int .u8 0, .int .u8 0, .int .u8 0] o)).drew := fun o =>
              ⟨six_new w3 o _ _ _ _ _ _, (RoomTo.refl _ _).drew, (World.cell?_of_block (w := w3) (w' := w3.alloc _) (a := ⟨gi, 0, none⟩) (Below.heap_alloc _ _ _ hsz3)).trans z0⟩
            refine wp_region_in (RoomC w3.heap.size gi (.int .i64 (tn : Int)) (w3.alloc (.cells #[.int .u8 0, .int .u8 0, .int .u8 0, .int .u8 0, .int .u8 0, .int .u8 0] _))) (hC0 _) (by kernel_rfl) (by kernel_rfl) ?_
            repeat (
              refine Quietly.step (fun K hK => ?_)
              go_simp
              first
                | (refine hK _ ?_; clear hK K)
                | (apply Exists.intro
                   refine ⟨fun w1 hw1 => ?_, hK _ ?_⟩
                   (first | rfl | (go_at_call 119; exact calls_room hw1 (by omega) (by simp; omega) (unhide N6 _ _ hw1.six)) | (have hcx := hw1.cell; go_simp; first | done | rfl) | (have hcx := hw1.cell; rw [hcx]; go_simp; first | done | rfl))
                   clear hK K))
            refine Quietly.nil ?_
            intro w6 hw6
            have hb6 : Below w.heap.size w w6 := RoomTo.below (hbel3.alloc hbel3.size _) (by have := hbel3.size; simp; omega) hbel3.size hw6.room
            clear hw6 hC0 z0 z1 hblk3 hbel3 hsz3
            go_wp2_with fail
            refine ⟨⟨k + 1, s + hd6 + (b1 + xs.size), max p (1 + b2), by omega, ?_, ?_, by go_num, unhide HX, hb6⟩, by simp [intOf]; omega⟩
            · congr 1; omega
            · congr 1; split <;> omega
      · have hke : k = l.length := by omega
        have HN := hide (show l.foldl (stepM (measD d)) (some (0, 0)) = some (s, p) by rw [hke, List.take_length] at hfo; exact hfo)
        clear hfo
        go_wp2
        go_ret3
        exact ⟨ret_meas (by rw [unhide HR, unhide HN]), hbw⟩
end Go.Proofs.YtfpglpefofcdeaaGreatDoor
namespace Go.Proofs.YtfpglpefofcdeaaGreatDoor
open Go.RowKit
set_option linter.unusedVariables false

/-- a length's bytes -/
def lenL (n : Nat) : List Int := if n < 128 then [(n : Int)] else if n < 256 then [129, (n : Int)] else [130, (n : Int) / 256, (n : Int) % 256]
theorem lenL_length (n : Nat) : (lenL n).length = lenLen n := by unfold lenL lenLen; split <;> (try split) <;> rfl

/-- two growths of one row, one behind the other -/
theorem grown_two {w w1 w2 : World} {row : Option Nat} {g : Nat} (h1 : w.grownBy w1 row) (o : Obj) (h2 : (w1.alloc o).grownBy w2 (some g)) (hg : row = some g ∨ w.heap.size ≤ g) : w.grownBy w2 row :=
  ⟨h2.os.trans h1.os, h2.tape.trans h1.tape, h2.output.trans h1.output, by have := h1.size; have := h2.size; simp at this; omega, fun k hk hne => by
    have hs := h1.size
    rw [h2.block k (by simp; omega) (fun e => by
      rcases hg with h | h
      · exact hne (by rw [h, ← e])
      · have := Option.some.inj e; omega), Below.heap_alloc _ _ _ (by omega)]
    exact h1.block k hk hne⟩

set_option maxRecDepth 100000 in
set_option maxHeartbeats 2000000 in
theorem appendHead_any (t l : Nat) (base n : Nat) (v : Value) (xs : List Value) (w : World) (ht : t < 16777216) (hl : l < 65536) (hown : w.ownsRow base 5 1 v n xs) (hn : n ≤ 900000) (hbase : base ≤ w.heap.size) :
    Calls Tryz.prog 119 #[v, .int .i64 t, .int .i64 l] w fun e w' => ∃ g cap, e = .returned (.slice (some ⟨g, 0, none⟩) (n + tagLen t + lenLen l) cap) ∧ w'.ownsRow base 5 1 (.slice (some ⟨g, 0, none⟩) (n + tagLen t + lenLen l) cap) (n + tagLen t + lenLen l) (xs ++ ((tagL t).map (Value.int .u8) ++ (lenL l).map (Value.int .u8))) ∧ w.grownBy w' v.ownBlock ∧ (v.ownBlock = some g ∨ w.heap.size ≤ g) := by
  obtain ⟨i0, hi, hz0, hz1, hz2⟩ := info_parts infoByte
  have N1 := hide (appendTag_any t base n v xs w ht hown (by omega) hbase)
  have h3 := tagLen_le t
  have HN := hide hn
  generalize tagLen t = k at *
  generalize (tagL t).map (Value.int .u8) = tl at *
  clear hown hn
  by_cases c1 : l < 128
  · have hL : lenLen l = 1 := by unfold lenLen; rw [if_pos c1]
    have hB : (lenL l).map (Value.int .u8) = [.int .u8 ((l : Int))] := by unfold lenL; rw [if_pos c1]; rfl
    rw [hL, hB]
    clear hL hB
    go_enter Tryz.func119, Tryz.ntmps119
    go_wp2_with fail
    refine (unhide N1).mono ?_
    rintro e w1 ⟨g1, cap1, rfl, own1, grow1, hg1⟩
    go_wp2_with (at_builtin; refine wpList_append_lies _ rfl _ _ 104 rfl base 5 i0 (.int .u8 0) 1 1 Tryz.underlying104 hi hz0 hz1 hz2 rfl (by decide) _ _ _ rfl (own1.alloc _) ⟨w1.heap.size, 0, none⟩ 1 1 [.int .u8 ((l : Int))] rfl rfl (cell_one_new _ _ _) ?c2 (by omega) ?c3 ?c4 ?c5 (w1.heap.size + 1) (by simp) ?_)
    case c2 => intro u hu; simp at hu; subst hu; rfl
    case c3 => have := unhide HN; unfold maxLen; omega
    case c4 => have := unhide HN; omega
    case c5 => have := grow1.size; simp; omega
    intro g cap w2 hown' hgrow hat hlt
    go_wp2
    go_ret
    exact ⟨_, _, rfl, by rw [← List.append_assoc]; first | exact hown' | (rw [List.append_assoc]; exact hown'), grown_two grow1 _ hgrow hg1, by
      rcases hat with h | h
      · have e : g1 = g := by simpa [Value.ownBlock] using h
        rw [← e]; exact hg1
      · right; have := grow1.size; omega⟩
  · by_cases c2 : l < 256
    · have hL : lenLen l = 2 := by unfold lenLen; rw [if_neg c1, if_pos c2]
      have hB : (lenL l).map (Value.int .u8) = [.int .u8 129, .int .u8 ((l : Int))] := by unfold lenL; rw [if_neg c1, if_pos c2]; rfl
      rw [hL, hB]
      clear hL hB
      go_enter Tryz.func119, Tryz.ntmps119
      go_wp2_with fail
      refine (unhide N1).mono ?_
      rintro e w1 ⟨g1, cap1, rfl, own1, grow1, hg1⟩
      go_wp2_with (at_builtin; refine wpList_append_lies _ rfl _ _ 104 rfl base 5 i0 (.int .u8 0) 1 1 Tryz.underlying104 hi hz0 hz1 hz2 rfl (by decide) _ _ _ rfl (own1.alloc _) ⟨w1.heap.size, 0, none⟩ 2 2 [.int .u8 129, .int .u8 ((l : Int))] rfl rfl (two_new _ _ _ _) ?c2 (by omega) ?c3 ?c4 ?c5 (w1.heap.size + 1) (by simp) ?_)
      case c2 => intro u hu; simp at hu; rcases hu with rfl | rfl <;> rfl
      case c3 => have := unhide HN; unfold maxLen; omega
      case c4 => have := unhide HN; omega
      case c5 => have := grow1.size; simp; omega
      intro g cap w2 hown' hgrow hat hlt
      go_wp2
      go_ret
      exact ⟨_, _, rfl, by rw [← List.append_assoc]; first | exact hown' | (rw [List.append_assoc]; exact hown'), grown_two grow1 _ hgrow hg1, by
        rcases hat with h | h
        · have e : g1 = g := by simpa [Value.ownBlock] using h
          rw [← e]; exact hg1
        · right; have := grow1.size; omega⟩
    · have hL : lenLen l = 3 := by unfold lenLen; rw [if_neg c1, if_neg c2]
      have hB : (lenL l).map (Value.int .u8) = [.int .u8 130, .int .u8 ((l : Int) / 256), .int .u8 ((l : Int) % 256)] := by unfold lenL; rw [if_neg c1, if_neg c2]; rfl
      rw [hL, hB]
      clear hL hB
      go_enter Tryz.func119, Tryz.ntmps119
      go_wp2_with fail
      refine (unhide N1).mono ?_
      rintro e w1 ⟨g1, cap1, rfl, own1, grow1, hg1⟩
      go_wp2_with (at_builtin; refine wpList_append_lies _ rfl _ _ 104 rfl base 5 i0 (.int .u8 0) 1 1 Tryz.underlying104 hi hz0 hz1 hz2 rfl (by decide) _ _ _ rfl (own1.alloc _) ⟨w1.heap.size, 0, none⟩ 3 3 [.int .u8 130, .int .u8 ((l : Int) / 256), .int .u8 ((l : Int) % 256)] rfl rfl (three_new _ _ _ _ _) ?c2 (by omega) ?c3 ?c4 ?c5 (w1.heap.size + 1) (by simp) ?_)
      case c2 => intro u hu; simp at hu; rcases hu with rfl | rfl | rfl <;> rfl
      case c3 => have := unhide HN; unfold maxLen; omega
      case c4 => have := unhide HN; omega
      case c5 => have := grow1.size; simp; omega
      intro g cap w2 hown' hgrow hat hlt
      go_wp2
      go_ret
      exact ⟨_, _, rfl, by rw [← List.append_assoc]; first | exact hown' | (rw [List.append_assoc]; exact hown'), grown_two grow1 _ hgrow hg1, by
        rcases hat with h | h
        · have e : g1 = g := by simpa [Value.ownBlock] using h
          rw [← e]; exact hg1
        · right; have := grow1.size; omega⟩

theorem wp_append_string {P : Program} (w : World) {o : Oper} {a : Act} {K : Act → World → Prop} {Q : Exit → Act → World → Prop} (sl x : Operand) (t u : TypeId)
    (ho : o.op = .call { callee := .builtin .append, args := #[sl, x], argTypes := #[t, u] })
    (base : Nat) (e : TypeId) (i : TypeInfo) (ht : P.underlying t = some (.slice e)) (hu : P.underlying u = some .string) (hi : P.info? e = some i) (hz : i.zero = some (.int .u8 0))
    (hsize : i.size = 1) (hby : i.bytes = 1)
    (v : Value) (n : Nat) (xs : List Value) (hs : a.eval sl = v) (hown : w.ownsRow base e 1 v n xs) (s : ByteArray) (hx : a.eval x = .string s)
    (h63 : n + s.size ≤ maxLen) (hbytes : n + s.size ≤ 140737488355328) (hbase : base ≤ w.heap.size)
    (h : ∀ v' w', w'.ownsRow base e 1 v' (n + s.size) (xs ++ Lib.strCells s) → w.grownBy w' v.ownBlock → K (a.put o.dst v') w') : o.wp P a w K Q := by
  obtain ⟨v', w', hr, h2, h3, h4⟩ := Lib.run_append_own_string (P := P) w base t u o.type e i ht hu hi hz hsize hby v n xs hown s h63 hbytes hbase
  unfold Oper.wp execOp
  simp only [ho, resolve, invoke, builtin, Sem.run_bind, Sem.run_pure, Result.andThen_ok, List.map_toArray, List.map_cons, List.map_nil, hs, hx, hr]
  exact h v' w' h2 h3
theorem step_append_string {P : Program} (w : World) {ops : Array Oper} {o : Oper} {a : Act} {K : Act → World → Prop} {Q : Exit → Act → World → Prop} {E : Prop} (hgd : o.guard = none) (sl x : Operand) (t u : TypeId)
    (ho : o.op = .call { callee := .builtin .append, args := #[sl, x], argTypes := #[t, u] })
    (base : Nat) (e : TypeId) (i : TypeInfo) (ht : P.underlying t = some (.slice e)) (hu : P.underlying u = some .string) (hi : P.info? e = some i) (hz : i.zero = some (.int .u8 0))
    (hsize : i.size = 1) (hby : i.bytes = 1)
    (v : Value) (n : Nat) (xs : List Value) (hs : a.eval sl = v) (hown : w.ownsRow base e 1 v n xs) (s : ByteArray) (hx : a.eval x = .string s)
    (h63 : n + s.size ≤ maxLen) (hbytes : n + s.size ≤ 140737488355328) (hbase : base ≤ w.heap.size)
    (h : ∀ v' w', w'.ownsRow base e 1 v' (n + s.size) (xs ++ Lib.strCells s) → w.grownBy w' v.ownBlock → K (a.put o.dst v') w') :
    if Region.wanted o (yielded ops a.tmps) = true then Oper.wp P o a w K Q else E := by
  have hw : Region.wanted o (yielded ops a.tmps) = true := by simp [Region.wanted, hgd]
  rw [if_pos hw]
  exact wp_append_string w sl x t u ho base e i ht hu hi hz hsize hby v n xs hs hown s hx h63 hbytes hbase h
end Go.Proofs.YtfpglpefofcdeaaGreatDoor
namespace Go.Proofs.YtfpglpefofcdeaaGreatDoor
open Go.RowKit
set_option linter.unusedVariables false

/-- a text's bytes as numbers -/
def strL (s : ByteArray) : List Int := s.data.toList.map fun u => (u.toNat : Int)
theorem strL_length (s : ByteArray) : (strL s).length = s.size := by simp [strL]
/-- an item written -/
def itemL (t : Nat) (body : List Int) : List Int := tagL t ++ (lenL body.length ++ body)
def bodyL (T : List It → List Int) (x : It) : List Int := if madeV x.tag = true then T x.list else strL x.text
def textD : Nat → List It → List Int
  | 0, _ => []
  | d + 1, l => l.flatMap fun x => itemL x.tag.toNat (bodyL (textD d) x)
theorem itemL_length (t : Nat) (b : List Int) : (itemL t b).length = tagLen t + lenLen b.length + b.length := by
  unfold itemL
  rw [List.length_append, List.length_append, lenL_length, bigL_length]
  omega
theorem fits_body {d : Nat} {x : It} {b1 b2 : Nat} (hf : fitsB x.tag x.text.size x.list.length = true) (hm : measD d x.list = some (b1, b2)) (ht : (textD d x.list).length = b1) : (bodyL (textD d) x).length = b1 + x.text.size := by
  unfold fitsB at hf
  unfold bodyL
  by_cases h : madeV x.tag = true
  · rw [if_pos h] at hf ⊢
    have : x.text.size = 0 := by simpa using hf
    omega
  · rw [if_neg h] at hf ⊢
    have hl : x.list = [] := by
      have : x.list.length = 0 := by
        cases hv : validB x.tag with
        | false => rw [hv] at hf; simp at hf
        | true => rw [hv] at hf; simpa using hf
      exact List.length_eq_zero_iff.1 this
    have : b1 = 0 := by
      rw [hl] at ht
      cases d <;> simp [textD] at ht <;> omega
    rw [strL_length, this]
    omega
theorem fold_text {d : Nat} (ih : ∀ l s p, measD d l = some (s, p) → (textD d l).length = s) : ∀ (l : List It) (s0 p0 s p : Nat), l.foldl (stepM (measD d)) (some (s0, p0)) = some (s, p) → s0 + (textD (d + 1) l).length = s
  | [], s0, p0, s, p, h => by simp at h; simp [textD, h.1]
  | x :: r, s0, p0, s, p, h => by
    rw [List.foldl_cons, step_yes] at h
    by_cases hf : fitsB x.tag x.text.size x.list.length = true
    · rw [if_pos hf] at h
      cases hm : measD d x.list with
      | none => rw [hm, Option.map_none, step_none] at h; cases h
      | some b =>
        obtain ⟨b1, b2⟩ := b
        rw [hm, Option.map_some] at h
        have h1 := fits_body hf hm (ih _ _ _ hm)
        have h2 := fold_text ih r _ _ s p h
        have e : textD (d + 1) (x :: r) = itemL x.tag.toNat (bodyL (textD d) x) ++ textD (d + 1) r := by simp [textD]
        rw [e, List.length_append, itemL_length, h1]
        simp only at h2
        omega
    · rw [if_neg hf, step_none] at h; cases h
theorem meas_text : ∀ (d : Nat) (l : List It) (s p : Nat), measD d l = some (s, p) → (textD d l).length = s
  | 0, l, s, p, h => by simp [measD] at h; simp [textD, h.1]
  | d + 1, l, s, p, h => by have := fold_text (meas_text d) l 0 0 s p h; omega
theorem fold_item {d : Nat} : ∀ (l : List It) (k : Nat) (x : It) (s0 p0 s p : Nat), l.foldl (stepM (measD d)) (some (s0, p0)) = some (s, p) → l[k]? = some x → fitsB x.tag x.text.size x.list.length = true ∧ ∃ b1 b2, measD d x.list = some (b1, b2)
  | [], k, x, s0, p0, s, p, h, hx => by simp at hx
  | y :: r, k, x, s0, p0, s, p, h, hx => by
    rw [List.foldl_cons, step_yes] at h
    by_cases hf : fitsB y.tag y.text.size y.list.length = true
    · rw [if_pos hf] at h
      cases hm : measD d y.list with
      | none => rw [hm, Option.map_none, step_none] at h; cases h
      | some b =>
        obtain ⟨b1, b2⟩ := b
        rw [hm, Option.map_some] at h
        cases k with
        | zero => simp at hx; subst hx; exact ⟨hf, b1, b2, hm⟩
        | succ k => exact fold_item r k x _ _ s p h (by simpa using hx)
    · rw [if_neg hf, step_none] at h; cases h
theorem text_take {d : Nat} {l : List It} {k : Nat} {x : It} (hx : l[k]? = some x) : textD (d + 1) (l.take (k + 1)) = textD (d + 1) (l.take k) ++ itemL x.tag.toNat (bodyL (textD d) x) := by
  have hk : k < l.length := by
    rcases Nat.lt_or_ge k l.length with h | h
    · exact h
    · rw [List.getElem?_eq_none h] at hx; cases hx
  rw [List.getElem?_eq_getElem hk] at hx
  rw [List.take_succ_eq_append_getElem hk, Option.some.inj hx]
  simp [textD]
theorem text_take_le {d : Nat} (l : List It) (k : Nat) : (textD (d + 1) (l.take k)).length ≤ (textD (d + 1) l).length := by
  have e : textD (d + 1) l = textD (d + 1) (l.take k) ++ textD (d + 1) (l.drop k) := by
    unfold textD
    rw [← List.flatMap_append, List.take_append_drop]
  rw [e, List.length_append]
  omega
theorem strCells_eq (s : ByteArray) : Lib.strCells s = (strL s).map (Value.int .u8) := by
  simp [Lib.strCells, strL]

def Bytes (l : List Int) : Prop := ∀ n ∈ l, 0 ≤ n ∧ n < 256
theorem lenL_bytes (n : Nat) (h : n < 65536) : Bytes (lenL n) := by
  unfold lenL Bytes
  intro m hm
  split at hm
  · simp at hm; omega
  · split at hm
    · simp at hm; omega
    · simp at hm; omega
theorem strL_bytes (s : ByteArray) : Bytes (strL s) := by
  intro n hn
  obtain ⟨u, _, rfl⟩ := List.mem_map.1 hn
  have := u.toNat_lt
  omega
theorem tagL_bytes (t : Nat) : Bytes (tagL t) := by
  intro n hn
  exact bigL_bytes _ _ n hn
theorem text_bytes : ∀ (d : Nat) (l : List It) (s p : Nat), measD d l = some (s, p) → s ≤ 65535 → Bytes (textD d l)
  | 0, l, s, p, _, _ => by intro n hn; simp [textD] at hn
  | d + 1, l, s, p, hm, hs => by
    intro n hn
    unfold textD at hn
    obtain ⟨x, hx, hn⟩ := List.mem_flatMap.1 hn
    obtain ⟨k, hk, rfl⟩ := List.mem_iff_getElem.1 hx
    have hxk : l[k]? = some l[k] := List.getElem?_eq_getElem hk
    obtain ⟨hf, b1, b2, hmx⟩ := fold_item l k l[k] 0 0 s p hm hxk
    have htx := meas_text d _ _ _ hmx
    have hbody := fits_body hf hmx htx
    have htl := meas_text (d + 1) l s p hm
    have hpre := text_take_le (d := d) l (k + 1)
    rw [text_take hxk, List.length_append, itemL_length, htl] at hpre
    unfold itemL at hn
    rcases List.mem_append.1 hn with h | h
    · exact tagL_bytes _ n h
    · rcases List.mem_append.1 h with h | h
      · exact lenL_bytes _ (by omega) n h
      · unfold bodyL at h
        split at h
        · exact text_bytes d _ b1 b2 hmx (by omega) n h
        · exact strL_bytes _ n h
theorem strL_nums {ns : List Int} (h : Bytes ns) : strL (strOfNums ns) = ns := by
  have e : (strOfNums ns).data.toList = ns.map fun n => UInt8.ofNat n.toNat := by simp [strOfNums]
  unfold strL
  rw [e, List.map_map]
  conv => rhs; rw [← List.map_id ns]
  refine List.map_congr_left fun n hn => ?_
  have := h n hn
  simp only [Function.comp, id, UInt8.toNat_ofNat']
  omega
theorem owns_keep {w w' : World} {base : Nat} {e : TypeId} {size : Nat} {v : Value} {n : Nat} {xs : List Value} (h : w.ownsRow base e size v n xs) (hb : Below w.heap.size w w') : w'.ownsRow base e size v n xs := by
  refine ⟨h.1, ?_⟩
  rcases h.2 with h0 | ⟨g, cap, cur, e1, e2, e3, e4⟩
  · exact .inl h0
  · refine .inr ⟨g, cap, cur, e1, e2, ?_, e4⟩
    have hg : g < w.heap.size := by
      rcases Nat.lt_or_ge g w.heap.size with h | h
      · exact h
      · rw [Array.getElem?_eq_none h] at e3; cases e3
    rw [hb.block g hg]; exact e3

theorem text_ge {d : Nat} : ∀ l : List It, l.length ≤ (textD (d + 1) l).length
  | [] => by simp
  | x :: r => by
    have := text_ge (d := d) r
    have e : textD (d + 1) (x :: r) = itemL x.tag.toNat (bodyL (textD d) x) ++ textD (d + 1) r := by simp [textD]
    have h1 := tagLen_le x.tag.toNat
    rw [e, List.length_append, itemL_length, List.length_cons]
    omega
theorem row_text {w : World} {d : Nat} {ao : Option Addr} {l : List It} (h : IRow w d ao l) : l.length ≤ (textD d l).length := by
  cases d with
  | zero => rw [show l = [] from h]; simp
  | succ d => exact text_ge l
theorem own_item {w : World} {base m t : Nat} {v : Value} {pre nx bd : List Int} {s : ByteArray} (hnx : nx = pre ++ itemL t bd) (hbd : bd = strL s) (hm : m = s.size)
    (h : w.ownsRow base 5 1 v (pre.length + tagLen t + lenLen m + s.size) (pre.map (Value.int .u8) ++ ((tagL t).map (Value.int .u8) ++ ((lenL m).map (Value.int .u8) ++ Lib.strCells s)))) : w.ownsRow base 5 1 v nx.length (nx.map (Value.int .u8)) := by
  subst hm
  have e1 : nx.length = pre.length + tagLen t + lenLen s.size + s.size := by
    rw [hnx, List.length_append, itemL_length, hbd, strL_length]; omega
  have e2 : nx.map (Value.int .u8) = pre.map (Value.int .u8) ++ ((tagL t).map (Value.int .u8) ++ ((lenL s.size).map (Value.int .u8) ++ Lib.strCells s)) := by
    rw [hnx, hbd, strCells_eq]
    unfold itemL
    rw [strL_length]
    simp
  rw [e1, e2]
  exact h

set_option maxRecDepth 1000000 in
set_option maxHeartbeats 8000000 in
theorem appendItems_any : ∀ (d : Nat) (l : List It) (ao : Option Addr) (cap : Nat) (w : World) (s p : Nat), IRow w d ao l → measD d l = some (s, p) → s ≤ 65535 → (l.length : Int) ≤ 2097152 →
    Calls Tryz.prog 90 #[.slice none 0 0, .slice ao l.length cap] w fun e w' => ∃ v, e = .returned v ∧ w'.ownsRow w.heap.size 5 1 v (textD d l).length ((textD d l).map (Value.int .u8)) ∧ Below w.heap.size w w'
  | 0, l, ao, cap, w, s, p, hr, hm, hs, hlm => by
    have hl : l = [] := hr
    subst hl
    clear hr hm hs hlm
    go_enter Tryz.func90, Tryz.ntmps90
    go_wp2
    go_loopw [0, 10] (fun v i wr => v = .slice none 0 0 ∧ i = .int .i64 0 ∧ Below w.heap.size w wr) (fun _ _ _ => 0)
    case atStart => exact ⟨rfl, rfl, Below.refl _ _⟩
    case round =>
      obtain ⟨rfl, rfl, hbw⟩ := hrel
      go_wp2
      go_ret
      exact ⟨_, rfl, World.ownsRow_nil _ _ _ _, hbw⟩
  | d + 1, l, ao, cap, w, s, p, hr, hm, hs, hlm => by
    obtain ⟨i0, hi, hz0, hz1, hz2⟩ := info_parts infoByte
    have IH := hide (appendItems_any d)
    have htl := meas_text (d + 1) l s p hm
    have HM := hide hm; have HT := hide htl; have HS := hide hs
    clear hm htl hs
    go_enter Tryz.func90, Tryz.ntmps90
    go_wp2
    go_loopw [0, 10] (fun v i wr => ∃ k : Nat, k ≤ l.length ∧ i = .int .i64 k ∧ wr.ownsRow w.heap.size 5 1 v (textD (d + 1) (l.take k)).length ((textD (d + 1) (l.take k)).map (Value.int .u8)) ∧ Below w.heap.size w wr) (fun _ i _ => l.length - (intOf i).toNat)
    case atStart => exact ⟨0, Nat.zero_le _, rfl, World.ownsRow_nil _ _ _ _, Below.refl _ _⟩
    case round =>
      rename World => wo
      obtain ⟨k, hk, rfl, hown, hbw⟩ := hrel
      by_cases hlt : k < l.length
      · rcases hr with hnil | ⟨b, off, rfl, hb, hc⟩
        · rw [hnil] at hlt; simp at hlt
        obtain ⟨x, hx⟩ : ∃ x, l[k]? = some x := ⟨_, List.getElem?_eq_getElem hlt⟩
        obtain ⟨co, cc, c0, c1, c2, hcc, hsub, htag, htxt⟩ := hc k x hx
        obtain ⟨hf, b1, b2, hmx⟩ := fold_item l k x 0 0 s p (unhide HM) hx
        have hbody := fits_body hf hmx (meas_text d _ _ _ hmx)
        have hnx := text_take (d := d) hx
        have hpre := text_take_le (d := d) l (k + 1)
        have hpre0 := text_take_le (d := d) l k
        rw [unhide HT] at hpre hpre0
        have hil := itemL_length x.tag.toNat (bodyL (textD d) x)
        have hss := unhide HS
        rw [hnx, List.length_append, hil] at hpre
        have hb1 : b1 ≤ 65535 := by omega
        have d0 : wo.cell? ⟨b, off + k * 3, none⟩ = _ := (hbw.cell (p := ⟨b, off + k * 3, none⟩) hb).trans c0
        have d1 : wo.cell? ⟨b, off + k * 3 + 1, none⟩ = _ := (hbw.cell (p := ⟨b, off + k * 3 + 1, none⟩) hb).trans c1
        have d2 : wo.cell? ⟨b, off + k * 3 + 2, none⟩ = _ := (hbw.cell (p := ⟨b, off + k * 3 + 2, none⟩) hb).trans c2
        have hbk : b < wo.heap.size := World.block_lt_of_cell? _ _ d0
        have n1 := fun w => madeV_any x.tag w htag
        have hvt : validB x.tag = true := by
          unfold fitsB at hf
          split at hf
          · rename_i hm; unfold madeV at hm; simp at hm; exact hm.1
          · simp at hf; exact hf.1
        have hxlen := hsub.length_le
        have hxl2 : (x.list.length : Int) ≤ 65535 := by
          have := row_text hsub
          rw [meas_text d _ _ _ hmx] at this
          omega
        obtain ⟨hv1, hv2⟩ := validB_lt hvt
        have N2 := hide (fun (w2 : World) (h : Below w.heap.size w w2) => unhide IH x.list co cc w2 b1 b2 (IRow.below h d hsub) hmx hb1 (by omega))
        have hbt := text_bytes d _ _ _ hmx hb1
        have hbd : bodyL (textD d) x = if madeV x.tag = true then textD d x.list else strL x.text := rfl
        generalize x.tag = xt at *
        generalize x.text = xs at *
        generalize x.list.length = xn at *
        generalize textD d x.list = xtx at *
        obtain ⟨tn, rfl⟩ := Int.eq_ofNat_of_zero_le (show 0 ≤ xt by omega)
        rw [Int.toNat_natCast] at hnx hpre hil
        have htn : tn < 16777216 := by omega
        have HTN := hide htn
        clear c0 c1 c2 hc hsub hx hf hmx hxlen hvt hv1 hv2 htn
        cases hm : madeV (tn : Int) with
        | true =>
          rw [hm] at n1 hbd
          simp only [if_true] at hbd
          have N1 := hide n1; have HX := hide hnx; have HP := hide hpre; have HBD := hide hbd; have HBT := hide hbt; have HP0 := hide hpre0
          clear n1 hnx hpre hbd hm hbody hil hbt hpre0 hss hb1
          go_wp2_with fail
          refine (unhide N1 _).mono ?_
          rintro e w2 ⟨rfl, hw2⟩
          subst hw2
          have hblk1 := heap_alloc_new wo (.cells #[.int .i64 (tn : Int), .string xs, .slice co xn cc] 101)
          have hbo1 : Below wo.heap.size wo (wo.alloc (.cells #[.int .i64 (tn : Int), .string xs, .slice co xn cc] 101)) := (Below.refl _ _).alloc (Nat.le_refl _) _
          have hsz1 : wo.heap.size < (wo.alloc (.cells #[.int .i64 (tn : Int), .string xs, .slice co xn cc] 101)).heap.size := by simp
          go_wp2_with fail
          refine (unhide N2 _ (below_more hbw hbw.size hbo1)).mono ?_
          rintro e w3 ⟨v3, rfl, own3, hb3⟩
          have hbo3 : Below wo.heap.size wo w3 := below_more hbo1 hbo1.size hb3
          have hbW : Below w.heap.size w w3 := below_more hbw hbw.size hbo3
          have ownW := owns_keep hown hbo3
          have z0 : w3.cell? ⟨wo.heap.size, 0, none⟩ = some (.int .i64 (tn : Int)) := cell_of_row _ _ 0 _ _ _ ((hb3.block _ hsz1).trans hblk1)
          have hsx : (strOfNums xtx).size < 65536 := by rw [strOfNums_size]; have hS := unhide HS; have := unhide HP; rw [unhide HBD] at this; omega
          have HSX := hide hsx
          have hbs : bodyL (textD d) x = strL (strOfNums xtx) := by rw [unhide HBD, strL_nums (unhide HBT)]
          have HBS := hide hbs
          clear hsx hbs
          rcases owned_cells own3 with ⟨hv, hn⟩ | ⟨g3, cap3, hv, _, hcl⟩
          · have hcv := run_convert_bytes_nil (P := Tryz.prog) w3 104 5 Tryz.underlying104 Tryz.underlying5 0 0 9 Tryz.underlying9
            subst hv
            have HNX := hide hn
            clear own3 hn hbo3 hbo1 hblk1 hsz1 hb3 N2 N1
            go_wp2_with fail
            refine (appendHead_any tn (⟨#[]⟩ : ByteArray).size w.heap.size _ _ _ w3 (unhide HTN) ((by decide)) ownW (by have hS := unhide HS; have := unhide HP0; omega) (by have := hbW.size; omega)).mono ?_
            rintro e w4 ⟨g, cp, rfl, own4, grow4, hg4⟩
            have hb4 : Below w.heap.size w w4 := hbW.grown grow4 (by have := hbW.size; omega) (fun q hq => (ownW.lt q hq).1)
            go_wp2_with (at_builtin; refine Lib.wpList_append_own_string _ rfl _ _ 104 9 rfl w.heap.size 5 i0 Tryz.underlying104 Tryz.underlying9 hi hz0 hz1 hz2 _ _ _ rfl own4 (⟨#[]⟩ : ByteArray) rfl ?c3 ?c4 ?c5 ?_)
            case c3 => have hS := unhide HS; have := unhide HP0; have : (⟨#[]⟩ : ByteArray).size < 65536 := (by decide); have := tagLen_le tn; have := lenLen_le (⟨#[]⟩ : ByteArray).size; unfold maxLen; omega
            case c4 => have hS := unhide HS; have := unhide HP0; have : (⟨#[]⟩ : ByteArray).size < 65536 := (by decide); have := tagLen_le tn; have := lenLen_le (⟨#[]⟩ : ByteArray).size; omega
            case c5 => exact hb4.size
            intro v' w5 own5 grow5 _
            have hb5 : Below w.heap.size w w5 := hb4.grown grow5 hb4.size (fun q hq => (own4.lt q hq).1)
            have own6 := own_item (m := 0) (s := ⟨#[]⟩) (unhide HX) (show bodyL (textD d) x = strL ⟨#[]⟩ by rw [unhide HBD, unhide HNX]; rfl) rfl own5
            clear own5 grow5 own4 grow4 hown hbw
            go_wp2
            go_roundw
            case rel => exact ⟨k + 1, by omega, by go_num, own6, hb5⟩
            case measure => simp [intOf]; omega
          · have hcv := run_convert_bytes_arg (P := Tryz.prog) w3 104 5 Tryz.underlying104 Tryz.underlying5 g3 0 xtx.length cap3 _ rfl hcl 9 Tryz.underlying9
            subst hv
            clear own3 hcl hbo3 hbo1 hblk1 hsz1 hb3 N2 N1
            go_wp2_with fail
            refine (appendHead_any tn (strOfNums xtx).size w.heap.size _ _ _ w3 (unhide HTN) (unhide HSX) ownW (by have hS := unhide HS; have := unhide HP0; omega) (by have := hbW.size; omega)).mono ?_
            rintro e w4 ⟨g, cp, rfl, own4, grow4, hg4⟩
            have hb4 : Below w.heap.size w w4 := hbW.grown grow4 (by have := hbW.size; omega) (fun q hq => (ownW.lt q hq).1)
            go_wp2_with (at_builtin; refine Lib.wpList_append_own_string _ rfl _ _ 104 9 rfl w.heap.size 5 i0 Tryz.underlying104 Tryz.underlying9 hi hz0 hz1 hz2 _ _ _ rfl own4 (strOfNums xtx) rfl ?c3 ?c4 ?c5 ?_)
            case c3 => have hS := unhide HS; have := unhide HP0; have : (strOfNums xtx).size < 65536 := unhide HSX; have := tagLen_le tn; have := lenLen_le (strOfNums xtx).size; unfold maxLen; omega
            case c4 => have hS := unhide HS; have := unhide HP0; have : (strOfNums xtx).size < 65536 := unhide HSX; have := tagLen_le tn; have := lenLen_le (strOfNums xtx).size; omega
            case c5 => exact hb4.size
            intro v' w5 own5 grow5 _
            have hb5 : Below w.heap.size w w5 := hb4.grown grow5 hb4.size (fun q hq => (own4.lt q hq).1)
            have own6 := own_item (unhide HX) (unhide HBS) rfl own5
            clear own5 grow5 own4 grow4 hown hbw
            go_wp2
            go_roundw
            case rel => exact ⟨k + 1, by omega, by go_num, own6, hb5⟩
            case measure => simp [intOf]; omega
        | false =>
          rw [hm] at n1 hbd
          simp only [Bool.false_eq_true, if_false] at hbd
          have N1 := hide n1; have HX := hide hnx; have HP := hide hpre; have HBD := hide hbd; have HP0 := hide hpre0
          clear n1 hnx hpre hbd hm hbody hil hbt hpre0 N2 hss hb1
          go_wp2_with fail
          refine (unhide N1 _).mono ?_
          rintro e w2 ⟨rfl, hw2⟩
          subst hw2
          go_wp2_with fail
          have hsx : xs.size < 65536 := by have hS := unhide HS; have := unhide HP; rw [unhide HBD, strL_length] at this; omega
          have HSX := hide hsx
          have hbW := hbw.alloc hbw.size (.cells #[.int .i64 (tn : Int), .string xs, .slice co xn cc] 101)
          have ownW := hown.alloc (.cells #[.int .i64 (tn : Int), .string xs, .slice co xn cc] 101)
          clear hsx
          generalize wo.alloc (.cells #[.int .i64 (tn : Int), .string xs, .slice co xn cc] 101) = wi at *
          refine (appendHead_any tn xs.size w.heap.size _ _ _ wi (unhide HTN) (unhide HSX) ownW (by have hS := unhide HS; have := unhide HP0; omega) (by have := hbW.size; omega)).mono ?_
          rintro e w4 ⟨g, cp, rfl, own4, grow4, hg4⟩
          have hb4 : Below w.heap.size w w4 := hbW.grown grow4 (by have := hbW.size; omega) (fun q hq => (ownW.lt q hq).1)
          go_wp2_with (at_builtin; refine Lib.wpList_append_own_string _ rfl _ _ 104 9 rfl w.heap.size 5 i0 Tryz.underlying104 Tryz.underlying9 hi hz0 hz1 hz2 _ _ _ rfl own4 xs rfl ?c3 ?c4 ?c5 ?_)
          case c3 => have hS := unhide HS; have := unhide HP0; have : xs.size < 65536 := unhide HSX; have := tagLen_le tn; have := lenLen_le xs.size; unfold maxLen; omega
          case c4 => have hS := unhide HS; have := unhide HP0; have : xs.size < 65536 := unhide HSX; have := tagLen_le tn; have := lenLen_le xs.size; omega
          case c5 => exact hb4.size
          intro v' w5 own5 grow5 _
          have hb5 : Below w.heap.size w w5 := hb4.grown grow5 hb4.size (fun q hq => (own4.lt q hq).1)
          have own6 := own_item (unhide HX) (unhide HBD) rfl own5
          clear own5 grow5 own4 grow4 hown hbw
          go_wp2
          go_roundw
          case rel => exact ⟨k + 1, by omega, by go_num, own6, hb5⟩
          case measure => simp [intOf]; omega
      · have hke : k = l.length := by omega
        subst hke
        rw [List.take_length] at hown
        go_wp2
        go_ret
        exact ⟨_, rfl, hown, hbw⟩
end Go.Proofs.YtfpglpefofcdeaaGreatDoor
namespace Go.Proofs.YtfpglpefofcdeaaGreatDoor
open Go.RowKit
set_option linter.unusedVariables false

/-- what Print answers -/
def printsE (m : Option (Nat × Nat)) : Int := match m with | none => 1 | some (s, p) => if 8 < p ∨ 65535 < s then 2 else 0
def printsS (d : Nat) (l : List It) : ByteArray := if printsE (measD d l) = 0 then strOfNums (textD d l) else ⟨#[]⟩

set_option maxRecDepth 1000000 in
set_option maxHeartbeats 2000000 in
theorem print_any (d : Nat) (l : List It) (ao : Option Addr) (cap : Nat) (w : World) (hr : IRow w d ao l) (hw : wt d l ≤ 2097152) (hd : d ≤ 2097152) :
    Calls Tryz.prog 54 #[.slice ao l.length cap] w fun e w' => e = .returned (.tuple #[.string (printsS d l), .int .i64 (printsE (measD d l))]) ∧ Below w.heap.size w w' := by
  have n1 := measure_any d l ao cap w hr hw hd
  have hlen := hr.length_le
  have hlm : (l.length : Int) ≤ 2097152 := by omega
  have hps : printsS d l = if printsE (measD d l) = 0 then strOfNums (textD d l) else ⟨#[]⟩ := rfl
  cases hm : measD d l with
  | none =>
    rw [hm] at n1 hps
    have h1 : printsE none = 1 := rfl
    rw [h1] at hps ⊢
    simp only [Int.reduceEq, if_false] at hps
    rw [hps]
    have N1 := hide n1
    clear n1 hps h1 hm hw hr hlen
    go_enter Tryz.func54, Tryz.ntmps54
    go_wp2_with fail
    refine (unhide N1).mono ?_
    rintro e w1 ⟨he, hb1⟩
    have he2 : e = .returned (.tuple #[.int .i64 0, .int .i64 0, .bool false]) := he
    subst he2
    clear he
    go_wp2
    go_ret2
    exact ⟨rfl, hb1⟩
  | some sp =>
    obtain ⟨s, p⟩ := sp
    have hle := meas_le d l s p hm
    rw [hm] at n1 hps
    have h1 : printsE (some (s, p)) = if 8 < p ∨ 65535 < s then 2 else 0 := rfl
    have hsm : (s : Int) ≤ 14680064 := by omega
    have hpm : (p : Int) ≤ 2097152 := by omega
    have N1 := hide n1
    by_cases hc : 8 < p ∨ 65535 < s
    · rw [if_pos hc] at h1
      rw [h1] at hps ⊢
      simp only [Int.reduceEq, if_false] at hps
      rw [hps]
      by_cases h8 : 8 < p
      · have t1 : decide ((8 : Int) < (p : Int)) = true := decide_eq_true (by omega)
        clear n1 hps h1 hm hw hr hlen hle hc
        go_enter Tryz.func54, Tryz.ntmps54
        go_wp2_with fail
        refine (unhide N1).mono ?_
        rintro e w1 ⟨he, hb1⟩
        have he2 : e = .returned (.tuple #[.int .i64 s, .int .i64 p, .bool true]) := he
        subst he2
        clear he
        go_wp2
        go_ret2
        exact ⟨rfl, hb1⟩
      · have t1 : decide ((8 : Int) < (p : Int)) = false := decide_eq_false (by omega)
        have t2 : decide ((65535 : Int) < (s : Int)) = true := decide_eq_true (by omega)
        clear n1 hps h1 hm hw hr hlen hle hc
        go_enter Tryz.func54, Tryz.ntmps54
        go_wp2_with fail
        refine (unhide N1).mono ?_
        rintro e w1 ⟨he, hb1⟩
        have he2 : e = .returned (.tuple #[.int .i64 s, .int .i64 p, .bool true]) := he
        subst he2
        clear he
        go_wp2
        go_ret2
        exact ⟨rfl, hb1⟩
    · rw [if_neg hc] at h1
      rw [h1] at hps ⊢
      simp only [if_true] at hps
      rw [hps]
      have t1 : decide ((8 : Int) < (p : Int)) = false := decide_eq_false (by omega)
      have t2 : decide ((65535 : Int) < (s : Int)) = false := decide_eq_false (by omega)
      have N2 := hide (fun (w2 : World) (h : Below w.heap.size w w2) => appendItems_any d l ao cap w2 s p (IRow.below h d hr) hm (by omega) hlm)
      clear n1 hps h1 hm hw hr hlen hle hc
      go_enter Tryz.func54, Tryz.ntmps54
      go_wp2_with fail
      refine (unhide N1).mono ?_
      rintro e w1 ⟨he, hb1⟩
      have he2 : e = .returned (.tuple #[.int .i64 s, .int .i64 p, .bool true]) := he
      subst he2
      clear he
      go_wp2_with fail
      refine (unhide N2 _ hb1).mono ?_
      rintro e w2 ⟨v, rfl, hown, hb2'⟩
      have hb2 := below_more hb1 hb1.size hb2'
      rcases owned_cells hown with ⟨hv, hn⟩ | ⟨g3, cap3, hv, _, hcl⟩
      · have hcv := run_convert_bytes_nil (P := Tryz.prog) w2 104 5 Tryz.underlying104 Tryz.underlying5 0 0 9 Tryz.underlying9
        subst hv
        have HN := hide hn
        clear hown hn
        go_wp2
        go_ret2
        exact ⟨by rw [unhide HN]; rfl, hb2⟩
      · have hcv := run_convert_bytes_arg (P := Tryz.prog) w2 104 5 Tryz.underlying104 Tryz.underlying5 g3 0 (textD d l).length cap3 _ rfl hcl 9 Tryz.underlying9
        subst hv
        clear hown hcl
        go_wp2
        go_ret2
        exact ⟨rfl, hb2⟩
end Go.Proofs.YtfpglpefofcdeaaGreatDoor
namespace Go.Proofs.YtfpglpefofcdeaaGreatDoor
open Go.RowKit
set_option linter.unusedVariables false

theorem strOf_strL (s : ByteArray) : strOfNums (strL s) = s := by
  apply ByteArray.ext
  apply Array.toList_inj.1
  rw [strOfNums_list]
  unfold strL
  rw [List.map_map]
  conv => rhs; rw [← List.map_id s.data.toList]
  refine List.map_congr_left fun u _ => ?_
  simp
theorem strL_extract (s : ByteArray) (i j : Nat) : strL (s.extract i j) = ((strL s).drop i).take (j - i) := by
  unfold strL
  rw [ByteArray.data_extract, Array.toList_extract, List.extract_eq_take_drop, List.map_take, List.map_drop]
theorem strL_split (s : ByteArray) (k : Nat) : strL s = strL (s.extract 0 k) ++ strL (behind s k) := by
  unfold behind
  rw [strL_extract, strL_extract, Nat.sub_zero, List.drop_zero]
  have h : ((strL s).drop k).take (s.size - k) = (strL s).drop k := List.take_of_length_le (by rw [List.length_drop, strL_length]; exact Nat.le_refl _)
  rw [h, List.take_append_drop]
theorem byteAt_strL (s : ByteArray) (i : Nat) (h : i < s.size) : (strL s)[i]? = some (byteAt s i : Int) := by
  unfold strL byteAt
  rw [List.getElem?_map, List.getD_eq_getElem?_getD, List.getElem?_eq_getElem (by simpa using h)]
  rfl
theorem strL_small (s : ByteArray) (k : Nat) (hk : k ≤ s.size) (h3 : k ≤ 3) : strL (s.extract 0 k) = [(byteAt s 0 : Int), (byteAt s 1 : Int), (byteAt s 2 : Int)].take k := by
  rw [strL_extract, Nat.sub_zero, List.drop_zero]
  apply List.ext_getElem?
  intro i
  by_cases hi : i < k
  · rw [List.getElem?_take, List.getElem?_take, if_pos hi, if_pos hi, byteAt_strL s i (by omega)]
    have : i = 0 ∨ i = 1 ∨ i = 2 := by omega
    rcases this with rfl | rfl | rfl <;> rfl
  · rw [List.getElem?_take, List.getElem?_take, if_neg hi, if_neg hi]
/-- the length that is read is written so -/
theorem len_text {s : ByteArray} {n k : Nat} (h : lenAt s = some (n, k)) : strL (s.extract 0 k) = lenL n ∧ lenLen n = k := by
  have hb := lenAt_lt h
  rw [strL_small s k hb.2.2.1 hb.2.2.2]
  have b0 := byteAt_lt s 0
  have b1 := byteAt_lt s 1
  have b2 := byteAt_lt s 2
  unfold lenAt lenN at h
  generalize byteAt s 0 = x at *
  generalize byteAt s 1 = y at *
  generalize byteAt s 2 = z at *
  by_cases c0 : s.size = 0
  · rw [if_pos c0] at h; cases h
  · rw [if_neg c0] at h
    by_cases c1 : x < 128
    · rw [if_pos c1] at h
      cases h
      unfold lenL lenLen
      rw [if_pos c1, if_pos c1]
      exact ⟨rfl, rfl⟩
    · rw [if_neg c1] at h
      by_cases c2 : x = 129 ∧ 2 ≤ s.size
      · rw [if_pos c2] at h
        by_cases c3 : 128 ≤ y
        · rw [if_pos c3] at h
          cases h
          unfold lenL lenLen
          rw [if_neg (by omega), if_pos (by omega), if_neg (by omega), if_pos (by omega), c2.1]
          exact ⟨rfl, rfl⟩
        · rw [if_neg c3] at h; cases h
      · rw [if_neg c2] at h
        by_cases c4 : x = 130 ∧ 3 ≤ s.size
        · rw [if_pos c4] at h
          by_cases c5 : 256 ≤ y * 256 + z
          · rw [if_pos c5] at h
            cases h
            unfold lenL lenLen
            rw [if_neg (by omega), if_neg (by omega), if_neg (by omega), if_neg (by omega), c4.1]
            refine ⟨?_, rfl⟩
            have e1 : ((y * 256 + z : Nat) : Int) / 256 = (y : Int) := by omega
            have e2 : ((y * 256 + z : Nat) : Int) % 256 = (z : Int) := by omega
            rw [e1, e2]
            rfl
          · rw [if_neg c5] at h; cases h
        · rw [if_neg c4] at h; cases h
/-- the tag that is read is written so -/
theorem tag_text {s : ByteArray} (hz : tagSz s.data.toList ≤ s.size) (hv : validB (tagAt s : Int) = true) : strL (s.extract 0 (tagSz s.data.toList)) = tagL (tagAt s) ∧ tagLen (tagAt s) = tagSz s.data.toList := by
  have h13 := tagSz_le s.data.toList
  have hl : s.data.toList.length = s.size := by simp
  have hg := (good_iff s.data.toList (tagSz s.data.toList) h13.1 h13.2 (by omega)).2 ⟨rfl, hv⟩
  have hp := (goodB_parts hg).2
  have ht := (text_same s (tagSz s.data.toList) hz).2 hp
  refine ⟨?_, hp⟩
  rw [← ht]
  exact strL_nums (tagL_bytes _)

theorem body_made {T : List It → List Int} {x : It} (h : madeV x.tag = true) : bodyL T x = T x.list := if_pos h
theorem body_not {T : List It → List Int} {x : It} (h : madeV x.tag = false) : bodyL T x = strL x.text := if_neg (by rw [h]; decide)
theorem fits_made {t : Int} {s n : Nat} (h : madeV t = true) : fitsB t s n = (s == 0) := if_pos h
theorem fits_not {t : Int} {s n : Nat} (h : madeV t = false) : fitsB t s n = (validB t && n == 0) := if_neg (by rw [h]; decide)
theorem item_text {d : Nat} {s : ByteArray} {x : It} {r : ByteArray} (ih : ∀ s l, parseD d s = some l → ∃ p, measD d l = some (s.size, p) ∧ p ≤ d ∧ textD d l = strL s) (h : itemAt (parseD d) s = some (x, r)) :
    fitsB x.tag x.text.size x.list.length = true ∧ (∃ b1 b2, measD d x.list = some (b1, b2) ∧ b2 ≤ d ∧ (bodyL (textD d) x).length = b1 + x.text.size) ∧ strL s = itemL x.tag.toNat (bodyL (textD d) x) ++ strL r := by
  unfold itemAt at h
  split at h
  · cases h
  · rename_i hz
    split at h
    · cases h
    · rename_i hv
      have hv' : validB (tagAt s : Int) = true := by simpa using hv
      obtain ⟨ht, htl⟩ := tag_text (by omega) hv'
      split at h
      · cases h
      · rename_i n k hl
        obtain ⟨hlt, hll⟩ := len_text hl
        split at h
        · cases h
        · rename_i hn
          have e1 := strL_split s (tagSz s.data.toList)
          have e2 := strL_split (behind s (tagSz s.data.toList)) k
          have e3 := strL_split (behind (behind s (tagSz s.data.toList)) k) n
          rw [ht] at e1
          rw [hlt] at e2
          generalize behind (behind s (tagSz s.data.toList)) k = r2 at *
          generalize behind s (tagSz s.data.toList) = r1 at *
          have hbn : (strL (r2.extract 0 n)).length = n := by rw [strL_length, ByteArray.size_extract]; omega
          have hmv : madeV (tagAt s : Int) = madeB (tagAt s) := by unfold madeV; rw [hv', Bool.true_and, Int.toNat_natCast]
          generalize tagAt s = t at *
          split at h
          · rename_i hm
            cases hp : parseD d (r2.extract 0 n) with
            | none => rw [hp] at h; cases h
            | some l =>
              rw [hp] at h
              have e := Option.some.inj h
              have x1 := (Prod.ext_iff.1 e).1
              have x2 := (Prod.ext_iff.1 e).2
              simp only at x1 x2
              obtain ⟨p, hm1, hm2, hm3⟩ := ih _ _ hp
              subst x1
              have hmk : madeV (t : Int) = true := by rw [hmv, hm]
              have hbd : bodyL (textD d) (.mk (t : Int) ⟨#[]⟩ l) = strL (r2.extract 0 n) := (body_made (x := .mk (t : Int) ⟨#[]⟩ l) hmk).trans hm3
              refine ⟨?_, ⟨_, p, hm1, hm2, ?_⟩, ?_⟩
              · exact fits_made hmk
              · rw [hbd, strL_length]; rfl
              · rw [hbd, ← x2, e1, e2, e3]
                unfold itemL
                simp only [It.tag, Int.toNat_natCast]
                rw [hbn]
                simp only [List.append_assoc]
          · rename_i hm
            have e := Option.some.inj h
            have x1 := (Prod.ext_iff.1 e).1
            have x2 := (Prod.ext_iff.1 e).2
            simp only at x1 x2
            subst x1
            have hmf : madeB t = false := by simpa using hm
            have hmk : madeV (t : Int) = false := by rw [hmv, hmf]
            have hbd : bodyL (textD d) (.mk (t : Int) (r2.extract 0 n) []) = strL (r2.extract 0 n) := body_not (x := .mk (t : Int) (r2.extract 0 n) []) hmk
            refine ⟨?_, ⟨0, 0, ?_, Nat.zero_le _, ?_⟩, ?_⟩
            · refine (fits_not hmk).trans ?_
              simp only [It.list]
              rw [hv']
              rfl
            · simp only [It.list]; cases d <;> rfl
            · rw [hbd, strL_length]; simp only [It.text]; omega
            · rw [hbd, ← x2, e1, e2, e3]
              unfold itemL
              simp only [It.tag, Int.toNat_natCast]
              rw [hbn]
              simp only [List.append_assoc]

theorem strL_nil {s : ByteArray} (h : s.size = 0) : strL s = [] := List.length_eq_zero_iff.1 (by rw [strL_length]; exact h)
theorem list_text {d : Nat} (ih : ∀ s l, parseD d s = some l → ∃ p, measD d l = some (s.size, p) ∧ p ≤ d ∧ textD d l = strL s) : ∀ (f : Nat) (s : ByteArray) (l : List It), listP (parseD d) f s = some l →
    (∀ s0 p0, ∃ p, l.foldl (stepM (measD d)) (some (s0, p0)) = some (s0 + s.size, p) ∧ p ≤ max p0 (d + 1)) ∧ textD (d + 1) l = strL s
  | 0, s, l, h => by
    unfold listP at h
    split at h
    · rename_i hz
      cases h
      exact ⟨fun s0 p0 => ⟨p0, by rw [hz]; rfl, by omega⟩, by rw [strL_nil hz]; simp [textD]⟩
    · cases h
  | f + 1, s, l, h => by
    by_cases hz : s.size = 0
    · rw [listP_empty _ _ hz] at h
      cases h
      exact ⟨fun s0 p0 => ⟨p0, by rw [hz]; rfl, by omega⟩, by rw [strL_nil hz]; simp [textD]⟩
    · rw [listP_step hz] at h
      cases hi : itemAt (parseD d) s with
      | none => rw [hi] at h; cases h
      | some xr =>
        obtain ⟨x, r⟩ := xr
        rw [hi] at h
        simp only at h
        cases hr : listP (parseD d) f r with
        | none => rw [hr] at h; cases h
        | some m =>
          rw [hr] at h
          have e : l = x :: m := (Option.some.inj h).symm
          subst e
          obtain ⟨i1, ⟨b1, b2, i2, i3, i4⟩, i5⟩ := item_text ih hi
          obtain ⟨k1, k2⟩ := list_text ih f r m hr
          have hlen : s.size = (itemL x.tag.toNat (bodyL (textD d) x)).length + r.size := by
            have := congrArg List.length i5
            rw [strL_length, List.length_append, strL_length] at this
            exact this
          rw [itemL_length, i4] at hlen
          refine ⟨fun s0 p0 => ?_, ?_⟩
          · obtain ⟨p, q1, q2⟩ := k1 (s0 + (tagLen x.tag.toNat + lenLen (b1 + x.text.size)) + (b1 + x.text.size)) (max p0 (1 + b2))
            refine ⟨p, ?_, by omega⟩
            rw [List.foldl_cons, step_yes, if_pos i1, i2, Option.map_some]
            simp only
            rw [q1]
            congr 2
            omega
          · rw [i5, ← k2]; simp [textD]
theorem parse_print : ∀ (d : Nat) (s : ByteArray) (l : List It), parseD d s = some l → ∃ p, measD d l = some (s.size, p) ∧ p ≤ d ∧ textD d l = strL s
  | 0, s, l, h => by
    unfold parseD at h
    split at h
    · rename_i hz
      cases h
      refine ⟨0, by rw [hz]; rfl, Nat.le_refl _, ?_⟩
      have : (strL s).length = 0 := by rw [strL_length]; exact hz
      rw [List.length_eq_zero_iff.1 this]; rfl
    · cases h
  | d + 1, s, l, h => by
    obtain ⟨h1, h2⟩ := list_text (parse_print d) s.size s l h
    obtain ⟨p, q1, q2⟩ := h1 0 0
    exact ⟨p, by rw [Nat.zero_add] at q1; exact q1, by omega, h2⟩

/-! ### The other way -/
theorem behind_nums (a b : List Int) : behind (strOfNums (a ++ b)) a.length = strOfNums b := by
  apply ByteArray.ext
  apply Array.toList_inj.1
  unfold behind
  rw [strOfNums_list, ByteArray.data_extract, Array.toList_extract, List.extract_eq_take_drop, strOfNums_list, strOfNums_size, List.map_append]
  rw [List.drop_left' (by simp)]
  exact List.take_of_length_le (by simp)
theorem take_nums (a b : List Int) : (strOfNums (a ++ b)).extract 0 a.length = strOfNums a := by
  apply ByteArray.ext
  apply Array.toList_inj.1
  rw [strOfNums_list, ByteArray.data_extract, Array.toList_extract, List.extract_eq_take_drop, strOfNums_list, List.map_append]
  simp
theorem byteAt_nums {L : List Int} (i : Nat) (v : Int) (h : L[i]? = some v) (h0 : 0 ≤ v) (h1 : v < 256) : byteAt (strOfNums L) i = v.toNat := by
  unfold byteAt
  rw [strOfNums_list, List.getD_eq_getElem?_getD, List.getElem?_map, h]
  simp
  omega
theorem len_back (n : Nat) (X : List Int) (hn : n < 65536) : lenAt (strOfNums (lenL n ++ X)) = some (n, lenLen n) := by
  have hs : (strOfNums (lenL n ++ X)).size = lenLen n + X.length := by rw [strOfNums_size, List.length_append, lenL_length]
  unfold lenAt
  rw [hs]
  unfold lenL lenLen
  by_cases c1 : n < 128
  · rw [if_pos c1, if_pos c1, byteAt_nums 0 (n : Int) rfl (by omega) (by omega), Int.toNat_natCast]
    unfold lenN
    rw [if_neg (by omega), if_pos c1]
  · rw [if_neg c1, if_neg c1]
    by_cases c2 : n < 256
    · rw [if_pos c2, if_pos c2, byteAt_nums 0 129 rfl (by omega) (by omega), byteAt_nums 1 (n : Int) rfl (by omega) (by omega), Int.toNat_natCast]
      unfold lenN
      rw [if_neg (by omega), if_neg (by decide), if_pos ⟨rfl, by omega⟩, if_pos (by omega)]
    · rw [if_neg c2, if_neg c2, byteAt_nums 0 130 rfl (by omega) (by omega), byteAt_nums 1 ((n : Int) / 256) rfl (by omega) (by omega), byteAt_nums 2 ((n : Int) % 256) rfl (by omega) (by omega)]
      unfold lenN
      have e : ((n : Int) / 256).toNat * 256 + ((n : Int) % 256).toNat = n := by omega
      rw [if_neg (by omega), if_neg (by decide), if_neg (fun h => absurd h.1 (by decide)), if_pos ⟨rfl, by omega⟩, e, if_pos (by omega)]
theorem tag_back (t : Nat) (X : List Int) (hv : validB (t : Int) = true) : tagSz (strOfNums (tagL t ++ X)).data.toList = tagLen t ∧ tagAt (strOfNums (tagL t ++ X)) = t := by
  have hlt := validB_lt hv
  have hb := valN_bigL t (tagLen t) (lt_tagLen t (by omega))
  have hlen : ((bigL t (tagLen t)).map fun z => UInt8.ofNat z.toNat).length = tagLen t := by rw [List.length_map, bigL_length]
  have e : (strOfNums (tagL t ++ X)).data.toList = ((bigL t (tagLen t)).map fun z => UInt8.ofNat z.toNat) ++ X.map fun z => UInt8.ofNat z.toNat := by rw [strOfNums_list, List.map_append]
  obtain ⟨e1, e2⟩ := tag_text_back t (X.map fun z => UInt8.ofNat z.toNat) hv _ hlen hb
  unfold tagAt
  rw [e, e1, e2, hb]
  exact ⟨rfl, rfl⟩
theorem item_back {P : ByteArray → Option (List It)} {t : Nat} {bd rest : List Int} {x : It} (hv : validB (t : Int) = true) (hn : bd.length < 65536)
    (hx : (madeB t = true ∧ ∃ l, P (strOfNums bd) = some l ∧ x = .mk t ⟨#[]⟩ l) ∨ (madeB t = false ∧ x = .mk t (strOfNums bd) [])) : itemAt P (strOfNums (itemL t bd ++ rest)) = some (x, strOfNums rest) := by
  have e0 : itemL t bd ++ rest = tagL t ++ (lenL bd.length ++ (bd ++ rest)) := by unfold itemL; simp only [List.append_assoc]
  rw [e0]
  obtain ⟨e1, e2⟩ := tag_back t (lenL bd.length ++ (bd ++ rest)) hv
  have e3 : behind (strOfNums (tagL t ++ (lenL bd.length ++ (bd ++ rest)))) (tagLen t) = strOfNums (lenL bd.length ++ (bd ++ rest)) := by
    have := behind_nums (tagL t) (lenL bd.length ++ (bd ++ rest))
    rw [bigL_length] at this
    exact this
  have e4 := len_back bd.length (bd ++ rest) hn
  have e5 : behind (strOfNums (lenL bd.length ++ (bd ++ rest))) (lenLen bd.length) = strOfNums (bd ++ rest) := by
    have := behind_nums (lenL bd.length) (bd ++ rest)
    rw [lenL_length] at this
    exact this
  have e6 := take_nums bd rest
  have e7 := behind_nums bd rest
  have hs : (strOfNums (tagL t ++ (lenL bd.length ++ (bd ++ rest)))).size = tagLen t + (lenL bd.length ++ (bd ++ rest)).length := by rw [strOfNums_size, List.length_append, bigL_length]
  unfold itemAt
  rw [e1, e2, if_neg (by omega), hv, if_neg (by decide), e3, e4]
  simp only
  rw [e5, if_neg (by rw [strOfNums_size, List.length_append]; omega), e6, e7]
  rcases hx with ⟨hm, l, hl, rfl⟩ | ⟨hm, rfl⟩
  · rw [hm, if_pos rfl, hl]; rfl
  · rw [hm, if_neg (by decide)]

theorem fold_grow {M : List It → Option (Nat × Nat)} : ∀ (l : List It) (s0 p0 s p : Nat), l.foldl (stepM M) (some (s0, p0)) = some (s, p) → s0 ≤ s ∧ p0 ≤ p ∧ (l ≠ [] → 1 ≤ p)
  | [], s0, p0, s, p, h => by simp at h; simp [h.1, h.2]
  | x :: r, s0, p0, s, p, h => by
    rw [List.foldl_cons, step_yes] at h
    by_cases hf : fitsB x.tag x.text.size x.list.length = true
    · rw [if_pos hf] at h
      cases hm : M x.list with
      | none => rw [hm, Option.map_none, step_none] at h; cases h
      | some b =>
        rw [hm, Option.map_some] at h
        obtain ⟨b1, b2⟩ := b
        have := fold_grow r _ _ s p h
        refine ⟨by omega, by omega, fun _ => by omega⟩
    · rw [if_neg hf, step_none] at h; cases h
theorem print_list {W : World} {n D : Nat} (ih : ∀ (ao : Option Addr) (l : List It) (s p : Nat), IRow W D ao l → measD D l = some (s, p) → p ≤ n → s ≤ 65535 → parseD n (strOfNums (textD D l)) = some l) :
    ∀ (l : List It) (s0 p0 s p : Nat), (∀ x ∈ l, ∃ co, IRow W D co x.list) → l.foldl (stepM (measD D)) (some (s0, p0)) = some (s, p) → p ≤ n + 1 → s ≤ 65535 → parseD (n + 1) (strOfNums (textD (D + 1) l)) = some l
  | [], s0, p0, s, p, _, _, _, _ => by
    have e : textD (D + 1) ([] : List It) = [] := by simp [textD]
    rw [e]
    exact listP_empty _ _ rfl
  | x :: r, s0, p0, s, p, hrow, h, hp, hs => by
    rw [List.foldl_cons, step_yes] at h
    by_cases hf : fitsB x.tag x.text.size x.list.length = true
    · rw [if_pos hf] at h
      cases hm : measD D x.list with
      | none => rw [hm, Option.map_none, step_none] at h; cases h
      | some b =>
        obtain ⟨b1, b2⟩ := b
        rw [hm, Option.map_some] at h
        simp only at h
        have hpos := (fold_grow r _ _ s p h)
        have hbody := fits_body hf hm (meas_text D _ _ _ hm)
        have hrest := print_list ih r _ _ s p (fun y hy => hrow y (List.mem_cons_of_mem _ hy)) h hp hs
        have e : textD (D + 1) (x :: r) = itemL x.tag.toNat (bodyL (textD D) x) ++ textD (D + 1) r := by simp [textD]
        have hvt : validB x.tag = true := by
          unfold fitsB at hf
          split at hf
          · rename_i hm; unfold madeV at hm; simp at hm; exact hm.1
          · simp at hf; exact hf.1
        have hlt := validB_lt hvt
        obtain ⟨t, ht⟩ := Int.eq_ofNat_of_zero_le (show 0 ≤ x.tag by omega)
        have hmv : madeV x.tag = madeB t := by unfold madeV; rw [hvt, Bool.true_and, ht, Int.toNat_natCast]
        have hsz : (strOfNums (textD (D + 1) (x :: r))).size ≠ 0 := by
          rw [strOfNums_size, e, List.length_append, itemL_length]
          have := tagLen_le x.tag.toNat
          omega
        rw [parse_step hsz, e, ht, Int.toNat_natCast]
        rw [ht] at hvt
        obtain ⟨co, hco⟩ := hrow x (List.mem_cons_self ..)
        have hib : itemAt (parseD n) (strOfNums (itemL t (bodyL (textD D) x) ++ textD (D + 1) r)) = some (x, strOfNums (textD (D + 1) r)) := by
          refine item_back hvt (by omega) ?_
          cases hmd : madeB t with
          | true =>
            left
            have hbd : bodyL (textD D) x = textD D x.list := body_made (by rw [hmv, hmd])
            refine ⟨rfl, x.list, ?_, ?_⟩
            · rw [hbd]; exact ih co x.list b1 b2 hco hm (by omega) (by omega)
            · have h0 : x.text.size = 0 := by
                rw [fits_made (by rw [hmv, hmd])] at hf
                simpa using hf
              have h1 : x.text = ⟨#[]⟩ := by
                apply ByteArray.ext
                exact Array.eq_empty_of_size_eq_zero h0
              cases x with
              | mk a b c => simp only [It.tag, It.text, It.list] at ht h1 ⊢; rw [ht, h1]
          | false =>
            right
            have hbd : bodyL (textD D) x = strL x.text := body_not (by rw [hmv, hmd])
            refine ⟨rfl, ?_⟩
            rw [hbd, strOf_strL]
            have h0 : x.list = [] := by
              rw [fits_not (by rw [hmv, hmd])] at hf
              simp at hf
              exact hf.2
            cases x with
            | mk a b c => simp only [It.tag, It.text, It.list] at ht h0 ⊢; rw [ht, h0]
        rw [hib]
        simp only
        rw [hrest]
        rfl
    · rw [if_neg hf, step_none] at h; cases h
theorem fold_deep {d : Nat} : ∀ (l : List It) (k : Nat) (x : It) (s0 p0 s p : Nat), l.foldl (stepM (measD d)) (some (s0, p0)) = some (s, p) → l[k]? = some x → ∀ b1 b2, measD d x.list = some (b1, b2) → 1 + b2 ≤ p
  | [], k, x, s0, p0, s, p, h, hx, b1, b2, hb => by simp at hx
  | y :: r, k, x, s0, p0, s, p, h, hx, b1, b2, hb => by
    rw [List.foldl_cons, step_yes] at h
    by_cases hf : fitsB y.tag y.text.size y.list.length = true
    · rw [if_pos hf] at h
      cases hm : measD d y.list with
      | none => rw [hm, Option.map_none, step_none] at h; cases h
      | some b =>
        obtain ⟨c1, c2⟩ := b
        rw [hm, Option.map_some] at h
        simp only at h
        cases k with
        | zero =>
          simp at hx
          subst hx
          rw [hm] at hb
          cases hb
          have := fold_grow r _ _ s p h
          omega
        | succ k => exact fold_deep r k x _ _ s p h (by simpa using hx) b1 b2 hb
    · rw [if_neg hf, step_none] at h; cases h
theorem row_items {W : World} {D : Nat} {ao : Option Addr} {l : List It} (h : IRow W (D + 1) ao l) : ∀ x ∈ l, ∃ co, IRow W D co x.list := by
  intro x hx
  obtain ⟨i, hi, rfl⟩ := List.mem_iff_getElem.1 hx
  rcases h with h | ⟨b, off, _, _, hc⟩
  · rw [h] at hi; simp at hi
  · obtain ⟨co, cc, _, _, _, _, h5, _⟩ := hc i l[i] (List.getElem?_eq_getElem hi)
    exact ⟨co, h5⟩
theorem print_parse {W : World} : ∀ (n D : Nat) (ao : Option Addr) (l : List It) (s p : Nat), IRow W D ao l → measD D l = some (s, p) → p ≤ n → s ≤ 65535 → parseD n (strOfNums (textD D l)) = some l
  | n, 0, ao, l, s, p, hr, _, _, _ => by
    rw [show l = [] from hr]
    cases n with
    | zero => rfl
    | succ n => exact listP_empty _ _ rfl
  | 0, D + 1, ao, l, s, p, hr, hm, hp, hs => by
    have hl : l = [] := by
      rcases List.eq_nil_or_concat l with h | ⟨a, b, h⟩
      · exact h
      · have := (fold_grow l 0 0 s p hm).2.2 (by rw [h]; simp)
        omega
    rw [hl]
    rfl
  | n + 1, D + 1, ao, l, s, p, hr, hm, hp, hs => print_list (fun ao l s p h1 h2 h3 h4 => print_parse n D ao l s p h1 h2 h3 h4) l 0 0 s p (row_items hr) hm hp hs
theorem row_depth {W : World} : ∀ (n D : Nat) {ao : Option Addr} {l : List It} {s p : Nat}, IRow W D ao l → measD D l = some (s, p) → p ≤ n → IRow W n ao l
  | n, 0, ao, l, s, p, hr, _, _ => by rw [show l = [] from hr]; exact IRow.nil _ _ _
  | 0, D + 1, ao, l, s, p, hr, hm, hp => by
    rcases List.eq_nil_or_concat l with h | ⟨a, b, h⟩
    · rw [h]; rfl
    · have := (fold_grow l 0 0 s p hm).2.2 (by rw [h]; simp)
      omega
  | n + 1, D + 1, ao, l, s, p, hr, hm, hp => by
    rcases hr with h | ⟨b, off, rfl, hlt, hc⟩
    · exact .inl h
    · refine .inr ⟨b, off, rfl, hlt, fun i x hx => ?_⟩
      obtain ⟨co, cc, h1, h2, h3, h4, h5, h6⟩ := hc i x hx
      obtain ⟨hf, b1, b2, hmx⟩ := fold_item l i x 0 0 s p hm hx
      have hb : 1 + b2 ≤ p := fold_deep l i x 0 0 s p hm hx b1 b2 hmx
      exact ⟨co, cc, h1, h2, h3, h4, row_depth n D h5 hmx (by omega), h6⟩
end Go.Proofs.YtfpglpefofcdeaaGreatDoor
namespace Go.Proofs.YtfpglpefofcdeaaGreatDoor
open Go.ChangeShapes Go.WideShapes Go.ChangeAt Go.RowKit Go.Deep
set_option linter.unusedVariables false
set_option maxRecDepth 100000

structure XApp where
  name : ByteArray
  label : ByteArray
  prio : Int
  confirm : Bool
deriving Inhabited
def valApp (x : XApp) : Value := .agg #[.string x.name, .string x.label, .int .i64 x.prio, .bool x.confirm]
def okApp (W : World) (x : XApp) : Prop := x.name.size ≤ maxLen ∧ x.label.size ≤ maxLen ∧ (-9223372036854775808 ≤ x.prio ∧ x.prio ≤ 9223372036854775807)
theorem cellsOfApp : Tryz.prog.cellsOf 90 = 4 := by kernel_rfl
theorem okApp.below {W W' : World} {x : XApp} (h : okApp W x) (hb : Below W.heap.size W W') : okApp W' x := by
  obtain ⟨h0, h1, h2⟩ := h
  exact ⟨h0, h1, h2⟩
theorem opencApp {H : Type} {enc : TypeId × Value → H} {W : World} {k : Nat} {cs : List Value} {y : DataW H × List MemPlace}
    (h : DataW.trod enc Tryz.prog W 0 (fun _ => true) true k 90 cs = some y) :
    ∃ x : XApp, cs = [.string x.name, .string x.label, .int .i64 x.prio, .bool x.confirm] ∧ okApp W x := by
  obtain ⟨xs, k', _, _, hsz, hlen, hq⟩ := DataW.trod_struct Tryz.underlying90 h
  rw [cellsOfApp] at hsz
  match cs, hsz with
  | [c0, c1, c2, c3], _ =>
    match xs, hlen with
    | [y0, y1, y2, y3], _ =>
      have h0 : DataW.trod enc Tryz.prog W 0 (fun _ => true) true k' 9 [c0] = some y0 := by simpa [cellsOfBool, cellsOfInt, cellsOfString] using hq 0 _ rfl
      obtain ⟨z0, e0, g0, w0⟩ := DataW.trod_string Tryz.underlying9 h0
      have h1 : DataW.trod enc Tryz.prog W 0 (fun _ => true) true k' 9 [c1] = some y1 := by simpa [cellsOfBool, cellsOfInt, cellsOfString] using hq 1 _ rfl
      obtain ⟨z1, e1, g1, w1⟩ := DataW.trod_string Tryz.underlying9 h1
      have h2 : DataW.trod enc Tryz.prog W 0 (fun _ => true) true k' 3 [c2] = some y2 := by simpa [cellsOfBool, cellsOfInt, cellsOfString] using hq 2 _ rfl
      obtain ⟨z2, e2, g2, w2⟩ := DataW.trod_int Tryz.underlying3 h2
      have h3 : DataW.trod enc Tryz.prog W 0 (fun _ => true) true k' 4 [c3] = some y3 := by simpa [cellsOfBool, cellsOfInt, cellsOfString] using hq 3 _ rfl
      obtain ⟨z3, e3, g3⟩ := DataW.trod_bool Tryz.underlying4 h3
      simp at e0 e1 e2 e3
      subst e0
      subst e1
      subst e2
      subst e3
      exact ⟨⟨z0, z1, z2, z3⟩, rfl, ⟨w0, w1, bounds_i64 w2⟩⟩
theorem openApp {H : Type} {enc : TypeId × Value → H} {W : World} {b0 : Nat} {r : Reach} {v : Value} {d : DataW H} {p : List MemPlace}
    (hv : Value.okWide Tryz.prog W r b0 90 v) (h : DataW.Trod enc Tryz.prog W 0 (fun _ => true) true 90 v d p) : ∃ x : XApp, v = valApp x ∧ okApp W x := by
  obtain ⟨cs, rfl, hsz⟩ := okWide_struct Tryz.underlying90 hv
  obtain ⟨fuel, hf⟩ := h
  obtain ⟨x, hx, ho⟩ := opencApp hf
  obtain ⟨l⟩ := cs
  simp only [Value.cells] at hx
  subst hx
  exact ⟨x, rfl, ho⟩
def RowApp (W : World) (ao : Option Addr) (l : List XApp) : Prop :=
  (l = [] ∨ ∃ b off, ao = some ⟨b, off, none⟩ ∧ b < W.heap.size ∧ ∀ i x, l[i]? = some x → W.cell? ⟨b, off + i * 4, none⟩ = some (.string x.name) ∧ W.cell? ⟨b, off + i * 4 + 1, none⟩ = some (.string x.label) ∧ W.cell? ⟨b, off + i * 4 + 2, none⟩ = some (.int .i64 x.prio) ∧ W.cell? ⟨b, off + i * 4 + 3, none⟩ = some (.bool x.confirm)) ∧ (∀ x ∈ l, okApp W x) ∧ l.length ≤ maxLen
theorem RowApp.below {W W' : World} {ao : Option Addr} {l : List XApp} (h : RowApp W ao l) (hb : Below W.heap.size W W') : RowApp W' ao l := by
  obtain ⟨h, ho, hm⟩ := h
  refine ⟨?_, fun x hx => (ho x hx).below hb, hm⟩
  rcases h with h | ⟨b, off, e, hlt, hc⟩
  · exact .inl h
  · refine .inr ⟨b, off, e, Nat.lt_of_lt_of_le hlt hb.size, fun i s hi => ?_⟩
    obtain ⟨c0, c1, c2, c3⟩ := hc i s hi
    exact ⟨(hb.cell (p := ⟨b, off + i * 4, none⟩) hlt).trans c0, (hb.cell (p := ⟨b, off + i * 4 + 1, none⟩) hlt).trans c1, (hb.cell (p := ⟨b, off + i * 4 + 2, none⟩) hlt).trans c2, (hb.cell (p := ⟨b, off + i * 4 + 3, none⟩) hlt).trans c3⟩
theorem cellsOfSlApp : Tryz.prog.cellsOf 23 = 1 := by kernel_rfl
theorem openrApp {H : Type} {enc : TypeId × Value → H} {W : World} {k : Nat} {cs : List Value} {y : DataW H × List MemPlace}
    (h : DataW.trod enc Tryz.prog W 0 (fun _ => true) true k 23 cs = some y) :
    ∃ (ao : Option Addr) (l : List XApp) (cap : Nat), cs = [.slice ao l.length cap] ∧ RowApp W ao l ∧ l.length ≤ cap ∧ (l = [] ∨ ∃ es ss, y.1 = .slice es ss ∧ es.length = l.length) := by
  rcases open_slice Tryz.underlying23 h with ⟨rfl, rfl⟩ | ⟨a, len, cap, mm, nn, D, Pl, rfl, _, hl, hm, hmm, hx, hel⟩
  · exact ⟨none, [], 0, rfl, ⟨.inl rfl, by simp, by simp⟩, Nat.le_refl _, .inl rfl⟩
  · simp only [if_true] at hmm
    rw [cellsOfApp] at hel
    obtain ⟨F, hF⟩ := choose_lt (α := XApp) (n := mm) (p := fun i x => (W.cell? ((a.add (i * 4)).add 0) = some (.string x.name) ∧ W.cell? ((a.add (i * 4)).add 1) = some (.string x.label) ∧ W.cell? ((a.add (i * 4)).add 2) = some (.int .i64 x.prio) ∧ W.cell? ((a.add (i * 4)).add 3) = some (.bool x.confirm)) ∧ okApp W x) (fun i hi => by
      obtain ⟨cs', h1, h2⟩ := hel i hi
      obtain ⟨x, rfl, hok⟩ := opencApp h2
      obtain ⟨_, _, hc⟩ := World.cells?_some h1
      exact ⟨x, ⟨hc 0 (by omega), hc 1 (by omega), hc 2 (by omega), hc 3 (by omega)⟩, hok⟩)
    refine ⟨some a, (List.range len).map F, cap, by simp, ⟨?_, ?_, by rw [List.length_map, List.length_range]; omega⟩, by rw [List.length_map, List.length_range]; exact hl, .inr ⟨_, _, by rw [hx], by simp⟩⟩
    · by_cases hl0 : len = 0
      · subst hl0; exact .inl rfl
      · obtain ⟨b, off, spot⟩ := a
        have hc0 := (hF 0 (by omega)).1.1
        have hspot : spot = none := by simpa [Addr.add] using World.cell?_spot hc0
        subst hspot
        refine .inr ⟨b, off, rfl, by simpa [Addr.add] using cell_ltR hc0, fun i x hi => ?_⟩
        have hi' : i < len := by
          rcases Nat.lt_or_ge i len with h | h
          · exact h
          · rw [List.getElem?_eq_none (by simpa using h)] at hi; cases hi
        rw [List.getElem?_map, List.getElem?_range hi'] at hi
        obtain rfl : F i = x := by simpa using hi
        have := (hF i (by omega)).1
        simp only [WideShapes.add_plain, Nat.add_zero] at this
        exact this
    · intro x hx
      obtain ⟨i, hi, rfl⟩ := List.mem_map.1 hx
      exact (hF i (by have : i < len := by simpa using hi
                      omega)).2
theorem openRApp {H : Type} {enc : TypeId × Value → H} {W : World} {b0 : Nat} {r : Reach} {v : Value} {d : DataW H} {p : List MemPlace}
    (hv : Value.okWide Tryz.prog W r b0 23 v) (h : DataW.Trod enc Tryz.prog W 0 (fun _ => true) true 23 v d p) : ∃ (ao : Option Addr) (l : List XApp) (cap : Nat), v = .slice ao l.length cap ∧ RowApp W ao l ∧ (l = [] ∨ ∃ es ss, d = .slice es ss ∧ es.length = l.length) := by
  obtain ⟨a0, len, cap, rfl⟩ := okWide_slice Tryz.underlying23 hv
  obtain ⟨fuel, hf⟩ := h
  obtain ⟨ao, l, cap', hx, hr, _, hd⟩ := openrApp hf
  simp [Value.cells] at hx
  obtain ⟨rfl, rfl, rfl⟩ := hx
  exact ⟨_, l, _, rfl, hr, hd⟩
structure XKnown where
  name : ByteArray
  part : Bool
deriving Inhabited
def valKnown (x : XKnown) : Value := .agg #[.string x.name, .bool x.part]
def okKnown (W : World) (x : XKnown) : Prop := x.name.size ≤ maxLen
theorem okKnown.below {W W' : World} {x : XKnown} (h : okKnown W x) (hb : Below W.heap.size W W') : okKnown W' x := by
  exact h
def RowKnown (W : World) (ao : Option Addr) (l : List XKnown) : Prop :=
  (l = [] ∨ ∃ b off, ao = some ⟨b, off, none⟩ ∧ b < W.heap.size ∧ ∀ i x, l[i]? = some x → W.cell? ⟨b, off + i * 2, none⟩ = some (.string x.name) ∧ W.cell? ⟨b, off + i * 2 + 1, none⟩ = some (.bool x.part)) ∧ (∀ x ∈ l, okKnown W x) ∧ l.length ≤ maxLen
theorem RowKnown.below {W W' : World} {ao : Option Addr} {l : List XKnown} (h : RowKnown W ao l) (hb : Below W.heap.size W W') : RowKnown W' ao l := by
  obtain ⟨h, ho, hm⟩ := h
  refine ⟨?_, fun x hx => (ho x hx).below hb, hm⟩
  rcases h with h | ⟨b, off, e, hlt, hc⟩
  · exact .inl h
  · refine .inr ⟨b, off, e, Nat.lt_of_lt_of_le hlt hb.size, fun i s hi => ?_⟩
    obtain ⟨c0, c1⟩ := hc i s hi
    exact ⟨(hb.cell (p := ⟨b, off + i * 2, none⟩) hlt).trans c0, (hb.cell (p := ⟨b, off + i * 2 + 1, none⟩) hlt).trans c1⟩
end Go.Proofs.YtfpglpefofcdeaaGreatDoor
namespace Go.Proofs.YtfpglpefofcdeaaGreatDoor
open Go.RowKit Go.WideMaps Go.Maps
set_option linter.unusedVariables false

theorem lawS : Keyed Tryz.prog 9 := string_keyed Tryz.underlying9
theorem zeroI (w : World) : (zeroValue 3).run Tryz.prog w = .ok (.int .i64 0) w := by kernel_rfl

/-- the names, as bytes -/
def namesL (l : List XApp) : List (List UInt8) := l.map (fun a => a.name.data.toList)
/-- is one of the first k there ahead of itself? -/
def dupTo (ns : List (List UInt8)) : Nat → Bool
  | 0 => false
  | k + 1 => dupTo ns k || (ns.take k).contains (ns.getD k [])

set_option maxRecDepth 100000 in
set_option maxHeartbeats 2000000 in
theorem countNames_any (l : List XApp) (ao : Option Addr) (cap : Nat) (w : World) (hl : RowApp w ao l) (h20 : l.length ≤ 20) :
    Calls Tryz.prog 110 #[.slice ao l.length cap] w fun e w' => (∃ c : Nat, e = .returned (.int .i64 c) ∧ decide (c < l.length) = dupTo (namesL l) l.length) ∧ Below w.heap.size w w' := by
  have hmm := @run_makeMap Tryz.prog
  have HL := hide hl
  clear hl
  go_enter Tryz.func110, Tryz.ntmps110
  go_wp2
  go_loopw [9] (fun i wr => ∃ (k : Nat) (D : DataW Unit), k ≤ l.length ∧ i = .int .i64 k ∧ wr.ownsMap Tryz.prog 9 (plainElem Tryz.prog 3) w.heap.size k D ∧ Hid ((∀ x, has D (.string x) = ((namesL l).take k).contains x) ∧ size D ≤ k ∧ decide (size D < k) = dupTo (namesL l) k) ∧ Below w.heap.size w wr)
    (fun i _ => l.length - (intOf i).toNat)
  case atStart => exact ⟨0, .map [], Nat.zero_le _, rfl, World.ownsMap_made _ _ _ _, hide ⟨fun x => rfl, Nat.zero_le _, rfl⟩, (Below.refl _ _).alloc (Nat.le_refl _) _⟩
  case round =>
    obtain ⟨k, D, hk, rfl, hown, HD, hnx⟩ := hrel
    by_cases hlt : k < l.length
    · obtain ⟨x, hx⟩ : ∃ x, l[k]? = some x := ⟨_, List.getElem?_eq_getElem hlt⟩
      obtain ⟨hrr, hok, _⟩ := (unhide HL).below hnx
      have hxs : x.name.size ≤ maxLen := (hok x (List.mem_of_getElem? hx)).1
      rcases hrr with hnil | ⟨b, off, rfl, hb, hc⟩
      · rw [hnil] at hlt; simp at hlt
      obtain ⟨d0, d1, d2, d3⟩ := hc k x hx
      have hkey : keyOf Tryz.prog 9 (.string x.name) = some (.string x.name.data.toList) := keyOf_string_mk Tryz.underlying9 hxs
      have hown2 := hown.alloc (Obj.cells #[.string x.name, .string x.label, .int .i64 x.prio, .bool x.confirm] 90)
      obtain ⟨c, hrun, hat, _⟩ := hown2.lookup_int lawS Tryz.underlying177 Tryz.underlying3 (zeroI _) hkey
      have hgd : (namesL l).getD k [] = x.name.data.toList := by
        simp [namesL, hx]
      have htk : (namesL l).take (k + 1) = (namesL l).take k ++ [x.name.data.toList] := by
        have hkl : k < (namesL l).length := by simpa [namesL] using hlt
        rw [List.take_succ_eq_append_getElem hkl]
        congr 2
        rw [← hgd, List.getD_eq_getElem?_getD, List.getElem?_eq_getElem hkl]; rfl
      have hnx2 := hnx.alloc hnx.size (Obj.cells #[.string x.name, .string x.label, .int .i64 x.prio, .bool x.confirm] 90)
      have HX := hide hx; have HG := hide hgd; have HT := hide htk
      have htidy := hown2.tidy lawS
      clear hc hx hgd htk hok hat
      go_wp2_with (first
        | (at_mapUpdate; refine wpList_mapUpdate_own _ rfl _ _ _ 177 rfl 9 3 lawS Tryz.underlying177 _ w.heap.size k _ rfl hown2 (by unfold maxLen; omega) _ _ _ rfl rfl hkey _ [] (plainElem_int Tryz.underlying3 (wrap64_wf _)) ?_))
      intro w1 hown1 hgrow1
      obtain ⟨i1, i2, i3⟩ := unhide HD
      have R1 : Hid ((∀ y, has (D.put (.string x.name.data.toList) (.lit (.int .i64 (wrap64 (c + 1))))) (.string y) = ((namesL l).take (k + 1)).contains y) ∧ size (D.put (.string x.name.data.toList) (.lit (.int .i64 (wrap64 (c + 1))))) ≤ k + 1 ∧ decide (size (D.put (.string x.name.data.toList) (.lit (.int .i64 (wrap64 (c + 1))))) < k + 1) = dupTo (namesL l) (k + 1)) := hide (by
        have hsz := size_put htidy (k := .string x.name.data.toList) (.lit (.int .i64 (wrap64 (c + 1))))
        refine ⟨fun y => ?_, ?_, ?_⟩
        · rw [unhide HT]
          by_cases hy : y = x.name.data.toList
          · subst hy
            rw [has_put_same htidy.isMap (by trivial)]
            simp
          · rw [has_put_other (by intro h; exact hy (by injection h)), i1 y]
            simp [hy]
        · rw [hsz]; split <;> omega
        · rw [hsz, dupTo, unhide HG, ← i1, ← i3]
          cases has D (.string x.name.data.toList)
          · simp
          · simp; omega)
      have R2 := hnx2.grown hgrow1 hnx2.size (fun j hj => by cases hj; exact Nat.le_refl _)
      clear hgrow1 hrun i1 i2 i3 HD htidy d0 d1 d2 d3 hown hnx hnx2 hown2
      go_wp2
      go_roundw
      case rel => exact ⟨k + 1, _, by omega, by go_num, hown1, R1, R2⟩
      case measure => simp [intOf]; omega
    · have hkl : k = l.length := by omega
      obtain ⟨i1, i2, i3⟩ := unhide HD
      have HI := hide i3
      have hln := fun ty => hown.len Tryz.underlying177 ty
      clear i1 i2 i3 HD hown
      go_wp2
      go_ret
      exact ⟨⟨_, rfl, by rw [← hkl]; exact unhide HI⟩, hnx⟩
end Go.Proofs.YtfpglpefofcdeaaGreatDoor
namespace Go.Proofs.YtfpglpefofcdeaaGreatDoor
open Go.RowKit
set_option linter.unusedVariables false

theorem anyP_take_succ {α : Type} (l : List α) (p : α → Bool) (k : Nat) (y : α) (h : l[k]? = some y) : (l.take (k + 1)).any p = ((l.take k).any p || p y) := by
  obtain ⟨hk, rfl⟩ := List.getElem?_eq_some_iff.1 h
  rw [List.take_succ_eq_append_getElem hk, List.any_append]
  simp
theorem anyP_of_take {α : Type} (l : List α) (p : α → Bool) (k : Nat) (h : (l.take k).any p = true) : l.any p = true := by
  have e := List.take_append_drop k l
  rw [← e, List.any_append, h, Bool.true_or]

def misB (x : XApp) : Bool := decide (x.name.size < 5 ∨ 16 < x.name.size ∨ x.label.size = 0 ∨ 64 < x.label.size)
def prioB (x : XApp) : Bool := decide (x.prio < 0 ∨ 15 < x.prio)
def knoB (x : XKnown) : Bool := decide (x.name.size = 0 ∨ 16 < x.name.size)
theorem empty_iff (s : ByteArray) : s.toList.isEmpty = decide (s.size = 0) := by
  rw [Lib.toList_data]
  have e : s.size = s.data.toList.length := by simp
  rw [e]
  generalize s.data.toList = m
  cases m <;> simp

set_option maxHeartbeats 1000000 in
theorem mis_any (x : XApp) (w : World) :
    Calls Tryz.prog 108 #[valApp x] w fun e w' => e = .returned (.bool (misB x)) ∧ Below w.heap.size w w' := by
  obtain ⟨nm, lb, pr, cf⟩ := x
  have he := empty_iff lb
  have hbx := fun o : Obj => (Below.refl w.heap.size w).alloc (Nat.le_refl _) o
  have HB := hide hbx
  clear hbx
  unfold valApp
  simp only
  have hcase : nm.size < 5 ∨ (5 ≤ nm.size ∧ 16 < nm.size) ∨ (5 ≤ nm.size ∧ nm.size ≤ 16 ∧ lb.size = 0) ∨ (5 ≤ nm.size ∧ nm.size ≤ 16 ∧ lb.size ≠ 0) := by omega
  rcases hcase with h1 | ⟨h1, h2⟩ | ⟨h1, h2, h3⟩ | ⟨h1, h2, h3⟩
  · have HM : Hid (misB ⟨nm, lb, pr, cf⟩ = true) := hide (decide_eq_true (.inl h1))
    clear he
    go_enter Tryz.func108, Tryz.ntmps108
    go_wp2
    go_ret
    exact ⟨ret_bool (unhide HM).symm, unhide HB _⟩
  · have HM : Hid (misB ⟨nm, lb, pr, cf⟩ = true) := hide (decide_eq_true (.inr (.inl h2)))
    clear he
    go_enter Tryz.func108, Tryz.ntmps108
    go_wp2
    go_ret
    exact ⟨ret_bool (unhide HM).symm, unhide HB _⟩
  · have HM : Hid (misB ⟨nm, lb, pr, cf⟩ = true) := hide (decide_eq_true (.inr (.inr (.inl h3))))
    rw [decide_eq_true h3] at he
    have H3 := hide h3
    clear h3
    go_enter Tryz.func108, Tryz.ntmps108
    go_wp2
    go_ret
    exact ⟨ret_bool (unhide HM).symm, unhide HB _⟩
  · have HM : Hid (misB ⟨nm, lb, pr, cf⟩ = decide (64 < lb.size)) := hide (decide_eq_decide.2 (by show (nm.size < 5 ∨ 16 < nm.size ∨ lb.size = 0 ∨ 64 < lb.size) ↔ 64 < lb.size; omega))
    rw [decide_eq_false h3] at he
    have H3 := hide h3
    clear h3
    go_enter Tryz.func108, Tryz.ntmps108
    go_wp2
    go_ret
    exact ⟨ret_bool (by rw [unhide HM, Bool.eq_iff_iff]; simp; try omega), unhide HB _⟩
theorem prio_any (x : XApp) (w : World) :
    Calls Tryz.prog 109 #[valApp x] w fun e w' => e = .returned (.bool (prioB x)) ∧ Below w.heap.size w w' := by
  obtain ⟨nm, lb, pr, cf⟩ := x
  have hbx := fun o : Obj => (Below.refl w.heap.size w).alloc (Nat.le_refl _) o
  have HB := hide hbx
  clear hbx
  unfold valApp
  simp only
  by_cases h1 : pr < 0
  · have HM : Hid (prioB ⟨nm, lb, pr, cf⟩ = true) := hide (decide_eq_true (.inl h1))
    go_enter Tryz.func109, Tryz.ntmps109
    go_wp2
    go_ret
    exact ⟨ret_bool (unhide HM).symm, unhide HB _⟩
  · have HM : Hid (prioB ⟨nm, lb, pr, cf⟩ = decide (15 < pr)) := hide (by unfold prioB; rw [Bool.eq_iff_iff]; simp; omega)
    go_enter Tryz.func109, Tryz.ntmps109
    go_wp2
    go_ret
    exact ⟨ret_bool (unhide HM).symm, unhide HB _⟩

set_option maxHeartbeats 1000000 in
theorem indexmis_any (l : List XApp) (ao : Option Addr) (cap : Nat) (w : World) (hr : RowApp w ao l) :
    Calls Tryz.prog 129 #[.slice ao l.length cap, .func (.func 108) #[] #[]] w fun e w' => (∃ v : Int, e = .returned (.int .i64 v) ∧ decide (0 ≤ v) = l.any misB) ∧ Below w.heap.size w w' := by
  obtain ⟨hr, _, hm⟩ := hr
  go_enter Tryz.func129, Tryz.ntmps129
  go_wp2
  go_loopw [8] (fun i wr => ∃ k : Nat, k ≤ l.length ∧ i = .int .i64 k ∧ Hid ((l.take k).any misB = false) ∧ Below w.heap.size w wr) (fun i _ => l.length - (intOf i).toNat)
  case atStart => exact ⟨0, Nat.zero_le _, rfl, hide (by simp), Below.refl _ _⟩
  case round =>
    obtain ⟨k, hk, rfl, HA, hbw⟩ := hrel
    by_cases hlt : k < l.length
    · obtain ⟨y, hy⟩ : ∃ y, l[k]? = some y := ⟨_, List.getElem?_eq_getElem hlt⟩
      rcases hr with hnil | ⟨b, off, rfl, hb, hc⟩
      · rw [hnil] at hlt; simp at hlt
      obtain ⟨c0, c1, c2, c3⟩ := hc k y hy
      have d0 : wr.cell? ⟨b, off + k * 4, none⟩ = _ := (hbw.cell (p := ⟨b, off + k * 4, none⟩) hb).trans c0
      have d1 : wr.cell? ⟨b, off + k * 4 + 1, none⟩ = _ := (hbw.cell (p := ⟨b, off + k * 4 + 1, none⟩) hb).trans c1
      have d2 : wr.cell? ⟨b, off + k * 4 + 2, none⟩ = _ := (hbw.cell (p := ⟨b, off + k * 4 + 2, none⟩) hb).trans c2
      have d3 : wr.cell? ⟨b, off + k * 4 + 3, none⟩ = _ := (hbw.cell (p := ⟨b, off + k * 4 + 3, none⟩) hb).trans c3
      have hs := anyP_take_succ l misB k y hy
      rw [unhide HA, Bool.false_or] at hs
      have hml : l.length ≤ 9223372036854775807 := by simpa [maxLen] using hm
      have n1 := mis_any y wr
      clear hc hm c0 c1 c2 c3
      unfold valApp at n1
      cases he : misB y with
      | true =>
        have HF := hide (anyP_of_take l misB (k + 1) (hs.trans he))
        rw [he] at n1
        have N1 := hide n1
        clear hs hy n1 he
        go_wp2_with fail
        refine (unhide N1).mono ?_
        rintro e w1 ⟨rfl, hb1⟩
        go_wp2
        go_ret
        exact ⟨⟨_, rfl, by rw [unhide HF]; simp⟩, hbw.trans (hb1.mono hbw.size)⟩
      | false =>
        have HS : Hid ((l.take (k + 1)).any misB = false) := hide (hs.trans he)
        rw [he] at n1
        have N1 := hide n1
        clear hs hy n1 he
        go_wp2_with fail
        refine (unhide N1).mono ?_
        rintro e w1 ⟨rfl, hb1⟩
        go_wp2
        go_roundw
        case rel => exact ⟨k + 1, by omega, by go_num, HS, hbw.trans (hb1.mono hbw.size)⟩
        case measure => simp [intOf]; omega
    · have HF : Hid (l.any misB = false) := hide (by have := unhide HA; rw [List.take_of_length_le (by omega)] at this; exact this)
      go_wp2
      go_ret
      exact ⟨⟨_, rfl, by rw [unhide HF]; rfl⟩, hbw⟩
theorem containsmis_any (l : List XApp) (ao : Option Addr) (cap : Nat) (w : World) (hr : RowApp w ao l) :
    Calls Tryz.prog 107 #[.slice ao l.length cap, .func (.func 108) #[] #[]] w fun e w' => e = .returned (.bool (l.any misB)) ∧ Below w.heap.size w w' := by
  have N1 := hide (indexmis_any l ao cap w hr)
  clear hr
  generalize l.any misB = q at *
  go_enter Tryz.func107, Tryz.ntmps107
  go_wp2_with fail
  refine (unhide N1).mono ?_
  rintro e w1 ⟨⟨v, rfl, hv⟩, hb1⟩
  have HV := hide hv
  clear hv
  go_wp2
  go_ret
  exact ⟨ret_bool (unhide HV), hb1⟩

set_option maxHeartbeats 1000000 in
theorem indexprio_any (l : List XApp) (ao : Option Addr) (cap : Nat) (w : World) (hr : RowApp w ao l) :
    Calls Tryz.prog 129 #[.slice ao l.length cap, .func (.func 109) #[] #[]] w fun e w' => (∃ v : Int, e = .returned (.int .i64 v) ∧ decide (0 ≤ v) = l.any prioB) ∧ Below w.heap.size w w' := by
  obtain ⟨hr, _, hm⟩ := hr
  go_enter Tryz.func129, Tryz.ntmps129
  go_wp2
  go_loopw [8] (fun i wr => ∃ k : Nat, k ≤ l.length ∧ i = .int .i64 k ∧ Hid ((l.take k).any prioB = false) ∧ Below w.heap.size w wr) (fun i _ => l.length - (intOf i).toNat)
  case atStart => exact ⟨0, Nat.zero_le _, rfl, hide (by simp), Below.refl _ _⟩
  case round =>
    obtain ⟨k, hk, rfl, HA, hbw⟩ := hrel
    by_cases hlt : k < l.length
    · obtain ⟨y, hy⟩ : ∃ y, l[k]? = some y := ⟨_, List.getElem?_eq_getElem hlt⟩
      rcases hr with hnil | ⟨b, off, rfl, hb, hc⟩
      · rw [hnil] at hlt; simp at hlt
      obtain ⟨c0, c1, c2, c3⟩ := hc k y hy
      have d0 : wr.cell? ⟨b, off + k * 4, none⟩ = _ := (hbw.cell (p := ⟨b, off + k * 4, none⟩) hb).trans c0
      have d1 : wr.cell? ⟨b, off + k * 4 + 1, none⟩ = _ := (hbw.cell (p := ⟨b, off + k * 4 + 1, none⟩) hb).trans c1
      have d2 : wr.cell? ⟨b, off + k * 4 + 2, none⟩ = _ := (hbw.cell (p := ⟨b, off + k * 4 + 2, none⟩) hb).trans c2
      have d3 : wr.cell? ⟨b, off + k * 4 + 3, none⟩ = _ := (hbw.cell (p := ⟨b, off + k * 4 + 3, none⟩) hb).trans c3
      have hs := anyP_take_succ l prioB k y hy
      rw [unhide HA, Bool.false_or] at hs
      have hml : l.length ≤ 9223372036854775807 := by simpa [maxLen] using hm
      have n1 := prio_any y wr
      clear hc hm c0 c1 c2 c3
      unfold valApp at n1
      cases he : prioB y with
      | true =>
        have HF := hide (anyP_of_take l prioB (k + 1) (hs.trans he))
        rw [he] at n1
        have N1 := hide n1
        clear hs hy n1 he
        go_wp2_with fail
        refine (unhide N1).mono ?_
        rintro e w1 ⟨rfl, hb1⟩
        go_wp2
        go_ret
        exact ⟨⟨_, rfl, by rw [unhide HF]; simp⟩, hbw.trans (hb1.mono hbw.size)⟩
      | false =>
        have HS : Hid ((l.take (k + 1)).any prioB = false) := hide (hs.trans he)
        rw [he] at n1
        have N1 := hide n1
        clear hs hy n1 he
        go_wp2_with fail
        refine (unhide N1).mono ?_
        rintro e w1 ⟨rfl, hb1⟩
        go_wp2
        go_roundw
        case rel => exact ⟨k + 1, by omega, by go_num, HS, hbw.trans (hb1.mono hbw.size)⟩
        case measure => simp [intOf]; omega
    · have HF : Hid (l.any prioB = false) := hide (by have := unhide HA; rw [List.take_of_length_le (by omega)] at this; exact this)
      go_wp2
      go_ret
      exact ⟨⟨_, rfl, by rw [unhide HF]; rfl⟩, hbw⟩
theorem containsprio_any (l : List XApp) (ao : Option Addr) (cap : Nat) (w : World) (hr : RowApp w ao l) :
    Calls Tryz.prog 107 #[.slice ao l.length cap, .func (.func 109) #[] #[]] w fun e w' => e = .returned (.bool (l.any prioB)) ∧ Below w.heap.size w w' := by
  have N1 := hide (indexprio_any l ao cap w hr)
  clear hr
  generalize l.any prioB = q at *
  go_enter Tryz.func107, Tryz.ntmps107
  go_wp2_with fail
  refine (unhide N1).mono ?_
  rintro e w1 ⟨⟨v, rfl, hv⟩, hb1⟩
  have HV := hide hv
  clear hv
  go_wp2
  go_ret
  exact ⟨ret_bool (unhide HV), hb1⟩

/-- what is wrong with applications -/
def appsE (l : List XApp) : Int := if 20 < l.length then 2 else bif l.any misB then 1 else bif l.any prioB then 3 else bif dupTo (namesL l) l.length then 6 else 0

set_option maxHeartbeats 1000000 in
theorem check_any (l : List XApp) (ao : Option Addr) (cap : Nat) (w : World) (hr : RowApp w ao l) :
    Calls Tryz.prog 67 #[.slice ao l.length cap] w fun e w' => e = .returned (.int .i64 (appsE l)) ∧ Below w.heap.size w w' := by
  have n1 := fun w' (hb : Below w.heap.size w w') => containsmis_any l ao cap w' (hr.below hb)
  have n2 := fun w' (hb : Below w.heap.size w w') => containsprio_any l ao cap w' (hr.below hb)
  have n3 := fun (h : l.length ≤ 20) w' (hb : Below w.heap.size w w') => countNames_any l ao cap w' (hr.below hb) h
  clear hr
  by_cases hl : 20 < l.length
  · have HE : Hid (appsE l = 2) := hide (by rw [appsE, if_pos hl])
    clear n1 n2 n3
    go_enter Tryz.func67, Tryz.ntmps67
    go_wp2
    go_ret
    exact ⟨ret_int (unhide HE).symm, Below.refl _ _⟩
  · have hl' : l.length ≤ 20 := by omega
    have HE : Hid (appsE l = bif l.any misB then 1 else bif l.any prioB then 3 else bif dupTo (namesL l) l.length then 6 else 0) := hide (by rw [appsE, if_neg hl])
    have n3' := n3 hl'
    generalize l.any misB = q1 at *
    generalize l.any prioB = q2 at *
    generalize dupTo (namesL l) l.length = q3 at *
    have N1 := hide n1; have N2 := hide n2; have N3 := hide n3'
    clear n1 n2 n3 n3' hl
    cases q1 with
    | true =>
      go_enter Tryz.func67, Tryz.ntmps67
      go_wp2_with fail
      refine (unhide N1 _ (Below.refl _ _)).mono ?_
      rintro e w1 ⟨rfl, hb1⟩
      go_wp2
      go_ret
      exact ⟨ret_int (unhide HE).symm, hb1⟩
    | false =>
      cases q2 with
      | true =>
        go_enter Tryz.func67, Tryz.ntmps67
        go_wp2_with fail
        refine (unhide N1 _ (Below.refl _ _)).mono ?_
        rintro e w1 ⟨rfl, hb1⟩
        go_wp2_with fail
        refine (unhide N2 _ hb1).mono ?_
        rintro e w2 ⟨rfl, hb2⟩
        go_wp2
        go_ret
        exact ⟨ret_int (unhide HE).symm, hb1.trans (hb2.mono hb1.size)⟩
      | false =>
        go_enter Tryz.func67, Tryz.ntmps67
        go_wp2_with fail
        refine (unhide N1 _ (Below.refl _ _)).mono ?_
        rintro e w1 ⟨rfl, hb1⟩
        go_wp2_with fail
        refine (unhide N2 _ hb1).mono ?_
        rintro e w2 ⟨rfl, hb2⟩
        have hb3 := hb1.trans (hb2.mono hb1.size)
        go_wp2_with fail
        refine (unhide N3 _ hb3).mono ?_
        rintro e w3 ⟨⟨c, rfl, hc⟩, hb4⟩
        have HBB := hide (hb3.trans (hb4.mono hb3.size))
        clear hb1 hb2 hb3 hb4
        by_cases hlt : c < l.length
        · rw [decide_eq_true hlt] at hc
          subst hc
          go_wp2
          go_ret
          exact ⟨ret_int (unhide HE).symm, unhide HBB⟩
        · rw [decide_eq_false hlt] at hc
          subst hc
          go_wp2
          go_ret
          exact ⟨ret_int (unhide HE).symm, unhide HBB⟩
end Go.Proofs.YtfpglpefofcdeaaGreatDoor
