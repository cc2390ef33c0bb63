/- The library's slices.Delete at this program: the table of numbers, that the library's text lies there, and what it does to a row that is owned. -/
import Derived.Shelf.Slices.Delete
import Derived.Sort.OwnSorted
import Derived.Test.YthchicolifkpiaaDoorEndK
namespace Go.Proofs
open Go.Shelf
def Tryd.laysNm224_ren : Go.Shelf.Ren := ⟨fun | 24 => 36 | n => n, fun | 24 => 25 | 9 => 9 | 3 => 3 | 4 => 4 | 0 => 0 | n => n, fun | n => n⟩
theorem Tryd.laysNm224 : Go.Proofs.Lays2.n24 Tryd.prog Tryd.laysNm224_ren := {
  mixed := by kernel_rfl
  f24 := Tryd.func36.trans (congrArg some (by kernel_rfl))
  t0 := Tryd.underlying0
  a0 := Tryd.isAgg0
  z0 := Tryd.sizeOf0
  v0 := Tryd.zeroValue0
  t3 := Tryd.underlying3
  a3 := Tryd.isAgg3
  z3 := Tryd.sizeOf3
  v3 := Tryd.zeroValue3
  t4 := Tryd.underlying4
  a4 := Tryd.isAgg4
  z4 := Tryd.sizeOf4
  v4 := Tryd.zeroValue4
  t9 := Tryd.underlying9
  a9 := Tryd.isAgg9
  z9 := Tryd.sizeOf9
  v9 := Tryd.zeroValue9
  t24 := Tryd.underlying25
  a24 := Tryd.isAgg25
  z24 := Tryd.sizeOf25
  v24 := Tryd.zeroValue25
  i9 := by kernel_rfl }
end Go.Proofs
namespace Go.Proofs.YthchicolifkpiaaDoor
open Go.RowKit Go.Lib Go.Sort
set_option linter.unusedVariables false

theorem own_shorten {w : World} {base g n cap : Nat} {e : TypeId} {xs : List Value} {x : Value} (h : w.ownsRow base e 1 (.slice (some ⟨g, 0, none⟩) (n + 1) cap) (n + 1) (xs ++ [x])) : w.ownsRow base e 1 (.slice (some ⟨g, 0, none⟩) n cap) n xs := by
  rcases h with ⟨h1, h2⟩
  have hl : xs.length = n := by simpa using h1
  refine ⟨by simpa using hl, ?_⟩
  rcases h2 with ⟨h2, _⟩ | ⟨g', cap', cur, h3, h4, h5, h6, h7, h8, h9⟩
  · cases h2
  · cases h3
    refine .inr ⟨g, cap, cur, rfl, h4, h5, by omega, h7, h8, ?_⟩
    have h10 : (cur.toList.take ((n + 1) * 1)).take n = (xs ++ [x]).take n := by rw [h9]
    rw [List.take_take, Nat.min_eq_left (by omega)] at h10
    rw [Nat.mul_one, h10]
    exact hl ▸ List.take_left
theorem enc_texts (l : List ByteArray) : (l.map fun x : ByteArray => x.data.toList).map encStr = cellsT l := by
  simp [cellsT]
theorem delete_any (w : World) (base g cap : Nat) (s : ByteArray) (r : List ByteArray) (h : w.ownsRow base 9 1 (.slice (some ⟨g, 0, none⟩) (r.length + 1) cap) (r.length + 1) (cellsT (s :: r))) :
    Calls Tryd.prog 36 #[.slice (some ⟨g, 0, none⟩) (r.length + 1) cap, .int .i64 0, .int .i64 1] w fun e w' => e = .returned (.slice (some ⟨g, 0, none⟩) r.length cap) ∧ w'.ownsRow base 9 1 (.slice (some ⟨g, 0, none⟩) r.length cap) r.length (cellsT r) ∧ w.grownBy w' (some g) := by
  rcases h.2 with ⟨h2, _⟩ | ⟨g', cap', cur, h3, h4, h5, h6, h7, h8, h9⟩
  · cases h2
  cases h3
  have hH : Holds encStr w g 0 ((s :: r).map fun x : ByteArray => x.data.toList).toArray := holds_of_block h5 (by
    rw [enc_texts, List.length_map, List.length_cons]
    rw [Nat.mul_one] at h9
    exact h9)
  have hm : cap ≤ 9223372036854775807 := by unfold maxLen at h7; omega
  have h0 := Any.slices_Delete_string Tryd.laysNm224 g 0 cap 0 1 ((s :: r).map fun x : ByteArray => x.data.toList) w hH (by simpa using h6) hm (by omega) (by simp)
  rw [List.length_map, List.length_cons] at h0
  refine Calls.mono h0 ?_
  rintro e w' ⟨rfl, q, rfl⟩
  have hz : ((((s :: r).map fun x : ByteArray => x.data.toList).take 0) ++ (((s :: r).map fun x : ByteArray => x.data.toList).drop 1) ++ List.replicate (1 - 0) []) = (r.map fun x : ByteArray => x.data.toList) ++ [[]] := by simp
  rw [hz]
  have hown := ownsRow_sorted (w := w) (base := base) (g := g) (cap := cap) (n := q) (e := 9) (os := #[]) (cur := cur) (ss := (s :: r).map fun x : ByteArray => x.data.toList) (ts := (r.map fun x : ByteArray => x.data.toList) ++ [[]]) (by simp) h4 h5 (by simpa using h6) h7 h8
  have hgr := grownBy_sorted (w := w) (g := g) (n := q) (os := #[]) ((r.map fun x : ByteArray => x.data.toList) ++ [[]]).toArray
  rw [grow_empty] at hown hgr
  rw [List.length_map, List.length_cons, List.map_append, enc_texts] at hown
  exact ⟨by simp, own_shorten hown, hgr⟩
end Go.Proofs.YthchicolifkpiaaDoor
