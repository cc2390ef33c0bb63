/- Items read: plain; lists of items in memory, apart from some blocks. -/
import Derived.Test.YtolicaaifhfhcaaM30
import Derived.Deep.RegionWith
import Derived.Deep.RegionHeld3
import Derived.Deep.DeepCutAuto
import Derived.Test.YtolicaaifhfhcaaM02
namespace Go.Proofs.Ytolicaaifhfhcaa
open Go.RowKit
set_option linter.unusedVariables false

/-- the tag at the beginning -/
def tagAt (s : ByteArray) : Nat := valN (s.data.toList.take (tagSz s.data.toList))
/-- what is behind the first k bytes -/
def behind (s : ByteArray) (k : Nat) : ByteArray := s.extract k s.size
theorem behind_size (s : ByteArray) (k : Nat) : (behind s k).size = s.size - k := by unfold behind; rw [ByteArray.size_extract]; omega
/-- the item at the beginning; P: how its own list is read -/
def itemAt (P : ByteArray → Option (List It)) (s : ByteArray) : Option (It × ByteArray) :=
  if s.size < tagSz s.data.toList then none
  else if validB (tagAt s) = false then none
  else match lenAt (behind s (tagSz s.data.toList)) with
    | none => none
    | some (n, k) =>
      if (behind (behind s (tagSz s.data.toList)) k).size < n then none
      else if madeB (tagAt s) = true then (P ((behind (behind s (tagSz s.data.toList)) k).extract 0 n)).map fun l => (.mk (tagAt s) ⟨#[]⟩ l, behind (behind (behind s (tagSz s.data.toList)) k) n)
      else some (.mk (tagAt s) ((behind (behind s (tagSz s.data.toList)) k).extract 0 n) [], behind (behind (behind s (tagSz s.data.toList)) k) n)
/-- items one behind the other -/
def listP (P : ByteArray → Option (List It)) : Nat → ByteArray → Option (List It)
  | 0, s => if s.size = 0 then some [] else none
  | f + 1, s => if s.size = 0 then some [] else match itemAt P s with | none => none | some (x, r) => (listP P f r).map (x :: ·)
/-- a list that may be d deep -/
def parseD : Nat → ByteArray → Option (List It)
  | 0, s => if s.size = 0 then some [] else none
  | d + 1, s => listP (parseD d) s.size s
theorem item_size {P : ByteArray → Option (List It)} {s : ByteArray} {x : It} {r : ByteArray} (h : itemAt P s = some (x, r)) : r.size < s.size := by
  have h1 := (tagSz_le s.data.toList).1
  unfold itemAt at h
  split at h
  · cases h
  · split at h
    · cases h
    · split at h
      · cases h
      · rename_i n k hl
        have hk := lenAt_lt hl
        rw [behind_size] at hk
        split at h
        · cases h
        · split at h
          · cases hp : P ((behind (behind s (tagSz s.data.toList)) k).extract 0 n) with
            | none => rw [hp] at h; cases h
            | some l =>
              rw [hp] at h
              have := (Prod.ext_iff.1 (Option.some.inj h)).2
              simp only at this
              rw [← this, behind_size, behind_size, behind_size]
              omega
          · have := (Prod.ext_iff.1 (Option.some.inj h)).2
            simp only at this
            rw [← this, behind_size, behind_size, behind_size]
            omega

/-- as IRow, and every block that it lies in is one of A -/
def IRowA (W : World) (A : Nat → Prop) : Nat → Option Addr → List It → Prop
  | 0, _, l => l = []
  | d + 1, ao, l => l = [] ∨ ∃ b off, ao = some ⟨b, off, none⟩ ∧ b < W.heap.size ∧ A b ∧ ∀ i x, l[i]? = some x → IAt W (IRowA W A d) b off i x
theorem IRowA.nil (W : World) (A : Nat → Prop) (d : Nat) (ao : Option Addr) : IRowA W A d ao [] := by
  cases d with
  | zero => rfl
  | succ d => exact .inl rfl
theorem IRowA.row {W : World} {A : Nat → Prop} : ∀ (d : Nat) {ao : Option Addr} {l : List It}, IRowA W A d ao l → IRow W d ao l
  | 0, _, _, h => h
  | d + 1, _, _, h => by
    rcases h with h | ⟨b, off, rfl, hlt, _, hc⟩
    · exact .inl h
    · refine .inr ⟨b, off, rfl, hlt, fun i x hx => ?_⟩
      obtain ⟨co, cc, h1, h2, h3, h4, h5, h6⟩ := hc i x hx
      exact ⟨co, cc, h1, h2, h3, h4, IRowA.row d h5, h6⟩
/-- kept where those blocks are kept -/
theorem IRowA.kept {W W' : World} {A A' : Nat → Prop} (hs : W.heap.size ≤ W'.heap.size) (hk : ∀ b, b < W.heap.size → A b → W'.heap[b]? = W.heap[b]? ∧ A' b) : ∀ (d : Nat) {ao : Option Addr} {l : List It}, IRowA W A d ao l → IRowA W' A' d ao l
  | 0, _, _, h => h
  | d + 1, _, _, h => by
    rcases h with h | ⟨b, off, rfl, hlt, hA, hc⟩
    · exact .inl h
    · obtain ⟨hb, hA'⟩ := hk b hlt hA
      refine .inr ⟨b, off, rfl, Nat.lt_of_lt_of_le hlt hs, hA', fun i x hx => ?_⟩
      obtain ⟨co, cc, h1, h2, h3, h4, h5, h6⟩ := hc i x hx
      exact ⟨co, cc, (World.cell?_of_block (w := W) (w' := W') (a := ⟨b, off + i * 3, none⟩) hb).trans h1, (World.cell?_of_block (w := W) (w' := W') (a := ⟨b, off + i * 3 + 1, none⟩) hb).trans h2, (World.cell?_of_block (w := W) (w' := W') (a := ⟨b, off + i * 3 + 2, none⟩) hb).trans h3, h4, IRowA.kept hs hk d h5, h6⟩
theorem IRowA.below {W W' : World} {A : Nat → Prop} (hb : Below W.heap.size W W') (d : Nat) {ao : Option Addr} {l : List It} (h : IRowA W A d ao l) : IRowA W' A d ao l :=
  IRowA.kept hb.size (fun b hlt hA => ⟨hb.block b hlt, hA⟩) d h
theorem IRowA.mono {W : World} {A A' : Nat → Prop} (hA : ∀ b, b < W.heap.size → A b → A' b) (d : Nat) {ao : Option Addr} {l : List It} (h : IRowA W A d ao l) : IRowA W A' d ao l :=
  IRowA.kept (Nat.le_refl _) (fun b hlt h => ⟨rfl, hA b hlt h⟩) d h
end Go.Proofs.Ytolicaaifhfhcaa
namespace Go.Proofs.Ytolicaaifhfhcaa
open Go.RowKit
set_option linter.unusedVariables false

/-- what a list that was read answers, called in W, in W' -/
def ListRet (W W' : World) (d : Nat) (r : Option (List It)) (e : Ending) : Prop :=
  match r with
  | some l => ∃ ao cap, e = .returned (.tuple #[.slice ao l.length cap, .bool true]) ∧ l.length ≤ cap ∧ IRowA W' (fun b => W.heap.size ≤ b) d ao l
  | none => ∃ v n cap, e = .returned (.tuple #[.slice v n cap, .bool false])
/-- .. and an item -/
def ItemRet (W W' : World) (d : Nat) (r : Option (It × ByteArray)) (e : Ending) : Prop :=
  match r with
  | some (x, s) => ∃ co cc, e = .returned (.tuple #[.agg #[.int .i64 x.tag, .string x.text, .slice co x.list.length cc], .string s, .bool true]) ∧ x.list.length ≤ cc ∧ IRowA W' (fun b => W.heap.size ≤ b) d co x.list
  | none => ∃ (t : Int) (tx : ByteArray) (co : Option Addr) (n cc : Nat) (s : ByteArray), e = .returned (.tuple #[.agg #[.int .i64 t, .string tx, .slice co n cc], .string s, .bool false])


theorem set_block {w : World} {g j : Nat} {cs : Array Value} {e : TypeId} {fr : Nat × Nat} {v : Value} (h : w.heap[g]? = some (.cells cs e fr)) : (w.setCell ⟨g, j, none⟩ v).heap[g]? = some (.cells (cs.setIfInBounds j v) e fr) := by
  simp [World.setCell, Array.getElem?_modify, h]
theorem below_cell {B : Nat} {a w : World} (h : Below B a w) (j : Nat) (u : Value) {g : Nat} (hg : B ≤ g) : Below B a (w.setCell ⟨g, j, none⟩ u) := h.setCell hg u
theorem below_draws {a b : World} (h : Below a.heap.size a b) (q : Nat) : Below a.heap.size a (b.drewN q) := ⟨h.os, h.tape, h.output, h.size, h.block⟩

/-- one world as another, but for one block -/
def SameBut (g : Nat) (w w' : World) : Prop := w'.heap.size = w.heap.size ∧ ∀ b, b ≠ g → w'.heap[b]? = w.heap[b]?
theorem SameBut.refl (g : Nat) (w : World) : SameBut g w w := ⟨rfl, fun _ _ => rfl⟩
theorem SameBut.cell {g : Nat} {w w' : World} (h : SameBut g w w') (j : Nat) (u : Value) : SameBut g w (w'.setCell ⟨g, j, none⟩ u) :=
  ⟨by have := h.1; simpa using this, fun b hb => (Below.heap_setCell _ _ _ _ hb).trans (h.2 b hb)⟩
theorem SameBut.drew {g : Nat} {w w' : World} (h : SameBut g w w') : SameBut g w w'.drew := h
theorem SameBut.drewN {g : Nat} {w w' : World} (h : SameBut g w w') (q : Nat) : SameBut g w (w'.drewN q) := h
theorem IRowA.but {w w' : World} {g B base d : Nat} {ao : Option Addr} {l : List It} (h : IRowA w (fun b => B ≤ b) d ao l) (hs : SameBut g w w') (hg : g < B) (hB : base ≤ B) : IRowA w' (fun b => base ≤ b) d ao l :=
  IRowA.kept (Nat.le_of_eq hs.1.symm) (fun b _ hb => ⟨hs.2 b (by have : B ≤ b := hb; omega), Nat.le_trans hB hb⟩) d h

end Go.Proofs.Ytolicaaifhfhcaa
namespace Go.Proofs.Ytolicaaifhfhcaa
open Go.RowKit
set_option linter.unusedVariables false

/-- what one item gives; G: its own list -/
def stepF (n : Int) (G : List It → Option ByteArray) (x : It) : Option ByteArray := if madeV x.tag = true then G x.list else if x.tag = n then some x.text else none
/-- the text of the first item with a tag -/
def findD (n : Int) : Nat → List It → Option ByteArray
  | 0, _ => none
  | d + 1, l => l.findSome? (stepF n (findD n d))
def foundV (r : Option ByteArray) : Value := .tuple #[.string (r.getD ⟨#[]⟩), .bool r.isSome]

theorem get_of_lt {l : List It} {k : Nat} (h : k < l.length) : ∃ x, l[k]? = some x := ⟨_, List.getElem?_eq_getElem h⟩
theorem find_next {f : It → Option ByteArray} {l : List It} {k : Nat} {x : It} (hx : l[k]? = some x) (h : (l.take k).findSome? f = none) (hf : f x = none) : (l.take (k + 1)).findSome? f = none := by
  have hk : k < l.length := by
    rcases Nat.lt_or_ge k l.length with h | h
    · exact h
    · rw [List.getElem?_eq_none h] at hx; cases hx
  rw [List.getElem?_eq_getElem hk] at hx
  rw [List.take_succ_eq_append_getElem hk, List.findSome?_append, h, Option.some.inj hx]
  simp [hf]
theorem find_here {f : It → Option ByteArray} {l : List It} {k : Nat} {x : It} {t : ByteArray} (hx : l[k]? = some x) (h : (l.take k).findSome? f = none) (hf : f x = some t) : l.findSome? f = some t := by
  have hk : k < l.length := by
    rcases Nat.lt_or_ge k l.length with h | h
    · exact h
    · rw [List.getElem?_eq_none h] at hx; cases hx
  rw [List.getElem?_eq_getElem hk] at hx
  conv => lhs; rw [← List.take_append_drop (k + 1) l]
  rw [List.findSome?_append, List.take_succ_eq_append_getElem hk, List.findSome?_append, h, Option.some.inj hx]
  simp [hf]

theorem ret_found {r : Option ByteArray} {t : ByteArray} {b : Bool} (h1 : r.getD ⟨#[]⟩ = t) (h2 : r.isSome = b) : Ending.returned (.tuple #[.string t, .bool b]) = .returned (foundV r) := by
  unfold foundV; rw [h1, h2]

end Go.Proofs.Ytolicaaifhfhcaa
