/- tagSize of the program. -/
import Derived.Test.YtajkbkljonejnaaGreatDoorM33
import Derived.Test.YtajkbkljonejnaaGreatDoorM00
import Derived.Test.YtajkbkljonejnaaGreatDoorRows
import Derived.Test.YtajkbkljonejnaaGreatDoorM02
import Derived.ProofKit
import Derived.OpenShut
import Derived.Deep.Slices
import Derived.Deep.RegionWith
import Derived.Deep.RegionHeld3
import Derived.Deep.DeepCutAuto
import Derived.Deep.DrawnRows
import Derived.Deep.AppendLies
import Derived.Laws.AppendOwn
import Derived.Laws.AppendOwnNone
import Derived.Deep.CutBlock
namespace Go.Proofs.YtajkbkljonejnaaGreatDoor
open Go.RowKit
set_option linter.unusedVariables false

/-- how many bytes the tag at the beginning has -/
def tagSz (l : List UInt8) : Nat :=
  match l with
  | [] => 1
  | [a] => if a.toNat % 32 = 31 then 2 else 1
  | a :: b :: _ => if a.toNat % 32 = 31 then (if b.toNat < 128 then 2 else 3) else 1
theorem tagSz_le (l : List UInt8) : 1 ≤ tagSz l ∧ tagSz l ≤ 3 := by
  unfold tagSz
  split
  · omega
  · split <;> omega
  · split
    · split <;> omega
    · omega

end Go.Proofs.YtajkbkljonejnaaGreatDoor
namespace Go.Proofs.YtajkbkljonejnaaGreatDoor
open Go.RowKit
set_option linter.unusedVariables false

theorem or_i64 (m b : Nat) (hb : b < 256) (h : (m : Int) * 256 + b ≤ 9223372036854775807) : bits .or .i64 ((m : Int) * 256) b = ((m * 256 + b : Nat) : Int) := by
  rw [bits_join .i64 63 (by decide) wraps_i64 8 _ _ (by omega) (by omega) (by omega) (by omega) (by omega) (by omega)]
  omega


theorem valN_take3 (s : ByteArray) (k : Nat) (hk : k ≤ 3) : valN (s.data.toList.take k) < 16777216 := by
  have h1 : valN (s.data.toList.take k) < 256 ^ (s.data.toList.take k).length := valN_lt _
  have h2 : 256 ^ (s.data.toList.take k).length ≤ 256 ^ 3 := Nat.pow_le_pow_right (by omega) (by have := List.length_take_le k s.data.toList; omega)
  omega

end Go.Proofs.YtajkbkljonejnaaGreatDoor
namespace Go.Proofs.YtajkbkljonejnaaGreatDoor
open Go.RowKit
set_option linter.unusedVariables false

/-- a length, and in how many bytes: of z bytes, the first three of them -/
def lenN (z x y t : Nat) : Option (Nat × Nat) :=
  if z = 0 then none else if x < 128 then some (x, 1)
  else if x = 129 ∧ 2 ≤ z then (if 128 ≤ y then some (y, 2) else none)
  else if x = 130 ∧ 3 ≤ z then (if 256 ≤ y * 256 + t then some (y * 256 + t, 3) else none) else none
def lenAt (s : ByteArray) : Option (Nat × Nat) := lenN s.size (byteAt s 0) (byteAt s 1) (byteAt s 2)
theorem lenN_spec {z x y t n k : Nat} (h : lenN z x y t = some (n, k)) : 1 ≤ k ∧ k ≤ z ∧ k ≤ 3 := by
  unfold lenN at h
  repeat' split at h
  all_goals first | (cases h; omega) | cases h
theorem lenAt_lt {s : ByteArray} {n k : Nat} (h : lenAt s = some (n, k)) : n < 65536 ∧ 1 ≤ k ∧ k ≤ s.size ∧ k ≤ 3 := by
  have h1 := byteAt_lt s 0
  have h2 := byteAt_lt s 1
  have h3 := byteAt_lt s 2
  have h4 := lenN_spec h
  refine ⟨?_, h4⟩
  unfold lenAt lenN at h
  repeat' split at h
  all_goals first | (cases h; omega) | cases h

def lenRet (r : Option (Nat × Nat)) (s : ByteArray) (e : Ending) : Prop :=
  match r with
  | some (n, k) => e = .returned (.tuple #[.int .i64 n, .string (s.extract k s.size), .bool true])
  | none => ∃ (m : Nat) (r : ByteArray), m < 65536 ∧ e = .returned (.tuple #[.int .i64 m, .string r, .bool false])

theorem len_ret {s : ByteArray} {n k : Nat} {a : Int} (h : a = (n : Int)) : Ending.returned (.tuple #[.int .i64 a, .string (s.extract k s.size), .bool true]) = .returned (.tuple #[.int .i64 n, .string (s.extract k s.size), .bool true]) := by rw [h]
theorem len_not {r : ByteArray} {m : Nat} {a : Int} (h : a = (m : Int)) : Ending.returned (.tuple #[.int .i64 a, .string r, .bool false]) = .returned (.tuple #[.int .i64 m, .string r, .bool false]) := by rw [h]

end Go.Proofs.YtajkbkljonejnaaGreatDoor
namespace Go.Proofs.YtajkbkljonejnaaGreatDoor
open Go.ChangeShapes Go.WideShapes Go.ChangeAt Go.RowKit Go.Deep
set_option linter.unusedVariables false

inductive It where
  | mk (tag : Int) (text : ByteArray) (list : List It)
def It.tag : It → Int | .mk t _ _ => t
def It.text : It → ByteArray | .mk _ s _ => s
def It.list : It → List It | .mk _ _ l => l
instance : Inhabited It := ⟨.mk 0 ⟨#[]⟩ []⟩

/-- item number i of a list at this place; R: of its own list -/
def IAt (W : World) (R : Option Addr → List It → Prop) (b off i : Nat) (x : It) : Prop :=
  ∃ co cc, W.cell? ⟨b, off + i * 3, none⟩ = some (.int .i64 x.tag) ∧ W.cell? ⟨b, off + i * 3 + 1, none⟩ = some (.string x.text) ∧
    W.cell? ⟨b, off + i * 3 + 2, none⟩ = some (.slice co x.list.length cc) ∧ x.list.length ≤ cc ∧ R co x.list ∧ x.tag ≤ 9223372036854775807 ∧ x.text.size ≤ maxLen
/-- a list of items that lies in memory, at most d deep -/
def IRow (W : World) : Nat → Option Addr → List It → Prop
  | 0, _, l => l = []
  | d + 1, ao, l => l = [] ∨ ∃ b off, ao = some ⟨b, off, none⟩ ∧ b < W.heap.size ∧ ∀ i x, l[i]? = some x → IAt W (IRow W d) b off i x
/-- how much a list holds -/
def wt : Nat → List It → Nat
  | 0, _ => 0
  | d + 1, l => (l.map fun x => 1 + x.text.size + wt d x.list).sum

theorem IRow.below {W W' : World} (hb : Below W.heap.size W W') : ∀ (d : Nat) {ao : Option Addr} {l : List It}, IRow W d ao l → IRow W' d ao l
  | 0, _, _, h => h
  | d + 1, _, _, h => by
    rcases h with h | ⟨b, off, rfl, hlt, hc⟩
    · exact .inl h
    · refine .inr ⟨b, off, rfl, Nat.lt_of_lt_of_le hlt hb.size, fun i x hx => ?_⟩
      obtain ⟨co, cc, h1, h2, h3, h4, h5, h6⟩ := hc i x hx
      exact ⟨co, cc, (hb.cell (p := ⟨b, off + i * 3, none⟩) hlt).trans h1, (hb.cell (p := ⟨b, off + i * 3 + 1, none⟩) hlt).trans h2, (hb.cell (p := ⟨b, off + i * 3 + 2, none⟩) hlt).trans h3, h4, IRow.below hb d h5, h6⟩

theorem sum_get {f : It → Nat} : ∀ {l : List It} {i : Nat} {x : It}, l[i]? = some x → f x ≤ (l.map f).sum
  | [], i, x, h => by simp at h
  | y :: r, 0, x, h => by simp at h; subst h; simp
  | y :: r, i + 1, x, h => by
    have := sum_get (f := f) (l := r) (i := i) (x := x) (by simpa using h)
    simp only [List.map_cons, List.sum_cons]
    omega
theorem wt_get {d : Nat} {l : List It} {i : Nat} {x : It} (h : l[i]? = some x) : 1 + x.text.size + wt d x.list ≤ wt (d + 1) l := sum_get (f := fun x => 1 + x.text.size + wt d x.list) h
theorem wt_length {d : Nat} : ∀ l : List It, l.length ≤ wt (d + 1) l
  | [] => by simp
  | x :: r => by
    have := wt_length (d := d) r
    simp only [wt, List.map_cons, List.sum_cons, List.length_cons] at this ⊢
    omega
theorem IRow.length_le {W : World} {d : Nat} {ao : Option Addr} {l : List It} (h : IRow W d ao l) : l.length ≤ wt d l := by
  cases d with
  | zero => rw [show l = [] from h]; exact Nat.zero_le _
  | succ d => exact wt_length l
theorem wt_nil (d : Nat) : wt d [] = 0 := by cases d <;> rfl
theorem IRow.nil (W : World) (d : Nat) (ao : Option Addr) : IRow W d ao [] := by
  cases d with
  | zero => rfl
  | succ d => exact .inl rfl

theorem cellsIntI : Tryz.prog.cellsOf 3 = 1 := by kernel_rfl
theorem cellsStrI : Tryz.prog.cellsOf 9 = 1 := by kernel_rfl

theorem cell_ltI {w : World} {a : Addr} {v : Value} (h : w.cell? a = some v) : a.block < w.heap.size := by
  rcases Nat.lt_or_ge a.block w.heap.size with h1 | h1
  · exact h1
  · unfold World.cell? at h
    rw [Array.getElem?_eq_none h1] at h
    cases h

theorem bulk_pos {H : Type} (d : DataW H) : 1 ≤ Rows.uptoBulk d := by
  cases d with
  | lit l => cases l <;> simp [Rows.uptoBulk]
  | nil => simp [Rows.uptoBulk]
  | ptr d => simp [Rows.uptoBulk]
  | slice elems spare => simp [Rows.uptoBulk]
  | agg parts => simp [Rows.uptoBulk]
  | iface t d => simp [Rows.uptoBulk]
  | map entries => simp [Rows.uptoBulk]
  | held h => simp [Rows.uptoBulk]
theorem bulk_sum {H : Type} : ∀ l : List (DataW H), Rows.uptoBulkAll l = (l.map Rows.uptoBulk).sum
  | [] => by simp [Rows.uptoBulkAll]
  | x :: r => by simp [Rows.uptoBulkAll, bulk_sum r]
theorem bulk_mem {H : Type} {d : DataW H} {l : List (DataW H)} (h : d ∈ l) : Rows.uptoBulk d ≤ Rows.uptoBulkAll l := by
  induction l with
  | nil => cases h
  | cons x r ih =>
    simp only [Rows.uptoBulkAll]
    cases List.mem_cons.1 h with
    | inl e => subst e; omega
    | inr e => have := ih e; omega
theorem sum_le_sum {α : Type} (f g : α → Nat) : ∀ l : List α, (∀ x ∈ l, f x ≤ g x) → (l.map f).sum ≤ (l.map g).sum
  | [], _ => by simp
  | x :: r, h => by
    have := sum_le_sum f g r (fun y hy => h y (List.mem_cons_of_mem _ hy))
    have h1 := h x (List.mem_cons_self ..)
    simp only [List.map_cons, List.sum_cons]
    omega

end Go.Proofs.YtajkbkljonejnaaGreatDoor
namespace Go.Proofs.YtajkbkljonejnaaGreatDoor
open Go.RowKit
set_option linter.unusedVariables false

/-- the tag at the beginning -/
def tagAt (s : ByteArray) : Nat := valN (s.data.toList.take (tagSz s.data.toList))
/-- what is behind the first k bytes -/
def behind (s : ByteArray) (k : Nat) : ByteArray := s.extract k s.size
theorem behind_size (s : ByteArray) (k : Nat) : (behind s k).size = s.size - k := by unfold behind; rw [ByteArray.size_extract]; omega
/-- the item at the beginning; P: how its own list is read -/
def itemAt (P : ByteArray → Option (List It)) (s : ByteArray) : Option (It × ByteArray) :=
  if s.size < tagSz s.data.toList then none
  else if validB (tagAt s) = false then none
  else match lenAt (behind s (tagSz s.data.toList)) with
    | none => none
    | some (n, k) =>
      if (behind (behind s (tagSz s.data.toList)) k).size < n then none
      else if madeB (tagAt s) = true then (P ((behind (behind s (tagSz s.data.toList)) k).extract 0 n)).map fun l => (.mk (tagAt s) ⟨#[]⟩ l, behind (behind (behind s (tagSz s.data.toList)) k) n)
      else some (.mk (tagAt s) ((behind (behind s (tagSz s.data.toList)) k).extract 0 n) [], behind (behind (behind s (tagSz s.data.toList)) k) n)
/-- items one behind the other -/
def listP (P : ByteArray → Option (List It)) : Nat → ByteArray → Option (List It)
  | 0, s => if s.size = 0 then some [] else none
  | f + 1, s => if s.size = 0 then some [] else match itemAt P s with | none => none | some (x, r) => (listP P f r).map (x :: ·)
/-- a list that may be d deep -/
def parseD : Nat → ByteArray → Option (List It)
  | 0, s => if s.size = 0 then some [] else none
  | d + 1, s => listP (parseD d) s.size s
theorem item_size {P : ByteArray → Option (List It)} {s : ByteArray} {x : It} {r : ByteArray} (h : itemAt P s = some (x, r)) : r.size < s.size := by
  have h1 := (tagSz_le s.data.toList).1
  unfold itemAt at h
  split at h
  · cases h
  · split at h
    · cases h
    · split at h
      · cases h
      · rename_i n k hl
        have hk := lenAt_lt hl
        rw [behind_size] at hk
        split at h
        · cases h
        · split at h
          · cases hp : P ((behind (behind s (tagSz s.data.toList)) k).extract 0 n) with
            | none => rw [hp] at h; cases h
            | some l =>
              rw [hp] at h
              have := (Prod.ext_iff.1 (Option.some.inj h)).2
              simp only at this
              rw [← this, behind_size, behind_size, behind_size]
              omega
          · have := (Prod.ext_iff.1 (Option.some.inj h)).2
            simp only at this
            rw [← this, behind_size, behind_size, behind_size]
            omega

/-- as IRow, and every block that it lies in is one of A -/
def IRowA (W : World) (A : Nat → Prop) : Nat → Option Addr → List It → Prop
  | 0, _, l => l = []
  | d + 1, ao, l => l = [] ∨ ∃ b off, ao = some ⟨b, off, none⟩ ∧ b < W.heap.size ∧ A b ∧ ∀ i x, l[i]? = some x → IAt W (IRowA W A d) b off i x
theorem IRowA.nil (W : World) (A : Nat → Prop) (d : Nat) (ao : Option Addr) : IRowA W A d ao [] := by
  cases d with
  | zero => rfl
  | succ d => exact .inl rfl
theorem IRowA.row {W : World} {A : Nat → Prop} : ∀ (d : Nat) {ao : Option Addr} {l : List It}, IRowA W A d ao l → IRow W d ao l
  | 0, _, _, h => h
  | d + 1, _, _, h => by
    rcases h with h | ⟨b, off, rfl, hlt, _, hc⟩
    · exact .inl h
    · refine .inr ⟨b, off, rfl, hlt, fun i x hx => ?_⟩
      obtain ⟨co, cc, h1, h2, h3, h4, h5, h6⟩ := hc i x hx
      exact ⟨co, cc, h1, h2, h3, h4, IRowA.row d h5, h6⟩
/-- kept where those blocks are kept -/
theorem IRowA.kept {W W' : World} {A A' : Nat → Prop} (hs : W.heap.size ≤ W'.heap.size) (hk : ∀ b, b < W.heap.size → A b → W'.heap[b]? = W.heap[b]? ∧ A' b) : ∀ (d : Nat) {ao : Option Addr} {l : List It}, IRowA W A d ao l → IRowA W' A' d ao l
  | 0, _, _, h => h
  | d + 1, _, _, h => by
    rcases h with h | ⟨b, off, rfl, hlt, hA, hc⟩
    · exact .inl h
    · obtain ⟨hb, hA'⟩ := hk b hlt hA
      refine .inr ⟨b, off, rfl, Nat.lt_of_lt_of_le hlt hs, hA', fun i x hx => ?_⟩
      obtain ⟨co, cc, h1, h2, h3, h4, h5, h6⟩ := hc i x hx
      exact ⟨co, cc, (World.cell?_of_block (w := W) (w' := W') (a := ⟨b, off + i * 3, none⟩) hb).trans h1, (World.cell?_of_block (w := W) (w' := W') (a := ⟨b, off + i * 3 + 1, none⟩) hb).trans h2, (World.cell?_of_block (w := W) (w' := W') (a := ⟨b, off + i * 3 + 2, none⟩) hb).trans h3, h4, IRowA.kept hs hk d h5, h6⟩
theorem IRowA.below {W W' : World} {A : Nat → Prop} (hb : Below W.heap.size W W') (d : Nat) {ao : Option Addr} {l : List It} (h : IRowA W A d ao l) : IRowA W' A d ao l :=
  IRowA.kept hb.size (fun b hlt hA => ⟨hb.block b hlt, hA⟩) d h
theorem IRowA.mono {W : World} {A A' : Nat → Prop} (hA : ∀ b, b < W.heap.size → A b → A' b) (d : Nat) {ao : Option Addr} {l : List It} (h : IRowA W A d ao l) : IRowA W A' d ao l :=
  IRowA.kept (Nat.le_refl _) (fun b hlt h => ⟨rfl, hA b hlt h⟩) d h
end Go.Proofs.YtajkbkljonejnaaGreatDoor
namespace Go.Proofs.YtajkbkljonejnaaGreatDoor
open Go.RowKit
set_option linter.unusedVariables false

/-- what a list that was read answers, called in W, in W' -/
def ListRet (W W' : World) (d : Nat) (r : Option (List It)) (e : Ending) : Prop :=
  match r with
  | some l => ∃ ao cap, e = .returned (.tuple #[.slice ao l.length cap, .bool true]) ∧ l.length ≤ cap ∧ IRowA W' (fun b => W.heap.size ≤ b) d ao l
  | none => ∃ v n cap, e = .returned (.tuple #[.slice v n cap, .bool false])
/-- .. and an item -/
def ItemRet (W W' : World) (d : Nat) (r : Option (It × ByteArray)) (e : Ending) : Prop :=
  match r with
  | some (x, s) => ∃ co cc, e = .returned (.tuple #[.agg #[.int .i64 x.tag, .string x.text, .slice co x.list.length cc], .string s, .bool true]) ∧ x.list.length ≤ cc ∧ IRowA W' (fun b => W.heap.size ≤ b) d co x.list
  | none => ∃ (t : Int) (tx : ByteArray) (co : Option Addr) (n cc : Nat) (s : ByteArray), e = .returned (.tuple #[.agg #[.int .i64 t, .string tx, .slice co n cc], .string s, .bool false])


theorem set_block {w : World} {g j : Nat} {cs : Array Value} {e : TypeId} {fr : Nat × Nat} {v : Value} (h : w.heap[g]? = some (.cells cs e fr)) : (w.setCell ⟨g, j, none⟩ v).heap[g]? = some (.cells (cs.setIfInBounds j v) e fr) := by
  simp [World.setCell, Array.getElem?_modify, h]
theorem below_cell {B : Nat} {a w : World} (h : Below B a w) (j : Nat) (u : Value) {g : Nat} (hg : B ≤ g) : Below B a (w.setCell ⟨g, j, none⟩ u) := h.setCell hg u
theorem below_draws {a b : World} (h : Below a.heap.size a b) (q : Nat) : Below a.heap.size a (b.drewN q) := ⟨h.os, h.tape, h.output, h.size, h.block⟩

/-- one world as another, but for one block -/
def SameBut (g : Nat) (w w' : World) : Prop := w'.heap.size = w.heap.size ∧ ∀ b, b ≠ g → w'.heap[b]? = w.heap[b]?
theorem SameBut.refl (g : Nat) (w : World) : SameBut g w w := ⟨rfl, fun _ _ => rfl⟩
theorem SameBut.cell {g : Nat} {w w' : World} (h : SameBut g w w') (j : Nat) (u : Value) : SameBut g w (w'.setCell ⟨g, j, none⟩ u) :=
  ⟨by have := h.1; simpa using this, fun b hb => (Below.heap_setCell _ _ _ _ hb).trans (h.2 b hb)⟩
theorem SameBut.drew {g : Nat} {w w' : World} (h : SameBut g w w') : SameBut g w w'.drew := h
theorem SameBut.drewN {g : Nat} {w w' : World} (h : SameBut g w w') (q : Nat) : SameBut g w (w'.drewN q) := h
theorem IRowA.but {w w' : World} {g B base d : Nat} {ao : Option Addr} {l : List It} (h : IRowA w (fun b => B ≤ b) d ao l) (hs : SameBut g w w') (hg : g < B) (hB : base ≤ B) : IRowA w' (fun b => base ≤ b) d ao l :=
  IRowA.kept (Nat.le_of_eq hs.1.symm) (fun b _ hb => ⟨hs.2 b (by have : B ≤ b := hb; omega), Nat.le_trans hB hb⟩) d h

end Go.Proofs.YtajkbkljonejnaaGreatDoor
namespace Go.Proofs.YtajkbkljonejnaaGreatDoor
open Go.RowKit
set_option linter.unusedVariables false

/-- what one item gives; G: its own list -/
def stepF (n : Int) (G : List It → Option ByteArray) (x : It) : Option ByteArray := if madeV x.tag = true then G x.list else if x.tag = n then some x.text else none
/-- the text of the first item with a tag -/
def findD (n : Int) : Nat → List It → Option ByteArray
  | 0, _ => none
  | d + 1, l => l.findSome? (stepF n (findD n d))
def foundV (r : Option ByteArray) : Value := .tuple #[.string (r.getD ⟨#[]⟩), .bool r.isSome]

theorem get_of_lt {l : List It} {k : Nat} (h : k < l.length) : ∃ x, l[k]? = some x := ⟨_, List.getElem?_eq_getElem h⟩
theorem find_next {f : It → Option ByteArray} {l : List It} {k : Nat} {x : It} (hx : l[k]? = some x) (h : (l.take k).findSome? f = none) (hf : f x = none) : (l.take (k + 1)).findSome? f = none := by
  have hk : k < l.length := by
    rcases Nat.lt_or_ge k l.length with h | h
    · exact h
    · rw [List.getElem?_eq_none h] at hx; cases hx
  rw [List.getElem?_eq_getElem hk] at hx
  rw [List.take_succ_eq_append_getElem hk, List.findSome?_append, h, Option.some.inj hx]
  simp [hf]
theorem find_here {f : It → Option ByteArray} {l : List It} {k : Nat} {x : It} {t : ByteArray} (hx : l[k]? = some x) (h : (l.take k).findSome? f = none) (hf : f x = some t) : l.findSome? f = some t := by
  have hk : k < l.length := by
    rcases Nat.lt_or_ge k l.length with h | h
    · exact h
    · rw [List.getElem?_eq_none h] at hx; cases hx
  rw [List.getElem?_eq_getElem hk] at hx
  conv => lhs; rw [← List.take_append_drop (k + 1) l]
  rw [List.findSome?_append, List.take_succ_eq_append_getElem hk, List.findSome?_append, h, Option.some.inj hx]
  simp [hf]

theorem ret_found {r : Option ByteArray} {t : ByteArray} {b : Bool} (h1 : r.getD ⟨#[]⟩ = t) (h2 : r.isSome = b) : Ending.returned (.tuple #[.string t, .bool b]) = .returned (foundV r) := by
  unfold foundV; rw [h1, h2]

end Go.Proofs.YtajkbkljonejnaaGreatDoor
namespace Go.Proofs.YtajkbkljonejnaaGreatDoor
open Go.RowKit
set_option linter.unusedVariables false
attribute [local go_sem ↓] Go.wp_at_zero Go.wp_at_succ

/-- the bytes of a tag -/
abbrev tagL (t : Nat) : List Int := bigL t (tagLen t)

theorem two_new (w : World) (x y : Value) (e : TypeId) : ∀ j u, [x, y][j]? = some u → (w.alloc (.cells #[x, y] e)).cell? ((⟨w.heap.size, 0, none⟩ : Addr).add j) = some u := by
  intro j u hj
  have hg := heap_alloc_new w (.cells #[x, y] e)
  rw [show (⟨w.heap.size, 0, none⟩ : Addr).add j = ⟨w.heap.size, 0 + j, none⟩ from by unfold Addr.add; split <;> simp_all, Nat.zero_add, cell_of_row _ _ j #[x, y] e _ hg]
  simpa using hj
theorem three_new (w : World) (x y z : Value) (e : TypeId) : ∀ j u, [x, y, z][j]? = some u → (w.alloc (.cells #[x, y, z] e)).cell? ((⟨w.heap.size, 0, none⟩ : Addr).add j) = some u := by
  intro j u hj
  have hg := heap_alloc_new w (.cells #[x, y, z] e)
  rw [show (⟨w.heap.size, 0, none⟩ : Addr).add j = ⟨w.heap.size, 0 + j, none⟩ from by unfold Addr.add; split <;> simp_all, Nat.zero_add, cell_of_row _ _ j #[x, y, z] e _ hg]
  simpa using hj

set_option maxRecDepth 100000 in
set_option maxHeartbeats 1000000 in
theorem appendTag_any (t : Nat) (base n : Nat) (v : Value) (xs : List Value) (w : World) (ht : t < 16777216) (hown : w.ownsRow base 5 1 v n xs) (hn : n ≤ 1000000) (hbase : base ≤ w.heap.size) :
    Calls Tryz.prog 92 #[v, .int .i64 t] w fun e w' => ∃ g cap, e = .returned (.slice (some ⟨g, 0, none⟩) (n + tagLen t) cap) ∧ w'.ownsRow base 5 1 (.slice (some ⟨g, 0, none⟩) (n + tagLen t) cap) (n + tagLen t) (xs ++ (tagL t).map (Value.int .u8)) ∧ w.grownBy w' v.ownBlock ∧ (v.ownBlock = some g ∨ w.heap.size ≤ g) := by
  obtain ⟨i0, hi, hz0, hz1, hz2⟩ := info_parts infoByte
  by_cases c1 : t < 256
  · have hL : tagLen t = 1 := by unfold tagLen; rw [if_pos c1]
    have hB : (tagL t).map (Value.int .u8) = [.int .u8 ((t : Int))] := by unfold tagL; rw [hL]; simp [bigL]; omega
    rw [hL, hB]
    clear hL hB
    go_enter Tryz.func92, Tryz.ntmps92
    go_wp2_with (at_builtin; refine wpList_append_lies _ rfl _ _ 55 rfl base 5 i0 (.int .u8 0) 1 1 Tryz.underlying55 hi hz0 hz1 hz2 rfl (by decide) _ _ _ rfl (hown.alloc _) ⟨w.heap.size, 0, none⟩ 1 1 [.int .u8 ((t : Int))] rfl rfl (cell_one_new _ _ _) ?c2 (by omega) ?c3 ?c4 ?c5 (w.heap.size + 1) (by simp) ?_)
    case c2 => intro u hu; simp at hu; subst hu; rfl
    case c3 => unfold maxLen; omega
    case c4 => omega
    case c5 => simp; omega
    intro g cap w1 hown' hgrow hat hlt
    go_wp2
    go_ret
    exact ⟨_, _, rfl, hown', ⟨hgrow.os, hgrow.tape, hgrow.output, by have := hgrow.size; simp at this; omega, fun k hk hne => (hgrow.block k (by simp; omega) hne).trans (Below.heap_alloc _ _ _ hk)⟩, hat.elim (fun h => .inl h) (fun h => .inr (by omega))⟩
  · by_cases c2 : t < 65536
    · have hL : tagLen t = 2 := by unfold tagLen; rw [if_neg c1, if_pos c2]
      have hB : (tagL t).map (Value.int .u8) = [.int .u8 ((t : Int) / 256), .int .u8 ((t : Int) % 256)] := by unfold tagL; rw [hL]; simp [bigL]; omega
      rw [hL, hB]
      clear hL hB
      go_enter Tryz.func92, Tryz.ntmps92
      go_wp2_with (at_builtin; refine wpList_append_lies _ rfl _ _ 55 rfl base 5 i0 (.int .u8 0) 1 1 Tryz.underlying55 hi hz0 hz1 hz2 rfl (by decide) _ _ _ rfl (hown.alloc _) ⟨w.heap.size, 0, none⟩ 2 2 [.int .u8 ((t : Int) / 256), .int .u8 ((t : Int) % 256)] rfl rfl (two_new _ _ _ _) ?c2 (by omega) ?c3 ?c4 ?c5 (w.heap.size + 1) (by simp) ?_)
      case c2 => intro u hu; simp at hu; rcases hu with rfl | rfl <;> rfl
      case c3 => unfold maxLen; omega
      case c4 => omega
      case c5 => simp; omega
      intro g cap w1 hown' hgrow hat hlt
      go_wp2
      go_ret
      exact ⟨_, _, rfl, hown', ⟨hgrow.os, hgrow.tape, hgrow.output, by have := hgrow.size; simp at this; omega, fun k hk hne => (hgrow.block k (by simp; omega) hne).trans (Below.heap_alloc _ _ _ hk)⟩, hat.elim (fun h => .inl h) (fun h => .inr (by omega))⟩
    · have hL : tagLen t = 3 := by unfold tagLen; rw [if_neg c1, if_neg c2]
      have hB : (tagL t).map (Value.int .u8) = [.int .u8 ((t : Int) / 65536), .int .u8 ((t : Int) / 256 % 256), .int .u8 ((t : Int) % 256)] := by unfold tagL; rw [hL]; simp [bigL]; omega
      rw [hL, hB]
      clear hL hB
      go_enter Tryz.func92, Tryz.ntmps92
      go_wp2_with (at_builtin; refine wpList_append_lies _ rfl _ _ 55 rfl base 5 i0 (.int .u8 0) 1 1 Tryz.underlying55 hi hz0 hz1 hz2 rfl (by decide) _ _ _ rfl (hown.alloc _) ⟨w.heap.size, 0, none⟩ 3 3 [.int .u8 ((t : Int) / 65536), .int .u8 ((t : Int) / 256 % 256), .int .u8 ((t : Int) % 256)] rfl rfl (three_new _ _ _ _ _) ?c2 (by omega) ?c3 ?c4 ?c5 (w.heap.size + 1) (by simp) ?_)
      case c2 => intro u hu; simp at hu; rcases hu with rfl | rfl | rfl <;> rfl
      case c3 => unfold maxLen; omega
      case c4 => omega
      case c5 => simp; omega
      intro g cap w1 hown' hgrow hat hlt
      go_wp2
      go_ret
      exact ⟨_, _, rfl, hown', ⟨hgrow.os, hgrow.tape, hgrow.output, by have := hgrow.size; simp at this; omega, fun k hk hne => (hgrow.block k (by simp; omega) hne).trans (Below.heap_alloc _ _ _ hk)⟩, hat.elim (fun h => .inl h) (fun h => .inr (by omega))⟩
end Go.Proofs.YtajkbkljonejnaaGreatDoor
namespace Go.Proofs.YtajkbkljonejnaaGreatDoor
open Go.RowKit
set_option linter.unusedVariables false
attribute [local go_sem ↓] Go.wp_at_zero Go.wp_at_succ

/-- a slice's head over a row of fields that lies in memory -/
def FRow (W : World) (ao : Option Addr) (fs : List (Int × Int)) : Prop :=
  fs = [] ∨ ∃ b off, ao = some ⟨b, off, none⟩ ∧ b < W.heap.size ∧ ∀ i, i < fs.length → W.cell? ⟨b, off + i * 2, none⟩ = some (.int .i64 (fs.getD i (0, 0)).1) ∧ W.cell? ⟨b, off + i * 2 + 1, none⟩ = some (.int .i64 (fs.getD i (0, 0)).2)
theorem FRow.below {W W' : World} {ao : Option Addr} {fs : List (Int × Int)} (h : FRow W ao fs) (hb : Below W.heap.size W W') : FRow W' ao fs := by
  rcases h with h | ⟨b, off, rfl, hlt, hc⟩
  · exact .inl h
  · exact .inr ⟨b, off, rfl, Nat.lt_of_lt_of_le hlt hb.size, fun i hi => ⟨(hb.cell (p := ⟨b, off + i * 2, none⟩) hlt).trans (hc i hi).1, (hb.cell (p := ⟨b, off + i * 2 + 1, none⟩) hlt).trans (hc i hi).2⟩⟩

/-- is a field one? -/
def okF (f : Int × Int) : Bool := validB f.1 && (!madeB f.1.toNat && (decide (0 ≤ f.2) && decide (f.2 ≤ 255)))
/-- what is wrong with a row -/
def fieldsE (fs : List (Int × Int)) : Int := if fs.all okF = true then (if 100 < fs.length then 2 else 0) else 1
/-- the numbers of a row fit their kind -/
def FNums (fs : List (Int × Int)) : Prop := ∀ f ∈ fs, f.1 ≤ 9223372036854775807

/-- the first k are fields -/
def AllTo (fs : List (Int × Int)) (k : Nat) : Prop := (fs.take k).all okF = true

theorem all_take_succ (fs : List (Int × Int)) (k : Nat) (h : k < fs.length) : (fs.take (k + 1)).all okF = ((fs.take k).all okF && okF (fs.getD k (0, 0))) := by
  rw [List.take_succ_eq_append_getElem h, List.all_append]
  simp [List.getD_eq_getElem?_getD, List.getElem?_eq_getElem h]
theorem all_of_take_false (fs : List (Int × Int)) (k : Nat) (h : (fs.take k).all okF = false) : fs.all okF = false := by
  have e := List.take_append_drop k fs
  rw [← e, List.all_append, h, Bool.false_and]

set_option maxRecDepth 1000000 in
set_option maxHeartbeats 2000000 in
theorem checkFields_any (fs : List (Int × Int)) (ao : Option Addr) (cap : Nat) (w : World) (hr : FRow w ao fs) (hn : FNums fs) (hl : (fs.length : Int) ≤ 9000000000000000000) :
    Calls Tryz.prog 91 #[.slice ao fs.length cap] w fun e w' => e = .returned (.int .i64 (fieldsE fs)) ∧ Below w.heap.size w w' := by
  go_enter Tryz.func91, Tryz.ntmps91
  go_wp2
  go_loopw [7] (fun i wr => ∃ k : Nat, k ≤ fs.length ∧ i = .int .i64 k ∧ AllTo fs k ∧ Below w.heap.size w wr) (fun i _ => fs.length - (intOf i).toNat)
  case atStart => exact ⟨0, Nat.zero_le _, rfl, by simp [AllTo], Below.refl _ _⟩
  case round =>
    obtain ⟨k, hk, rfl, hall', hbw⟩ := hrel
    have hall : (fs.take k).all okF = true := hall'
    clear hall'
    by_cases hlt : k < fs.length
    · rcases hr with hnil | ⟨b, off, rfl, hb, hc⟩
      · rw [hnil] at hlt; simp at hlt
      obtain ⟨c0, c1⟩ := hc k hlt
      have d0 : wr.cell? ⟨b, off + k * 2, none⟩ = _ := (hbw.cell (p := ⟨b, off + k * 2, none⟩) hb).trans c0
      have d1 : wr.cell? ⟨b, off + k * 2 + 1, none⟩ = _ := (hbw.cell (p := ⟨b, off + k * 2 + 1, none⟩) hb).trans c1
      have hnext := all_take_succ fs k hlt
      rw [hall, Bool.true_and] at hnext
      have hfn : (fs.getD k (0, 0)).1 ≤ 9223372036854775807 := hn _ (by
        rw [List.getD_eq_getElem?_getD, List.getElem?_eq_getElem hlt]; exact List.getElem_mem hlt)
      have hfo : okF (fs.getD k (0, 0)) = false → fieldsE fs = 1 := fun h => by
        unfold fieldsE
        rw [all_of_take_false fs (k + 1) (by rw [hnext, h]), if_neg (by decide)]
      generalize fs.getD k (0, 0) = f at *
      obtain ⟨ft, fl⟩ := f
      simp only at d0 d1 hfn
      have n1 := fun w => valid_any ft w hfn
      have hbk : b < wr.heap.size := World.block_lt_of_cell? _ _ d0
      clear c0 c1 hc
      cases hv : validB ft with
      | false =>
        rw [hv] at n1
        have N1 := hide n1
        have HO := hide (hfo (by unfold okF; rw [hv, Bool.false_and]))
        clear n1 hfo hnext hall hv
        go_wp2_with (go_at_call 122; refine (unhide N1 _).mono ?_; rintro e w1 ⟨rfl, hw1⟩; subst hw1)
        go_ret
        exact ⟨ret_int (unhide HO).symm, hbw.alloc hbw.size _⟩
      | true =>
        obtain ⟨h1, h2⟩ := validB_lt hv
        obtain ⟨tn, rfl⟩ := Int.eq_ofNat_of_zero_le (show 0 ≤ ft by omega)
        have n2 := fun w => made_any tn w (by omega) hv
        rw [hv] at n1
        cases hm : madeB tn with
        | true =>
          rw [hm] at n2
          have N1 := hide n1; have N2 := hide n2
          have HO := hide (hfo (by unfold okF; simp [hv, hm]))
          clear n1 n2 hfo hnext hall hv hm
          go_wp2_with (first | (go_at_call 122; refine (unhide N1 _).mono ?_; rintro e w1 ⟨rfl, hw1⟩; subst hw1) | (go_at_call 123; refine (unhide N2 _).mono ?_; rintro e w1 ⟨rfl, hw1⟩; subst hw1))
          go_ret
          exact ⟨ret_int (unhide HO).symm, hbw.alloc hbw.size _⟩
        | false =>
          rw [hm] at n2
          have N1 := hide n1; have N2 := hide n2
          by_cases hl0 : fl < 0
          · have HO := hide (hfo (by unfold okF; simp; intros; omega))
            clear n1 n2 hfo hnext hall hv hm
            go_wp2_with (first | (go_at_call 122; refine (unhide N1 _).mono ?_; rintro e w1 ⟨rfl, hw1⟩; subst hw1) | (go_at_call 123; refine (unhide N2 _).mono ?_; rintro e w1 ⟨rfl, hw1⟩; subst hw1))
            go_ret
            exact ⟨ret_int (unhide HO).symm, hbw.alloc hbw.size _⟩
          · by_cases hl2 : 255 < fl
            · have HO := hide (hfo (by unfold okF; simp; intros; omega))
              clear n1 n2 hfo hnext hall hv hm
              go_wp2_with (first | (go_at_call 122; refine (unhide N1 _).mono ?_; rintro e w1 ⟨rfl, hw1⟩; subst hw1) | (go_at_call 123; refine (unhide N2 _).mono ?_; rintro e w1 ⟨rfl, hw1⟩; subst hw1))
              go_ret
              exact ⟨ret_int (unhide HO).symm, hbw.alloc hbw.size _⟩
            · have hok : okF ((tn : Int), fl) = true := by unfold okF; simp [hv, hm]; omega
              rw [hok] at hnext
              have HX := hide hnext
              have g0 : 0 ≤ fl := by omega
              have g1 : fl ≤ 255 := by omega
              clear n1 n2 hfo hnext hall hv hm hok hl0 hl2 h1 h2 hfn hn
              go_wp2_with fail
              refine (unhide N1 _).mono ?_
              rintro e w1 ⟨rfl, hw1⟩
              subst hw1
              go_wp2_with fail
              refine (unhide N2 _).mono ?_
              rintro e w1 ⟨rfl, hw1⟩
              subst hw1
              go_wp2_with fail
              go_roundw
              case rel => exact ⟨k + 1, by omega, by go_num, unhide HX, hbw.alloc hbw.size _⟩
              case measure => simp [intOf]; omega
    · rw [List.take_of_length_le (by omega)] at hall
      have he : fieldsE fs = if 100 < fs.length then 2 else 0 := by unfold fieldsE; rw [if_pos hall]
      have HE := hide he
      clear hall he
      by_cases h100 : 100 < fs.length
      · have H1 := hide h100
        go_wp2
        go_ret
        exact ⟨ret_int (by rw [unhide HE, if_pos (unhide H1)]), hbw⟩
      · have H1 := hide h100
        go_wp2
        go_ret
        exact ⟨ret_int (by rw [unhide HE, if_neg (unhide H1)]), hbw⟩
end Go.Proofs.YtajkbkljonejnaaGreatDoor
namespace Go.Proofs.YtajkbkljonejnaaGreatDoor
open Go.RowKit
set_option linter.unusedVariables false

/-- all items that are not made of others -/
def plainD : Nat → List It → List It
  | 0, _ => []
  | d + 1, l => l.flatMap fun x => if madeV x.tag = true then plainD d x.list else [x]
theorem plain_len : ∀ (d : Nat) (l : List It), (plainD d l).length ≤ wt d l
  | 0, l => by simp [plainD]
  | d + 1, l => by
    induction l with
    | nil => simp [plainD]
    | cons x r ih =>
      have h := plain_len d x.list
      simp only [plainD, wt, List.flatMap_cons, List.map_cons, List.sum_cons, List.length_append] at ih ⊢
      split
      · omega
      · simp only [List.length_cons, List.length_nil]; omega

/-- an item as it lies: its own list's head beside it -/
structure Raw where
  tag : Int
  text : ByteArray
  co : Option Addr
  n : Nat
  cc : Nat
def Raw.cells (r : Raw) : List Value := [.int .i64 r.tag, .string r.text, .slice r.co r.n r.cc]
def cellsR (rs : List Raw) : List Value := rs.flatMap Raw.cells
theorem cellsR_append (a b : List Raw) : cellsR (a ++ b) = cellsR a ++ cellsR b := by simp [cellsR]
theorem cellsR_one (rs : List Raw) : ∀ u ∈ cellsR rs, u.oneCell' = true := by
  intro u hu
  obtain ⟨r, _, hr⟩ := List.mem_flatMap.1 hu
  simp only [Raw.cells, List.mem_cons, List.not_mem_nil, or_false] at hr
  rcases hr with rfl | rfl | rfl <;> rfl
theorem cellsR_length (rs : List Raw) : (cellsR rs).length = rs.length * 3 := by
  induction rs with
  | nil => rfl
  | cons r rs ih =>
    have e : cellsR (r :: rs) = r.cells ++ cellsR rs := by simp [cellsR]
    rw [e, List.length_append, ih, List.length_cons]
    simp only [Raw.cells, List.length_cons, List.length_nil]
    omega
/-- the rows hold these items' tags and texts -/
def Holds (rs : List Raw) (l : List It) : Prop := rs.map (fun r => (r.tag, r.text)) = l.map (fun x => (x.tag, x.text))

theorem ownsRow_kept {w w' : World} {base : Nat} {e : TypeId} {size : Nat} {v : Value} {n : Nat} {xs : List Value} (h : w.ownsRow base e size v n xs) (hb : Below w.heap.size w w') : w'.ownsRow base e size v n xs := by
  refine ⟨h.1, ?_⟩
  rcases h.2 with h0 | ⟨g, cap, cur, e1, e2, e3, e4⟩
  · exact .inl h0
  · refine .inr ⟨g, cap, cur, e1, e2, ?_, e4⟩
    have hg : g < w.heap.size := by
      rcases Nat.lt_or_ge g w.heap.size with h | h
      · exact h
      · rw [Array.getElem?_eq_none h] at e3; cases e3
    rw [hb.block g hg]; exact e3
theorem plain_take {d : Nat} {l : List It} {k : Nat} {x : It} (hx : l[k]? = some x) : plainD (d + 1) (l.take (k + 1)) = plainD (d + 1) (l.take k) ++ (if madeV x.tag = true then plainD d x.list else [x]) := by
  have hk : k < l.length := by
    rcases Nat.lt_or_ge k l.length with h | h
    · exact h
    · rw [List.getElem?_eq_none h] at hx; cases hx
  rw [List.getElem?_eq_getElem hk] at hx
  rw [List.take_succ_eq_append_getElem hk, Option.some.inj hx]
  simp [plainD]
theorem holds_append {a b : List Raw} {l m : List It} (h1 : Holds a l) (h2 : Holds b m) : Holds (a ++ b) (l ++ m) := by
  unfold Holds at *
  rw [List.map_append, List.map_append, h1, h2]
theorem holds_length {a : List Raw} {l : List It} (h : Holds a l) : a.length = l.length := by
  have := congrArg List.length h
  simpa using this
theorem wt_take {d : Nat} (l : List It) (k : Nat) : wt (d + 1) (l.take k) ≤ wt (d + 1) l := by
  conv => rhs; rw [← List.take_append_drop k l]
  simp only [wt, List.map_append, List.sum_append]
  omega

end Go.Proofs.YtajkbkljonejnaaGreatDoor
namespace Go.Proofs.YtajkbkljonejnaaGreatDoor
open Go.RowKit
set_option linter.unusedVariables false

def hasR (n : Int) (r : Raw) : Option ByteArray := if r.tag = n then some r.text else none
def hasI (n : Int) (x : It) : Option ByteArray := if x.tag = n then some x.text else none
theorem find_plain (n : Int) : ∀ (d : Nat) (l : List It), findD n d l = (plainD d l).findSome? (hasI n)
  | 0, l => by simp [findD, plainD]
  | d + 1, l => by
    induction l with
    | nil => rfl
    | cons x r ih =>
      have hd := find_plain n d x.list
      simp only [findD, plainD, List.findSome?_cons, List.flatMap_cons, List.findSome?_append] at ih ⊢
      rw [← ih]
      by_cases hm : madeV x.tag = true
      · rw [if_pos hm, ← hd]
        simp only [stepF, if_pos hm]
        cases findD n d x.list <;> rfl
      · rw [if_neg hm]
        simp only [stepF, if_neg hm, List.findSome?_cons, List.findSome?_nil, hasI]
        split <;> simp_all
theorem find_holds (n : Int) : ∀ (rs : List Raw) (l : List It), Holds rs l → rs.findSome? (hasR n) = l.findSome? (hasI n)
  | [], [], _ => rfl
  | [], x :: l, h => by simp [Holds] at h
  | r :: rs, [], h => by simp [Holds] at h
  | r :: rs, x :: l, h => by
    simp only [Holds, List.map_cons, List.cons.injEq, Prod.mk.injEq] at h
    have := find_holds n rs l h.2
    simp only [List.findSome?_cons, this, hasR, hasI, h.1.1, h.1.2]
theorem cellsR_get : ∀ (rs : List Raw) (i : Nat) (r : Raw), rs[i]? = some r → (cellsR rs)[i * 3]? = some (.int .i64 r.tag) ∧ (cellsR rs)[i * 3 + 1]? = some (.string r.text) ∧ (cellsR rs)[i * 3 + 2]? = some (.slice r.co r.n r.cc)
  | [], i, r, h => by simp at h
  | q :: rs, 0, r, h => by simp at h; subst h; simp [cellsR, Raw.cells]
  | q :: rs, i + 1, r, h => by
    have := cellsR_get rs i r (by simpa using h)
    have e : cellsR (q :: rs) = .int .i64 q.tag :: .string q.text :: .slice q.co q.n q.cc :: cellsR rs := by simp [cellsR, Raw.cells]
    rw [e, show (i + 1) * 3 = i * 3 + 1 + 1 + 1 by omega]
    simpa using this
/-- rows of items as they lie -/
def RRow (W : World) (ao : Option Addr) (rs : List Raw) : Prop :=
  rs = [] ∨ ∃ b, ao = some ⟨b, 0, none⟩ ∧ b < W.heap.size ∧ ∀ i r, rs[i]? = some r → W.cell? ⟨b, 0 + i * 3, none⟩ = some (.int .i64 r.tag) ∧ W.cell? ⟨b, 0 + i * 3 + 1, none⟩ = some (.string r.text) ∧ W.cell? ⟨b, 0 + i * 3 + 2, none⟩ = some (.slice r.co r.n r.cc)
theorem rrow_of_owns {w : World} {base : Nat} {v : Value} {rs : List Raw} {e : TypeId} (h : w.ownsRow base e 3 v rs.length (cellsR rs)) : ∃ ao cap, v = .slice ao rs.length cap ∧ RRow w ao rs := by
  rcases h.2 with ⟨h1, h2⟩ | ⟨g, cap, cur, h1, h2, h3, h4, h5, h6, h7⟩
  · exact ⟨none, 0, by rw [h1, h2], .inl (List.length_eq_zero_iff.1 h2)⟩
  · refine ⟨_, cap, h1, .inr ⟨g, rfl, (h.lt g (by rw [h1]; rfl)).2, fun i r hr => ?_⟩⟩
    have hc := cellsR_get rs i r hr
    have hk := h.cells (g := g) (by rw [h1]; rfl)
    have ea : ∀ k, (⟨g, 0, none⟩ : Addr).add k = ⟨g, 0 + k, none⟩ := fun k => by unfold Addr.add; split <;> simp_all
    have k1 := hk _ _ hc.1
    have k2 := hk _ _ hc.2.1
    have k3 := hk _ _ hc.2.2
    rw [ea] at k1 k2 k3
    exact ⟨k1, k2, k3⟩
theorem findR_next {f : Raw → Option ByteArray} {l : List Raw} {k : Nat} {x : Raw} (hx : l[k]? = some x) (h : (l.take k).findSome? f = none) (hf : f x = none) : (l.take (k + 1)).findSome? f = none := by
  have hk : k < l.length := by
    rcases Nat.lt_or_ge k l.length with h | h
    · exact h
    · rw [List.getElem?_eq_none h] at hx; cases hx
  rw [List.getElem?_eq_getElem hk] at hx
  rw [List.take_succ_eq_append_getElem hk, List.findSome?_append, h, Option.some.inj hx]
  simp [hf]
theorem findR_here {f : Raw → Option ByteArray} {l : List Raw} {k : Nat} {x : Raw} {t : ByteArray} (hx : l[k]? = some x) (h : (l.take k).findSome? f = none) (hf : f x = some t) : l.findSome? f = some t := by
  have hk : k < l.length := by
    rcases Nat.lt_or_ge k l.length with h | h
    · exact h
    · rw [List.getElem?_eq_none h] at hx; cases hx
  rw [List.getElem?_eq_getElem hk] at hx
  conv => lhs; rw [← List.take_append_drop (k + 1) l]
  rw [List.findSome?_append, List.take_succ_eq_append_getElem hk, List.findSome?_append, h, Option.some.inj hx]
  simp [hf]


end Go.Proofs.YtajkbkljonejnaaGreatDoor
