/- PrintFields of the program. -/
import Derived.Test.YtamamlpicookiahFields
import Derived.Deep.RegionHeld3
import Derived.Deep.AppendLies
namespace Go.Proofs.Ytamamlpicookiah
open Go.RowKit
set_option linter.unusedVariables false

theorem below_keep {w w' : World} {a : Addr} {v : Value} (h : Below w.heap.size w w') (hc : w.cell? a = some v) : w'.cell? a = some v := (h.cell (World.block_lt_of_cell? w a hc)).trans hc

/-- how a row is written: the numbers of the bytes -/
def textL (fs : List (Int × Int)) : List Int := fs.flatMap fun f => tagL f.1.toNat ++ [f.2]
theorem textL_snoc (fs : List (Int × Int)) (f : Int × Int) : textL (fs ++ [f]) = textL fs ++ (tagL f.1.toNat ++ [f.2]) := by simp [textL]
theorem textL_take (fs : List (Int × Int)) (k : Nat) (h : k < fs.length) : textL (fs.take (k + 1)) = textL (fs.take k) ++ (tagL (fs.getD k (0, 0)).1.toNat ++ [(fs.getD k (0, 0)).2]) := by
  rw [List.take_succ_eq_append_getElem h, textL_snoc]
  simp [List.getD_eq_getElem?_getD, List.getElem?_eq_getElem h]
theorem tagL_length (t : Nat) : (tagL t).length = tagLen t := bigL_length t _
theorem textL_length (fs : List (Int × Int)) : (textL fs).length ≤ 4 * fs.length := by
  induction fs with
  | nil => simp [textL]
  | cons f fs ih =>
    have h3 := (tagLen_le f.1.toNat).2
    have e : textL (f :: fs) = (tagL f.1.toNat ++ [f.2]) ++ textL fs := by simp [textL]
    rw [e, List.length_append, List.length_append, tagL_length]
    simp
    omega

theorem news_kept {W w2 : World} {row : Option Nat} {B : Nat} {x : Value} (hg : W.grownBy w2 row) (hc : W.cell? ⟨B, 0, none⟩ = some x) (hne : some B ≠ row) : ∀ j u, [x][j]? = some u → w2.cell? ((⟨B, 0, none⟩ : Addr).add j) = some u := by
  intro j u hj
  match j, hj with
  | 0, hj =>
    simp at hj
    subst hj
    simpa [Addr.add] using hg.cell hc hne

theorem ne_old {u : Value} {N : Nat} (hne : ∀ q, u.ownBlock = some q → q < N) : some N ≠ u.ownBlock := fun e => by have := hne _ e.symm; omega
theorem ne_block {u : Value} {N g n c M : Nat} (hne : ∀ q, u.ownBlock = some q → q < N) (hg : u.ownBlock = some g ∨ M ≤ g) (hM : N < M) : some N ≠ (Value.slice (some ⟨g, 0, none⟩) n c).ownBlock := fun e => by
  have e' : N = g := Option.some.inj e
  rcases hg with h | h
  · have := hne _ h; omega
  · omega

theorem second_cell (w : World) (o : Obj) (x : Value) (e : TypeId) : ((w.alloc o).alloc (.cells #[x] e)).drew.cell? ⟨w.heap.size + 1, 0, none⟩ = some x := by
  have hg := heap_alloc_new (w.alloc o) (.cells #[x] e)
  rw [World.size_alloc] at hg
  exact (cell_of_row _ _ 0 #[x] e _ hg).trans rfl

theorem own_next {W : World} {base : Nat} {e : TypeId} {v : Value} {L M : List Int} {tn ln : Nat} (hN : M = L ++ (tagL tn ++ [(ln : Int)])) (h : W.ownsRow base e 1 v (L.length + tagLen tn + 1) (L.map (Value.int .u8) ++ (tagL tn).map (Value.int .u8) ++ [.int .u8 (ln : Int)])) :
    W.ownsRow base e 1 v M.length (M.map (Value.int .u8)) := by
  subst hN
  rw [List.length_append, List.length_append, tagL_length, List.map_append, List.map_append, ← List.append_assoc]
  exact h

theorem fieldsE_zero {fs : List (Int × Int)} (h : fieldsE fs = 0) : fs.all okF = true ∧ fs.length ≤ 100 := by
  unfold fieldsE at h
  by_cases ha : fs.all okF = true
  · rw [if_pos ha] at h
    by_cases hl : 100 < fs.length
    · rw [if_pos hl] at h; simp at h
    · exact ⟨ha, by omega⟩
  · rw [if_neg ha] at h; simp at h
theorem okF_of {fs : List (Int × Int)} (h : fs.all okF = true) (k : Nat) (hk : k < fs.length) : 1 ≤ (fs.getD k (0, 0)).1 ∧ (fs.getD k (0, 0)).1 < 16777216 ∧ 0 ≤ (fs.getD k (0, 0)).2 ∧ (fs.getD k (0, 0)).2 ≤ 255 := by
  have hm : fs.getD k (0, 0) ∈ fs := by rw [List.getD_eq_getElem?_getD, List.getElem?_eq_getElem hk]; exact List.getElem_mem hk
  have := List.all_eq_true.1 h _ hm
  unfold okF at this
  simp at this
  obtain ⟨h1, h2, h3, h4⟩ := this
  obtain ⟨h5, h6⟩ := validB_lt h1
  exact ⟨h5, h6, h3, h4⟩


end Go.Proofs.Ytamamlpicookiah
