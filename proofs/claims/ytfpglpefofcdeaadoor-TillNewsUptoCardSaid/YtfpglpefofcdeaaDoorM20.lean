/- Parse of the program; sameItems of the law, of one list that lies twice. -/
import Derived.Test.YtfpglpefofcdeaaDoorM19
import Derived.Test.YtfpglpefofcdeaaDoorM18
import Derived.Deep.RegionHeld3
import Derived.Deep.AppendLies
namespace Go.Proofs.YtfpglpefofcdeaaDoor
open Go.RowKit
set_option linter.unusedVariables false

theorem item_wt {d : Nat} {s : ByteArray} {x : It} {r : ByteArray} (ih : ∀ s l, parseD d s = some l → wt d l ≤ s.size) (h : itemAt (parseD d) s = some (x, r)) : 1 + x.text.size + wt d x.list + r.size ≤ s.size := by
  have h1 := (tagSz_le s.data.toList).1
  unfold itemAt at h
  split at h
  · cases h
  · split at h
    · cases h
    · split at h
      · cases h
      · rename_i n k hl
        have hk := lenAt_lt hl
        rw [behind_size] at hk
        split at h
        · cases h
        · rename_i hn
          rw [behind_size, behind_size] at hn
          split at h
          · cases hp : parseD d ((behind (behind s (tagSz s.data.toList)) k).extract 0 n) with
            | none => rw [hp] at h; cases h
            | some l =>
              rw [hp] at h
              have e := Option.some.inj h
              have e1 := (Prod.ext_iff.1 e).1
              have e2 := (Prod.ext_iff.1 e).2
              simp only at e1 e2
              have := ih _ _ hp
              rw [ByteArray.size_extract, behind_size, behind_size] at this
              rw [← e1, ← e2, behind_size, behind_size, behind_size]
              simp only [It.text, It.list]
              have : (⟨#[]⟩ : ByteArray).size = 0 := rfl
              omega
          · have e := Option.some.inj h
            have e1 := (Prod.ext_iff.1 e).1
            have e2 := (Prod.ext_iff.1 e).2
            simp only at e1 e2
            rw [← e1, ← e2, behind_size, behind_size, behind_size]
            simp only [It.text, It.list, wt_nil]
            rw [ByteArray.size_extract, behind_size, behind_size]
            omega
theorem list_wt {d : Nat} (ih : ∀ s l, parseD d s = some l → wt d l ≤ s.size) : ∀ (f : Nat) (s : ByteArray) (l : List It), listP (parseD d) f s = some l → wt (d + 1) l ≤ s.size
  | 0, s, l, h => by
    unfold listP at h
    split at h
    · cases h; simp [wt]
    · cases h
  | f + 1, s, l, h => by
    by_cases hz : s.size = 0
    · rw [listP_empty _ _ hz] at h; cases h; simp [wt]
    · rw [listP_step hz] at h
      cases hi : itemAt (parseD d) s with
      | none => rw [hi] at h; cases h
      | some xr =>
        obtain ⟨x, r⟩ := xr
        rw [hi] at h
        simp only at h
        cases hr : listP (parseD d) f r with
        | none => rw [hr] at h; cases h
        | some m =>
          rw [hr] at h
          have h1 := item_wt ih hi
          have h2 := list_wt ih f r m hr
          have e : l = x :: m := (Option.some.inj h).symm
          rw [e]
          simp only [wt, List.map_cons, List.sum_cons] at h2 ⊢
          omega
theorem parse_wt : ∀ (d : Nat) (s : ByteArray) (l : List It), parseD d s = some l → wt d l ≤ s.size
  | 0, s, l, h => by simp [wt]
  | d + 1, s, l, h => list_wt (parse_wt d) s.size s l h

/-- what Parse answers -/
def parsesL (s : ByteArray) : List It := if 65535 < s.size then [] else (parseD 8 s).getD []
def parsesE (s : ByteArray) : Int := if 65535 < s.size then 2 else if (parseD 8 s).isSome then 0 else 1
theorem parses_wt (s : ByteArray) : wt 8 (parsesL s) ≤ 65535 := by
  unfold parsesL
  split
  · rw [wt_nil]; omega
  · cases h : parseD 8 s with
    | none => simp [wt_nil]
    | some l => have := parse_wt 8 s l h; simp only [Option.getD_some]; omega


theorem below_self (w : World) (q : Nat) : Below w.heap.size w (w.drewN q) := ⟨rfl, rfl, rfl, Nat.le_refl _, fun _ _ => rfl⟩

end Go.Proofs.YtfpglpefofcdeaaDoor
namespace Go.Proofs.YtfpglpefofcdeaaDoor
open Go.RowKit
set_option linter.unusedVariables false

theorem below_keep {w w' : World} {a : Addr} {v : Value} (h : Below w.heap.size w w') (hc : w.cell? a = some v) : w'.cell? a = some v := (h.cell (World.block_lt_of_cell? w a hc)).trans hc

/-- how a row is written: the numbers of the bytes -/
def textL (fs : List (Int × Int)) : List Int := fs.flatMap fun f => tagL f.1.toNat ++ [f.2]
theorem textL_snoc (fs : List (Int × Int)) (f : Int × Int) : textL (fs ++ [f]) = textL fs ++ (tagL f.1.toNat ++ [f.2]) := by simp [textL]
theorem textL_take (fs : List (Int × Int)) (k : Nat) (h : k < fs.length) : textL (fs.take (k + 1)) = textL (fs.take k) ++ (tagL (fs.getD k (0, 0)).1.toNat ++ [(fs.getD k (0, 0)).2]) := by
  rw [List.take_succ_eq_append_getElem h, textL_snoc]
  simp [List.getD_eq_getElem?_getD, List.getElem?_eq_getElem h]
theorem tagL_length (t : Nat) : (tagL t).length = tagLen t := bigL_length t _
theorem textL_length (fs : List (Int × Int)) : (textL fs).length ≤ 4 * fs.length := by
  induction fs with
  | nil => simp [textL]
  | cons f fs ih =>
    have h3 := (tagLen_le f.1.toNat).2
    have e : textL (f :: fs) = (tagL f.1.toNat ++ [f.2]) ++ textL fs := by simp [textL]
    rw [e, List.length_append, List.length_append, tagL_length]
    simp
    omega

theorem news_kept {W w2 : World} {row : Option Nat} {B : Nat} {x : Value} (hg : W.grownBy w2 row) (hc : W.cell? ⟨B, 0, none⟩ = some x) (hne : some B ≠ row) : ∀ j u, [x][j]? = some u → w2.cell? ((⟨B, 0, none⟩ : Addr).add j) = some u := by
  intro j u hj
  match j, hj with
  | 0, hj =>
    simp at hj
    subst hj
    simpa [Addr.add] using hg.cell hc hne

theorem ne_old {u : Value} {N : Nat} (hne : ∀ q, u.ownBlock = some q → q < N) : some N ≠ u.ownBlock := fun e => by have := hne _ e.symm; omega
theorem ne_block {u : Value} {N g n c M : Nat} (hne : ∀ q, u.ownBlock = some q → q < N) (hg : u.ownBlock = some g ∨ M ≤ g) (hM : N < M) : some N ≠ (Value.slice (some ⟨g, 0, none⟩) n c).ownBlock := fun e => by
  have e' : N = g := Option.some.inj e
  rcases hg with h | h
  · have := hne _ h; omega
  · omega

theorem second_cell (w : World) (o : Obj) (x : Value) (e : TypeId) : ((w.alloc o).alloc (.cells #[x] e)).drew.cell? ⟨w.heap.size + 1, 0, none⟩ = some x := by
  have hg := heap_alloc_new (w.alloc o) (.cells #[x] e)
  rw [World.size_alloc] at hg
  exact (cell_of_row _ _ 0 #[x] e _ hg).trans rfl

theorem own_next {W : World} {base : Nat} {e : TypeId} {v : Value} {L M : List Int} {tn ln : Nat} (hN : M = L ++ (tagL tn ++ [(ln : Int)])) (h : W.ownsRow base e 1 v (L.length + tagLen tn + 1) (L.map (Value.int .u8) ++ (tagL tn).map (Value.int .u8) ++ [.int .u8 (ln : Int)])) :
    W.ownsRow base e 1 v M.length (M.map (Value.int .u8)) := by
  subst hN
  rw [List.length_append, List.length_append, tagL_length, List.map_append, List.map_append, ← List.append_assoc]
  exact h

theorem fieldsE_zero {fs : List (Int × Int)} (h : fieldsE fs = 0) : fs.all okF = true ∧ fs.length ≤ 100 := by
  unfold fieldsE at h
  by_cases ha : fs.all okF = true
  · rw [if_pos ha] at h
    by_cases hl : 100 < fs.length
    · rw [if_pos hl] at h; simp at h
    · exact ⟨ha, by omega⟩
  · rw [if_neg ha] at h; simp at h
theorem okF_of {fs : List (Int × Int)} (h : fs.all okF = true) (k : Nat) (hk : k < fs.length) : 1 ≤ (fs.getD k (0, 0)).1 ∧ (fs.getD k (0, 0)).1 < 16777216 ∧ 0 ≤ (fs.getD k (0, 0)).2 ∧ (fs.getD k (0, 0)).2 ≤ 255 := by
  have hm : fs.getD k (0, 0) ∈ fs := by rw [List.getD_eq_getElem?_getD, List.getElem?_eq_getElem hk]; exact List.getElem_mem hk
  have := List.all_eq_true.1 h _ hm
  unfold okF at this
  simp at this
  obtain ⟨h1, h2, h3, h4⟩ := this
  obtain ⟨h5, h6⟩ := validB_lt h1
  exact ⟨h5, h6, h3, h4⟩


end Go.Proofs.YtfpglpefofcdeaaDoor
namespace Go.Proofs.YtfpglpefofcdeaaDoor
open Go.RowKit
set_option linter.unusedVariables false

def printS (fs : List (Int × Int)) : ByteArray := if fieldsE fs = 0 then strOfNums (textL fs) else ⟨#[]⟩

theorem three_sizes (L : List Int) (tn ln : Nat) : (strOfNums (tagL tn)).size ≤ 3 ∧ (strOfNums [lowByte (ln : Int)]).size ≤ 1 ∧ (strOfNums (tagL tn) ++ strOfNums [lowByte (ln : Int)]).size ≤ 4 := by
  have h := (tagLen_le tn).2
  rw [ByteArray.size_append, strOfNums_size, strOfNums_size, tagL_length]
  simp
  omega

theorem new_cell (w : World) (x : Value) (e : TypeId) : (w.alloc (.cells #[x] e)).cell? ⟨w.heap.size, 0, none⟩ = some x := (cell_of_row _ _ 0 #[x] e _ (heap_alloc_new w _)).trans rfl
theorem bytes_low (ln : Nat) (hlow : lowByte (ln : Int) = (ln : Int)) (b off cap : Nat) (w : World) (hc : w.cell? ⟨b, off, none⟩ = some (.int .i64 (ln : Int))) :
    Calls Tryd.prog 49 #[.slice (some ⟨b, off, none⟩) 1 cap] w fun e w' => e = .returned (.string (strOfNums [(ln : Int)])) ∧ Below w.heap.size w w' := by
  have h := bytes_one (ln : Int) b off cap w (World.block_lt_of_cell? _ _ hc) hc
  rw [hlow] at h
  exact h

end Go.Proofs.YtfpglpefofcdeaaDoor
