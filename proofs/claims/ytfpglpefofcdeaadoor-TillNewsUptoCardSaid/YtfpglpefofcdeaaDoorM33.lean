/- parts of the program's talk: text, blame, number, print. -/
import Derived.Test.YtfpglpefofcdeaaDoorM31
import Derived.Test.YtfpglpefofcdeaaDoorM32
import Derived.Deep.AppendLies
import Derived.Deep.RegionHeld3
import Derived.Deep.RegionWith
import Derived.Deep.RegionLaw
namespace Go.Proofs.YtfpglpefofcdeaaDoor
open Go.RowKit
set_option linter.unusedVariables false

/-- a text with its tag -/
def leafC (x : Int × ByteArray) : List Value := [.int .i64 x.1, .string x.2, .slice none 0 0]
def leavesC : List (Int × ByteArray) → List Value
  | [] => []
  | x :: r => leafC x ++ leavesC r
theorem leavesC_snoc (l : List (Int × ByteArray)) (x : Int × ByteArray) : leavesC (l ++ [x]) = leavesC l ++ leafC x := by
  induction l with
  | nil => simp [leavesC]
  | cons y r ih => simp [leavesC, ih]
theorem leavesC_length (l : List (Int × ByteArray)) : (leavesC l).length = l.length * 3 := by
  induction l with
  | nil => rfl
  | cons y r ih => simp [leavesC, leafC, ih]; omega
theorem leavesC_at (l : List (Int × ByteArray)) (i : Nat) (x : Int × ByteArray) (h : l[i]? = some x) : (leavesC l)[i * 3]? = some (.int .i64 x.1) ∧ (leavesC l)[i * 3 + 1]? = some (.string x.2) ∧ (leavesC l)[i * 3 + 2]? = some (.slice none 0 0) := by
  induction l generalizing i with
  | nil => simp at h
  | cons y r ih =>
    cases i with
    | zero =>
      obtain rfl : y = x := by simpa using h
      exact ⟨rfl, rfl, rfl⟩
    | succ i =>
      obtain ⟨h0, h1, h2⟩ := ih i (by simpa using h)
      have e : ∀ j, (leavesC (y :: r))[(i + 1) * 3 + j]? = (leavesC r)[i * 3 + j]? := fun j => by
        rw [leavesC, List.getElem?_append_right (by simp [leafC]; omega)]
        congr 1
        simp [leafC]; omega
      exact ⟨(e 0).trans h0, (e 1).trans h1, (e 2).trans h2⟩
/-- what is gathered: a block with the row and the first thing that is wrong -/
def Parts (w : World) (b : Nat) (ls : List (Int × ByteArray)) (er : Int) : Prop :=
  ∃ v, w.heap[b]? = some (.cells #[v, .int .i64 er] 103 (0, 0)) ∧ w.ownsRow (b + 1) 123 3 v ls.length (leavesC ls)
theorem Parts.lt {w : World} {b : Nat} {ls : List (Int × ByteArray)} {er : Int} (h : Parts w b ls er) : b < w.heap.size := by
  obtain ⟨v, hh, _⟩ := h
  exact block_ltQ hh
theorem Parts.below {w w' : World} {b : Nat} {ls : List (Int × ByteArray)} {er : Int} (h : Parts w b ls er) (hb : Below w.heap.size w w') : Parts w' b ls er := by
  obtain ⟨v, hh, ho⟩ := h
  exact ⟨v, (hb.block b (block_ltQ hh)).trans hh, owns_keep ho hb⟩
theorem alloc_keepT {w : World} {g : Nat} {o o' : Obj} (h : w.heap[g]? = some o) : (w.drew.alloc o').heap[g]? = some o := by
  rw [((Below.refl w.drew.heap.size w.drew).alloc (Nat.le_refl _) o').block g (block_ltQ h)]; exact h
theorem owns_setQ {w : World} {base b j : Nat} {e : TypeId} {size : Nat} {v u : Value} {n : Nat} {xs : List Value} (h : w.ownsRow base e size v n xs) (hb : b < base) : (w.setCell ⟨b, j, none⟩ u).ownsRow base e size v n xs := by
  refine ⟨h.1, ?_⟩
  rcases h.2 with h1 | ⟨g, cap, cur, h1, hB, hh, h2⟩
  · exact .inl h1
  · exact .inr ⟨g, cap, cur, h1, hB, (Below.heap_setCell _ _ _ _ (by show g ≠ b; omega)).trans hh, h2⟩
theorem blame_any (b : Nat) (ls : List (Int × ByteArray)) (er x : Int) (w : World) (h : Parts w b ls er) :
    Calls Tryd.prog 45 #[.pointer (some ⟨b, 0, none⟩), .int .i64 x] w fun e w' => e = .returned (.tuple #[]) ∧ Parts w' b ls (if er = 0 then x else er) ∧ Below b w w' := by
  obtain ⟨v, hh, ho⟩ := h
  have c1 : w.cell? ⟨b, 1, none⟩ = some (.int .i64 er) := cell_of_row _ _ 1 _ _ _ hh
  have f1 : ∀ o, w.frozen? ⟨b, o, none⟩ = false := fun o => frozen_of_row _ _ o _ _ hh
  by_cases he : er = 0
  · rw [if_pos he]
    subst he
    have H := hide hh; have HO := hide ho
    clear hh ho
    go_enter Tryd.func45, Tryd.ntmps45
    go_wp2
    go_end0
    refine ⟨rfl, ⟨v, set_rowQ (j := 1) (v := .int .i64 x) (unhide H), ?_⟩, Below.setCell (p := ⟨b, 1, none⟩) (Below.refl _ _) (Nat.le_refl _) _⟩
    exact owns_setQ (unhide HO) (Nat.lt_succ_self _)
  · rw [if_neg he]
    have t1 : (er == 0) = false := by simpa using he
    have H := hide hh; have HO := hide ho
    clear hh ho he
    go_enter Tryd.func45, Tryd.ntmps45
    go_wp2
    go_end0
    exact ⟨rfl, ⟨v, unhide H, unhide HO⟩, Below.refl _ _⟩

theorem infoItemT : (Tryd.prog.info? 123).map (fun i => (i.zero, i.size, i.bytes)) = some (some (.agg #[.int .i64 0, .string ⟨#[]⟩, .slice none 0 0]), 3, 48) := by kernel_rfl
theorem text_facts {w w3 : World} {o : Obj} {b g cap : Nat} {v : Value} {er : Int} {ls : List (Int × ByteArray)} (hh : w.heap[b]? = some (.cells #[v, .int .i64 er] 103 (0, 0)))
    (hgrow : (w.drew.alloc o).grownBy w3 v.ownBlock) (own3 : w3.ownsRow (b + 1) 123 3 (.slice (some ⟨g, 0, none⟩) (ls.length + 1) cap) (ls.length + 1) (leavesC ls ++ [.int .i64 0, .string ⟨#[]⟩, .slice none 0 0]))
    (hne : some b ≠ v.ownBlock) :
    w3.cell? ⟨g, ls.length * 3, none⟩ = some (.int .i64 0) ∧ w3.cell? ⟨g, ls.length * 3 + 1, none⟩ = some (.string ⟨#[]⟩) ∧ w3.cell? ⟨g, ls.length * 3 + 2, none⟩ = some (.slice none 0 0) ∧
    (∀ o, w3.frozen? ⟨g, o, none⟩ = false) ∧ w3.cell? ⟨b, 0, none⟩ = some v ∧ (∀ o, w3.frozen? ⟨b, o, none⟩ = false) ∧ b < g := by
  have hb3 : w3.heap[b]? = some (.cells #[v, .int .i64 er] 103 (0, 0)) := by
    rw [hgrow.block b (by have := block_ltQ hh; simp; omega) hne]
    exact alloc_keepT hh
  rcases own3.2 with ⟨h1, h2⟩ | ⟨g', cap', cur, h1, hB, hh3, hle, hm, hsz, htk⟩
  · cases h1
  · simp only [Value.slice.injEq, Option.some.injEq, Addr.mk.injEq, and_true, true_and] at h1
    obtain ⟨rfl, rfl⟩ := h1
    have hl := leavesC_length ls
    have hc : ∀ j, j < 3 → cur[ls.length * 3 + j]? = ([.int .i64 0, .string ⟨#[]⟩, .slice none 0 0] : List Value)[j]? := fun j hj => by
      have e : (leavesC ls ++ [.int .i64 0, .string ⟨#[]⟩, .slice none 0 0])[ls.length * 3 + j]? = ([.int .i64 0, .string ⟨#[]⟩, .slice none 0 0] : List Value)[j]? := by
        rw [List.getElem?_append_right (by omega)]
        congr 1
        omega
      rw [← htk, List.getElem?_take_of_lt (by omega)] at e
      rw [← e]
      simp
    refine ⟨?_, ?_, ?_, fun o => frozen_of_row _ _ o _ _ hh3, cell_of_row _ _ 0 _ _ _ hb3, fun o => frozen_of_row _ _ o _ _ hb3, by omega⟩
    · rw [cell_of_row _ _ _ _ _ _ hh3]; exact hc 0 (by omega)
    · rw [cell_of_row _ _ _ _ _ _ hh3]; exact hc 1 (by omega)
    · rw [cell_of_row _ _ _ _ _ _ hh3]; exact hc 2 (by omega)
theorem set3 (L : List Value) (a b c x y z : Value) (m : Nat) (h : L.length = m) : (((L ++ [a, b, c]).set m x).set (m + 1) y).set (m + 2) z = L ++ [x, y, z] := by
  subst h
  induction L with
  | nil => rfl
  | cons u r ih => exact congrArg (List.cons u) ih
theorem parts_own {w : World} {b g cap : Nat} {t : Int} {s : ByteArray} {ls : List (Int × ByteArray)}
    (own3 : w.ownsRow (b + 1) 123 3 (.slice (some ⟨g, 0, none⟩) (ls.length + 1) cap) (ls.length + 1) (leavesC ls ++ [.int .i64 0, .string ⟨#[]⟩, .slice none 0 0])) :
    (((w.setCell ⟨g, ls.length * 3, none⟩ (.int .i64 t)).setCell ⟨g, ls.length * 3 + 1, none⟩ (.string s)).setCell ⟨g, ls.length * 3 + 2, none⟩ (.slice none 0 0)).ownsRow (b + 1) 123 3 (.slice (some ⟨g, 0, none⟩) (ls.length + 1) cap) (ls ++ [(t, s)]).length (leavesC (ls ++ [(t, s)])) := by
  have h1 := (own3.stored (ls.length * 3) (.int .i64 t)).1
  have h2 := (h1.stored (ls.length * 3 + 1) (.string s)).1
  have h3 := (h2.stored (ls.length * 3 + 2) (.slice none 0 0)).1
  rw [set3 _ _ _ _ _ _ _ _ (leavesC_length ls)] at h3
  rw [leavesC_snoc, List.length_append]
  exact h3
theorem parts_done {w : World} {b g cap : Nat} {t er : Int} {s : ByteArray} {ls : List (Int × ByteArray)} {v : Value}
    (own3 : w.ownsRow (b + 1) 123 3 (.slice (some ⟨g, 0, none⟩) (ls.length + 1) cap) (ls.length + 1) (leavesC ls ++ [.int .i64 0, .string ⟨#[]⟩, .slice none 0 0]))
    (hblk : w.heap[b]? = some (.cells #[v, .int .i64 er] 103 (0, 0))) (hgb : b < g) :
    Parts ((((w.setCell ⟨g, ls.length * 3, none⟩ (.int .i64 t)).setCell ⟨g, ls.length * 3 + 1, none⟩ (.string s)).setCell ⟨g, ls.length * 3 + 2, none⟩ (.slice none 0 0)).setCell ⟨b, 0, none⟩ (.slice (some ⟨g, 0, none⟩) (ls.length + 1) cap)) b (ls ++ [(t, s)]) er := by
  refine ⟨_, set_rowQ (cs := #[v, .int .i64 er]) ?_, owns_setQ (parts_own own3) (Nat.lt_succ_self _)⟩
  rw [Below.heap_setCell _ _ _ _ (by show b ≠ g; omega), Below.heap_setCell _ _ _ _ (by show b ≠ g; omega), Below.heap_setCell _ _ _ _ (by show b ≠ g; omega)]
  exact hblk
theorem parts_done2 {w : World} {b g cap : Nat} {t er : Int} {s : ByteArray} {ls : List (Int × ByteArray)} {v : Value}
    (own3 : w.ownsRow (b + 1) 123 3 (.slice (some ⟨g, 0, none⟩) (ls.length + 1) cap) (ls.length + 1) (leavesC ls ++ [.int .i64 0, .string ⟨#[]⟩, .slice none 0 0]))
    (hblk : w.heap[b]? = some (.cells #[v, .int .i64 er] 103 (0, 0))) (hgb : b < g) :
    Parts ((((w.setCell ⟨b, 0, none⟩ (.slice (some ⟨g, 0, none⟩) (ls.length + 1) cap)).setCell ⟨g, ls.length * 3, none⟩ (.int .i64 t)).setCell ⟨g, ls.length * 3 + 1, none⟩ (.string s)).setCell ⟨g, ls.length * 3 + 2, none⟩ (.slice none 0 0)) b (ls ++ [(t, s)]) er := by
  refine ⟨_, ?_, parts_own (owns_setQ own3 (Nat.lt_succ_self _))⟩
  rw [Below.heap_setCell _ _ _ _ (by show b ≠ g; omega), Below.heap_setCell _ _ _ _ (by show b ≠ g; omega), Below.heap_setCell _ _ _ _ (by show b ≠ g; omega)]
  exact set_rowQ (cs := #[v, .int .i64 er]) hblk
set_option maxRecDepth 100000 in
set_option maxHeartbeats 4000000 in
theorem text_any (b : Nat) (ls : List (Int × ByteArray)) (er t : Int) (s : ByteArray) (w : World) (h : Parts w b ls er) (hl : ls.length ≤ 20) :
    Calls Tryd.prog 43 #[.pointer (some ⟨b, 0, none⟩), .int .i64 t, .string s] w fun e w' => e = .returned (.tuple #[]) ∧ Parts w' b (ls ++ [(t, s)]) er ∧ Below b w w' := by
  obtain ⟨i0, hi, hz0, hz1, hz2⟩ := info_parts infoItemT
  have hlt := h.lt
  obtain ⟨v, hh, ho⟩ := h
  obtain ⟨ta, tc, rfl⟩ : ∃ ta tc, v = .slice ta ls.length tc := by
    rcases ho.2 with ⟨h1, h2⟩ | ⟨g, cap, cur, h1, _⟩
    · exact ⟨none, 0, by rw [h1, h2]⟩
    · exact ⟨_, cap, h1⟩
  have hne : some b ≠ (Value.slice ta ls.length tc).ownBlock := by
    rcases ho.2 with ⟨h1, h2⟩ | ⟨g, cap, cur, h1, hB, _⟩
    · rw [h1]; simp [Value.ownBlock]
    · rw [h1]; simp [Value.ownBlock]; omega
  have c0 : w.cell? ⟨b, 0, none⟩ = some (.slice ta ls.length tc) := cell_of_row _ _ 0 _ _ _ hh
  have hl' : (ls.length : Int) ≤ 20 := by omega
  have hl1 : (ls.length : Int) < (ls.length : Int) + 1 := by omega
  have H := hide hh; have HO := hide ho; have HI := hide hi; have Z0 := hide hz0; have Z1 := hide hz1; have Z2 := hide hz2; have HNE := hide hne
  clear hh ho hi hz0 hz1 hz2 hne
  go_enter Tryd.func43, Tryd.ntmps43
  go_wp2_with fail
  go_region_law ((refine step_append_lies _ (by rfl) _ _ _ (by rfl) (b + 1) 123 i0 _ 3 48 Tryd.underlying101 (unhide HI) (unhide Z0) (unhide Z1) (unhide Z2) rfl (by omega) _ _ _ (by rfl) ((unhide HO).drew.alloc _) ⟨w.heap.size, 0, none⟩ 1 1 [.int .i64 0, .string ⟨#[]⟩, .slice none 0 0] (by rfl) (by rfl) (World.news_of_block (heap_alloc_new _ _)) (by simp [Value.oneCell']) (by omega) (by unfold maxLen; omega) (by omega) (by simp; omega) (w.heap.size + 1) (by simp) ?_; intro g cap' w3 own3 hgrow hat3 hlt3; obtain ⟨q0, q1, q2, qf, q3, qfb, hgb⟩ := text_facts (unhide H) hgrow own3 (unhide HNE)))
  all_goals
    have hb3 : Below b w w3 := (((Below.refl b w).drew).alloc (by simp; omega) _).grown hgrow (by simp; omega) (fun q hq => by have := ((unhide HO).lt q hq).1; omega)
    have hblk : w3.heap[b]? = some (.cells #[.slice ta ls.length tc, .int .i64 er] 103 (0, 0)) := by
      rw [hgrow.block b (by simp; omega) (unhide HNE)]
      exact alloc_keepT (unhide H)
    have hp1 := parts_done (t := t) (s := s) own3 hblk hgb
    have hp2 := parts_done2 (t := t) (s := s) own3 hblk hgb
    have hB1 := (((hb3.setCell (p := ⟨g, ls.length * 3, none⟩) (Nat.le_of_lt hgb) (.int .i64 t)).setCell (p := ⟨g, ls.length * 3 + 1, none⟩) (Nat.le_of_lt hgb) (.string s)).setCell (p := ⟨g, ls.length * 3 + 2, none⟩) (Nat.le_of_lt hgb) (.slice none 0 0)).setCell (p := ⟨b, 0, none⟩) (Nat.le_refl _) (.slice (some ⟨g, 0, none⟩) (ls.length + 1) cap')
    have hB2 := (((hb3.setCell (p := ⟨b, 0, none⟩) (Nat.le_refl _) (.slice (some ⟨g, 0, none⟩) (ls.length + 1) cap')).setCell (p := ⟨g, ls.length * 3, none⟩) (Nat.le_of_lt hgb) (.int .i64 t)).setCell (p := ⟨g, ls.length * 3 + 1, none⟩) (Nat.le_of_lt hgb) (.string s)).setCell (p := ⟨g, ls.length * 3 + 2, none⟩) (Nat.le_of_lt hgb) (.slice none 0 0)
    have HP1 := hide hp1; have HP2 := hide hp2; have HB1 := hide hB1; have HB2 := hide hB2
    clear hp1 hp2 hB1 hB2 hb3 hblk own3 hgrow hat3 hlt3 q0 q1 q2 q3
    go_end0
    first
      | (with_reducible exact ⟨rfl, unhide HP1, unhide HB1⟩)
      | (with_reducible exact ⟨rfl, unhide HP2, unhide HB2⟩)
end Go.Proofs.YtfpglpefofcdeaaDoor
