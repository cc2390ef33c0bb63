/- The reference's end: Tick. -/
import Derived.Test.YthchicolifkpiaaDoorREnd
namespace Go.Proofs.YthchicolifkpiaaDoor
open Go.RowKit
set_option linter.unusedVariables false

theorem two_below (w : World) (x y : Obj) : Below w.heap.size w ((w.alloc x).alloc y) := ((Below.refl _ w).alloc (Nat.le_refl _) x).alloc (by simp) y
theorem two_kept {w w' : World} {x y : Obj} (h : Below ((w.alloc x).alloc y).heap.size ((w.alloc x).alloc y) w') : w'.heap[w.heap.size]? = some x ∧ w'.heap[w.heap.size + 1]? = some y := by
  refine ⟨?_, ?_⟩
  · rw [h.block w.heap.size (by simp; omega), ((Below.refl (w.alloc x).heap.size (w.alloc x)).alloc (Nat.le_refl _) y).block w.heap.size (by simp)]
    exact heap_alloc_new w x
  · rw [h.block (w.heap.size + 1) (by simp)]
    have := heap_alloc_new (w.alloc x) y
    simpa using this
/-- the time behind a tick -/
def tickN (n : Nat) (ago : Int) : Int := if 0 < n ∧ 0 ≤ ago then ago + 1 else ago

set_option maxRecDepth 100000 in
set_option maxHeartbeats 2000000 in
theorem rtick_any (G T : List ByteArray) (A k : Nat) (go : Option Addr) (gc : Nat) (ago : Int) (ko : Option Addr) (kn kc : Nat) (o : Bool) (told : Int) (w : World) (hr : SRow w go G) (hs : ∀ s ∈ G, s.size ≤ 4096) (hl : (G.length : Int) ≤ 1048576) (hrel : OutRel G A T k) (h0 : -1 ≤ ago) (h1 : ago ≤ 1048576) :
    Calls Tryd.prog 12 #[rend go G.length gc A ago ko kn kc o told] w fun e w' => e = .returned (rend go G.length gc A (tickN T.length ago) ko kn kc o told) ∧ Below w.heap.size w w' := by
  have N1 := hide (fun w' (hb : Below w.heap.size w w') => rleft_any G T A k go gc ago ko kn kc o told w' (hr.below hb) hs hl hrel)
  have hTl : (T.length : Int) ≤ 1048576 := by
    obtain ⟨D, hG, _⟩ := hrel
    have : G.length = D.length + T.length := by rw [hG]; simp
    omega
  clear hr hs hrel
  generalize hX : tickN T.length ago = X
  have HX := hide hX
  clear hX
  generalize T.length = tn at *
  go_enter Tryd.func12, Tryd.ntmps12
  go_wp2_with fail
  refine (unhide N1 _ ?_).mono ?_
  · exact two_below w _ _
  rintro e w1 ⟨rfl, hb1⟩
  have hw1 : Below w.heap.size w w1 := (two_below w _ _).trans (hb1.mono (two_below w _ _).size)
  obtain ⟨q1, q2⟩ := two_kept hb1
  have hz : w.heap.size + 1 < w1.heap.size := by have := hb1.size; simp at this; omega
  have hB : w.heap.size ≤ w.heap.size + 1 := by omega
  clear hb1
  have c0 : w1.cell? ⟨w.heap.size, 0, none⟩ = some (.slice go G.length gc) := (cell_of_row _ _ 0 _ _ _ q1).trans rfl
  have c1 : w1.cell? ⟨w.heap.size, 1, none⟩ = some (.int .i64 A) := (cell_of_row _ _ 1 _ _ _ q1).trans rfl
  have c2 : w1.cell? ⟨w.heap.size, 2, none⟩ = some (.int .i64 ago) := (cell_of_row _ _ 2 _ _ _ q1).trans rfl
  have c3 : w1.cell? ⟨w.heap.size, 3, none⟩ = some (.slice ko kn kc) := (cell_of_row _ _ 3 _ _ _ q1).trans rfl
  have c4 : w1.cell? ⟨w.heap.size, 4, none⟩ = some (.bool o) := (cell_of_row _ _ 4 _ _ _ q1).trans rfl
  have c5 : w1.cell? ⟨w.heap.size, 5, none⟩ = some (.int .i64 told) := (cell_of_row _ _ 5 _ _ _ q1).trans rfl
  have z0 : w1.cell? ⟨w.heap.size + 1, 0, none⟩ = some (.slice none 0 0) := (cell_of_row _ _ 0 _ _ _ q2).trans rfl
  have z1 : w1.cell? ⟨w.heap.size + 1, 1, none⟩ = some (.int .i64 0) := (cell_of_row _ _ 1 _ _ _ q2).trans rfl
  have z2 : w1.cell? ⟨w.heap.size + 1, 2, none⟩ = some (.int .i64 0) := (cell_of_row _ _ 2 _ _ _ q2).trans rfl
  have z3 : w1.cell? ⟨w.heap.size + 1, 3, none⟩ = some (.slice none 0 0) := (cell_of_row _ _ 3 _ _ _ q2).trans rfl
  have z4 : w1.cell? ⟨w.heap.size + 1, 4, none⟩ = some (.bool false) := (cell_of_row _ _ 4 _ _ _ q2).trans rfl
  have z5 : w1.cell? ⟨w.heap.size + 1, 5, none⟩ = some (.int .i64 0) := (cell_of_row _ _ 5 _ _ _ q2).trans rfl
  have f0 : w1.frozen? ⟨w.heap.size + 1, 0, none⟩ = false := frozen_of_row _ _ 0 _ _ q2
  have f1 : w1.frozen? ⟨w.heap.size + 1, 1, none⟩ = false := frozen_of_row _ _ 1 _ _ q2
  have f2 : w1.frozen? ⟨w.heap.size + 1, 2, none⟩ = false := frozen_of_row _ _ 2 _ _ q2
  have f3 : w1.frozen? ⟨w.heap.size + 1, 3, none⟩ = false := frozen_of_row _ _ 3 _ _ q2
  have f4 : w1.frozen? ⟨w.heap.size + 1, 4, none⟩ = false := frozen_of_row _ _ 4 _ _ q2
  have f5 : w1.frozen? ⟨w.heap.size + 1, 5, none⟩ = false := frozen_of_row _ _ 5 _ _ q2
  have f9 : w1.frozen? ⟨w.heap.size, 2, none⟩ = false := frozen_of_row _ _ 2 _ _ q1
  clear q1 q2
  by_cases ht : 0 < tn
  · have ht' : (0 : Int) < (tn : Int) := by omega
    by_cases hg : 0 ≤ ago
    · have HY := hide (show X = ago + 1 by rw [← unhide HX]; exact if_pos ⟨ht, hg⟩)
      clear ht
      go_wp2
      exact bodyPost_ret (v := rend go G.length gc A (ago + 1) ko kn kc o told) (by simp [results, Tryd.results12, go_sem, z0, z1, z2, z3, z4, z5]) rfl ⟨by rw [unhide HY], (((((((hw1.setCell (Nat.le_refl _) _).setCell hB _).setCell hB _).setCell hB _).setCell hB _).setCell hB _).setCell hB _)⟩
    · have HY := hide (show X = ago by rw [← unhide HX]; exact if_neg (fun h => hg h.2))
      clear ht
      go_wp2
      exact bodyPost_ret (v := rend go G.length gc A (ago) ko kn kc o told) (by simp [results, Tryd.results12, go_sem, z0, z1, z2, z3, z4, z5]) rfl ⟨by rw [unhide HY], ((((((hw1.setCell hB _).setCell hB _).setCell hB _).setCell hB _).setCell hB _).setCell hB _)⟩
  · have ht' : ¬ (0 : Int) < (tn : Int) := by omega
    have HY := hide (show X = ago by rw [← unhide HX]; exact if_neg (fun h => ht h.1))
    clear ht
    go_wp2
    exact bodyPost_ret (v := rend go G.length gc A (ago) ko kn kc o told) (by simp [results, Tryd.results12, go_sem, z0, z1, z2, z3, z4, z5]) rfl ⟨by rw [unhide HY], ((((((hw1.setCell hB _).setCell hB _).setCell hB _).setCell hB _).setCell hB _).setCell hB _)⟩
end Go.Proofs.YthchicolifkpiaaDoor
