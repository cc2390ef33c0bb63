/- A book's Get. -/
import Derived.Test.YtbiipeapcclbkaaBkT
namespace Go.Proofs.Ytbiipeapcclbkaa
open Go.RowKit Go.Shelf
set_option linter.unusedVariables false
set_option linter.unusedSimpArgs false
set_option maxRecDepth 100000

section
variable {w w' : World} {B bb mb : Nat} {v pl : Value} {M : Mm} {L : List En}
def enV (n : Int) (e : En) : Value := .agg #[.int .i64 n, .int .i64 e.what, .int .i64 e.how, .string e.text]
set_option maxHeartbeats 2000000 in
theorem get_no (h : BookAt w B bb mb v M pl L) (n : Int) (hn : wiB n 1 (L.length : Int) = false) : Calls Try.prog 21 #[.pointer (some ⟨bb, 0, none⟩), .int .i64 n] w fun r w' => r = .returned (.tuple #[.agg #[.int .i64 0, .int .i64 0, .int .i64 0, .string ⟨#[]⟩], .int .i64 5]) ∧ Below w.heap.size w w' := by
  have hB : Below w.heap.size w (w.alloc (.cells #[.int .i64 0, .int .i64 0, .int .i64 0, .string ⟨#[]⟩] 60)) := (Below.refl _ _).alloc (Nat.le_refl _) _
  have N := hide (has_any (h.below hB) n)
  rw [hn] at N
  have HB := hide hB
  clear h hn hB
  go_enter Try.func21, Try.ntmps21
  go_wp2_with fail
  refine (unhide N).mono ?_
  rintro r y1 ⟨rfl, hw⟩
  rw [hw]
  clear hw
  go_wp2
  refine bodyPost_ret (v := .tuple #[.agg #[.int .i64 0, .int .i64 0, .int .i64 0, .string ⟨#[]⟩], .int .i64 5]) ?_ rfl ⟨rfl, ?_⟩
  · simp [results, Try.results21, go_sem]
  · exact unhide HB
set_option maxHeartbeats 2000000 in
theorem get_yes (h : BookAt w B bb mb v M pl L) (i : Nat) (e : En) (he : L[i]? = some e) : Calls Try.prog 21 #[.pointer (some ⟨bb, 0, none⟩), .int .i64 ((i : Int) + 1)] w fun r w' => r = .returned (.tuple #[enV ((i : Int) + 1) e, .int .i64 0]) ∧ Below w.heap.size w w' := by
  obtain ⟨W1, hW1⟩ : ∃ W1, W1 = w.alloc (.cells #[.int .i64 0, .int .i64 0, .int .i64 0, .string ⟨#[]⟩] 60) := ⟨_, rfl⟩
  have hB : Below w.heap.size w W1 := by rw [hW1]; exact (Below.refl _ _).alloc (Nat.le_refl _) _
  have hX1 : W1.heap[w.heap.size]? = some (.cells #[.int .i64 0, .int .i64 0, .int .i64 0, .string ⟨#[]⟩] 60) := by rw [hW1]; exact heap_alloc_new _ _
  have h1 := h.below hB
  have hi := (List.getElem?_eq_some_iff.1 he).1
  have hlen := h.len
  have N := hide (has_any h1 ((i : Int) + 1))
  rw [show wiB ((i : Int) + 1) 1 (L.length : Int) = true from decide_eq_true (by omega)] at N
  obtain ⟨c0, c1, c2⟩ := h1.sto.cells
  rcases h1.row.form.2 with hn | ⟨g, cap, hv, hgB, hgl⟩
  · have := congrArg List.length hn
    rw [plsL_len, List.length_nil] at this
    omega
  have hcell := fun (j : Nat) (hj : j < 5) => (show W1.cell? ⟨g, i * 5 + j, none⟩ = (cellsPl (i + 1, e, posL (L.take i)))[j]? from by
    have h2 := h1.row
    rw [hv] at h2
    exact h2.cell cellsPl_len i _ (plsL_get he) j hj)
  have a0 := hcell 0 (by omega); have a1 := hcell 1 (by omega); have a2 := hcell 2 (by omega); have a3 := hcell 3 (by omega); have a4 := hcell 4 (by omega)
  simp only [cellsPl, List.getElem?_cons_zero, List.getElem?_cons_succ, Nat.add_zero] at a0 a1 a2 a3 a4
  rw [hv, plsL_len] at c2
  have l0 : W1.cell? ⟨w.heap.size, 0, none⟩ = some (.int .i64 0) := by simp [World.cell?, hX1]
  have l1 : W1.cell? ⟨w.heap.size, 1, none⟩ = some (.int .i64 0) := by simp [World.cell?, hX1]
  have l2 : W1.cell? ⟨w.heap.size, 2, none⟩ = some (.int .i64 0) := by simp [World.cell?, hX1]
  have l3 : W1.cell? ⟨w.heap.size, 3, none⟩ = some (.string ⟨#[]⟩) := by simp [World.cell?, hX1]
  have gg : ∀ j, W1.frozen? ⟨w.heap.size, j, none⟩ = false := fun j => by simp [World.frozen?, hX1]
  have g0 := gg 0; have g1 := gg 1; have g2 := gg 2; have g3 := gg 3
  have hsub2 : IntKind.i64.wrap (i : Int) = (i : Int) := by rw [IntKind.wrap_i64]; omega
  have hsub3 : IntKind.i64.wrap ((i : Int) + 1 - 1) = (i : Int) := by rw [IntKind.wrap_i64]; omega
  have hil : (i : Int) < (L.length : Int) := by omega
  have hii : (i : Int) ≤ 100000 := by omega
  have HW1 := hide hW1; have HB := hide hB
  generalize L.length = m at *
  obtain ⟨wh, hw, tx⟩ := e
  unfold enV
  dsimp only at *
  clear h h1 he hlen hcell hW1 hB hX1 hv hi gg
  go_enter Try.func21, Try.ntmps21
  go_upto_region 1 with fail
  rw [← unhide HW1]
  go_wp2_with fail
  refine (unhide N).mono ?_
  rintro r y1 ⟨rfl, hw1⟩
  have hw1' := hw1.symm
  subst hw1'
  go_wp2
  refine bodyPost_ret (v := .tuple #[.agg #[.int .i64 ((i : Int) + 1), .int .i64 wh, .int .i64 hw, .string tx], .int .i64 0]) ?_ rfl ⟨rfl, ?_⟩
  · simp [results, Try.results21, go_sem, l0, l1, l2, l3]
  · exact ((((unhide HB).setCell (p := ⟨w.heap.size, 0, none⟩) (Nat.le_refl _) _).setCell (p := ⟨w.heap.size, 1, none⟩) (Nat.le_refl _) _).setCell (p := ⟨w.heap.size, 2, none⟩) (Nat.le_refl _) _).setCell (p := ⟨w.heap.size, 3, none⟩) (Nat.le_refl _) _
end
end Go.Proofs.Ytbiipeapcclbkaa
