/- host's newAccount. -/
import Derived.Test.YtbiipeapcclbkaaDoorHkF
import Derived.Deep.RegionHeld3
import Derived.Deep.RegionWith
namespace Go.Proofs.YtbiipeapcclbkaaDoor
open Go.RowKit Go.WideMaps Go.Maps
set_option linter.unusedVariables false
set_option linter.unusedSimpArgs false
set_option maxRecDepth 100000

set_option maxHeartbeats 2000000 in
theorem keyFor_any (v : Int) (k i : ByteArray) (hi : i.size ≤ maxLen) (w : World) :
    Calls Tryd.prog 31 #[.agg #[.int .i64 v, .string k], .string i] w fun e w' => (∃ s, e = .returned (.agg #[.int .i64 v, .string s])) ∧ Below w.heap.size w w' := by
  obtain ⟨W1, hW1⟩ : ∃ W1, W1 = (w.alloc (.cells #[.int .i64 v, .string k] 52)).alloc (.cells #[.int .i64 0, .string ⟨#[]⟩] 52) := ⟨_, rfl⟩
  have hB1 : Below w.heap.size w W1 := by rw [hW1]; exact ((Below.refl _ _).alloc (Nat.le_refl _) _).alloc (by simp) _
  have hX1 : W1.heap[w.heap.size]? = some (.cells #[.int .i64 v, .string k] 52 (0, 0)) := by
    rw [hW1]
    exact (((Below.refl (w.alloc (.cells #[.int .i64 v, .string k] 52)).heap.size (w.alloc (.cells #[.int .i64 v, .string k] 52))).alloc (Nat.le_refl _) _).block w.heap.size (by simp)).trans (heap_alloc_new _ _)
  have hX2 : W1.heap[w.heap.size + 1]? = some (.cells #[.int .i64 0, .string ⟨#[]⟩] 52 (0, 0)) := by
    rw [hW1]
    have := heap_alloc_new (w.alloc (.cells #[.int .i64 v, .string k] 52)) (.cells #[.int .i64 0, .string ⟨#[]⟩] 52)
    rwa [show (w.alloc (.cells #[.int .i64 v, .string k] 52)).heap.size = w.heap.size + 1 by simp] at this
  have c1 : W1.cell? ⟨w.heap.size, 1, none⟩ = some (.string k) := (cell_of_row _ _ 1 _ _ _ hX1).trans rfl
  have N := hide (cardKey_any k i hi W1)
  generalize ckS k i = ks at *
  generalize ckE k i = ke at *
  have HW1 := hide hW1; have HB1 := hide hB1; have HX1 := hide hX1; have HX2 := hide hX2
  clear hW1 hB1 hX1 hX2 hi
  go_enter Tryd.func31, Tryd.ntmps31
  go_upto_region 1 with fail
  rw [← unhide HW1]
  go_wp2_with fail
  refine (unhide N).mono ?_
  rintro e w2 ⟨rfl, hb2⟩
  have hY1 := (hb2.block _ (blkLtH (unhide HX1))).trans (unhide HX1)
  have hY2 := (hb2.block _ (blkLtH (unhide HX2))).trans (unhide HX2)
  have d0 : w2.cell? ⟨w.heap.size, 0, none⟩ = some (.int .i64 v) := (cell_of_row _ _ 0 _ _ _ hY1).trans rfl
  have e0 : w2.cell? ⟨w.heap.size + 1, 0, none⟩ = some (.int .i64 0) := (cell_of_row _ _ 0 _ _ _ hY2).trans rfl
  have e1 : w2.cell? ⟨w.heap.size + 1, 1, none⟩ = some (.string ⟨#[]⟩) := (cell_of_row _ _ 1 _ _ _ hY2).trans rfl
  have f0 : w2.frozen? ⟨w.heap.size + 1, 0, none⟩ = false := by simp [World.frozen?, hY2]
  have f1 : w2.frozen? ⟨w.heap.size + 1, 1, none⟩ = false := by simp [World.frozen?, hY2]
  have HBZ := hide ((unhide HB1).trans (hb2.mono (unhide HB1).size))
  have HLT := hide (blkLtH hY2)
  clear hb2 hY1 hY2
  go_wp2
  refine bodyPost_ret (v := .agg #[.int .i64 v, .string ks]) ?_ rfl ⟨⟨_, rfl⟩, ?_⟩
  · simp [results, Tryd.results31, go_sem, d0, e0, e1]
  · exact ((unhide HBZ).setCell (by simp) _).setCell (by simp) _
end Go.Proofs.YtbiipeapcclbkaaDoor
