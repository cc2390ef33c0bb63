/- A book's next. -/
import Derived.Test.YtbiipeapcclbkaaBkR
namespace Go.Proofs.Ytbiipeapcclbkaa
open Go.RowKit Go.Shelf
set_option linter.unusedVariables false
set_option linter.unusedSimpArgs false
set_option maxRecDepth 100000

section
variable {w w' : World} {B bb mb : Nat} {v pl : Value} {M : Mm} {L : List En}
def plN (n : Int) : Obj := .cells #[.int .i64 n, .int .i64 0, .int .i64 0, .string ⟨#[]⟩, .int .i64 0] 62
set_option maxHeartbeats 4000000 in
theorem next_any (h : BookAt w B bb mb v M pl L) : Calls Try.prog 16 #[.pointer (some ⟨bb, 0, none⟩)] w fun r w' => r = .returned (plV (L.length + 1) en0 (posL L)) ∧ Below w.heap.size w w' := by
  obtain ⟨c0, c1, c2⟩ := h.sto.cells
  have hlen := h.len
  have hbl := h.sto.lt
  have hlen' : (L.length : Int) ≤ 100000 := by omega
  have hbn : bb ≠ w.heap.size := by omega
  have hbn1 : bb ≠ w.heap.size + 1 := by omega
  obtain ⟨⟨ao, cap, hv⟩, hfm⟩ := h.row.form
  rw [plsL_len] at hv
  rcases List.eq_nil_or_concat L with hnil | ⟨L0, e, hL⟩
  · subst hnil
    subst hv
    have HB := hide (((Below.refl w.heap.size w).alloc (Nat.le_refl _) plZ).alloc (by simp) (plN 1))
    unfold plZ plN at HB
    unfold plV en0 posL
    dsimp only [List.length_nil] at *
    clear h hfm
    go_enter Try.func16, Try.ntmps16
    go_wp2
    refine bodyPost_ret (v := .agg #[.int .i64 1, .int .i64 0, .int .i64 0, .string ⟨#[]⟩, .int .i64 0]) ?_ rfl ⟨rfl, ?_⟩
    · simp [results, Try.results16, go_sem]
    · exact ((Below.refl _ _).alloc (Nat.le_refl _) _).alloc (by simp) _
  · rcases hfm with hf0 | ⟨g, cap', hv2, hgB, hgl⟩
    · rw [hL] at hf0
      have := congrArg List.length hf0
      rw [plsL_len] at this
      simp at this
    obtain ⟨k, hk⟩ : ∃ k, k = L0.length := ⟨_, rfl⟩
    have hLk : L.length = k + 1 := by rw [hL, hk]; simp
    have hget : L[k]? = some e := by rw [hL, hk]; simp
    have htk : L.take k = L0 := by rw [hL, hk]; simp
    have hrow := h.row
    rw [hv2, plsL_len] at hv
    have hcell := fun (j : Nat) (hj : j < 5) => (show w.cell? ⟨g, k * 5 + j, none⟩ = (cellsPl (k + 1, e, posL (L.take k)))[j]? from by
      have h1 := h.row
      rw [hv2] at h1
      exact h1.cell cellsPl_len k _ (plsL_get hget) j hj)
    rw [htk] at hcell
    have hoke := h.ok e (List.mem_of_getElem? hget)
    have hpos : posL L = posL L0 + wid e := by rw [hL]; simpa using posL_snoc L0 e
    have hpb := h.pos
    have hts := hoke.2.2.2.2
    have NE := hide (fun W => end_any (k + 1) (posL L0) e (by omega) (by omega) W)
    rw [← hpos] at NE
    have a0 := hcell 0 (by omega); have a1 := hcell 1 (by omega); have a2 := hcell 2 (by omega); have a3 := hcell 3 (by omega); have a4 := hcell 4 (by omega)
    simp only [cellsPl, List.getElem?_cons_zero, List.getElem?_cons_succ, Nat.add_zero] at a0 a1 a2 a3 a4
    rw [hv2, plsL_len, hLk] at c2
    obtain ⟨W1, hW1⟩ : ∃ W1, W1 = (w.alloc plZ).alloc (plN ((k : Int) + 1 + 1)) := ⟨_, rfl⟩
    have hs0 : (w.alloc plZ).heap.size = w.heap.size + 1 := by simp
    have hB1 : Below w.heap.size w W1 := by rw [hW1]; exact ((Below.refl _ _).alloc (Nat.le_refl _) _).alloc (by simp) _
    have hX1 : W1.heap[w.heap.size]? = some plZ := by
      rw [hW1]
      exact (((Below.refl (w.alloc plZ).heap.size (w.alloc plZ)).alloc (Nat.le_refl _) _).block w.heap.size (by rw [hs0]; omega)).trans (heap_alloc_new _ _)
    have hX2 : W1.heap[w.heap.size + 1]? = some (plN ((k : Int) + 1 + 1)) := by
      rw [hW1]
      have := heap_alloc_new (w.alloc plZ) (plN ((k : Int) + 1 + 1))
      rwa [hs0] at this
    have b2 := (hB1.cell (p := ⟨bb, 2, none⟩) hbl).trans c2
    have e0 := (hB1.cell (p := ⟨g, k * 5, none⟩) hgl).trans a0
    have e1 := (hB1.cell (p := ⟨g, k * 5 + 1, none⟩) hgl).trans a1
    have e2 := (hB1.cell (p := ⟨g, k * 5 + 2, none⟩) hgl).trans a2
    have e3 := (hB1.cell (p := ⟨g, k * 5 + 3, none⟩) hgl).trans a3
    have e4 := (hB1.cell (p := ⟨g, k * 5 + 4, none⟩) hgl).trans a4
    have hki : (k : Int) ≤ 100000 := by omega
    have hsub : IntKind.i64.wrap ((k : Int) + 1 - 1) = (k : Int) := by rw [IntKind.wrap_i64]; omega
    have hsub2 : IntKind.i64.wrap (k : Int) = (k : Int) := by rw [IntKind.wrap_i64]; omega
    have hklt : (k : Int) < (k : Int) + 1 := by omega
    have hkpos : (0 : Int) < (k : Int) + 1 := by omega
    have HW1 := hide hW1; have HB1 := hide hB1; have HX1 := hide hX1; have HX2 := hide hX2
    rw [hLk]
    generalize posL L = q at *
    generalize posL L0 = q0 at *
    obtain ⟨wh, hw, tx⟩ := e
    unfold plV at NE
    unfold plV en0
    unfold plZ plN at HW1
    dsimp only at *
    clear h hrow hcell hoke hpos hpb hts hget htk hL hLk hW1 hs0 hB1 hX1 hX2 a0 a1 a2 a3 a4 hv hv2 hk hlen hlen' c0 c1
    go_enter Try.func16, Try.ntmps16
    go_upto_region 2 with fail
    rw [← unhide HW1]
    go_wp2_with fail
    go_region_law ((refine step_call1 (by rfl) 24 _ _ (by rfl) (.agg #[.int .i64 ((k + 1 : Nat) : Int), .int .i64 wh, .int .i64 hw, .string tx, .int .i64 (q0 : Int)]) (by rfl) ent_end (unhide NE _) ?_; rintro ev z1 ⟨rfl, k1⟩; refine ⟨_, rfl, ?_⟩; have k0 : Below W1.heap.size W1 z1 := (Below.refl _ _).drew.trans k1; have hy := (k0.block _ (block_ltR (unhide HX2))).trans (unhide HX2); unfold plN at hy; have q4 : z1.cell? ⟨w.heap.size + 1, 4, none⟩ = some (.int .i64 0) := (by simp [World.cell?, hy]); have g4 : z1.frozen? ⟨w.heap.size + 1, 4, none⟩ = false := (by simp [World.frozen?, hy])))
    all_goals
      have hz := (k0.block _ (block_ltR (unhide HX1))).trans (unhide HX1)
      unfold plZ at hz
      have H5 : Hid ((z1.setCell ⟨w.heap.size + 1, 4, none⟩ (.int .i64 (q : Int))).heap[w.heap.size + 1]? = some (.cells #[.int .i64 ((k : Int) + 1 + 1), .int .i64 0, .int .i64 0, .string ⟨#[]⟩, .int .i64 (q : Int)] 62) ∧ (z1.setCell ⟨w.heap.size + 1, 4, none⟩ (.int .i64 (q : Int))).heap[w.heap.size]? = some (.cells #[.int .i64 0, .int .i64 0, .int .i64 0, .string ⟨#[]⟩, .int .i64 0] 62) ∧ Below w.heap.size w (z1.setCell ⟨w.heap.size + 1, 4, none⟩ (.int .i64 (q : Int)))) := hide (by
        refine ⟨?_, ?_, ((unhide HB1).trans (k0.mono (unhide HB1).size)).setCell (p := ⟨w.heap.size + 1, 4, none⟩) (Nat.le_succ _) _⟩
        · simp [World.setCell, Array.getElem?_modify, hy]
        · simp [World.setCell, Array.getElem?_modify, hz])
      clear k0 k1 hy hz q4 g4 e0 e1 e2 e3 e4 b2 hsub hsub2
      generalize z1.setCell ⟨w.heap.size + 1, 4, none⟩ (.int .i64 (q : Int)) = W5 at *
      obtain ⟨a1, a2, a4⟩ := unhide H5
      have k0 : W5.cell? ⟨w.heap.size + 1, 0, none⟩ = some (.int .i64 ((k : Int) + 1 + 1)) := by simp [World.cell?, a1]
      have k1 : W5.cell? ⟨w.heap.size + 1, 1, none⟩ = some (.int .i64 0) := by simp [World.cell?, a1]
      have k2 : W5.cell? ⟨w.heap.size + 1, 2, none⟩ = some (.int .i64 0) := by simp [World.cell?, a1]
      have k3 : W5.cell? ⟨w.heap.size + 1, 3, none⟩ = some (.string ⟨#[]⟩) := by simp [World.cell?, a1]
      have k4 : W5.cell? ⟨w.heap.size + 1, 4, none⟩ = some (.int .i64 (q : Int)) := by simp [World.cell?, a1]
      have l0 : W5.cell? ⟨w.heap.size, 0, none⟩ = some (.int .i64 0) := by simp [World.cell?, a2]
      have l1 : W5.cell? ⟨w.heap.size, 1, none⟩ = some (.int .i64 0) := by simp [World.cell?, a2]
      have l2 : W5.cell? ⟨w.heap.size, 2, none⟩ = some (.int .i64 0) := by simp [World.cell?, a2]
      have l3 : W5.cell? ⟨w.heap.size, 3, none⟩ = some (.string ⟨#[]⟩) := by simp [World.cell?, a2]
      have l4 : W5.cell? ⟨w.heap.size, 4, none⟩ = some (.int .i64 0) := by simp [World.cell?, a2]
      have gg : ∀ j, W5.frozen? ⟨w.heap.size, j, none⟩ = false := fun j => by simp [World.frozen?, a2]
      have g0 := gg 0; have g1 := gg 1; have g2 := gg 2; have g3 := gg 3; have g4 := gg 4
      have HA4 := hide a4
      clear a1 a2 a4 H5 gg
      go_wp2
      refine bodyPost_ret (v := .agg #[.int .i64 ((k : Int) + 1 + 1), .int .i64 0, .int .i64 0, .string ⟨#[]⟩, .int .i64 (q : Int)]) ?_ rfl ⟨by simp, ?_⟩
      · simp [results, Try.results16, go_sem, l0, l1, l2, l3, l4]
      · exact (((((unhide HA4).setCell (p := ⟨w.heap.size, 0, none⟩) (Nat.le_refl _) _).setCell (p := ⟨w.heap.size, 1, none⟩) (Nat.le_refl _) _).setCell (p := ⟨w.heap.size, 2, none⟩) (Nat.le_refl _) _).setCell (p := ⟨w.heap.size, 3, none⟩) (Nat.le_refl _) _).setCell (p := ⟨w.heap.size, 4, none⟩) (Nat.le_refl _) _
end
end Go.Proofs.Ytbiipeapcclbkaa
