/- A book's Put: a memory that is full. -/
import Derived.Test.YtbiipeapcclbkaaBkZ
namespace Go.Proofs.Ytbiipeapcclbkaa
open Go.RowKit Go.Shelf
set_option linter.unusedVariables false
set_option linter.unusedSimpArgs false
set_option maxRecDepth 100000

theorem ent_fits (args : Array Value) (w : World) : (callFunc 23 args).run Try.prog w = .ok (.enter 23 args) w := by kernel_rfl
section
variable {w w' : World} {B bb mb : Nat} {v pl : Value} {M : Mm} {L : List En}
set_option maxHeartbeats 8000000 in
theorem put_full (h : BookAt w B bb mb v M pl L) (k : Int) (t : ByteArray) (ho : M.off = false) (hk : wiB k 1 250 = true) (ht : t.size ≤ 20000) (hf : ¬ posL L + wid ⟨k, 0, t⟩ < M.C.length) : Calls Try.prog 11 #[.pointer (some ⟨bb, 0, none⟩), .int .i64 k, .string t] w fun r w' => r = .returned (.tuple #[.int .i64 0, .int .i64 8]) ∧ Below w.heap.size w w' := by
  have N := hide (next_any h)
  have HS := hide h
  have hbl := h.sto.lt
  have hts : ¬ (20000 : Int) < (t.size : Int) := by omega
  have N2 := hide (fun W => bwithin_any k 1 250 W)
  rw [hk] at N2
  have hpb := h.pos
  have NE := hide (fun W => end_any (L.length + 1) (posL L) ⟨k, 0, t⟩ (by omega) (by show t.size ≤ 100000; omega) W)
  have NF := hide (fun (W : World) (hs : StoAt W B bb mb v M pl) => sfits_any hs ((posL L + wid ⟨k, 0, t⟩ : Nat) : Int))
  rw [show decide (((posL L + wid ⟨k, 0, t⟩ : Nat) : Int) < (M.C.length : Int)) = false from decide_eq_false (by omega)] at NF
  unfold plV at N NE
  generalize L.length + 1 = n at *
  generalize posL L + wid ⟨k, 0, t⟩ = en at *
  generalize posL L = q at *
  have HO := hide ho
  clear h ho hk ht hf hpb
  dsimp only at NE
  go_enter Try.func11, Try.ntmps11
  go_wp2_with fail
  refine (unhide N).mono ?_
  rintro r y1 ⟨rfl, hb⟩
  unfold en0
  dsimp only
  obtain ⟨W2, hW2⟩ : ∃ W2, W2 = y1.alloc (.cells #[.int .i64 (n : Int), .int .i64 k, .int .i64 0, .string t, .int .i64 (q : Int)] 62) := ⟨_, rfl⟩
  have hb2 : Below w.heap.size w W2 := by rw [hW2]; exact hb.alloc hb.size _
  have hX2 : W2.heap[y1.heap.size]? = some (plO n ⟨k, 0, t⟩ q) := by rw [hW2]; exact heap_alloc_new _ _
  have h2 := (unhide HS).sto.below hb2
  obtain ⟨c0, c1, c2⟩ := h2.cells
  rw [unhide HO] at c1
  obtain ⟨k0, k1, k2, k3, k4⟩ := plCells hX2
  dsimp only at k0 k1 k2 k3 k4
  have HB := hide hb2; have HW2 := hide hW2; have H2 := hide h2
  clear hb hb2 hW2 c0 c2 h2 hX2
  go_upto_region 3 with fail
  rw [← unhide HW2]
  go_wp2_with fail
  refine (unhide N2 _).mono ?_
  rintro r y2 ⟨rfl, hw2⟩
  rw [hw2]
  clear hw2
  go_upto_region 9 with fail
  go_wp2_with fail
  go_region_law ((first
    | (refine step_call2 (by rfl) 23 _ _ _ (by rfl) (.pointer (some ⟨bb, 0, none⟩)) (.int .i64 (en : Int)) (by rfl) (by rfl) ent_fits (unhide NF _ ((unhide H2).below ((Below.refl _ _).drew.trans j1))) ?_; rintro ev z2 ⟨rfl, j2⟩; refine ⟨_, rfl, ?_⟩)
    | (refine step_call1 (by rfl) 24 _ _ (by rfl) (.agg #[.int .i64 (n : Int), .int .i64 k, .int .i64 0, .string t, .int .i64 (q : Int)]) (by rfl) ent_end (unhide NE _) ?_; rintro ev z1 ⟨rfl, j1⟩; refine ⟨_, rfl, ?_⟩)))
  all_goals
    have j3 : Below w.heap.size w z1 := (unhide HB).trans (((Below.refl W2.heap.size W2).drew.trans j1).mono (unhide HB).size)
    have HB3 := hide j3
    clear j1 j2 j3 k0 k1 k2 k3 k4 c1
    go_wp2
    refine bodyPost_ret (v := .tuple #[.int .i64 0, .int .i64 8]) ?_ rfl ⟨rfl, unhide HB3⟩
    simp [results, Try.results11, go_sem]
end
end Go.Proofs.Ytbiipeapcclbkaa
