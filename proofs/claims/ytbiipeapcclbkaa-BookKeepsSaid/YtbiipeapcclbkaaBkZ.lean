/- A book's Put: what it refuses. -/
import Derived.Test.YtbiipeapcclbkaaBkY
namespace Go.Proofs.Ytbiipeapcclbkaa
open Go.RowKit Go.Shelf
set_option linter.unusedVariables false
set_option linter.unusedSimpArgs false
set_option maxRecDepth 100000

section
variable {w w' : World} {B bb mb : Nat} {v pl : Value} {M : Mm} {L : List En}
set_option maxHeartbeats 4000000 in
theorem put_off (h : BookAt w B bb mb v M pl L) (k : Int) (t : ByteArray) (ho : M.off = true) : Calls Try.prog 11 #[.pointer (some ⟨bb, 0, none⟩), .int .i64 k, .string t] w fun r w' => r = .returned (.tuple #[.int .i64 0, .int .i64 12]) ∧ Below w.heap.size w w' := by
  have N := hide (next_any h)
  have HS := hide h
  have hbl := h.sto.lt
  unfold plV at N
  generalize L.length + 1 = n at *
  generalize posL L = q at *
  have HO := hide ho
  clear h ho
  go_enter Try.func11, Try.ntmps11
  go_wp2_with fail
  refine (unhide N).mono ?_
  rintro r y1 ⟨rfl, hb⟩
  unfold en0
  dsimp only
  obtain ⟨W2, hW2⟩ : ∃ W2, W2 = y1.alloc (.cells #[.int .i64 (n : Int), .int .i64 k, .int .i64 0, .string t, .int .i64 (q : Int)] 62) := ⟨_, rfl⟩
  have hb2 : Below w.heap.size w W2 := by rw [hW2]; exact hb.alloc hb.size _
  obtain ⟨c0, c1, c2⟩ := ((unhide HS).sto.below hb2).cells
  rw [unhide HO] at c1
  have HB := hide hb2; have HW2 := hide hW2
  clear hb hb2 hW2 c0 c2
  go_upto_region 3 with fail
  rw [← unhide HW2]
  go_wp2
  refine bodyPost_ret (v := .tuple #[.int .i64 0, .int .i64 12]) ?_ rfl ⟨rfl, unhide HB⟩
  simp [results, Try.results11, go_sem]
set_option maxHeartbeats 4000000 in
theorem put_range (h : BookAt w B bb mb v M pl L) (k : Int) (t : ByteArray) (ho : M.off = false) (hk : wiB k 1 250 = false) : Calls Try.prog 11 #[.pointer (some ⟨bb, 0, none⟩), .int .i64 k, .string t] w fun r w' => r = .returned (.tuple #[.int .i64 0, .int .i64 3]) ∧ Below w.heap.size w w' := by
  have N := hide (next_any h)
  have HS := hide h
  have hbl := h.sto.lt
  have N2 := hide (fun W => bwithin_any k 1 250 W)
  rw [hk] at N2
  unfold plV at N
  generalize L.length + 1 = n at *
  generalize posL L = q at *
  have HO := hide ho
  clear h ho hk
  go_enter Try.func11, Try.ntmps11
  go_wp2_with fail
  refine (unhide N).mono ?_
  rintro r y1 ⟨rfl, hb⟩
  unfold en0
  dsimp only
  obtain ⟨W2, hW2⟩ : ∃ W2, W2 = y1.alloc (.cells #[.int .i64 (n : Int), .int .i64 k, .int .i64 0, .string t, .int .i64 (q : Int)] 62) := ⟨_, rfl⟩
  have hb2 : Below w.heap.size w W2 := by rw [hW2]; exact hb.alloc hb.size _
  obtain ⟨c0, c1, c2⟩ := ((unhide HS).sto.below hb2).cells
  rw [unhide HO] at c1
  have HB := hide hb2; have HW2 := hide hW2
  clear hb hb2 hW2 c0 c2
  go_upto_region 3 with fail
  rw [← unhide HW2]
  go_wp2_with fail
  refine (unhide N2 _).mono ?_
  rintro r y2 ⟨rfl, hw2⟩
  rw [hw2]
  clear hw2
  go_wp2
  refine bodyPost_ret (v := .tuple #[.int .i64 0, .int .i64 3]) ?_ rfl ⟨rfl, unhide HB⟩
  simp [results, Try.results11, go_sem]
set_option maxHeartbeats 4000000 in
theorem put_long (h : BookAt w B bb mb v M pl L) (k : Int) (t : ByteArray) (ho : M.off = false) (hk : wiB k 1 250 = true) (ht : 20000 < t.size) : Calls Try.prog 11 #[.pointer (some ⟨bb, 0, none⟩), .int .i64 k, .string t] w fun r w' => r = .returned (.tuple #[.int .i64 0, .int .i64 2]) ∧ Below w.heap.size w w' := by
  have N := hide (next_any h)
  have HS := hide h
  have hbl := h.sto.lt
  have hts : (20000 : Int) < (t.size : Int) := by omega
  have N2 := hide (fun W => bwithin_any k 1 250 W)
  rw [hk] at N2
  unfold plV at N
  generalize L.length + 1 = n at *
  generalize posL L = q at *
  have HO := hide ho
  clear h ho hk ht
  go_enter Try.func11, Try.ntmps11
  go_wp2_with fail
  refine (unhide N).mono ?_
  rintro r y1 ⟨rfl, hb⟩
  unfold en0
  dsimp only
  obtain ⟨W2, hW2⟩ : ∃ W2, W2 = y1.alloc (.cells #[.int .i64 (n : Int), .int .i64 k, .int .i64 0, .string t, .int .i64 (q : Int)] 62) := ⟨_, rfl⟩
  have hb2 : Below w.heap.size w W2 := by rw [hW2]; exact hb.alloc hb.size _
  obtain ⟨c0, c1, c2⟩ := ((unhide HS).sto.below hb2).cells
  rw [unhide HO] at c1
  have HB := hide hb2; have HW2 := hide hW2
  clear hb hb2 hW2 c0 c2
  go_upto_region 3 with fail
  rw [← unhide HW2]
  go_wp2_with fail
  refine (unhide N2 _).mono ?_
  rintro r y2 ⟨rfl, hw2⟩
  rw [hw2]
  clear hw2
  go_wp2
  refine bodyPost_ret (v := .tuple #[.int .i64 0, .int .i64 2]) ?_ rfl ⟨rfl, unhide HB⟩
  simp [results, Try.results11, go_sem]
end
end Go.Proofs.Ytbiipeapcclbkaa
