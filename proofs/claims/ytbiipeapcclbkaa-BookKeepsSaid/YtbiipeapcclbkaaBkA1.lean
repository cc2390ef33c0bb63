/- The memory after a cut. -/
import Derived.Test.YtbiipeapcclbkaaBkV
namespace Go.Proofs.Ytbiipeapcclbkaa
open Go.RowKit Go.Shelf
set_option linter.unusedVariables false
set_option linter.unusedSimpArgs false
set_option maxRecDepth 100000

theorem infoSt : (Try.prog.info? 9).map (fun i => (i.zero, i.size, i.bytes)) = some (some (.string ⟨#[]⟩), 1, 16) := by kernel_rfl
theorem rowS_one (C : List ByteArray) : ∀ u ∈ rowC cellsS C, u.oneCell' = true := by
  induction C with
  | nil => intro u hu; cases hu
  | cons x l ih =>
    intro u hu
    rcases List.mem_append.1 (show u ∈ cellsS x ++ rowC cellsS l from hu) with h | h
    · rw [List.mem_singleton.1 h]; rfl
    · exact ih u h
section
variable {w w' : World} {B mb : Nat} {v : Value} {M : Mm}
set_option maxHeartbeats 4000000 in
theorem after_any (h : MemAt w B mb v M) (hC : M.C ≠ []) (p : Int) (hp : -9223372036854775808 ≤ p ∧ p ≤ 9223372036854775807) :
    Calls Try.prog 8 #[.pointer (some ⟨mb, 0, none⟩), .int .i64 p] w fun r w' => (∃ mb' v', r = .returned (.pointer (some ⟨mb', 0, none⟩)) ∧ MemAt w' w.heap.size mb' v' ⟨M.C, p, false⟩ ∧ w.heap.size ≤ mb') ∧ Below w.heap.size w w' := by
  obtain ⟨i0, hi, hz0, hz1, hz2⟩ := info_partsB infoSt
  obtain ⟨c0, c1, c2⟩ := h.cells
  have hml := h.lt
  rcases h.row.form.2 with hn | ⟨g, cap, hv, hgB, hgl⟩
  · exact absurd hn hC
  have hcell : ∀ j u, (rowC cellsS M.C)[j]? = some u → (w.alloc (.cells #[] 9)).cell? ((⟨g, 0, none⟩ : Addr).add j) = some u := fun j u hu => by
    have hr := (h.row.alloc (.cells #[] 9))
    rw [hv] at hr
    have hlt : j < M.C.length * 1 := by
      have := (List.getElem?_eq_some_iff.1 hu).1
      rw [rowC_length cellsS_len] at this
      exact this
    have := World.ownsRow.cellAt hr j hlt
    rw [hu] at this
    rw [show ((⟨g, 0, none⟩ : Addr).add j) = ⟨g, j, none⟩ by unfold Addr.add; split <;> simp_all]
    exact this
  have hone := rowS_one M.C
  have hEA : (w.alloc (.cells #[] 9)).ownsRow w.heap.size 9 1 (.slice (some ⟨w.heap.size, 0, none⟩) 0 0) 0 [] := ⟨rfl, .inr ⟨w.heap.size, 0, #[], rfl, Nat.le_refl _, heap_alloc_new _ _, Nat.le_refl _, by unfold maxLen; omega, rfl, rfl⟩⟩
  have hlen := h.len
  have hrl : (rowC cellsS M.C).length = M.C.length * 1 := rowC_length cellsS_len _
  rw [hv] at c0
  have hbm : mb ≠ w.heap.size := by omega
  have HI := hide hi; have Z0 := hide hz0; have Z1 := hide hz1; have Z2 := hide hz2; have HE := hide hEA; have HCL := hide hcell; have HON := hide hone; have HRL := hide hrl; have HLN := hide hlen
  clear h hv hcell hone hEA hrl hlen hi hz0 hz1 hz2 c1 c2
  go_enter Try.func8, Try.ntmps8
  go_wp2_with (at_builtin; refine wpList_append_own _ rfl _ _ 48 rfl w.heap.size 9 i0 (.string ⟨#[]⟩) 1 16 Try.underlying48 (unhide HI) (unhide Z0) (unhide Z1) (unhide Z2) rfl (by decide) _ _ _ rfl (unhide HE) ⟨g, 0, none⟩ M.C.length cap (rowC cellsS M.C) rfl (unhide HRL) (unhide HCL) (unhide HON) ?c3 ?c4 ?c5 ?_)
  case c3 => have := unhide HLN; unfold maxLen; omega
  case c4 => have := unhide HLN; omega
  case c5 => simp
  intro v5 w5 hown5 hgrow5 _
  have ho5 : OwnR w5 w.heap.size 9 1 cellsS v5 M.C := hown5
  obtain ⟨⟨ao5, cap5, hv5⟩, _⟩ := ho5.form
  subst hv5
  generalize hm5 : M.C.length = m5 at *
  have hs5 := hgrow5.size
  have hb5 : Below w.heap.size w w5 := ((Below.refl w.heap.size w).alloc (Nat.le_refl _) (.cells #[] 9)).grown hgrow5 (by simp) (fun j hj => by cases hj; exact Nat.le_refl _)
  have hM : MemAt (w5.alloc (.cells #[(.slice ao5 m5 cap5), .int .i64 p, .bool false] 50)) w.heap.size w5.heap.size (.slice ao5 m5 cap5) ⟨M.C, p, false⟩ :=
    ⟨heap_alloc_new _ _, ho5.alloc _, (by rw [hm5]; exact unhide HLN), fun e => Nat.lt_irrefl _ (ho5.lt _ e).2, hp⟩
  have HM := hide hM
  have HB := hide (hb5.alloc hb5.size (.cells #[(.slice ao5 m5 cap5), .int .i64 p, .bool false] 50))
  have HSZ := hide hb5.size
  clear ho5 hs5 hb5 hM hown5 hgrow5
  go_wp2
  go_ret
  exact ⟨⟨_, _, rfl, unhide HM, unhide HSZ⟩, unhide HB⟩
end
end Go.Proofs.Ytbiipeapcclbkaa
