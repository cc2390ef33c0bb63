/- The document's book: Done of an entry that waits. -/
import Derived.Test.YtbiipeapcclbkaaBkD2
import Derived.Test.YtbiipeapcclbkaaBkX
namespace Go.Proofs.Ytbiipeapcclbkaa
open Go.RowKit Go.Shelf
set_option linter.unusedVariables false
set_option linter.unusedSimpArgs false
set_option maxRecDepth 100000

theorem infoEn : (Try.prog.info? 60).map (fun i => (i.zero, i.size, i.bytes)) = some (some (.agg #[.int .i64 0, .int .i64 0, .int .i64 0, .string ⟨#[]⟩]), 4, 40) := by kernel_rfl
theorem rowE_one (l : List (Nat × En × Nat)) : ∀ u ∈ rowC cellsE l, u.oneCell' = true := by
  induction l with
  | nil => intro u hu; cases hu
  | cons x l ih =>
    intro u hu
    rcases List.mem_append.1 (show u ∈ cellsE x ++ rowC cellsE l from hu) with h | h
    · simp only [cellsE, List.mem_cons, List.not_mem_nil, or_false] at h
      rcases h with rfl | rfl | rfl | rfl <;> rfl
    · exact ih u h
theorem rowE_set (k : Int) : ∀ (l : List (Nat × En × Nat)) (i : Nat) (n p : Nat) (e : En), l[i]? = some (n, e, p) → rowC cellsE (l.set i (n, ⟨e.what, k, e.text⟩, p)) = (rowC cellsE l).set (i * 4 + 2) (.int .i64 k) := by
  intro l
  induction l with
  | nil => intro i n p e h; simp at h
  | cons x r ih =>
    intro i n p e h
    cases i with
    | zero =>
      simp at h
      subst h
      rfl
    | succ i =>
      have := ih i n p e (by simpa using h)
      show cellsE x ++ rowC cellsE (r.set i _) = (cellsE x ++ rowC cellsE r).set ((i + 1) * 4 + 2) _
      rw [this, List.set_append_right _ _ (by rw [cellsE_len]; omega), cellsE_len]
      congr 2
      omega
section
variable {w w' : World} {B : Nat} {rv : Value} {L : List En}
/-- the cell of an entry is written -/
theorem OwnR.setHow {g cap : Nat} {n p : Nat} {e : En} {l : List (Nat × En × Nat)} (h : OwnR w B 60 4 cellsE (.slice (some ⟨g, 0, none⟩) l.length cap) l) (i : Nat) (hi : l[i]? = some (n, e, p)) (k : Int) :
    OwnR (w.setCell ⟨g, i * 4 + 2, none⟩ (.int .i64 k)) B 60 4 cellsE (.slice (some ⟨g, 0, none⟩) l.length cap) (l.set i (n, ⟨e.what, k, e.text⟩, p)) := by
  rcases h.2 with ⟨h0, _⟩ | ⟨g', cap', cur, e1, e2, e3, e4, e5, e6, e7⟩
  · cases h0
  · obtain ⟨rfl, rfl⟩ : g = g' ∧ cap = cap' := by injection e1 with a1 _ a3; injection a1 with a1; injection a1 with a1; exact ⟨a1, a3⟩
    refine ⟨by rw [rowC_length cellsE_len], .inr ⟨g, cap, cur.setIfInBounds (i * 4 + 2) (.int .i64 k), by rw [List.length_set], e2, ?_, by rw [List.length_set]; exact e4, e5, by rw [Array.size_setIfInBounds]; exact e6, ?_⟩⟩
    · simp [World.setCell, Array.getElem?_modify, e3]
    · rw [rowE_set k l i n p e hi, List.length_set, ← e7, Array.toList_setIfInBounds, List.take_set]
set_option maxHeartbeats 4000000 in
theorem rdone_yes (h : OwnR w B 60 4 cellsE rv (plsL L)) (hlen : L.length ≤ 100000) (cs k : Int) (i : Nat) (e : En) (he : L[i]? = some e) (hk : wiB k 1 250 = true) (hh : e.how = 0) :
    Calls Try.prog 14 #[.agg #[.int .i64 cs, rv], .int .i64 ((i : Int) + 1), .int .i64 k] w fun r w' => (∃ rv', r = .returned (.tuple #[.agg #[.int .i64 cs, rv'], .int .i64 0]) ∧ OwnR w' w.heap.size 60 4 cellsE rv' (plsL (L.set i ⟨e.what, k, e.text⟩))) ∧ Below w.heap.size w w' := by
  obtain ⟨i0, hi0, hz0, hz1, hz2⟩ := info_partsB infoEn
  have hi := (List.getElem?_eq_some_iff.1 he).1
  rcases h.form.2 with hn | ⟨g, cap, hv, hgB, hgl⟩
  · have := congrArg List.length hn
    rw [plsL_len, List.length_nil] at this
    omega
  have a2 : w.cell? ⟨g, i * 4 + 2, none⟩ = some (.int .i64 0) := by
    have h2 := h
    rw [hv] at h2
    have := h2.cell cellsE_len i _ (plsL_get he) 2 (by omega)
    rw [this]
    simp [cellsE, hh]
  have hcell : ∀ (W : World), Below w.heap.size w W → ∀ j u, (rowC cellsE (plsL L))[j]? = some u → W.cell? ((⟨g, 0, none⟩ : Addr).add j) = some u := fun W hW j u hu => by
    have hr := h
    rw [hv] at hr
    have hlt : j < (plsL L).length * 4 := by
      have := (List.getElem?_eq_some_iff.1 hu).1
      rw [rowC_length cellsE_len] at this
      exact this
    have := World.ownsRow.cellAt hr j hlt
    rw [hu] at this
    rw [show ((⟨g, 0, none⟩ : Addr).add j) = ⟨g, j, none⟩ by unfold Addr.add; split <;> simp_all]
    exact (hW.cell (p := ⟨g, j, none⟩) hgl).trans this
  have hone := rowE_one (plsL L)
  have hrl : (rowC cellsE (plsL L)).length = (plsL L).length * 4 := rowC_length cellsE_len _
  have hpl := plsL_len L
  have hset : plsL (L.set i ⟨e.what, k, e.text⟩) = (plsL L).set i (i + 1, ⟨e.what, k, e.text⟩, posL (L.take i)) := plsL_set (e := e) rfl he
  rw [hset]
  have hget := plsL_get he
  have hk' : 1 ≤ k ∧ k ≤ 250 := of_decide_eq_true hk
  have h1 : ¬ (i : Int) + 1 < 1 := by omega
  have h2 : ¬ ((plsL L).length : Int) < (i : Int) + 1 := by omega
  have h3 : ¬ k < 1 := by omega
  have h4 : ¬ 250 < k := by omega
  have hsub2 : IntKind.i64.wrap (i : Int) = (i : Int) := by rw [IntKind.wrap_i64]; omega
  have hsub3 : IntKind.i64.wrap ((i : Int) + 1 - 1) = (i : Int) := by rw [IntKind.wrap_i64]; omega
  have hil : (i : Int) < ((plsL L).length : Int) := by omega
  have hii : (i : Int) ≤ 100000 := by omega
  have hgn : g ≠ w.heap.size := by omega
  have hgn1 : g ≠ w.heap.size + 1 := by omega
  subst hv
  have HLL : Hid ((plsL L).length ≤ 100000) := hide (by omega)
  obtain ⟨W2, hW2⟩ : ∃ W2, W2 = (w.alloc (.cells #[.int .i64 cs, .slice (some ⟨g, 0, none⟩) (plsL L).length cap] 33)).alloc (.cells #[.int .i64 0, .slice none 0 0] 33) := ⟨_, rfl⟩
  have hB2 : Below w.heap.size w W2 := by rw [hW2]; exact ((Below.refl _ _).alloc (Nat.le_refl _) _).alloc (by simp) _
  have hs2 : W2.heap.size = w.heap.size + 1 + 1 := by rw [hW2]; simp
  have hX1 : W2.heap[w.heap.size]? = some (.cells #[.int .i64 cs, .slice (some ⟨g, 0, none⟩) (plsL L).length cap] 33) := by
    rw [hW2]
    exact (Below.heap_alloc _ _ _ (by simp)).trans (heap_alloc_new _ _)
  have hX2 : W2.heap[w.heap.size + 1]? = some (.cells #[.int .i64 0, .slice none 0 0] 33) := by
    rw [hW2]
    have := heap_alloc_new (w.alloc (.cells #[.int .i64 cs, .slice (some ⟨g, 0, none⟩) (plsL L).length cap] 33)) (.cells #[.int .i64 0, .slice none 0 0] 33)
    rwa [show (w.alloc (.cells #[.int .i64 cs, .slice (some ⟨g, 0, none⟩) (plsL L).length cap] 33)).heap.size = w.heap.size + 1 by simp] at this
  have hEA : (W2.alloc (.cells #[] 60)).ownsRow w.heap.size 60 4 (.slice (some ⟨W2.heap.size, 0, none⟩) 0 0) 0 [] := ⟨rfl, .inr ⟨W2.heap.size, 0, #[], rfl, by omega, heap_alloc_new _ _, Nat.le_refl _, by unfold maxLen; omega, rfl, rfl⟩⟩
  have e1 : W2.cell? ⟨w.heap.size, 1, none⟩ = some (.slice (some ⟨g, 0, none⟩) (plsL L).length cap) := by simp [World.cell?, hX1]
  have hsz : w.heap.size < W2.heap.size := by omega
  have hsz1 : w.heap.size + 1 < W2.heap.size := by omega
  have hn2 : w.heap.size ≠ W2.heap.size := by omega
  have HI := hide hi0; have Z0 := hide hz0; have Z1 := hide hz1; have Z2 := hide hz2; have HCL := hide hcell; have HON := hide hone; have HRL := hide hrl; have HGT := hide hget
  have HW2 := hide hW2; have HB2 := hide hB2; have HX1 := hide hX1; have HX2 := hide hX2; have HE := hide hEA; have HS2 := hide hs2
  generalize hX : plsL L = X at *
  clear h he hk hk' hi hlen hcell hone hrl hget hset hi0 hz0 hz1 hz2 hh hX hpl hW2 hB2 hX1 hX2 hEA hs2
  go_enter Try.func14, Try.ntmps14
  go_upto_region 7 with fail
  rw [← unhide HW2]
  go_wp2_with (at_builtin; refine wpList_append_own _ rfl _ _ 31 rfl w.heap.size 60 i0 (.agg #[.int .i64 0, .int .i64 0, .int .i64 0, .string ⟨#[]⟩]) 4 40 Try.underlying31 (unhide HI) (unhide Z0) (unhide Z1) (unhide Z2) rfl (by decide) _ _ _ rfl (unhide HE) ⟨g, 0, none⟩ X.length cap (rowC cellsE X) rfl (unhide HRL) (unhide HCL _ ((unhide HB2).alloc (unhide HB2).size _)) (unhide HON) ?c3 ?c4 ?c5 ?_)
  case c3 => have := unhide HLL; unfold maxLen; omega
  case c4 => have := unhide HLL; omega
  case c5 => omega
  intro v5 w5 hown5 hgrow5 _
  have ho5 : OwnR w5 w.heap.size 60 4 cellsE v5 X := hown5
  rcases ho5.form.2 with hn | ⟨g5, cap5, hv5, hg5, hgl5⟩
  · rw [hn] at hil; simp at hil; omega
  subst hv5
  have k1 : w5.heap[w.heap.size]? = some (.cells #[.int .i64 cs, .slice (some ⟨g, 0, none⟩) X.length cap] 33) := (hgrow5.block _ (by simp; omega) (fun e => by have h9 : W2.heap.size = w.heap.size := (Option.some.inj e).symm; omega)).trans ((Below.heap_alloc W2 _ _ hsz).trans (unhide HX1))
  have k2 : w5.heap[w.heap.size + 1]? = some (.cells #[.int .i64 0, .slice none 0 0] 33) := (hgrow5.block _ (by simp; omega) (fun e => by have h9 : W2.heap.size = w.heap.size + 1 := (Option.some.inj e).symm; omega)).trans ((Below.heap_alloc W2 _ _ hsz1).trans (unhide HX2))
  have hb5 : Below w.heap.size w w5 := ((unhide HB2).alloc (unhide HB2).size (.cells #[] 60)).grown hgrow5 (by simp; omega) (fun j hj => by have h9 : W2.heap.size = j := Option.some.inj hj; omega)
  have hg1 : g5 ≠ w.heap.size := fun e => by
    have t := ho5.2
    rcases t with ⟨t0, _⟩ | ⟨g', cap', cur, t1, t2, t3, _⟩
    · cases t0
    · obtain rfl : g5 = g' := by injection t1 with a1 _ a3; injection a1 with a1; injection a1 with a1
      rw [e, k1] at t3
      injection t3 with t3
      injection t3 with _ t4
      cases t4
  have hg2 : g5 ≠ w.heap.size + 1 := fun e => by
    have t := ho5.2
    rcases t with ⟨t0, _⟩ | ⟨g', cap', cur, t1, t2, t3, _⟩
    · cases t0
    · obtain rfl : g5 = g' := by injection t1 with a1 _ a3; injection a1 with a1; injection a1 with a1
      rw [e, k2] at t3
      injection t3 with t3
      injection t3 with _ t4
      cases t4
  have hg1' := Ne.symm hg1
  have hg2' := Ne.symm hg2
  have c0 : w5.cell? ⟨w.heap.size, 0, none⟩ = some (.int .i64 cs) := by simp [World.cell?, k1]
  have c1 : w5.cell? ⟨w.heap.size, 1, none⟩ = some (.slice (some ⟨g, 0, none⟩) X.length cap) := by simp [World.cell?, k1]
  have d0 : w5.cell? ⟨w.heap.size + 1, 0, none⟩ = some (.int .i64 0) := by simp [World.cell?, k2]
  have d1 : w5.cell? ⟨w.heap.size + 1, 1, none⟩ = some (.slice none 0 0) := by simp [World.cell?, k2]
  have f1 : w5.frozen? ⟨w.heap.size, 1, none⟩ = false := by simp [World.frozen?, k1]
  have f2 : w5.frozen? ⟨w.heap.size + 1, 0, none⟩ = false := by simp [World.frozen?, k2]
  have f3 : w5.frozen? ⟨w.heap.size + 1, 1, none⟩ = false := by simp [World.frozen?, k2]
  have p2 : w5.cell? ⟨g5, i * 4 + 2, none⟩ = some (.int .i64 e.how) := by
    have := ho5.cell cellsE_len i _ (unhide HGT) 2 (by omega)
    simpa [cellsE] using this
  have pf : w5.frozen? ⟨g5, i * 4 + 2, none⟩ = false := ho5.frozen rfl _
  have hset5 := (((ho5.other (a := ⟨w.heap.size, 1, none⟩) (fun e => hg1 (Option.some.inj e)) (.slice (some ⟨g5, 0, none⟩) X.length cap5)).setHow i (unhide HGT) k).other (a := ⟨w.heap.size + 1, 0, none⟩) (fun e => hg2 (Option.some.inj e)) (.int .i64 cs)).other (a := ⟨w.heap.size + 1, 1, none⟩) (fun e => hg2 (Option.some.inj e)) (.slice (some ⟨g5, 0, none⟩) X.length cap5)
  have hb6 := (((hb5.setCell (p := ⟨w.heap.size, 1, none⟩) (Nat.le_refl _) (.slice (some ⟨g5, 0, none⟩) X.length cap5)).setCell (p := ⟨g5, i * 4 + 2, none⟩) hg5 (.int .i64 k)).setCell (p := ⟨w.heap.size + 1, 0, none⟩) (Nat.le_succ _) (.int .i64 cs)).setCell (p := ⟨w.heap.size + 1, 1, none⟩) (Nat.le_succ _) (.slice (some ⟨g5, 0, none⟩) X.length cap5)
  have r0 : ((((w5.setCell ⟨w.heap.size, 1, none⟩ (.slice (some ⟨g5, 0, none⟩) X.length cap5)).setCell ⟨g5, i * 4 + 2, none⟩ (.int .i64 k)).setCell ⟨w.heap.size + 1, 0, none⟩ (.int .i64 cs)).setCell ⟨w.heap.size + 1, 1, none⟩ (.slice (some ⟨g5, 0, none⟩) X.length cap5)).heap[w.heap.size + 1]? = some (.cells #[.int .i64 cs, .slice (some ⟨g5, 0, none⟩) X.length cap5] 33) := by
    simp [World.setCell, Array.getElem?_modify, k2, hg2]
  have HB5 := hide hb6
  have HS5 := hide hset5
  have HR0 := hide r0
  clear hown5 hgrow5 ho5 hb5 hset5 k1 k2 hb6 r0
  go_wp2
  refine bodyPost_ret (v := .tuple #[.agg #[.int .i64 cs, .slice (some ⟨g5, 0, none⟩) X.length cap5], .int .i64 0]) ?_ rfl ⟨⟨_, rfl, unhide HS5⟩, unhide HB5⟩
  have z := unhide HR0
  have z0 : ((((w5.setCell ⟨w.heap.size, 1, none⟩ (.slice (some ⟨g5, 0, none⟩) X.length cap5)).setCell ⟨g5, i * 4 + 2, none⟩ (.int .i64 k)).setCell ⟨w.heap.size + 1, 0, none⟩ (.int .i64 cs)).setCell ⟨w.heap.size + 1, 1, none⟩ (.slice (some ⟨g5, 0, none⟩) X.length cap5)).cell? ⟨w.heap.size + 1, 0, none⟩ = some (.int .i64 cs) := by simp [World.cell?, z]
  have z1 : ((((w5.setCell ⟨w.heap.size, 1, none⟩ (.slice (some ⟨g5, 0, none⟩) X.length cap5)).setCell ⟨g5, i * 4 + 2, none⟩ (.int .i64 k)).setCell ⟨w.heap.size + 1, 0, none⟩ (.int .i64 cs)).setCell ⟨w.heap.size + 1, 1, none⟩ (.slice (some ⟨g5, 0, none⟩) X.length cap5)).cell? ⟨w.heap.size + 1, 1, none⟩ = some (.slice (some ⟨g5, 0, none⟩) X.length cap5) := by simp [World.cell?, z]
  clear z
  generalize (((w5.setCell ⟨w.heap.size, 1, none⟩ (.slice (some ⟨g5, 0, none⟩) X.length cap5)).setCell ⟨g5, i * 4 + 2, none⟩ (.int .i64 k)).setCell ⟨w.heap.size + 1, 0, none⟩ (.int .i64 cs)).setCell ⟨w.heap.size + 1, 1, none⟩ (.slice (some ⟨g5, 0, none⟩) X.length cap5) = W9 at *
  simp [results, Try.results14, go_sem, z0, z1]
end
end Go.Proofs.Ytbiipeapcclbkaa
