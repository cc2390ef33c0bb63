/- A book's Done: an entry that waits. -/
import Derived.Test.YtbiipeapcclbkaaBkX
namespace Go.Proofs.Ytbiipeapcclbkaa
open Go.RowKit Go.Shelf
set_option linter.unusedVariables false
set_option linter.unusedSimpArgs false
set_option maxRecDepth 100000

/-- what a book may touch -/
def bkF (bb mb : Nat) (v pl : Value) : Nat → Prop := fun x => stoF bb mb v x ∨ pl.ownBlock = some x
section
variable {w w' : World} {B bb mb : Nat} {v pl : Value} {M : Mm} {L : List En}
set_option maxHeartbeats 8000000 in
theorem done_yes (h : BookAt w B bb mb v M pl L) (i : Nat) (e : En) (he : L[i]? = some e) (k : Int) (ho : M.off = false) (hk : wiB k 1 250 = true) (hh : e.how = 0) (hp : posL (L.take i) < M.C.length) :
    Calls Try.prog 13 #[.pointer (some ⟨bb, 0, none⟩), .int .i64 ((i : Int) + 1), .int .i64 k] w fun r w' =>
      ((wrM M (posL (L.take i)) (headB ⟨e.what, k, e.text⟩)).off = true → r = .returned (.int .i64 12) ∧ BookAt w' B bb mb v (wrM M (posL (L.take i)) (headB ⟨e.what, k, e.text⟩)) pl L) ∧
      ((wrM M (posL (L.take i)) (headB ⟨e.what, k, e.text⟩)).off = false → r = .returned (.int .i64 0) ∧ BookAt w' B bb mb v (wrM M (posL (L.take i)) (headB ⟨e.what, k, e.text⟩)) pl (L.set i ⟨e.what, k, e.text⟩)) ∧ Chg (bkF bb mb v pl) w w' := by
  obtain ⟨c0, c1, c2⟩ := h.sto.cells
  rw [ho] at c1
  have hi := (List.getElem?_eq_some_iff.1 he).1
  have hlen := h.len
  have hbl := h.sto.lt
  have N := hide (has_any h ((i : Int) + 1))
  have N2 := hide (bwithin_any k 1 250 w)
  rw [show wiB ((i : Int) + 1) 1 (L.length : Int) = true from decide_eq_true (by omega)] at N
  rw [hk] at N2
  have hkk : 1 ≤ k ∧ k ≤ 250 := of_decide_eq_true hk
  rcases h.row.form.2 with hn | ⟨g, cap, hv, hgB, hgl⟩
  · have := congrArg List.length hn
    rw [plsL_len, List.length_nil] at this
    omega
  have hcell := fun (j : Nat) (hj : j < 5) => (show w.cell? ⟨g, i * 5 + j, none⟩ = (cellsPl (i + 1, e, posL (L.take i)))[j]? from by
    have h2 := h.row
    rw [hv] at h2
    exact h2.cell cellsPl_len i _ (plsL_get he) j hj)
  have a0 := hcell 0 (by omega); have a1 := hcell 1 (by omega); have a2 := hcell 2 (by omega); have a3 := hcell 3 (by omega); have a4 := hcell 4 (by omega)
  simp only [cellsPl, List.getElem?_cons_zero, List.getElem?_cons_succ, Nat.add_zero] at a0 a1 a2 a3 a4
  rw [hv, plsL_len] at c2
  have hsub2 : IntKind.i64.wrap (i : Int) = (i : Int) := by rw [IntKind.wrap_i64]; omega
  have hsub3 : IntKind.i64.wrap ((i : Int) + 1 - 1) = (i : Int) := by rw [IntKind.wrap_i64]; omega
  have hil : (i : Int) < (L.length : Int) := by omega
  have hii : (i : Int) ≤ 100000 := by omega
  have hoke := h.ok e (List.mem_of_getElem? he)
  obtain ⟨wh, hw, tx⟩ := e
  obtain ⟨e', he'⟩ : ∃ e' : En, e' = ⟨wh, k, tx⟩ := ⟨_, rfl⟩
  have hok' : okEn e' := by
    rw [he']
    exact ⟨hoke.1, hoke.2.1, by show (0 : Int) ≤ k; omega, hkk.2, hoke.2.2.2.2⟩
  have hwid : wid e' = wid ⟨wh, hw, tx⟩ := by rw [he']; rfl
  dsimp only at hh
  subst hh
  obtain ⟨W2, hW2⟩ : ∃ W2, W2 = w.alloc (.cells #[.int .i64 ((i : Int) + 1), .int .i64 wh, .int .i64 k, .string tx, .int .i64 (posL (L.take i) : Int)] 62) := ⟨_, rfl⟩
  have hB2 : Below w.heap.size w W2 := by rw [hW2]; exact (Below.refl _ _).alloc (Nat.le_refl _) _
  have hX2 : W2.heap[w.heap.size]? = some (plO (i + 1) e' (posL (L.take i))) := by
    rw [hW2, he']
    exact heap_alloc_new w _
  have h2 := h.below hB2
  have hF2 : ∀ x, stoF bb mb v x → x < w.heap.size := h.sto.F_lt
  have hpF := h.pF
  have NH := hide (fun (W : World) (hs : StoAt W B bb mb v M pl) => head_any hs (i + 1) (posL (L.take i)) e' hok' hp)
  have hfin1 : ∀ W', StoAt W' B bb mb v (wrM M (posL (L.take i)) (headB e')) pl → Chg (stoF bb mb v) W2 W' → BookAt W' B bb mb v (wrM M (posL (L.take i)) (headB e')) pl L := fun W' hs hc => ⟨hs, h2.row.chg hc hpF, h.pF, h.ok, h.pos⟩
  have hfin2 : ∀ W', StoAt W' B bb mb v (wrM M (posL (L.take i)) (headB e')) pl → Chg (stoF bb mb v) W2 W' → BookAt (setPl W' g i (i + 1, e', posL (L.take i))) B bb mb v (wrM M (posL (L.take i)) (headB e')) pl (L.set i e') := fun W' hs hc => by
    have hr := h2.row.chg hc hpF
    rw [hv] at hr
    have hr2 := hr.setPl i (i + 1, e', posL (L.take i)) (by rw [plsL_len]; exact hi)
    rw [List.length_set, ← plsL_set hwid he, ← hv] at hr2
    refine ⟨hs.chg (setPl_chg W' g i _) (fun x hx => ?_), hr2, h.pF, fun x hx => ?_, ?_⟩
    · subst hx
      exact hpF x (by rw [hv]; rfl)
    · rcases List.mem_or_eq_of_mem_set hx with hx | rfl
      · exact h.ok x hx
      · exact hok'
    · rw [posL_set hwid L i he]; exact h.pos
  have hbg : bb ≠ g := fun e => hpF g (by rw [hv]; rfl) (.inl e.symm)
  have hgF : ¬ stoF bb mb v g := hpF g (by rw [hv]; rfl)
  have hpo : pl.ownBlock = some g := by rw [hv]; rfl
  have hfr : ∀ W', Chg (stoF bb mb v) W2 W' → ∀ j, W'.frozen? ⟨g, j, none⟩ = false := fun W' hc j => by
    have hr := h2.row.chg hc hpF
    rw [hv] at hr
    exact hr.frozen rfl j
  have hcl : ∀ W', Chg (stoF bb mb v) W2 W' → ∀ j, W'.cell? ⟨g, j, none⟩ = w.cell? ⟨g, j, none⟩ := fun W' hc j => by
    have e1 := hc.block g (Nat.lt_of_lt_of_le hgl hB2.size) hgF
    have e2 := hB2.block g hgl
    unfold World.cell?
    rw [e1, e2]
  rw [← he']
  have HW2 := hide hW2; have HB2 := hide hB2; have HX2 := hide hX2; have H2 := hide h2.sto; have HF2 := hide hF2; have HF1 := hide hfin1; have HFN := hide hfin2; have HFR := hide hfr; have HCL := hide hcl; have HPO := hide hpo
  have HV := hide hv
  generalize hM' : wrM M (posL (L.take i)) (headB e') = M' at *
  subst he'
  generalize hq : posL (L.take i) = q at *
  unfold plV at NH
  obtain ⟨m, hm⟩ : ∃ m, m = L.length := ⟨_, rfl⟩
  rw [← hm] at c2 hil
  obtain ⟨k0, k1, k2, k3, k4⟩ := plCells hX2
  have b2 := (hB2.cell (p := ⟨bb, 2, none⟩) hbl).trans c2
  have hbne : bb ≠ w.heap.size := by omega
  have hbne' : w.heap.size ≠ bb := Ne.symm hbne
  have hgne : g ≠ w.heap.size := by omega
  have hgne' : w.heap.size ≠ g := Ne.symm hgne
  have HGL := hide hgl
  dsimp only at a0 a1 a2 a3 a4 k0 k1 k2 k3 k4 NH
  clear h he hlen hcell hv hi hk ho h2 hW2 hB2 hX2 hF2 hpF hfin1 hfin2 hfr hcl hpo hok' hoke hwid hp hM' hkk hq hm
  go_enter Try.func13, Try.ntmps13
  go_wp2_with fail
  refine (unhide N).mono ?_
  rintro r y1 ⟨rfl, hw1⟩
  have hw' := hw1.symm
  subst hw'
  go_wp2_with fail
  refine (unhide N2).mono ?_
  rintro r y2 ⟨rfl, hw2⟩
  have hw' := hw2.symm
  subst hw'
  go_upto_region 11 with fail
  rw [← unhide HW2]
  have HA := hide (And.intro a0 (And.intro a1 (And.intro a2 (And.intro a3 a4))))
  clear a0 a1 a2 a3 a4 c0 c1 c2 N N2
  go_wp2_with fail
  go_region_law ((refine step_call2 (by rfl) 27 _ _ _ (by rfl) (.pointer (some ⟨bb, 0, none⟩)) (.agg #[.int .i64 ((i + 1 : Nat) : Int), .int .i64 wh, .int .i64 k, .string tx, .int .i64 (q : Int)]) (by rfl) (by rfl) ent_head (unhide NH _ ((unhide H2).below (Below.refl _ _).drew)) ?_; rintro ev z1 ⟨rfl, k5, k6⟩; refine ⟨_, rfl, ?_⟩))
  all_goals
    have k7 : Chg (stoF bb mb v) W2 z1 := (Chg.refl _ W2).drew.trans k6 (fun x hx => .inl hx)
    have k8 := (k7.block _ (block_ltR (unhide HX2)) (fun hf => Nat.lt_irrefl _ (unhide HF2 _ hf))).trans (unhide HX2)
    obtain ⟨d0, d1, d2⟩ := k5.cells
    have hpl : pl = .slice (some ⟨g, 0, none⟩) m cap := by have := (unhide H2).cells.2.2.symm.trans b2; injection this
    rw [hpl] at d2
    obtain ⟨m0, m1, m2, m3, m4⟩ := plCells k8
    obtain ⟨a0, a1, a2, a3, a4⟩ := unhide HA
    have f0 := (unhide HCL z1 k7 (i * 5)).trans a0
    have f1 := (unhide HCL z1 k7 (i * 5 + 1)).trans a1
    have f2 := (unhide HCL z1 k7 (i * 5 + 2)).trans a2
    have f3 := (unhide HCL z1 k7 (i * 5 + 3)).trans a3
    have f4 := (unhide HCL z1 k7 (i * 5 + 4)).trans a4
    have g0 := unhide HFR z1 k7 (i * 5)
    have g1 := unhide HFR z1 k7 (i * 5 + 1)
    have g2 := unhide HFR z1 k7 (i * 5 + 2)
    have g3 := unhide HFR z1 k7 (i * 5 + 3)
    have g4 := unhide HFR z1 k7 (i * 5 + 4)
    have hcA : Chg (bkF bb mb v pl) w z1 := ((Chg.of_below _ (unhide HB2)).trans k7 (fun x hx => .inl hx)).mono (fun x hx => .inl hx)
    have hcB : Chg (bkF bb mb v pl) w (setPl z1 g i (i + 1, ⟨wh, k, tx⟩, q)) := hcA.trans (setPl_chg z1 g i _) (fun x hx => .inl (.inr (by rw [hx]; exact unhide HPO)))
    have HC1 := hide hcA; have HC2 := hide hcB
    have HR1 := hide (unhide HF1 z1 k5 k7)
    have HR2 := hide (unhide HFN z1 k5 k7)
    dsimp only at m0 m1 m2 m3 m4
    clear a0 a1 a2 a3 a4 k0 k1 k2 k3 k4 k5 k6 k7 k8 d0 b2 hcA hcB hpl HF1 HFN
    rcases hoff : M'.off with _ | _
    · rw [hoff] at d1
      have HO := hide hoff
      clear hoff
      go_upto_region 14 with fail
      go_region
      all_goals
        go_wp2
        go_ret
        exact ⟨fun h => absurd (h.symm.trans (unhide HO)) (by decide), fun _ => ⟨rfl, (unhide HR2).below (Below.refl _ _).drew⟩, (unhide HC2).drew⟩
    · rw [hoff] at d1
      have HO := hide hoff
      clear hoff
      go_wp2
      go_ret
      exact ⟨fun _ => ⟨rfl, unhide HR1⟩, fun h => absurd (h.symm.trans (unhide HO)) (by decide), unhide HC1⟩
end
end Go.Proofs.Ytbiipeapcclbkaa
