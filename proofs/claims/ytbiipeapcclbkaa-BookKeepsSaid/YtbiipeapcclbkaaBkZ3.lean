/- A book's Put: an entry that is taken. -/
import Derived.Test.YtbiipeapcclbkaaBkZ2
import Derived.Test.YtbiipeapcclbkaaBkV
namespace Go.Proofs.Ytbiipeapcclbkaa
open Go.RowKit Go.Shelf
set_option linter.unusedVariables false
set_option linter.unusedSimpArgs false
set_option maxRecDepth 100000

theorem ent_lay (args : Array Value) (w : World) : (callFunc 25 args).run Try.prog w = .ok (.enter 25 args) w := by kernel_rfl
section
variable {w w' : World} {B bb mb : Nat} {v pl : Value} {M : Mm} {L : List En}
set_option maxHeartbeats 8000000 in
theorem put_yes (h : BookAt w B bb mb v M pl L) (k : Int) (t : ByteArray) (ho : M.off = false) (hk : wiB k 1 250 = true) (ht : t.size ≤ 20000) (hf : posL L + wid ⟨k, 0, t⟩ < M.C.length) (hsz : ∀ c ∈ M.C, c.size = 16) (hBw : B ≤ w.heap.size) :
    Calls Try.prog 11 #[.pointer (some ⟨bb, 0, none⟩), .int .i64 k, .string t] w fun r w' =>
      ((putM M (posL L) ⟨k, 0, t⟩).off = true → r = .returned (.tuple #[.int .i64 0, .int .i64 12]) ∧ BookAt w' B bb mb v (putM M (posL L) ⟨k, 0, t⟩) pl L) ∧
      ((putM M (posL L) ⟨k, 0, t⟩).off = false → r = .returned (.tuple #[.int .i64 ((L.length + 1 : Nat) : Int), .int .i64 0]) ∧ ∃ pl', BookAt w' B bb mb v (putM M (posL L) ⟨k, 0, t⟩) pl' (L ++ [⟨k, 0, t⟩]) ∧ (pl'.ownBlock = pl.ownBlock ∨ ∃ x, pl'.ownBlock = some x ∧ w.heap.size ≤ x)) ∧ Chg (bkF bb mb v pl) w w' := by
  obtain ⟨i0, hi, hz0, hz1, hz2⟩ := info_partsB infoPl
  have N := hide (next_any h)
  have HS := hide h
  have hbl := h.sto.lt
  have hts : ¬ (20000 : Int) < (t.size : Int) := by omega
  have N2 := hide (fun W => bwithin_any k 1 250 W)
  have hkk : 1 ≤ k ∧ k ≤ 250 := of_decide_eq_true hk
  rw [hk] at N2
  have hpb := h.pos
  have hok : okEn ⟨k, 0, t⟩ := ⟨hkk.1, hkk.2, by show (0 : Int) ≤ 0; omega, by show (0 : Int) ≤ 250; omega, ht⟩
  have hml := h.sto.mem.len
  have NE := hide (fun W => end_any (L.length + 1) (posL L) ⟨k, 0, t⟩ (by omega) (by show t.size ≤ 100000; omega) W)
  have NF := hide (fun (W : World) (hs : StoAt W B bb mb v M pl) => sfits_any hs ((posL L + wid ⟨k, 0, t⟩ : Nat) : Int))
  rw [show decide (((posL L + wid ⟨k, 0, t⟩ : Nat) : Int) < (M.C.length : Int)) = true from decide_eq_true (by omega)] at NF
  have NL := hide (fun (W : World) (hs : StoAt W B bb mb v M pl) => lay_any hs (L.length + 1) (posL L) ⟨k, 0, t⟩ hok hf hsz)
  have HLN := hide h.len
  have HLA := hide (fun (W w3 : World) (obj : Obj) (g cap : Nat) (hs : StoAt W B bb mb v (putM M (posL L) ⟨k, 0, t⟩) pl) (hF : ∀ x, stoF bb mb v x → x < W.heap.size) (hg : (W.drew.alloc obj).grownBy w3 pl.ownBlock) (own : w3.ownsRow B 62 5 (.slice (some ⟨g, 0, none⟩) ((plsL L).length + 1) cap) ((plsL L).length + 1) (rowC cellsPl (plsL L) ++ cellsPl (L.length + 1, ⟨k, 0, t⟩, posL L))) (hat : pl.ownBlock = some g ∨ g = W.heap.size + 1) => put_last hs hF h.pF hg own hat h.ok hok (by omega))
  have HKE := hide (fun (W w3 : World) (obj : Obj) (hs : StoAt W B bb mb v (putM M (posL L) ⟨k, 0, t⟩) pl) (hg : (W.drew.alloc obj).grownBy w3 pl.ownBlock) => put_keep hs h.pF hg)
  have HROW := hide (fun (W2 W : World) (hb : Below w.heap.size w W2) (hc : Chg (stoF bb mb v) W2 W) => (h.row.below hb).chg hc h.pF)
  have HF1 := hide (fun (W2 W : World) (hs : StoAt W B bb mb v (putM M (posL L) ⟨k, 0, t⟩) pl) (hb : Below w.heap.size w W2) (hc : Chg (stoF bb mb v) W2 W) => (⟨hs, (h.row.below hb).chg hc h.pF, h.pF, h.ok, h.pos⟩ : BookAt W B bb mb v (putM M (posL L) ⟨k, 0, t⟩) pl L))
  have HFL := hide h.sto.F_lt
  obtain ⟨⟨ao, cap0, hv⟩, _⟩ := h.row.form
  have HV := hide hv
  generalize putM M (posL L) ⟨k, 0, t⟩ = M' at *
  unfold plV at N NE NL
  obtain ⟨n, hn⟩ : ∃ n, n = L.length + 1 := ⟨_, rfl⟩
  rw [← hn] at N NE NL HLA
  rw [← hn]
  have HN := hide hn
  generalize posL L + wid ⟨k, 0, t⟩ = en at *
  generalize posL L = q at *
  have HO := hide ho
  have HI := hide hi; have Z0 := hide hz0; have Z1 := hide hz1; have Z2 := hide hz2; have HBW := hide hBw
  clear h ho hk ht hf hpb hok hml hkk hn hi hz0 hz1 hz2 hv hsz hBw
  dsimp only at NE NL
  go_enter Try.func11, Try.ntmps11
  go_wp2_with fail
  refine (unhide N).mono ?_
  rintro r y1 ⟨rfl, hb⟩
  unfold en0
  dsimp only
  obtain ⟨W2, hW2⟩ : ∃ W2, W2 = y1.alloc (.cells #[.int .i64 (n : Int), .int .i64 k, .int .i64 0, .string t, .int .i64 (q : Int)] 62) := ⟨_, rfl⟩
  have hb2 : Below w.heap.size w W2 := by rw [hW2]; exact hb.alloc hb.size _
  have hX2 : W2.heap[y1.heap.size]? = some (plO n ⟨k, 0, t⟩ q) := by rw [hW2]; exact heap_alloc_new _ _
  have h2 := (unhide HS).sto.below hb2
  obtain ⟨c0, c1, c2⟩ := h2.cells
  rw [unhide HO] at c1
  obtain ⟨k0, k1, k2, k3, k4⟩ := plCells hX2
  dsimp only at k0 k1 k2 k3 k4
  have HB := hide hb2; have HW2 := hide hW2; have H2 := hide h2; have HX2 := hide hX2; have HY := hide hb.size
  clear hb hb2 hW2 c0 c2 h2 hX2
  go_upto_region 3 with fail
  rw [← unhide HW2]
  go_wp2_with fail
  refine (unhide N2 _).mono ?_
  rintro r y2 ⟨rfl, hw2⟩
  rw [hw2]
  clear hw2
  go_upto_region 9 with fail
  go_wp2_with fail
  go_region_law ((first
    | (refine step_call2 (by rfl) 23 _ _ _ (by rfl) (.pointer (some ⟨bb, 0, none⟩)) (.int .i64 (en : Int)) (by rfl) (by rfl) ent_fits (unhide NF _ ((unhide H2).below ((Below.refl _ _).drew.trans j1))) ?_; rintro ev z2 ⟨rfl, j2⟩; refine ⟨_, rfl, ?_⟩)
    | (refine step_call1 (by rfl) 24 _ _ (by rfl) (.agg #[.int .i64 (n : Int), .int .i64 k, .int .i64 0, .string t, .int .i64 (q : Int)]) (by rfl) ent_end (unhide NE _) ?_; rintro ev z1 ⟨rfl, j1⟩; refine ⟨_, rfl, ?_⟩)))
  all_goals
    have j4 : Below W2.heap.size W2 z1 := (Below.refl W2.heap.size W2).drew.trans j1
    have j3 : Below w.heap.size w z1 := (unhide HB).trans (j4.mono (unhide HB).size)
    have j5 := (j4.block _ (block_ltR (unhide HX2))).trans (unhide HX2)
    have j6 := (unhide H2).below j4
    have HB3 := hide j3; have HX3 := hide j5; have H3 := hide j6
    obtain ⟨p0, p1, p2, p3, p4⟩ := plCells j5
    dsimp only at p0 p1 p2 p3 p4
    clear j1 j2 j3 j4 j5 j6 k0 k1 k2 k3 k4 c1
    go_upto_region 11 with fail
    go_wp2_with fail
    go_region_law ((refine step_call2 (by rfl) 25 _ _ _ (by rfl) (.pointer (some ⟨bb, 0, none⟩)) (.agg #[.int .i64 (n : Int), .int .i64 k, .int .i64 0, .string t, .int .i64 (q : Int)]) (by rfl) (by rfl) ent_lay (unhide NL _ ((unhide H3).below (Below.refl _ _).drew)) ?_; rintro ev z3 ⟨rfl, k5, k6⟩; refine ⟨_, rfl, ?_⟩))
    all_goals
      have k7 : Chg (stoF bb mb v) z1 z3 := (Chg.refl _ z1).drew.trans k6 (fun x hx => .inl hx)
      have k8 := (k7.block _ (block_ltR (unhide HX3)) (fun hf => by have := unhide HFL _ hf; have := unhide HY; omega)).trans (unhide HX3)
      obtain ⟨d0, d1, d2⟩ := k5.cells
      obtain ⟨m0, m1, m2, m3, m4⟩ := plCells k8
      dsimp only at m0 m1 m2 m3 m4
      have hrow := unhide HROW z1 z3 (unhide HB3) k7
      have hcA : Chg (bkF bb mb v pl) w z3 := ((Chg.of_below _ (unhide HB3)).trans k7 (fun x hx => .inl hx)).mono (fun x hx => .inl hx)
      have HC1 := hide hcA; have HR1 := hide (unhide HF1 z1 z3 k5 (unhide HB3) k7); have HRW := hide hrow; have K5 := hide k5; have K8 := hide k8
      have hzs : w.heap.size ≤ z3.heap.size := hcA.size
      have hbz : bb < z3.heap.size := by omega
      have hyz : y1.heap.size < z3.heap.size := block_ltR k8
      have hbn : bb ≠ y1.heap.size := by have := unhide HY; omega
      have hbn' : y1.heap.size ≠ bb := Ne.symm hbn
      clear k5 k6 k7 k8 hrow hcA p0 p1 p2 p3 p4 d0
      rcases hoff : M'.off with _ | _
      · rw [hoff] at d1
        have HOF := hide hoff
        clear hoff
        go_upto_region 14 with fail
        go_wp2_with fail
        go_region_law ((refine step_append_lies _ (by rfl) _ _ _ (by rfl) B 62 i0 _ 5 48 Try.underlying56 (unhide HI) (unhide Z0) (unhide Z1) (unhide Z2) rfl (by omega) _ _ _ (by rfl) ((unhide HRW).drew.alloc _) ⟨z3.heap.size, 0, none⟩ 1 1 [.int .i64 (n : Int), .int .i64 k, .int .i64 0, .string t, .int .i64 (q : Int)] (by rfl) (by rfl) (World.news_of_block (heap_alloc_new _ _)) (by simp [Value.oneCell']) (by omega) (by have := unhide HLN; have := plsL_len L; unfold maxLen; omega) (by have := unhide HLN; have := plsL_len L; omega) (by have := unhide HBW; simp; omega) (z3.heap.size + 1) (by simp) ?_; intro g3 cap3 w3 own3 hgrow hat3 hlt3; have q7 := (unhide HKE z3 w3 _ (unhide K5) hgrow).cells.2.2; have qf := (unhide HKE z3 w3 _ (unhide K5) hgrow).frozen 2))
        all_goals
          have hla := unhide HLA z3 w3 _ g3 cap3 (unhide K5) (fun x hx => Nat.lt_of_lt_of_le (unhide HFL x hx) hzs) hgrow own3 hat3
          have hpx : pl.ownBlock ≠ some y1.heap.size := fun e => by have := ((unhide HS).row.lt _ e).2; have := unhide HY; omega
          have hz3 : (z3.drew.alloc (.cells #[.int .i64 (n : Int), .int .i64 k, .int .i64 0, .string t, .int .i64 (q : Int)] 62)).heap[y1.heap.size]? = some (plO n ⟨k, 0, t⟩ q) := (Below.heap_alloc z3.drew _ _ hyz).trans (unhide K8)
          have h3k := (hgrow.block y1.heap.size (block_ltR hz3) (Ne.symm hpx)).trans hz3
          have r0 := (plCells h3k).1
          have hor : (Value.slice (some ⟨g3, 0, none⟩) ((plsL L).length + 1) cap3).ownBlock = pl.ownBlock ∨ ∃ x, (Value.slice (some ⟨g3, 0, none⟩) ((plsL L).length + 1) cap3).ownBlock = some x ∧ w.heap.size ≤ x := by
            rcases hat3 with h | h
            · exact .inl h.symm
            · exact .inr ⟨g3, rfl, by omega⟩
          have HLA3 := hide hla; have HOR := hide hor
          clear hla hpx hz3 h3k own3 hgrow hat3 hor m0 m1 m2 m3 m4 d1 d2
          go_wp2
          refine bodyPost_ret (v := .tuple #[.int .i64 (n : Int), .int .i64 0]) ?_ rfl ⟨fun h => absurd (h.symm.trans (unhide HOF)) (by decide), fun _ => ⟨rfl, _, (unhide HLA3).1, unhide HOR⟩, (unhide HC1).trans (unhide HLA3).2 (fun x hx => .inl hx)⟩
          simp [results, Try.results11, go_sem]
      · rw [hoff] at d1
        have HOF := hide hoff
        clear hoff
        go_wp2
        refine bodyPost_ret (v := .tuple #[.int .i64 0, .int .i64 12]) ?_ rfl ⟨fun _ => ⟨rfl, unhide HR1⟩, fun h => absurd (h.symm.trans (unhide HOF)) (by decide), unhide HC1⟩
        simp [results, Try.results11, go_sem]
end
end Go.Proofs.Ytbiipeapcclbkaa
