/- The document's book: Put of an entry that may be taken. -/
import Derived.Test.YtbiipeapcclbkaaBkD3
import Derived.Test.YtbiipeapcclbkaaBkD4
import Derived.Test.YtbiipeapcclbkaaBkDP
namespace Go.Proofs.Ytbiipeapcclbkaa
open Go.RowKit Go.Shelf
set_option linter.unusedVariables false
set_option linter.unusedSimpArgs false
set_option maxRecDepth 100000

section
variable {w w' : World} {B : Nat} {rv : Value} {L : List En}
set_option maxHeartbeats 8000000 in
theorem rput_nil (hL0 : L = []) (h : OwnR w B 60 4 cellsE rv (plsL L)) (hnil : L = [] → rv = .slice none 0 0) (hpos : posL L ≤ 100000) (cs : Nat) (hcs : cs ≤ 100000) (k : Int) (t : ByteArray) (hk : wiB k 1 250 = true) (ht : t.size ≤ 20000) :
    Calls Try.prog 12 #[.agg #[.int .i64 (cs : Int), rv], .int .i64 k, .string t] w fun r w' =>
      (¬ posL L + wid ⟨k, 0, t⟩ < cs → r = .returned (.tuple #[.agg #[.int .i64 (cs : Int), rv], .int .i64 0, .int .i64 8])) ∧
      (posL L + wid ⟨k, 0, t⟩ < cs → ∃ rv', r = .returned (.tuple #[.agg #[.int .i64 (cs : Int), rv'], .int .i64 ((L.length : Int) + 1), .int .i64 0]) ∧ OwnR w' w.heap.size 60 4 cellsE rv' (plsL (L ++ [⟨k, 0, t⟩]))) ∧ Below w.heap.size w w' := by
  obtain ⟨i0, hi0, hz0, hz1, hz2⟩ := info_partsB infoEn
  obtain ⟨⟨ao, cap, hv⟩, hfm⟩ := h.form
  have hlen : L.length ≤ 100000 := Nat.le_trans (posL_len L) hpos
  have hpl := plsL_len L
  obtain ⟨W2, hW2⟩ : ∃ W2, W2 = (w.alloc (.cells #[.int .i64 (cs : Int), rv] 33)).alloc (.cells #[.int .i64 0, .slice none 0 0] 33) := ⟨_, rfl⟩
  have hB2 : Below w.heap.size w W2 := by rw [hW2]; exact ((Below.refl _ _).alloc (Nat.le_refl _) _).alloc (by simp) _
  have hs2 : W2.heap.size = w.heap.size + 1 + 1 := by rw [hW2]; simp
  have hX1 : W2.heap[w.heap.size]? = some (.cells #[.int .i64 (cs : Int), rv] 33) := by
    rw [hW2]
    exact (Below.heap_alloc _ _ _ (by simp)).trans (heap_alloc_new _ _)
  have hX2 : W2.heap[w.heap.size + 1]? = some (.cells #[.int .i64 0, .slice none 0 0] 33) := by
    rw [hW2]
    have := heap_alloc_new (w.alloc (.cells #[.int .i64 (cs : Int), rv] 33)) (.cells #[.int .i64 0, .slice none 0 0] 33)
    rwa [show (w.alloc (.cells #[.int .i64 (cs : Int), rv] 33)).heap.size = w.heap.size + 1 by simp] at this
  have hMK : ∀ wx, Below W2.heap.size W2 wx → wx.cell? ⟨w.heap.size, 0, none⟩ = some (.int .i64 (cs : Int)) ∧ wx.cell? ⟨w.heap.size, 1, none⟩ = some rv ∧ wx.frozen? ⟨w.heap.size, 1, none⟩ = false ∧ wx.cell? ⟨w.heap.size + 1, 0, none⟩ = some (.int .i64 0) ∧ wx.cell? ⟨w.heap.size + 1, 1, none⟩ = some (.slice none 0 0) ∧ wx.frozen? ⟨w.heap.size + 1, 0, none⟩ = false ∧ wx.frozen? ⟨w.heap.size + 1, 1, none⟩ = false := fun wx hb => by
    have x1 := (hb.block _ (block_ltR hX1)).trans hX1
    have x2 := (hb.block _ (block_ltR hX2)).trans hX2
    refine ⟨?_, ?_, ?_, ?_, ?_, ?_, ?_⟩ <;> simp [World.cell?, World.frozen?, x1, x2]
  have hcell : ∀ (g : Nat), rv = .slice (some ⟨g, 0, none⟩) (plsL L).length cap → ∀ (W : World), Below w.heap.size w W → ∀ j u, (rowC cellsE (plsL L))[j]? = some u → W.cell? ((⟨g, 0, none⟩ : Addr).add j) = some u := fun g hg W hW j u hu => by
    have hr := h
    rw [hg] at hr
    have hlt : j < (plsL L).length * 4 := by
      have := (List.getElem?_eq_some_iff.1 hu).1
      rw [rowC_length cellsE_len] at this
      exact this
    have hgl := (hr.lt g rfl).2
    have := World.ownsRow.cellAt hr j hlt
    rw [hu] at this
    rw [show ((⟨g, 0, none⟩ : Addr).add j) = ⟨g, j, none⟩ by unfold Addr.add; split <;> simp_all]
    exact (hW.cell (p := ⟨g, j, none⟩) hgl).trans this
  have hcase : (L = [] ∧ rv = .slice none 0 0) ∨ (0 < (plsL L).length ∧ ∃ g, rv = .slice (some ⟨g, 0, none⟩) (plsL L).length cap) := by
    by_cases hL : L = []
    · exact .inl ⟨hL, hnil hL⟩
    · right
      have : 0 < L.length := List.length_pos_iff.2 hL
      refine ⟨by omega, ?_⟩
      rcases hfm with hn | ⟨g, cap', hv2, _, _⟩
      · rw [hn] at hpl; simp at hpl; omega
      · have e1 := hv.symm.trans hv2
        injection e1 with a1 _ _
        exact ⟨g, by rw [hv, a1]⟩
  have hk' : 1 ≤ k ∧ k ≤ 250 := of_decide_eq_true hk
  have h3 : ¬ k < 1 := by omega
  have h4 : ¬ 250 < k := by omega
  have h5 : ¬ (20000 : Int) < (t.size : Int) := by omega
  have hone := rowE_one (plsL L)
  have hrl : (rowC cellsE (plsL L)).length = (plsL L).length * 4 := rowC_length cellsE_len _
  have hEA : (W2.alloc (.cells #[] 60)).ownsRow W2.heap.size 60 4 (.slice (some ⟨W2.heap.size, 0, none⟩) 0 0) 0 [] := own_made0 _ _ _ _ (Nat.le_refl _)
  have hwid5 : wid ⟨k, 0, t⟩ ≤ 1252 := by unfold wid nC; dsimp only; omega
  have hsz : w.heap.size < W2.heap.size := by omega
  have hsz1 : w.heap.size + 1 < W2.heap.size := by omega
  have HV : Hid (∃ ao n c, rv = .slice ao n c) := hide ⟨_, _, _, hv⟩; have HI := hide hi0; have Z0 := hide hz0; have Z1 := hide hz1; have Z2 := hide hz2; have HCL := hide hcell; have HON := hide hone; have HRL := hide hrl; have HCASE := hide hcase; have HMK := hide hMK; have HB2 := hide hB2; have HW2 := hide hW2; have HX1 := hide hX1; have HX2 := hide hX2; have HEA := hide hEA; have HLEN := hide hlen; have HPL := hide hpl; have HPOS := hide hpos; have HCS := hide hcs; have HWID := hide hwid5; have HH := hide h; have HT := hide ht; have HS2 := hide hs2
  obtain ⟨e0, ecs⟩ : ∃ e0 : En, e0 = ⟨k, 0, t⟩ := ⟨_, rfl⟩
  rw [← ecs] at HWID
  rw [← ecs]
  have HE0 := hide ecs
  obtain ⟨hc0, hc1, _⟩ := hMK W2 (Below.refl _ _)
  clear h hnil hpos hcs hk hk' ht hi0 hz0 hz1 hz2 hv hfm hlen hpl hW2 hB2 hs2 hX1 hX2 hMK hcell hcase hone hrl hEA hwid5 ecs
  have HL0 := hide hL0
  clear hL0
  go_enter Try.func12, Try.ntmps12
  go_upto_region 6 with fail
  rw [← unhide HW2]
  go_cut [30, 31, 32] (fun v30 v31 v32 wx => ∃ g c, v30 = .slice (some ⟨g, 0, none⟩) (L.length + 1) c ∧ v31 = .int .i64 ((L.length : Int) + 1) ∧ v32 = .int .i64 0 ∧ OwnR wx W2.heap.size 60 4 cellsE (.slice (some ⟨g, 0, none⟩) (L.length + 1) c) (lastX L t) ∧ Below W2.heap.size W2 wx)
  case first =>
    rcases unhide HCASE with ⟨hL, rfl⟩ | ⟨hpos, g, rfl⟩
    · subst hL
      have hc2 : (W2.alloc (.cells #[] 60)).heap.size = W2.heap.size + 1 := by simp
      have HNB : Hid (((W2.alloc (.cells #[] 60)).alloc (.cells #[.int .i64 0, .int .i64 0, .int .i64 0, .string t] 60)).heap[W2.heap.size + 1]? = some (.cells #[.int .i64 0, .int .i64 0, .int .i64 0, .string t] 60)) := hide (heap_at_new hc2.symm)
      clear hc2
      go_wp2_with (at_builtin; first | (refine wpList_append_own_none rfl _ _ 31 rfl W2.heap.size 60 i0 4 Try.underlying31 (unhide HI) _ _ _ rfl (unhide HEA) rfl ?_) | (refine wpList_append_own _ rfl _ _ 31 rfl W2.heap.size 60 i0 (.agg #[.int .i64 0, .int .i64 0, .int .i64 0, .string ⟨#[]⟩]) 4 40 Try.underlying31 (unhide HI) (unhide Z0) (unhide Z1) (unhide Z2) rfl (by decide) _ _ _ rfl ((unhide HEA).alloc _) ⟨W2.heap.size + 1, 0, none⟩ 1 1 [.int .i64 0, .int .i64 0, .int .i64 0, .string t] rfl rfl (World.news_of_block (unhide HNB)) ?c2 ?c3 ?c4 ?c5 ?_))
      case c2 => first | exact ⟨rfl, rfl⟩ | (intro u hu; simp at hu; rcases hu with rfl | rfl <;> rfl)
      try (case c3 => unfold maxLen; omega)
      try (case c4 => omega)
      try (case c5 => first | omega | (simp; omega))
      intro v5 w5 hown5 hgrow5 _
      have ho5 : OwnR w5 W2.heap.size 60 4 cellsE v5 (lastX [] t) := hown5
      have hb5 : Below W2.heap.size W2 w5 := (((Below.refl W2.heap.size W2).alloc (Nat.le_refl _) (.cells #[] 60)).alloc (by simp) (.cells #[.int .i64 0, .int .i64 0, .int .i64 0, .string t] 60)).grown hgrow5 (by simp; omega) (fun j hj => by have h9 : W2.heap.size = j := Option.some.inj hj; omega)
      rcases ho5.form.2 with hn | ⟨g5, cap5, hv5, hg5, hgl5⟩
      · cases hn
      subst hv5
      have HO5 := hide ho5; have HB5 := hide hb5
      clear ho5 hb5 hown5 hgrow5 hg5 hgl5
      go_wp2_with fail
      go_meet
      exact ⟨g5, cap5, rfl, rfl, rfl, unhide HO5, unhide HB5⟩
    · rw [unhide HL0] at hpos; simp [plsL, plsFrom] at hpos
  case rest =>
  obtain ⟨g, c, rfl, rfl, rfl, hO, hbc⟩ := hcut
  obtain ⟨ao, rn, rc, rfl⟩ := unhide HV
  have hl9 : (lastX L t).length = L.length + 1 := by unfold lastX; have := unhide HPL; simp [this]
  have hpx : posX (lastX L t) = posL L + wid e0 := by rw [unhide HE0]; exact posX_last L k t
  have hlx : (L.length : Int) ≤ 100000 := by have := unhide HLEN; omega
  have HO := hide hO; have HBC := hide hbc; have HL9 := hide hl9; have HPX := hide hpx
  clear hO hbc hl9 hpx
  go_wp2_with fail
  go_loopw [9, 32] (fun nv iv wx => ∃ i : Nat, i ≤ L.length + 1 ∧ iv = .int .i64 (i : Int) ∧ nv = .int .i64 ((1 + posX ((lastX L t).take i) : Nat) : Int) ∧ Below wc.heap.size wc wx) (fun _ iv _ => L.length + 1 - (intOf iv).toNat)
  case atStart => exact ⟨0, Nat.zero_le _, rfl, rfl, Below.refl _ _⟩
  case round =>
    obtain ⟨i, hi, rfl, rfl, hbw⟩ := hrel
    by_cases hlt : i < L.length + 1
    · obtain ⟨x, hx⟩ : ∃ x, (lastX L t)[i]? = some x := ⟨_, List.getElem?_eq_getElem (by rw [unhide HL9]; exact hlt)⟩
      have hcell := fun (j : Nat) (hj : j < 4) => (show wr.cell? ⟨g, i * 4 + j, none⟩ = (cellsE x)[j]? from by
        have h2 := unhide HO
        have hgl := (h2.lt g rfl).2
        have h3 := h2
        rw [← unhide HL9] at h3
        exact (hbw.cell (p := ⟨g, i * 4 + j, none⟩) hgl).trans (h3.cell cellsE_len i _ hx j hj))
      have a0 := hcell 0 (by omega); have a1 := hcell 1 (by omega); have a2 := hcell 2 (by omega); have a3 := hcell 3 (by omega)
      simp only [cellsE, List.getElem?_cons_zero, List.getElem?_cons_succ, Nat.add_zero] at a0 a1 a2 a3
      have hpt := posX_take hx
      have hple := posX_le (lastX L t) (i + 1)
      rw [unhide HPX] at hple
      have hpb := unhide HPOS
      have hwb := unhide HWID
      have hwp := wid_parts x.2.1
      obtain ⟨xn, ⟨x1, x2, x3⟩, xp⟩ := x
      dsimp only at a0 a1 a2 a3 hpt hwp
      obtain ⟨p, hp⟩ : ∃ p, p = posX ((lastX L t).take i) := ⟨_, rfl⟩
      rw [← hp] at hpt
      rw [← hp]
      have hpi : (p : Int) ≤ 200000 := by omega
      have hti : (x3.size : Int) ≤ 3200000 := by
        have : x3.size / 16 ≤ 200000 := by omega
        omega
      have hii : (i : Int) < (L.length : Int) + 1 := by omega
      have HPT := hide hpt; have HWP := hide hwp
      have HB1 := hide (hbw.alloc hbw.size (.cells #[.int .i64 (xn : Int), .int .i64 x1, .int .i64 x2, .string x3] 60))
      clear hcell hx hpt hple hpb hwb hwp hp hbw
      by_cases hm : 0 < x3.size % 16
      · have hmi : (0 : Int) < ((x3.size % 16 : Nat) : Int) := by omega
        rw [if_pos hm] at HWP
        clear hm
        go_wp2
        refine ⟨⟨i + 1, by omega, by go_num, ?_, unhide HB1⟩, by simp [intOf]; omega⟩
        rw [unhide HPT, unhide HWP]
        congr 1
        omega
      · have hmi : ¬ (0 : Int) < ((x3.size % 16 : Nat) : Int) := by omega
        rw [if_neg hm] at HWP
        clear hm
        go_wp2
        refine ⟨⟨i + 1, by omega, by go_num, ?_, unhide HB1⟩, by simp [intOf]; omega⟩
        rw [unhide HPT, unhide HWP]
        congr 1
        omega
    · have hii : ¬ (i : Int) < (L.length : Int) + 1 := by omega
      have hp9 : posX ((lastX L t).take i) = posL L + wid e0 := by
        rw [List.take_of_length_le (by rw [unhide HL9]; omega)]; exact unhide HPX
      rw [hp9]
      have hbx : Below W2.heap.size W2 wr := (unhide HBC).trans (hbw.mono (unhide HBC).size)
      have hbx2 : Below w.heap.size w wr := (unhide HB2).trans (hbx.mono (unhide HB2).size)
      obtain ⟨m0, m1, m2, m3, m4, m5, m6⟩ := unhide HMK wr hbx
      obtain ⟨en, hen⟩ : ∃ en, en = posL L + wid e0 := ⟨_, rfl⟩
      rw [← hen]
      have HEN := hide hen
      clear hen
      have HBX := hide hbx; have HBX2 := hide hbx2
      clear hbw hp9 hbx hbx2
      by_cases hfull : en < cs
      · have hfi : ¬ (cs : Int) < 1 + (en : Int) := by omega
        have hbn : w.heap.size < wr.heap.size := Nat.lt_of_lt_of_le hsz (unhide HBX).size
        have HFL := hide hfull
        have hMK : ∀ wx, Below wr.heap.size wr wx → wx.cell? ⟨w.heap.size, 0, none⟩ = some (.int .i64 (cs : Int)) ∧ wx.cell? ⟨w.heap.size, 1, none⟩ = some (.slice ao rn rc) ∧ wx.frozen? ⟨w.heap.size, 1, none⟩ = false := fun wx hb => by
          have x1 := (((unhide HBX).trans (hb.mono (unhide HBX).size)).block _ (block_ltR (unhide HX1))).trans (unhide HX1)
          refine ⟨?_, ?_, ?_⟩ <;> simp [World.cell?, World.frozen?, x1]
        have MK := hide hMK
        clear hMK hfull
        go_upto_region 15 with fail
        go_cut [] (fun wx => ∃ g2 c2 w4, wx = w4.setCell ⟨w.heap.size, 1, none⟩ (.slice (some ⟨g2, 0, none⟩) (L.length + 1) c2) ∧ Below wr.heap.size wr w4 ∧ OwnR w4 wr.heap.size 60 4 cellsE (.slice (some ⟨g2, 0, none⟩) (L.length + 1) c2) (plsL (L ++ [e0])))
        case first =>
          have hb0 : Below wr.heap.size wr wr := Below.refl _ _
          rcases unhide HCASE with ⟨hL, he⟩ | ⟨hpos, g', he⟩
          · injection he with e1 e2 e3
            subst hL e1 e2 e3
            have HM3 : Hid (0 + 1 ≤ maxLen) := hide (by unfold maxLen; omega)
            have HM4 : Hid ((0 + 1) * 40 ≤ 140737488355328) := hide (by omega)
            have hwr9 : IntKind.i64.wrap 1 = 1 := by rw [IntKind.wrap_i64]; rfl
            clear m0 m2 m3 m4 m5 m6 HV HCL HCASE HMK HB2 HW2 HX1 HX2 HEA HLEN HPOS HCS HWID HH HT HS2 HO HBC HL9 HPX HBX HBX2 HFL HEN HRL HON hfi hsz hsz1
            go_wp2_with fail
            go_region_law ((first
              | ((refine step_append_lies _ (by rfl) _ _ _ (by rfl) wr.heap.size 60 i0 (.agg #[.int .i64 0, .int .i64 0, .int .i64 0, .string ⟨#[]⟩]) 4 40 Try.underlying31 (unhide HI) (unhide Z0) (unhide Z1) (unhide Z2) rfl (by decide) (.slice (some ⟨_, 0, none⟩) 0 0) 0 [] (by rfl) ?_ ⟨_, 0, none⟩ 1 1 [.int .i64 1, .int .i64 k, .int .i64 0, .string t] (by rfl) (by rfl) (World.news_of_block (cs := #[.int .i64 1, .int .i64 k, .int .i64 0, .string t]) (t := 60) (fr := (0, 0)) ?_) (by simp [Value.oneCell']) (by decide) (unhide HM3) (unhide HM4) ?_ _ rfl ?_; (focus (repeat (first | ((with_reducible refine own_made1 ?_ ?_); (focus (first | rfl | (simp; done))); (focus (refine Below.size (B := wr.heap.size) (w := wr) ?_; (repeat (first | (with_reducible assumption) | (with_reducible refine Below.drew ?_) | (with_reducible refine bl_alloc ?_ _)))))) | (with_reducible refine World.ownsRow.drew ?_) | (with_reducible refine own_allocR ?_ _)))); (focus (repeat (first | ((with_reducible refine heap_at_new ?_); (focus (first | rfl | (simp; done)))) | (with_reducible refine heap_at_drew ?_) | ((with_reducible refine heap_at_grown hgrow1 ?_ ?_); (focus (intro hh; have hh2 := Option.some.inj hh; first | (simp at hh2; done) | omega | (simp at hh2; omega)))) | (with_reducible refine heap_at_old ?_)))); (focus (refine Below.size (B := wr.heap.size) (w := wr) ?_; (repeat (first | (with_reducible assumption) | (with_reducible refine Below.drew ?_) | (with_reducible refine bl_alloc ?_ _))))); intro g2 cap2 w4 own2 hgrow2 hat2 hlt2; have hb4 : Below wr.heap.size wr w4 := (by refine Below.grown ?_ hgrow2 ?_ ?_; (focus (repeat (first | (with_reducible assumption) | (with_reducible refine Below.drew ?_) | (with_reducible refine bl_alloc ?_ _)))); (focus (refine Below.size (B := wr.heap.size) (w := wr) ?_; (repeat (first | (with_reducible assumption) | (with_reducible refine Below.drew ?_) | (with_reducible refine bl_alloc ?_ _))))); (focus (intro q hq; have hq2 := Option.some.inj hq; first | omega | (simp at hq2; omega)))); obtain ⟨yy0, yy1, yyf⟩ := unhide MK _ hb4))
              | (refine step_append_none (by rfl) _ _ _ (by rfl) wr.heap.size 60 i0 4 Try.underlying31 (unhide HI) (.slice (some ⟨_, 0, none⟩) 0 0) 0 [] (by rfl) ?_ (by rfl) ?_; (focus (repeat (first | ((with_reducible refine own_made1 ?_ ?_); (focus (first | rfl | (simp; done))); (focus (refine Below.size (B := wr.heap.size) (w := wr) ?_; (repeat (first | (with_reducible assumption) | (with_reducible refine Below.drew ?_) | (with_reducible refine bl_alloc ?_ _)))))) | (with_reducible refine World.ownsRow.drew ?_) | (with_reducible refine own_allocR ?_ _)))); have hq1 := hb0)
              | fail))
            all_goals
              have hfin : OwnR w4 wr.heap.size 60 4 cellsE (.slice (some ⟨g2, 0, none⟩) (0 + 1) cap2) (plsL ([] ++ [e0])) := (by rw [unhide HE0]; exact own2)
              have HFIN := hide hfin; have HB4 := hide hb4
              clear own2 hgrow2 hat2 hlt2 hfin hb4
              go_wp2_with fail
              go_meet
              exact ⟨g2, cap2, w4, rfl, unhide HB4, unhide HFIN⟩
          · rw [unhide HL0] at hpos; simp [plsL, plsFrom] at hpos
        case rest =>
        obtain ⟨g2, c2, w4, hwc, hb4, own4⟩ := hcut
        have hg2 := (own4.lt g2 rfl).1
        have hb4w : Below W2.heap.size W2 w4 := (unhide HBX).trans (hb4.mono (unhide HBX).size)
        have x1 := (hb4w.block _ (block_ltR (unhide HX1))).trans (unhide HX1)
        have x2 := (hb4w.block _ (block_ltR (unhide HX2))).trans (unhide HX2)
        have hne : g2 ≠ w.heap.size := by omega
        have hne1 : g2 ≠ w.heap.size + 1 := by have := (unhide HBX).size; omega
        have y1 : wc.heap[w.heap.size]? = some (.cells #[.int .i64 (cs : Int), .slice (some ⟨g2, 0, none⟩) (L.length + 1) c2] 33) := by
          rw [hwc]; simp [World.setCell, Array.getElem?_modify, x1]
        have y2 : wc.heap[w.heap.size + 1]? = some (.cells #[.int .i64 0, .slice none 0 0] 33) := by
          rw [hwc]; simp [World.setCell, Array.getElem?_modify, x2]
        have own5 : OwnR wc wr.heap.size 60 4 cellsE (.slice (some ⟨g2, 0, none⟩) (L.length + 1) c2) (plsL (L ++ [e0])) := by
          rw [hwc]; exact own4.other (a := ⟨w.heap.size, 1, none⟩) (fun e => hne (Option.some.inj e)) _
        have hb5 : Below w.heap.size w wc := by
          rw [hwc]; exact ((unhide HBX2).trans (hb4.mono (unhide HBX2).size)).setCell (p := ⟨w.heap.size, 1, none⟩) (Nat.le_refl _) _
        have hb6 := ((hb5.setCell (p := ⟨w.heap.size + 1, 0, none⟩) (Nat.le_succ _) (.int .i64 (cs : Int))).setCell (p := ⟨w.heap.size + 1, 1, none⟩) (Nat.le_succ _) (.slice (some ⟨g2, 0, none⟩) (L.length + 1) c2))
        have own6 := ((own5.other (a := ⟨w.heap.size + 1, 0, none⟩) (fun e => hne1 (Option.some.inj e)) (.int .i64 (cs : Int))).other (a := ⟨w.heap.size + 1, 1, none⟩) (fun e => hne1 (Option.some.inj e)) (.slice (some ⟨g2, 0, none⟩) (L.length + 1) c2)).mono (base' := w.heap.size) (by omega)
        have y3 : ((wc.setCell ⟨w.heap.size + 1, 0, none⟩ (.int .i64 (cs : Int))).setCell ⟨w.heap.size + 1, 1, none⟩ (.slice (some ⟨g2, 0, none⟩) (L.length + 1) c2)).heap[w.heap.size + 1]? = some (.cells #[.int .i64 (cs : Int), .slice (some ⟨g2, 0, none⟩) (L.length + 1) c2] 33) := by
          simp [World.setCell, Array.getElem?_modify, y2]
        have a0 : wc.cell? ⟨w.heap.size, 0, none⟩ = some (.int .i64 (cs : Int)) := by simp [World.cell?, y1]
        have a1 : wc.cell? ⟨w.heap.size, 1, none⟩ = some (.slice (some ⟨g2, 0, none⟩) (L.length + 1) c2) := by simp [World.cell?, y1]
        have b0 : wc.cell? ⟨w.heap.size + 1, 0, none⟩ = some (.int .i64 0) := by simp [World.cell?, y2]
        have b1 : wc.cell? ⟨w.heap.size + 1, 1, none⟩ = some (.slice none 0 0) := by simp [World.cell?, y2]
        have f0 : wc.frozen? ⟨w.heap.size + 1, 0, none⟩ = false := by simp [World.frozen?, y2]
        have f1 : wc.frozen? ⟨w.heap.size + 1, 1, none⟩ = false := by simp [World.frozen?, y2]
        have HB6 := hide hb6; have HO6 := hide own6; have HY3 := hide y3
        clear hwc hb4 own4 hb4w x1 x2 hne hne1 y1 y2 y3 own5 hb5 hb6 own6 hg2 m0 m1 m2 m3 m4 m5 m6
        go_wp2_with fail
        go_region
        all_goals
          go_wp2
          refine bodyPost_ret (v := .tuple #[.agg #[.int .i64 (cs : Int), .slice (some ⟨g2, 0, none⟩) (L.length + 1) c2], .int .i64 ((L.length : Int) + 1), .int .i64 0]) ?_ rfl ⟨fun h => absurd (by rw [← unhide HEN]; exact unhide HFL) h, fun _ => ⟨_, rfl, (unhide HO6).drew⟩, (unhide HB6).drew⟩
          have z := unhide HY3
          have z0 : ((wc.setCell ⟨w.heap.size + 1, 0, none⟩ (.int .i64 (cs : Int))).setCell ⟨w.heap.size + 1, 1, none⟩ (.slice (some ⟨g2, 0, none⟩) (L.length + 1) c2)).cell? ⟨w.heap.size + 1, 0, none⟩ = some (.int .i64 (cs : Int)) := by simp [World.cell?, z]
          have z1 : ((wc.setCell ⟨w.heap.size + 1, 0, none⟩ (.int .i64 (cs : Int))).setCell ⟨w.heap.size + 1, 1, none⟩ (.slice (some ⟨g2, 0, none⟩) (L.length + 1) c2)).cell? ⟨w.heap.size + 1, 1, none⟩ = some (.slice (some ⟨g2, 0, none⟩) (L.length + 1) c2) := by simp [World.cell?, z]
          clear z
          generalize (wc.setCell ⟨w.heap.size + 1, 0, none⟩ (.int .i64 (cs : Int))).setCell ⟨w.heap.size + 1, 1, none⟩ (.slice (some ⟨g2, 0, none⟩) (L.length + 1) c2) = W9 at *
          simp [results, Try.results12, go_sem, z0, z1]
      · have hfi : (cs : Int) < 1 + (en : Int) := by omega
        have HZ := hide (((unhide HBX2).setCell (p := ⟨w.heap.size + 1, 0, none⟩) (Nat.le_succ _) (.int .i64 (cs : Int))).setCell (p := ⟨w.heap.size + 1, 1, none⟩) (Nat.le_succ _) (.slice ao rn rc))
        have z0 : ((wr.setCell ⟨w.heap.size + 1, 0, none⟩ (.int .i64 (cs : Int))).setCell ⟨w.heap.size + 1, 1, none⟩ (.slice ao rn rc)).cell? ⟨w.heap.size + 1, 0, none⟩ = some (.int .i64 (cs : Int)) := by
          have x2 := ((unhide HBX).block _ (block_ltR (unhide HX2))).trans (unhide HX2)
          simp [World.cell?, World.setCell, Array.getElem?_modify, x2]
        have z1 : ((wr.setCell ⟨w.heap.size + 1, 0, none⟩ (.int .i64 (cs : Int))).setCell ⟨w.heap.size + 1, 1, none⟩ (.slice ao rn rc)).cell? ⟨w.heap.size + 1, 1, none⟩ = some (.slice ao rn rc) := by
          have x2 := ((unhide HBX).block _ (block_ltR (unhide HX2))).trans (unhide HX2)
          simp [World.cell?, World.setCell, Array.getElem?_modify, x2]
        have HZ0 := hide z0; have HZ1 := hide z1
        clear z0 z1
        go_wp2
        refine bodyPost_ret (v := .tuple #[.agg #[.int .i64 (cs : Int), .slice ao rn rc], .int .i64 0, .int .i64 8]) ?_ rfl ⟨fun _ => rfl, fun h => absurd (by rw [unhide HEN]; exact h) hfull, unhide HZ⟩
        have z0 := unhide HZ0
        have z1 := unhide HZ1
        generalize (wr.setCell ⟨w.heap.size + 1, 0, none⟩ (.int .i64 (cs : Int))).setCell ⟨w.heap.size + 1, 1, none⟩ (.slice ao rn rc) = W9 at *
        simp [results, Try.results12, go_sem, z0, z1]
end
end Go.Proofs.Ytbiipeapcclbkaa
