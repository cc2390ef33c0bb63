/- sameFiles, sameAnswers of the law, of two that hold the same. Made by drafts/genTfT.py. -/
import Derived.Test.YtfpglpefofcdeaaGreatDoorM25
import Derived.Test.YtfpglpefofcdeaaGreatDoorM27
import Derived.Test.YtfpglpefofcdeaaGreatDoorM03
namespace Go.Proofs.YtfpglpefofcdeaaGreatDoor
open Go.RowKit
set_option linter.unusedVariables false
set_option linter.unusedSimpArgs false
set_option maxRecDepth 100000

set_option maxHeartbeats 1000000 in
theorem sameW_any (L : List XWay) (ao bo : Option Addr) (c d : Nat) (w : World) (hg : RowWay w ao L) (hh : RowWay w bo L) (hl : L.length ≤ 1000000) :
    Calls Tryz.prog 81 #[.slice ao L.length c, .slice bo L.length d] w fun e w' => e = .returned (.bool true) ∧ Below w.heap.size w w' := by
  have hl' : (L.length : Int) ≤ 1000000 := by omega
  have HG := hide hg.1; have HH := hide hh.1
  clear hg hh
  go_enter Tryz.func81, Tryz.ntmps81
  go_wp2
  go_loopw [13] (fun i wr => ∃ k : Nat, k ≤ L.length ∧ i = .int .i64 k ∧ ∃ q, wr = w.drewN q) (fun i _ => L.length - (intOf i).toNat)
  case atStart => exact ⟨0, Nat.zero_le _, rfl, 0, rfl⟩
  case round =>
    obtain ⟨k, hk, rfl, q, rfl⟩ := hrel
    by_cases hlt : k < L.length
    · obtain ⟨x, hx⟩ : ∃ s, L[k]? = some s := ⟨_, List.getElem?_eq_getElem hlt⟩
      rcases unhide HG with hn | ⟨b1, o1, rfl, _, hc1⟩
      · rw [hn] at hlt; simp at hlt
      rcases unhide HH with hn | ⟨b2, o2, rfl, _, hc2⟩
      · rw [hn] at hlt; simp at hlt
      obtain ⟨c0, c1, c2⟩ := hc1 k x hx
      obtain ⟨d0, d1, d2⟩ := hc2 k x hx
      have hki : (k : Int) < (L.length : Int) := by omega
      clear hx hc1 hc2
      go_wp2_with fail
      go_quiet (fail)
      go_wp2
      go_roundw
      case rel => exact ⟨k + 1, by omega, by go_num, _, rfl⟩
      case measure => simp [intOf]; omega
    · go_wp2
      go_ret
      exact ⟨rfl, below_drewN (Below.refl _ _) _⟩
theorem below2T {w W w' : World} (h : Below w.heap.size w W) (k : Below W.heap.size W w') : Below w.heap.size w w' := h.trans (k.mono h.size)
set_option maxHeartbeats 4000000 in
theorem sameFiles_any (f g : Fl) (w : World) (hf : FlOK w f) (hg : FlOK w g) (h : f.strip = g.strip) (hl : f.apps.length ≤ 1000) (hl2 : f.ways.list.length ≤ 1000000) :
    Calls Tryz.prog 45 #[.agg (flC f), .agg (flC g)] w fun e w' => e = .returned (.bool true) ∧ Below w.heap.size w w' := by
  obtain ⟨id, ap, apps, ac, isig, irest, csig, crest, ⟨wx, wy, wo, wl, wc⟩, md, mo, mf, ro, row, rc⟩ := f
  obtain ⟨id2, ap2, apps2, ac2, isig2, irest2, csig2, crest2, ⟨wx2, wy2, wo2, wl2, wc2⟩, md2, mo2, mf2, ro2, row2, rc2⟩ := g
  simp only [Fl.strip, Fl.mk.injEq, XWays.mk.injEq, true_and, and_true] at h
  obtain ⟨rfl, rfl, rfl, rfl, rfl, rfl, ⟨rfl, rfl, rfl⟩, rfl, rfl, rfl, rfl⟩ := h
  obtain ⟨W2, hW2⟩ : ∃ W2, W2 = (w.alloc (.cells #[.string id, .slice ap apps.length ac, .string isig, .string irest, .string csig, .string crest, .int .i64 wx, .int .i64 wy, .slice wo wl.length wc, .int .i64 md, .int .i64 mo, .int .i64 mf, .slice ro row.length rc] 33)).alloc (.cells #[.string id, .slice ap2 apps.length ac2, .string isig, .string irest, .string csig, .string crest, .int .i64 wx, .int .i64 wy, .slice wo2 wl.length wc2, .int .i64 md, .int .i64 mo, .int .i64 mf, .slice ro2 row.length rc2] 33) := ⟨_, rfl⟩
  have hB2 : Below w.heap.size w W2 := by rw [hW2]; exact ((Below.refl _ _).alloc (Nat.le_refl _) _).alloc (by simp) _
  have hXA : W2.heap[w.heap.size]? = some (.cells #[.string id, .slice ap apps.length ac, .string isig, .string irest, .string csig, .string crest, .int .i64 wx, .int .i64 wy, .slice wo wl.length wc, .int .i64 md, .int .i64 mo, .int .i64 mf, .slice ro row.length rc] 33 (0, 0)) := by
    rw [hW2]
    have h1 := heap_alloc_new w (.cells #[.string id, .slice ap apps.length ac, .string isig, .string irest, .string csig, .string crest, .int .i64 wx, .int .i64 wy, .slice wo wl.length wc, .int .i64 md, .int .i64 mo, .int .i64 mf, .slice ro row.length rc] 33)
    rw [((Below.refl (w.alloc _).heap.size (w.alloc _)).alloc (Nat.le_refl _) _).block _ (block_ltQ h1)]; exact h1
  have hXB : W2.heap[w.heap.size + 1]? = some (.cells #[.string id, .slice ap2 apps.length ac2, .string isig, .string irest, .string csig, .string crest, .int .i64 wx, .int .i64 wy, .slice wo2 wl.length wc2, .int .i64 md, .int .i64 mo, .int .i64 mf, .slice ro2 row.length rc2] 33 (0, 0)) := by
    rw [hW2]
    have h1 := heap_alloc_new (w.alloc (.cells #[.string id, .slice ap apps.length ac, .string isig, .string irest, .string csig, .string crest, .int .i64 wx, .int .i64 wy, .slice wo wl.length wc, .int .i64 md, .int .i64 mo, .int .i64 mf, .slice ro row.length rc] 33)) (.cells #[.string id, .slice ap2 apps.length ac2, .string isig, .string irest, .string csig, .string crest, .int .i64 wx, .int .i64 wy, .slice wo2 wl.length wc2, .int .i64 md, .int .i64 mo, .int .i64 mf, .slice ro2 row.length rc2] 33)
    simpa using h1
  have N1 := hide (fun W (hb : Below W2.heap.size W2 W) => sameP_any apps ap ap2 ac ac2 W ((hf.apps.below hB2).below hb) ((hg.apps.below hB2).below hb) hl)
  have N2 := hide (fun W (hb : Below W2.heap.size W2 W) => sameW_any wl wo wo2 wc wc2 W ((hf.ways.below hB2).below hb) ((hg.ways.below hB2).below hb) hl2)
  have N3 := hide (fun W (hb : Below W2.heap.size W2 W) => sameF_any row row ro ro2 rc rc2 W ((hf.row.below hB2).below hb) ((hg.row.below hB2).below hb) hf.len hf.len)
  have t1 : (id.toList == id.toList) = true := by simp
  have t2 : (isig.toList == isig.toList) = true := by simp
  have t3 : (irest.toList == irest.toList) = true := by simp
  have t4 : (csig.toList == csig.toList) = true := by simp
  have t5 : (crest.toList == crest.toList) = true := by simp
  have t6 : (wx == wx) = true := by simp
  have t7 : (wy == wy) = true := by simp
  have t8 : (md == md) = true := by simp
  have t9 : (mo == mo) = true := by simp
  have t10 : (mf == mf) = true := by simp
  have HXA := hide (fun W (hb : Below W2.heap.size W2 W) => (hb.block _ (block_ltQ hXA)).trans hXA)
  have HXB := hide (fun W (hb : Below W2.heap.size W2 W) => (hb.block _ (block_ltQ hXB)).trans hXB)
  have HB2 := hide hB2
  have HW2 := hide hW2
  clear hf hg hl hl2 hB2 hXA hXB hW2
  show Calls Tryz.prog 45 #[.agg #[.string id, .slice ap apps.length ac, .string isig, .string irest, .string csig, .string crest, .int .i64 wx, .int .i64 wy, .slice wo wl.length wc, .int .i64 md, .int .i64 mo, .int .i64 mf, .slice ro row.length rc], .agg #[.string id, .slice ap2 apps.length ac2, .string isig, .string irest, .string csig, .string crest, .int .i64 wx, .int .i64 wy, .slice wo2 wl.length wc2, .int .i64 md, .int .i64 mo, .int .i64 mf, .slice ro2 row.length rc2]] w _
  go_enter Tryz.func45, Tryz.ntmps45
  go_wp2_with fail
  rw [← unhide HW2]
  refine (unhide N1 _ (Below.refl _ _)).mono ?_
  rintro e y1 ⟨rfl, k1⟩
  have hxa := unhide HXA y1 k1
  have hxb := unhide HXB y1 k1
  have c2 : y1.cell? ⟨w.heap.size, 2, none⟩ = some (.string isig) := cell_of_row _ _ 2 _ _ _ hxa
  have c3 : y1.cell? ⟨w.heap.size, 3, none⟩ = some (.string irest) := cell_of_row _ _ 3 _ _ _ hxa
  have c4 : y1.cell? ⟨w.heap.size, 4, none⟩ = some (.string csig) := cell_of_row _ _ 4 _ _ _ hxa
  have c5 : y1.cell? ⟨w.heap.size, 5, none⟩ = some (.string crest) := cell_of_row _ _ 5 _ _ _ hxa
  have c6 : y1.cell? ⟨w.heap.size, 6, none⟩ = some (.int .i64 wx) := cell_of_row _ _ 6 _ _ _ hxa
  have c7 : y1.cell? ⟨w.heap.size, 7, none⟩ = some (.int .i64 wy) := cell_of_row _ _ 7 _ _ _ hxa
  have c8 : y1.cell? ⟨w.heap.size, 8, none⟩ = some (.slice wo wl.length wc) := cell_of_row _ _ 8 _ _ _ hxa
  have e2 : y1.cell? ⟨w.heap.size + 1, 2, none⟩ = some (.string isig) := cell_of_row _ _ 2 _ _ _ hxb
  have e3 : y1.cell? ⟨w.heap.size + 1, 3, none⟩ = some (.string irest) := cell_of_row _ _ 3 _ _ _ hxb
  have e4 : y1.cell? ⟨w.heap.size + 1, 4, none⟩ = some (.string csig) := cell_of_row _ _ 4 _ _ _ hxb
  have e5 : y1.cell? ⟨w.heap.size + 1, 5, none⟩ = some (.string crest) := cell_of_row _ _ 5 _ _ _ hxb
  have e6 : y1.cell? ⟨w.heap.size + 1, 6, none⟩ = some (.int .i64 wx) := cell_of_row _ _ 6 _ _ _ hxb
  have e7 : y1.cell? ⟨w.heap.size + 1, 7, none⟩ = some (.int .i64 wy) := cell_of_row _ _ 7 _ _ _ hxb
  have e8 : y1.cell? ⟨w.heap.size + 1, 8, none⟩ = some (.slice wo2 wl.length wc2) := cell_of_row _ _ 8 _ _ _ hxb
  have HK1 := hide k1
  clear hxa hxb k1
  go_wp2_with fail
  refine (unhide N2 _ (unhide HK1)).mono ?_
  rintro e y2 ⟨rfl, k2⟩
  have hk2 := below2T (unhide HK1) k2
  have hxa := unhide HXA y2 hk2
  have hxb := unhide HXB y2 hk2
  clear c2 e2 c3 e3 c4 e4 c5 e5 c6 e6 c7 e7 c8 e8
  have c9 : y2.cell? ⟨w.heap.size, 9, none⟩ = some (.int .i64 md) := cell_of_row _ _ 9 _ _ _ hxa
  have c10 : y2.cell? ⟨w.heap.size, 10, none⟩ = some (.int .i64 mo) := cell_of_row _ _ 10 _ _ _ hxa
  have c11 : y2.cell? ⟨w.heap.size, 11, none⟩ = some (.int .i64 mf) := cell_of_row _ _ 11 _ _ _ hxa
  have c12 : y2.cell? ⟨w.heap.size, 12, none⟩ = some (.slice ro row.length rc) := cell_of_row _ _ 12 _ _ _ hxa
  have e9 : y2.cell? ⟨w.heap.size + 1, 9, none⟩ = some (.int .i64 md) := cell_of_row _ _ 9 _ _ _ hxb
  have e10 : y2.cell? ⟨w.heap.size + 1, 10, none⟩ = some (.int .i64 mo) := cell_of_row _ _ 10 _ _ _ hxb
  have e11 : y2.cell? ⟨w.heap.size + 1, 11, none⟩ = some (.int .i64 mf) := cell_of_row _ _ 11 _ _ _ hxb
  have e12 : y2.cell? ⟨w.heap.size + 1, 12, none⟩ = some (.slice ro2 row.length rc2) := cell_of_row _ _ 12 _ _ _ hxb
  have HK2 := hide hk2
  clear hxa hxb k2 hk2 HK1
  go_wp2_with fail
  refine (unhide N3 _ (unhide HK2)).mono ?_
  rintro e y3 ⟨rfl, k3⟩
  have hk3 := below2T (unhide HK2) k3
  have HK3 := hide (below2T (unhide HB2) hk3)
  clear c9 e9 c10 e10 c11 e11 c12 e12 hk3 k3 HK2
  go_wp2
  go_ret
  exact ⟨by simp, unhide HK3⟩
set_option maxHeartbeats 8000000 in
theorem sameAnswers_any (a b : An) (w : World) (ha : AnOK w a) (hb : AnOK w b) (h : a.strip = b.strip) (hl : a.apps.length ≤ 1000) (hl2 : a.fl.apps.length ≤ 1000) (hl3 : a.fl.ways.list.length ≤ 1000000) :
    Calls Tryz.prog 11 #[.agg (anC a), .agg (anC b)] w fun e w' => e = .returned (.bool true) ∧ Below w.heap.size w w' := by
  obtain ⟨er, dO, xo, al, xc, cnt, lst, lft, ⟨id, ap, apps, ac, isig, irest, csig, crest, ⟨wx, wy, wo, wl, wc⟩, md, mo, mf, ro, row, rc⟩, knd, rcn, sl, bsig, brest⟩ := a
  obtain ⟨er2, dO2, xo2, al2, xc2, cnt2, lst2, lft2, ⟨id2, ap2, apps2, ac2, isig2, irest2, csig2, crest2, ⟨wx2, wy2, wo2, wl2, wc2⟩, md2, mo2, mf2, ro2, row2, rc2⟩, knd2, rcn2, sl2, bsig2, brest2⟩ := b
  simp only [An.strip, An.mk.injEq, Fl.strip, Fl.mk.injEq, XWays.mk.injEq, true_and, and_true] at h
  obtain ⟨rfl, rfl, rfl, rfl, rfl, rfl, ⟨rfl, rfl, rfl, rfl, rfl, rfl, ⟨rfl, rfl, rfl⟩, rfl, rfl, rfl, rfl⟩, rfl, rfl, rfl, rfl, rfl⟩ := h
  obtain ⟨W2, hW2⟩ : ∃ W2, W2 = (w.alloc (.cells #[.int .i64 er, .int .i64 dO, .slice xo al.length xc, .int .i64 cnt, .int .i64 lst, .int .i64 lft, .string id, .slice ap apps.length ac, .string isig, .string irest, .string csig, .string crest, .int .i64 wx, .int .i64 wy, .slice wo wl.length wc, .int .i64 md, .int .i64 mo, .int .i64 mf, .slice ro row.length rc, .int .i64 knd, .int .i64 rcn, .string sl, .string bsig, .string brest] 37)).alloc (.cells #[.int .i64 er, .int .i64 dO, .slice xo2 al.length xc2, .int .i64 cnt, .int .i64 lst, .int .i64 lft, .string id, .slice ap2 apps.length ac2, .string isig, .string irest, .string csig, .string crest, .int .i64 wx, .int .i64 wy, .slice wo2 wl.length wc2, .int .i64 md, .int .i64 mo, .int .i64 mf, .slice ro2 row.length rc2, .int .i64 knd, .int .i64 rcn, .string sl, .string bsig, .string brest] 37) := ⟨_, rfl⟩
  have hB2 : Below w.heap.size w W2 := by rw [hW2]; exact ((Below.refl _ _).alloc (Nat.le_refl _) _).alloc (by simp) _
  have hXA : W2.heap[w.heap.size]? = some (.cells #[.int .i64 er, .int .i64 dO, .slice xo al.length xc, .int .i64 cnt, .int .i64 lst, .int .i64 lft, .string id, .slice ap apps.length ac, .string isig, .string irest, .string csig, .string crest, .int .i64 wx, .int .i64 wy, .slice wo wl.length wc, .int .i64 md, .int .i64 mo, .int .i64 mf, .slice ro row.length rc, .int .i64 knd, .int .i64 rcn, .string sl, .string bsig, .string brest] 37 (0, 0)) := by
    rw [hW2]
    have h1 := heap_alloc_new w (.cells #[.int .i64 er, .int .i64 dO, .slice xo al.length xc, .int .i64 cnt, .int .i64 lst, .int .i64 lft, .string id, .slice ap apps.length ac, .string isig, .string irest, .string csig, .string crest, .int .i64 wx, .int .i64 wy, .slice wo wl.length wc, .int .i64 md, .int .i64 mo, .int .i64 mf, .slice ro row.length rc, .int .i64 knd, .int .i64 rcn, .string sl, .string bsig, .string brest] 37)
    rw [((Below.refl (w.alloc _).heap.size (w.alloc _)).alloc (Nat.le_refl _) _).block _ (block_ltQ h1)]; exact h1
  have hXB : W2.heap[w.heap.size + 1]? = some (.cells #[.int .i64 er, .int .i64 dO, .slice xo2 al.length xc2, .int .i64 cnt, .int .i64 lst, .int .i64 lft, .string id, .slice ap2 apps.length ac2, .string isig, .string irest, .string csig, .string crest, .int .i64 wx, .int .i64 wy, .slice wo2 wl.length wc2, .int .i64 md, .int .i64 mo, .int .i64 mf, .slice ro2 row.length rc2, .int .i64 knd, .int .i64 rcn, .string sl, .string bsig, .string brest] 37 (0, 0)) := by
    rw [hW2]
    have h1 := heap_alloc_new (w.alloc (.cells #[.int .i64 er, .int .i64 dO, .slice xo al.length xc, .int .i64 cnt, .int .i64 lst, .int .i64 lft, .string id, .slice ap apps.length ac, .string isig, .string irest, .string csig, .string crest, .int .i64 wx, .int .i64 wy, .slice wo wl.length wc, .int .i64 md, .int .i64 mo, .int .i64 mf, .slice ro row.length rc, .int .i64 knd, .int .i64 rcn, .string sl, .string bsig, .string brest] 37)) (.cells #[.int .i64 er, .int .i64 dO, .slice xo2 al.length xc2, .int .i64 cnt, .int .i64 lst, .int .i64 lft, .string id, .slice ap2 apps.length ac2, .string isig, .string irest, .string csig, .string crest, .int .i64 wx, .int .i64 wy, .slice wo2 wl.length wc2, .int .i64 md, .int .i64 mo, .int .i64 mf, .slice ro2 row.length rc2, .int .i64 knd, .int .i64 rcn, .string sl, .string bsig, .string brest] 37)
    simpa using h1
  have N1 := hide (fun W (hb' : Below W2.heap.size W2 W) => sameP_any al xo xo2 xc xc2 W ((ha.apps.below hB2).below hb') ((hb.apps.below hB2).below hb') hl)
  have n2 := fun W (hb' : Below W2.heap.size W2 W) => sameFiles_any ⟨id, ap, apps, ac, isig, irest, csig, crest, ⟨wx, wy, wo, wl, wc⟩, md, mo, mf, ro, row, rc⟩ ⟨id, ap2, apps, ac2, isig, irest, csig, crest, ⟨wx, wy, wo2, wl, wc2⟩, md, mo, mf, ro2, row, rc2⟩ W ((ha.fl.below hB2).below hb') ((hb.fl.below hB2).below hb') rfl hl2 hl3
  have N2 : Hid (∀ W, Below W2.heap.size W2 W → Calls Tryz.prog 45 #[.agg #[.string id, .slice ap apps.length ac, .string isig, .string irest, .string csig, .string crest, .int .i64 wx, .int .i64 wy, .slice wo wl.length wc, .int .i64 md, .int .i64 mo, .int .i64 mf, .slice ro row.length rc], .agg #[.string id, .slice ap2 apps.length ac2, .string isig, .string irest, .string csig, .string crest, .int .i64 wx, .int .i64 wy, .slice wo2 wl.length wc2, .int .i64 md, .int .i64 mo, .int .i64 mf, .slice ro2 row.length rc2]] W fun e w' => e = .returned (.bool true) ∧ Below W.heap.size W w') := hide n2
  have t1 : (er == er) = true := by simp
  have t2 : (dO == dO) = true := by simp
  have t3 : (cnt == cnt) = true := by simp
  have t4 : (lst == lst) = true := by simp
  have t5 : (lft == lft) = true := by simp
  have t6 : (knd == knd) = true := by simp
  have t7 : (rcn == rcn) = true := by simp
  have t8 : (sl.toList == sl.toList) = true := by simp
  have t9 : (bsig.toList == bsig.toList) = true := by simp
  have t10 : (brest.toList == brest.toList) = true := by simp
  have HXA := hide (fun W (hb : Below W2.heap.size W2 W) => (hb.block _ (block_ltQ hXA)).trans hXA)
  have HXB := hide (fun W (hb : Below W2.heap.size W2 W) => (hb.block _ (block_ltQ hXB)).trans hXB)
  have HB2 := hide hB2
  have HW2 := hide hW2
  clear ha hb hl hl2 hl3 hB2 hXA hXB hW2 n2
  show Calls Tryz.prog 11 #[.agg #[.int .i64 er, .int .i64 dO, .slice xo al.length xc, .int .i64 cnt, .int .i64 lst, .int .i64 lft, .string id, .slice ap apps.length ac, .string isig, .string irest, .string csig, .string crest, .int .i64 wx, .int .i64 wy, .slice wo wl.length wc, .int .i64 md, .int .i64 mo, .int .i64 mf, .slice ro row.length rc, .int .i64 knd, .int .i64 rcn, .string sl, .string bsig, .string brest], .agg #[.int .i64 er, .int .i64 dO, .slice xo2 al.length xc2, .int .i64 cnt, .int .i64 lst, .int .i64 lft, .string id, .slice ap2 apps.length ac2, .string isig, .string irest, .string csig, .string crest, .int .i64 wx, .int .i64 wy, .slice wo2 wl.length wc2, .int .i64 md, .int .i64 mo, .int .i64 mf, .slice ro2 row.length rc2, .int .i64 knd, .int .i64 rcn, .string sl, .string bsig, .string brest]] w _
  go_enter Tryz.func11, Tryz.ntmps11
  go_wp2_with fail
  rw [← unhide HW2]
  refine (unhide N1 _ (Below.refl _ _)).mono ?_
  rintro e y1 ⟨rfl, k1⟩
  have hxa := unhide HXA y1 k1
  have hxb := unhide HXB y1 k1
  have c3 : y1.cell? ⟨w.heap.size, 3, none⟩ = some (.int .i64 cnt) := cell_of_row _ _ 3 _ _ _ hxa
  have c4 : y1.cell? ⟨w.heap.size, 4, none⟩ = some (.int .i64 lst) := cell_of_row _ _ 4 _ _ _ hxa
  have c5 : y1.cell? ⟨w.heap.size, 5, none⟩ = some (.int .i64 lft) := cell_of_row _ _ 5 _ _ _ hxa
  have c6 : y1.cell? ⟨w.heap.size, 6, none⟩ = some (.string id) := cell_of_row _ _ 6 _ _ _ hxa
  have c7 : y1.cell? ⟨w.heap.size, 7, none⟩ = some (.slice ap apps.length ac) := cell_of_row _ _ 7 _ _ _ hxa
  have c8 : y1.cell? ⟨w.heap.size, 8, none⟩ = some (.string isig) := cell_of_row _ _ 8 _ _ _ hxa
  have c9 : y1.cell? ⟨w.heap.size, 9, none⟩ = some (.string irest) := cell_of_row _ _ 9 _ _ _ hxa
  have c10 : y1.cell? ⟨w.heap.size, 10, none⟩ = some (.string csig) := cell_of_row _ _ 10 _ _ _ hxa
  have c11 : y1.cell? ⟨w.heap.size, 11, none⟩ = some (.string crest) := cell_of_row _ _ 11 _ _ _ hxa
  have c12 : y1.cell? ⟨w.heap.size, 12, none⟩ = some (.int .i64 wx) := cell_of_row _ _ 12 _ _ _ hxa
  have c13 : y1.cell? ⟨w.heap.size, 13, none⟩ = some (.int .i64 wy) := cell_of_row _ _ 13 _ _ _ hxa
  have c14 : y1.cell? ⟨w.heap.size, 14, none⟩ = some (.slice wo wl.length wc) := cell_of_row _ _ 14 _ _ _ hxa
  have c15 : y1.cell? ⟨w.heap.size, 15, none⟩ = some (.int .i64 md) := cell_of_row _ _ 15 _ _ _ hxa
  have c16 : y1.cell? ⟨w.heap.size, 16, none⟩ = some (.int .i64 mo) := cell_of_row _ _ 16 _ _ _ hxa
  have c17 : y1.cell? ⟨w.heap.size, 17, none⟩ = some (.int .i64 mf) := cell_of_row _ _ 17 _ _ _ hxa
  have c18 : y1.cell? ⟨w.heap.size, 18, none⟩ = some (.slice ro row.length rc) := cell_of_row _ _ 18 _ _ _ hxa
  have e3 : y1.cell? ⟨w.heap.size + 1, 3, none⟩ = some (.int .i64 cnt) := cell_of_row _ _ 3 _ _ _ hxb
  have e4 : y1.cell? ⟨w.heap.size + 1, 4, none⟩ = some (.int .i64 lst) := cell_of_row _ _ 4 _ _ _ hxb
  have e5 : y1.cell? ⟨w.heap.size + 1, 5, none⟩ = some (.int .i64 lft) := cell_of_row _ _ 5 _ _ _ hxb
  have e6 : y1.cell? ⟨w.heap.size + 1, 6, none⟩ = some (.string id) := cell_of_row _ _ 6 _ _ _ hxb
  have e7 : y1.cell? ⟨w.heap.size + 1, 7, none⟩ = some (.slice ap2 apps.length ac2) := cell_of_row _ _ 7 _ _ _ hxb
  have e8 : y1.cell? ⟨w.heap.size + 1, 8, none⟩ = some (.string isig) := cell_of_row _ _ 8 _ _ _ hxb
  have e9 : y1.cell? ⟨w.heap.size + 1, 9, none⟩ = some (.string irest) := cell_of_row _ _ 9 _ _ _ hxb
  have e10 : y1.cell? ⟨w.heap.size + 1, 10, none⟩ = some (.string csig) := cell_of_row _ _ 10 _ _ _ hxb
  have e11 : y1.cell? ⟨w.heap.size + 1, 11, none⟩ = some (.string crest) := cell_of_row _ _ 11 _ _ _ hxb
  have e12 : y1.cell? ⟨w.heap.size + 1, 12, none⟩ = some (.int .i64 wx) := cell_of_row _ _ 12 _ _ _ hxb
  have e13 : y1.cell? ⟨w.heap.size + 1, 13, none⟩ = some (.int .i64 wy) := cell_of_row _ _ 13 _ _ _ hxb
  have e14 : y1.cell? ⟨w.heap.size + 1, 14, none⟩ = some (.slice wo2 wl.length wc2) := cell_of_row _ _ 14 _ _ _ hxb
  have e15 : y1.cell? ⟨w.heap.size + 1, 15, none⟩ = some (.int .i64 md) := cell_of_row _ _ 15 _ _ _ hxb
  have e16 : y1.cell? ⟨w.heap.size + 1, 16, none⟩ = some (.int .i64 mo) := cell_of_row _ _ 16 _ _ _ hxb
  have e17 : y1.cell? ⟨w.heap.size + 1, 17, none⟩ = some (.int .i64 mf) := cell_of_row _ _ 17 _ _ _ hxb
  have e18 : y1.cell? ⟨w.heap.size + 1, 18, none⟩ = some (.slice ro2 row.length rc2) := cell_of_row _ _ 18 _ _ _ hxb
  have HK1 := hide k1
  clear hxa hxb k1
  go_wp2_with fail
  refine (unhide N2 _ (unhide HK1)).mono ?_
  rintro e y2 ⟨rfl, k2⟩
  have hk2 := below2T (unhide HK1) k2
  have hxa := unhide HXA y2 hk2
  have hxb := unhide HXB y2 hk2
  clear c3 e3 c4 e4 c5 e5 c6 e6 c7 e7 c8 e8 c9 e9 c10 e10 c11 e11 c12 e12 c13 e13 c14 e14 c15 e15 c16 e16 c17 e17 c18 e18
  have c19 : y2.cell? ⟨w.heap.size, 19, none⟩ = some (.int .i64 knd) := cell_of_row _ _ 19 _ _ _ hxa
  have c20 : y2.cell? ⟨w.heap.size, 20, none⟩ = some (.int .i64 rcn) := cell_of_row _ _ 20 _ _ _ hxa
  have c21 : y2.cell? ⟨w.heap.size, 21, none⟩ = some (.string sl) := cell_of_row _ _ 21 _ _ _ hxa
  have c22 : y2.cell? ⟨w.heap.size, 22, none⟩ = some (.string bsig) := cell_of_row _ _ 22 _ _ _ hxa
  have c23 : y2.cell? ⟨w.heap.size, 23, none⟩ = some (.string brest) := cell_of_row _ _ 23 _ _ _ hxa
  have e19 : y2.cell? ⟨w.heap.size + 1, 19, none⟩ = some (.int .i64 knd) := cell_of_row _ _ 19 _ _ _ hxb
  have e20 : y2.cell? ⟨w.heap.size + 1, 20, none⟩ = some (.int .i64 rcn) := cell_of_row _ _ 20 _ _ _ hxb
  have e21 : y2.cell? ⟨w.heap.size + 1, 21, none⟩ = some (.string sl) := cell_of_row _ _ 21 _ _ _ hxb
  have e22 : y2.cell? ⟨w.heap.size + 1, 22, none⟩ = some (.string bsig) := cell_of_row _ _ 22 _ _ _ hxb
  have e23 : y2.cell? ⟨w.heap.size + 1, 23, none⟩ = some (.string brest) := cell_of_row _ _ 23 _ _ _ hxb
  have HK2 := hide (below2T (unhide HB2) hk2)
  clear hxa hxb k2 hk2 HK1
  go_wp2
  go_ret
  exact ⟨by simp, unhide HK2⟩
end Go.Proofs.YtfpglpefofcdeaaGreatDoor
