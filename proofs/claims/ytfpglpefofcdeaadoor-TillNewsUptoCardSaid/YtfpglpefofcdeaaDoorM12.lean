/- A till made of a plan, by the program: New. Made by drafts/genTnE.py. -/
import Derived.Test.YtfpglpefofcdeaaDoorM09
import Derived.Test.YtfpglpefofcdeaaDoorM11
import Derived.Deep.MidRow
namespace Go.Proofs.YtfpglpefofcdeaaDoor
open Go.RowKit
set_option linter.unusedVariables false
set_option linter.unusedSimpArgs false
set_option maxRecDepth 100000

theorem blkN {W : World} {g : Nat} {o : Obj} (h : W.heap[g]? = some o) : g < W.heap.size := (Array.getElem?_eq_some_iff.1 h).1
theorem rowN {W W' : World} {g : Nat} {o : Obj} (h : W.heap[g]? = some o) (hb : Below W.heap.size W W') : W'.heap[g]? = some o := (hb.block _ (blkN h)).trans h
theorem rangeN {w : World} {b : Nat} {l : List Value} {t : TypeId} (h : w.heap[b]? = some (.cells l.toArray t (0, 0))) : w.rangeAt b 0 l := fun j v hv => by
  rw [Nat.zero_add, cell_of_row _ _ j _ _ _ h, List.getElem?_toArray]
  exact hv
theorem belowN {a b c : World} (h : Below a.heap.size a b) (k : Below b.heap.size b c) : Below a.heap.size a c := h.trans (k.mono h.size)
theorem setN {W : World} {g i : Nat} {cur : Array Value} {t : TypeId} {v : Value} (h : W.heap[g]? = some (.cells cur t (0, 0))) : (W.setCell ⟨g, i, none⟩ v).heap[g]? = some (.cells (cur.setIfInBounds i v) t (0, 0)) := by
  rw [setCell_eq_setRow W g i cur t (0, 0) v h]; exact setRow_heap _ _ _ _ _ _ h
theorem infoPlan : (Tryd.prog.info? 30).map (·.size) = some 15 := by kernel_rfl
set_option maxHeartbeats 4000000 in
theorem new_any (p : XTillPlan) (w : World) (hok : okTillPlan w p) (hbk : bulkTillPlan p ≤ 1048576) :
    Calls Tryd.prog 4 #[valTillPlan p] w fun e w' => Below w.heap.size w w' ∧ ((planE p ≠ 0 ∧ e = .returned (.tuple #[.pointer none, .int .i64 (planE p)])) ∨
      (planE p = 0 ∧ ∃ g o1 m1 c1 o2 m2 c2 o3 m3 c3, e = .returned (.tuple #[.pointer (some ⟨g, 0, none⟩), .int .i64 0]) ∧ w.heap.size ≤ g ∧
        w'.heap[g]? = some (.cells #[.string p.root, .slice o1 m1 c1, .int .i64 p.risk.floor, .int .i64 p.risk.frm, .int .i64 p.risk.share, .int .i64 p.risk.most, .int .i64 p.risk.lower, .int .i64 p.risk.upper, .slice o2 m2 c2, .int .i64 p.masks.d, .int .i64 p.masks.o, .int .i64 p.masks.f, .slice o3 m3 c3, .int .i64 p.shop, .string p.name, .pointer none] 70 (0, 0)))) := by
  have n0 := fun W (hb : Below w.heap.size w W) => checkPlan_any p W (hok.below hb)
  obtain ⟨root, ko, known, kc, ⟨fl, fr, sh, mo, lo, up, bo, black, bc⟩, ⟨md, mn, mf⟩, ao, able, ac, shop, nm⟩ := p
  obtain ⟨_, hk, hrk, _, hab, _⟩ := hok
  have hk : RowKnown w ko known := hk
  have hab : Rowint w ao able := hab
  have hbl : Rowstring w bo black := by obtain ⟨_, _, _, _, _, _, h⟩ := hrk; exact h
  have hsz : known.length ≤ 1048576 ∧ black.length ≤ 1048576 ∧ able.length ≤ 1048576 := by
    unfold bulkTillPlan bulkRisk at hbk
    simp only at hbk
    omega
  generalize planE _ = pe at *
  unfold valTillPlan at n0 ⊢
  simp only at n0 ⊢
  obtain ⟨W1, hW1⟩ : ∃ W1, W1 = w.alloc (.cells #[.string root, .slice ko known.length kc, .int .i64 fl, .int .i64 fr, .int .i64 sh, .int .i64 mo, .int .i64 lo, .int .i64 up, .slice bo black.length bc, .int .i64 md, .int .i64 mn, .int .i64 mf, .slice ao able.length ac, .int .i64 shop, .string nm] 30) := ⟨_, rfl⟩
  have hB1 : Below w.heap.size w W1 := by rw [hW1]; exact (Below.refl _ _).alloc (Nat.le_refl _) _
  have hX1 : W1.heap[w.heap.size]? = some (.cells #[.string root, .slice ko known.length kc, .int .i64 fl, .int .i64 fr, .int .i64 sh, .int .i64 mo, .int .i64 lo, .int .i64 up, .slice bo black.length bc, .int .i64 md, .int .i64 mn, .int .i64 mf, .slice ao able.length ac, .int .i64 shop, .string nm] 30 (0, 0)) := by rw [hW1]; exact heap_alloc_new _ _
  have N0 := hide n0
  have NK := hide (fun W (hb : Below w.heap.size w W) => cloneK_any known ko kc W (hk.below hb) hsz.1)
  have NS := hide (fun W (hb : Below w.heap.size w W) => cloneS_any black bo bc W (hbl.below hb) hsz.2.1)
  have NI := hide (fun W (hb : Below w.heap.size w W) => cloneI_any able ao ac W (hab.below hb) hsz.2.2)
  have HB1 := hide hB1; have HX1 := hide hX1; have HW1 := hide hW1
  clear n0 hk hrk hab hbl hsz hbk hB1 hX1 hW1
  go_enter Tryd.func4, Tryd.ntmps4
  go_upto_region 1 with fail
  rw [← unhide HW1]
  go_wp2_with (refine wpList_load_mid rfl _ _ rfl w.heap.size 0 rfl [.string root, .slice ko known.length kc, .int .i64 fl, .int .i64 fr, .int .i64 sh, .int .i64 mo, .int .i64 lo, .int .i64 up, .slice bo black.length bc, .int .i64 md, .int .i64 mn, .int .i64 mf, .slice ao able.length ac, .int .i64 shop, .string nm] _ (rangeN (unhide HX1)) Tryd.underlying30 rfl infoPlan ?_)
  refine (unhide N0 _ (unhide HB1)).mono ?_
  rintro e y1 ⟨rfl, k1⟩
  have x1 := rowN (unhide HX1) k1
  have HX2 := hide x1; have HB2 := hide (belowN (unhide HB1) k1)
  by_cases hp : pe = 0
  case neg =>
    have hp' : (pe != 0) = true := by simpa using hp
    have HP := hide hp
    clear x1 k1 hp
    go_wp2
    go_ret2
    exact ⟨unhide HB2, .inl ⟨unhide HP, rfl⟩⟩
  subst hp
  have c1 : y1.cell? ⟨w.heap.size, 1, none⟩ = some (.slice ko known.length kc) := cell_of_row _ _ 1 _ _ _ x1
  clear x1 k1 HX1 HB1 HW1 N0
  go_wp2_with fail
  refine (unhide NK _ (unhide HB2)).mono ?_
  rintro e y2 ⟨⟨o1, m1, c1', rfl⟩, k2⟩
  have x2 := rowN (unhide HX2) k2
  have d1 : y2.cell? ⟨w.heap.size, 1, none⟩ = some (.slice ko known.length kc) := cell_of_row _ _ 1 _ _ _ x2
  have f1 : y2.frozen? ⟨w.heap.size, 1, none⟩ = false := frozen_of_row _ _ 1 _ _ x2
  obtain ⟨W3, hW3⟩ : ∃ W3, W3 = y2.setCell ⟨w.heap.size, 1, none⟩ (.slice o1 m1 c1') := ⟨_, rfl⟩
  have x3 : W3.heap[w.heap.size]? = some (.cells #[.string root, .slice o1 m1 c1', .int .i64 fl, .int .i64 fr, .int .i64 sh, .int .i64 mo, .int .i64 lo, .int .i64 up, .slice bo black.length bc, .int .i64 md, .int .i64 mn, .int .i64 mf, .slice ao able.length ac, .int .i64 shop, .string nm] 30 (0, 0)) := by rw [hW3]; exact setN x2
  have b3 : Below w.heap.size w W3 := by rw [hW3]; exact Below.setCell (p := ⟨w.heap.size, 1, none⟩) (belowN (unhide HB2) k2) (Nat.le_refl _) _
  have HX3 := hide x3; have HB3 := hide b3; have HW3 := hide hW3
  clear c1 k2 x2 x3 b3 hW3
  go_upto_region 5 with fail
  rw [← unhide HW3]
  clear d1 f1
  have c8 : W3.cell? ⟨w.heap.size, 8, none⟩ = some (.slice bo black.length bc) := cell_of_row _ _ 8 _ _ _ (unhide HX3)
  go_wp2_with fail
  refine (unhide NS _ (unhide HB3)).mono ?_
  rintro e y4 ⟨⟨o2, m2, c2, rfl⟩, k4⟩
  have x4 := rowN (unhide HX3) k4
  have d8 : y4.cell? ⟨w.heap.size, 8, none⟩ = some (.slice bo black.length bc) := cell_of_row _ _ 8 _ _ _ x4
  have f8 : y4.frozen? ⟨w.heap.size, 8, none⟩ = false := frozen_of_row _ _ 8 _ _ x4
  obtain ⟨W5, hW5⟩ : ∃ W5, W5 = y4.setCell ⟨w.heap.size, 8, none⟩ (.slice o2 m2 c2) := ⟨_, rfl⟩
  have x5 : W5.heap[w.heap.size]? = some (.cells #[.string root, .slice o1 m1 c1', .int .i64 fl, .int .i64 fr, .int .i64 sh, .int .i64 mo, .int .i64 lo, .int .i64 up, .slice o2 m2 c2, .int .i64 md, .int .i64 mn, .int .i64 mf, .slice ao able.length ac, .int .i64 shop, .string nm] 30 (0, 0)) := by rw [hW5]; exact setN x4
  have b5 : Below w.heap.size w W5 := by rw [hW5]; exact Below.setCell (p := ⟨w.heap.size, 8, none⟩) (belowN (unhide HB3) k4) (Nat.le_refl _) _
  have HX5 := hide x5; have HB5 := hide b5; have HW5 := hide hW5
  clear c8 k4 x4 x5 b5 hW5
  go_upto_region 6 with fail
  rw [← unhide HW5]
  clear d8 f8
  have c12 : W5.cell? ⟨w.heap.size, 12, none⟩ = some (.slice ao able.length ac) := cell_of_row _ _ 12 _ _ _ (unhide HX5)
  go_wp2_with fail
  refine (unhide NI _ (unhide HB5)).mono ?_
  rintro e y6 ⟨⟨o3, m3, c3, rfl⟩, k6⟩
  have x6 := rowN (unhide HX5) k6
  have d12 : y6.cell? ⟨w.heap.size, 12, none⟩ = some (.slice ao able.length ac) := cell_of_row _ _ 12 _ _ _ x6
  have f12 : y6.frozen? ⟨w.heap.size, 12, none⟩ = false := frozen_of_row _ _ 12 _ _ x6
  obtain ⟨W7, hW7⟩ : ∃ W7, W7 = y6.setCell ⟨w.heap.size, 12, none⟩ (.slice o3 m3 c3) := ⟨_, rfl⟩
  have x7 : W7.heap[w.heap.size]? = some (.cells #[.string root, .slice o1 m1 c1', .int .i64 fl, .int .i64 fr, .int .i64 sh, .int .i64 mo, .int .i64 lo, .int .i64 up, .slice o2 m2 c2, .int .i64 md, .int .i64 mn, .int .i64 mf, .slice o3 m3 c3, .int .i64 shop, .string nm] 30 (0, 0)) := by rw [hW7]; exact setN x6
  have b7 : Below w.heap.size w W7 := by rw [hW7]; exact Below.setCell (p := ⟨w.heap.size, 12, none⟩) (belowN (unhide HB5) k6) (Nat.le_refl _) _
  have HX7 := hide x7; have HB7 := hide b7; have HW7 := hide hW7
  clear c12 k6 x6 x7 b7 hW7
  go_upto_region 7 with fail
  rw [← unhide HW7]
  clear d12 f12
  go_wp2_with (refine wpList_load_mid rfl _ _ rfl w.heap.size 0 rfl [.string root, .slice o1 m1 c1', .int .i64 fl, .int .i64 fr, .int .i64 sh, .int .i64 mo, .int .i64 lo, .int .i64 up, .slice o2 m2 c2, .int .i64 md, .int .i64 mn, .int .i64 mf, .slice o3 m3 c3, .int .i64 shop, .string nm] _ (rangeN (unhide HX7)) Tryd.underlying30 rfl infoPlan ?_)
  go_ret2
  exact ⟨(unhide HB7).alloc (unhide HB7).size _, W7.heap.size, rfl, (unhide HB7).size, o1, m1, c1', o2, m2, c2, o3, m3, c3, heap_alloc_new _ _⟩
end Go.Proofs.YtfpglpefofcdeaaDoor
