/- TillNews: the law's walk. Made by drafts/genTnK.py. -/
import Derived.Test.YtfpglpefofcdeaaDoorM10
import Derived.Test.YtfpglpefofcdeaaDoorM45
import Derived.Test.YtfpglpefofcdeaaDoorM48
namespace Go.Proofs.YtfpglpefofcdeaaDoor
open Go.RowKit
set_option linter.unusedVariables false
set_option linter.unusedSimpArgs false
set_option maxRecDepth 100000

/-- the text that is sent -/
def sentB (b : XBuy) : ByteArray := if buyE b = 0 then c1S else ⟨#[]⟩
set_option maxHeartbeats 1000000 in
theorem eql_step (sd : ByteArray) (w : World) : (binOp .eql 46 (.agg #[.string sd, .bool false, .bool false, .string ⟨#[]⟩, .string ⟨#[]⟩, .string ⟨#[]⟩, .string ⟨#[]⟩, .int .i64 0, .int .i64 0, .int .i64 0, .bool false, .int .i64 0, .int .i64 0, .string ⟨#[]⟩, .int .i64 0, .int .i64 0, .int .i64 0, .int .i64 0, .int .i64 0, .int .i64 0, .bool false, .string ⟨#[]⟩, .string ⟨#[]⟩, .string ⟨#[]⟩, .int .i64 0, .int .i64 0, .int .i64 0, .bool false, .int .i64 0, .int .i64 0, .string ⟨#[]⟩]) (.agg #[.string sd, .bool false, .bool false, .string ⟨#[]⟩, .string ⟨#[]⟩, .string ⟨#[]⟩, .string ⟨#[]⟩, .int .i64 0, .int .i64 0, .int .i64 0, .bool false, .int .i64 0, .int .i64 0, .string ⟨#[]⟩, .int .i64 0, .int .i64 0, .int .i64 0, .int .i64 0, .int .i64 0, .int .i64 0, .bool false, .string ⟨#[]⟩, .string ⟨#[]⟩, .string ⟨#[]⟩, .int .i64 0, .int .i64 0, .int .i64 0, .bool false, .int .i64 0, .int .i64 0, .string ⟨#[]⟩])).run Tryd.prog w = .ok (.bool true) w := by
  go_simp
theorem guard_step (op : BinOp) (x y : Operand) (sd : ByteArray) (w : World) : (eqGuard op 46 x y (.agg #[.string sd, .bool false, .bool false, .string ⟨#[]⟩, .string ⟨#[]⟩, .string ⟨#[]⟩, .string ⟨#[]⟩, .int .i64 0, .int .i64 0, .int .i64 0, .bool false, .int .i64 0, .int .i64 0, .string ⟨#[]⟩, .int .i64 0, .int .i64 0, .int .i64 0, .int .i64 0, .int .i64 0, .int .i64 0, .bool false, .string ⟨#[]⟩, .string ⟨#[]⟩, .string ⟨#[]⟩, .int .i64 0, .int .i64 0, .int .i64 0, .bool false, .int .i64 0, .int .i64 0, .string ⟨#[]⟩]) (.agg #[.string sd, .bool false, .bool false, .string ⟨#[]⟩, .string ⟨#[]⟩, .string ⟨#[]⟩, .string ⟨#[]⟩, .int .i64 0, .int .i64 0, .int .i64 0, .bool false, .int .i64 0, .int .i64 0, .string ⟨#[]⟩, .int .i64 0, .int .i64 0, .int .i64 0, .int .i64 0, .int .i64 0, .int .i64 0, .bool false, .string ⟨#[]⟩, .string ⟨#[]⟩, .string ⟨#[]⟩, .int .i64 0, .int .i64 0, .int .i64 0, .bool false, .int .i64 0, .int .i64 0, .string ⟨#[]⟩])).run Tryd.prog w = .ok () w := run_eqGuard_agg w op _ x y _ _ (by kernel_rfl)
set_option maxHeartbeats 8000000 in
theorem walkNews (p : XTillPlan) (b : XBuy) (w : World) (hp : okTillPlan w p) (hpb : bulkTillPlan p ≤ 1048576) (hb : okBuy w b) (hbb : bulkBuy b ≤ 1048576) :
    Calls Tryd.prog 3 #[valTillPlan p, valBuy b] w fun e w' => e = .returned (.bool true) ∧ Below w.heap.size w w' := by
  have hcl : b.confirm.length ≤ 1048576 := by unfold bulkBuy at hbb; omega
  have n0 := fun W (h : Below w.heap.size w W) => new_any p W (hp.below h) hpb
  have n1 := fun W (h : Below w.heap.size w W) => rplan_any p W (hp.below h)
  have n2 : ∀ W g root o1 m1 c1 fl fr sh mo lo up o2 m2 c2 md mn mf o3 m3 c3 shop nm, Below w.heap.size w W → W.heap[g]? = some (.cells #[.string root, .slice o1 m1 c1, .int .i64 fl, .int .i64 fr, .int .i64 sh, .int .i64 mo, .int .i64 lo, .int .i64 up, .slice o2 m2 c2, .int .i64 md, .int .i64 mn, .int .i64 mf, .slice o3 m3 c3, .int .i64 shop, .string nm, .pointer none] 70 (0, 0)) →
      Calls Tryd.prog 6 #[.pointer (some ⟨g, 0, none⟩), valBuy b] W fun e w' => (∃ sd, sd = sentB b ∧ e = .returned (.tuple #[.agg #[.string sd, .bool false, .bool false, .string ⟨#[]⟩, .string ⟨#[]⟩, .string ⟨#[]⟩, .string ⟨#[]⟩, .int .i64 0, .int .i64 0, .int .i64 0, .bool false, .int .i64 0, .int .i64 0, .string ⟨#[]⟩, .int .i64 0, .int .i64 0, .int .i64 0, .int .i64 0, .int .i64 0, .int .i64 0, .bool false, .string ⟨#[]⟩, .string ⟨#[]⟩, .string ⟨#[]⟩, .int .i64 0, .int .i64 0, .int .i64 0, .bool false, .int .i64 0, .int .i64 0, .string ⟨#[]⟩], .int .i64 (buyE b)])) ∧ ∀ B, B ≤ W.heap.size → B ≤ g → Below B W w' := fun W g root o1 m1 c1 fl fr sh mo lo up o2 m2 c2 md mn mf o3 m3 c3 shop nm h hg => by
    refine (begin_any b g root o1 m1 c1 fl fr sh mo lo up o2 m2 c2 md mn mf o3 m3 c3 shop nm W (hb.below h) hcl hg).mono ?_
    rintro e w' ⟨⟨h1, rfl⟩ | ⟨h1, rfl⟩, h2⟩
    · exact ⟨⟨⟨#[]⟩, by unfold sentB; rw [if_neg h1], rfl⟩, h2⟩
    · exact ⟨⟨c1S, by unfold sentB; rw [if_pos h1], by rw [h1]⟩, h2⟩
  obtain ⟨root, ko, known, kc, ⟨fl, fr, sh, mo, lo, up, bo, black, bc⟩, ⟨md, mn, mf⟩, ao, able, ac, shop, nm⟩ := p
  have n3 : ∀ W, Below w.heap.size w W → Calls Tryd.prog 7 #[.agg (@List.toArray Value (.string root :: .slice ko known.length kc :: .int .i64 fl :: .int .i64 fr :: .int .i64 sh :: .int .i64 mo :: .int .i64 lo :: .int .i64 up :: .slice bo black.length bc :: .int .i64 md :: .int .i64 mn :: .int .i64 mf :: .slice ao able.length ac :: .int .i64 shop :: .string nm :: .int .i64 0 :: .int .i64 0 :: .int .i64 0 :: .int .i64 0 :: .int .i64 0 :: .int .i64 0 :: .bool false :: .bool false :: .bool false :: .string ⟨#[]⟩ :: .string ⟨#[]⟩ :: .slice none 0 0 :: .int .i64 0 :: .int .i64 0 :: .int .i64 0 :: .int .i64 0 :: .int .i64 0 :: .int .i64 0 :: .bool false :: .string ⟨#[]⟩ :: .string ⟨#[]⟩ :: .string ⟨#[]⟩ :: .int .i64 0 :: .int .i64 0 :: .int .i64 0 :: .bool false :: .int .i64 0 :: .int .i64 0 :: .string ⟨#[]⟩ :: .string ⟨#[]⟩ :: .slice none 0 0 :: .string ⟨#[]⟩ :: .string ⟨#[]⟩ :: .string ⟨#[]⟩ :: .string ⟨#[]⟩ :: .int .i64 0 :: .int .i64 0 :: .slice none 0 0 :: .int .i64 0 :: .int .i64 0 :: .int .i64 0 :: .slice none 0 0 :: .string ⟨#[]⟩ :: .bool false :: .bool false :: .int .i64 0 :: .int .i64 0 :: .int .i64 0 :: .int .i64 0 :: .bool false :: .int .i64 0 :: .int .i64 0 :: .string ⟨#[]⟩ :: .string ⟨#[]⟩ :: .bool false :: [])), valBuy b] W fun e w' => (∃ X sd, sd = sentB b ∧ e = .returned (.tuple #[.agg X, .agg #[.string sd, .bool false, .bool false, .string ⟨#[]⟩, .string ⟨#[]⟩, .string ⟨#[]⟩, .string ⟨#[]⟩, .int .i64 0, .int .i64 0, .int .i64 0, .bool false, .int .i64 0, .int .i64 0, .string ⟨#[]⟩, .int .i64 0, .int .i64 0, .int .i64 0, .int .i64 0, .int .i64 0, .int .i64 0, .bool false, .string ⟨#[]⟩, .string ⟨#[]⟩, .string ⟨#[]⟩, .int .i64 0, .int .i64 0, .int .i64 0, .bool false, .int .i64 0, .int .i64 0, .string ⟨#[]⟩], .int .i64 (buyE b)]) ∧ X.size = 70 ∧ X.all (·.oneCell') = true) ∧ Below W.heap.size W w' := fun W h => by
    refine (rbegin_any b root ko known.length kc fl fr sh mo lo up bo black.length bc md mn mf ao able.length ac shop nm W (hb.below h)).mono ?_
    rintro e w' ⟨⟨X, ⟨h1, rfl⟩ | ⟨h1, rfl⟩, h3, h4⟩, h2⟩
    · exact ⟨⟨X, ⟨#[]⟩, by unfold sentB; rw [if_neg h1], rfl, h3, h4⟩, h2⟩
    · exact ⟨⟨X, c1S, by unfold sentB; rw [if_pos h1], by rw [h1], h3, h4⟩, h2⟩
  have hes := fun sd wx => eql_step sd wx
  have hgs := fun op x y sd wx => guard_step op x y sd wx
  generalize planE _ = pe at *
  generalize sentB b = sb at *
  generalize buyE b = be at *
  obtain ⟨am, ot, dy, mt, tr, dr, ca, sg, mu, dg, no, co, cf, cc⟩ := b
  unfold valTillPlan at n0 n1 ⊢
  unfold valBuy at n2 n3 ⊢
  simp only at n0 n1 n2 n3 ⊢
  obtain ⟨W2, hW2⟩ : ∃ W2, W2 = (w.alloc (.cells #[.string root, .slice ko known.length kc, .int .i64 fl, .int .i64 fr, .int .i64 sh, .int .i64 mo, .int .i64 lo, .int .i64 up, .slice bo black.length bc, .int .i64 md, .int .i64 mn, .int .i64 mf, .slice ao able.length ac, .int .i64 shop, .string nm] 30)).alloc (.cells #[.int .i64 am, .int .i64 ot, .int .i64 dy, .int .i64 mt, .int .i64 tr, .int .i64 dr, .bool ca, .bool sg, .bool mu, .string dg, .string no, .slice co cf.length cc] 33) := ⟨_, rfl⟩
  have x0 : W2.heap[w.heap.size]? = some (.cells #[.string root, .slice ko known.length kc, .int .i64 fl, .int .i64 fr, .int .i64 sh, .int .i64 mo, .int .i64 lo, .int .i64 up, .slice bo black.length bc, .int .i64 md, .int .i64 mn, .int .i64 mf, .slice ao able.length ac, .int .i64 shop, .string nm] 30 (0, 0)) := by rw [hW2]; exact keepAN (heap_alloc_new _ _)
  have x1 : W2.heap[w.heap.size + 1]? = some (.cells #[.int .i64 am, .int .i64 ot, .int .i64 dy, .int .i64 mt, .int .i64 tr, .int .i64 dr, .bool ca, .bool sg, .bool mu, .string dg, .string no, .slice co cf.length cc] 33 (0, 0)) := by
    rw [hW2]
    have h1 := heap_alloc_new (w.alloc (.cells #[.string root, .slice ko known.length kc, .int .i64 fl, .int .i64 fr, .int .i64 sh, .int .i64 mo, .int .i64 lo, .int .i64 up, .slice bo black.length bc, .int .i64 md, .int .i64 mn, .int .i64 mf, .slice ao able.length ac, .int .i64 shop, .string nm] 30)) (.cells #[.int .i64 am, .int .i64 ot, .int .i64 dy, .int .i64 mt, .int .i64 tr, .int .i64 dr, .bool ca, .bool sg, .bool mu, .string dg, .string no, .slice co cf.length cc] 33)
    simpa using h1
  have hB2 : Below w.heap.size w W2 := by rw [hW2]; exact ((Below.refl _ _).alloc (Nat.le_refl _) _).alloc (by simp) _
  have N0 := hide n0; have N1 := hide n1; have N2 := hide n2; have N3 := hide n3
  have X0 := hide x0; have X1 := hide x1; have HB2 := hide hB2; have HW2 := hide hW2; have HES := hide hes; have HGS := hide hgs
  clear n0 n1 n2 n3 x0 x1 hB2 hW2 hes hgs hp hpb hb hbb hcl
  go_enter Tryd.func3, Tryd.ntmps3
  go_upto_region 1 with fail
  rw [← unhide HW2]
  go_wp2_with (refine wpList_load_mid rfl _ _ rfl w.heap.size 0 rfl [.string root, .slice ko known.length kc, .int .i64 fl, .int .i64 fr, .int .i64 sh, .int .i64 mo, .int .i64 lo, .int .i64 up, .slice bo black.length bc, .int .i64 md, .int .i64 mn, .int .i64 mf, .slice ao able.length ac, .int .i64 shop, .string nm] _ (rangeN (unhide X0)) Tryd.underlying30 rfl infoPlan ?_)
  refine (unhide N0 _ (unhide HB2)).mono ?_
  rintro e y1 ⟨k1, hcase⟩
  have K1 := hide k1
  have Y0 := hide (rowN (unhide X0) k1)
  clear k1
  rcases hcase with ⟨hpe, rfl⟩ | ⟨hpe, g, o1, m1, c1, o2, m2, c2, o3, m3, c3, rfl, hgw, hg⟩
  · have hpe' : (pe != 0) = true := by simpa using hpe
    have t1 : (pe == pe) = true := by simp
    clear hpe
    go_wp2_with (refine wpList_load_mid rfl _ _ rfl w.heap.size 0 rfl [.string root, .slice ko known.length kc, .int .i64 fl, .int .i64 fr, .int .i64 sh, .int .i64 mo, .int .i64 lo, .int .i64 up, .slice bo black.length bc, .int .i64 md, .int .i64 mn, .int .i64 mf, .slice ao able.length ac, .int .i64 shop, .string nm] _ (rangeN (unhide Y0)) Tryd.underlying30 rfl infoPlan ?_)
    refine (unhide N1 _ (belowN (unhide HB2) (unhide K1))).mono ?_
    rintro e y2 ⟨rfl, k2⟩
    have HK := hide (belowN (belowN (unhide HB2) (unhide K1)) k2)
    clear k2
    go_wp2
    go_ret
    exact ⟨rfl, unhide HK⟩
  subst hpe
  have HG := hide hg; have HGW := hide hgw
  clear hg hgw
  go_wp2_with (refine wpList_load_mid rfl _ _ rfl w.heap.size 0 rfl [.string root, .slice ko known.length kc, .int .i64 fl, .int .i64 fr, .int .i64 sh, .int .i64 mo, .int .i64 lo, .int .i64 up, .slice bo black.length bc, .int .i64 md, .int .i64 mn, .int .i64 mf, .slice ao able.length ac, .int .i64 shop, .string nm] _ (rangeN (unhide Y0)) Tryd.underlying30 rfl infoPlan ?_)
  refine (unhide N1 _ (belowN (unhide HB2) (unhide K1))).mono ?_
  rintro e y2 ⟨rfl, k2⟩
  have K2 := hide (belowN (unhide K1) k2)
  have V0 := hide (rowN (unhide Y0) k2); have V1 := hide (rowN (unhide X1) (unhide K2)); have VG := hide (rowN (unhide HG) k2)
  clear k2
  go_wp2_with (refine wpList_load_mid rfl _ _ rfl (w.heap.size + 1) 0 rfl [.int .i64 am, .int .i64 ot, .int .i64 dy, .int .i64 mt, .int .i64 tr, .int .i64 dr, .bool ca, .bool sg, .bool mu, .string dg, .string no, .slice co cf.length cc] _ (rangeN (unhide V1)) Tryd.underlying33 rfl infoBuy ?_)
  refine (unhide N2 _ _ _ _ _ _ _ _ _ _ _ _ _ _ _ _ _ _ _ _ _ _ _ (belowN (unhide HB2) (unhide K2)) (unhide VG)).mono ?_
  rintro e y3 ⟨⟨sd, hsd, rfl⟩, k3⟩
  have b3 : Below W2.heap.size y2 y3 := k3 W2.heap.size (unhide K2).size (unhide HGW)
  have c3' : Below W2.heap.size W2 y3 := (unhide K2).trans b3
  obtain ⟨W4, hW4⟩ : ∃ W4, W4 = (y3.alloc (.cells #[.string ⟨#[]⟩, .bool false, .bool false, .string ⟨#[]⟩, .string ⟨#[]⟩, .string ⟨#[]⟩, .string ⟨#[]⟩, .int .i64 0, .int .i64 0, .int .i64 0, .bool false, .int .i64 0, .int .i64 0, .string ⟨#[]⟩, .int .i64 0, .int .i64 0, .int .i64 0, .int .i64 0, .int .i64 0, .int .i64 0, .bool false, .string ⟨#[]⟩, .string ⟨#[]⟩, .string ⟨#[]⟩, .int .i64 0, .int .i64 0, .int .i64 0, .bool false, .int .i64 0, .int .i64 0, .string ⟨#[]⟩] 46)).setRow y3.heap.size #[.string sd, .bool false, .bool false, .string ⟨#[]⟩, .string ⟨#[]⟩, .string ⟨#[]⟩, .string ⟨#[]⟩, .int .i64 0, .int .i64 0, .int .i64 0, .bool false, .int .i64 0, .int .i64 0, .string ⟨#[]⟩, .int .i64 0, .int .i64 0, .int .i64 0, .int .i64 0, .int .i64 0, .int .i64 0, .bool false, .string ⟨#[]⟩, .string ⟨#[]⟩, .string ⟨#[]⟩, .int .i64 0, .int .i64 0, .int .i64 0, .bool false, .int .i64 0, .int .i64 0, .string ⟨#[]⟩] := ⟨_, rfl⟩
  have s4 : W4.heap[y3.heap.size]? = some (.cells #[.string sd, .bool false, .bool false, .string ⟨#[]⟩, .string ⟨#[]⟩, .string ⟨#[]⟩, .string ⟨#[]⟩, .int .i64 0, .int .i64 0, .int .i64 0, .bool false, .int .i64 0, .int .i64 0, .string ⟨#[]⟩, .int .i64 0, .int .i64 0, .int .i64 0, .int .i64 0, .int .i64 0, .int .i64 0, .bool false, .string ⟨#[]⟩, .string ⟨#[]⟩, .string ⟨#[]⟩, .int .i64 0, .int .i64 0, .int .i64 0, .bool false, .int .i64 0, .int .i64 0, .string ⟨#[]⟩] 46 (0, 0)) := by rw [hW4]; exact setRow_heap _ _ _ _ _ _ (heap_alloc_new _ _)
  have c4 : Below W2.heap.size W2 W4 := by rw [hW4]; exact setRow_belowN (c3'.alloc c3'.size _) c3'.size
  have Z0 := hide (rowN (unhide X0) c4); have Z1 := hide (rowN (unhide X1) c4); have S4 := hide s4; have C4 := hide c4; have HW4 := hide hW4; have HSD := hide hsd
  clear k3 b3 c3' s4 c4 hW4 hsd
  go_upto_region 8 with (refine wpList_store_row rfl _ _ _ rfl y3.heap.size #[.string sd, .bool false, .bool false, .string ⟨#[]⟩, .string ⟨#[]⟩, .string ⟨#[]⟩, .string ⟨#[]⟩, .int .i64 0, .int .i64 0, .int .i64 0, .bool false, .int .i64 0, .int .i64 0, .string ⟨#[]⟩, .int .i64 0, .int .i64 0, .int .i64 0, .int .i64 0, .int .i64 0, .int .i64 0, .bool false, .string ⟨#[]⟩, .string ⟨#[]⟩, .string ⟨#[]⟩, .int .i64 0, .int .i64 0, .int .i64 0, .bool false, .int .i64 0, .int .i64 0, .string ⟨#[]⟩] rfl rfl _ _ (heap_alloc_new _ _) infoStep rfl (oneAll rfl) ?_)
  rw [← unhide HW4]
  clear V0 V1 VG HG HGW K1 K2 Y0 HW4
  go_wp2_with (first
    | refine wpList_load_mid rfl _ _ rfl w.heap.size 0 rfl [.string root, .slice ko known.length kc, .int .i64 fl, .int .i64 fr, .int .i64 sh, .int .i64 mo, .int .i64 lo, .int .i64 up, .slice bo black.length bc, .int .i64 md, .int .i64 mn, .int .i64 mf, .slice ao able.length ac, .int .i64 shop, .string nm] _ (rangeN (unhide Z0)) Tryd.underlying30 rfl infoPlan ?_
    | refine wpList_load_mid rfl _ _ rfl (w.heap.size + 1) 0 rfl [.int .i64 am, .int .i64 ot, .int .i64 dy, .int .i64 mt, .int .i64 tr, .int .i64 dr, .bool ca, .bool sg, .bool mu, .string dg, .string no, .slice co cf.length cc] _ (rangeN (unhide Z1)) Tryd.underlying33 rfl infoBuy ?_
    | refine wpList_buildTo rfl 59 _ rfl _ rfl (@List.toArray Value (.string root :: .slice ko known.length kc :: .int .i64 fl :: .int .i64 fr :: .int .i64 sh :: .int .i64 mo :: .int .i64 lo :: .int .i64 up :: .slice bo black.length bc :: .int .i64 md :: .int .i64 mn :: .int .i64 mf :: .slice ao able.length ac :: .int .i64 shop :: .string nm :: .int .i64 0 :: .int .i64 0 :: .int .i64 0 :: .int .i64 0 :: .int .i64 0 :: .int .i64 0 :: .bool false :: .bool false :: .bool false :: .string ⟨#[]⟩ :: .string ⟨#[]⟩ :: .slice none 0 0 :: .int .i64 0 :: .int .i64 0 :: .int .i64 0 :: .int .i64 0 :: .int .i64 0 :: .int .i64 0 :: .bool false :: .string ⟨#[]⟩ :: .string ⟨#[]⟩ :: .string ⟨#[]⟩ :: .int .i64 0 :: .int .i64 0 :: .int .i64 0 :: .bool false :: .int .i64 0 :: .int .i64 0 :: .string ⟨#[]⟩ :: .string ⟨#[]⟩ :: .slice none 0 0 :: .string ⟨#[]⟩ :: .string ⟨#[]⟩ :: .string ⟨#[]⟩ :: .string ⟨#[]⟩ :: .int .i64 0 :: .int .i64 0 :: .slice none 0 0 :: .int .i64 0 :: .int .i64 0 :: .int .i64 0 :: .slice none 0 0 :: .string ⟨#[]⟩ :: .bool false :: .bool false :: .int .i64 0 :: .int .i64 0 :: .int .i64 0 :: .int .i64 0 :: .bool false :: .int .i64 0 :: .int .i64 0 :: .string ⟨#[]⟩ :: .string ⟨#[]⟩ :: .bool false :: [])) (by kernel_rfl) ?_)
  refine (unhide N3 _ (belowN (unhide HB2) (unhide C4))).mono ?_
  rintro e y5 ⟨⟨X, sd2, hsd2, rfl, hX70, hX1⟩, k5⟩
  obtain rfl : sd2 = sd := hsd2.trans (unhide HSD).symm
  obtain ⟨L, hL⟩ : ∃ L : List Value, X = L.toArray := ⟨X.toList, by simp⟩
  subst hL
  obtain ⟨W6, hW6⟩ : ∃ W6, W6 = (((y5.alloc (.cells Tryd.zeroCells59 59)).alloc (.cells #[.string ⟨#[]⟩, .bool false, .bool false, .string ⟨#[]⟩, .string ⟨#[]⟩, .string ⟨#[]⟩, .string ⟨#[]⟩, .int .i64 0, .int .i64 0, .int .i64 0, .bool false, .int .i64 0, .int .i64 0, .string ⟨#[]⟩, .int .i64 0, .int .i64 0, .int .i64 0, .int .i64 0, .int .i64 0, .int .i64 0, .bool false, .string ⟨#[]⟩, .string ⟨#[]⟩, .string ⟨#[]⟩, .int .i64 0, .int .i64 0, .int .i64 0, .bool false, .int .i64 0, .int .i64 0, .string ⟨#[]⟩] 46)).setRow y5.heap.size L.toArray).setRow (y5.heap.size + 1) #[.string sd2, .bool false, .bool false, .string ⟨#[]⟩, .string ⟨#[]⟩, .string ⟨#[]⟩, .string ⟨#[]⟩, .int .i64 0, .int .i64 0, .int .i64 0, .bool false, .int .i64 0, .int .i64 0, .string ⟨#[]⟩, .int .i64 0, .int .i64 0, .int .i64 0, .int .i64 0, .int .i64 0, .int .i64 0, .bool false, .string ⟨#[]⟩, .string ⟨#[]⟩, .string ⟨#[]⟩, .int .i64 0, .int .i64 0, .int .i64 0, .bool false, .int .i64 0, .int .i64 0, .string ⟨#[]⟩] := ⟨_, rfl⟩
  have a0 : ((y5.alloc (.cells Tryd.zeroCells59 59)).alloc (.cells #[.string ⟨#[]⟩, .bool false, .bool false, .string ⟨#[]⟩, .string ⟨#[]⟩, .string ⟨#[]⟩, .string ⟨#[]⟩, .int .i64 0, .int .i64 0, .int .i64 0, .bool false, .int .i64 0, .int .i64 0, .string ⟨#[]⟩, .int .i64 0, .int .i64 0, .int .i64 0, .int .i64 0, .int .i64 0, .int .i64 0, .bool false, .string ⟨#[]⟩, .string ⟨#[]⟩, .string ⟨#[]⟩, .int .i64 0, .int .i64 0, .int .i64 0, .bool false, .int .i64 0, .int .i64 0, .string ⟨#[]⟩] 46)).heap[y5.heap.size]? = some (.cells Tryd.zeroCells59 59 (0, 0)) := keepAN (heap_alloc_new _ _)
  have a1 : (((y5.alloc (.cells Tryd.zeroCells59 59)).alloc (.cells #[.string ⟨#[]⟩, .bool false, .bool false, .string ⟨#[]⟩, .string ⟨#[]⟩, .string ⟨#[]⟩, .string ⟨#[]⟩, .int .i64 0, .int .i64 0, .int .i64 0, .bool false, .int .i64 0, .int .i64 0, .string ⟨#[]⟩, .int .i64 0, .int .i64 0, .int .i64 0, .int .i64 0, .int .i64 0, .int .i64 0, .bool false, .string ⟨#[]⟩, .string ⟨#[]⟩, .string ⟨#[]⟩, .int .i64 0, .int .i64 0, .int .i64 0, .bool false, .int .i64 0, .int .i64 0, .string ⟨#[]⟩] 46)).setRow y5.heap.size L.toArray).heap[y5.heap.size + 1]? = some (.cells #[.string ⟨#[]⟩, .bool false, .bool false, .string ⟨#[]⟩, .string ⟨#[]⟩, .string ⟨#[]⟩, .string ⟨#[]⟩, .int .i64 0, .int .i64 0, .int .i64 0, .bool false, .int .i64 0, .int .i64 0, .string ⟨#[]⟩, .int .i64 0, .int .i64 0, .int .i64 0, .int .i64 0, .int .i64 0, .int .i64 0, .bool false, .string ⟨#[]⟩, .string ⟨#[]⟩, .string ⟨#[]⟩, .int .i64 0, .int .i64 0, .int .i64 0, .bool false, .int .i64 0, .int .i64 0, .string ⟨#[]⟩] 46 (0, 0)) := by
    rw [setRow_otherN (by omega)]
    have h1 := heap_alloc_new (y5.alloc (.cells Tryd.zeroCells59 59)) (.cells #[.string ⟨#[]⟩, .bool false, .bool false, .string ⟨#[]⟩, .string ⟨#[]⟩, .string ⟨#[]⟩, .string ⟨#[]⟩, .int .i64 0, .int .i64 0, .int .i64 0, .bool false, .int .i64 0, .int .i64 0, .string ⟨#[]⟩, .int .i64 0, .int .i64 0, .int .i64 0, .int .i64 0, .int .i64 0, .int .i64 0, .bool false, .string ⟨#[]⟩, .string ⟨#[]⟩, .string ⟨#[]⟩, .int .i64 0, .int .i64 0, .int .i64 0, .bool false, .int .i64 0, .int .i64 0, .string ⟨#[]⟩] 46)
    simpa using h1
  have s5 := rowN (unhide S4) k5
  have l5 := blkN s5
  have s6 : W6.heap[y3.heap.size]? = some (.cells #[.string sd2, .bool false, .bool false, .string ⟨#[]⟩, .string ⟨#[]⟩, .string ⟨#[]⟩, .string ⟨#[]⟩, .int .i64 0, .int .i64 0, .int .i64 0, .bool false, .int .i64 0, .int .i64 0, .string ⟨#[]⟩, .int .i64 0, .int .i64 0, .int .i64 0, .int .i64 0, .int .i64 0, .int .i64 0, .bool false, .string ⟨#[]⟩, .string ⟨#[]⟩, .string ⟨#[]⟩, .int .i64 0, .int .i64 0, .int .i64 0, .bool false, .int .i64 0, .int .i64 0, .string ⟨#[]⟩] 46 (0, 0)) := by rw [hW6, setRow_otherN (by omega), setRow_otherN (by omega)]; exact keepAN (keepAN s5)
  have r6 : W6.heap[y5.heap.size + 1]? = some (.cells #[.string sd2, .bool false, .bool false, .string ⟨#[]⟩, .string ⟨#[]⟩, .string ⟨#[]⟩, .string ⟨#[]⟩, .int .i64 0, .int .i64 0, .int .i64 0, .bool false, .int .i64 0, .int .i64 0, .string ⟨#[]⟩, .int .i64 0, .int .i64 0, .int .i64 0, .int .i64 0, .int .i64 0, .int .i64 0, .bool false, .string ⟨#[]⟩, .string ⟨#[]⟩, .string ⟨#[]⟩, .int .i64 0, .int .i64 0, .int .i64 0, .bool false, .int .i64 0, .int .i64 0, .string ⟨#[]⟩] 46 (0, 0)) := by rw [hW6]; exact setRow_heap _ _ _ _ _ _ a1
  have b5 := belowN (belowN (unhide HB2) (unhide C4)) k5
  have b6 : Below w.heap.size w W6 := by rw [hW6]; exact setRow_belowN (setRow_belowN ((b5.alloc b5.size _).alloc (by have := b5.size; simp; omega) _) b5.size) (by have := b5.size; omega)
  have A0 := hide a0; have A1 := hide a1; have S6 := hide s6; have R6 := hide r6; have B6 := hide b6; have HW6 := hide hW6; have HX70 := hide hX70; have HX1 := hide hX1
  clear k5 a0 a1 s5 l5 s6 r6 b5 b6 hW6 hX70 hX1 hsd2
  go_upto_region 9 with (first
    | refine wpList_store_row rfl _ _ _ rfl y5.heap.size L.toArray rfl rfl _ _ (unhide A0) (by rw [unhide HX70]; exact infoRT) (by rw [unhide HX70]; kernel_rfl) (unhide HX1) ?_
    | refine wpList_store_row rfl _ _ _ rfl (y5.heap.size + 1) #[.string sd2, .bool false, .bool false, .string ⟨#[]⟩, .string ⟨#[]⟩, .string ⟨#[]⟩, .string ⟨#[]⟩, .int .i64 0, .int .i64 0, .int .i64 0, .bool false, .int .i64 0, .int .i64 0, .string ⟨#[]⟩, .int .i64 0, .int .i64 0, .int .i64 0, .int .i64 0, .int .i64 0, .int .i64 0, .bool false, .string ⟨#[]⟩, .string ⟨#[]⟩, .string ⟨#[]⟩, .int .i64 0, .int .i64 0, .int .i64 0, .bool false, .int .i64 0, .int .i64 0, .string ⟨#[]⟩] rfl rfl _ _ (unhide A1) infoStep rfl (oneAll rfl) ?_)
  rw [← unhide HW6]
  have hes := unhide HES
  have hgs := unhide HGS
  have t1 : (be == be) = true := by simp
  go_wp2_with (first
    | refine wpList_load_mid rfl _ _ rfl y3.heap.size 0 rfl [.string sd2, .bool false, .bool false, .string ⟨#[]⟩, .string ⟨#[]⟩, .string ⟨#[]⟩, .string ⟨#[]⟩, .int .i64 0, .int .i64 0, .int .i64 0, .bool false, .int .i64 0, .int .i64 0, .string ⟨#[]⟩, .int .i64 0, .int .i64 0, .int .i64 0, .int .i64 0, .int .i64 0, .int .i64 0, .bool false, .string ⟨#[]⟩, .string ⟨#[]⟩, .string ⟨#[]⟩, .int .i64 0, .int .i64 0, .int .i64 0, .bool false, .int .i64 0, .int .i64 0, .string ⟨#[]⟩] _ (rangeN (unhide S6)) Tryd.underlying46 rfl infoStep ?_
    | refine wpList_load_mid rfl _ _ rfl (y5.heap.size + 1) 0 rfl [.string sd2, .bool false, .bool false, .string ⟨#[]⟩, .string ⟨#[]⟩, .string ⟨#[]⟩, .string ⟨#[]⟩, .int .i64 0, .int .i64 0, .int .i64 0, .bool false, .int .i64 0, .int .i64 0, .string ⟨#[]⟩, .int .i64 0, .int .i64 0, .int .i64 0, .int .i64 0, .int .i64 0, .int .i64 0, .bool false, .string ⟨#[]⟩, .string ⟨#[]⟩, .string ⟨#[]⟩, .int .i64 0, .int .i64 0, .int .i64 0, .bool false, .int .i64 0, .int .i64 0, .string ⟨#[]⟩] _ (rangeN (unhide R6)) Tryd.underlying46 rfl infoStep ?_)
  go_ret
  exact ⟨rfl, unhide B6⟩
end Go.Proofs.YtfpglpefofcdeaaDoor
