/- A payment begun, by the program: Begin. Made by drafts/genTnH.py. -/
import Derived.Test.YtfpglpefofcdeaaDoorM44
namespace Go.Proofs.YtfpglpefofcdeaaDoor
open Go.RowKit
set_option linter.unusedVariables false
set_option linter.unusedSimpArgs false
set_option maxRecDepth 100000

theorem range15N {w : World} {b : Nat} {t : TypeId} {v0 v1 v2 v3 v4 v5 v6 v7 v8 v9 v10 v11 v12 v13 v14 x : Value} (h : w.heap[b]? = some (.cells #[v0, v1, v2, v3, v4, v5, v6, v7, v8, v9, v10, v11, v12, v13, v14, x] t (0, 0))) : w.rangeAt b 0 [v0, v1, v2, v3, v4, v5, v6, v7, v8, v9, v10, v11, v12, v13, v14] := fun j v hv => by
  have hj : j < 15 := (List.getElem?_eq_some_iff.1 hv).1
  rw [Nat.zero_add, cell_of_row _ _ j _ _ _ h, ← hv]
  have e : (#[v0, v1, v2, v3, v4, v5, v6, v7, v8, v9, v10, v11, v12, v13, v14, x] : Array Value) = ([v0, v1, v2, v3, v4, v5, v6, v7, v8, v9, v10, v11, v12, v13, v14] ++ [x]).toArray := rfl
  rw [e, List.getElem?_toArray, List.getElem?_append_left (by exact hj)]
set_option maxHeartbeats 4000000 in
theorem begin_any (b : XBuy) (g : Nat) (root : ByteArray) (o1 : Option Addr) (m1 c1 : Nat) (fl fr sh mo lo up : Int) (o2 : Option Addr) (m2 c2 : Nat) (md mn mf : Int) (o3 : Option Addr) (m3 c3 : Nat) (shop : Int) (nm : ByteArray) (w : World) (hok : okBuy w b) (hcl : b.confirm.length ≤ 1048576) (hg : w.heap[g]? = some (.cells #[.string root, .slice o1 m1 c1, .int .i64 fl, .int .i64 fr, .int .i64 sh, .int .i64 mo, .int .i64 lo, .int .i64 up, .slice o2 m2 c2, .int .i64 md, .int .i64 mn, .int .i64 mf, .slice o3 m3 c3, .int .i64 shop, .string nm, .pointer none] 70 (0, 0))) :
    Calls Tryd.prog 6 #[.pointer (some ⟨g, 0, none⟩), valBuy b] w fun e w' => ((buyE b ≠ 0 ∧ e = .returned (.tuple #[.agg #[.string ⟨#[]⟩, .bool false, .bool false, .string ⟨#[]⟩, .string ⟨#[]⟩, .string ⟨#[]⟩, .string ⟨#[]⟩, .int .i64 0, .int .i64 0, .int .i64 0, .bool false, .int .i64 0, .int .i64 0, .string ⟨#[]⟩, .int .i64 0, .int .i64 0, .int .i64 0, .int .i64 0, .int .i64 0, .int .i64 0, .bool false, .string ⟨#[]⟩, .string ⟨#[]⟩, .string ⟨#[]⟩, .int .i64 0, .int .i64 0, .int .i64 0, .bool false, .int .i64 0, .int .i64 0, .string ⟨#[]⟩], .int .i64 (buyE b)])) ∨ (buyE b = 0 ∧ e = .returned (.tuple #[.agg #[.string c1S, .bool false, .bool false, .string ⟨#[]⟩, .string ⟨#[]⟩, .string ⟨#[]⟩, .string ⟨#[]⟩, .int .i64 0, .int .i64 0, .int .i64 0, .bool false, .int .i64 0, .int .i64 0, .string ⟨#[]⟩, .int .i64 0, .int .i64 0, .int .i64 0, .int .i64 0, .int .i64 0, .int .i64 0, .bool false, .string ⟨#[]⟩, .string ⟨#[]⟩, .string ⟨#[]⟩, .int .i64 0, .int .i64 0, .int .i64 0, .bool false, .int .i64 0, .int .i64 0, .string ⟨#[]⟩], .int .i64 0]))) ∧ ∀ B, B ≤ w.heap.size → B ≤ g → Below B w w' := by
  have n0 := fun W (hb : Below w.heap.size w W) => checkBuy_any b W (hok.below hb)
  obtain ⟨am, ot, dy, mt, tr, dr, ca, sg, mu, dg, no, co, cf, cc⟩ := b
  have hcf : Rowbool w co cf := hok.2.2.2.2.2.2.2.2
  have hcl : cf.length ≤ 1048576 := hcl
  have hgl := blkN hg
  generalize buyE _ = pe at *
  unfold valBuy at n0 ⊢
  simp only at n0 ⊢
  obtain ⟨W2, hW2⟩ : ∃ W2, W2 = (w.alloc (.cells #[.int .i64 am, .int .i64 ot, .int .i64 dy, .int .i64 mt, .int .i64 tr, .int .i64 dr, .bool ca, .bool sg, .bool mu, .string dg, .string no, .slice co cf.length cc] 33)).alloc (.cells #[.string ⟨#[]⟩, .bool false, .bool false, .string ⟨#[]⟩, .string ⟨#[]⟩, .string ⟨#[]⟩, .string ⟨#[]⟩, .int .i64 0, .int .i64 0, .int .i64 0, .bool false, .int .i64 0, .int .i64 0, .string ⟨#[]⟩, .int .i64 0, .int .i64 0, .int .i64 0, .int .i64 0, .int .i64 0, .int .i64 0, .bool false, .string ⟨#[]⟩, .string ⟨#[]⟩, .string ⟨#[]⟩, .int .i64 0, .int .i64 0, .int .i64 0, .bool false, .int .i64 0, .int .i64 0, .string ⟨#[]⟩] 46) := ⟨_, rfl⟩
  have hX1 : W2.heap[w.heap.size]? = some (.cells #[.int .i64 am, .int .i64 ot, .int .i64 dy, .int .i64 mt, .int .i64 tr, .int .i64 dr, .bool ca, .bool sg, .bool mu, .string dg, .string no, .slice co cf.length cc] 33 (0, 0)) := by rw [hW2]; exact keepAN (heap_alloc_new _ _)
  have hX2 : W2.heap[w.heap.size + 1]? = some (.cells #[.string ⟨#[]⟩, .bool false, .bool false, .string ⟨#[]⟩, .string ⟨#[]⟩, .string ⟨#[]⟩, .string ⟨#[]⟩, .int .i64 0, .int .i64 0, .int .i64 0, .bool false, .int .i64 0, .int .i64 0, .string ⟨#[]⟩, .int .i64 0, .int .i64 0, .int .i64 0, .int .i64 0, .int .i64 0, .int .i64 0, .bool false, .string ⟨#[]⟩, .string ⟨#[]⟩, .string ⟨#[]⟩, .int .i64 0, .int .i64 0, .int .i64 0, .bool false, .int .i64 0, .int .i64 0, .string ⟨#[]⟩] 46 (0, 0)) := by
    rw [hW2]
    have h1 := heap_alloc_new (w.alloc (.cells #[.int .i64 am, .int .i64 ot, .int .i64 dy, .int .i64 mt, .int .i64 tr, .int .i64 dr, .bool ca, .bool sg, .bool mu, .string dg, .string no, .slice co cf.length cc] 33)) (.cells #[.string ⟨#[]⟩, .bool false, .bool false, .string ⟨#[]⟩, .string ⟨#[]⟩, .string ⟨#[]⟩, .string ⟨#[]⟩, .int .i64 0, .int .i64 0, .int .i64 0, .bool false, .int .i64 0, .int .i64 0, .string ⟨#[]⟩, .int .i64 0, .int .i64 0, .int .i64 0, .int .i64 0, .int .i64 0, .int .i64 0, .bool false, .string ⟨#[]⟩, .string ⟨#[]⟩, .string ⟨#[]⟩, .int .i64 0, .int .i64 0, .int .i64 0, .bool false, .int .i64 0, .int .i64 0, .string ⟨#[]⟩] 46)
    simpa using h1
  have hB2 : Below w.heap.size w W2 := by rw [hW2]; exact ((Below.refl _ _).alloc (Nat.le_refl _) _).alloc (by simp) _
  have N0 := hide n0
  have NC := hide (fun W (hb : Below w.heap.size w W) => cloneB_any cf co cc W (hcf.below hb) hcl)
  have HX1 := hide hX1; have HX2 := hide hX2; have HB2 := hide hB2; have HW2 := hide hW2; have HG := hide hg; have HGL := hide hgl
  clear n0 hX1 hX2 hB2 hW2 hg hgl hcf hcl hok
  go_enter Tryd.func6, Tryd.ntmps6
  go_upto_region 1 with fail
  rw [← unhide HW2]
  go_wp2_with (refine wpList_load_mid rfl _ _ rfl w.heap.size 0 rfl [.int .i64 am, .int .i64 ot, .int .i64 dy, .int .i64 mt, .int .i64 tr, .int .i64 dr, .bool ca, .bool sg, .bool mu, .string dg, .string no, .slice co cf.length cc] _ (rangeN (unhide HX1)) Tryd.underlying33 rfl infoBuy ?_)
  refine (unhide N0 _ (unhide HB2)).mono ?_
  rintro e y1 ⟨rfl, k1⟩
  have x1 := rowN (unhide HX1) k1
  have x2 := rowN (unhide HX2) k1
  have HY1 := hide x1; have HY2 := hide x2; have HB1 := hide (belowN (unhide HB2) k1)
  by_cases hp : pe = 0
  case neg =>
    have hp' : (pe != 0) = true := by simpa using hp
    have HP := hide hp
    clear x1 x2 k1 hp
    go_wp2_with (first
      | refine wpList_buildTo rfl 46 _ rfl _ rfl #[.string ⟨#[]⟩, .bool false, .bool false, .string ⟨#[]⟩, .string ⟨#[]⟩, .string ⟨#[]⟩, .string ⟨#[]⟩, .int .i64 0, .int .i64 0, .int .i64 0, .bool false, .int .i64 0, .int .i64 0, .string ⟨#[]⟩, .int .i64 0, .int .i64 0, .int .i64 0, .int .i64 0, .int .i64 0, .int .i64 0, .bool false, .string ⟨#[]⟩, .string ⟨#[]⟩, .string ⟨#[]⟩, .int .i64 0, .int .i64 0, .int .i64 0, .bool false, .int .i64 0, .int .i64 0, .string ⟨#[]⟩] (by kernel_rfl) ?_
      | refine wpList_store_row rfl _ _ _ rfl (w.heap.size + 1) #[.string ⟨#[]⟩, .bool false, .bool false, .string ⟨#[]⟩, .string ⟨#[]⟩, .string ⟨#[]⟩, .string ⟨#[]⟩, .int .i64 0, .int .i64 0, .int .i64 0, .bool false, .int .i64 0, .int .i64 0, .string ⟨#[]⟩, .int .i64 0, .int .i64 0, .int .i64 0, .int .i64 0, .int .i64 0, .int .i64 0, .bool false, .string ⟨#[]⟩, .string ⟨#[]⟩, .string ⟨#[]⟩, .int .i64 0, .int .i64 0, .int .i64 0, .bool false, .int .i64 0, .int .i64 0, .string ⟨#[]⟩] rfl rfl _ _ (unhide HY2) infoStep rfl (by simp [Value.oneCell']) ?_)
    refine bodyPost_ret (v := .tuple #[.agg #[.string ⟨#[]⟩, .bool false, .bool false, .string ⟨#[]⟩, .string ⟨#[]⟩, .string ⟨#[]⟩, .string ⟨#[]⟩, .int .i64 0, .int .i64 0, .int .i64 0, .bool false, .int .i64 0, .int .i64 0, .string ⟨#[]⟩, .int .i64 0, .int .i64 0, .int .i64 0, .int .i64 0, .int .i64 0, .int .i64 0, .bool false, .string ⟨#[]⟩, .string ⟨#[]⟩, .string ⟨#[]⟩, .int .i64 0, .int .i64 0, .int .i64 0, .bool false, .int .i64 0, .int .i64 0, .string ⟨#[]⟩], .int .i64 pe]) (results_cell_tmpN rfl _ _ (w.heap.size + 1) 46 #[.string ⟨#[]⟩, .bool false, .bool false, .string ⟨#[]⟩, .string ⟨#[]⟩, .string ⟨#[]⟩, .string ⟨#[]⟩, .int .i64 0, .int .i64 0, .int .i64 0, .bool false, .int .i64 0, .int .i64 0, .string ⟨#[]⟩, .int .i64 0, .int .i64 0, .int .i64 0, .int .i64 0, .int .i64 0, .int .i64 0, .bool false, .string ⟨#[]⟩, .string ⟨#[]⟩, .string ⟨#[]⟩, .int .i64 0, .int .i64 0, .int .i64 0, .bool false, .int .i64 0, .int .i64 0, .string ⟨#[]⟩] (0, 0) _ _ rfl rfl (setRow_heap _ _ _ _ _ _ (unhide HY2)) Tryd.underlying46 rfl infoStep) rfl ⟨.inl ⟨unhide HP, rfl⟩, fun B h1 h2 => setRow_belowN ((unhide HB1).mono h1) (by omega)⟩
  subst hp
  have c11 : y1.cell? ⟨w.heap.size, 11, none⟩ = some (.slice co cf.length cc) := cell_of_row _ _ 11 _ _ _ x1
  clear x1 x2 k1 N0 HX1 HX2 HB2 HW2
  go_wp2_with fail
  refine (unhide NC _ (unhide HB1)).mono ?_
  rintro e y2 ⟨⟨c4, c5, c6, rfl⟩, k2⟩
  have x2 := rowN (unhide HY1) k2
  have d11 : y2.cell? ⟨w.heap.size, 11, none⟩ = some (.slice co cf.length cc) := cell_of_row _ _ 11 _ _ _ x2
  have f11 : y2.frozen? ⟨w.heap.size, 11, none⟩ = false := frozen_of_row _ _ 11 _ _ x2
  obtain ⟨W3, hW3⟩ : ∃ W3, W3 = y2.setCell ⟨w.heap.size, 11, none⟩ (.slice c4 c5 c6) := ⟨_, rfl⟩
  have x3 : W3.heap[w.heap.size]? = some (.cells #[.int .i64 am, .int .i64 ot, .int .i64 dy, .int .i64 mt, .int .i64 tr, .int .i64 dr, .bool ca, .bool sg, .bool mu, .string dg, .string no, .slice c4 c5 c6] 33 (0, 0)) := by rw [hW3]; exact setN x2
  have b2 := belowN (unhide HB1) k2
  have b3 : Below w.heap.size w W3 := by rw [hW3]; exact Below.setCell (p := ⟨w.heap.size, 11, none⟩) b2 (Nat.le_refl _) _
  have xr3 : W3.heap[w.heap.size + 1]? = some (.cells #[.string ⟨#[]⟩, .bool false, .bool false, .string ⟨#[]⟩, .string ⟨#[]⟩, .string ⟨#[]⟩, .string ⟨#[]⟩, .int .i64 0, .int .i64 0, .int .i64 0, .bool false, .int .i64 0, .int .i64 0, .string ⟨#[]⟩, .int .i64 0, .int .i64 0, .int .i64 0, .int .i64 0, .int .i64 0, .int .i64 0, .bool false, .string ⟨#[]⟩, .string ⟨#[]⟩, .string ⟨#[]⟩, .int .i64 0, .int .i64 0, .int .i64 0, .bool false, .int .i64 0, .int .i64 0, .string ⟨#[]⟩] 46 (0, 0)) := by rw [hW3]; exact setOtherN (rowN (unhide HY2) k2) (by omega)
  have xg3 := rowN (unhide HG) b3
  have HS : Hid (∀ W, Below W3.heap.size W3 W → W.rangeAt g 0 [.string root, .slice o1 m1 c1, .int .i64 fl, .int .i64 fr, .int .i64 sh, .int .i64 mo, .int .i64 lo, .int .i64 up, .slice o2 m2 c2, .int .i64 md, .int .i64 mn, .int .i64 mf, .slice o3 m3 c3, .int .i64 shop, .string nm] ∧ W.heap[w.heap.size]? = some (.cells #[.int .i64 am, .int .i64 ot, .int .i64 dy, .int .i64 mt, .int .i64 tr, .int .i64 dr, .bool ca, .bool sg, .bool mu, .string dg, .string no, .slice c4 c5 c6] 33 (0, 0))) := hide (fun W hb => ⟨range15N (rowN xg3 hb), rowN x3 hb⟩)
  have HB3 := hide b3; have HW3 := hide hW3; have HR3 := hide xr3; have HG3 := hide xg3
  have NB := hide (fun W => begun_any root o1 m1 c1 fl fr sh mo lo up o2 m2 c2 md mn mf o3 m3 c3 shop nm am ot dy mt tr dr ca sg mu dg no c4 c5 c6 W)
  clear c11 k2 x2 b2 x3 b3 hW3 xr3 xg3 HY1 HY2 HB1 NC HG
  go_upto_region 5 with fail
  rw [← unhide HW3]
  clear d11 f11
  go_wp2_with fail
  refine wp_region_noPanic ?_
  refine wp_region_held_drew (S := (fun W => W.rangeAt g 0 [.string root, .slice o1 m1 c1, .int .i64 fl, .int .i64 fr, .int .i64 sh, .int .i64 mo, .int .i64 lo, .int .i64 up, .slice o2 m2 c2, .int .i64 md, .int .i64 mn, .int .i64 mf, .slice o3 m3 c3, .int .i64 shop, .string nm] ∧ W.heap[w.heap.size]? = some (.cells #[.int .i64 am, .int .i64 ot, .int .i64 dy, .int .i64 mt, .int .i64 tr, .int .i64 dr, .bool ca, .bool sg, .bool mu, .string dg, .string no, .slice c4 c5 c6] 33 (0, 0)))) (by kernel_rfl) ?_ (fun hHeld => ?_)
  · exact unhide HS W3.drew (Below.refl _ _).drew
  refine wpAnyH_take (i := 0) (oi := _) (v := ?_) rfl (by kernel_rfl) (by kernel_rfl) (by kernel_rfl) (fun _ _ _ h => h) (Or.inl ⟨by rfl, ?_⟩) (by assumption) ?_
  rotate_left
  · intro w9 hSw
    go_simp
    try with_reducible rfl
  try simp only [Act.put, List.setIfInBounds_toArray, List.set_cons_zero, List.set_cons_succ]
  refine wpAnyH_take (i := 1) (oi := _) (v := ?_) rfl (by kernel_rfl) (by kernel_rfl) (by kernel_rfl) (fun _ _ _ h => h) (Or.inl ⟨by rfl, ?_⟩) (by assumption) ?_
  rotate_left
  · intro w9 hSw
    go_simp
    try with_reducible rfl
  try simp only [Act.put, List.setIfInBounds_toArray, List.set_cons_zero, List.set_cons_succ]
  refine wpAnyH_take (i := 2) (oi := _) (v := ?_) rfl (by kernel_rfl) (by kernel_rfl) (by kernel_rfl) (fun _ _ _ h => h) (Or.inl ⟨by rfl, ?_⟩) (by assumption) ?_
  rotate_left
  · intro w9 hSw
    go_simp
    try with_reducible rfl
  try simp only [Act.put, List.setIfInBounds_toArray, List.set_cons_zero, List.set_cons_succ]
  refine wpAnyH_take (i := 3) (oi := _) (v := ?_) rfl (by kernel_rfl) (by kernel_rfl) (by kernel_rfl) (fun _ _ _ h => h) (Or.inl ⟨by rfl, ?_⟩) (by assumption) ?_
  rotate_left
  · intro w9 hSw
    go_simp
    try with_reducible rfl
  try simp only [Act.put, List.setIfInBounds_toArray, List.set_cons_zero, List.set_cons_succ]
  refine wpAnyH_take (i := 4) (oi := _) rfl (by kernel_rfl) (by kernel_rfl) (by kernel_rfl) (fun _ _ _ h => h) (yieldsIf_load_mid (by rfl) _ _ rfl g 0 rfl [.string root, .slice o1 m1 c1, .int .i64 fl, .int .i64 fr, .int .i64 sh, .int .i64 mo, .int .i64 lo, .int .i64 up, .slice o2 m2 c2, .int .i64 md, .int .i64 mn, .int .i64 mf, .slice o3 m3 c3, .int .i64 shop, .string nm] _ (fun W h => h.1) Tryd.underlying30 rfl infoPlan) (by assumption) ?_
  try simp only [Act.put, List.setIfInBounds_toArray, List.set_cons_zero, List.set_cons_succ]
  refine wpAnyH_take (i := 5) (oi := _) rfl (by kernel_rfl) (by kernel_rfl) (by kernel_rfl) (fun _ _ _ h => h) (yieldsIf_load_mid (by rfl) _ _ rfl w.heap.size 0 rfl [.int .i64 am, .int .i64 ot, .int .i64 dy, .int .i64 mt, .int .i64 tr, .int .i64 dr, .bool ca, .bool sg, .bool mu, .string dg, .string no, .slice c4 c5 c6] _ (fun W h => rangeN h.2) Tryd.underlying33 rfl infoBuy) (by assumption) ?_
  try simp only [Act.put, List.setIfInBounds_toArray, List.set_cons_zero, List.set_cons_succ]
  refine wpAnyH_ready (rs := [6]) (by kernel_rfl) (by simp) ?_
  refine AllReadyH.cons (o := _) rfl (fun K hK => ?_) ?_
  rotate_left
  · exact AllReadyH.nil
  go_simp
  refine (unhide NB _).mono ?_
  rintro ev z1 ⟨⟨gp, rfl, hgp, xp⟩, j1⟩
  go_wp2_with fail
  clear hHeld
  have b1 : Below W3.heap.size W3 z1 := (Below.refl _ _).drew.trans j1
  have hgp : W3.heap.size ≤ gp := hgp
  have xg1 := rowN (unhide HG3) b1
  refine hK.out _ _ ?_ (fun hHeld => ?_)
  · exact unhide HS z1 b1
  clear hK K
  try simp only [Act.put, List.setIfInBounds_toArray, List.set_cons_zero, List.set_cons_succ]
  refine wpAnyH_take (i := 7) (oi := _) (v := ?_) rfl (by kernel_rfl) (by kernel_rfl) (by kernel_rfl) (fun _ _ _ h => h) (Or.inl ⟨by rfl, ?_⟩) (by assumption) ?_
  rotate_left
  · intro w9 hSw
    go_simp
    try with_reducible rfl
  try simp only [Act.put, List.setIfInBounds_toArray, List.set_cons_zero, List.set_cons_succ]
  refine wpAnyH_take (i := 8) (oi := _) (v := ?_) rfl (by kernel_rfl) (by kernel_rfl) (by kernel_rfl) (fun _ _ _ h => h) (Or.inl ⟨by rfl, ?_⟩) (by assumption) ?_
  rotate_left
  · intro w9 hSw
    go_simp
    try with_reducible rfl
  try simp only [Act.put, List.setIfInBounds_toArray, List.set_cons_zero, List.set_cons_succ]
  have q15 : z1.cell? ⟨g, 15, none⟩ = some (.pointer none) := cell_of_row _ _ 15 _ _ _ xg1
  have f15 : z1.frozen? ⟨g, 15, none⟩ = false := frozen_of_row _ _ 15 _ _ xg1
  have hgl3 := blkN (unhide HG3)
  have xg5 : (z1.setCell ⟨g, 15, none⟩ (.pointer (some ⟨gp, 0, none⟩))).heap[g]? = some (.cells #[.string root, .slice o1 m1 c1, .int .i64 fl, .int .i64 fr, .int .i64 sh, .int .i64 mo, .int .i64 lo, .int .i64 up, .slice o2 m2 c2, .int .i64 md, .int .i64 mn, .int .i64 mf, .slice o3 m3 c3, .int .i64 shop, .string nm, .pointer (some ⟨gp, 0, none⟩)] 70 (0, 0)) := setN xg1
  have xp5 : (z1.setCell ⟨g, 15, none⟩ (.pointer (some ⟨gp, 0, none⟩))).heap[gp]? = some (.cells #[.string root, .slice o1 m1 c1, .int .i64 fl, .int .i64 fr, .int .i64 sh, .int .i64 mo, .int .i64 lo, .int .i64 up, .slice o2 m2 c2, .int .i64 md, .int .i64 mn, .int .i64 mf, .slice o3 m3 c3, .int .i64 shop, .string nm, .int .i64 am, .int .i64 ot, .int .i64 dy, .int .i64 mt, .int .i64 tr, .int .i64 dr, .bool ca, .bool sg, .bool mu, .string dg, .string no, .slice c4 c5 c6, .int .i64 0, .bool false, .int .i64 0, .int .i64 0, .slice none 0 0, .int .i64 0, .int .i64 0, .int .i64 0, .slice none 0 0, .string ⟨#[]⟩, .bool false, .bool false, .int .i64 0, .int .i64 0, .int .i64 0, .int .i64 0, .bool false, .int .i64 0, .int .i64 0, .string ⟨#[]⟩, .string ⟨#[]⟩, .bool false, .int .i64 0, .int .i64 0, .int .i64 0, .int .i64 0, .int .i64 (-1), .bool false, .string ⟨#[]⟩, .string ⟨#[]⟩, .string ⟨#[]⟩, .int .i64 0, .int .i64 0, .int .i64 0, .bool false, .int .i64 0, .int .i64 0, .string ⟨#[]⟩] 88 (0, 0)) := setOtherN xp (by omega)
  have xb5 : (z1.setCell ⟨g, 15, none⟩ (.pointer (some ⟨gp, 0, none⟩))).heap[w.heap.size]? = some (.cells #[.int .i64 am, .int .i64 ot, .int .i64 dy, .int .i64 mt, .int .i64 tr, .int .i64 dr, .bool ca, .bool sg, .bool mu, .string dg, .string no, .slice c4 c5 c6] 33 (0, 0)) := setOtherN (unhide HS z1 b1).2 (by have := unhide HGL; omega)
  have xr5 : (z1.setCell ⟨g, 15, none⟩ (.pointer (some ⟨gp, 0, none⟩))).heap[w.heap.size + 1]? = some (.cells #[.string ⟨#[]⟩, .bool false, .bool false, .string ⟨#[]⟩, .string ⟨#[]⟩, .string ⟨#[]⟩, .string ⟨#[]⟩, .int .i64 0, .int .i64 0, .int .i64 0, .bool false, .int .i64 0, .int .i64 0, .string ⟨#[]⟩, .int .i64 0, .int .i64 0, .int .i64 0, .int .i64 0, .int .i64 0, .int .i64 0, .bool false, .string ⟨#[]⟩, .string ⟨#[]⟩, .string ⟨#[]⟩, .int .i64 0, .int .i64 0, .int .i64 0, .bool false, .int .i64 0, .int .i64 0, .string ⟨#[]⟩] 46 (0, 0)) := setOtherN (rowN (unhide HR3) b1) (by have := unhide HGL; omega)
  have bb5 : ∀ B, B ≤ w.heap.size → B ≤ g → Below B w (z1.setCell ⟨g, 15, none⟩ (.pointer (some ⟨gp, 0, none⟩))) := fun B h1 h2 => Below.setCell (p := ⟨g, 15, none⟩) ((unhide HB3).trans (b1.mono (unhide HB3).size) |>.mono h1) h2 _
  refine wpAnyH_ready (rs := [9]) (by kernel_rfl) (by simp) ?_
  refine AllReadyH.cons (o := _) rfl (fun K hK => ?_) ?_
  rotate_left
  · exact AllReadyH.nil
  go_simp
  refine hK.out _ _ ?_ (fun hHeld2 => ?_)
  · exact ⟨range15N xg5, xb5⟩
  clear hK K
  try simp only [Act.put, List.setIfInBounds_toArray, List.set_cons_zero, List.set_cons_succ]
  refine wpAnyH_done (by kernel_rfl) ?_ _
  refine NoPanic.normal ?_
  clear hHeld hHeld2
  have q15' : (z1.setCell ⟨g, 15, none⟩ (.pointer (some ⟨gp, 0, none⟩))).cell? ⟨g, 15, none⟩ = some (.pointer (some ⟨gp, 0, none⟩)) := cell_of_row _ _ 15 _ _ _ xg5
  have hz5 : (z1.setCell ⟨g, 15, none⟩ (.pointer (some ⟨gp, 0, none⟩))).heap.size = z1.heap.size := by simp [World.setCell]
  have hs1 := b1.size
  have NS := hide (send_any gp #[.string root, .slice o1 m1 c1, .int .i64 fl, .int .i64 fr, .int .i64 sh, .int .i64 mo, .int .i64 lo, .int .i64 up, .slice o2 m2 c2, .int .i64 md, .int .i64 mn, .int .i64 mf, .slice o3 m3 c3, .int .i64 shop, .string nm, .int .i64 am, .int .i64 ot, .int .i64 dy, .int .i64 mt, .int .i64 tr, .int .i64 dr, .bool ca, .bool sg, .bool mu, .string dg, .string no, .slice c4 c5 c6, .int .i64 0, .bool false, .int .i64 0, .int .i64 0, .slice none 0 0, .int .i64 0, .int .i64 0, .int .i64 0, .slice none 0 0, .string ⟨#[]⟩, .bool false, .bool false, .int .i64 0, .int .i64 0, .int .i64 0, .int .i64 0, .bool false, .int .i64 0, .int .i64 0, .string ⟨#[]⟩, .string ⟨#[]⟩, .bool false, .int .i64 0, .int .i64 0, .int .i64 0, .int .i64 0, .int .i64 (-1), .bool false, .string ⟨#[]⟩, .string ⟨#[]⟩, .string ⟨#[]⟩, .int .i64 0, .int .i64 0, .int .i64 0, .bool false, .int .i64 0, .int .i64 0, .string ⟨#[]⟩] _ (Nat.le_of_ble_eq_true rfl : 29 ≤ _) xp5)
  have NK := hide (fun W => keep_any g c1S W)
  have hr3 := blkN (unhide HR3)
  have HXR5 := hide xr5; have HBB5 := hide bb5; have HGP := hide hgp; have HZ5 := hide hz5; have HS1 := hide hs1; have HRL := hide hr3
  generalize z1.setCell ⟨g, 15, none⟩ (.pointer (some ⟨gp, 0, none⟩)) = W5 at *
  clear q15 f15 xg5 xp5 xb5 xr5 bb5 hgp hz5 hs1 hr3 hgl3 xp j1 b1 xg1 HS NB HG3 HR3
  go_wp2_with (first | refine wpList_buildTo rfl 80 _ rfl _ rfl #[.int .i64 1, .string ⟨#[]⟩, .string ⟨#[]⟩, .int .i64 0, .int .i64 0, .int .i64 0, .int .i64 0, .bool false, .int .i64 0, .int .i64 0, .string ⟨#[]⟩, .string ⟨#[]⟩, .string ⟨#[]⟩, .string ⟨#[]⟩] (by kernel_rfl) ?_ | fail)
  refine (unhide NS).mono ?_
  rintro e y7 ⟨rfl, k7⟩
  have b7 : Below W3.heap.size W5 y7 := k7 W3.heap.size (by have := unhide HZ5; have := unhide HS1; omega) (unhide HGP)
  have xr7 := (b7.block _ (unhide HRL)).trans (unhide HXR5)
  have HB7 := hide (fun B (h1 : B ≤ w.heap.size) (h2 : B ≤ g) => (unhide HBB5 B h1 h2).trans (b7.mono (by have := (unhide HB3).size; omega)))
  have HXR7 := hide xr7
  clear k7 b7 xr7 q15'
  go_wp2_with fail
  refine (unhide NK _).mono ?_
  rintro e y8 ⟨rfl, k8⟩
  have HXR8 := hide (rowN (unhide HXR7) k8)
  have HB8 := hide (fun B (h1 : B ≤ w.heap.size) (h2 : B ≤ g) => (unhide HB7 B h1 h2).trans (k8.mono (by have := (unhide HB7 B h1 h2).size; omega)))
  clear k8
  go_wp2_with (refine wpList_store_row rfl _ _ _ rfl (w.heap.size + 1) #[.string c1S, .bool false, .bool false, .string ⟨#[]⟩, .string ⟨#[]⟩, .string ⟨#[]⟩, .string ⟨#[]⟩, .int .i64 0, .int .i64 0, .int .i64 0, .bool false, .int .i64 0, .int .i64 0, .string ⟨#[]⟩, .int .i64 0, .int .i64 0, .int .i64 0, .int .i64 0, .int .i64 0, .int .i64 0, .bool false, .string ⟨#[]⟩, .string ⟨#[]⟩, .string ⟨#[]⟩, .int .i64 0, .int .i64 0, .int .i64 0, .bool false, .int .i64 0, .int .i64 0, .string ⟨#[]⟩] rfl rfl _ _ (unhide HXR8) infoStep rfl (by simp [Value.oneCell']) ?_)
  refine bodyPost_ret (v := .tuple #[.agg #[.string c1S, .bool false, .bool false, .string ⟨#[]⟩, .string ⟨#[]⟩, .string ⟨#[]⟩, .string ⟨#[]⟩, .int .i64 0, .int .i64 0, .int .i64 0, .bool false, .int .i64 0, .int .i64 0, .string ⟨#[]⟩, .int .i64 0, .int .i64 0, .int .i64 0, .int .i64 0, .int .i64 0, .int .i64 0, .bool false, .string ⟨#[]⟩, .string ⟨#[]⟩, .string ⟨#[]⟩, .int .i64 0, .int .i64 0, .int .i64 0, .bool false, .int .i64 0, .int .i64 0, .string ⟨#[]⟩], .int .i64 0]) (results_cell_tmpN rfl _ _ (w.heap.size + 1) 46 #[.string c1S, .bool false, .bool false, .string ⟨#[]⟩, .string ⟨#[]⟩, .string ⟨#[]⟩, .string ⟨#[]⟩, .int .i64 0, .int .i64 0, .int .i64 0, .bool false, .int .i64 0, .int .i64 0, .string ⟨#[]⟩, .int .i64 0, .int .i64 0, .int .i64 0, .int .i64 0, .int .i64 0, .int .i64 0, .bool false, .string ⟨#[]⟩, .string ⟨#[]⟩, .string ⟨#[]⟩, .int .i64 0, .int .i64 0, .int .i64 0, .bool false, .int .i64 0, .int .i64 0, .string ⟨#[]⟩] (0, 0) _ _ rfl rfl (setRow_heap _ _ _ _ _ _ (unhide HXR8)) Tryd.underlying46 rfl infoStep) rfl ⟨rfl, fun B h1 h2 => setRow_belowN (unhide HB8 B h1 h2) (by omega)⟩
end Go.Proofs.YtfpglpefofcdeaaDoor
