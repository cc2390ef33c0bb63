/- ClearSums: what should be owed, summed up over the posted. -/
import Derived.Test.YtdameincehiieaaCsO
namespace Go.Proofs.Ytdameincehiieaa
open Go.RowKit Go.WideMaps Go.Maps
set_option linter.unusedVariables false
set_option linter.unusedSimpArgs false
set_option maxRecDepth 100000

/-- the law's last loop over the posted: mw the map of what should be owed, r the iterator -/
structure CsT (w wq : World) (F : Nat → Prop) (b : Nat) (S : Clr) (B : Bks) (H : Hld) (mw r : Nat) (vis : List (Int × Int)) : Prop where
  hW : CsW w wq F b S B H
  hm : ∃ g ks, GMap rdI 61 wq mw g ks ∧ (∀ x y, (g x y).getD 0 = wantV S.L vis x y) ∧ ∀ x y, (g x y).isSome = true → 1 ≤ x ∧ x ≤ 99 ∧ 1 ≤ y ∧ y ≤ 99
  hr : RngG rdP 60 wq B.p r H.G vis
  mF : ∀ x, F x → x ≠ mw ∧ x ≠ r
  mN : mw ≠ B.p ∧ mw ≠ B.j ∧ mw ≠ B.d ∧ mw ≠ B.o ∧ r ≠ B.p ∧ r ≠ B.j ∧ r ≠ B.d ∧ r ≠ B.o ∧ mw ≠ r
  mB : w.heap.size ≤ mw ∧ w.heap.size ≤ r
section
variable {w wq w' : World} {F : Nat → Prop} {b : Nat} {S : Clr} {B : Bks} {H : Hld} {mw r : Nat} {vis : List (Int × Int)}
/-- what touches no block but x, where nothing of the Clear and no map lies -/
theorem CsW.other (h : CsW w wq F b S B H) {x : Nat} (hC : Chg (fun i => i = x) wq w') (h1 : ∀ y, F y → y ≠ x) (h2 : x ≠ B.p ∧ x ≠ B.j ∧ x ≠ B.d ∧ x ≠ B.o) (h3 : w.heap.size ≤ x) : CsW w w' F b S B H := by
  obtain ⟨l1, l2, l3, l4⟩ := h.lt
  obtain ⟨k1, g1⟩ := h.mp; obtain ⟨k2, g2⟩ := h.mj; obtain ⟨k3, g3⟩ := h.md; obtain ⟨k4, g4⟩ := h.mo
  exact { h with c := h.c.keepS hC.size (fun y hy => hC.block y (h.c.ltS y hy) (h1 y hy)), mp := ⟨k1, g1.of_block (hC.block _ l1 (Ne.symm h2.1))⟩, mj := ⟨k2, g2.of_block (hC.block _ l2 (Ne.symm h2.2.1))⟩, md := ⟨k3, g3.of_block (hC.block _ l3 (Ne.symm h2.2.2.1))⟩, mo := ⟨k4, g4.of_block (hC.block _ l4 (Ne.symm h2.2.2.2))⟩, bel := h.bel.trans (hC.below h.bel.size (fun y hy => by subst hy; exact h3)) }
theorem CsT.below (h : CsT w wq F b S B H mw r vis) (hb : Below wq.heap.size wq w') : CsT w w' F b S B H mw r vis := by
  obtain ⟨g, ks, q1, q2, q3⟩ := h.hm
  obtain ⟨r1, r2, _⟩ := h.hr.lt
  exact { h with hW := h.hW.below hb, hm := ⟨g, ks, q1.below hb, q2, q3⟩, hr := h.hr.of_blocks (hb.block _ r2) (hb.block _ r1) }
theorem CsT.left (h : CsT w wq F b S B H mw r vis) (hb : Below wq.heap.size wq w') : w'.rangeLeft B.p r = wq.rangeLeft B.p r := by
  obtain ⟨r1, r2, _⟩ := h.hr.lt
  exact rangeLeft_blocks (hb.block _ r2) (hb.block _ r1)
/-- behind a step that shows one whose two banks are one -/
theorem CsT.step (h : CsT w wq F b S B H mw r vis) {x y : Int} (hr : RngG rdP 60 w' B.p r H.G (vis ++ [(x, y)])) (hg : wq.grownBy w' (some r)) (hz : ∀ a b, wantP S.L (x, y) a b = 0) : CsT w w' F b S B H mw r (vis ++ [(x, y)]) := by
  obtain ⟨g, ks, q1, q2, q3⟩ := h.hm
  have hC := Chg.grown hg
  obtain ⟨n1, n2, n3, n4, n5, n6, n7, n8, n9⟩ := h.mN
  refine { h with hW := h.hW.other hC (fun y hy => (h.mF y hy).2) ⟨n5, n6, n7, n8⟩ h.mB.2, hm := ⟨g, ks, q1.of_block (hC.block _ q1.lt n9), fun a b => ?_, q3⟩, hr := hr }
  rw [wantV_snoc, hz, q2]; omega
/-- a step, the sum to come -/
structure CsU (w wq : World) (F : Nat → Prop) (b : Nat) (S : Clr) (B : Bks) (H : Hld) (mw r : Nat) (vis : List (Int × Int)) (p : Int × Int) : Prop where
  hW : CsW w wq F b S B H
  hm : ∃ g ks, GMap rdI 61 wq mw g ks ∧ (∀ x y, (g x y).getD 0 = wantV S.L vis x y) ∧ ∀ x y, (g x y).isSome = true → 1 ≤ x ∧ x ≤ 99 ∧ 1 ≤ y ∧ y ≤ 99
  hr : RngG rdP 60 wq B.p r H.G (vis ++ [p])
  mF : ∀ x, F x → x ≠ mw ∧ x ≠ r
  mN : mw ≠ B.p ∧ mw ≠ B.j ∧ mw ≠ B.d ∧ mw ≠ B.o ∧ r ≠ B.p ∧ r ≠ B.j ∧ r ≠ B.d ∧ r ≠ B.o ∧ mw ≠ r
  mB : w.heap.size ≤ mw ∧ w.heap.size ≤ r
theorem CsT.next (h : CsT w wq F b S B H mw r vis) {p : Int × Int} (hr : RngG rdP 60 w' B.p r H.G (vis ++ [p])) (hg : wq.grownBy w' (some r)) : CsU w w' F b S B H mw r vis p := by
  obtain ⟨g, ks, q1, q2, q3⟩ := h.hm
  have hC := Chg.grown hg
  obtain ⟨n1, n2, n3, n4, n5, n6, n7, n8, n9⟩ := h.mN
  exact ⟨h.hW.other hC (fun y hy => (h.mF y hy).2) ⟨n5, n6, n7, n8⟩ h.mB.2, ⟨g, ks, q1.of_block (hC.block _ q1.lt n9), q2, q3⟩, hr, h.mF, h.mN, h.mB⟩
theorem CsU.below {p : Int × Int} (h : CsU w wq F b S B H mw r vis p) (hb : Below wq.heap.size wq w') : CsU w w' F b S B H mw r vis p := by
  obtain ⟨g, ks, q1, q2, q3⟩ := h.hm
  obtain ⟨r1, r2, _⟩ := h.hr.lt
  exact { h with hW := h.hW.below hb, hm := ⟨g, ks, q1.below hb, q2, q3⟩, hr := h.hr.of_blocks (hb.block _ r2) (hb.block _ r1) }
theorem CsU.none {p : Int × Int} (h : CsU w wq F b S B H mw r vis p) (hz : ∀ x y, wantP S.L p x y = 0) : CsT w wq F b S B H mw r (vis ++ [p]) := by
  obtain ⟨g, ks, q1, q2, q3⟩ := h.hm
  exact ⟨h.hW, ⟨g, ks, q1, fun x y => by rw [wantV_snoc, hz, q2]; omega, q3⟩, h.hr, h.mF, h.mN, h.mB⟩
/-- the sum, in whatever order -/
theorem CsU.add {p : Int × Int} (h : CsU w wq F b S B H mw r vis p) (hok : okS S) (hlen : vis.length < 100000) {k : Kse} (hk : k ∈ S.L) (hkey : keyIs p.1 p.2 k = true) (hne : k.p.frm ≠ k.p.to) :
    ∃ (v0 : Value) (st : Nat) (o1 o2 : Obj) (n : Int), (Instr.lookup 58 (.map (some mw)) (.agg #[.int .i64 k.p.frm, .int .i64 k.p.to]) false).run Try.prog wq.drew = .ok (.int .i64 n) wq.drew ∧
      (Instr.mapEntry 58 (.map (some mw)) (.agg #[.int .i64 k.p.frm, .int .i64 k.p.to])).run Try.prog wq.drew = .ok (.tuple #[v0, .int .i64 st]) (ChangeMaps.setBlock wq.drew mw o1) ∧
      (Instr.lookup 58 (.map (some mw)) (.agg #[.int .i64 k.p.frm, .int .i64 k.p.to]) false).run Try.prog (ChangeMaps.setBlock wq.drew mw o1) = .ok (.int .i64 n) (ChangeMaps.setBlock wq.drew mw o1) ∧
      (Instr.entryStore 58 (.map (some mw)) (.int .i64 st) (.int .i64 (n + k.c.paid))).run Try.prog (ChangeMaps.setBlock wq.drew mw o1) = .ok () (ChangeMaps.setBlock (ChangeMaps.setBlock wq.drew mw o1) mw o2) ∧
      IntKind.i64.wrap (n + k.c.paid) = n + k.c.paid ∧ CsT w (ChangeMaps.setBlock (ChangeMaps.setBlock wq.drew mw o1) mw o2) F b S B H mw r (vis ++ [p]) ∧
      (ChangeMaps.setBlock (ChangeMaps.setBlock wq.drew mw o1) mw o2).rangeLeft B.p r = wq.rangeLeft B.p r := by
  obtain ⟨g, ks, q1, q2, q3⟩ := h.hm
  obtain ⟨r1, r2, _⟩ := h.hr.lt
  obtain ⟨n1, n2, n3, n4, n5, n6, n7, n8, n9⟩ := h.mN
  have hsm := owed_small q1 q3
  have hmx : 10000 < maxLen := by decide
  obtain ⟨hc, hpb, _⟩ := hok.each k hk
  have hb := of_decide_eq_false hpb
  have h8 := hc.2.2.2.2.2.2.2.1
  have h9 := hc.2.2.2.2.2.2.2.2.1
  have hv := wantV_small hok vis k.p.frm k.p.to
  have hq := q2 k.p.frm k.p.to
  obtain ⟨v0, st, o1, o2, t1, t2, t3, t4, t5, t6⟩ := up_tail keyA Try.underlying58 mw g ks k.p.frm k.p.to ((g k.p.frm k.p.to).getD 0 + k.c.paid) wq q1 (by omega) ⟨by omega, by omega⟩ ⟨by omega, by omega⟩
  have hfk := find_key hok.once hk hkey
  refine ⟨v0, st, o1, o2, (g k.p.frm k.p.to).getD 0, t1, t2, t3, t4, ?_, ⟨h.hW.other t6 (fun y hy => (h.mF y hy).1) ⟨n1, n2, n3, n4⟩ h.mB.1, ⟨_, _, t5, fun x y => ?_, fun x y hx => ?_⟩, h.hr.of_blocks (t6.block _ r2 (Ne.symm n1)) (t6.block _ r1 (Ne.symm n9)), h.mF, h.mN, h.mB⟩, rangeLeft_blocks (t6.block _ r2 (Ne.symm n1)) (t6.block _ r1 (Ne.symm n9))⟩
  · rw [IntKind.wrap_i64]; omega
  · rw [wantV_snoc]
    unfold wantP
    rw [hfk]
    show _ = _ + wantK k x y
    unfold wantK
    by_cases e : x = k.p.frm ∧ y = k.p.to
    · obtain ⟨rfl, rfl⟩ := e
      rw [upd2_at, if_pos ⟨rfl, rfl, hne⟩, ← hq]; rfl
    · rw [upd2_off _ _ _ _ e, if_neg (fun hh => e ⟨hh.1.symm, hh.2.1.symm⟩), q2 x y]; omega
  · by_cases e : x = k.p.frm ∧ y = k.p.to
    · rw [e.1, e.2]; omega
    · rw [upd2_off _ _ _ _ e] at hx; exact q3 x y hx
/-- the loop begins -/
theorem CsT.start {wr : World} (h : CsW w wr F b S B H) (hr : RngG rdP 60 w' B.p (wr.heap.size + 1) H.G []) (hg : (wr.alloc (.map #[] 0)).grownBy w' none) : CsT w w' F b S B H wr.heap.size (wr.heap.size + 1) [] := by
  have hs := h.bel.size
  have hB : Below wr.heap.size wr (wr.alloc (.map #[] 0)) := (Below.refl _ _).alloc (Nat.le_refl _) _
  have hB2 : Below (wr.alloc (.map #[] 0)).heap.size (wr.alloc (.map #[] 0)) w' := (Below.refl _ _).grown hg (Nat.le_refl _) (fun j hj => by cases hj)
  obtain ⟨l1, l2, l3, l4⟩ := h.lt
  refine ⟨(h.below hB).below hB2, ⟨_, _, (GMap.made rdI 61 wr).below hB2, fun x y => rfl, fun x y hx => (by cases hx)⟩, hr, fun x hx => ?_, ?_, ?_⟩
  · have := h.c.ltS x hx; omega
  · omega
  · omega
/-- the loop is through -/
theorem CsT.all (h : CsT w wq F b S B H mw r vis) (hV : CsV S H) (hall : ∀ x y, (H.G x y).isSome = true → (x, y) ∈ vis) : ∃ g ks, GMap rdI 61 wq mw g ks ∧ ∀ x y, (g x y).getD 0 = wantL S.L x y := by
  obtain ⟨g, ks, q1, q2, _⟩ := h.hm
  obtain ⟨D, ks', left, cnt, _, _, _, hnd, hvs, _⟩ := h.hr
  exact ⟨g, ks, q1, fun x y => by rw [q2, wantV_all hV.inv.ok.once hV.inv.gp hnd hvs hall]⟩
theorem CsT.len (h : CsT w wq F b S B H mw r vis) (hV : CsV S H) {p : Int × Int} (hp : p ∉ vis) (hs : (H.G p.1 p.2).isSome = true) : vis.length < 100000 := by
  obtain ⟨D, ks', left, cnt, _, _, _, hnd, hvs, _⟩ := h.hr
  have hsub := nodup_sub (p :: vis) (S.L.map (fun k => (k.p.shop, k.p.trace))) (List.nodup_cons.2 ⟨hp, hnd⟩) (fun x hx => by
    have h1 : (H.G x.1 x.2).isSome = true := by
      rcases List.mem_cons.1 hx with rfl | hx
      · exact hs
      · exact hvs x hx
    rw [hV.inv.gp x.1 x.2] at h1
    obtain ⟨q, hq⟩ := Option.isSome_iff_exists.1 h1
    obtain ⟨k, hk, _⟩ := Option.map_eq_some_iff.1 hq
    have e1 : keyIs x.1 x.2 k = true := List.find?_some hk
    have e := of_decide_eq_true e1
    exact List.mem_map.2 ⟨k, List.mem_of_find?_eq_some hk, by rw [e.1, e.2]⟩)
  rw [List.length_map, List.length_cons] at hsub
  have := hV.inv.ok.len
  omega
end
end Go.Proofs.Ytdameincehiieaa
