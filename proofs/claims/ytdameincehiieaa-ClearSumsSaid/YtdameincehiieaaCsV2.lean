/- ClearSums: the main loop's two loops over the done and the posted. -/
import Derived.Test.YtdameincehiieaaCsS2
namespace Go.Proofs.Ytdameincehiieaa
open Go.RowKit Go.WideMaps Go.Maps
set_option linter.unusedVariables false
set_option linter.unusedSimpArgs false
set_option maxRecDepth 100000

/-- a loop over one of the maps: r the iterator -/
structure CsD (w wq : World) (F : Nat → Prop) (b : Nat) (S : Clr) (B : Bks) (H : Hld) (r : Nat) (vis : List (Int × Int)) : Prop where
  hW : CsW w wq F b S B H
  hr : RngG rdC 60 wq B.d r H.N vis
  mF : ∀ x, F x → x ≠ r
  mN : r ≠ B.p ∧ r ≠ B.j ∧ r ≠ B.d ∧ r ≠ B.o
  mB : w.heap.size ≤ r
structure CsE (w wq : World) (F : Nat → Prop) (b : Nat) (S : Clr) (B : Bks) (H : Hld) (r : Nat) (vis : List (Int × Int)) : Prop where
  hW : CsW w wq F b S B H
  hr : RngG rdP 60 wq B.p r H.G vis
  mF : ∀ x, F x → x ≠ r
  mN : r ≠ B.p ∧ r ≠ B.j ∧ r ≠ B.d ∧ r ≠ B.o
  mB : w.heap.size ≤ r
section
variable {w wq wr w' : World} {F : Nat → Prop} {b : Nat} {S : Clr} {B : Bks} {H : Hld} {r : Nat} {vis : List (Int × Int)}
theorem CsD.start (h : CsW w wr F b S B H) (hr : RngG rdC 60 w' B.d wr.heap.size H.N []) (hg : wr.grownBy w' none) : CsD w w' F b S B H wr.heap.size [] := by
  have hs := h.bel.size
  have hB2 : Below wr.heap.size wr w' := (Below.refl _ _).grown hg (Nat.le_refl _) (fun j hj => by cases hj)
  obtain ⟨l1, l2, l3, l4⟩ := h.lt
  refine ⟨h.below hB2, hr, fun x hx => ?_, ?_, hs⟩
  · have := h.c.ltS x hx; omega
  · omega
theorem CsE.start (h : CsW w wr F b S B H) (hr : RngG rdP 60 w' B.p wr.heap.size H.G []) (hg : wr.grownBy w' none) : CsE w w' F b S B H wr.heap.size [] := by
  have hs := h.bel.size
  have hB2 : Below wr.heap.size wr w' := (Below.refl _ _).grown hg (Nat.le_refl _) (fun j hj => by cases hj)
  obtain ⟨l1, l2, l3, l4⟩ := h.lt
  refine ⟨h.below hB2, hr, fun x hx => ?_, ?_, hs⟩
  · have := h.c.ltS x hx; omega
  · omega
theorem CsD.below (h : CsD w wq F b S B H r vis) (hb : Below wq.heap.size wq w') : CsD w w' F b S B H r vis := by
  obtain ⟨r1, r2, _⟩ := h.hr.lt
  exact { h with hW := h.hW.below hb, hr := h.hr.of_blocks (hb.block _ r2) (hb.block _ r1) }
theorem CsE.below (h : CsE w wq F b S B H r vis) (hb : Below wq.heap.size wq w') : CsE w w' F b S B H r vis := by
  obtain ⟨r1, r2, _⟩ := h.hr.lt
  exact { h with hW := h.hW.below hb, hr := h.hr.of_blocks (hb.block _ r2) (hb.block _ r1) }
theorem CsD.left (h : CsD w wq F b S B H r vis) (hb : Below wq.heap.size wq w') : w'.rangeLeft B.d r = wq.rangeLeft B.d r := by
  obtain ⟨r1, r2, _⟩ := h.hr.lt
  exact rangeLeft_blocks (hb.block _ r2) (hb.block _ r1)
theorem CsE.left (h : CsE w wq F b S B H r vis) (hb : Below wq.heap.size wq w') : w'.rangeLeft B.p r = wq.rangeLeft B.p r := by
  obtain ⟨r1, r2, _⟩ := h.hr.lt
  exact rangeLeft_blocks (hb.block _ r2) (hb.block _ r1)
theorem CsD.next (h : CsD w wq F b S B H r vis) {p : Int × Int} (hr : RngG rdC 60 w' B.d r H.N (vis ++ [p])) (hg : wq.grownBy w' (some r)) : CsD w w' F b S B H r (vis ++ [p]) :=
  { h with hW := h.hW.other (Chg.grown hg) h.mF h.mN h.mB, hr := hr }
theorem CsE.next (h : CsE w wq F b S B H r vis) {p : Int × Int} (hr : RngG rdP 60 w' B.p r H.G (vis ++ [p])) (hg : wq.grownBy w' (some r)) : CsE w w' F b S B H r (vis ++ [p]) :=
  { h with hW := h.hW.other (Chg.grown hg) h.mF h.mN h.mB, hr := hr }
/-- done[k] = x -/
theorem CsE.put (h : CsE w wq F b S B H r vis) {N' : Int → Int → Option Cse} {ks : List (Int × Int)} (hg : GMap rdC 60 w' B.d N' ks) (hC : wq.grownBy w' (some B.d)) : CsE w w' F b S B { H with N := N' } r vis ∧ w'.rangeLeft B.p r = wq.rangeLeft B.p r := by
  have hCC := Chg.grown hC
  obtain ⟨r1, r2, _⟩ := h.hr.lt
  have e1 := hCC.block _ r2 (h.hW.nB.2.1)
  have e2 := hCC.block _ r1 (h.mN.2.2.1)
  exact ⟨⟨h.hW.putD hg hCC, h.hr.of_blocks e1 e2, h.mF, h.mN, h.mB⟩, rangeLeft_blocks e1 e2⟩
end
theorem CsV.done {S : Clr} {H : Hld} (h : CsV S H) {a b : Int} {k : Kse} (hk : k ∈ S.L) (hkey : keyIs a b k = true) (h6 : (onC S.D k.c S.last).st = 6) : CsV S { H with N := upd2 H.N a b (some (onC S.D k.c S.last)) } :=
  ⟨h.inv.done hk hkey h6, h.jk, h.ok⟩
/-- the test of the second loop -/
theorem CsV.test {S : Clr} {H : Hld} (h : CsV S H) {a b : Int} {k : Kse} (hk : k ∈ S.L) (hkey : keyIs a b k = true) {j : Int} (hj : j = (H.J a b).getD 0) : (j = 1) ∨ (j = 0 ∧ (k.c.paid = k.p.amt ∨ k.c.paid = k.p.amt - k.c.disp)) := hj ▸ h.inv.judged hk hkey
theorem neq_case (a b c d : Int) (w : World) : (binOp .neq 47 (.agg #[.int .i64 a, .int .i64 b, .int .i64 c, .int .i64 d]) (.agg #[.int .i64 a, .int .i64 b, .int .i64 c, .int .i64 d])).run Try.prog w = .ok (.bool false) w := by
  go_simp
theorem guard_case (op : BinOp) (x y : Operand) (V W : Array Value) (w : World) : (eqGuard op 47 x y (.agg V) (.agg W)).run Try.prog w = .ok () w :=
  run_eqGuard_agg w op _ x y _ _ (by kernel_rfl)
end Go.Proofs.Ytdameincehiieaa
