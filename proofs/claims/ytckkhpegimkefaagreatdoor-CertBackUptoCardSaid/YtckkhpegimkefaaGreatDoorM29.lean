/- QuoRem, DivMod, Mod of the big numbers, by a number of three words or more. -/
import Derived.Test.YtckkhpegimkefaaGreatDoorM26
import Derived.Test.YtckkhpegimkefaaGreatDoorM28
namespace Go.Proofs.YtckkhpegimkefaaGreatDoor
open Go.RowKit
set_option linter.unusedVariables false
set_option linter.unusedSimpArgs false
set_option maxRecDepth 100000

theorem div_all (a b : Nat) (va vb : Value) (w : World) (ha : BigV w va a) (hb : BigV w vb b) (hla : a < B32 ^ 5000) (hlb : b < B32 ^ 5000) (hb64 : 18446744073709551616 ≤ b) :
    Calls Tryz.prog 131 #[va, vb] w fun e w' => (∃ q t, e = .returned (.tuple #[q, t]) ∧ BigV w' q (a / b) ∧ BigV w' t (a % b)) ∧ Below w.heap.size w w' := by
  by_cases h : a < b
  · exact div_less a b va vb w ha hb (lt_upK hla 10000 (by decide)) (lt_upK hlb 10000 (by decide)) h
  · exact div_big a b va vb w ha hb hla hb64 (Nat.le_of_not_lt h)
set_option maxHeartbeats 4000000 in
theorem quoRemK_any (p px py pr a b : Nat) (b0 br : Bool) (v0 vr : Value) (w : World) (hp : BoxAt3 w p b0 v0) (hr : BoxAt3 w pr br vr) (hx : IntAt w px a) (hy : IntAt w py b) (hpx : px ≠ p) (hpy : py ≠ p) (hpr : pr ≠ p) (hla : a < B32 ^ 5000) (hlb : b < B32 ^ 5000) (hb64 : 18446744073709551616 ≤ b) :
    Calls Tryz.prog 118 #[.pointer (some ⟨p, 0, none⟩), .pointer (some ⟨px, 0, none⟩), .pointer (some ⟨py, 0, none⟩), .pointer (some ⟨pr, 0, none⟩)] w fun e w' => e = .returned (.tuple #[.pointer (some ⟨p, 0, none⟩), .pointer (some ⟨pr, 0, none⟩)]) ∧ IntAt w' p (a / b) ∧ IntAt w' pr (a % b) ∧ (∀ B, B ≤ p → B ≤ pr → Below B w w') ∧ (∀ k, k < w.heap.size → k ≠ p → k ≠ pr → w'.heap[k]? = w.heap[k]?) ∧ w.heap.size ≤ w'.heap.size := by
  obtain ⟨va, hbx, hva⟩ := hx
  obtain ⟨vb, hby, hvb⟩ := hy
  have N1 := hide (fun w' (k : Below w.heap.size w w') => div_all a b va vb w' (hva.below k) (hvb.below k) hla hlb hb64)
  obtain ⟨c0, c1⟩ := hbx.cells
  obtain ⟨d0, d1⟩ := hby.cells
  have HP := hide hp; have HR := hide hr
  obtain ⟨x1, x2, x3, hv1⟩ := slice_of hva
  obtain ⟨y1, y2, y3, hv2⟩ := slice_of hvb
  subst hv1 hv2
  generalize a / b = q at *
  generalize a % b = r at *
  clear hva hvb hbx hby hla hlb hb64 hp hr
  go_enter Tryz.func118, Tryz.ntmps118
  go_wp2_with fail
  go_quiet (fail)
  go_wp2_with fail
  go_region_held3 (fun w' => w'.cell? ⟨px, 1, none⟩ = some (.slice x1 x2 x3) ∧ w'.cell? ⟨py, 1, none⟩ = some (.slice y1 y2 y3))
    (first
      | exact hs1
      | exact ⟨c1, d1⟩)
    ((first
      | (go_at_call 131; refine (unhide N1 _ (below_drewN (Below.refl _ _) _).drew).mono ?_; rintro e z1 ⟨⟨vq, vt, rfl, hq, ht⟩, k1⟩; have k0 : Below w.heap.size w z1 := (below_drewN (Below.refl _ _) _).drew.trans k1; have hs1 : z1.cell? ⟨px, 1, none⟩ = some (.slice x1 x2 x3) ∧ z1.cell? ⟨py, 1, none⟩ = some (.slice y1 y2 y3) := ⟨keep_cellB k0 c1, keep_cellB k0 d1⟩)))
  all_goals
    have hp1 := (unhide HP).below k0
    have hr1 := (unhide HR).below k0
    have N2 := hide (give_any p q b0 v0 vq z1 hp1 hq)
    have N3 := hide (fun (z2 : World) (hs : z1.heap.size ≤ z2.heap.size) (ho : ∀ k, k < z1.heap.size → k ≠ p → z2.heap[k]? = z1.heap[k]?) => give_any pr r br vr vt z2 ⟨(ho pr (heap_lt hr1.1) hpr).trans hr1.1, hr1.2⟩ (ht.box hp1 hs ho))
    have HR1 := hide hr1
    obtain ⟨q1, q2, q3, hvq⟩ := slice_of hq
    obtain ⟨t1, t2, t3, hvt⟩ := slice_of ht
    subst hvq hvt
    have K0 := hide k0
    clear hq ht k0 k1 hs1 c0 c1 d0 d1 hp1 hr1
    go_wp2_with fail
    refine (unhide N2).mono ?_
    rintro e z2 ⟨rfl, hint, hbel, ho, hsz⟩
    have N4 := hide (unhide N3 z2 (by omega) ho)
    have hr2 : BoxAt3 z2 pr br vr := ⟨(ho pr (heap_lt (unhide HR1).1) hpr).trans (unhide HR1).1, (unhide HR1).2⟩
    have R1 := hide hint; have R2 := hide hbel; have R3 := hide ho; have R4 := hide hsz; have R5 := hide hr2
    clear hint hbel ho hsz N3 hr2
    go_wp2_with fail
    refine (unhide N4).mono ?_
    rintro e z3 ⟨rfl, hint3, hbel3, ho3, hsz3⟩
    have S1 := hide ((unhide R1).other (unhide R5) (Ne.symm hpr) (by omega) ho3)
    have S2 := hide hint3
    have S3 : Hid (∀ B, B ≤ p → B ≤ pr → Below B w z3) := hide (fun B h1 h2 => ((unhide K0).mono (by have := heap_lt (unhide HP).1; omega)).trans ((unhide R2 B h1).trans (hbel3 B h2)))
    have S4 : Hid (∀ k, k < w.heap.size → k ≠ p → k ≠ pr → z3.heap[k]? = w.heap[k]?) := hide (fun k h1 h2 h3 => by
      have e1 := (unhide K0).size
      have e2 := unhide R4
      rw [ho3 k (by omega) h3, unhide R3 k (by omega) h2, (unhide K0).block k h1])
    have S5 : Hid (w.heap.size ≤ z3.heap.size) := hide (by have := (unhide K0).size; have := unhide R4; omega)
    clear hint3 hbel3 ho3 hsz3
    go_wp2
    go_ret2
    exact ⟨rfl, unhide S1, unhide S2, unhide S3, unhide S4, unhide S5⟩
set_option maxHeartbeats 4000000 in
theorem divModK_any (p px py pr a b : Nat) (b0 br : Bool) (v0 vr : Value) (w : World) (hp : BoxAt3 w p b0 v0) (hr : BoxAt3 w pr br vr) (hx : IntAt w px a) (hy : IntAt w py b) (hpx : px ≠ p) (hpy : py ≠ p) (hpr : pr ≠ p) (hla : a < B32 ^ 5000) (hlb : b < B32 ^ 5000) (hb64 : 18446744073709551616 ≤ b) :
    Calls Tryz.prog 92 #[.pointer (some ⟨p, 0, none⟩), .pointer (some ⟨px, 0, none⟩), .pointer (some ⟨py, 0, none⟩), .pointer (some ⟨pr, 0, none⟩)] w fun e w' => e = .returned (.tuple #[.pointer (some ⟨p, 0, none⟩), .pointer (some ⟨pr, 0, none⟩)]) ∧ IntAt w' p (a / b) ∧ IntAt w' pr (a % b) ∧ (∀ B, B ≤ p → B ≤ pr → Below B w w') ∧ (∀ k, k < w.heap.size → k ≠ p → k ≠ pr → w'.heap[k]? = w.heap[k]?) ∧ w.heap.size ≤ w'.heap.size := by
  have hlb2 : b < B32 ^ 10000 := lt_upK hlb 10000 (by decide)
  have hb1 := (Below.refl w.heap.size w).alloc (Nat.le_refl _) (.cells #[.bool false, .slice none 0 0] 101)
  have N1 := hide (set_any w.heap.size py b false (.slice none 0 0) _ (box_new w) (hy.below hb1) (by have := hy.lt; omega) hlb2)
  have N2 := hide (fun w' (k : Below w.heap.size w w') => quoRemK_any p px py pr a b b0 br v0 vr w' (hp.below k) (hr.below k) (hx.below k) (hy.below k) hpx hpy hpr hla hlb hb64)
  have HB1 := hide hb1
  have hplt := heap_lt hp.1
  generalize a / b = q at *
  generalize a % b = r at *
  clear hp hr hx hy hla hlb hlb2 hb64 hb1
  go_enter Tryz.func92, Tryz.ntmps92
  go_wp2_with fail
  refine (unhide N1).mono ?_
  rintro e w1 ⟨rfl, hint, hbel, ho, hsz⟩
  have k1 : Below w.heap.size w w1 := (unhide HB1).trans (hbel _ (Nat.le_refl _))
  have K1 := hide k1
  have N3 := hide (unhide N2 _ k1)
  clear hint hbel ho hsz k1 N1 N2 HB1
  go_wp2_with fail
  refine (unhide N3).mono ?_
  rintro e w2 ⟨rfl, h1, h2, h3, h4, h5⟩
  obtain ⟨v2, hbx2⟩ := h2.boxed
  obtain ⟨c0, c1⟩ := hbx2.cells
  have R1 := hide h1; have R2 := hide h2
  have R3 : Hid (∀ B, B ≤ p → B ≤ pr → Below B w w2) := hide (fun B e1 e2 => ((unhide K1).mono (by omega)).trans (h3 B e1 e2))
  have R4 : Hid (∀ k, k < w.heap.size → k ≠ p → k ≠ pr → w2.heap[k]? = w.heap[k]?) := hide (fun k e1 e2 e3 => (h4 k (by have := (unhide K1).size; omega) e2 e3).trans ((unhide K1).block k e1))
  have R5 : Hid (w.heap.size ≤ w2.heap.size) := hide (by have := (unhide K1).size; omega)
  clear h1 h2 h3 h4 h5 hbx2 c1 N3 K1
  go_wp2
  go_ret2
  exact ⟨rfl, unhide R1, unhide R2, unhide R3, unhide R4, unhide R5⟩
set_option maxHeartbeats 4000000 in
/-- z.Mod(x, y), where z may be x -/
theorem bigModK_any (pz px py a b : Nat) (bz : Bool) (vz : Value) (w : World) (hz : BoxAt3 w pz bz vz) (hx : IntAt w px a) (hy : IntAt w py b) (hla : a < B32 ^ 5000) (hlb : b < B32 ^ 5000) (hb64 : 18446744073709551616 ≤ b) :
    Calls Tryz.prog 64 #[.pointer (some ⟨pz, 0, none⟩), .pointer (some ⟨px, 0, none⟩), .pointer (some ⟨py, 0, none⟩)] w fun e w' => e = .returned (.pointer (some ⟨pz, 0, none⟩)) ∧ IntAt w' pz (a % b) ∧ (∀ B, B ≤ pz → Below B w w') ∧ (∀ k, k < w.heap.size → k ≠ pz → w'.heap[k]? = w.heap[k]?) ∧ w.heap.size ≤ w'.heap.size := by
  have hb1 := (Below.refl w.heap.size w).alloc (Nat.le_refl _) (.cells #[.bool false, .slice none 0 0] 101)
  have lz := heap_lt hz.1
  have N1 := hide (divModK_any w.heap.size px py pz a b false bz (.slice none 0 0) vz _ (box_new w) (hz.below hb1) (hx.below hb1) (hy.below hb1) (Nat.ne_of_lt hx.lt) (Nat.ne_of_lt hy.lt) (Nat.ne_of_lt lz) hla hlb hb64)
  have HB1 := hide hb1
  generalize a / b = q at *
  generalize a % b = r at *
  clear hz hx hy hla hlb hb64 hb1
  go_enter Tryz.func64, Tryz.ntmps64
  go_wp2_with fail
  refine (unhide N1).mono ?_
  rintro e w2 ⟨rfl, h1, h2, h3, h4, h5⟩
  have R2 := hide h2
  have hs1 : (w.alloc (.cells #[.bool false, .slice none 0 0] 101)).heap.size = w.heap.size + 1 := by simp
  have R3 : Hid (∀ B, B ≤ pz → Below B w w2) := hide (fun B e1 => ((unhide HB1).mono (by omega)).trans (h3 B (by omega) e1))
  have R4 : Hid (∀ k, k < w.heap.size → k ≠ pz → w2.heap[k]? = w.heap[k]?) := hide (fun k e1 e2 => (h4 k (by omega) (by omega) e2).trans ((unhide HB1).block k e1))
  have R5 : Hid (w.heap.size ≤ w2.heap.size) := hide (by omega)
  clear h1 h2 h3 h4 h5 hs1 N1 HB1
  go_wp2
  go_ret
  exact ⟨rfl, unhide R2, unhide R3, unhide R4, unhide R5⟩
end Go.Proofs.YtckkhpegimkefaaGreatDoor
