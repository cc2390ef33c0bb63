/- The big numbers themselves: QuoRem, Set, DivMod, Div by a number of one word. -/
import Derived.Test.YtckkhpegimkefaaM31
namespace Go.Proofs.Ytckkhpegimkefaa
open Go.RowKit
set_option linter.unusedVariables false

/-- a number stays while another one's box is written -/
theorem IntAt.other {w w' : World} {p n r : Nat} {b : Bool} {v0 : Value} (h : IntAt w p n) (hr : BoxAt3 w r b v0) (hpr : p ≠ r) (hs : w.heap.size ≤ w'.heap.size) (ho : ∀ k, k < w.heap.size → k ≠ r → w'.heap[k]? = w.heap[k]?) : IntAt w' p n := by
  obtain ⟨v, h1, h2⟩ := h
  exact ⟨v, ⟨(ho p (heap_lt h1.1) hpr).trans h1.1, h1.2⟩, h2.box hr hs ho⟩
theorem IntAt.lt {w : World} {p n : Nat} (h : IntAt w p n) : p < w.heap.size := by
  obtain ⟨v, h1, h2⟩ := h
  exact heap_lt h1.1
theorem IntAt.boxed {w : World} {p n : Nat} (h : IntAt w p n) : ∃ v, BoxAt3 w p false v := by
  obtain ⟨v, h1, h2⟩ := h
  exact ⟨v, h1⟩
set_option maxHeartbeats 4000000 in
set_option maxRecDepth 100000 in
theorem quoRem_any (p px py pr a b : Nat) (b0 br : Bool) (v0 vr : Value) (w : World) (hp : BoxAt3 w p b0 v0) (hr : BoxAt3 w pr br vr) (hx : IntAt w px a) (hy : IntAt w py b) (hpx : px ≠ p) (hpy : py ≠ p) (hpr : pr ≠ p) (hla : a < B32 ^ 10000) (hb0 : b ≠ 0) (hbB : b < 4294967296) :
    Calls Try.prog 78 #[.pointer (some ⟨p, 0, none⟩), .pointer (some ⟨px, 0, none⟩), .pointer (some ⟨py, 0, none⟩), .pointer (some ⟨pr, 0, none⟩)] w fun e w' => e = .returned (.tuple #[.pointer (some ⟨p, 0, none⟩), .pointer (some ⟨pr, 0, none⟩)]) ∧ IntAt w' p (a / b) ∧ IntAt w' pr (a % b) ∧ (∀ B, B ≤ p → B ≤ pr → Below B w w') ∧ (∀ k, k < w.heap.size → k ≠ p → k ≠ pr → w'.heap[k]? = w.heap[k]?) ∧ w.heap.size ≤ w'.heap.size := by
  obtain ⟨va, hbx, hva⟩ := hx
  obtain ⟨vb, hby, hvb⟩ := hy
  have N1 := hide (fun w' (k : Below w.heap.size w w') => div_one a b va vb w' (hva.below k) (hvb.below k) hla hb0 hbB)
  obtain ⟨c0, c1⟩ := hbx.cells
  obtain ⟨d0, d1⟩ := hby.cells
  have HP := hide hp; have HR := hide hr
  obtain ⟨x1, x2, x3, hv1⟩ := slice_of hva
  obtain ⟨y1, y2, y3, hv2⟩ := slice_of hvb
  subst hv1 hv2
  generalize a / b = q at *
  generalize a % b = r at *
  clear hva hvb hbx hby hla hb0 hbB hp hr
  go_enter Try.func78, Try.ntmps78
  go_wp2_with fail
  go_quiet (fail)
  go_wp2_with fail
  go_region_held3 (fun w' => w'.cell? ⟨px, 1, none⟩ = some (.slice x1 x2 x3) ∧ w'.cell? ⟨py, 1, none⟩ = some (.slice y1 y2 y3))
    (first
      | exact hs1
      | exact ⟨c1, d1⟩)
    ((first
      | (go_at_call 89; refine (unhide N1 _ (below_drewN (Below.refl _ _) _).drew).mono ?_; rintro e z1 ⟨⟨vq, vt, rfl, hq, ht⟩, k1⟩; have k0 : Below w.heap.size w z1 := (below_drewN (Below.refl _ _) _).drew.trans k1; have hs1 : z1.cell? ⟨px, 1, none⟩ = some (.slice x1 x2 x3) ∧ z1.cell? ⟨py, 1, none⟩ = some (.slice y1 y2 y3) := ⟨keep_cellB k0 c1, keep_cellB k0 d1⟩)))
  all_goals
    have hp1 := (unhide HP).below k0
    have hr1 := (unhide HR).below k0
    have N2 := hide (give_any p q b0 v0 vq z1 hp1 hq)
    have N3 := hide (fun (z2 : World) (hs : z1.heap.size ≤ z2.heap.size) (ho : ∀ k, k < z1.heap.size → k ≠ p → z2.heap[k]? = z1.heap[k]?) => give_any pr r br vr vt z2 ⟨(ho pr (heap_lt hr1.1) hpr).trans hr1.1, hr1.2⟩ (ht.box hp1 hs ho))
    have HR1 := hide hr1
    obtain ⟨q1, q2, q3, hvq⟩ := slice_of hq
    obtain ⟨t1, t2, t3, hvt⟩ := slice_of ht
    subst hvq hvt
    have K0 := hide k0
    clear hq ht k0 k1 hs1 c0 c1 d0 d1 hp1 hr1
    go_wp2_with fail
    refine (unhide N2).mono ?_
    rintro e z2 ⟨rfl, hint, hbel, ho, hsz⟩
    have N4 := hide (unhide N3 z2 (by omega) ho)
    have hr2 : BoxAt3 z2 pr br vr := ⟨(ho pr (heap_lt (unhide HR1).1) hpr).trans (unhide HR1).1, (unhide HR1).2⟩
    have R1 := hide hint; have R2 := hide hbel; have R3 := hide ho; have R4 := hide hsz; have R5 := hide hr2
    clear hint hbel ho hsz N3 hr2
    go_wp2_with fail
    refine (unhide N4).mono ?_
    rintro e z3 ⟨rfl, hint3, hbel3, ho3, hsz3⟩
    have S1 := hide ((unhide R1).other (unhide R5) (Ne.symm hpr) (by omega) ho3)
    have S2 := hide hint3
    have S3 : Hid (∀ B, B ≤ p → B ≤ pr → Below B w z3) := hide (fun B h1 h2 => ((unhide K0).mono (by have := heap_lt (unhide HP).1; omega)).trans ((unhide R2 B h1).trans (hbel3 B h2)))
    have S4 : Hid (∀ k, k < w.heap.size → k ≠ p → k ≠ pr → z3.heap[k]? = w.heap[k]?) := hide (fun k h1 h2 h3 => by
      have e1 := (unhide K0).size
      have e2 := unhide R4
      rw [ho3 k (by omega) h3, unhide R3 k (by omega) h2, (unhide K0).block k h1])
    have S5 : Hid (w.heap.size ≤ z3.heap.size) := hide (by have := (unhide K0).size; have := unhide R4; omega)
    clear hint3 hbel3 ho3 hsz3
    go_wp2
    go_ret2
    exact ⟨rfl, unhide S1, unhide S2, unhide S3, unhide S4, unhide S5⟩
set_option maxHeartbeats 4000000 in
set_option maxRecDepth 100000 in
theorem set_any (p px a : Nat) (b0 : Bool) (v0 : Value) (w : World) (hp : BoxAt3 w p b0 v0) (hx : IntAt w px a) (hpx : px ≠ p) (hla : a < B32 ^ 10000) :
    Calls Try.prog 77 #[.pointer (some ⟨p, 0, none⟩), .pointer (some ⟨px, 0, none⟩)] w fun e w' => e = .returned (.pointer (some ⟨p, 0, none⟩)) ∧ IntAt w' p a ∧ (∀ B, B ≤ p → Below B w w') ∧ (∀ k, k < w.heap.size → k ≠ p → w'.heap[k]? = w.heap[k]?) ∧ w.heap.size ≤ w'.heap.size := by
  obtain ⟨va, hbx, hva⟩ := hx
  have hplt := heap_lt hp.1
  have hxlt := heap_lt hbx.1
  have hS : ∀ w' : World, (∀ k, k < w.heap.size → k ≠ p → w'.heap[k]? = w.heap[k]?) → w'.cell? ⟨px, 0, none⟩ = some (.bool false) ∧ w'.cell? ⟨px, 1, none⟩ = some va := fun w' ho =>
    ⟨cell_heapB hbx.cells.1 (ho px hxlt hpx), cell_heapB hbx.cells.2 (ho px hxlt hpx)⟩
  have N1 := hide (fun w' (hb : Below w.heap.size w w') => twin_any a va w' (hva.below hb) hla)
  have N2 := hide (fun w' (hb : Below w.heap.size w w') v (hv : BigV w' v a) => give_any p a b0 v0 v w' (hp.below hb) hv)
  have hs0 := hS w (fun _ _ _ => rfl)
  obtain ⟨_, x1, x2, x3, hxv⟩ := hbx
  subst hxv
  have HS := hide hS
  clear hla hva hp hS
  go_enter Try.func77, Try.ntmps77
  go_wp2_with fail
  go_region_held3 (fun w' => w'.cell? ⟨px, 0, none⟩ = some (.bool false) ∧ w'.cell? ⟨px, 1, none⟩ = some (.slice x1 x2 x3))
    (first
      | exact hs2
      | exact hs1
      | exact hs0)
    ((first
      | (have hq := k1; go_at_call 55; refine (unhide N2 _ k0 _ h1).mono ?_; rintro e y2 ⟨rfl, hint, hbel, ho, hsz⟩; have hs2 := unhide HS y2 (fun k hk1 hk2 => (ho k (by have := k0.size; omega) hk2).trans (k0.block k hk1)))
      | (go_at_call 88; refine (unhide N1 _ (Below.refl _ _).drew).mono ?_; rintro e y1 ⟨⟨v1, rfl, h1⟩, k1⟩; have k0 : Below w.heap.size w y1 := (Below.refl _ _).drew.trans k1; have hs1 := unhide HS y1 (fun k hk1 hk2 => k0.block k hk1))))
  all_goals
    have R2 : Hid (∀ B, B ≤ p → Below B w y2) := hide (fun B hB' => (k0.mono (by omega)).trans (hbel B hB'))
    have R3 : Hid (∀ k, k < w.heap.size → k ≠ p → y2.heap[k]? = w.heap[k]?) := hide (fun k hk1 hk2 => (ho k (by have := k0.size; omega) hk2).trans (k0.block k hk1))
    have R4 : Hid (w.heap.size ≤ y2.heap.size) := hide (by have := k0.size; omega)
    have R1 := hide hint
    clear hint hbel ho hsz k0 k1 h1
    go_wp2
    go_ret
    exact ⟨rfl, unhide R1, unhide R2, unhide R3, unhide R4⟩
end Go.Proofs.Ytckkhpegimkefaa
