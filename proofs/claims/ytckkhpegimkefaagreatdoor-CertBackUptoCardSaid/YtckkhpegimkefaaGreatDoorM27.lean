/- The big numbers themselves: QuoRem, Set, DivMod, Div by a number of one word. -/
import Derived.Test.YtckkhpegimkefaaGreatDoorM20
import Derived.Deep.RegionLaw
import Derived.Deep.OwnRows
namespace Go.Proofs.YtckkhpegimkefaaGreatDoor
open Go.RowKit
set_option linter.unusedVariables false

/-- a number stays while another one's box is written -/
theorem IntAt.other {w w' : World} {p n r : Nat} {b : Bool} {v0 : Value} (h : IntAt w p n) (hr : BoxAt3 w r b v0) (hpr : p ≠ r) (hs : w.heap.size ≤ w'.heap.size) (ho : ∀ k, k < w.heap.size → k ≠ r → w'.heap[k]? = w.heap[k]?) : IntAt w' p n := by
  obtain ⟨v, h1, h2⟩ := h
  exact ⟨v, ⟨(ho p (heap_lt h1.1) hpr).trans h1.1, h1.2⟩, h2.box hr hs ho⟩
theorem IntAt.lt {w : World} {p n : Nat} (h : IntAt w p n) : p < w.heap.size := by
  obtain ⟨v, h1, h2⟩ := h
  exact heap_lt h1.1
theorem IntAt.boxed {w : World} {p n : Nat} (h : IntAt w p n) : ∃ v, BoxAt3 w p false v := by
  obtain ⟨v, h1, h2⟩ := h
  exact ⟨v, h1⟩
set_option maxHeartbeats 4000000 in
set_option maxRecDepth 100000 in
theorem quoRem_any (p px py pr a b : Nat) (b0 br : Bool) (v0 vr : Value) (w : World) (hp : BoxAt3 w p b0 v0) (hr : BoxAt3 w pr br vr) (hx : IntAt w px a) (hy : IntAt w py b) (hpx : px ≠ p) (hpy : py ≠ p) (hpr : pr ≠ p) (hla : a < B32 ^ 10000) (hb0 : b ≠ 0) (hbB : b < 4294967296) :
    Calls Tryz.prog 118 #[.pointer (some ⟨p, 0, none⟩), .pointer (some ⟨px, 0, none⟩), .pointer (some ⟨py, 0, none⟩), .pointer (some ⟨pr, 0, none⟩)] w fun e w' => e = .returned (.tuple #[.pointer (some ⟨p, 0, none⟩), .pointer (some ⟨pr, 0, none⟩)]) ∧ IntAt w' p (a / b) ∧ IntAt w' pr (a % b) ∧ (∀ B, B ≤ p → B ≤ pr → Below B w w') ∧ (∀ k, k < w.heap.size → k ≠ p → k ≠ pr → w'.heap[k]? = w.heap[k]?) ∧ w.heap.size ≤ w'.heap.size := by
  obtain ⟨va, hbx, hva⟩ := hx
  obtain ⟨vb, hby, hvb⟩ := hy
  have N1 := hide (fun w' (k : Below w.heap.size w w') => div_one a b va vb w' (hva.below k) (hvb.below k) hla hb0 hbB)
  obtain ⟨c0, c1⟩ := hbx.cells
  obtain ⟨d0, d1⟩ := hby.cells
  have HP := hide hp; have HR := hide hr
  obtain ⟨x1, x2, x3, hv1⟩ := slice_of hva
  obtain ⟨y1, y2, y3, hv2⟩ := slice_of hvb
  subst hv1 hv2
  generalize a / b = q at *
  generalize a % b = r at *
  clear hva hvb hbx hby hla hb0 hbB hp hr
  go_enter Tryz.func118, Tryz.ntmps118
  go_wp2_with fail
  go_quiet (fail)
  go_wp2_with fail
  go_region_held3 (fun w' => w'.cell? ⟨px, 1, none⟩ = some (.slice x1 x2 x3) ∧ w'.cell? ⟨py, 1, none⟩ = some (.slice y1 y2 y3))
    (first
      | exact hs1
      | exact ⟨c1, d1⟩)
    ((first
      | (go_at_call 131; refine (unhide N1 _ (below_drewN (Below.refl _ _) _).drew).mono ?_; rintro e z1 ⟨⟨vq, vt, rfl, hq, ht⟩, k1⟩; have k0 : Below w.heap.size w z1 := (below_drewN (Below.refl _ _) _).drew.trans k1; have hs1 : z1.cell? ⟨px, 1, none⟩ = some (.slice x1 x2 x3) ∧ z1.cell? ⟨py, 1, none⟩ = some (.slice y1 y2 y3) := ⟨keep_cellB k0 c1, keep_cellB k0 d1⟩)))
  all_goals
    have hp1 := (unhide HP).below k0
    have hr1 := (unhide HR).below k0
    have N2 := hide (give_any p q b0 v0 vq z1 hp1 hq)
    have N3 := hide (fun (z2 : World) (hs : z1.heap.size ≤ z2.heap.size) (ho : ∀ k, k < z1.heap.size → k ≠ p → z2.heap[k]? = z1.heap[k]?) => give_any pr r br vr vt z2 ⟨(ho pr (heap_lt hr1.1) hpr).trans hr1.1, hr1.2⟩ (ht.box hp1 hs ho))
    have HR1 := hide hr1
    obtain ⟨q1, q2, q3, hvq⟩ := slice_of hq
    obtain ⟨t1, t2, t3, hvt⟩ := slice_of ht
    subst hvq hvt
    have K0 := hide k0
    clear hq ht k0 k1 hs1 c0 c1 d0 d1 hp1 hr1
    go_wp2_with fail
    refine (unhide N2).mono ?_
    rintro e z2 ⟨rfl, hint, hbel, ho, hsz⟩
    have N4 := hide (unhide N3 z2 (by omega) ho)
    have hr2 : BoxAt3 z2 pr br vr := ⟨(ho pr (heap_lt (unhide HR1).1) hpr).trans (unhide HR1).1, (unhide HR1).2⟩
    have R1 := hide hint; have R2 := hide hbel; have R3 := hide ho; have R4 := hide hsz; have R5 := hide hr2
    clear hint hbel ho hsz N3 hr2
    go_wp2_with fail
    refine (unhide N4).mono ?_
    rintro e z3 ⟨rfl, hint3, hbel3, ho3, hsz3⟩
    have S1 := hide ((unhide R1).other (unhide R5) (Ne.symm hpr) (by omega) ho3)
    have S2 := hide hint3
    have S3 : Hid (∀ B, B ≤ p → B ≤ pr → Below B w z3) := hide (fun B h1 h2 => ((unhide K0).mono (by have := heap_lt (unhide HP).1; omega)).trans ((unhide R2 B h1).trans (hbel3 B h2)))
    have S4 : Hid (∀ k, k < w.heap.size → k ≠ p → k ≠ pr → z3.heap[k]? = w.heap[k]?) := hide (fun k h1 h2 h3 => by
      have e1 := (unhide K0).size
      have e2 := unhide R4
      rw [ho3 k (by omega) h3, unhide R3 k (by omega) h2, (unhide K0).block k h1])
    have S5 : Hid (w.heap.size ≤ z3.heap.size) := hide (by have := (unhide K0).size; have := unhide R4; omega)
    clear hint3 hbel3 ho3 hsz3
    go_wp2
    go_ret2
    exact ⟨rfl, unhide S1, unhide S2, unhide S3, unhide S4, unhide S5⟩
set_option maxHeartbeats 4000000 in
set_option maxRecDepth 100000 in
theorem set_any (p px a : Nat) (b0 : Bool) (v0 : Value) (w : World) (hp : BoxAt3 w p b0 v0) (hx : IntAt w px a) (hpx : px ≠ p) (hla : a < B32 ^ 10000) :
    Calls Tryz.prog 117 #[.pointer (some ⟨p, 0, none⟩), .pointer (some ⟨px, 0, none⟩)] w fun e w' => e = .returned (.pointer (some ⟨p, 0, none⟩)) ∧ IntAt w' p a ∧ (∀ B, B ≤ p → Below B w w') ∧ (∀ k, k < w.heap.size → k ≠ p → w'.heap[k]? = w.heap[k]?) ∧ w.heap.size ≤ w'.heap.size := by
  obtain ⟨va, hbx, hva⟩ := hx
  have hplt := heap_lt hp.1
  have hxlt := heap_lt hbx.1
  have hS : ∀ w' : World, (∀ k, k < w.heap.size → k ≠ p → w'.heap[k]? = w.heap[k]?) → w'.cell? ⟨px, 0, none⟩ = some (.bool false) ∧ w'.cell? ⟨px, 1, none⟩ = some va := fun w' ho =>
    ⟨cell_heapB hbx.cells.1 (ho px hxlt hpx), cell_heapB hbx.cells.2 (ho px hxlt hpx)⟩
  have N1 := hide (fun w' (hb : Below w.heap.size w w') => twin_any a va w' (hva.below hb) hla)
  have N2 := hide (fun w' (hb : Below w.heap.size w w') v (hv : BigV w' v a) => give_any p a b0 v0 v w' (hp.below hb) hv)
  have hs0 := hS w (fun _ _ _ => rfl)
  obtain ⟨_, x1, x2, x3, hxv⟩ := hbx
  subst hxv
  have HS := hide hS
  clear hla hva hp hS
  go_enter Tryz.func117, Tryz.ntmps117
  go_wp2_with fail
  go_region_held3 (fun w' => w'.cell? ⟨px, 0, none⟩ = some (.bool false) ∧ w'.cell? ⟨px, 1, none⟩ = some (.slice x1 x2 x3))
    (first
      | exact hs2
      | exact hs1
      | exact hs0)
    ((first
      | (have hq := k1; go_at_call 93; refine (unhide N2 _ k0 _ h1).mono ?_; rintro e y2 ⟨rfl, hint, hbel, ho, hsz⟩; have hs2 := unhide HS y2 (fun k hk1 hk2 => (ho k (by have := k0.size; omega) hk2).trans (k0.block k hk1)))
      | (go_at_call 130; refine (unhide N1 _ (Below.refl _ _).drew).mono ?_; rintro e y1 ⟨⟨v1, rfl, h1⟩, k1⟩; have k0 : Below w.heap.size w y1 := (Below.refl _ _).drew.trans k1; have hs1 := unhide HS y1 (fun k hk1 hk2 => k0.block k hk1))))
  all_goals
    have R2 : Hid (∀ B, B ≤ p → Below B w y2) := hide (fun B hB' => (k0.mono (by omega)).trans (hbel B hB'))
    have R3 : Hid (∀ k, k < w.heap.size → k ≠ p → y2.heap[k]? = w.heap[k]?) := hide (fun k hk1 hk2 => (ho k (by have := k0.size; omega) hk2).trans (k0.block k hk1))
    have R4 : Hid (w.heap.size ≤ y2.heap.size) := hide (by have := k0.size; omega)
    have R1 := hide hint
    clear hint hbel ho hsz k0 k1 h1
    go_wp2
    go_ret
    exact ⟨rfl, unhide R1, unhide R2, unhide R3, unhide R4⟩
end Go.Proofs.YtckkhpegimkefaaGreatDoor
namespace Go.Proofs.YtckkhpegimkefaaGreatDoor
open Go.RowKit
set_option linter.unusedVariables false

set_option maxHeartbeats 1000000 in
theorem sub_none (ao bo : Option Addr) (ca cb : Nat) (w : World) :
    Calls Tryz.prog 96 #[.slice ao 0 ca, .slice bo 0 cb] w fun e w' => (∃ v, e = .returned v ∧ BigV w' v 0) ∧ Below w.heap.size w w' := by
  have hmk := run_make_row' (P := Tryz.prog) 99 119 (.int .u32 0) 4 Tryz.underlying99 infoU32 rfl .i64 .i64 0 (by omega) (by omega)
  have n1 := fun (w' : World) (g : Nat) => trim_any [] g 0 0 w' (.inl rfl) okV_nil (by simp) (by simp) (by simp)
  have N1 : Hid (∀ (w' : World) (g : Nat), Calls Tryz.prog 121 #[.slice (some ⟨g, 0, none⟩) 0 0] w' fun e w'' => e = .returned (.slice (some ⟨g, 0, none⟩) 0 0) ∧ w'' = w') := hide (fun w' g => by
    have := n1 w' g
    rw [show natV [] = 0 from rfl, dig_zero] at this
    exact this)
  clear n1
  have hbe := (Below.refl w.heap.size w).alloc (Nat.le_refl _) (.cells (madeCells #[.int .u32 0] 0) 119)
  have HBE := hide hbe
  clear hbe
  simp only [Int.natCast_zero] at hmk
  go_enter Tryz.func96, Tryz.ntmps96
  go_wp2
  go_loopw [7] (fun i wr => i = .int .i64 0 ∧ wr = w.alloc (.cells (madeCells #[.int .u32 0] 0) 119)) (fun _ _ => 0)
  case atStart => exact ⟨rfl, rfl⟩
  case round =>
    obtain ⟨rfl, hwr⟩ := hrel
    have HW := hide hwr
    clear hwr
    go_wp2_with fail
    refine (unhide N1 _ _).mono ?_
    rintro e w2 ⟨rfl, hw2⟩
    subst hw2
    go_wp2
    go_ret
    exact ⟨⟨_, rfl, _, 0, by rw [dig_zero]; rfl, .inl dig_zero⟩, by rw [unhide HW]; exact unhide HBE⟩
theorem sub_all (a b : Nat) (va vb : Value) (w : World) (ha : BigV w va a) (hb : BigV w vb b) (hla : a < B32 ^ 10000) (hle : b ≤ a) :
    Calls Tryz.prog 96 #[va, vb] w fun e w' => (∃ v, e = .returned v ∧ BigV w' v (a - b)) ∧ Below w.heap.size w w' := by
  by_cases h0 : a = 0
  · have hb0 : b = 0 := by omega
    subst h0
    subst hb0
    obtain ⟨ao, ca, rfl, _⟩ := ha
    obtain ⟨bo, cb, rfl, _⟩ := hb
    rw [dig_zero]
    exact sub_none ao bo ca cb w
  · exact sub_any a b va vb w ha hb hla hle h0
set_option maxHeartbeats 1000000 in
theorem sum_subA (a b : Nat) (va vb : Value) (w : World) (ha : BigV w va a) (hb : BigV w vb b) (hla : a < B32 ^ 10000) (hlb : b < B32 ^ 10000) (hle : b ≤ a) :
    Calls Tryz.prog 132 #[.bool false, va, .bool true, vb] w fun e w' => (∃ v, e = .returned (.tuple #[.bool false, v]) ∧ BigV w' v (a - b)) ∧ Below w.heap.size w w' := by
  have N0 := hide (cmp_any a b va vb w ha hb hla hlb)
  have N1 := hide (fun w' (k : Below w.heap.size w w') => sub_all a b va vb w' (ha.below k) (hb.below k) hla hle)
  obtain ⟨x1, x2, x3, hx⟩ := slice_of ha
  obtain ⟨y1, y2, y3, hy⟩ := slice_of hb
  have ho : 0 ≤ ordI a b := by unfold ordI; rw [if_neg (by omega)]; split <;> omega
  clear ha hb hla hlb hle
  subst hx hy
  generalize ordI a b = od at *
  go_enter Tryz.func132, Tryz.ntmps132
  go_wp2_with fail
  refine (unhide N0).mono ?_
  rintro e w0 ⟨rfl, k0⟩
  go_wp2_with fail
  refine (unhide N1 _ k0).mono ?_
  rintro e w1 ⟨⟨v, rfl, hv⟩, k⟩
  have HV := hide hv; have HK := hide (ext_callB k0 k)
  clear hv k0 k
  go_wp2
  go_ret2
  exact ⟨⟨v, rfl, unhide HV⟩, unhide HK⟩
set_option maxHeartbeats 4000000 in
set_option maxRecDepth 100000 in
theorem bigSubA_any (p px py a b : Nat) (b0 : Bool) (v0 : Value) (w : World) (hp : BoxAt3 w p b0 v0) (hx : IntAt w px a) (hy : IntAt w py b) (hpx : px ≠ p) (hpy : py ≠ p) (hla : a < B32 ^ 10000) (hlb : b < B32 ^ 10000) (hle : b ≤ a) :
    Calls Tryz.prog 120 #[.pointer (some ⟨p, 0, none⟩), .pointer (some ⟨px, 0, none⟩), .pointer (some ⟨py, 0, none⟩)] w fun e w' => e = .returned (.pointer (some ⟨p, 0, none⟩)) ∧ IntAt w' p (a - b) ∧ (∀ B, B ≤ p → Below B w w') ∧ (∀ k, k < w.heap.size → k ≠ p → w'.heap[k]? = w.heap[k]?) ∧ w.heap.size ≤ w'.heap.size := by
  obtain ⟨va, hbx, hva⟩ := hx
  obtain ⟨vb, hby, hvb⟩ := hy
  have hplt := heap_lt hp.1
  have hxlt := heap_lt hbx.1
  have hylt := heap_lt hby.1
  have hS : ∀ w' : World, (∀ k, k < w.heap.size → k ≠ p → w'.heap[k]? = w.heap[k]?) → w'.cell? ⟨px, 0, none⟩ = some (.bool false) ∧ w'.cell? ⟨px, 1, none⟩ = some va ∧ w'.cell? ⟨py, 0, none⟩ = some (.bool false) ∧ w'.cell? ⟨py, 1, none⟩ = some vb := fun w' ho =>
    ⟨cell_heapB hbx.cells.1 (ho px hxlt hpx), cell_heapB hbx.cells.2 (ho px hxlt hpx), cell_heapB hby.cells.1 (ho py hylt hpy), cell_heapB hby.cells.2 (ho py hylt hpy)⟩
  have N1 := hide (fun w' (hb : Below w.heap.size w w') => sum_subA a b va vb w' (hva.below hb) (hvb.below hb) hla hlb hle)
  have N2 := hide (fun w' (hb : Below w.heap.size w w') v (hv : BigV w' v (a - b)) => give_any p (a - b) b0 v0 v w' (hp.below hb) hv)
  have hs0 := hS w (fun _ _ _ => rfl)
  obtain ⟨_, x1, x2, x3, hxv⟩ := hbx
  obtain ⟨_, y1, y2, y3, hyv⟩ := hby
  subst hxv hyv
  have HS := hide hS
  clear hla hlb hle hva hvb hp hS
  go_enter Tryz.func120, Tryz.ntmps120
  go_wp2_with fail
  go_region_held3 (fun w' => w'.cell? ⟨px, 0, none⟩ = some (.bool false) ∧ w'.cell? ⟨px, 1, none⟩ = some (.slice x1 x2 x3) ∧ w'.cell? ⟨py, 0, none⟩ = some (.bool false) ∧ w'.cell? ⟨py, 1, none⟩ = some (.slice y1 y2 y3))
    (first
      | exact hs2
      | exact hs1
      | exact hs0)
    ((first
      | (have hq := k1; go_at_call 93; refine (unhide N2 _ k0 _ h1).mono ?_; rintro e y2 ⟨rfl, hint, hbel, ho, hsz⟩; have hs2 := unhide HS y2 (fun k hk1 hk2 => (ho k (by have := k0.size; omega) hk2).trans (k0.block k hk1)))
      | (go_at_call 132; refine (unhide N1 _ (Below.refl _ _).drew).mono ?_; rintro e y1 ⟨⟨v1, rfl, h1⟩, k1⟩; have k0 : Below w.heap.size w y1 := (Below.refl _ _).drew.trans k1; have hs1 := unhide HS y1 (fun k hk1 hk2 => k0.block k hk1))))
  all_goals
    have R2 : Hid (∀ B, B ≤ p → Below B w y2) := hide (fun B hB' => (k0.mono (by omega)).trans (hbel B hB'))
    have R3 : Hid (∀ k, k < w.heap.size → k ≠ p → y2.heap[k]? = w.heap[k]?) := hide (fun k hk1 hk2 => (ho k (by have := k0.size; omega) hk2).trans (k0.block k hk1))
    have R4 : Hid (w.heap.size ≤ y2.heap.size) := hide (by have := k0.size; omega)
    have R1 := hide hint
    clear hint hbel ho hsz k0 k1 h1
    go_wp2
    go_ret
    exact ⟨rfl, unhide R1, unhide R2, unhide R3, unhide R4⟩
set_option maxHeartbeats 2000000 in
theorem divMod_any (p px py pr a b : Nat) (b0 br : Bool) (v0 vr : Value) (w : World) (hp : BoxAt3 w p b0 v0) (hr : BoxAt3 w pr br vr) (hx : IntAt w px a) (hy : IntAt w py b) (hpx : px ≠ p) (hpy : py ≠ p) (hpr : pr ≠ p) (hla : a < B32 ^ 10000) (hb0 : b ≠ 0) (hbB : b < 4294967296) :
    Calls Tryz.prog 92 #[.pointer (some ⟨p, 0, none⟩), .pointer (some ⟨px, 0, none⟩), .pointer (some ⟨py, 0, none⟩), .pointer (some ⟨pr, 0, none⟩)] w fun e w' => e = .returned (.tuple #[.pointer (some ⟨p, 0, none⟩), .pointer (some ⟨pr, 0, none⟩)]) ∧ IntAt w' p (a / b) ∧ IntAt w' pr (a % b) ∧ (∀ B, B ≤ p → B ≤ pr → Below B w w') ∧ (∀ k, k < w.heap.size → k ≠ p → k ≠ pr → w'.heap[k]? = w.heap[k]?) ∧ w.heap.size ≤ w'.heap.size := by
  have hlb : b < B32 ^ 10000 := small_lt b hbB 10000 (by decide)
  have hb1 := (Below.refl w.heap.size w).alloc (Nat.le_refl _) (.cells #[.bool false, .slice none 0 0] 101)
  have N1 := hide (set_any w.heap.size py b false (.slice none 0 0) _ (box_new w) (hy.below hb1) (by have := hy.lt; omega) hlb)
  have N2 := hide (fun w' (k : Below w.heap.size w w') => quoRem_any p px py pr a b b0 br v0 vr w' (hp.below k) (hr.below k) (hx.below k) (hy.below k) hpx hpy hpr hla hb0 hbB)
  have HB1 := hide hb1
  have hplt := heap_lt hp.1
  generalize a / b = q at *
  generalize a % b = r at *
  clear hp hr hx hy hla hb0 hbB hlb hb1
  go_enter Tryz.func92, Tryz.ntmps92
  go_wp2_with fail
  refine (unhide N1).mono ?_
  rintro e w1 ⟨rfl, hint, hbel, ho, hsz⟩
  have k1 : Below w.heap.size w w1 := (unhide HB1).trans (hbel _ (Nat.le_refl _))
  have K1 := hide k1
  have N3 := hide (unhide N2 _ k1)
  clear hint hbel ho hsz k1 N1 N2 HB1
  go_wp2_with fail
  refine (unhide N3).mono ?_
  rintro e w2 ⟨rfl, h1, h2, h3, h4, h5⟩
  obtain ⟨v2, hbx2⟩ := h2.boxed
  obtain ⟨c0, c1⟩ := hbx2.cells
  have R1 := hide h1; have R2 := hide h2
  have R3 : Hid (∀ B, B ≤ p → B ≤ pr → Below B w w2) := hide (fun B e1 e2 => ((unhide K1).mono (by omega)).trans (h3 B e1 e2))
  have R4 : Hid (∀ k, k < w.heap.size → k ≠ p → k ≠ pr → w2.heap[k]? = w.heap[k]?) := hide (fun k e1 e2 e3 => (h4 k (by have := (unhide K1).size; omega) e2 e3).trans ((unhide K1).block k e1))
  have R5 : Hid (w.heap.size ≤ w2.heap.size) := hide (by have := (unhide K1).size; omega)
  clear h1 h2 h3 h4 h5 hbx2 c1 N3 K1
  go_wp2
  go_ret2
  exact ⟨rfl, unhide R1, unhide R2, unhide R3, unhide R4, unhide R5⟩
end Go.Proofs.YtckkhpegimkefaaGreatDoor
