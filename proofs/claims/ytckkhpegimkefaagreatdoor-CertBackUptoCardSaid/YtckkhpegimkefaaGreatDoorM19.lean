/- The big numbers themselves: Mul. -/
import Derived.Test.YtckkhpegimkefaaGreatDoorM18
namespace Go.Proofs.YtckkhpegimkefaaGreatDoor
open Go.RowKit
set_option linter.unusedVariables false

theorem cell_heapB {w w' : World} {a : Addr} {v : Value} (h : w.cell? a = some v) (hh : w'.heap[a.block]? = w.heap[a.block]?) : w'.cell? a = some v := by
  unfold World.cell? at *
  rw [hh]
  exact h
theorem BoxAt3.cells {w : World} {p : Nat} {b : Bool} {v : Value} (h : BoxAt3 w p b v) : w.cell? ⟨p, 0, none⟩ = some (.bool b) ∧ w.cell? ⟨p, 1, none⟩ = some v :=
  ⟨by rw [cell_of_row _ _ _ _ _ _ h.1]; rfl, by rw [cell_of_row _ _ _ _ _ _ h.1]; rfl⟩
set_option maxHeartbeats 4000000 in
set_option maxRecDepth 100000 in
theorem bigMul_any (p px py a b : Nat) (b0 : Bool) (v0 : Value) (w : World) (hp : BoxAt3 w p b0 v0) (hx : IntAt w px a) (hy : IntAt w py b) (hpx : px ≠ p) (hpy : py ≠ p) (hla : a < B32 ^ 5000) (hlb : b < B32 ^ 5000) :
    Calls Tryz.prog 65 #[.pointer (some ⟨p, 0, none⟩), .pointer (some ⟨px, 0, none⟩), .pointer (some ⟨py, 0, none⟩)] w fun e w' => e = .returned (.pointer (some ⟨p, 0, none⟩)) ∧ IntAt w' p (a * b) ∧ (∀ B, B ≤ p → Below B w w') ∧ (∀ k, k < w.heap.size → k ≠ p → w'.heap[k]? = w.heap[k]?) ∧ w.heap.size ≤ w'.heap.size := by
  obtain ⟨va, hbx, hva⟩ := hx
  obtain ⟨vb, hby, hvb⟩ := hy
  have hplt := heap_lt hp.1
  have hxlt := heap_lt hbx.1
  have hylt := heap_lt hby.1
  have hS : ∀ w' : World, (∀ k, k < w.heap.size → k ≠ p → w'.heap[k]? = w.heap[k]?) → w'.cell? ⟨px, 0, none⟩ = some (.bool false) ∧ w'.cell? ⟨px, 1, none⟩ = some va ∧ w'.cell? ⟨py, 0, none⟩ = some (.bool false) ∧ w'.cell? ⟨py, 1, none⟩ = some vb := fun w' ho =>
    ⟨cell_heapB hbx.cells.1 (ho px hxlt hpx), cell_heapB hbx.cells.2 (ho px hxlt hpx), cell_heapB hby.cells.1 (ho py hylt hpy), cell_heapB hby.cells.2 (ho py hylt hpy)⟩
  have N1 := hide (fun w' (hb : Below w.heap.size w w') => mul_any a b va vb w' (hva.below hb) (hvb.below hb) hla hlb)
  have N2 := hide (fun w' (hb : Below w.heap.size w w') v (hv : BigV w' v (a * b)) => give_any p (a * b) b0 v0 v w' (hp.below hb) hv)
  have hs0 := hS w (fun _ _ _ => rfl)
  obtain ⟨_, x1, x2, x3, hxv⟩ := hbx
  obtain ⟨_, y1, y2, y3, hyv⟩ := hby
  subst hxv hyv
  have HS := hide hS
  clear hla hlb hva hvb hp hS
  go_enter Tryz.func65, Tryz.ntmps65
  go_wp2_with fail
  go_region_held3 (fun w' => w'.cell? ⟨px, 0, none⟩ = some (.bool false) ∧ w'.cell? ⟨px, 1, none⟩ = some (.slice x1 x2 x3) ∧ w'.cell? ⟨py, 0, none⟩ = some (.bool false) ∧ w'.cell? ⟨py, 1, none⟩ = some (.slice y1 y2 y3))
    (first
      | exact hs2
      | exact hs1
      | exact hs0)
    ((first
      | (have hq := k1; go_at_call 93; refine (unhide N2 _ k0 _ h1).mono ?_; rintro e y2 ⟨rfl, hint, hbel, ho, hsz⟩; have hs2 := unhide HS y2 (fun k hk1 hk2 => (ho k (by have := k0.size; omega) hk2).trans (k0.block k hk1)))
      | (go_at_call 94; refine (unhide N1 _ (Below.refl _ _).drew).mono ?_; rintro e y1 ⟨⟨v1, rfl, h1⟩, k1⟩; have k0 : Below w.heap.size w y1 := (Below.refl _ _).drew.trans k1; have hs1 := unhide HS y1 (fun k hk1 hk2 => k0.block k hk1))))
  all_goals
    have R2 : Hid (∀ B, B ≤ p → Below B w y2) := hide (fun B hB' => (k0.mono (by omega)).trans (hbel B hB'))
    have R3 : Hid (∀ k, k < w.heap.size → k ≠ p → y2.heap[k]? = w.heap[k]?) := hide (fun k hk1 hk2 => (ho k (by have := k0.size; omega) hk2).trans (k0.block k hk1))
    have R4 : Hid (w.heap.size ≤ y2.heap.size) := hide (by have := k0.size; omega)
    have R1 := hide hint
    clear hint hbel ho hsz k0 k1 h1
    go_wp2
    go_ret
    exact ⟨rfl, unhide R1, unhide R2, unhide R3, unhide R4⟩
end Go.Proofs.YtckkhpegimkefaaGreatDoor
namespace Go.Proofs.YtckkhpegimkefaaGreatDoor
open Go.RowKit
set_option linter.unusedVariables false

theorem slice_of {w : World} {v : Value} {n : Nat} (h : BigV w v n) : ∃ ao m cap, v = .slice ao m cap := by
  obtain ⟨ao, cap, hv, _⟩ := h
  exact ⟨_, _, _, hv⟩
set_option maxHeartbeats 1000000 in
theorem sum_add (a b : Nat) (va vb : Value) (w : World) (ha : BigV w va a) (hb : BigV w vb b) (hla : a < B32 ^ 10000) (hlb : b < B32 ^ 10000) :
    Calls Tryz.prog 132 #[.bool false, va, .bool false, vb] w fun e w' => (∃ v, e = .returned (.tuple #[.bool false, v]) ∧ BigV w' v (a + b)) ∧ Below w.heap.size w w' := by
  have N1 := hide (add_any a b va vb w ha hb hla hlb)
  obtain ⟨x1, x2, x3, hx⟩ := slice_of ha
  obtain ⟨y1, y2, y3, hy⟩ := slice_of hb
  clear ha hb hla hlb
  subst hx hy
  go_enter Tryz.func132, Tryz.ntmps132
  go_wp2_with fail
  refine (unhide N1).mono ?_
  rintro e w1 ⟨⟨v, rfl, hv⟩, k⟩
  have HV := hide hv
  clear hv
  go_wp2
  go_ret2
  exact ⟨⟨v, rfl, unhide HV⟩, k⟩
set_option maxHeartbeats 1000000 in
theorem sum_sub (a b : Nat) (va vb : Value) (w : World) (ha : BigV w va a) (hb : BigV w vb b) (hla : a < B32 ^ 10000) (hlb : b < B32 ^ 10000) (hle : b ≤ a) (ha0 : a ≠ 0) :
    Calls Tryz.prog 132 #[.bool false, va, .bool true, vb] w fun e w' => (∃ v, e = .returned (.tuple #[.bool false, v]) ∧ BigV w' v (a - b)) ∧ Below w.heap.size w w' := by
  have N0 := hide (cmp_any a b va vb w ha hb hla hlb)
  have N1 := hide (fun w' (k : Below w.heap.size w w') => sub_any a b va vb w' (ha.below k) (hb.below k) hla hle ha0)
  obtain ⟨x1, x2, x3, hx⟩ := slice_of ha
  obtain ⟨y1, y2, y3, hy⟩ := slice_of hb
  have ho : 0 ≤ ordI a b := by unfold ordI; rw [if_neg (by omega)]; split <;> omega
  clear ha hb hla hlb hle ha0
  subst hx hy
  generalize ordI a b = od at *
  go_enter Tryz.func132, Tryz.ntmps132
  go_wp2_with fail
  refine (unhide N0).mono ?_
  rintro e w0 ⟨rfl, k0⟩
  go_wp2_with fail
  refine (unhide N1 _ k0).mono ?_
  rintro e w1 ⟨⟨v, rfl, hv⟩, k⟩
  have HV := hide hv; have HK := hide (ext_callB k0 k)
  clear hv k0 k
  go_wp2
  go_ret2
  exact ⟨⟨v, rfl, unhide HV⟩, unhide HK⟩
set_option maxHeartbeats 4000000 in
set_option maxRecDepth 100000 in
theorem bigAdd_any (p px py a b : Nat) (b0 : Bool) (v0 : Value) (w : World) (hp : BoxAt3 w p b0 v0) (hx : IntAt w px a) (hy : IntAt w py b) (hpx : px ≠ p) (hpy : py ≠ p) (hla : a < B32 ^ 10000) (hlb : b < B32 ^ 10000) :
    Calls Tryz.prog 119 #[.pointer (some ⟨p, 0, none⟩), .pointer (some ⟨px, 0, none⟩), .pointer (some ⟨py, 0, none⟩)] w fun e w' => e = .returned (.pointer (some ⟨p, 0, none⟩)) ∧ IntAt w' p (a + b) ∧ (∀ B, B ≤ p → Below B w w') ∧ (∀ k, k < w.heap.size → k ≠ p → w'.heap[k]? = w.heap[k]?) ∧ w.heap.size ≤ w'.heap.size := by
  obtain ⟨va, hbx, hva⟩ := hx
  obtain ⟨vb, hby, hvb⟩ := hy
  have hplt := heap_lt hp.1
  have hxlt := heap_lt hbx.1
  have hylt := heap_lt hby.1
  have hS : ∀ w' : World, (∀ k, k < w.heap.size → k ≠ p → w'.heap[k]? = w.heap[k]?) → w'.cell? ⟨px, 0, none⟩ = some (.bool false) ∧ w'.cell? ⟨px, 1, none⟩ = some va ∧ w'.cell? ⟨py, 0, none⟩ = some (.bool false) ∧ w'.cell? ⟨py, 1, none⟩ = some vb := fun w' ho =>
    ⟨cell_heapB hbx.cells.1 (ho px hxlt hpx), cell_heapB hbx.cells.2 (ho px hxlt hpx), cell_heapB hby.cells.1 (ho py hylt hpy), cell_heapB hby.cells.2 (ho py hylt hpy)⟩
  have N1 := hide (fun w' (hb : Below w.heap.size w w') => sum_add a b va vb w' (hva.below hb) (hvb.below hb) hla hlb)
  have N2 := hide (fun w' (hb : Below w.heap.size w w') v (hv : BigV w' v (a + b)) => give_any p (a + b) b0 v0 v w' (hp.below hb) hv)
  have hs0 := hS w (fun _ _ _ => rfl)
  obtain ⟨_, x1, x2, x3, hxv⟩ := hbx
  obtain ⟨_, y1, y2, y3, hyv⟩ := hby
  subst hxv hyv
  have HS := hide hS
  clear hla hlb hva hvb hp hS
  go_enter Tryz.func119, Tryz.ntmps119
  go_wp2_with fail
  go_region_held3 (fun w' => w'.cell? ⟨px, 0, none⟩ = some (.bool false) ∧ w'.cell? ⟨px, 1, none⟩ = some (.slice x1 x2 x3) ∧ w'.cell? ⟨py, 0, none⟩ = some (.bool false) ∧ w'.cell? ⟨py, 1, none⟩ = some (.slice y1 y2 y3))
    (first
      | exact hs2
      | exact hs1
      | exact hs0)
    ((first
      | (have hq := k1; go_at_call 93; refine (unhide N2 _ k0 _ h1).mono ?_; rintro e y2 ⟨rfl, hint, hbel, ho, hsz⟩; have hs2 := unhide HS y2 (fun k hk1 hk2 => (ho k (by have := k0.size; omega) hk2).trans (k0.block k hk1)))
      | (go_at_call 132; refine (unhide N1 _ (Below.refl _ _).drew).mono ?_; rintro e y1 ⟨⟨v1, rfl, h1⟩, k1⟩; have k0 : Below w.heap.size w y1 := (Below.refl _ _).drew.trans k1; have hs1 := unhide HS y1 (fun k hk1 hk2 => k0.block k hk1))))
  all_goals
    have R2 : Hid (∀ B, B ≤ p → Below B w y2) := hide (fun B hB' => (k0.mono (by omega)).trans (hbel B hB'))
    have R3 : Hid (∀ k, k < w.heap.size → k ≠ p → y2.heap[k]? = w.heap[k]?) := hide (fun k hk1 hk2 => (ho k (by have := k0.size; omega) hk2).trans (k0.block k hk1))
    have R4 : Hid (w.heap.size ≤ y2.heap.size) := hide (by have := k0.size; omega)
    have R1 := hide hint
    clear hint hbel ho hsz k0 k1 h1
    go_wp2
    go_ret
    exact ⟨rfl, unhide R1, unhide R2, unhide R3, unhide R4⟩
set_option maxHeartbeats 4000000 in
set_option maxRecDepth 100000 in
theorem bigSub_any (p px py a b : Nat) (b0 : Bool) (v0 : Value) (w : World) (hp : BoxAt3 w p b0 v0) (hx : IntAt w px a) (hy : IntAt w py b) (hpx : px ≠ p) (hpy : py ≠ p) (hla : a < B32 ^ 10000) (hlb : b < B32 ^ 10000) (hle : b ≤ a) (ha0 : a ≠ 0) :
    Calls Tryz.prog 120 #[.pointer (some ⟨p, 0, none⟩), .pointer (some ⟨px, 0, none⟩), .pointer (some ⟨py, 0, none⟩)] w fun e w' => e = .returned (.pointer (some ⟨p, 0, none⟩)) ∧ IntAt w' p (a - b) ∧ (∀ B, B ≤ p → Below B w w') ∧ (∀ k, k < w.heap.size → k ≠ p → w'.heap[k]? = w.heap[k]?) ∧ w.heap.size ≤ w'.heap.size := by
  obtain ⟨va, hbx, hva⟩ := hx
  obtain ⟨vb, hby, hvb⟩ := hy
  have hplt := heap_lt hp.1
  have hxlt := heap_lt hbx.1
  have hylt := heap_lt hby.1
  have hS : ∀ w' : World, (∀ k, k < w.heap.size → k ≠ p → w'.heap[k]? = w.heap[k]?) → w'.cell? ⟨px, 0, none⟩ = some (.bool false) ∧ w'.cell? ⟨px, 1, none⟩ = some va ∧ w'.cell? ⟨py, 0, none⟩ = some (.bool false) ∧ w'.cell? ⟨py, 1, none⟩ = some vb := fun w' ho =>
    ⟨cell_heapB hbx.cells.1 (ho px hxlt hpx), cell_heapB hbx.cells.2 (ho px hxlt hpx), cell_heapB hby.cells.1 (ho py hylt hpy), cell_heapB hby.cells.2 (ho py hylt hpy)⟩
  have N1 := hide (fun w' (hb : Below w.heap.size w w') => sum_sub a b va vb w' (hva.below hb) (hvb.below hb) hla hlb hle ha0)
  have N2 := hide (fun w' (hb : Below w.heap.size w w') v (hv : BigV w' v (a - b)) => give_any p (a - b) b0 v0 v w' (hp.below hb) hv)
  have hs0 := hS w (fun _ _ _ => rfl)
  obtain ⟨_, x1, x2, x3, hxv⟩ := hbx
  obtain ⟨_, y1, y2, y3, hyv⟩ := hby
  subst hxv hyv
  have HS := hide hS
  clear hla hlb hle ha0 hva hvb hp hS
  go_enter Tryz.func120, Tryz.ntmps120
  go_wp2_with fail
  go_region_held3 (fun w' => w'.cell? ⟨px, 0, none⟩ = some (.bool false) ∧ w'.cell? ⟨px, 1, none⟩ = some (.slice x1 x2 x3) ∧ w'.cell? ⟨py, 0, none⟩ = some (.bool false) ∧ w'.cell? ⟨py, 1, none⟩ = some (.slice y1 y2 y3))
    (first
      | exact hs2
      | exact hs1
      | exact hs0)
    ((first
      | (have hq := k1; go_at_call 93; refine (unhide N2 _ k0 _ h1).mono ?_; rintro e y2 ⟨rfl, hint, hbel, ho, hsz⟩; have hs2 := unhide HS y2 (fun k hk1 hk2 => (ho k (by have := k0.size; omega) hk2).trans (k0.block k hk1)))
      | (go_at_call 132; refine (unhide N1 _ (Below.refl _ _).drew).mono ?_; rintro e y1 ⟨⟨v1, rfl, h1⟩, k1⟩; have k0 : Below w.heap.size w y1 := (Below.refl _ _).drew.trans k1; have hs1 := unhide HS y1 (fun k hk1 hk2 => k0.block k hk1))))
  all_goals
    have R2 : Hid (∀ B, B ≤ p → Below B w y2) := hide (fun B hB' => (k0.mono (by omega)).trans (hbel B hB'))
    have R3 : Hid (∀ k, k < w.heap.size → k ≠ p → y2.heap[k]? = w.heap[k]?) := hide (fun k hk1 hk2 => (ho k (by have := k0.size; omega) hk2).trans (k0.block k hk1))
    have R4 : Hid (w.heap.size ≤ y2.heap.size) := hide (by have := k0.size; omega)
    have R1 := hide hint
    clear hint hbel ho hsz k0 k1 h1
    go_wp2
    go_ret
    exact ⟨rfl, unhide R1, unhide R2, unhide R3, unhide R4⟩
end Go.Proofs.YtckkhpegimkefaaGreatDoor
namespace Go.Proofs.YtckkhpegimkefaaGreatDoor
open Go.RowKit
set_option linter.unusedVariables false

set_option maxHeartbeats 1000000 in
theorem setInt_any (p x : Nat) (b0 : Bool) (v0 : Value) (w : World) (hp : BoxAt3 w p b0 v0) (hx : (x : Int) ≤ 9223372036854775807) :
    Calls Tryz.prog 68 #[.pointer (some ⟨p, 0, none⟩), .int .i64 x] w fun e w' => e = .returned (.pointer (some ⟨p, 0, none⟩)) ∧ IntAt w' p x ∧ (∀ B, B ≤ p → Below B w w') ∧ (∀ k, k < w.heap.size → k ≠ p → w'.heap[k]? = w.heap[k]?) ∧ w.heap.size ≤ w'.heap.size := by
  have N1 := hide (words_any x (by omega) w)
  have N2 := hide (fun w' (hb : Below w.heap.size w w') v (hv : BigV w' v x) => give_any p x b0 v0 v w' (hp.below hb) hv)
  have hplt := heap_lt hp.1
  have wx : IntKind.u64.wrap (x : Int) = (x : Int) := wraps_u64 _ (by omega) (by omega)
  have hneg : ¬ (x : Int) < 0 := by omega
  clear hp
  go_enter Tryz.func68, Tryz.ntmps68
  go_wp2_with fail
  refine (unhide N1).mono ?_
  rintro e y1 ⟨⟨v1, rfl, h1⟩, k0⟩
  have N3 := hide (unhide N2 _ k0 _ h1)
  obtain ⟨x1, x2, x3, hv1⟩ := slice_of h1
  clear h1
  subst hv1
  go_wp2_with fail
  refine (unhide N3).mono ?_
  rintro e y2 ⟨rfl, hint, hbel, ho, hsz⟩
  have R2 : Hid (∀ B, B ≤ p → Below B w y2) := hide (fun B hB' => (k0.mono (by omega)).trans (hbel B hB'))
  have R3 : Hid (∀ k, k < w.heap.size → k ≠ p → y2.heap[k]? = w.heap[k]?) := hide (fun k hk1 hk2 => (ho k (by have := k0.size; omega) hk2).trans (k0.block k hk1))
  have R4 : Hid (w.heap.size ≤ y2.heap.size) := hide (by have := k0.size; omega)
  have R1 := hide hint
  clear hint hbel ho hsz k0
  go_wp2
  go_ret
  exact ⟨rfl, unhide R1, unhide R2, unhide R3, unhide R4⟩
/-- a number's box that is new -/
theorem box_new (w : World) : BoxAt3 (w.alloc (.cells #[.bool false, .slice none 0 0] 101)) w.heap.size false (.slice none 0 0) :=
  ⟨heap_alloc_new w _, none, 0, 0, rfl⟩
set_option maxHeartbeats 1000000 in
theorem newInt_any (x : Nat) (w : World) (hx : (x : Int) ≤ 9223372036854775807) :
    Calls Tryz.prog 39 #[.int .i64 x] w fun e w' => e = .returned (.pointer (some ⟨w.heap.size, 0, none⟩)) ∧ IntAt w' w.heap.size x ∧ Below w.heap.size w w' ∧ w.heap.size < w'.heap.size := by
  have N1 := hide (setInt_any w.heap.size x false (.slice none 0 0) _ (box_new w) hx)
  have hbe := (Below.refl w.heap.size w).alloc (Nat.le_refl _) (.cells #[.bool false, .slice none 0 0] 101)
  have HBE := hide hbe
  clear hbe
  go_enter Tryz.func39, Tryz.ntmps39
  go_wp2_with fail
  refine (unhide N1).mono ?_
  rintro e y ⟨rfl, hint, hbel, ho, hsz⟩
  have R1 := hide hint; have R2 := hide ((unhide HBE).trans (hbel _ (Nat.le_refl _))); have R3 : Hid (w.heap.size < y.heap.size) := hide (by simp at hsz; omega)
  clear hint hbel ho hsz
  go_wp2
  go_ret
  exact ⟨rfl, unhide R1, unhide R2, unhide R3⟩
set_option maxHeartbeats 2000000 in
theorem bigCmp_any (px py a b : Nat) (w : World) (hx : IntAt w px a) (hy : IntAt w py b) (hla : a < B32 ^ 10000) (hlb : b < B32 ^ 10000) :
    Calls Tryz.prog 62 #[.pointer (some ⟨px, 0, none⟩), .pointer (some ⟨py, 0, none⟩)] w fun e w' => e = .returned (.int .i64 (ordI a b)) ∧ Below w.heap.size w w' := by
  obtain ⟨va, hbx, hva⟩ := hx
  obtain ⟨vb, hby, hvb⟩ := hy
  have N1 := hide (fun w' (hb : Below w.heap.size w w') => cmp_any a b va vb w' (hva.below hb) (hvb.below hb) hla hlb)
  obtain ⟨c0, c1⟩ := hbx.cells
  obtain ⟨d0, d1⟩ := hby.cells
  obtain ⟨x1, x2, x3, hv1⟩ := slice_of hva
  obtain ⟨y1, y2, y3, hv2⟩ := slice_of hvb
  clear hva hvb hla hlb hbx hby
  subst hv1 hv2
  generalize ordI a b = od at *
  go_enter Tryz.func62, Tryz.ntmps62
  go_wp2_with fail
  go_quiet (fail)
  go_wp2_with fail
  go_region_held3 (fun w' => w'.cell? ⟨px, 1, none⟩ = some (.slice x1 x2 x3) ∧ w'.cell? ⟨py, 1, none⟩ = some (.slice y1 y2 y3))
    (first
      | exact hs1
      | exact ⟨c1, d1⟩)
    ((first
      | (go_at_call 90; refine (unhide N1 _ (below_drewN (Below.refl _ _) _).drew).mono ?_; rintro e z1 ⟨rfl, k1⟩; have k0 : Below w.heap.size w z1 := (below_drewN (Below.refl _ _) _).drew.trans k1; have hs1 : z1.cell? ⟨px, 1, none⟩ = some (.slice x1 x2 x3) ∧ z1.cell? ⟨py, 1, none⟩ = some (.slice y1 y2 y3) := ⟨keep_cellB k0 c1, keep_cellB k0 d1⟩)))
  all_goals
    have e0 := keep_cellB k0 c0
    have HK := hide k0
    clear k0 k1 c0 c1 d0 d1 hs1
    go_wp2
    go_ret
    exact ⟨rfl, unhide HK⟩
end Go.Proofs.YtckkhpegimkefaaGreatDoor
