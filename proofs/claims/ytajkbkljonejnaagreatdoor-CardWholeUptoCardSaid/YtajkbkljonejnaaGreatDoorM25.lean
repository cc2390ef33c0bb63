/- The big numbers themselves: Mul. -/
import Derived.Test.YtajkbkljonejnaaGreatDoorM24
namespace Go.Proofs.YtajkbkljonejnaaGreatDoor
open Go.RowKit
set_option linter.unusedVariables false
theorem cell_heapB {w w' : World} {a : Addr} {v : Value} (h : w.cell? a = some v) (hh : w'.heap[a.block]? = w.heap[a.block]?) : w'.cell? a = some v := by
  unfold World.cell? at *
  rw [hh]
  exact h
theorem BoxAt3.cells {w : World} {p : Nat} {b : Bool} {v : Value} (h : BoxAt3 w p b v) : w.cell? ⟨p, 0, none⟩ = some (.bool b) ∧ w.cell? ⟨p, 1, none⟩ = some v :=
  ⟨by rw [cell_of_row _ _ _ _ _ _ h.1]; rfl, by rw [cell_of_row _ _ _ _ _ _ h.1]; rfl⟩
set_option maxHeartbeats 4000000 in
set_option maxRecDepth 100000 in
theorem bigMul_any (p px py a b : Nat) (b0 : Bool) (v0 : Value) (w : World) (hp : BoxAt3 w p b0 v0) (hx : IntAt w px a) (hy : IntAt w py b) (hpx : px ≠ p) (hpy : py ≠ p) (hla : a < B32 ^ 5000) (hlb : b < B32 ^ 5000) :
    Calls Tryz.prog 56 #[.pointer (some ⟨p, 0, none⟩), .pointer (some ⟨px, 0, none⟩), .pointer (some ⟨py, 0, none⟩)] w fun e w' => e = .returned (.pointer (some ⟨p, 0, none⟩)) ∧ IntAt w' p (a * b) ∧ (∀ B, B ≤ p → Below B w w') ∧ (∀ k, k < w.heap.size → k ≠ p → w'.heap[k]? = w.heap[k]?) ∧ w.heap.size ≤ w'.heap.size := by
  obtain ⟨va, hbx, hva⟩ := hx
  obtain ⟨vb, hby, hvb⟩ := hy
  have hplt := heap_lt hp.1
  have hxlt := heap_lt hbx.1
  have hylt := heap_lt hby.1
  have hS : ∀ w' : World, (∀ k, k < w.heap.size → k ≠ p → w'.heap[k]? = w.heap[k]?) → w'.cell? ⟨px, 0, none⟩ = some (.bool false) ∧ w'.cell? ⟨px, 1, none⟩ = some va ∧ w'.cell? ⟨py, 0, none⟩ = some (.bool false) ∧ w'.cell? ⟨py, 1, none⟩ = some vb := fun w' ho =>
    ⟨cell_heapB hbx.cells.1 (ho px hxlt hpx), cell_heapB hbx.cells.2 (ho px hxlt hpx), cell_heapB hby.cells.1 (ho py hylt hpy), cell_heapB hby.cells.2 (ho py hylt hpy)⟩
  have N1 := hide (fun w' (hb : Below w.heap.size w w') => mul_any a b va vb w' (hva.below hb) (hvb.below hb) hla hlb)
  have N2 := hide (fun w' (hb : Below w.heap.size w w') v (hv : BigV w' v (a * b)) => give_any p (a * b) b0 v0 v w' (hp.below hb) hv)
  have hs0 := hS w (fun _ _ _ => rfl)
  obtain ⟨_, x1, x2, x3, hxv⟩ := hbx
  obtain ⟨_, y1, y2, y3, hyv⟩ := hby
  subst hxv hyv
  have HS := hide hS
  clear hla hlb hva hvb hp hS
  go_enter Tryz.func56, Tryz.ntmps56
  go_wp2_with fail
  go_region_held3 (fun w' => w'.cell? ⟨px, 0, none⟩ = some (.bool false) ∧ w'.cell? ⟨px, 1, none⟩ = some (.slice x1 x2 x3) ∧ w'.cell? ⟨py, 0, none⟩ = some (.bool false) ∧ w'.cell? ⟨py, 1, none⟩ = some (.slice y1 y2 y3))
    (first
      | exact hs2
      | exact hs1
      | exact hs0)
    ((first
      | (have hq := k1; go_at_call 99; refine (unhide N2 _ k0 _ h1).mono ?_; rintro e y2 ⟨rfl, hint, hbel, ho, hsz⟩; have hs2 := unhide HS y2 (fun k hk1 hk2 => (ho k (by have := k0.size; omega) hk2).trans (k0.block k hk1)))
      | (go_at_call 100; refine (unhide N1 _ (Below.refl _ _).drew).mono ?_; rintro e y1 ⟨⟨v1, rfl, h1⟩, k1⟩; have k0 : Below w.heap.size w y1 := (Below.refl _ _).drew.trans k1; have hs1 := unhide HS y1 (fun k hk1 hk2 => k0.block k hk1))))
  all_goals
    have R2 : Hid (∀ B, B ≤ p → Below B w y2) := hide (fun B hB' => (k0.mono (by omega)).trans (hbel B hB'))
    have R3 : Hid (∀ k, k < w.heap.size → k ≠ p → y2.heap[k]? = w.heap[k]?) := hide (fun k hk1 hk2 => (ho k (by have := k0.size; omega) hk2).trans (k0.block k hk1))
    have R4 : Hid (w.heap.size ≤ y2.heap.size) := hide (by have := k0.size; omega)
    have R1 := hide hint
    clear hint hbel ho hsz k0 k1 h1
    go_wp2
    go_ret
    exact ⟨rfl, unhide R1, unhide R2, unhide R3, unhide R4⟩
end Go.Proofs.YtajkbkljonejnaaGreatDoor
namespace Go.Proofs.YtajkbkljonejnaaGreatDoor
open Go.RowKit
set_option linter.unusedVariables false
theorem slice_of {w : World} {v : Value} {n : Nat} (h : BigV w v n) : ∃ ao m cap, v = .slice ao m cap := by
  obtain ⟨ao, cap, hv, _⟩ := h
  exact ⟨_, _, _, hv⟩
set_option maxHeartbeats 1000000 in
theorem sum_add (a b : Nat) (va vb : Value) (w : World) (ha : BigV w va a) (hb : BigV w vb b) (hla : a < B32 ^ 10000) (hlb : b < B32 ^ 10000) :
    Calls Tryz.prog 103 #[.bool false, va, .bool false, vb] w fun e w' => (∃ v, e = .returned (.tuple #[.bool false, v]) ∧ BigV w' v (a + b)) ∧ Below w.heap.size w w' := by
  have N1 := hide (add_any a b va vb w ha hb hla hlb)
  obtain ⟨x1, x2, x3, hx⟩ := slice_of ha
  obtain ⟨y1, y2, y3, hy⟩ := slice_of hb
  clear ha hb hla hlb
  subst hx hy
  go_enter Tryz.func103, Tryz.ntmps103
  go_wp2_with fail
  refine (unhide N1).mono ?_
  rintro e w1 ⟨⟨v, rfl, hv⟩, k⟩
  have HV := hide hv
  clear hv
  go_wp2
  go_ret2
  exact ⟨⟨v, rfl, unhide HV⟩, k⟩
set_option maxHeartbeats 1000000 in
theorem sum_sub (a b : Nat) (va vb : Value) (w : World) (ha : BigV w va a) (hb : BigV w vb b) (hla : a < B32 ^ 10000) (hlb : b < B32 ^ 10000) (hle : b ≤ a) (ha0 : a ≠ 0) :
    Calls Tryz.prog 103 #[.bool false, va, .bool true, vb] w fun e w' => (∃ v, e = .returned (.tuple #[.bool false, v]) ∧ BigV w' v (a - b)) ∧ Below w.heap.size w w' := by
  have N0 := hide (cmp_any a b va vb w ha hb hla hlb)
  have N1 := hide (fun w' (k : Below w.heap.size w w') => sub_any a b va vb w' (ha.below k) (hb.below k) hla hle ha0)
  obtain ⟨x1, x2, x3, hx⟩ := slice_of ha
  obtain ⟨y1, y2, y3, hy⟩ := slice_of hb
  have ho : 0 ≤ ordI a b := by unfold ordI; rw [if_neg (by omega)]; split <;> omega
  clear ha hb hla hlb hle ha0
  subst hx hy
  generalize ordI a b = od at *
  go_enter Tryz.func103, Tryz.ntmps103
  go_wp2_with fail
  refine (unhide N0).mono ?_
  rintro e w0 ⟨rfl, k0⟩
  go_wp2_with fail
  refine (unhide N1 _ k0).mono ?_
  rintro e w1 ⟨⟨v, rfl, hv⟩, k⟩
  have HV := hide hv; have HK := hide (ext_callB k0 k)
  clear hv k0 k
  go_wp2
  go_ret2
  exact ⟨⟨v, rfl, unhide HV⟩, unhide HK⟩
set_option maxHeartbeats 4000000 in
set_option maxRecDepth 100000 in
theorem bigAdd_any (p px py a b : Nat) (b0 : Bool) (v0 : Value) (w : World) (hp : BoxAt3 w p b0 v0) (hx : IntAt w px a) (hy : IntAt w py b) (hpx : px ≠ p) (hpy : py ≠ p) (hla : a < B32 ^ 10000) (hlb : b < B32 ^ 10000) :
    Calls Tryz.prog 63 #[.pointer (some ⟨p, 0, none⟩), .pointer (some ⟨px, 0, none⟩), .pointer (some ⟨py, 0, none⟩)] w fun e w' => e = .returned (.pointer (some ⟨p, 0, none⟩)) ∧ IntAt w' p (a + b) ∧ (∀ B, B ≤ p → Below B w w') ∧ (∀ k, k < w.heap.size → k ≠ p → w'.heap[k]? = w.heap[k]?) ∧ w.heap.size ≤ w'.heap.size := by
  obtain ⟨va, hbx, hva⟩ := hx
  obtain ⟨vb, hby, hvb⟩ := hy
  have hplt := heap_lt hp.1
  have hxlt := heap_lt hbx.1
  have hylt := heap_lt hby.1
  have hS : ∀ w' : World, (∀ k, k < w.heap.size → k ≠ p → w'.heap[k]? = w.heap[k]?) → w'.cell? ⟨px, 0, none⟩ = some (.bool false) ∧ w'.cell? ⟨px, 1, none⟩ = some va ∧ w'.cell? ⟨py, 0, none⟩ = some (.bool false) ∧ w'.cell? ⟨py, 1, none⟩ = some vb := fun w' ho =>
    ⟨cell_heapB hbx.cells.1 (ho px hxlt hpx), cell_heapB hbx.cells.2 (ho px hxlt hpx), cell_heapB hby.cells.1 (ho py hylt hpy), cell_heapB hby.cells.2 (ho py hylt hpy)⟩
  have N1 := hide (fun w' (hb : Below w.heap.size w w') => sum_add a b va vb w' (hva.below hb) (hvb.below hb) hla hlb)
  have N2 := hide (fun w' (hb : Below w.heap.size w w') v (hv : BigV w' v (a + b)) => give_any p (a + b) b0 v0 v w' (hp.below hb) hv)
  have hs0 := hS w (fun _ _ _ => rfl)
  obtain ⟨_, x1, x2, x3, hxv⟩ := hbx
  obtain ⟨_, y1, y2, y3, hyv⟩ := hby
  subst hxv hyv
  have HS := hide hS
  clear hla hlb hva hvb hp hS
  go_enter Tryz.func63, Tryz.ntmps63
  go_wp2_with fail
  go_region_held3 (fun w' => w'.cell? ⟨px, 0, none⟩ = some (.bool false) ∧ w'.cell? ⟨px, 1, none⟩ = some (.slice x1 x2 x3) ∧ w'.cell? ⟨py, 0, none⟩ = some (.bool false) ∧ w'.cell? ⟨py, 1, none⟩ = some (.slice y1 y2 y3))
    (first
      | exact hs2
      | exact hs1
      | exact hs0)
    ((first
      | (have hq := k1; go_at_call 99; refine (unhide N2 _ k0 _ h1).mono ?_; rintro e y2 ⟨rfl, hint, hbel, ho, hsz⟩; have hs2 := unhide HS y2 (fun k hk1 hk2 => (ho k (by have := k0.size; omega) hk2).trans (k0.block k hk1)))
      | (go_at_call 103; refine (unhide N1 _ (Below.refl _ _).drew).mono ?_; rintro e y1 ⟨⟨v1, rfl, h1⟩, k1⟩; have k0 : Below w.heap.size w y1 := (Below.refl _ _).drew.trans k1; have hs1 := unhide HS y1 (fun k hk1 hk2 => k0.block k hk1))))
  all_goals
    have R2 : Hid (∀ B, B ≤ p → Below B w y2) := hide (fun B hB' => (k0.mono (by omega)).trans (hbel B hB'))
    have R3 : Hid (∀ k, k < w.heap.size → k ≠ p → y2.heap[k]? = w.heap[k]?) := hide (fun k hk1 hk2 => (ho k (by have := k0.size; omega) hk2).trans (k0.block k hk1))
    have R4 : Hid (w.heap.size ≤ y2.heap.size) := hide (by have := k0.size; omega)
    have R1 := hide hint
    clear hint hbel ho hsz k0 k1 h1
    go_wp2
    go_ret
    exact ⟨rfl, unhide R1, unhide R2, unhide R3, unhide R4⟩
set_option maxHeartbeats 4000000 in
set_option maxRecDepth 100000 in
theorem bigSub_any (p px py a b : Nat) (b0 : Bool) (v0 : Value) (w : World) (hp : BoxAt3 w p b0 v0) (hx : IntAt w px a) (hy : IntAt w py b) (hpx : px ≠ p) (hpy : py ≠ p) (hla : a < B32 ^ 10000) (hlb : b < B32 ^ 10000) (hle : b ≤ a) (ha0 : a ≠ 0) :
    Calls Tryz.prog 60 #[.pointer (some ⟨p, 0, none⟩), .pointer (some ⟨px, 0, none⟩), .pointer (some ⟨py, 0, none⟩)] w fun e w' => e = .returned (.pointer (some ⟨p, 0, none⟩)) ∧ IntAt w' p (a - b) ∧ (∀ B, B ≤ p → Below B w w') ∧ (∀ k, k < w.heap.size → k ≠ p → w'.heap[k]? = w.heap[k]?) ∧ w.heap.size ≤ w'.heap.size := by
  obtain ⟨va, hbx, hva⟩ := hx
  obtain ⟨vb, hby, hvb⟩ := hy
  have hplt := heap_lt hp.1
  have hxlt := heap_lt hbx.1
  have hylt := heap_lt hby.1
  have hS : ∀ w' : World, (∀ k, k < w.heap.size → k ≠ p → w'.heap[k]? = w.heap[k]?) → w'.cell? ⟨px, 0, none⟩ = some (.bool false) ∧ w'.cell? ⟨px, 1, none⟩ = some va ∧ w'.cell? ⟨py, 0, none⟩ = some (.bool false) ∧ w'.cell? ⟨py, 1, none⟩ = some vb := fun w' ho =>
    ⟨cell_heapB hbx.cells.1 (ho px hxlt hpx), cell_heapB hbx.cells.2 (ho px hxlt hpx), cell_heapB hby.cells.1 (ho py hylt hpy), cell_heapB hby.cells.2 (ho py hylt hpy)⟩
  have N1 := hide (fun w' (hb : Below w.heap.size w w') => sum_sub a b va vb w' (hva.below hb) (hvb.below hb) hla hlb hle ha0)
  have N2 := hide (fun w' (hb : Below w.heap.size w w') v (hv : BigV w' v (a - b)) => give_any p (a - b) b0 v0 v w' (hp.below hb) hv)
  have hs0 := hS w (fun _ _ _ => rfl)
  obtain ⟨_, x1, x2, x3, hxv⟩ := hbx
  obtain ⟨_, y1, y2, y3, hyv⟩ := hby
  subst hxv hyv
  have HS := hide hS
  clear hla hlb hle ha0 hva hvb hp hS
  go_enter Tryz.func60, Tryz.ntmps60
  go_wp2_with fail
  go_region_held3 (fun w' => w'.cell? ⟨px, 0, none⟩ = some (.bool false) ∧ w'.cell? ⟨px, 1, none⟩ = some (.slice x1 x2 x3) ∧ w'.cell? ⟨py, 0, none⟩ = some (.bool false) ∧ w'.cell? ⟨py, 1, none⟩ = some (.slice y1 y2 y3))
    (first
      | exact hs2
      | exact hs1
      | exact hs0)
    ((first
      | (have hq := k1; go_at_call 99; refine (unhide N2 _ k0 _ h1).mono ?_; rintro e y2 ⟨rfl, hint, hbel, ho, hsz⟩; have hs2 := unhide HS y2 (fun k hk1 hk2 => (ho k (by have := k0.size; omega) hk2).trans (k0.block k hk1)))
      | (go_at_call 103; refine (unhide N1 _ (Below.refl _ _).drew).mono ?_; rintro e y1 ⟨⟨v1, rfl, h1⟩, k1⟩; have k0 : Below w.heap.size w y1 := (Below.refl _ _).drew.trans k1; have hs1 := unhide HS y1 (fun k hk1 hk2 => k0.block k hk1))))
  all_goals
    have R2 : Hid (∀ B, B ≤ p → Below B w y2) := hide (fun B hB' => (k0.mono (by omega)).trans (hbel B hB'))
    have R3 : Hid (∀ k, k < w.heap.size → k ≠ p → y2.heap[k]? = w.heap[k]?) := hide (fun k hk1 hk2 => (ho k (by have := k0.size; omega) hk2).trans (k0.block k hk1))
    have R4 : Hid (w.heap.size ≤ y2.heap.size) := hide (by have := k0.size; omega)
    have R1 := hide hint
    clear hint hbel ho hsz k0 k1 h1
    go_wp2
    go_ret
    exact ⟨rfl, unhide R1, unhide R2, unhide R3, unhide R4⟩
end Go.Proofs.YtajkbkljonejnaaGreatDoor
namespace Go.Proofs.YtajkbkljonejnaaGreatDoor
open Go.RowKit
set_option linter.unusedVariables false
set_option maxHeartbeats 1000000 in
theorem setInt_any (p x : Nat) (b0 : Bool) (v0 : Value) (w : World) (hp : BoxAt3 w p b0 v0) (hx : (x : Int) ≤ 9223372036854775807) :
    Calls Tryz.prog 102 #[.pointer (some ⟨p, 0, none⟩), .int .i64 x] w fun e w' => e = .returned (.pointer (some ⟨p, 0, none⟩)) ∧ IntAt w' p x ∧ (∀ B, B ≤ p → Below B w w') ∧ (∀ k, k < w.heap.size → k ≠ p → w'.heap[k]? = w.heap[k]?) ∧ w.heap.size ≤ w'.heap.size := by
  have N1 := hide (words_any x (by omega) w)
  have N2 := hide (fun w' (hb : Below w.heap.size w w') v (hv : BigV w' v x) => give_any p x b0 v0 v w' (hp.below hb) hv)
  have hplt := heap_lt hp.1
  have wx : IntKind.u64.wrap (x : Int) = (x : Int) := wraps_u64 _ (by omega) (by omega)
  have hneg : ¬ (x : Int) < 0 := by omega
  clear hp
  go_enter Tryz.func102, Tryz.ntmps102
  go_wp2_with fail
  refine (unhide N1).mono ?_
  rintro e y1 ⟨⟨v1, rfl, h1⟩, k0⟩
  have N3 := hide (unhide N2 _ k0 _ h1)
  obtain ⟨x1, x2, x3, hv1⟩ := slice_of h1
  clear h1
  subst hv1
  go_wp2_with fail
  refine (unhide N3).mono ?_
  rintro e y2 ⟨rfl, hint, hbel, ho, hsz⟩
  have R2 : Hid (∀ B, B ≤ p → Below B w y2) := hide (fun B hB' => (k0.mono (by omega)).trans (hbel B hB'))
  have R3 : Hid (∀ k, k < w.heap.size → k ≠ p → y2.heap[k]? = w.heap[k]?) := hide (fun k hk1 hk2 => (ho k (by have := k0.size; omega) hk2).trans (k0.block k hk1))
  have R4 : Hid (w.heap.size ≤ y2.heap.size) := hide (by have := k0.size; omega)
  have R1 := hide hint
  clear hint hbel ho hsz k0
  go_wp2
  go_ret
  exact ⟨rfl, unhide R1, unhide R2, unhide R3, unhide R4⟩
theorem box_new (w : World) : BoxAt3 (w.alloc (.cells #[.bool false, .slice none 0 0] 109)) w.heap.size false (.slice none 0 0) :=
  ⟨heap_alloc_new w _, none, 0, 0, rfl⟩
set_option maxHeartbeats 1000000 in
theorem newInt_any (x : Nat) (w : World) (hx : (x : Int) ≤ 9223372036854775807) :
    Calls Tryz.prog 59 #[.int .i64 x] w fun e w' => e = .returned (.pointer (some ⟨w.heap.size, 0, none⟩)) ∧ IntAt w' w.heap.size x ∧ Below w.heap.size w w' ∧ w.heap.size < w'.heap.size := by
  have N1 := hide (setInt_any w.heap.size x false (.slice none 0 0) _ (box_new w) hx)
  have hbe := (Below.refl w.heap.size w).alloc (Nat.le_refl _) (.cells #[.bool false, .slice none 0 0] 109)
  have HBE := hide hbe
  clear hbe
  go_enter Tryz.func59, Tryz.ntmps59
  go_wp2_with fail
  refine (unhide N1).mono ?_
  rintro e y ⟨rfl, hint, hbel, ho, hsz⟩
  have R1 := hide hint; have R2 := hide ((unhide HBE).trans (hbel _ (Nat.le_refl _))); have R3 : Hid (w.heap.size < y.heap.size) := hide (by simp at hsz; omega)
  clear hint hbel ho hsz
  go_wp2
  go_ret
  exact ⟨rfl, unhide R1, unhide R2, unhide R3⟩
set_option maxHeartbeats 1000000 in
theorem sign_any (p n : Nat) (w : World) (h : IntAt w p n) :
    Calls Tryz.prog 64 #[.pointer (some ⟨p, 0, none⟩)] w fun e w' => e = .returned (.int .i64 (if n = 0 then 0 else 1)) ∧ w' = w := by
  obtain ⟨v, hb, ao, cap, rfl, hr⟩ := h
  obtain ⟨c0, c1⟩ := hb.cells
  by_cases h0 : n = 0
  · subst h0
    rw [dig_zero] at c1
    rw [if_pos rfl]
    clear hb hr
    go_enter Tryz.func64, Tryz.ntmps64
    go_wp2
    go_ret
    exact ⟨rfl, rfl⟩
  · have hd : ¬ dig n = [] := fun e => h0 (by have := natV_dig n; rw [e] at this; exact this.symm)
    have hdI : (((dig n).length : Int) == 0) = false := by simp; exact hd
    rw [if_neg h0]
    clear hb hr h0
    generalize dig n = l at *
    go_enter Tryz.func64, Tryz.ntmps64
    go_wp2
    go_ret
    exact ⟨rfl, rfl⟩
set_option maxHeartbeats 2000000 in
theorem bigCmp_any (px py a b : Nat) (w : World) (hx : IntAt w px a) (hy : IntAt w py b) (hla : a < B32 ^ 10000) (hlb : b < B32 ^ 10000) :
    Calls Tryz.prog 61 #[.pointer (some ⟨px, 0, none⟩), .pointer (some ⟨py, 0, none⟩)] w fun e w' => e = .returned (.int .i64 (ordI a b)) ∧ Below w.heap.size w w' := by
  obtain ⟨va, hbx, hva⟩ := hx
  obtain ⟨vb, hby, hvb⟩ := hy
  have N1 := hide (fun w' (hb : Below w.heap.size w w') => cmp_any a b va vb w' (hva.below hb) (hvb.below hb) hla hlb)
  obtain ⟨c0, c1⟩ := hbx.cells
  obtain ⟨d0, d1⟩ := hby.cells
  obtain ⟨x1, x2, x3, hv1⟩ := slice_of hva
  obtain ⟨y1, y2, y3, hv2⟩ := slice_of hvb
  clear hva hvb hla hlb hbx hby
  subst hv1 hv2
  generalize ordI a b = od at *
  go_enter Tryz.func61, Tryz.ntmps61
  go_wp2_with fail
  go_quiet (fail)
  go_wp2_with fail
  go_region_held3 (fun w' => w'.cell? ⟨px, 1, none⟩ = some (.slice x1 x2 x3) ∧ w'.cell? ⟨py, 1, none⟩ = some (.slice y1 y2 y3))
    (first
      | exact hs1
      | exact ⟨c1, d1⟩)
    ((first
      | (go_at_call 104; refine (unhide N1 _ (below_drewN (Below.refl _ _) _).drew).mono ?_; rintro e z1 ⟨rfl, k1⟩; have k0 : Below w.heap.size w z1 := (below_drewN (Below.refl _ _) _).drew.trans k1; have hs1 : z1.cell? ⟨px, 1, none⟩ = some (.slice x1 x2 x3) ∧ z1.cell? ⟨py, 1, none⟩ = some (.slice y1 y2 y3) := ⟨keep_cellB k0 c1, keep_cellB k0 d1⟩)))
  all_goals
    have e0 := keep_cellB k0 c0
    have HK := hide k0
    clear k0 k1 c0 c1 d0 d1 hs1
    go_wp2
    go_ret
    exact ⟨rfl, unhide HK⟩
end Go.Proofs.YtajkbkljonejnaaGreatDoor
namespace Go.Proofs.YtajkbkljonejnaaGreatDoor
open Go.RowKit
set_option linter.unusedVariables false
theorem small_stepD {d : Nat} {Q D : List Nat} {x r r1 q : Nat} (hv : natV D = natV Q * d + r) (h1 : r1 = r * 4294967296 + x) (hq : q = r1 / d) : natV (x :: D) = natV (q :: Q) * d + r1 % d := by
  simp only [natV]
  rw [hv]
  have h2 : r1 = r * B32 + x := h1
  have h3 := Nat.div_add_mod r1 d
  rw [← hq] at h3
  have h4 : B32 * (natV Q * d + r) = B32 * natV Q * d + r * B32 := by grind
  have h5 : (q + B32 * natV Q) * d = d * q + B32 * natV Q * d := by grind
  omega
set_option maxHeartbeats 8000000 in
set_option maxRecDepth 100000 in
theorem small_rows (d : Nat) (hd0 : 0 < d) (hdB : d < 4294967296) (xs : List Nat) (ao : Option Addr) (ca : Nat) (w : World) (ha : WRow w ao xs) (oka : okV xs) (hla : (xs.length : Int) ≤ 10000) (hx0 : xs ≠ []) :
    Calls Tryz.prog 141 #[.slice ao xs.length ca, .int .u32 d] w fun e w' => (∃ v, e = .returned (.tuple #[v, .int .u32 ((natV xs % d : Nat) : Int)]) ∧ BigV w' v (natV xs / d)) ∧ Below w.heap.size w w' := by
  have HA := hide ha
  have hlp : 1 ≤ xs.length := List.length_pos_iff.2 hx0
  clear ha
  have hw1 : IntKind.i64.wrap ((xs.length : Int) - 1) = (xs.length : Int) - 1 := by rw [IntKind.wrap_i64]; omega
  obtain ⟨i0, hi, hz0, hz1, hz2⟩ := info_partsV infoU32
  go_enter Tryz.func141, Tryz.ntmps141
  go_wp2_with (at_make; refine wpList_make_full _ rfl _ _ 107 rfl w.heap.size 129 i0 (.int .u32 0) 1 Tryz.underlying107 hi hz0 hz1 .i64 .i64 _ _ xs.length rfl rfl (by simp) (by simp) (by rw [hz2]; omega) (by unfold maxLen; omega) (Nat.le_refl _) ?_)
  intro w1 hown hgrow
  have hU := made_vrow hown
  have hb : Below w.heap.size w w1 := (Below.refl _ _).grown hgrow (Nat.le_refl _) (fun q hq => by cases hq)
  clear hown hgrow hi hz0 hz1 hz2
  go_wp2
  go_loopw [7, 8] (fun rv iv wr => ∃ (i r : Nat) (Q : List Nat), i ≤ xs.length ∧ iv = .int .i64 ((i : Int) - 1) ∧ rv = .int .u64 r ∧ r < d ∧ VRow wr w.heap.size (List.replicate i 0 ++ Q) ∧ Q.length = xs.length - i ∧ okV Q ∧ natV (xs.drop i) = natV Q * d + r ∧ Below w.heap.size w wr) (fun _ iv _ => (intOf iv + 1).toNat)
  case atStart => exact ⟨xs.length, 0, [], Nat.le_refl _, by first | rfl | go_num, rfl, hd0, by simpa using hU, by simp, okV_nil, by simp [natV], hb⟩
  case round =>
    clear hU hb
    obtain ⟨i, r, Q, hi, rfl, rfl, hrd, hU, hQl, hQok, hQv, hbel⟩ := hrel
    by_cases h0 : i = 0
    · subst h0
      rw [List.replicate_zero, List.nil_append] at hU
      rw [List.drop_zero] at hQv
      have hq : natV Q = natV xs / d := by
        rw [hQv, Nat.add_comm, Nat.add_mul_div_right _ _ hd0, Nat.div_eq_of_lt hrd, Nat.zero_add]
      have hrr : r = natV xs % d := by
        rw [hQv, Nat.add_comm, Nat.add_mul_mod_self_right, Nat.mod_eq_of_lt hrd]
      have n1 := trim_any Q w.heap.size 0 xs.length _ hU.wrow hQok (by omega) (by omega) (by omega)
      have hwd := wrow_dig hU.wrow hQok
      rw [hq] at n1 hwd
      rw [show Q.length = xs.length by omega] at n1
      have wr3 : (r : Int) % 4294967296 = (r : Int) := by omega
      have N1 := hide n1; have HWD := hide hwd; have HBE := hide hbel; have HRR := hide hrr
      clear n1 hwd hU hq hrr hQv hbel
      go_wp2_with fail
      refine (unhide N1).mono ?_
      rintro e w2 ⟨rfl, rfl⟩
      go_wp2
      go_ret2
      exact ⟨⟨_, by rw [← unhide HRR]; rfl, _, _, rfl, unhide HWD⟩, unhide HBE⟩
    · obtain ⟨j, rfl⟩ : ∃ j, i = j + 1 := ⟨i - 1, by omega⟩
      have ej : ((j + 1 : Nat) : Int) - 1 = (j : Int) := by omega
      rw [ej]
      obtain ⟨x, hx⟩ : ∃ x, xs[j]? = some x := ⟨_, List.getElem?_eq_getElem (by omega)⟩
      have hxb : x < 4294967296 := okV_get oka hx
      rcases (unhide HA) with hnil | ⟨ga, oa, rfl, hga, hca⟩
      · rw [hnil] at hx; simp at hx
      have d0 : wr.cell? ⟨ga, oa + j, none⟩ = some (.int .u32 (x : Nat)) := (hbel.cell (p := ⟨ga, oa + j, none⟩) hga).trans (hca j x hx)
      have hrep : List.replicate (j + 1) 0 ++ Q = List.replicate j 0 ++ 0 :: Q := by rw [List.replicate_succ']; simp
      rw [hrep] at hU
      have q0 := hU.cell j 0 (by rw [List.getElem?_append_right (by simp)]; simp)
      have f0 := hU.frozen j
      obtain ⟨rs, hrs⟩ : ∃ v, v = r * 4294967296 := ⟨_, rfl⟩
      obtain ⟨r1, hr1⟩ : ∃ v, v = r * 4294967296 + x := ⟨_, rfl⟩
      obtain ⟨q, hq⟩ : ∃ v, v = r1 / d := ⟨_, rfl⟩
      obtain ⟨r2, hr2⟩ : ∃ v, v = r1 % d := ⟨_, rfl⟩
      have hdr : xs.drop j = x :: xs.drop (j + 1) := by
        obtain ⟨h1, e1⟩ := List.getElem?_eq_some_iff.1 hx
        rw [List.drop_eq_getElem_cons h1, e1]
      have hst := small_stepD (d := d) (Q := Q) hQv hr1 hq
      rw [← hdr, ← hr2] at hst
      have wx : IntKind.u64.wrap (x : Int) = (x : Int) := wraps_u64 _ (by omega) (by omega)
      have w1' : IntKind.u64.wrap ((r : Int) * 4294967296) = (rs : Int) := by rw [wraps_u64 _ (by omega) (by omega)]; omega
      have w2' : bits .or .u64 (rs : Int) (x : Int) = (r1 : Int) := by
        rw [or_nat .u64 64 (by decide) (fun n h0 h1 => wraps_u64 n h0 h1) rs x (by omega) (by omega), hrs, or_words r x hxb, hr1]
      have hr1d : r1 < d * 4294967296 := by
        have h1 : (r + 1) * 4294967296 ≤ d * 4294967296 := Nat.mul_le_mul_right _ hrd
        omega
      have hqb0 : q < 4294967296 := by rw [hq]; exact Nat.div_lt_of_lt_mul hr1d
      have hr2d : r2 < d := by rw [hr2]; exact Nat.mod_lt _ hd0
      have wd : IntKind.u64.wrap (d : Int) = (d : Int) := wraps_u64 _ (by omega) (by omega)
      have w30 : ((r1 : Int) / (d : Int)) = (q : Int) := by rw [hq]; exact (Int.natCast_ediv r1 d).symm
      have w3' : IntKind.u64.wrap ((r1 : Int) / (d : Int)) = (q : Int) := by rw [w30, wraps_u64 _ (by omega) (by omega)]
      have hdz : ((d : Int) == 0) = false := by rw [beq_eq_false_iff_ne]; omega
      have hdp : (0 : Int) < (d : Int) := by omega
      have w4' : (q : Int) % 4294967296 = (q : Int) := by omega
      have w5' : (r1 : Int) % (d : Int) = (r2 : Int) := by rw [hr2]; exact (Int.natCast_emod r1 d).symm
      have w6' : IntKind.u64.wrap (r2 : Int) = (r2 : Int) := wraps_u64 _ (by omega) (by omega)
      have hnx : IntKind.i64.wrap ((j : Int) - 1) = (j : Int) - 1 := by rw [IntKind.wrap_i64]; omega
      have hj0 : (0 : Int) ≤ (j : Int) := by omega
      have hji : (j : Int) < (xs.length : Int) := by omega
      have hr23 : r2 < d := hr2d
      have hqb : q < B32 := hqb0
      have hset : (List.replicate j 0 ++ 0 :: Q).set j q = List.replicate j 0 ++ q :: Q := by
        rw [List.set_append_right _ _ (by simp)]
        simp
      have hU1 := hU.set j q
      rw [hset] at hU1
      have HU1 := hide hU1; have HBE := hide (hbel.setCell (p := ⟨w.heap.size, j, none⟩) (Nat.le_refl _) (.int .u32 (q : Nat)))
      have HOK : Hid (okV (q :: Q)) := hide (fun y hy => by
        rcases List.mem_cons.1 hy with rfl | hy
        · exact hqb
        · exact hQok y hy)
      have HST := hide hst
      have HQL : Hid ((q :: Q).length = xs.length - j) := hide (by rw [List.length_cons]; omega)
      clear hca hx hrep hU hU1 hset hst hdr hbel hQv hQok hrs hr1 hq hr2 hqb ej h0 hxb hr1d hqb0 hr2d
      go_wp2
      go_roundw
      case rel => exact ⟨j, r2, q :: Q, by omega, by go_num, by first | rfl | rw [w5'], hr23, unhide HU1, unhide HQL, unhide HOK, unhide HST, unhide HBE⟩
      case measure => simp [intOf] <;> omega
end Go.Proofs.YtajkbkljonejnaaGreatDoor
