/- The big numbers themselves: SetInt64, NewInt, Cmp, Sign. -/
import Derived.Test.YtbnpajijbdddiaaBigC
namespace Go.Proofs.Ytbnpajijbdddiaa
open Go.RowKit
set_option linter.unusedVariables false

set_option maxHeartbeats 1000000 in
theorem setInt_any (p x : Nat) (b0 : Bool) (v0 : Value) (w : World) (hp : BoxAt3 w p b0 v0) (hx : (x : Int) ≤ 9223372036854775807) :
    Calls Try.prog 43 #[.pointer (some ⟨p, 0, none⟩), .int .i64 x] w fun e w' => e = .returned (.pointer (some ⟨p, 0, none⟩)) ∧ IntAt w' p x ∧ (∀ B, B ≤ p → Below B w w') ∧ (∀ k, k < w.heap.size → k ≠ p → w'.heap[k]? = w.heap[k]?) ∧ w.heap.size ≤ w'.heap.size := by
  have N1 := hide (words_any x (by omega) w)
  have N2 := hide (fun w' (hb : Below w.heap.size w w') v (hv : BigV w' v x) => give_any p x b0 v0 v w' (hp.below hb) hv)
  have hplt := heap_lt hp.1
  have wx : IntKind.u64.wrap (x : Int) = (x : Int) := wraps_u64 _ (by omega) (by omega)
  have hneg : ¬ (x : Int) < 0 := by omega
  clear hp
  go_enter Try.func43, Try.ntmps43
  go_wp2_with fail
  refine (unhide N1).mono ?_
  rintro e y1 ⟨⟨v1, rfl, h1⟩, k0⟩
  have N3 := hide (unhide N2 _ k0 _ h1)
  obtain ⟨x1, x2, x3, hv1⟩ := slice_of h1
  clear h1
  subst hv1
  go_wp2_with fail
  refine (unhide N3).mono ?_
  rintro e y2 ⟨rfl, hint, hbel, ho, hsz⟩
  have R2 : Hid (∀ B, B ≤ p → Below B w y2) := hide (fun B hB' => (k0.mono (by omega)).trans (hbel B hB'))
  have R3 : Hid (∀ k, k < w.heap.size → k ≠ p → y2.heap[k]? = w.heap[k]?) := hide (fun k hk1 hk2 => (ho k (by have := k0.size; omega) hk2).trans (k0.block k hk1))
  have R4 : Hid (w.heap.size ≤ y2.heap.size) := hide (by have := k0.size; omega)
  have R1 := hide hint
  clear hint hbel ho hsz k0
  go_wp2
  go_ret
  exact ⟨rfl, unhide R1, unhide R2, unhide R3, unhide R4⟩
/-- a number's box that is new -/
theorem box_new (w : World) : BoxAt3 (w.alloc (.cells #[.bool false, .slice none 0 0] 60)) w.heap.size false (.slice none 0 0) :=
  ⟨heap_alloc_new w _, none, 0, 0, rfl⟩
set_option maxHeartbeats 1000000 in
theorem newInt_any (x : Nat) (w : World) (hx : (x : Int) ≤ 9223372036854775807) :
    Calls Try.prog 27 #[.int .i64 x] w fun e w' => e = .returned (.pointer (some ⟨w.heap.size, 0, none⟩)) ∧ IntAt w' w.heap.size x ∧ Below w.heap.size w w' ∧ w.heap.size < w'.heap.size := by
  have N1 := hide (setInt_any w.heap.size x false (.slice none 0 0) _ (box_new w) hx)
  have hbe := (Below.refl w.heap.size w).alloc (Nat.le_refl _) (.cells #[.bool false, .slice none 0 0] 60)
  have HBE := hide hbe
  clear hbe
  go_enter Try.func27, Try.ntmps27
  go_wp2_with fail
  refine (unhide N1).mono ?_
  rintro e y ⟨rfl, hint, hbel, ho, hsz⟩
  have R1 := hide hint; have R2 := hide ((unhide HBE).trans (hbel _ (Nat.le_refl _))); have R3 : Hid (w.heap.size < y.heap.size) := hide (by simp at hsz; omega)
  clear hint hbel ho hsz
  go_wp2
  go_ret
  exact ⟨rfl, unhide R1, unhide R2, unhide R3⟩
set_option maxHeartbeats 2000000 in
theorem bigCmp_any (px py a b : Nat) (w : World) (hx : IntAt w px a) (hy : IntAt w py b) (hla : a < B32 ^ 10000) (hlb : b < B32 ^ 10000) :
    Calls Try.prog 30 #[.pointer (some ⟨px, 0, none⟩), .pointer (some ⟨py, 0, none⟩)] w fun e w' => e = .returned (.int .i64 (ordI a b)) ∧ Below w.heap.size w w' := by
  obtain ⟨va, hbx, hva⟩ := hx
  obtain ⟨vb, hby, hvb⟩ := hy
  have N1 := hide (fun w' (hb : Below w.heap.size w w') => cmp_any a b va vb w' (hva.below hb) (hvb.below hb) hla hlb)
  obtain ⟨c0, c1⟩ := hbx.cells
  obtain ⟨d0, d1⟩ := hby.cells
  obtain ⟨x1, x2, x3, hv1⟩ := slice_of hva
  obtain ⟨y1, y2, y3, hv2⟩ := slice_of hvb
  clear hva hvb hla hlb hbx hby
  subst hv1 hv2
  generalize ordI a b = od at *
  go_enter Try.func30, Try.ntmps30
  go_wp2_with fail
  go_quiet (fail)
  go_wp2_with fail
  go_region_held3 (fun w' => w'.cell? ⟨px, 1, none⟩ = some (.slice x1 x2 x3) ∧ w'.cell? ⟨py, 1, none⟩ = some (.slice y1 y2 y3))
    (first
      | exact hs1
      | exact ⟨c1, d1⟩)
    ((first
      | (go_at_call 46; refine (unhide N1 _ (below_drewN (Below.refl _ _) _).drew).mono ?_; rintro e z1 ⟨rfl, k1⟩; have k0 : Below w.heap.size w z1 := (below_drewN (Below.refl _ _) _).drew.trans k1; have hs1 : z1.cell? ⟨px, 1, none⟩ = some (.slice x1 x2 x3) ∧ z1.cell? ⟨py, 1, none⟩ = some (.slice y1 y2 y3) := ⟨keep_cellB k0 c1, keep_cellB k0 d1⟩)))
  all_goals
    have e0 := keep_cellB k0 c0
    have HK := hide k0
    clear k0 k1 c0 c1 d0 d1 hs1
    go_wp2
    go_ret
    exact ⟨rfl, unhide HK⟩
end Go.Proofs.Ytbnpajijbdddiaa
