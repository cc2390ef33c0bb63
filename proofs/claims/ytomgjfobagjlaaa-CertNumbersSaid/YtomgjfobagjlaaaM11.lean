/- The big numbers themselves: Mul. -/
import Derived.Test.YtomgjfobagjlaaaM10
namespace Go.Proofs.Ytomgjfobagjlaaa
open Go.RowKit
set_option linter.unusedVariables false

theorem cell_heapB {w w' : World} {a : Addr} {v : Value} (h : w.cell? a = some v) (hh : w'.heap[a.block]? = w.heap[a.block]?) : w'.cell? a = some v := by
  unfold World.cell? at *
  rw [hh]
  exact h
theorem BoxAt3.cells {w : World} {p : Nat} {b : Bool} {v : Value} (h : BoxAt3 w p b v) : w.cell? ⟨p, 0, none⟩ = some (.bool b) ∧ w.cell? ⟨p, 1, none⟩ = some v :=
  ⟨by rw [cell_of_row _ _ _ _ _ _ h.1]; rfl, by rw [cell_of_row _ _ _ _ _ _ h.1]; rfl⟩
set_option maxHeartbeats 4000000 in
set_option maxRecDepth 100000 in
theorem bigMul_any (p px py a b : Nat) (b0 : Bool) (v0 : Value) (w : World) (hp : BoxAt3 w p b0 v0) (hx : IntAt w px a) (hy : IntAt w py b) (hpx : px ≠ p) (hpy : py ≠ p) (hla : a < B32 ^ 5000) (hlb : b < B32 ^ 5000) :
    Calls Try.prog 15 #[.pointer (some ⟨p, 0, none⟩), .pointer (some ⟨px, 0, none⟩), .pointer (some ⟨py, 0, none⟩)] w fun e w' => e = .returned (.pointer (some ⟨p, 0, none⟩)) ∧ IntAt w' p (a * b) ∧ (∀ B, B ≤ p → Below B w w') ∧ (∀ k, k < w.heap.size → k ≠ p → w'.heap[k]? = w.heap[k]?) ∧ w.heap.size ≤ w'.heap.size := by
  obtain ⟨va, hbx, hva⟩ := hx
  obtain ⟨vb, hby, hvb⟩ := hy
  have hplt := heap_lt hp.1
  have hxlt := heap_lt hbx.1
  have hylt := heap_lt hby.1
  have hS : ∀ w' : World, (∀ k, k < w.heap.size → k ≠ p → w'.heap[k]? = w.heap[k]?) → w'.cell? ⟨px, 0, none⟩ = some (.bool false) ∧ w'.cell? ⟨px, 1, none⟩ = some va ∧ w'.cell? ⟨py, 0, none⟩ = some (.bool false) ∧ w'.cell? ⟨py, 1, none⟩ = some vb := fun w' ho =>
    ⟨cell_heapB hbx.cells.1 (ho px hxlt hpx), cell_heapB hbx.cells.2 (ho px hxlt hpx), cell_heapB hby.cells.1 (ho py hylt hpy), cell_heapB hby.cells.2 (ho py hylt hpy)⟩
  have N1 := hide (fun w' (hb : Below w.heap.size w w') => mul_any a b va vb w' (hva.below hb) (hvb.below hb) hla hlb)
  have N2 := hide (fun w' (hb : Below w.heap.size w w') v (hv : BigV w' v (a * b)) => give_any p (a * b) b0 v0 v w' (hp.below hb) hv)
  have hs0 := hS w (fun _ _ _ => rfl)
  obtain ⟨_, x1, x2, x3, hxv⟩ := hbx
  obtain ⟨_, y1, y2, y3, hyv⟩ := hby
  subst hxv hyv
  have HS := hide hS
  clear hla hlb hva hvb hp hS
  go_enter Try.func15, Try.ntmps15
  go_wp2_with fail
  go_region_held3 (fun w' => w'.cell? ⟨px, 0, none⟩ = some (.bool false) ∧ w'.cell? ⟨px, 1, none⟩ = some (.slice x1 x2 x3) ∧ w'.cell? ⟨py, 0, none⟩ = some (.bool false) ∧ w'.cell? ⟨py, 1, none⟩ = some (.slice y1 y2 y3))
    (first
      | exact hs2
      | exact hs1
      | exact hs0)
    ((first
      | (have hq := k1; go_at_call 42; refine (unhide N2 _ k0 _ h1).mono ?_; rintro e y2 ⟨rfl, hint, hbel, ho, hsz⟩; have hs2 := unhide HS y2 (fun k hk1 hk2 => (ho k (by have := k0.size; omega) hk2).trans (k0.block k hk1)))
      | (go_at_call 43; refine (unhide N1 _ (Below.refl _ _).drew).mono ?_; rintro e y1 ⟨⟨v1, rfl, h1⟩, k1⟩; have k0 : Below w.heap.size w y1 := (Below.refl _ _).drew.trans k1; have hs1 := unhide HS y1 (fun k hk1 hk2 => k0.block k hk1))))
  all_goals
    have R2 : Hid (∀ B, B ≤ p → Below B w y2) := hide (fun B hB' => (k0.mono (by omega)).trans (hbel B hB'))
    have R3 : Hid (∀ k, k < w.heap.size → k ≠ p → y2.heap[k]? = w.heap[k]?) := hide (fun k hk1 hk2 => (ho k (by have := k0.size; omega) hk2).trans (k0.block k hk1))
    have R4 : Hid (w.heap.size ≤ y2.heap.size) := hide (by have := k0.size; omega)
    have R1 := hide hint
    clear hint hbel ho hsz k0 k1 h1
    go_wp2
    go_ret
    exact ⟨rfl, unhide R1, unhide R2, unhide R3, unhide R4⟩
end Go.Proofs.Ytomgjfobagjlaaa
