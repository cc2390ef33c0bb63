/- The library's swapRange and rotate over a row of numbers. -/
import Derived.Test.YtbnpajijbdddiaaSrtP
import Derived.Test.YtbnpajijbdddiaaLow0
import Derived.Deep.OwnRows
import Derived.BigQuiet
import Derived.BigRegion
import Derived.Deep.QuietTactic
import Derived.Below
namespace Go.Proofs.Ytbnpajijbdddiaa
open Go.RowKit
set_option linter.unusedVariables false

/-- all but one block are as they were -/
structure ButG (g : Nat) (w w' : World) : Prop where
  os : w'.os = w.os
  tape : w'.tape = w.tape
  output : w'.output = w.output
  size : w'.heap.size = w.heap.size
  block : ∀ k, k ≠ g → w'.heap[k]? = w.heap[k]?
theorem ButG.refl (g : Nat) (w : World) : ButG g w w := ⟨rfl, rfl, rfl, rfl, fun _ _ => rfl⟩
theorem ButG.trans {g : Nat} {a b c : World} (h : ButG g a b) (k : ButG g b c) : ButG g a c := ⟨k.os.trans h.os, k.tape.trans h.tape, k.output.trans h.output, k.size.trans h.size, fun i hi => (k.block i hi).trans (h.block i hi)⟩
theorem ButG.cell {g : Nat} {w w' : World} (h : ButG g w w') {a : Addr} (ha : a.block ≠ g) : w'.cell? a = w.cell? a := by
  unfold World.cell?
  rw [h.block _ ha]
theorem ButG.below {g : Nat} {w w' : World} (h : ButG g w w') {B : Nat} (hB : B ≤ g) : Below B w w' :=
  ⟨h.os, h.tape, h.output, by rw [h.size]; exact Nat.le_refl _, fun k hk => h.block k (by omega)⟩
theorem ButG.drewN {g : Nat} {w w' : World} (h : ButG g w w') (q : Nat) : ButG g w (w'.drewN q) := ⟨h.os, h.tape, h.output, h.size, h.block⟩
theorem ButG.setCell {g : Nat} {w w' : World} (h : ButG g w w') (i : Nat) (v : Value) : ButG g w (w'.setCell ⟨g, i, none⟩ v) :=
  ⟨h.os, h.tape, h.output, by simp [h.size], fun k hk => (Below.heap_setCell _ _ _ _ hk).trans (h.block k hk)⟩
/-- a row of numbers in a block -/
def RI (w : World) (g N : Nat) (D : Nat → Nat) : Prop := w.rowIs g 3 N (fun i => .int .i64 (D i : Nat))
theorem RI.cell {w : World} {g N : Nat} {D : Nat → Nat} (h : RI w g N D) {i : Nat} (hi : i < N) : w.cell? ⟨g, i, none⟩ = some (.int .i64 (D i : Nat)) := World.rowIs.cell h hi
theorem RI.frozen {w : World} {g N : Nat} {D : Nat → Nat} (h : RI w g N D) (i : Nat) : w.frozen? ⟨g, i, none⟩ = false := World.rowIs.frozen h i
theorem RI.drewN {w : World} {g N : Nat} {D : Nat → Nat} (h : RI w g N D) (q : Nat) : RI (w.drewN q) g N D := h
theorem RI.swap {w : World} {g N : Nat} {D : Nat → Nat} (h : RI w g N D) (i j : Nat) : RI ((w.setCell ⟨g, i, none⟩ (.int .i64 (D j : Nat))).setCell ⟨g, j, none⟩ (.int .i64 (D i : Nat))) g N (sw D i j) := by
  refine World.rowIs.congr (World.rowIs.set (World.rowIs.set h i (.int .i64 (D j : Nat))) j (.int .i64 (D i : Nat))) (fun x hx => ?_)
  unfold sw
  by_cases h1 : x = j
  · rw [if_pos h1]
    by_cases h2 : x = i
    · rw [if_pos h2]; subst h1; subst h2; rfl
    · rw [if_neg h2, if_pos h1]
  · rw [if_neg h1]
    by_cases h2 : x = i
    · rw [if_pos h2, if_pos h2]
    · rw [if_neg h2, if_neg h2, if_neg h1]
set_option maxRecDepth 100000 in
set_option maxHeartbeats 4000000 in
theorem swapRange_any (D : Nat → Nat) (g N cap a b k : Nat) (fv : Value) (w : World) (h : RI w g N D) (hab : a + k ≤ b) (hb : b + k ≤ N) (hN : N ≤ 1000) :
    Calls Try.prog 62 #[.slice (some ⟨g, 0, none⟩) N cap, .int .i64 a, .int .i64 b, .int .i64 k, fv] w fun e w' => e = .returned (.tuple #[]) ∧ RI w' g N (swp D a b k) ∧ ButG g w w' := by
  have H := hide h
  have hNi : (N : Int) ≤ 1000 := by omega
  clear h
  go_enter Try.func62, Try.ntmps62
  go_wp2
  go_loopw [10] (fun i wr => ∃ j : Nat, j ≤ k ∧ i = .int .i64 j ∧ RI wr g N (swp D a b j) ∧ ButG g w wr) (fun i _ => k - (intOf i).toNat)
  case atStart => exact ⟨0, Nat.zero_le _, rfl, by rw [swp_zero]; exact unhide H, ButG.refl _ _⟩
  case round =>
    obtain ⟨j, hj, rfl, hr, hbw⟩ := hrel
    by_cases hlt : j < k
    · have hki : (j : Int) < (k : Int) := by omega
      have hst := swp_step D a b j (by omega)
      generalize swp D a b j = C at *
      have hs := hr.swap (a + j) (b + j)
      rw [hst] at hs
      have c0 := hr.cell (i := a + j) (by omega)
      have c1 := hr.cell (i := b + j) (by omega)
      have f0 := hr.frozen (a + j)
      have f1 := hr.frozen (b + j)
      have e0 : IntKind.i64.wrap ((a : Int) + (j : Int)) = ((a + j : Nat) : Int) := by rw [IntKind.wrap_i64]; omega
      have e1 : IntKind.i64.wrap ((b : Int) + (j : Int)) = ((b + j : Nat) : Int) := by rw [IntKind.wrap_i64]; omega
      have l0 : ((a + j : Nat) : Int) < (N : Int) := by omega
      have l1 : ((b + j : Nat) : Int) < (N : Int) := by omega
      have hne : a + j < b + j := by omega
      have hbs := (hbw.setCell (a + j) (.int .i64 (C (b + j) : Nat))).setCell (b + j) (.int .i64 (C (a + j) : Nat))
      generalize a + j = p at *
      generalize b + j = q at *
      have HS := hide hs; have HB := hide hbs
      clear hst hs hbs hr hbw
      go_wp2_with fail
      go_region
      go_wp2
      go_roundw
      case rel => exact ⟨j + 1, by omega, by go_num, (unhide HS).drewN 1, (unhide HB).drewN 1⟩
      case measure => simp [intOf]; omega
    · obtain rfl : j = k := by omega
      go_wp2
      go_end0
      exact ⟨rfl, hr, hbw⟩
end Go.Proofs.Ytbnpajijbdddiaa
