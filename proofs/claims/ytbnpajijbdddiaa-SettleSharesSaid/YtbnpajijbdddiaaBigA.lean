/- The big numbers themselves: give, SetBytes. -/
import Derived.Test.YtbnpajijbdddiaaBig9
import Derived.Test.YtbnpajijbdddiaaVal
import Derived.Deep.RegionHeld3
namespace Go.Proofs.Ytbnpajijbdddiaa
open Go.RowKit
set_option linter.unusedVariables false

/-- a number's box, whatever lies there -/
def BoxAt3 (w : World) (p : Nat) (b : Bool) (v : Value) : Prop := w.heap[p]? = some (.cells #[.bool b, v] 60 (0, 0)) ∧ ∃ ao n cap, v = .slice ao n cap
/-- a number, not below 0, at a pointer -/
def IntAt (w : World) (p n : Nat) : Prop := ∃ v, BoxAt3 w p false v ∧ BigV w v n
theorem heap_lt {w : World} {g : Nat} {o : Obj} (h : w.heap[g]? = some o) : g < w.heap.size := by
  rcases Nat.lt_or_ge g w.heap.size with h' | h'
  · exact h'
  · rw [Array.getElem?_eq_none h'] at h; cases h
theorem BoxAt3.below {w w' : World} {p : Nat} {b : Bool} {v : Value} (h : BoxAt3 w p b v) (hb : Below w.heap.size w w') : BoxAt3 w' p b v :=
  ⟨(hb.block p (heap_lt h.1)).trans h.1, h.2⟩
theorem IntAt.below {w w' : World} {p n : Nat} (h : IntAt w p n) (hb : Below w.heap.size w w') : IntAt w' p n := by
  obtain ⟨v, h1, h2⟩ := h
  exact ⟨v, h1.below hb, h2.below hb⟩
/-- words lie in no box -/
theorem BigV.box {w w' : World} {v : Value} {n p : Nat} {b : Bool} {v0 : Value} (h : BigV w v n) (hp : BoxAt3 w p b v0) (hs : w.heap.size ≤ w'.heap.size) (ho : ∀ k, k < w.heap.size → k ≠ p → w'.heap[k]? = w.heap[k]?) : BigV w' v n := by
  obtain ⟨ao, cap, rfl, hr⟩ := h
  refine ⟨ao, cap, rfl, ?_⟩
  rcases hr with h0 | ⟨g, off, rfl, hg, hc⟩
  · exact .inl h0
  · refine .inr ⟨g, off, rfl, by omega, fun i x hi => ?_⟩
    have hx := hc i x hi
    have hgp : g ≠ p := by
      intro e
      subst e
      rw [cell_of_row _ _ _ _ _ _ hp.1] at hx
      obtain ⟨_, a2, n2, c2, rfl⟩ := hp
      match off + i, hx with
      | 0, hx => simp at hx
      | 1, hx => simp at hx
      | m + 2, hx => simp at hx
    unfold World.cell? at *
    rw [ho g hg hgp]
    exact hx
set_option maxHeartbeats 1000000 in
theorem give_any (p n : Nat) (b0 : Bool) (v0 v : Value) (w : World) (hp : BoxAt3 w p b0 v0) (hv : BigV w v n) :
    Calls Try.prog 41 #[.pointer (some ⟨p, 0, none⟩), .bool false, v] w fun e w' => e = .returned (.pointer (some ⟨p, 0, none⟩)) ∧ IntAt w' p n ∧ (∀ B, B ≤ p → Below B w w') ∧ (∀ k, k < w.heap.size → k ≠ p → w'.heap[k]? = w.heap[k]?) ∧ w'.heap.size = w.heap.size := by
  obtain ⟨ao, cap, hvv, _⟩ := id hv
  have c0 : w.cell? ⟨p, 0, none⟩ = some (.bool b0) := by rw [cell_of_row _ _ _ _ _ _ hp.1]; rfl
  have c1 : w.cell? ⟨p, 1, none⟩ = some v0 := by rw [cell_of_row _ _ _ _ _ _ hp.1]; rfl
  have f0 : w.frozen? ⟨p, 0, none⟩ = false := frozen_of_row _ _ _ _ _ hp.1
  have f1 : w.frozen? ⟨p, 1, none⟩ = false := frozen_of_row _ _ _ _ _ hp.1
  obtain ⟨W, hW⟩ : ∃ W, W = (w.setCell ⟨p, 1, none⟩ v).setCell ⟨p, 0, none⟩ (.bool false) := ⟨_, rfl⟩
  have hsz : W.heap.size = w.heap.size := by rw [hW]; simp
  have ho : ∀ k, k ≠ p → W.heap[k]? = w.heap[k]? := fun k hk => by rw [hW]; simp [World.setCell, Array.getElem?_modify, Ne.symm hk]
  have hbox : BoxAt3 W p false v := ⟨by
    have h1 := hp.1
    rw [hW]
    simp [World.setCell, Array.getElem?_modify, h1], ao, _, cap, hvv⟩
  have hint : IntAt W p n := ⟨v, hbox, hv.box hp (by omega) (fun k _ hk => ho k hk)⟩
  have hbel : ∀ B, B ≤ p → Below B w W := fun B hB => by rw [hW]; exact ((Below.refl B w).setCell hB _).setCell hB _
  have HI := hide hint; have HB := hide hbel; have HO := hide (fun k (_ : k < w.heap.size) hk => ho k hk); have HZ := hide hsz; have HW := hide hW
  clear hint hbel ho hsz hW hbox hp
  subst hvv
  go_enter Try.func41, Try.ntmps41
  go_wp2
  rw [← unhide HW]
  go_ret
  exact ⟨rfl, unhide HI, unhide HB, unhide HO, unhide HZ⟩
theorem keep_cellB {w w' : World} {a : Addr} {v : Value} (h : Below w.heap.size w w') (hc : w.cell? a = some v) : w'.cell? a = some v := (h.cell (World.block_lt_of_cell? w a hc)).trans hc
theorem ext_callB {W x y : World} (h : Below W.heap.size W x) (k : Below x.heap.size x y) : Below W.heap.size W y := h.trans (k.mono h.size)
theorem B32_bytes (K : Nat) : B32 ^ K = 256 ^ (4 * K) := by rw [Nat.pow_mul]; rfl
theorem B32_mono {a b : Nat} (h : a ≤ b) : B32 ^ a ≤ B32 ^ b := Nat.pow_le_pow_right B32_pos h
theorem small_lt (x : Nat) (h : x < 4294967296) (K : Nat) (hK : 1 ≤ K) : x < B32 ^ K := by
  refine Nat.lt_of_lt_of_le (m := B32 ^ 1) ?_ (B32_mono hK)
  rw [Nat.pow_one]
  exact h
theorem valN_small (l : List UInt8) (K : Nat) (h : l.length ≤ 4 * K) : valN l < B32 ^ K := by
  refine Nat.lt_of_lt_of_le (valN_lt l) ?_
  rw [B32_bytes]
  exact Nat.pow_le_pow_right (by decide) h
end Go.Proofs.Ytbnpajijbdddiaa
