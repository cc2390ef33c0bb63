/- The big numbers themselves: give, SetBytes. -/
import Derived.Test.YtckkhpegimkefaaM27
import Derived.Test.YtckkhpegimkefaaM00
import Derived.Deep.RegionHeld3
namespace Go.Proofs.Ytckkhpegimkefaa
open Go.RowKit
set_option linter.unusedVariables false

/-- a number's box, whatever lies there -/
def BoxAt3 (w : World) (p : Nat) (b : Bool) (v : Value) : Prop := w.heap[p]? = some (.cells #[.bool b, v] 60 (0, 0)) ∧ ∃ ao n cap, v = .slice ao n cap
/-- a number, not below 0, at a pointer -/
def IntAt (w : World) (p n : Nat) : Prop := ∃ v, BoxAt3 w p false v ∧ BigV w v n
theorem heap_lt {w : World} {g : Nat} {o : Obj} (h : w.heap[g]? = some o) : g < w.heap.size := by
  rcases Nat.lt_or_ge g w.heap.size with h' | h'
  · exact h'
  · rw [Array.getElem?_eq_none h'] at h; cases h
theorem BoxAt3.below {w w' : World} {p : Nat} {b : Bool} {v : Value} (h : BoxAt3 w p b v) (hb : Below w.heap.size w w') : BoxAt3 w' p b v :=
  ⟨(hb.block p (heap_lt h.1)).trans h.1, h.2⟩
theorem IntAt.below {w w' : World} {p n : Nat} (h : IntAt w p n) (hb : Below w.heap.size w w') : IntAt w' p n := by
  obtain ⟨v, h1, h2⟩ := h
  exact ⟨v, h1.below hb, h2.below hb⟩
/-- words lie in no box -/
theorem BigV.box {w w' : World} {v : Value} {n p : Nat} {b : Bool} {v0 : Value} (h : BigV w v n) (hp : BoxAt3 w p b v0) (hs : w.heap.size ≤ w'.heap.size) (ho : ∀ k, k < w.heap.size → k ≠ p → w'.heap[k]? = w.heap[k]?) : BigV w' v n := by
  obtain ⟨ao, cap, rfl, hr⟩ := h
  refine ⟨ao, cap, rfl, ?_⟩
  rcases hr with h0 | ⟨g, off, rfl, hg, hc⟩
  · exact .inl h0
  · refine .inr ⟨g, off, rfl, by omega, fun i x hi => ?_⟩
    have hx := hc i x hi
    have hgp : g ≠ p := by
      intro e
      subst e
      rw [cell_of_row _ _ _ _ _ _ hp.1] at hx
      obtain ⟨_, a2, n2, c2, rfl⟩ := hp
      match off + i, hx with
      | 0, hx => simp at hx
      | 1, hx => simp at hx
      | m + 2, hx => simp at hx
    unfold World.cell? at *
    rw [ho g hg hgp]
    exact hx
set_option maxHeartbeats 1000000 in
theorem give_any (p n : Nat) (b0 : Bool) (v0 v : Value) (w : World) (hp : BoxAt3 w p b0 v0) (hv : BigV w v n) :
    Calls Try.prog 55 #[.pointer (some ⟨p, 0, none⟩), .bool false, v] w fun e w' => e = .returned (.pointer (some ⟨p, 0, none⟩)) ∧ IntAt w' p n ∧ (∀ B, B ≤ p → Below B w w') ∧ (∀ k, k < w.heap.size → k ≠ p → w'.heap[k]? = w.heap[k]?) ∧ w'.heap.size = w.heap.size := by
  obtain ⟨ao, cap, hvv, _⟩ := id hv
  have c0 : w.cell? ⟨p, 0, none⟩ = some (.bool b0) := by rw [cell_of_row _ _ _ _ _ _ hp.1]; rfl
  have c1 : w.cell? ⟨p, 1, none⟩ = some v0 := by rw [cell_of_row _ _ _ _ _ _ hp.1]; rfl
  have f0 : w.frozen? ⟨p, 0, none⟩ = false := frozen_of_row _ _ _ _ _ hp.1
  have f1 : w.frozen? ⟨p, 1, none⟩ = false := frozen_of_row _ _ _ _ _ hp.1
  obtain ⟨W, hW⟩ : ∃ W, W = (w.setCell ⟨p, 1, none⟩ v).setCell ⟨p, 0, none⟩ (.bool false) := ⟨_, rfl⟩
  have hsz : W.heap.size = w.heap.size := by rw [hW]; simp
  have ho : ∀ k, k ≠ p → W.heap[k]? = w.heap[k]? := fun k hk => by rw [hW]; simp [World.setCell, Array.getElem?_modify, Ne.symm hk]
  have hbox : BoxAt3 W p false v := ⟨by
    have h1 := hp.1
    rw [hW]
    simp [World.setCell, Array.getElem?_modify, h1], ao, _, cap, hvv⟩
  have hint : IntAt W p n := ⟨v, hbox, hv.box hp (by omega) (fun k _ hk => ho k hk)⟩
  have hbel : ∀ B, B ≤ p → Below B w W := fun B hB => by rw [hW]; exact ((Below.refl B w).setCell hB _).setCell hB _
  have HI := hide hint; have HB := hide hbel; have HO := hide (fun k (_ : k < w.heap.size) hk => ho k hk); have HZ := hide hsz; have HW := hide hW
  clear hint hbel ho hsz hW hbox hp
  subst hvv
  go_enter Try.func55, Try.ntmps55
  go_wp2
  rw [← unhide HW]
  go_ret
  exact ⟨rfl, unhide HI, unhide HB, unhide HO, unhide HZ⟩
theorem keep_cellB {w w' : World} {a : Addr} {v : Value} (h : Below w.heap.size w w') (hc : w.cell? a = some v) : w'.cell? a = some v := (h.cell (World.block_lt_of_cell? w a hc)).trans hc
theorem ext_callB {W x y : World} (h : Below W.heap.size W x) (k : Below x.heap.size x y) : Below W.heap.size W y := h.trans (k.mono h.size)
theorem B32_bytes (K : Nat) : B32 ^ K = 256 ^ (4 * K) := by rw [Nat.pow_mul]; rfl
theorem B32_mono {a b : Nat} (h : a ≤ b) : B32 ^ a ≤ B32 ^ b := Nat.pow_le_pow_right B32_pos h
theorem small_lt (x : Nat) (h : x < 4294967296) (K : Nat) (hK : 1 ≤ K) : x < B32 ^ K := by
  refine Nat.lt_of_lt_of_le (m := B32 ^ 1) ?_ (B32_mono hK)
  rw [Nat.pow_one]
  exact h
theorem valN_small (l : List UInt8) (K : Nat) (h : l.length ≤ 4 * K) : valN l < B32 ^ K := by
  refine Nat.lt_of_lt_of_le (valN_lt l) ?_
  rw [B32_bytes]
  exact Nat.pow_le_pow_right (by decide) h
set_option maxHeartbeats 4000000 in
set_option maxRecDepth 100000 in
theorem setBytes_any (s : ByteArray) (g cap p : Nat) (b0 : Bool) (v0 : Value) (w : World) (hB : ∀ i (h : i < s.size), w.cell? ⟨g, i, none⟩ = some (.int .u8 ((s[i]'h).toNat : Int))) (hg : g < w.heap.size) (hp : BoxAt3 w p b0 v0) (hs : (s.size : Int) ≤ 1000) :
    Calls Try.prog 51 #[.pointer (some ⟨p, 0, none⟩), .slice (some ⟨g, 0, none⟩) s.size cap] w fun e w' => e = .returned (.pointer (some ⟨p, 0, none⟩)) ∧ IntAt w' p (valN s.data.toList) ∧ (∀ B, B ≤ p → Below B w w') ∧ (∀ k, k < w.heap.size → k ≠ p → w'.heap[k]? = w.heap[k]?) ∧ w.heap.size ≤ w'.heap.size := by
  have HBB := hide hB; have HP := hide hp
  clear hB hp
  go_enter Try.func51, Try.ntmps51
  go_wp2
  go_loopw [5, 6] (fun v i wr => ∃ k : Nat, k ≤ s.size ∧ i = .int .i64 k ∧ BigV wr v (valN (s.data.toList.take k)) ∧ Below w.heap.size w wr) (fun _ i _ => s.size - (intOf i).toNat)
  case atStart => exact ⟨0, Nat.zero_le _, rfl, ⟨none, 0, by simp [valN, dig_zero], .inl (by simp [valN, dig_zero])⟩, Below.refl _ _⟩
  case round =>
    obtain ⟨k, hk, rfl, hv, hbw⟩ := hrel
    have hsl : s.data.toList.length = s.size := by simp
    by_cases hlt : k < s.size
    · have hc : wr.cell? ⟨g, k, none⟩ = some (.int .u8 ((s[k]'hlt).toNat : Int)) := (hbw.cell (p := ⟨g, k, none⟩) hg).trans (unhide HBB k hlt)
      have hsn := valN_snoc (s.data.toList.take k) s[k]
      rw [← take_snoc s k hlt] at hsn
      have hvb' := valN_small (s.data.toList.take k) 10000 (by rw [List.length_take]; omega)
      have hvb2' := valN_small (s.data.toList.take (k + 1)) 10000 (by rw [List.length_take]; omega)
      have hbyte : s[k].toNat < 256 := s[k].toNat_lt
      generalize hxx : s[k].toNat = x at *
      generalize hAA : valN (s.data.toList.take k) = A at *
      have N1 := hide (fun w' (hb : Below wr.heap.size wr w') => left8_any A u5 w' (hv.below hb) hvb')
      have N2 := hide (fun w' => words_any x (by clear hvb' hvb2' N1; omega) w')
      have hA256 : A * 256 < B32 ^ 10000 := by
        refine Nat.lt_of_le_of_lt (Nat.le_add_right _ x) ?_
        rw [← hsn]; exact hvb2'
      have hx10 := small_lt x (by clear hvb' hvb2' hA256 N1; omega) 10000 (by decide)
      have N3 := hide (fun (va vb : Value) w' h1 h2 => add_any (A * 256) x va vb w' h1 h2 hA256 hx10)
      have HSN := hide hsn; have HBW := hide hbw
      clear hvb' hvb2' hA256 hx10
      have wx : IntKind.u64.wrap (x : Int) = (x : Int) := wraps_u64 _ (by omega) (by omega)
      have hki : (k : Int) < (s.size : Int) := by omega
      clear hsn hAA hxx hv hbw
      go_wp2_with fail
      go_region_held3 (fun w' => w'.cell? ⟨g, k, none⟩ = some (.int .u8 (x : Int)))
        (first
          | exact hs3
          | exact hs2
          | exact hs1
          | go_keep)
        ((first
          | (have hq := k2; go_at_call 75; refine (unhide N3 _ _ _ (h1.below k2) h2).mono ?_; rintro e y3 ⟨⟨v3, rfl, h3⟩, k3⟩; have hs3 := keep_cellB k3 hs2)
          | (have hq := k1; go_at_call 61; refine (unhide N2 _).mono ?_; rintro e y2 ⟨⟨v2, rfl, h2⟩, k2⟩; have hs2 := keep_cellB k2 hs1)
          | (go_at_call 76; refine (unhide N1 _ (Below.refl _ _).drew).mono ?_; rintro e y1 ⟨⟨v1, rfl, h1⟩, k1⟩; have hs1 : y1.cell? ⟨g, k, none⟩ = some (.int .u8 (x : Int)) := keep_cellB k1 hc)))
      all_goals
        have hb3 := ext_callB (ext_callB (ext_callB (unhide HBW).drew k1) k2) k3
        have H3 := hide h3; have HB3 := hide hb3
        clear k1 k2 k3 h1 h2 h3 hb3
        go_wp2
        go_roundw
        case rel => exact ⟨k + 1, by omega, by go_num, by rw [unhide HSN]; exact unhide H3, unhide HB3⟩
        case measure => simp [intOf]; omega
    · rw [List.take_of_length_le (by omega)] at hv
      have hpr := (unhide HP).below hbw
      have N4 := hide (give_any p _ b0 v0 u5 wr hpr hv)
      have hpl := heap_lt (unhide HP).1
      have HBW := hide hbw
      clear hv hpr hbw
      go_wp2_with fail
      refine (unhide N4).mono ?_
      rintro e w2 ⟨rfl, hint, hbel, ho, hsz⟩
      have hbw := unhide HBW
      have R1 := hide hint
      have R2 : Hid (∀ B, B ≤ p → Below B w w2) := hide (fun B hB' => (hbw.mono (by omega)).trans (hbel B hB'))
      have R3 : Hid (∀ k, k < w.heap.size → k ≠ p → w2.heap[k]? = w.heap[k]?) := hide (fun k hk1 hk2 => (ho k (by have := hbw.size; omega) hk2).trans (hbw.block k hk1))
      have R4 : Hid (w.heap.size ≤ w2.heap.size) := hide (by have := hbw.size; omega)
      clear hint hbel ho hsz hbw
      go_wp2
      go_ret
      exact ⟨rfl, unhide R1, unhide R2, unhide R3, unhide R4⟩
end Go.Proofs.Ytckkhpegimkefaa
namespace Go.Proofs.Ytckkhpegimkefaa
open Go.RowKit
set_option linter.unusedVariables false

theorem cell_heapB {w w' : World} {a : Addr} {v : Value} (h : w.cell? a = some v) (hh : w'.heap[a.block]? = w.heap[a.block]?) : w'.cell? a = some v := by
  unfold World.cell? at *
  rw [hh]
  exact h
theorem BoxAt3.cells {w : World} {p : Nat} {b : Bool} {v : Value} (h : BoxAt3 w p b v) : w.cell? ⟨p, 0, none⟩ = some (.bool b) ∧ w.cell? ⟨p, 1, none⟩ = some v :=
  ⟨by rw [cell_of_row _ _ _ _ _ _ h.1]; rfl, by rw [cell_of_row _ _ _ _ _ _ h.1]; rfl⟩
set_option maxHeartbeats 4000000 in
set_option maxRecDepth 100000 in
theorem bigMul_any (p px py a b : Nat) (b0 : Bool) (v0 : Value) (w : World) (hp : BoxAt3 w p b0 v0) (hx : IntAt w px a) (hy : IntAt w py b) (hpx : px ≠ p) (hpy : py ≠ p) (hla : a < B32 ^ 5000) (hlb : b < B32 ^ 5000) :
    Calls Try.prog 25 #[.pointer (some ⟨p, 0, none⟩), .pointer (some ⟨px, 0, none⟩), .pointer (some ⟨py, 0, none⟩)] w fun e w' => e = .returned (.pointer (some ⟨p, 0, none⟩)) ∧ IntAt w' p (a * b) ∧ (∀ B, B ≤ p → Below B w w') ∧ (∀ k, k < w.heap.size → k ≠ p → w'.heap[k]? = w.heap[k]?) ∧ w.heap.size ≤ w'.heap.size := by
  obtain ⟨va, hbx, hva⟩ := hx
  obtain ⟨vb, hby, hvb⟩ := hy
  have hplt := heap_lt hp.1
  have hxlt := heap_lt hbx.1
  have hylt := heap_lt hby.1
  have hS : ∀ w' : World, (∀ k, k < w.heap.size → k ≠ p → w'.heap[k]? = w.heap[k]?) → w'.cell? ⟨px, 0, none⟩ = some (.bool false) ∧ w'.cell? ⟨px, 1, none⟩ = some va ∧ w'.cell? ⟨py, 0, none⟩ = some (.bool false) ∧ w'.cell? ⟨py, 1, none⟩ = some vb := fun w' ho =>
    ⟨cell_heapB hbx.cells.1 (ho px hxlt hpx), cell_heapB hbx.cells.2 (ho px hxlt hpx), cell_heapB hby.cells.1 (ho py hylt hpy), cell_heapB hby.cells.2 (ho py hylt hpy)⟩
  have N1 := hide (fun w' (hb : Below w.heap.size w w') => mul_any a b va vb w' (hva.below hb) (hvb.below hb) hla hlb)
  have N2 := hide (fun w' (hb : Below w.heap.size w w') v (hv : BigV w' v (a * b)) => give_any p (a * b) b0 v0 v w' (hp.below hb) hv)
  have hs0 := hS w (fun _ _ _ => rfl)
  obtain ⟨_, x1, x2, x3, hxv⟩ := hbx
  obtain ⟨_, y1, y2, y3, hyv⟩ := hby
  subst hxv hyv
  have HS := hide hS
  clear hla hlb hva hvb hp hS
  go_enter Try.func25, Try.ntmps25
  go_wp2_with fail
  go_region_held3 (fun w' => w'.cell? ⟨px, 0, none⟩ = some (.bool false) ∧ w'.cell? ⟨px, 1, none⟩ = some (.slice x1 x2 x3) ∧ w'.cell? ⟨py, 0, none⟩ = some (.bool false) ∧ w'.cell? ⟨py, 1, none⟩ = some (.slice y1 y2 y3))
    (first
      | exact hs2
      | exact hs1
      | exact hs0)
    ((first
      | (have hq := k1; go_at_call 55; refine (unhide N2 _ k0 _ h1).mono ?_; rintro e y2 ⟨rfl, hint, hbel, ho, hsz⟩; have hs2 := unhide HS y2 (fun k hk1 hk2 => (ho k (by have := k0.size; omega) hk2).trans (k0.block k hk1)))
      | (go_at_call 56; refine (unhide N1 _ (Below.refl _ _).drew).mono ?_; rintro e y1 ⟨⟨v1, rfl, h1⟩, k1⟩; have k0 : Below w.heap.size w y1 := (Below.refl _ _).drew.trans k1; have hs1 := unhide HS y1 (fun k hk1 hk2 => k0.block k hk1))))
  all_goals
    have R2 : Hid (∀ B, B ≤ p → Below B w y2) := hide (fun B hB' => (k0.mono (by omega)).trans (hbel B hB'))
    have R3 : Hid (∀ k, k < w.heap.size → k ≠ p → y2.heap[k]? = w.heap[k]?) := hide (fun k hk1 hk2 => (ho k (by have := k0.size; omega) hk2).trans (k0.block k hk1))
    have R4 : Hid (w.heap.size ≤ y2.heap.size) := hide (by have := k0.size; omega)
    have R1 := hide hint
    clear hint hbel ho hsz k0 k1 h1
    go_wp2
    go_ret
    exact ⟨rfl, unhide R1, unhide R2, unhide R3, unhide R4⟩
end Go.Proofs.Ytckkhpegimkefaa
