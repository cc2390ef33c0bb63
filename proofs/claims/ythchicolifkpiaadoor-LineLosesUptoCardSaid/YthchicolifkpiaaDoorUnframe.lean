/- A frame is read (A1): Unframe of the program. -/
import Derived.Test.YthchicolifkpiaaDoorFrame4
import Derived.Laws.ResultCell
namespace Go.Proofs.YthchicolifkpiaaDoor
open Go.RowKit
set_option linter.unusedVariables false
attribute [local go_sem ↓] Go.wp_at_zero Go.wp_at_succ

abbrev noBlk : Value := blk 0 0 false false ⟨#[]⟩

theorem extract_zero (s : ByteArray) (k : Nat) : (s.extract 0 k).data.toList = s.data.toList.take k := by
  rw [ByteArray.data_extract, Array.toList_extract]
  simp

set_option maxRecDepth 100000 in
set_option maxHeartbeats 2000000 in
theorem unframe_short (s : ByteArray) (w : World) (hs : s.size < 4) :
    Calls Tryd.prog 25 #[.string s] w fun e w' => e = .returned (.tuple #[noBlk, .int .i64 1]) ∧ Below w.heap.size w w' := by
  go_enter Tryd.func25, Tryd.ntmps25
  go_wp2
  exact bodyPost_ret (v := .tuple #[noBlk, .int .i64 1]) (by simp [results, Tryd.results25, go_sem]) rfl ⟨rfl, (Below.refl _ _).alloc (Nat.le_refl _) _⟩

set_option maxRecDepth 100000 in
set_option maxHeartbeats 2000000 in
theorem unframe_length (s : ByteArray) (w : World) (hs : 4 ≤ s.size) (hm : s.size ≤ 9223372036854775807) (h : s.size ≠ 4 + byteAt s 1 ∨ 15 < byteAt s 0) :
    Calls Tryd.prog 25 #[.string s] w fun e w' => e = .returned (.tuple #[noBlk, .int .i64 1]) ∧ Below w.heap.size w w' := by
  have g0 := get_byte s 0
  have g1 := get_byte s 1
  have l0 := byteAt_lt s 0
  have l1 := byteAt_lt s 1
  generalize byteAt s 0 = b0 at *
  generalize byteAt s 1 = b1 at *
  by_cases hne : s.size = 4 + b1
  · have h15 : 15 < b0 := by omega
    have t1 : ((s.size : Int) != 4 + (b1 : Int)) = false := by rw [bne_eq_false_iff_eq]; omega
    clear h hne
    go_enter Tryd.func25, Tryd.ntmps25
    go_wp2
    exact bodyPost_ret (v := .tuple #[noBlk, .int .i64 1]) (by simp [results, Tryd.results25, go_sem]) rfl ⟨rfl, (Below.refl _ _).alloc (Nat.le_refl _) _⟩
  · have t1 : ((s.size : Int) != 4 + (b1 : Int)) = true := by rw [bne_iff_ne]; omega
    clear h hne
    go_enter Tryd.func25, Tryd.ntmps25
    go_wp2
    exact bodyPost_ret (v := .tuple #[noBlk, .int .i64 1]) (by simp [results, Tryd.results25, go_sem]) rfl ⟨rfl, (Below.refl _ _).alloc (Nat.le_refl _) _⟩

theorem or_u16 (a b : Nat) (ha : a < 256) (hb : b < 256) : bits .or .u16 ((a : Int) * 256) b = ((a * 256 + b : Nat) : Int) := by
  rw [bits_join .u16 16 (by decide) wraps_u16 8 _ _ (by omega) (by omega) (by omega) (by omega) (by omega) (by omega)]
  omega

theorem below_cells {B : Nat} {a w : World} (h : Below B a w) (v0 v1 v2 v3 v4 : Value) (g : Nat) (hg : B ≤ g) :
    Below B a (((((w.setCell ⟨g, 0, none⟩ v0).setCell ⟨g, 1, none⟩ v1).setCell ⟨g, 2, none⟩ v2).setCell ⟨g, 3, none⟩ v3).setCell ⟨g, 4, none⟩ v4) :=
  ((((h.setCell hg _).setCell hg _).setCell hg _).setCell hg _).setCell hg _

set_option maxRecDepth 100000 in
set_option maxHeartbeats 2000000 in
theorem unframe_sum (s : ByteArray) (w : World) (ht : Tab w) (hw0 : 0 < w.heap.size) (hs : s.size = 4 + byteAt s 1) (h15 : byteAt s 0 ≤ 15) (hne : sumN (s.data.toList.take (s.size - 2)) ≠ byteAt s (s.size - 2) * 256 + byteAt s (s.size - 1)) :
    Calls Tryd.prog 25 #[.string s] w fun e w' => e = .returned (.tuple #[noBlk, .int .i64 9]) ∧ Below w.heap.size w w' := by
  obtain ⟨k, hk⟩ : ∃ k, k = s.size - 2 := ⟨_, rfl⟩
  have g0 := get_byte s 0
  have g1 := get_byte s 1
  have gk := get_byte s k
  have gl := get_byte s (k + 1)
  have l0 := byteAt_lt s 0
  have l1 := byteAt_lt s 1
  have lk := byteAt_lt s k
  have ll := byteAt_lt s (k + 1)
  rw [← hk, show s.size - 1 = k + 1 by omega] at hne
  have o1 := or_u16 _ _ lk ll
  generalize byteAt s 0 = b0 at *
  generalize byteAt s 1 = b1 at *
  generalize byteAt s k = x at *
  generalize byteAt s (k + 1) = y at *
  have t1 : ((s.size : Int) != 4 + (b1 : Int)) = false := by rw [bne_eq_false_iff_eq]; omega
  have hk2 : (s.size : Int) - 2 = (k : Int) := by omega
  have e0 : 2 ≤ k := by omega
  have e1 : s.size ≤ k + 2 := by omega
  have e2 : k + 2 ≤ s.size := by omega
  have e3 : k ≤ 300 := by omega
  have e4 : (k : Int) ≤ (s.size : Int) := by omega
  have e5 : (k : Int) < (s.size : Int) := by omega
  have e6 : (k : Int) + 1 < (s.size : Int) := by omega
  have hsum := fun w' (h : Tab w') => sum_any (s.extract 0 k) w' (by rw [ByteArray.size_extract]; unfold maxLen; omega) h
  rw [extract_zero] at hsum
  have t2 : (((sumN (s.data.toList.take k) : Nat) : Int) != ((x * 256 + y : Nat) : Int)) = true := by rw [bne_iff_ne]; omega
  generalize sumN (s.data.toList.take k) = v at *
  generalize x * 256 + y = u at *
  have HS := hide hsum
  clear hsum hs hk hne
  have htw := fun o q => ht.below (below_drewN ((Below.refl w.heap.size w).alloc (Nat.le_refl _) o) q) hw0
  have HT := hide htw
  clear ht htw
  go_enter Tryd.func25, Tryd.ntmps25
  go_wp2_with fail
  go_quiet ((go_at_call 34; exact Calls.quiet_of_same (unhide HS _ (unhide HT _ _))))
  go_wp2
  exact bodyPost_ret (v := .tuple #[noBlk, .int .i64 9]) (by simp [results, Tryd.results25, go_sem]) rfl ⟨rfl, below_cells (below_drewN ((Below.refl _ _).alloc (Nat.le_refl _) _) _) _ _ _ _ _ _ (Nat.le_refl _)⟩

theorem two_blocks (w : World) (q : Nat) (c d : Array Value) (e : TypeId) :
    (∀ i v, d[i]? = some v → (((w.alloc (.cells c e)).drewN q).alloc (.cells d e)).cell? ⟨w.heap.size + 1, i, none⟩ = some v) ∧
    (∀ i v, c[i]? = some v → (((w.alloc (.cells c e)).drewN q).alloc (.cells d e)).cell? ⟨w.heap.size, i, none⟩ = some v) ∧
    (∀ i, (((w.alloc (.cells c e)).drewN q).alloc (.cells d e)).frozen? ⟨w.heap.size, i, none⟩ = false) := by
  have hs : ((w.alloc (.cells c e)).drewN q).heap.size = w.heap.size + 1 := by simp
  have h1 : (((w.alloc (.cells c e)).drewN q).alloc (.cells d e)).heap[w.heap.size + 1]? = some (.cells d e (0, 0)) := by
    rw [← hs]; exact heap_alloc_new _ _
  have h0 : (((w.alloc (.cells c e)).drewN q).alloc (.cells d e)).heap[w.heap.size]? = some (.cells c e (0, 0)) := by
    rw [Below.heap_alloc _ _ _ (by rw [hs]; omega)]
    exact heap_alloc_new w _
  exact ⟨fun i v hv => (cell_of_row _ _ i d e _ h1).trans hv, fun i v hv => (cell_of_row _ _ i c e _ h0).trans hv, fun i => frozen_of_row _ _ i c e h0⟩

theorem and_bits : ∀ b : Fin 16, bits .and .u8 (b.val : Int) 1 = ((b.val % 2 : Nat) : Int) ∧ bits .and .u8 (b.val : Int) 2 = ((b.val / 2 % 2 * 2 : Nat) : Int) ∧ bits .and .u8 (b.val : Int) 4 = ((b.val / 4 % 2 * 4 : Nat) : Int) ∧ bits .and .u8 (b.val : Int) 8 = ((b.val / 8 % 2 * 8 : Nat) : Int) := by decide

set_option maxRecDepth 100000 in
set_option maxHeartbeats 2000000 in
theorem unframe_rest (s : ByteArray) (w : World) (ht : Tab w) (hw0 : 0 < w.heap.size) (hs : s.size = 4 + byteAt s 1) (h15 : byteAt s 0 ≤ 15) (hne : sumN (s.data.toList.take (s.size - 2)) = byteAt s (s.size - 2) * 256 + byteAt s (s.size - 1)) (t n : Nat) (m hh : Bool)
    (et : byteAt s 0 % 2 = t) (en : byteAt s 0 / 2 % 2 = n) (em : (byteAt s 0 / 4 % 2 == 1) = m) (eh : (byteAt s 0 / 8 % 2 == 1) = hh) (er : Int) (he : checkE t n m hh (s.extract 2 (s.size - 2)) = er) :
    Calls Tryd.prog 25 #[.string s] w fun e w' => e = .returned (.tuple #[if er = 0 then blk t n m hh (s.extract 2 (s.size - 2)) else noBlk, .int .i64 er]) ∧ Below w.heap.size w w' := by
  have ab := and_bits ⟨byteAt s 0, by omega⟩
  simp only at ab
  obtain ⟨a1, a2, a3, a4⟩ := ab
  rw [et] at a1
  have ht1 : t ≤ 1 := by omega
  have hn1 : n ≤ 1 := by omega
  have hn2 : byteAt s 0 / 2 % 2 * 2 ≤ 2 := by omega
  have a2' : ((byteAt s 0 / 2 % 2 * 2 : Nat) : Int) / 2 = (n : Int) := by omega
  have a3' : (((byteAt s 0 / 4 % 2 * 4 : Nat) : Int) != 0) = m := by
    rw [← em, Bool.eq_iff_iff]; simp; omega
  have a4' : (((byteAt s 0 / 8 % 2 * 8 : Nat) : Int) != 0) = hh := by
    rw [← eh, Bool.eq_iff_iff]; simp; omega
  generalize byteAt s 0 / 2 % 2 * 2 = n2 at *
  generalize byteAt s 0 / 4 % 2 * 4 = m4 at *
  generalize byteAt s 0 / 8 % 2 * 8 = h8 at *
  clear et en em eh
  obtain ⟨k, hk⟩ : ∃ k, k = s.size - 2 := ⟨_, rfl⟩
  have g0 := get_byte s 0
  have g1 := get_byte s 1
  have gk := get_byte s k
  have gl := get_byte s (k + 1)
  have l0 := byteAt_lt s 0
  have l1 := byteAt_lt s 1
  have lk := byteAt_lt s k
  have ll := byteAt_lt s (k + 1)
  rw [← hk] at he ⊢
  rw [← hk, show s.size - 1 = k + 1 by omega] at hne
  have o1 := or_u16 _ _ lk ll
  generalize byteAt s 0 = b0 at *
  generalize byteAt s 1 = b1 at *
  generalize byteAt s k = x at *
  generalize byteAt s (k + 1) = y at *
  have t1 : ((s.size : Int) != 4 + (b1 : Int)) = false := by rw [bne_eq_false_iff_eq]; omega
  have hk2 : (s.size : Int) - 2 = (k : Int) := by omega
  have e0 : 2 ≤ k := by omega
  have e1 : s.size ≤ k + 2 := by omega
  have e2 : k + 2 ≤ s.size := by omega
  have e3 : k ≤ 300 := by omega
  have e4 : (k : Int) ≤ (s.size : Int) := by omega
  have e5 : (k : Int) < (s.size : Int) := by omega
  have e6 : (k : Int) + 1 < (s.size : Int) := by omega
  have hsum := fun w' (h : Tab w') => sum_any (s.extract 0 k) w' (by rw [ByteArray.size_extract]; unfold maxLen; omega) h
  rw [extract_zero] at hsum
  have t2 : (((sumN (s.data.toList.take k) : Nat) : Int) != ((x * 256 + y : Nat) : Int)) = false := by rw [bne_eq_false_iff_eq]; omega
  generalize sumN (s.data.toList.take k) = v at *
  generalize x * 256 + y = u at *
  have HS := hide hsum
  have hc := fun w => check_any t n m hh (s.extract 2 k) w (by rw [ByteArray.size_extract]; unfold maxLen; omega)
  rw [he] at hc
  have HC := hide hc
  clear hsum hs hk hne hc he
  have htw := fun o q => ht.below (below_drewN ((Below.refl w.heap.size w).alloc (Nat.le_refl _) o) q) hw0
  have HT := hide htw
  clear ht htw
  go_enter Tryd.func25, Tryd.ntmps25
  go_wp2_with fail
  go_quiet ((go_at_call 34; exact Calls.quiet_of_same (unhide HS _ (unhide HT _ _))))
  go_wp2_with fail
  go_region
  go_wp2_with fail
  refine (unhide HC _).mono ?_
  rintro e w5 ⟨rfl, hb5⟩
  have hz5 : w.heap.size + 1 < w5.heap.size := by have := hb5.size; simp at this; omega
  have hbw : Below w.heap.size w w5 := ((below_drewN ((Below.refl _ _).alloc (Nat.le_refl _) _) _).alloc (by simp) _).trans (hb5.mono (by simp; omega))
  have d0 : w5.cell? ⟨w.heap.size + 1, 0, none⟩ = some (.int .i64 t) := below_keep hb5 (a := ⟨w.heap.size + 1, 0, none⟩) (v := .int .i64 t) ((two_blocks w _ _ _ _).1 0 _ rfl)
  have d1 : w5.cell? ⟨w.heap.size + 1, 1, none⟩ = some (.int .i64 n) := below_keep hb5 (a := ⟨w.heap.size + 1, 1, none⟩) (v := .int .i64 n) ((two_blocks w _ _ _ _).1 1 _ rfl)
  have d2 : w5.cell? ⟨w.heap.size + 1, 2, none⟩ = some (.bool m) := below_keep hb5 (a := ⟨w.heap.size + 1, 2, none⟩) (v := .bool m) ((two_blocks w _ _ _ _).1 2 _ rfl)
  have d3 : w5.cell? ⟨w.heap.size + 1, 3, none⟩ = some (.bool hh) := below_keep hb5 (a := ⟨w.heap.size + 1, 3, none⟩) (v := .bool hh) ((two_blocks w _ _ _ _).1 3 _ rfl)
  have d4 : w5.cell? ⟨w.heap.size + 1, 4, none⟩ = some (.string (s.extract 2 k)) := below_keep hb5 (a := ⟨w.heap.size + 1, 4, none⟩) (v := .string (s.extract 2 k)) ((two_blocks w _ _ _ _).1 4 _ rfl)
  have z0 : w5.cell? ⟨w.heap.size, 0, none⟩ = some (.int .i64 0) := below_keep hb5 (a := ⟨w.heap.size, 0, none⟩) (v := .int .i64 0) ((two_blocks w _ _ _ _).2.1 0 _ rfl)
  have z1 : w5.cell? ⟨w.heap.size, 1, none⟩ = some (.int .i64 0) := below_keep hb5 (a := ⟨w.heap.size, 1, none⟩) (v := .int .i64 0) ((two_blocks w _ _ _ _).2.1 1 _ rfl)
  have z2 : w5.cell? ⟨w.heap.size, 2, none⟩ = some (.bool false) := below_keep hb5 (a := ⟨w.heap.size, 2, none⟩) (v := .bool false) ((two_blocks w _ _ _ _).2.1 2 _ rfl)
  have z3 : w5.cell? ⟨w.heap.size, 3, none⟩ = some (.bool false) := below_keep hb5 (a := ⟨w.heap.size, 3, none⟩) (v := .bool false) ((two_blocks w _ _ _ _).2.1 3 _ rfl)
  have z4 : w5.cell? ⟨w.heap.size, 4, none⟩ = some (.string ⟨#[]⟩) := below_keep hb5 (a := ⟨w.heap.size, 4, none⟩) (v := .string ⟨#[]⟩) ((two_blocks w _ _ _ _).2.1 4 _ rfl)
  have f : ∀ o, w5.frozen? ⟨w.heap.size, o, none⟩ = false := fun o => (hb5.frozen (p := ⟨w.heap.size, o, none⟩) (by simp; omega)).trans ((two_blocks w _ _ _ _).2.2 o)
  have hsze : w.heap.size < w5.heap.size := by omega
  clear hb5
  by_cases he0 : er = 0
  · have t3 : (er != 0) = false := by rw [he0]; rfl
    have HE := hide he0
    clear he0
    go_wp2
    exact bodyPost_ret (v := .tuple #[blk t n m hh (s.extract 2 k), .int .i64 er]) (by rw [unhide HE]; simp [results, Tryd.results25, go_sem, z0, z1, z2, z3, z4]) rfl ⟨by rw [unhide HE], below_cells hbw _ _ _ _ _ _ (Nat.le_refl _)⟩
  · have t3 : (er != 0) = true := by simpa using he0
    have HE := hide he0
    clear he0
    go_wp2
    exact bodyPost_ret (v := .tuple #[noBlk, .int .i64 er]) (by simp [results, Tryd.results25, go_sem, z0, z1, z2, z3, z4]) rfl ⟨rfl, below_cells hbw _ _ _ _ _ _ (Nat.le_refl _)⟩
end Go.Proofs.YthchicolifkpiaaDoor
