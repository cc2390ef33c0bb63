/- A frame is read (A1): Unframe of the reference. -/
import Derived.Test.YthchicolifkpiaaDoorUnframe
import Derived.Lib.Strings
namespace Go.Proofs.YthchicolifkpiaaDoor
open Go.RowKit
set_option linter.unusedVariables false
attribute [local go_sem ↓] Go.wp_at_zero Go.wp_at_succ

set_option maxRecDepth 100000 in
set_option maxHeartbeats 2000000 in
theorem runframe_short (s : ByteArray) (w : World) (hs : s.size < 4) :
    Calls Tryd.prog 23 #[.string s] w fun e w' => e = .returned (.tuple #[noBlk, .int .i64 1]) ∧ Below w.heap.size w w' := by
  go_enter Tryd.func23, Tryd.ntmps23
  go_wp2
  exact bodyPost_ret (v := .tuple #[noBlk, .int .i64 1]) (by simp [results, Tryd.results23, go_sem]) rfl ⟨rfl, (Below.refl _ _).alloc (Nat.le_refl _) _⟩

set_option maxRecDepth 100000 in
set_option maxHeartbeats 2000000 in
theorem runframe_length (s : ByteArray) (w : World) (hs : 4 ≤ s.size) (hm : s.size ≤ 9223372036854775807) (h : s.size ≠ 4 + byteAt s 1 ∨ 15 < byteAt s 0) :
    Calls Tryd.prog 23 #[.string s] w fun e w' => e = .returned (.tuple #[noBlk, .int .i64 1]) ∧ Below w.heap.size w w' := by
  have g0 := get_byte s 0
  have g1 := get_byte s 1
  have l0 := byteAt_lt s 0
  have l1 := byteAt_lt s 1
  generalize byteAt s 0 = b0 at *
  generalize byteAt s 1 = b1 at *
  by_cases hne : s.size = 4 + b1
  · have h15 : 15 < b0 := by omega
    have t1 : ((s.size : Int) != (b1 : Int) + 4) = false := by rw [bne_eq_false_iff_eq]; omega
    clear h hne
    go_enter Tryd.func23, Tryd.ntmps23
    go_wp2
    exact bodyPost_ret (v := .tuple #[noBlk, .int .i64 1]) (by simp [results, Tryd.results23, go_sem]) rfl ⟨rfl, (Below.refl _ _).alloc (Nat.le_refl _) _⟩
  · have t1 : ((s.size : Int) != (b1 : Int) + 4) = true := by rw [bne_iff_ne]; omega
    clear h hne
    go_enter Tryd.func23, Tryd.ntmps23
    go_wp2
    exact bodyPost_ret (v := .tuple #[noBlk, .int .i64 1]) (by simp [results, Tryd.results23, go_sem]) rfl ⟨rfl, (Below.refl _ _).alloc (Nat.le_refl _) _⟩

theorem bytes_toList (b : ByteArray) : b.toList = b.data.toList := Lib.toList_data b
theorem extract_end (s : ByteArray) (k : Nat) (h : s.size = k + 2) : (s.extract k s.size).data.toList = [s[k]'(by omega), s[k + 1]'(by omega)] := by
  rw [ByteArray.data_extract, Array.toList_extract, List.extract_eq_take_drop]
  have hl : s.data.toList.length = k + 2 := by simpa using h
  rw [List.take_of_length_le (by simp)]
  rw [List.drop_eq_getElem_cons (by omega), List.drop_eq_getElem_cons (by omega), List.drop_of_length_le (by omega)]
  rfl
theorem sum_text (s : ByteArray) (k : Nat) (h : s.size = k + 2) (v : Nat) (hv : v < 65536) (r : Bool) (hr : r = decide (v = byteAt s k * 256 + byteAt s (k + 1))) :
    ((strOfNums (bigL v 2)).toList == (s.extract k s.size).toList) = r := by
  rw [hr, bytes_toList, bytes_toList, extract_end s k h, strOfNums_data]
  have e0 := get_byte s k (by omega)
  have e1 := get_byte s (k + 1) (by omega)
  have l0 := byteAt_lt s k
  have l1 := byteAt_lt s (k + 1)
  generalize byteAt s k = x at *
  generalize byteAt s (k + 1) = y at *
  rw [Bool.eq_iff_iff, beq_iff_eq, decide_eq_true_iff]
  simp only [bigL, List.map_cons, List.map_nil, List.cons.injEq, and_true, ← UInt8.toNat_inj, UInt8.toNat_ofNat', Int.toNat_natCast]
  omega

set_option maxRecDepth 100000 in
set_option maxHeartbeats 2000000 in
theorem runframe_sum (s : ByteArray) (w : World) (hs : s.size = 4 + byteAt s 1) (h15 : byteAt s 0 ≤ 15) (hne : sumN (s.data.toList.take (s.size - 2)) ≠ byteAt s (s.size - 2) * 256 + byteAt s (s.size - 1)) :
    Calls Tryd.prog 23 #[.string s] w fun e w' => e = .returned (.tuple #[noBlk, .int .i64 9]) ∧ Below w.heap.size w w' := by
  obtain ⟨k, hk⟩ : ∃ k, k = s.size - 2 := ⟨_, rfl⟩
  have g0 := get_byte s 0
  have g1 := get_byte s 1
  have l0 := byteAt_lt s 0
  have l1 := byteAt_lt s 1
  rw [← hk, show s.size - 1 = k + 1 by omega] at hne
  have t2 := sum_text s k (by omega) (sumN (s.data.toList.take k)) (sumN_lt _) false (decide_eq_false hne).symm
  clear hne
  generalize byteAt s 0 = b0 at *
  generalize byteAt s 1 = b1 at *
  have t1 : ((s.size : Int) != (b1 : Int) + 4) = false := by rw [bne_eq_false_iff_eq]; omega
  have hk2 : (s.size : Int) - 2 = (k : Int) := by omega
  have e0 : 2 ≤ k := by omega
  have e1 : s.size ≤ k + 2 := by omega
  have e2 : k + 2 ≤ s.size := by omega
  have e3 : k ≤ 300 := by omega
  have e4 : (k : Int) ≤ (s.size : Int) := by omega
  have hsum := fun w' => rsum_any (s.extract 0 k) w' (by rw [ByteArray.size_extract]; unfold maxLen; omega)
  rw [extract_zero] at hsum
  have hs1 := fun wx => run_slice_string_h (P := Tryd.prog) wx 9 s Tryd.underlying9 .i64 (k : Int) (by omega) e4
  have hs2 := fun wx => run_slice_string_l (P := Tryd.prog) wx 9 s Tryd.underlying9 .i64 (k : Int) (by omega) e4
  simp only [Int.toNat_natCast] at hs1 hs2
  have wk : IntKind.i64.wrap (k : Int) = (k : Int) := wraps_i64 _ (by omega) (by omega)
  generalize strOfNums (bigL (sumN (s.data.toList.take k)) 2) = a at *
  generalize s.extract k s.size = b at *
  have HS := hide hsum
  clear hsum hs hk
  go_enter Tryd.func23, Tryd.ntmps23
  go_wp2_with fail
  go_region_with ((go_at_call 33; refine (unhide HS _).mono ?_; rintro e w2 ⟨rfl, hb2⟩))
  have hz5 : w.heap.size < w2.heap.size := by have := hb2.size; simp at this; omega
  have hbw : Below w.heap.size w w2 := (((Below.refl _ _).alloc (Nat.le_refl _) _).drew).trans (hb2.mono (by simp))
  have z0 : w2.cell? ⟨w.heap.size, 0, none⟩ = some (.int .i64 0) := below_keep hb2 (a := ⟨w.heap.size, 0, none⟩) (v := .int .i64 0) (by simp)
  have z1 : w2.cell? ⟨w.heap.size, 1, none⟩ = some (.int .i64 0) := below_keep hb2 (a := ⟨w.heap.size, 1, none⟩) (v := .int .i64 0) (by simp)
  have z2 : w2.cell? ⟨w.heap.size, 2, none⟩ = some (.bool false) := below_keep hb2 (a := ⟨w.heap.size, 2, none⟩) (v := .bool false) (by simp)
  have z3 : w2.cell? ⟨w.heap.size, 3, none⟩ = some (.bool false) := below_keep hb2 (a := ⟨w.heap.size, 3, none⟩) (v := .bool false) (by simp)
  have z4 : w2.cell? ⟨w.heap.size, 4, none⟩ = some (.string ⟨#[]⟩) := below_keep hb2 (a := ⟨w.heap.size, 4, none⟩) (v := .string ⟨#[]⟩) (by simp)
  have f : ∀ o, w2.frozen? ⟨w.heap.size, o, none⟩ = false := fun o => (hb2.frozen (p := ⟨w.heap.size, o, none⟩) (by simp)).trans (by simp)
  clear hb2
  go_wp2
  exact bodyPost_ret (v := .tuple #[noBlk, .int .i64 9]) (by simp [results, Tryd.results23, go_sem, z0, z1, z2, z3, z4]) rfl ⟨rfl, below_cells hbw _ _ _ _ _ _ (Nat.le_refl _)⟩

set_option maxRecDepth 100000 in
set_option maxHeartbeats 2000000 in
theorem runframe_rest (s : ByteArray) (w : World) (hs : s.size = 4 + byteAt s 1) (h15 : byteAt s 0 ≤ 15) (hne : sumN (s.data.toList.take (s.size - 2)) = byteAt s (s.size - 2) * 256 + byteAt s (s.size - 1)) (t n : Nat) (m hh : Bool)
    (et : byteAt s 0 % 2 = t) (en : byteAt s 0 / 2 % 2 = n) (em : (byteAt s 0 / 4 % 2 == 1) = m) (eh : (byteAt s 0 / 8 % 2 == 1) = hh) (er : Int) (he : checkE t n m hh (s.extract 2 (s.size - 2)) = er) :
    Calls Tryd.prog 23 #[.string s] w fun e w' => e = .returned (.tuple #[if er = 0 then blk t n m hh (s.extract 2 (s.size - 2)) else noBlk, .int .i64 er]) ∧ Below w.heap.size w w' := by
  have a1 : (byteAt s 0 : Int) % 2 = (t : Int) := by omega
  have a2 : (byteAt s 0 : Int) / 2 % 2 = (n : Int) := by omega
  have a3 : ((byteAt s 0 : Int) / 4 % 2 == 1) = m := by rw [← em, Bool.eq_iff_iff]; simp; omega
  have a4 : ((byteAt s 0 : Int) / 8 == 1) = hh := by rw [← eh, Bool.eq_iff_iff]; simp; omega
  have ht1 : t ≤ 1 := by omega
  have hn1 : n ≤ 1 := by omega
  clear et en em eh
  obtain ⟨k, hk⟩ : ∃ k, k = s.size - 2 := ⟨_, rfl⟩
  have g0 := get_byte s 0
  have g1 := get_byte s 1
  have l0 := byteAt_lt s 0
  have l1 := byteAt_lt s 1
  rw [← hk] at he ⊢
  rw [← hk, show s.size - 1 = k + 1 by omega] at hne
  have t2 := sum_text s k (by omega) (sumN (s.data.toList.take k)) (sumN_lt _) true (decide_eq_true hne).symm
  clear hne
  generalize byteAt s 0 = b0 at *
  generalize byteAt s 1 = b1 at *
  have t1 : ((s.size : Int) != (b1 : Int) + 4) = false := by rw [bne_eq_false_iff_eq]; omega
  have hk2 : (s.size : Int) - 2 = (k : Int) := by omega
  have e0 : 2 ≤ k := by omega
  have e1 : s.size ≤ k + 2 := by omega
  have e2 : k + 2 ≤ s.size := by omega
  have e3 : k ≤ 300 := by omega
  have e4 : (k : Int) ≤ (s.size : Int) := by omega
  have hsum := fun w' => rsum_any (s.extract 0 k) w' (by rw [ByteArray.size_extract]; unfold maxLen; omega)
  rw [extract_zero] at hsum
  have hs1 := fun wx => run_slice_string_h (P := Tryd.prog) wx 9 s Tryd.underlying9 .i64 (k : Int) (by omega) e4
  have hs2 := fun wx => run_slice_string_l (P := Tryd.prog) wx 9 s Tryd.underlying9 .i64 (k : Int) (by omega) e4
  simp only [Int.toNat_natCast] at hs1 hs2
  have wk : IntKind.i64.wrap (k : Int) = (k : Int) := wraps_i64 _ (by omega) (by omega)
  generalize strOfNums (bigL (sumN (s.data.toList.take k)) 2) = a at *
  generalize s.extract k s.size = b at *
  have HS := hide hsum
  have hc := fun w => rframe_all t n m hh (s.extract 2 k) w (by rw [ByteArray.size_extract]; unfold maxLen; omega) (by omega) (by omega) (by omega) (by omega)
  rw [he] at hc
  generalize fText t n m hh (s.extract 2 k) = fx at *
  have HC := hide hc
  clear hsum hs hk hc he
  go_enter Tryd.func23, Tryd.ntmps23
  go_wp2_with fail
  go_region_with ((go_at_call 33; refine (unhide HS _).mono ?_; rintro e w2 ⟨rfl, hb2⟩))
  have hz5 : w.heap.size < w2.heap.size := by have := hb2.size; simp at this; omega
  have hbw : Below w.heap.size w w2 := (((Below.refl _ _).alloc (Nat.le_refl _) _).drew).trans (hb2.mono (by simp))
  have z0 : w2.cell? ⟨w.heap.size, 0, none⟩ = some (.int .i64 0) := below_keep hb2 (a := ⟨w.heap.size, 0, none⟩) (v := .int .i64 0) (by simp)
  have z1 : w2.cell? ⟨w.heap.size, 1, none⟩ = some (.int .i64 0) := below_keep hb2 (a := ⟨w.heap.size, 1, none⟩) (v := .int .i64 0) (by simp)
  have z2 : w2.cell? ⟨w.heap.size, 2, none⟩ = some (.bool false) := below_keep hb2 (a := ⟨w.heap.size, 2, none⟩) (v := .bool false) (by simp)
  have z3 : w2.cell? ⟨w.heap.size, 3, none⟩ = some (.bool false) := below_keep hb2 (a := ⟨w.heap.size, 3, none⟩) (v := .bool false) (by simp)
  have z4 : w2.cell? ⟨w.heap.size, 4, none⟩ = some (.string ⟨#[]⟩) := below_keep hb2 (a := ⟨w.heap.size, 4, none⟩) (v := .string ⟨#[]⟩) (by simp)
  have f : ∀ o, w2.frozen? ⟨w.heap.size, o, none⟩ = false := fun o => (hb2.frozen (p := ⟨w.heap.size, o, none⟩) (by simp)).trans (by simp)
  clear hb2
  go_wp2_with fail
  refine (unhide HC _).mono ?_
  rintro e w5 ⟨rfl, hb5⟩
  have b2 : ∀ o, Below w2.heap.size w2 (w2.alloc o) := fun o => (Below.refl _ _).alloc (Nat.le_refl _) o
  have hz6 : w2.heap.size < w5.heap.size := by have := hb5.size; simp at this; omega
  have hz7 : w.heap.size < w5.heap.size := by omega
  have hbw5 : Below w.heap.size w w5 := (hbw.trans ((b2 _).mono (Nat.le_of_lt hz5))).trans (hb5.mono (by simp; omega))
  have d0 : w5.cell? ⟨w2.heap.size, 0, none⟩ = some (.int .i64 t) := below_keep hb5 (a := ⟨w2.heap.size, 0, none⟩) (v := .int .i64 t) (by simp)
  have y0 : w5.cell? ⟨w.heap.size, 0, none⟩ = some (.int .i64 0) := below_keep hb5 (below_keep (b2 _) z0)
  have d1 : w5.cell? ⟨w2.heap.size, 1, none⟩ = some (.int .i64 n) := below_keep hb5 (a := ⟨w2.heap.size, 1, none⟩) (v := .int .i64 n) (by simp)
  have y1 : w5.cell? ⟨w.heap.size, 1, none⟩ = some (.int .i64 0) := below_keep hb5 (below_keep (b2 _) z1)
  have d2 : w5.cell? ⟨w2.heap.size, 2, none⟩ = some (.bool m) := below_keep hb5 (a := ⟨w2.heap.size, 2, none⟩) (v := .bool m) (by simp)
  have y2 : w5.cell? ⟨w.heap.size, 2, none⟩ = some (.bool false) := below_keep hb5 (below_keep (b2 _) z2)
  have d3 : w5.cell? ⟨w2.heap.size, 3, none⟩ = some (.bool hh) := below_keep hb5 (a := ⟨w2.heap.size, 3, none⟩) (v := .bool hh) (by simp)
  have y3 : w5.cell? ⟨w.heap.size, 3, none⟩ = some (.bool false) := below_keep hb5 (below_keep (b2 _) z3)
  have d4 : w5.cell? ⟨w2.heap.size, 4, none⟩ = some (.string (s.extract 2 k)) := below_keep hb5 (a := ⟨w2.heap.size, 4, none⟩) (v := .string (s.extract 2 k)) (by simp)
  have y4 : w5.cell? ⟨w.heap.size, 4, none⟩ = some (.string ⟨#[]⟩) := below_keep hb5 (below_keep (b2 _) z4)
  have f5 : ∀ o, w5.frozen? ⟨w.heap.size, o, none⟩ = false := fun o => (hb5.frozen (p := ⟨w.heap.size, o, none⟩) (by simp; omega)).trans (((b2 _).frozen (p := ⟨w.heap.size, o, none⟩) hz5).trans (f o))
  clear hb5 b2 z0 z1 z2 z3 z4 f hbw
  by_cases he0 : er = 0
  · have t3 : (er != 0) = false := by rw [he0]; rfl
    have HE := hide he0
    clear he0
    go_wp2
    exact bodyPost_ret (v := .tuple #[blk t n m hh (s.extract 2 k), .int .i64 er]) (by rw [unhide HE]; simp [results, Tryd.results23, go_sem, y0, y1, y2, y3, y4]) rfl ⟨by rw [unhide HE], below_cells hbw5 _ _ _ _ _ _ (Nat.le_refl _)⟩
  · have t3 : (er != 0) = true := by simpa using he0
    have HE := hide he0
    clear he0
    go_wp2
    exact bodyPost_ret (v := .tuple #[noBlk, .int .i64 er]) (by simp [results, Tryd.results23, go_sem, y0, y1, y2, y3, y4]) rfl ⟨rfl, below_cells hbw5 _ _ _ _ _ _ (Nat.le_refl _)⟩
end Go.Proofs.YthchicolifkpiaaDoor
