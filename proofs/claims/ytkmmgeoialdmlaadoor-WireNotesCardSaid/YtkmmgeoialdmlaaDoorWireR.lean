/- wire's reader: what is still to be read. -/
import Derived.Test.YtkmmgeoialdmlaaDoorWireN
namespace Go.Proofs.YtkmmgeoialdmlaaDoor
open Go.RowKit
set_option linter.unusedVariables false

def RestAt (w : World) (rb : Nat) (s : ByteArray) : Prop := w.heap[rb]? = some (.cells #[.string s] 84 (0, 0))
/-- how many bytes are taken -/
def takeK (n : Int) (s : ByteArray) : Nat := (max 0 (min n s.size)).toNat
def takeA (n : Int) (s : ByteArray) : ByteArray := s.extract 0 (takeK n s)
def takeB (n : Int) (s : ByteArray) : ByteArray := s.extract (takeK n s) s.size
theorem take_list (n : Int) (s : ByteArray) : takeL n s.data.toList = ((takeA n s).data.toList, (takeB n s).data.toList) := by
  unfold takeL takeA takeB takeK
  have hz : (s.data.toList.length : Int) = (s.size : Int) := by rw [Array.length_toList]; rfl
  rw [hz, ByteArray.data_extract, ByteArray.data_extract, Array.toList_extract, Array.toList_extract]
  have hk : (max 0 (min n (s.size : Int))).toNat ≤ s.size := by omega
  rw [List.extract_eq_take_drop, List.extract_eq_take_drop, List.drop_zero, Nat.sub_zero]
  congr 1
  rw [List.take_of_length_le]
  rw [List.length_drop, Array.length_toList]
  exact Nat.le_refl _
theorem RestAt.set {w : World} {rb : Nat} {s : ByteArray} (h : RestAt w rb s) (r : ByteArray) : RestAt (w.setCell ⟨rb, 0, none⟩ (.string r)) rb r := by
  unfold RestAt at *
  rw [setCell_eq_setRow w rb 0 _ _ _ (.string r) h, setRow_heap w rb _ _ _ _ h]
  rfl
theorem RestAt.kept {w w' : World} {rb : Nat} {s : ByteArray} (h : RestAt w rb s) (hb : w'.heap[rb]? = w.heap[rb]?) : RestAt w' rb s := hb.trans h
/-- nothing turned but the reader's own block -/
structure KeepR (rb : Nat) (w w' : World) : Prop where
  os : w'.os = w.os
  tape : w'.tape = w.tape
  output : w'.output = w.output
  size : w.heap.size ≤ w'.heap.size
  block : ∀ q, q < w.heap.size → q ≠ rb → w'.heap[q]? = w.heap[q]?
theorem KeepR.refl (rb : Nat) (w : World) : KeepR rb w w := ⟨rfl, rfl, rfl, Nat.le_refl _, fun _ _ _ => rfl⟩
theorem KeepR.trans {rb : Nat} {a b c : World} (h : KeepR rb a b) (k : KeepR rb b c) : KeepR rb a c :=
  ⟨k.os.trans h.os, k.tape.trans h.tape, k.output.trans h.output, Nat.le_trans h.size k.size, fun q hq hn => (k.block q (Nat.lt_of_lt_of_le hq h.size) hn).trans (h.block q hq hn)⟩
theorem KeepR.of_below {rb : Nat} {w w' : World} (h : Below w.heap.size w w') : KeepR rb w w' := ⟨h.os, h.tape, h.output, h.size, fun q hq _ => h.block q hq⟩
theorem KeepR.of_set {rb : Nat} {w : World} (v : Value) : KeepR rb w (w.setCell ⟨rb, 0, none⟩ v) :=
  ⟨rfl, rfl, rfl, by simp, fun q _ hn => by simp [World.setCell, Array.getElem?_modify, Ne.symm hn]⟩
set_option maxRecDepth 100000 in
set_option maxHeartbeats 2000000 in
theorem rtake_any (n : Int) (s : ByteArray) (hs : s.size ≤ maxLen) (rb : Nat) (w : World) (h : RestAt w rb s) (h0 : -9223372036854775808 ≤ n) (h1 : n ≤ 9223372036854775807) :
    Calls Tryd.prog 39 #[.pointer (some ⟨rb, 0, none⟩), .int .i64 n] w fun e w' => e = .returned (.string (takeA n s)) ∧ RestAt w' rb (takeB n s) ∧ KeepR rb w w' := by
  obtain ⟨k, hk⟩ : ∃ k, k = takeK n s := ⟨_, rfl⟩
  have hA : takeA n s = s.extract 0 k := by rw [takeA, ← hk]
  have hB : takeB n s = s.extract k s.size := by rw [takeB, ← hk]
  have hm : max 0 (min n (s.size : Int)) = (k : Int) := by rw [hk, takeK]; omega
  have hks : k ≤ s.size := by rw [hk, takeK]; omega
  have hki : (k : Int) ≤ (s.size : Int) := by omega
  have c0 : w.cell? ⟨rb, 0, none⟩ = some (.string s) := (cell_of_row _ _ 0 _ _ _ h).trans rfl
  have f0 : w.frozen? ⟨rb, 0, none⟩ = false := frozen_of_row _ _ 0 _ _ h
  have hlt : rb < w.heap.size := World.block_lt_of_cell? _ _ c0
  rw [hA, hB]
  have H := hide h
  clear h hk hA hB hs
  go_enter Tryd.func39, Tryd.ntmps39
  go_wp2
  go_ret
  exact ⟨rfl, (unhide H).set _, KeepR.of_set _⟩
/-- what lies in memory from the start -/
structure Env (w : World) : Prop where
  forms : Forms w
  pow : Pow10 w
  errs : Errs w
theorem gPow : Tryd.prog.globalNamed "internal/strconv.uint64pow10" = some 3 := by kernel_rfl
theorem Pow10.below {w w' : World} {B : Nat} (h : Pow10 w) (hb : Below B w w') (hB : 4 ≤ B) : Pow10 w' := by
  unfold Pow10 Lib.TabIs World.var? at *
  simp only [gPow, Option.bind_some] at h ⊢
  rw [hb.block 3 (by omega)]
  exact h
theorem Errs.below {w w' : World} {B : Nat} (h : Errs w) (hb : Below B w w') (hB : 4 ≤ B) : Errs w' := by
  obtain ⟨⟨v1, c1, k1⟩, v2, c2, k2⟩ := h
  exact ⟨⟨v1, (hb.cell (p := ⟨1, 0, none⟩) (by show 1 < B; omega)).trans c1, k1⟩, v2, (hb.cell (p := ⟨2, 0, none⟩) (by show 2 < B; omega)).trans c2, k2⟩
theorem Env.below {w w' : World} {B : Nat} (h : Env w) (hb : Below B w w') (hB : 4 ≤ B) : Env w' := ⟨h.forms.below hb (by omega), h.pow.below hb hB, h.errs.below hb hB⟩
theorem KeepR.below {rb : Nat} {w w' : World} (h : KeepR rb w w') (hr : rb < w.heap.size) : Below rb w w' := ⟨h.os, h.tape, h.output, h.size, fun q hq => h.block q (by omega) (by omega)⟩
theorem Env.keep {rb : Nat} {w w' : World} (h : Env w) (hk : KeepR rb w w') (hr : rb < w.heap.size) (h4 : 4 ≤ rb) : Env w' := h.below (hk.below hr) h4
theorem RestAt.lt {w : World} {rb : Nat} {s : ByteArray} (h : RestAt w rb s) : rb < w.heap.size := World.block_lt_of_cell? w ⟨rb, 0, none⟩ ((cell_of_row _ _ 0 _ _ _ h).trans rfl)
theorem takeA_size (n : Int) (s : ByteArray) : (takeA n s).size ≤ s.size := by rw [takeA, ByteArray.size_extract]; omega
theorem takeB_size (n : Int) (s : ByteArray) : (takeB n s).size ≤ s.size := by rw [takeB, ByteArray.size_extract]; omega
set_option maxHeartbeats 2000000 in
theorem rnum_any (k : Nat) (hk : k ≤ 99) (s : ByteArray) (hs : s.size ≤ 9223372036854775807) (rb : Nat) (h4 : 4 ≤ rb) (w : World) (h : RestAt w rb s) (he : Env w) :
    Calls Tryd.prog 38 #[.pointer (some ⟨rb, 0, none⟩), .int .i64 (k : Int)] w fun e w' => e = .returned (.int .i64 (atoiN (takeA k s).data.toList)) ∧ RestAt w' rb (takeB k s) ∧ KeepR rb w w' := by
  have N1 := hide (rtake_any (k : Int) s (by unfold maxLen; omega) rb w h (by omega) (by omega))
  have N2 := hide (fun w' (h' : Errs w') => atoi_any (takeA k s) (by rw [takeA, ByteArray.size_extract, takeK]; omega) w' h')
  have HL := hide h.lt
  generalize takeA (k : Int) s = a at *
  generalize takeB (k : Int) s = b at *
  generalize atoiN a.data.toList = v at *
  have HE := hide he
  clear h he hs hk
  go_enter Tryd.func38, Tryd.ntmps38
  go_wp2_with fail
  refine (unhide N1).mono ?_
  rintro e w1 ⟨rfl, hr1, hk1⟩
  have HE1 := hide ((unhide HE).keep hk1 (unhide HL) h4).errs
  have HR1 := hide hr1; have HK1 := hide hk1
  clear hr1 hk1
  go_wp2_with fail
  refine (unhide N2 _ (unhide HE1)).mono ?_
  rintro e w2 ⟨ev, rfl, b2⟩
  have HB := hide b2
  clear b2
  go_wp2
  go_ret
  exact ⟨rfl, (unhide HR1).kept ((unhide HB).block rb (unhide HR1).lt), (unhide HK1).trans (KeepR.of_below (unhide HB))⟩
/-- what is read of a field -/
def partA (n : Nat) (s : ByteArray) : ByteArray := if 0 < fahead n then takeA (atoiN (takeA (fahead n) s).data.toList) (takeB (fahead n) s) else takeA (fmost n) s
def partB (n : Nat) (s : ByteArray) : ByteArray := if 0 < fahead n then takeB (atoiN (takeA (fahead n) s).data.toList) (takeB (fahead n) s) else takeB (fmost n) s
theorem part_list (n : Nat) (s : ByteArray) : partL n s.data.toList = ((partA n s).data.toList, (partB n s).data.toList) := by
  unfold partL partA partB numL
  split
  · rw [take_list]
    simp only
    rw [take_list]
  · rw [take_list]
theorem atoiN_bounds (l : List UInt8) : -9223372036854775808 ≤ atoiN l ∧ atoiN l ≤ 9223372036854775807 := by
  unfold atoiN
  cases h : Lib.atoiAll l with
  | ok v => exact Lib.atoiAll_bounds h
  | «syntax» => simp
  | range => exact Lib.atoiSat_bounds l
set_option maxRecDepth 100000 in
set_option maxHeartbeats 2000000 in
theorem rpart_any (n : Nat) (h1 : 1 ≤ n) (h16 : n ≤ 16) (s : ByteArray) (hs : s.size ≤ 9223372036854775807) (rb : Nat) (h4 : 4 ≤ rb) (w : World) (h : RestAt w rb s) (he : Env w) :
    Calls Tryd.prog 40 #[.pointer (some ⟨rb, 0, none⟩), formV n] w fun e w' => e = .returned (.string (partA n s)) ∧ RestAt w' rb (partB n s) ∧ KeepR rb w w' := by
  have hb : fahead n ≤ 4 ∧ fmost n ≤ 9999 := by
    have : ∀ m : Fin 17, fahead m.val ≤ 4 ∧ fmost m.val ≤ 9999 := by decide
    exact this ⟨n, by omega⟩
  have hlt := h.lt
  obtain ⟨W, hW⟩ : ∃ W, W = w.alloc (.cells #[.int .i64 (fmost n : Int), .int .i64 (fahead n : Int), .bool (fdig n)] 47) := ⟨_, rfl⟩
  have hBW : Below w.heap.size w W := by rw [hW]; exact (Below.refl _ _).alloc (Nat.le_refl _) _
  have hrW : RestAt W rb s := h.kept (hBW.block rb hlt)
  have heW : Env W := he.below hBW (by omega)
  have c0 : W.cell? ⟨w.heap.size, 0, none⟩ = some (.int .i64 (fmost n : Int)) := by rw [hW]; simp
  have c1 : W.cell? ⟨w.heap.size, 1, none⟩ = some (.int .i64 (fahead n : Int)) := by rw [hW]; simp
  have HKW := hide (KeepR.of_below (rb := rb) hBW)
  have HW := hide hW
  unfold formV partA partB
  by_cases h0 : 0 < fahead n
  · rw [if_pos h0, if_pos h0]
    have N1 := hide (rnum_any (fahead n) (by omega) s hs rb h4 W hrW heW)
    have hv := atoiN_bounds (takeA (fahead n) s).data.toList
    have N2 := hide (fun w' (h' : RestAt w' rb (takeB (fahead n) s)) => rtake_any (atoiN (takeA (fahead n) s).data.toList) (takeB (fahead n) s) (Nat.le_trans (takeB_size _ _) (by unfold maxLen; omega)) rb w' h' hv.1 hv.2)
    generalize atoiN (takeA (fahead n) s).data.toList = v at *
    generalize takeB (fahead n) s = b at *
    generalize takeA v b = x at *
    generalize takeB v b = y at *
    have g0 : (0 : Int) < (fahead n : Int) := by omega
    generalize fahead n = fa at *
    generalize fmost n = fm at *
    clear h he hs hW hBW hrW heW hb h0 h1 h16
    go_enter Tryd.func40, Tryd.ntmps40
    go_upto_region 1 with fail
    rw [← unhide HW]
    go_wp2_with fail
    refine (unhide N1).mono ?_
    rintro e w1 ⟨rfl, hr1, hk1⟩
    have HK1 := hide hk1
    have N3 := hide (unhide N2 _ hr1)
    clear hk1 hr1
    go_wp2_with fail
    refine (unhide N3).mono ?_
    rintro e w2 ⟨rfl, hr2, hk2⟩
    have HR2 := hide hr2; have HK2 := hide hk2
    clear hr2 hk2
    go_wp2
    go_ret
    exact ⟨rfl, unhide HR2, (unhide HKW).trans ((unhide HK1).trans (unhide HK2))⟩
  · rw [if_neg h0, if_neg h0]
    have N1 := hide (rtake_any (fmost n : Int) s (by unfold maxLen; omega) rb W hrW (by omega) (by omega))
    generalize takeA (fmost n : Int) s = x at *
    generalize takeB (fmost n : Int) s = y at *
    have g0 : ¬ (0 : Int) < (fahead n : Int) := by omega
    generalize fahead n = fa at *
    generalize fmost n = fm at *
    clear h he hs hW hBW hrW heW hb h0 h1 h16
    go_enter Tryd.func40, Tryd.ntmps40
    go_upto_region 1 with fail
    rw [← unhide HW]
    go_wp2_with fail
    refine (unhide N1).mono ?_
    rintro e w1 ⟨rfl, hr1, hk1⟩
    have HR1 := hide hr1; have HK1 := hide hk1
    clear hr1 hk1
    go_wp2
    go_ret
    exact ⟨rfl, unhide HR1, (unhide HKW).trans (unhide HK1)⟩
end Go.Proofs.YtkmmgeoialdmlaaDoor
