/- Derive, Seal, Sealed of the program and of the reference. -/
import Derived.Test.YtdlglcpghkoejaaMillF3
import Derived.Test.YtdlglcpghkoejaaMillW2
import Derived.Test.YtdlglcpghkoejaaMillRef2
namespace Go.Proofs.Ytdlglcpghkoejaa
open Go.RowKit
set_option linter.unusedVariables false

theorem TRow.new (w : World) (fs : List ByteArray) (e : TypeId) : TRow (w.alloc (.cells (fs.map Value.string).toArray e)) (some ⟨w.heap.size, 0, none⟩) fs := by
  refine .inr ⟨w.heap.size, 0, rfl, by simp, fun i s hi => ?_⟩
  rw [Nat.zero_add, cell_of_row _ _ i _ e _ (heap_alloc_new w _)]
  simp [hi]
theorem alloc_below (w : World) (o : Obj) : Below w.heap.size w (w.alloc o) := (Below.refl _ _).alloc (Nat.le_refl _) _
def sealWord : ByteArray := ⟨#[115, 101, 97, 108]⟩
theorem sealWord_size : sealWord.size = 4 := rfl
def deriveS (k l t : ByteArray) : ByteArray := foldS (rowS [k, l, t])
def sealF (t : ByteArray) : ByteArray := foldS (rowS [sealWord, t])
def sealS (k t : ByteArray) : ByteArray := (turnS k (sealF t)).extract 0 8

set_option maxHeartbeats 2000000 in
set_option maxRecDepth 100000 in
theorem seal_yes (k t : ByteArray) (hk : k.size = 16) (ht : t.size ≤ 1048576) (w : World) :
    Calls Try.prog 20 #[.string k, .string t] w fun e w' => e = .returned (.tuple #[.string (sealS k t), .int .i64 0]) ∧ Below w.heap.size w w' := by
  have hb : bulkT [sealWord, t] ≤ 4194304 := by simp only [bulkT, sealWord_size]; omega
  have hn := rowN_bulk [sealWord, t]
  have N1 := hide (row_any [sealWord, t] (some ⟨w.heap.size, 0, none⟩) 2 (w.alloc (.cells ([sealWord, t].map Value.string).toArray 9)) (TRow.new w _ _) hb)
  have N2 := hide (fun w => fold_any (rowS [sealWord, t]) (by rw [rowS_size]; omega) w)
  have HA := hide (alloc_below w (.cells ([sealWord, t].map Value.string).toArray 9))
  have N3 := hide (fun w => turn_yes k (sealF t) hk (foldS_size _) w)
  have e : foldS (rowS [sealWord, t]) = sealF t := rfl
  rw [e] at N2
  have e2 : (turnS k (sealF t)).extract 0 8 = sealS k t := rfl
  have hsz : (turnS k (sealF t)).size = 16 := turnS_size _ _
  have HE := hide e2
  clear e e2 hb hn hk ht
  generalize turnS k (sealF t) = z at *
  generalize sealF t = x at *
  generalize rowS [sealWord, t] = y at *
  have hsz8 : (8 : Int) ≤ (z.size : Int) := by omega
  go_enter Try.func20, Try.ntmps20
  go_wp2_with fail
  refine (unhide N1).mono ?_
  rintro e x1 ⟨rfl, b1⟩
  have h1 := (unhide HA).trans (b1.mono (unhide HA).size)
  go_wp2_with fail
  refine (unhide N2 _).mono ?_
  rintro e x2 ⟨rfl, b2⟩
  have h2 := h1.trans (b2.mono h1.size)
  go_wp2_with fail
  refine (unhide N3 _).mono ?_
  rintro e x3 ⟨rfl, b3⟩
  have h3 := h2.trans (b3.mono h2.size)
  clear N1 N2 N3 b1 b2 b3 h1 h2 HA
  go_wp2
  go_ret2
  exact ⟨by rw [← unhide HE]; rfl, h3⟩
set_option maxHeartbeats 2000000 in
set_option maxRecDepth 100000 in
theorem seal_no (k t : ByteArray) (hk : k.size ≠ 16) (ht : t.size ≤ 1048576) (w : World) :
    Calls Try.prog 20 #[.string k, .string t] w fun e w' => e = .returned (.tuple #[.string ⟨#[]⟩, .int .i64 1]) ∧ Below w.heap.size w w' := by
  have hb : bulkT [sealWord, t] ≤ 4194304 := by simp only [bulkT, sealWord_size]; omega
  have hn := rowN_bulk [sealWord, t]
  have N1 := hide (row_any [sealWord, t] (some ⟨w.heap.size, 0, none⟩) 2 (w.alloc (.cells ([sealWord, t].map Value.string).toArray 9)) (TRow.new w _ _) hb)
  have N2 := hide (fun w => fold_any (rowS [sealWord, t]) (by rw [rowS_size]; omega) w)
  have HA := hide (alloc_below w (.cells ([sealWord, t].map Value.string).toArray 9))
  have N3 := hide (fun w => turn_no k (foldS (rowS [sealWord, t])) (.inl hk) w)
  clear hb hn hk ht
  generalize foldS (rowS [sealWord, t]) = x at *
  generalize rowS [sealWord, t] = y at *
  go_enter Try.func20, Try.ntmps20
  go_wp2_with fail
  refine (unhide N1).mono ?_
  rintro e x1 ⟨rfl, b1⟩
  have h1 := (unhide HA).trans (b1.mono (unhide HA).size)
  go_wp2_with fail
  refine (unhide N2 _).mono ?_
  rintro e x2 ⟨rfl, b2⟩
  have h2 := h1.trans (b2.mono h1.size)
  go_wp2_with fail
  refine (unhide N3 _).mono ?_
  rintro e x3 ⟨rfl, rfl⟩
  clear N1 N2 N3 b1 b2 h1 HA
  go_wp2
  go_ret2
  exact ⟨rfl, h2⟩
theorem seal_eq {x y : ByteArray} (h : x = y) : (x.toList == y.toList) = true := by rw [h]; simp
theorem seal_ne {x y : ByteArray} (h : ¬ x = y) : (x.toList == y.toList) = false := by
  rw [beq_eq_false_iff_ne, Lib.toList_data, Lib.toList_data]
  exact fun e => h (ByteArray.ext (Array.toList_inj.1 e))
set_option maxHeartbeats 2000000 in
theorem sealed_yes (k t s : ByteArray) (hk : k.size = 16) (ht : t.size ≤ 1048576) (w : World) :
    Calls Try.prog 22 #[.string k, .string t, .string s] w fun e w' => e = .returned (.bool (decide (s = sealS k t))) ∧ Below w.heap.size w w' := by
  have N1 := hide (fun w => seal_yes k t hk ht w)
  generalize sealS k t = x at *
  by_cases h : s = x
  · subst h
    rw [decide_eq_true rfl]
    go_enter Try.func22, Try.ntmps22
    go_wp2_with fail
    refine (unhide N1 _).mono ?_
    rintro e x1 ⟨rfl, b1⟩
    go_wp2
    go_ret
    exact ⟨ret_bool (by simp), b1⟩
  · rw [decide_eq_false h]
    have hne := seal_ne h
    clear h
    go_enter Try.func22, Try.ntmps22
    go_wp2_with fail
    refine (unhide N1 _).mono ?_
    rintro e x1 ⟨rfl, b1⟩
    go_wp2
    go_ret
    exact ⟨ret_bool (by simp), b1⟩
set_option maxHeartbeats 2000000 in
theorem sealed_no (k t s : ByteArray) (hk : k.size ≠ 16) (ht : t.size ≤ 1048576) (w : World) :
    Calls Try.prog 22 #[.string k, .string t, .string s] w fun e w' => e = .returned (.bool false) ∧ Below w.heap.size w w' := by
  have N1 := hide (fun w => seal_no k t hk ht w)
  go_enter Try.func22, Try.ntmps22
  go_wp2_with fail
  refine (unhide N1 _).mono ?_
  rintro e x1 ⟨rfl, b1⟩
  go_wp2
  go_ret
  exact ⟨rfl, b1⟩
set_option maxHeartbeats 2000000 in
set_option maxRecDepth 100000 in
theorem rseal_any (k t : ByteArray) (hk : k.size = 16) (ht : t.size ≤ 1048576) (w : World) :
    Calls Try.prog 21 #[.string k, .string t] w fun e w' => e = .returned (.string (sealS k t)) ∧ Below w.heap.size w w' := by
  have hb : bulkT [sealWord, t] ≤ 4194304 := by simp only [bulkT, sealWord_size]; omega
  have hn := rowN_bulk [sealWord, t]
  have N1 := hide (rrow_any [sealWord, t] (some ⟨w.heap.size, 0, none⟩) 2 (w.alloc (.cells ([sealWord, t].map Value.string).toArray 9)) (TRow.new w _ _) (by omega) (by simp))
  have N2 := hide (fun w => rfold_any (rowS [sealWord, t]) (by rw [rowS_size]; omega) w)
  have HA := hide (alloc_below w (.cells ([sealWord, t].map Value.string).toArray 9))
  have N3 := hide (fun w => rturn_any k (sealF t) hk (foldS_size _) w)
  have e : foldS (rowS [sealWord, t]) = sealF t := rfl
  rw [e] at N2
  have e2 : (turnS k (sealF t)).extract 0 8 = sealS k t := rfl
  have hsz : (turnS k (sealF t)).size = 16 := turnS_size _ _
  have HE := hide e2
  clear e e2 hb hn hk ht
  generalize turnS k (sealF t) = z at *
  generalize sealF t = x at *
  generalize rowS [sealWord, t] = y at *
  have hsz8 : (8 : Int) ≤ (z.size : Int) := by omega
  go_enter Try.func21, Try.ntmps21
  go_wp2_with fail
  refine (unhide N1).mono ?_
  rintro e x1 ⟨rfl, b1⟩
  have h1 := (unhide HA).trans (b1.mono (unhide HA).size)
  go_wp2_with fail
  refine (unhide N2 _).mono ?_
  rintro e x2 ⟨rfl, b2⟩
  have h2 := h1.trans (b2.mono h1.size)
  go_wp2_with fail
  refine (unhide N3 _).mono ?_
  rintro e x3 ⟨rfl, b3⟩
  have h3 := h2.trans (b3.mono h2.size)
  clear N1 N2 N3 b1 b2 b3 h1 h2 HA
  go_wp2
  go_ret
  exact ⟨by rw [← unhide HE]; rfl, h3⟩
end Go.Proofs.Ytdlglcpghkoejaa
