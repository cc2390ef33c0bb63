/- Derive, Seal, Sealed of the program and of the reference. -/
import Derived.Test.YtbiipeapcclbkaaDoorMillF3
import Derived.Test.YtbiipeapcclbkaaDoorMillW2
import Derived.Test.YtbiipeapcclbkaaDoorMillRef2
namespace Go.Proofs.YtbiipeapcclbkaaDoor
open Go.RowKit
set_option linter.unusedVariables false

theorem TRow.new (w : World) (fs : List ByteArray) (e : TypeId) : TRow (w.alloc (.cells (fs.map Value.string).toArray e)) (some ⟨w.heap.size, 0, none⟩) fs := by
  refine .inr ⟨w.heap.size, 0, rfl, by simp, fun i s hi => ?_⟩
  rw [Nat.zero_add, cell_of_row _ _ i _ e _ (heap_alloc_new w _)]
  simp [hi]
theorem alloc_below (w : World) (o : Obj) : Below w.heap.size w (w.alloc o) := (Below.refl _ _).alloc (Nat.le_refl _) _
def sealWord : ByteArray := ⟨#[115, 101, 97, 108]⟩
theorem sealWord_size : sealWord.size = 4 := rfl
def deriveS (k l t : ByteArray) : ByteArray := foldS (rowS [k, l, t])
def sealF (t : ByteArray) : ByteArray := foldS (rowS [sealWord, t])
def sealS (k t : ByteArray) : ByteArray := (turnS k (sealF t)).extract 0 8

set_option maxHeartbeats 2000000 in
set_option maxRecDepth 100000 in
theorem derive_yes (k l t : ByteArray) (hk : k.size = 16) (hl : l.size ≤ 1048576) (ht : t.size ≤ 1048576) (w : World) :
    Calls Tryd.prog 11 #[.string k, .string l, .string t] w fun e w' => e = .returned (.tuple #[.string (deriveS k l t), .int .i64 0]) ∧ Below w.heap.size w w' := by
  have hb : bulkT [k, l, t] ≤ 4194304 := by simp only [bulkT]; omega
  have hn := rowN_bulk [k, l, t]
  have N1 := hide (row_any [k, l, t] (some ⟨w.heap.size, 0, none⟩) 3 (w.alloc (.cells ([k, l, t].map Value.string).toArray 9)) (TRow.new w _ _) hb)
  have N2 := hide (fun w => fold_any (rowS [k, l, t]) (by rw [rowS_size]; omega) w)
  have t1 := len_eq k hk
  have HA := hide (alloc_below w (.cells ([k, l, t].map Value.string).toArray 9))
  have e : foldS (rowS [k, l, t]) = deriveS k l t := rfl
  rw [e] at N2
  clear e hb hn hk hl ht
  generalize deriveS k l t = x at *
  generalize rowS [k, l, t] = y at *
  go_enter Tryd.func11, Tryd.ntmps11
  go_wp2_with fail
  refine (unhide N1).mono ?_
  rintro e x1 ⟨rfl, b1⟩
  have h1 := (unhide HA).trans (b1.mono (unhide HA).size)
  go_wp2_with fail
  refine (unhide N2 _).mono ?_
  rintro e x2 ⟨rfl, b2⟩
  go_wp2
  go_ret2
  exact ⟨rfl, h1.trans (b2.mono h1.size)⟩
theorem derive_no (k l t : ByteArray) (hk : k.size ≠ 16) (w : World) :
    Calls Tryd.prog 11 #[.string k, .string l, .string t] w fun e w' => e = .returned (.tuple #[.string ⟨#[]⟩, .int .i64 1]) ∧ w' = w := by
  have t1 := len_ne k hk
  go_enter Tryd.func11, Tryd.ntmps11
  go_wp2
  go_ret2
  exact ⟨rfl, rfl⟩
theorem seal_eq {x y : ByteArray} (h : x = y) : (x.toList == y.toList) = true := by rw [h]; simp
theorem seal_ne {x y : ByteArray} (h : ¬ x = y) : (x.toList == y.toList) = false := by
  rw [beq_eq_false_iff_ne, Lib.toList_data, Lib.toList_data]
  exact fun e => h (ByteArray.ext (Array.toList_inj.1 e))
set_option maxHeartbeats 2000000 in
set_option maxRecDepth 100000 in
theorem rderive_any (k l t : ByteArray) (hk : k.size = 16) (hl : l.size ≤ 1048576) (ht : t.size ≤ 1048576) (w : World) :
    Calls Tryd.prog 13 #[.string k, .string l, .string t] w fun e w' => e = .returned (.string (deriveS k l t)) ∧ Below w.heap.size w w' := by
  have hb : bulkT [k, l, t] ≤ 4194304 := by simp only [bulkT]; omega
  have hn := rowN_bulk [k, l, t]
  have N1 := hide (rrow_any [k, l, t] (some ⟨w.heap.size, 0, none⟩) 3 (w.alloc (.cells ([k, l, t].map Value.string).toArray 9)) (TRow.new w _ _) (by omega) (by simp))
  have N2 := hide (fun w => rfold_any (rowS [k, l, t]) (by rw [rowS_size]; omega) w)
  have HA := hide (alloc_below w (.cells ([k, l, t].map Value.string).toArray 9))
  have e : foldS (rowS [k, l, t]) = deriveS k l t := rfl
  rw [e] at N2
  clear e hb hn hk hl ht
  generalize deriveS k l t = x at *
  generalize rowS [k, l, t] = y at *
  go_enter Tryd.func13, Tryd.ntmps13
  go_wp2_with fail
  refine (unhide N1).mono ?_
  rintro e x1 ⟨rfl, b1⟩
  have h1 := (unhide HA).trans (b1.mono (unhide HA).size)
  go_wp2_with fail
  refine (unhide N2 _).mono ?_
  rintro e x2 ⟨rfl, b2⟩
  go_wp2
  go_ret
  exact ⟨rfl, h1.trans (b2.mono h1.size)⟩
end Go.Proofs.YtbiipeapcclbkaaDoor
