/- Deals of the program: DealText. -/
import Derived.Test.YtfpglpefofcdeaaDoorM36
namespace Go.Proofs.YtfpglpefofcdeaaDoor
open Go.RowKit
set_option linter.unusedVariables false

def oneT (n : Int) : ByteArray := strOfNums [lowByte n]
def twoT (n : Int) : ByteArray := strOfNums [lowByte (n / 256), lowByte n]
theorem one_byteT (w : World) (x : Int) :
    (convert 114 9 (.slice (some ⟨w.heap.size, 0, none⟩) 1 1)).run Tryd.prog (w.alloc (.cells #[.int .u8 x] 5)) = .ok (.string (strOfNums [x])) (w.alloc (.cells #[.int .u8 x] 5)) :=
  one_byteP _ w x rfl
theorem two_bytesT (w : World) (x y : Int) :
    (convert 114 9 (.slice (some ⟨w.heap.size, 0, none⟩) 2 2)).run Tryd.prog (w.alloc (.cells #[.int .u8 x, .int .u8 y] 5)) = .ok (.string (strOfNums [x, y])) (w.alloc (.cells #[.int .u8 x, .int .u8 y] 5)) :=
  run_convert_bytes_arg (P := Tryd.prog) _ 114 5 Tryd.underlying114 Tryd.underlying5 w.heap.size 0 2 2 [x, y] rfl (fun i hi => by
    have h2 : i = 0 ∨ i = 1 := by omega
    rcases h2 with rfl | rfl <;> simp) 9 Tryd.underlying9
theorem tone_any (n : Int) (w : World) :
    Calls Tryd.prog 65 #[.int .i64 n] w fun e w' => e = .returned (.string (oneT n)) ∧ Below w.heap.size w w' := by
  have hcv := one_byteT
  have HB := hide (fun o : Obj => (Below.refl w.heap.size w).alloc (Nat.le_refl _) o)
  go_enter Tryd.func65, Tryd.ntmps65
  go_wp2
  go_ret
  exact ⟨rfl, unhide HB _⟩
theorem ttwo_any (n : Int) (w : World) :
    Calls Tryd.prog 67 #[.int .i64 n] w fun e w' => e = .returned (.string (twoT n)) ∧ Below w.heap.size w w' := by
  have hcv := two_bytesT
  have HB := hide (fun o : Obj => (Below.refl w.heap.size w).alloc (Nat.le_refl _) o)
  go_enter Tryd.func67, Tryd.ntmps67
  go_wp2
  go_ret
  exact ⟨rfl, unhide HB _⟩
def flagT (b : Bool) : Int := bif b then 1 else 0
theorem flag_any (b : Bool) (w : World) :
    Calls Tryd.prog 66 #[.bool b] w fun e w' => e = .returned (.int .i64 (flagT b)) ∧ Below w.heap.size w w' := by
  cases b <;>
  · go_enter Tryd.func66, Tryd.ntmps66
    go_wp2
    go_ret
    exact ⟨rfl, Below.refl _ _⟩
theorem cnumber_any (n k : Int) (w : World) (hn : n ≤ 9223372036854775807) :
    Calls Tryd.prog 64 #[.int .i64 n, .int .i64 k] w fun e w' => e = .returned (.string (numS n k)) ∧ Below w.heap.size w w' := by
  have N1 := hide (fun w => number_all n k w hn)
  generalize numS n k = s at *
  generalize numE n k = ne at *
  go_enter Tryd.func64, Tryd.ntmps64
  go_wp2_with fail
  refine (unhide N1 _).mono ?_
  rintro e w1 ⟨rfl, hb1⟩
  go_wp2
  go_ret
  exact ⟨rfl, hb1⟩
/-- how a deal is written -/
def dealT (d : XDeal) : ByteArray := numS d.shop 4 ++ numS d.trace 4 ++ numS d.amount 8 ++ oneT (flagT d.cash) ++ twoT d.day ++ twoT d.bits ++ d.nonce
def dealS (d : XDeal) : ByteArray := if dealE d = 0 then dealT d else ⟨#[]⟩
theorem oneT_size (n : Int) : (oneT n).size = 1 := by rw [oneT, strOfNums_size]; rfl
theorem twoT_size (n : Int) : (twoT n).size = 2 := by rw [twoT, strOfNums_size]; rfl
theorem deal_in {d : XDeal} (h : dealE d = 0) : (0 ≤ d.amount ∧ d.amount ≤ 999999999999) ∧ (0 ≤ d.shop ∧ d.shop ≤ 4294967295) ∧ (0 ≤ d.trace ∧ d.trace ≤ 4294967295) ∧ (0 ≤ d.day ∧ d.day ≤ 65535) ∧ (0 ≤ d.bits ∧ d.bits ≤ 4095) ∧ d.nonce.size = 8 := by
  unfold dealE at h
  cases h1 : inT d.amount 0 999999999999 with
  | false => rw [h1] at h; cases h
  | true =>
  cases h2 : inT d.shop 0 4294967295 with
  | false => rw [h1, h2] at h; cases h
  | true =>
  cases h3 : inT d.trace 0 4294967295 with
  | false => rw [h1, h2, h3] at h; cases h
  | true =>
  cases h4 : inT d.day 0 65535 with
  | false => rw [h1, h2, h3, h4] at h; cases h
  | true =>
  cases h5 : inT d.bits 0 4095 with
  | false => rw [h1, h2, h3, h4, h5] at h; cases h
  | true =>
    rw [h1, h2, h3, h4, h5] at h
    by_cases h8 : d.nonce.size = 8
    · exact ⟨inT_true.1 h1, inT_true.1 h2, inT_true.1 h3, inT_true.1 h4, inT_true.1 h5, h8⟩
    · have h' : (if d.nonce.size = 8 then (0 : Int) else 1) = 0 := h
      rw [if_neg h8] at h'; cases h'
set_option maxRecDepth 100000 in
set_option maxHeartbeats 4000000 in
theorem dealText_any (d : XDeal) (w : World) (hok : okDeal w d) :
    Calls Tryd.prog 44 #[valDeal d] w fun e w' => e = .returned (.tuple #[.string (dealS d), .int .i64 (dealE d)]) ∧ Below w.heap.size w w' := by
  have n1 := fun w => checkDeal_any d w
  by_cases he : dealE d = 0
  case neg =>
    have HS : Hid (dealS d = ⟨#[]⟩) := hide (by rw [dealS, if_neg he])
    have t1 : (dealE d != 0) = true := by simpa using he
    generalize dealE d = de at *
    generalize dealS d = ds at *
    obtain ⟨sh, tr, am, ca, dy, bt, no⟩ := d
    unfold valDeal at *
    simp only at n1 ⊢
    have HB := hide ((Below.refl w.heap.size w).alloc (Nat.le_refl _) (.cells #[.int .i64 sh, .int .i64 tr, .int .i64 am, .bool ca, .int .i64 dy, .int .i64 bt, .string no] 40))
    have N1 := hide n1
    clear n1 he hok
    go_enter Tryd.func44, Tryd.ntmps44
    go_wp2_with fail
    refine (unhide N1 _).mono ?_
    rintro e w1 ⟨rfl, hb1⟩
    have HB1 := hide ((unhide HB).trans (hb1.mono (by simp)))
    clear hb1
    go_wp2
    go_ret2
    exact ⟨ret_pairQ (unhide HS).symm rfl, unhide HB1⟩
  have HS : Hid (dealS d = dealT d) := hide (by rw [dealS, if_pos he])
  obtain ⟨k1, k2, k3, k4, k5, k6⟩ := deal_in he
  rw [he] at n1 ⊢
  have HT : Hid (dealT d = numS d.shop 4 ++ numS d.trace 4 ++ numS d.amount 8 ++ oneT (flagT d.cash) ++ twoT d.day ++ twoT d.bits ++ d.nonce) := hide rfl
  generalize dealT d = dt at *
  generalize dealS d = ds at *
  obtain ⟨sh, tr, am, ca, dy, bt, no⟩ := d
  unfold valDeal at *
  simp only at *
  have n2 := fun w => cnumber_any sh 4 w (by omega)
  have n3 := fun w => cnumber_any tr 4 w (by omega)
  have n4 := fun w => cnumber_any am 8 w (by omega)
  have n5 := fun w => flag_any ca w
  have n6 := fun w => tone_any (flagT ca) w
  have n7 := fun w => ttwo_any dy w
  have n8 := fun w => ttwo_any bt w
  have z2 := numS_size sh 4; have z3 := numS_size tr 4; have z4 := numS_size am 8
  have z6 := oneT_size (flagT ca); have z7 := twoT_size dy; have z8 := twoT_size bt
  generalize numS sh 4 = a2 at *
  generalize numS tr 4 = a3 at *
  generalize numS am 8 = a4 at *
  generalize oneT (flagT ca) = a6 at *
  generalize flagT ca = fl at *
  generalize twoT dy = a7 at *
  generalize twoT bt = a8 at *
  have ha1 := fun w' => run_string_add_sum (P := Tryd.prog) w' a2 a3 (by omega)
  have ha2 := fun w' => run_string_add_sum (P := Tryd.prog) w' (a2 ++ a3) a4 (by simp only [ByteArray.size_append]; omega)
  have ha3 := fun w' => run_string_add_sum (P := Tryd.prog) w' (a2 ++ a3 ++ a4) a6 (by simp only [ByteArray.size_append]; omega)
  have ha4 := fun w' => run_string_add_sum (P := Tryd.prog) w' (a2 ++ a3 ++ a4 ++ a6) a7 (by simp only [ByteArray.size_append]; omega)
  have ha5 := fun w' => run_string_add_sum (P := Tryd.prog) w' (a2 ++ a3 ++ a4 ++ a6 ++ a7) a8 (by simp only [ByteArray.size_append]; omega)
  have ha6 := fun w' => run_string_add_sum (P := Tryd.prog) w' (a2 ++ a3 ++ a4 ++ a6 ++ a7 ++ a8) no (by simp only [ByteArray.size_append]; omega)
  have HB := hide ((Below.refl w.heap.size w).alloc (Nat.le_refl _) (.cells #[.int .i64 sh, .int .i64 tr, .int .i64 am, .bool ca, .int .i64 dy, .int .i64 bt, .string no] 40))
  have HBK := hide (heap_alloc_new w (.cells #[.int .i64 sh, .int .i64 tr, .int .i64 am, .bool ca, .int .i64 dy, .int .i64 bt, .string no] 40))
  have N1 := hide n1; have N2 := hide n2; have N3 := hide n3; have N4 := hide n4; have N5 := hide n5; have N6 := hide n6; have N7 := hide n7; have N8 := hide n8
  clear n1 n2 n3 n4 n5 n6 n7 n8 he k1 k2 k3 k4 k5 k6 z2 z3 z4 z6 z7 z8 hok
  go_enter Tryd.func44, Tryd.ntmps44
  go_wp2_with fail
  refine (unhide N1 _).mono ?_
  rintro e wa ⟨rfl, hb1⟩
  have hk := (hb1.block _ (block_ltQ (unhide HBK))).trans (unhide HBK)
  have HB1 := hide ((unhide HB).trans (hb1.mono (by simp)))
  have C : ∀ (w2 : World) (j : Nat), Below wa.heap.size wa w2 → w2.cell? ⟨w.heap.size, j, none⟩ = (#[.int .i64 sh, .int .i64 tr, .int .i64 am, .bool ca, .int .i64 dy, .int .i64 bt, .string no] : Array Value)[j]? := fun w2 j hb => by
    rw [cell_of_row _ _ j _ _ _ ((hb.block _ (block_ltQ hk)).trans hk)]
  have C0 := hide (fun (w2 : World) (hb : Below wa.heap.size wa w2) => (C w2 0 hb : w2.cell? ⟨w.heap.size, 0, none⟩ = some (.int .i64 sh)))
  have C1 := hide (fun (w2 : World) (hb : Below wa.heap.size wa w2) => (C w2 1 hb : w2.cell? ⟨w.heap.size, 1, none⟩ = some (.int .i64 tr)))
  have C2 := hide (fun (w2 : World) (hb : Below wa.heap.size wa w2) => (C w2 2 hb : w2.cell? ⟨w.heap.size, 2, none⟩ = some (.int .i64 am)))
  have C3 := hide (fun (w2 : World) (hb : Below wa.heap.size wa w2) => (C w2 3 hb : w2.cell? ⟨w.heap.size, 3, none⟩ = some (.bool ca)))
  have C4 := hide (fun (w2 : World) (hb : Below wa.heap.size wa w2) => (C w2 4 hb : w2.cell? ⟨w.heap.size, 4, none⟩ = some (.int .i64 dy)))
  have C5 := hide (fun (w2 : World) (hb : Below wa.heap.size wa w2) => (C w2 5 hb : w2.cell? ⟨w.heap.size, 5, none⟩ = some (.int .i64 bt)))
  have C6 := hide (fun (w2 : World) (hb : Below wa.heap.size wa w2) => (C w2 6 hb : w2.cell? ⟨w.heap.size, 6, none⟩ = some (.string no)))
  clear hb1 hk C HB HBK
  go_wp2_with fail
  refine wp_region_below wa (Below.refl _ _) (by kernel_rfl) (by kernel_rfl) ?_
  repeat (
    refine Quietly.step (fun K hK => ?_)
    go_simp
    first
      | (refine hK _ ?_; clear hK K)
      | (apply Exists.intro
         refine ⟨fun w1 hw1 => ?_, hK _ ?_⟩
         (first | rfl | (rw [unhide C0 w1 hw1]; exact ⟨rfl, rfl⟩) | (rw [unhide C1 w1 hw1]; exact ⟨rfl, rfl⟩) | (rw [unhide C2 w1 hw1]; exact ⟨rfl, rfl⟩) | (rw [unhide C3 w1 hw1]; exact ⟨rfl, rfl⟩) | (rw [unhide C4 w1 hw1]; exact ⟨rfl, rfl⟩) | (rw [unhide C5 w1 hw1]; exact ⟨rfl, rfl⟩) | (rw [unhide C6 w1 hw1]; exact ⟨rfl, rfl⟩) | (go_at_call_of 64 (Value.int .i64 sh); exact calls_below hw1 (unhide N2 _)) | (go_at_call_of 64 (Value.int .i64 tr); exact calls_below hw1 (unhide N3 _)) | (go_at_call_of 64 (Value.int .i64 am); exact calls_below hw1 (unhide N4 _)) | (go_at_call 66; exact calls_below hw1 (unhide N5 _)) | (go_at_call 65; exact calls_below hw1 (unhide N6 _)) | (go_at_call_of 67 (Value.int .i64 dy); exact calls_below hw1 (unhide N7 _)) | (go_at_call_of 67 (Value.int .i64 bt); exact calls_below hw1 (unhide N8 _)))
         clear hK K))
  refine Quietly.nil ?_
  intro w2 hw2
  go_wp2
  go_ret2
  exact ⟨ret_pairQ (by rw [unhide HS, unhide HT]) rfl, (unhide HB1).trans (hw2.mono (unhide HB1).size)⟩
end Go.Proofs.YtfpglpefofcdeaaDoor
