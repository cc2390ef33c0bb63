/- The reference: DealText. -/
import Derived.Test.YtolicaaifhfhcaaM48
namespace Go.Proofs.Ytolicaaifhfhcaa
open Go.RowKit
set_option linter.unusedVariables false

theorem big2_two (n : Nat) : strOfNums (bigL n 2) = twoT n := by
  unfold twoT
  congr 1
  simp only [bigL, Nat.pow_one, Nat.pow_zero, Nat.div_one, lowByte]
  congr 1 <;> (try congr 1) <;> omega
theorem big_num (n k : Nat) (h1 : 1 ≤ k) (h8 : k ≤ 8) (h : n < 256 ^ k) : strOfNums (bigL n k) = numS (n : Int) (k : Int) := by
  rw [numS_yes ((numOk_nat n k h1 h8).2 h)]
  simp
theorem ext_drewT {W x : World} (h : Below W.heap.size W x) : Below W.heap.size W x.drew := h.drew
set_option maxRecDepth 100000 in
set_option maxHeartbeats 8000000 in
theorem rdealText_any (d : XDeal) (w : World) :
    Calls Try.prog 5 #[valDeal d] w fun e w' => e = .returned (.tuple #[.string (dealS d), .int .i64 (dealE d)]) ∧ Below w.heap.size w w' := by
  have n1 := fun w => rdeal_any d w
  by_cases he : dealE d = 0
  case neg =>
    have HS : Hid (dealS d = ⟨#[]⟩) := hide (by rw [dealS, if_neg he])
    have t1 : (dealE d != 0) = true := by simpa using he
    generalize dealE d = de at *
    generalize dealS d = ds at *
    obtain ⟨sh, tr, am, ca, dy, bt, no⟩ := d
    unfold valDeal at *
    simp only at n1 ⊢
    have HB := hide ((Below.refl w.heap.size w).alloc (Nat.le_refl _) (.cells #[.int .i64 sh, .int .i64 tr, .int .i64 am, .bool ca, .int .i64 dy, .int .i64 bt, .string no] 28))
    have N1 := hide n1
    clear n1 he
    go_enter Try.func5, Try.ntmps5
    go_wp2_with fail
    refine (unhide N1 _).mono ?_
    rintro e w1 ⟨rfl, hb1⟩
    have HB1 := hide ((unhide HB).trans (hb1.mono (by simp)))
    clear hb1
    go_wp2
    go_ret2
    exact ⟨ret_pairQ (unhide HS).symm rfl, unhide HB1⟩
  have HS : Hid (dealS d = dealT d) := hide (by rw [dealS, if_pos he])
  obtain ⟨k1, k2, k3, k4, k5, k6⟩ := deal_in he
  rw [he] at n1 ⊢
  obtain ⟨sh', tr', am', ca, dy', bt', no⟩ := d
  simp only at k1 k2 k3 k4 k5 k6
  obtain ⟨sh, rfl⟩ := Int.eq_ofNat_of_zero_le k2.1
  obtain ⟨tr, rfl⟩ := Int.eq_ofNat_of_zero_le k3.1
  obtain ⟨am, rfl⟩ := Int.eq_ofNat_of_zero_le k1.1
  obtain ⟨dy, rfl⟩ := Int.eq_ofNat_of_zero_le k4.1
  obtain ⟨bt, rfl⟩ := Int.eq_ofNat_of_zero_le k5.1
  have HT : Hid (dealT ⟨sh, tr, am, ca, dy, bt, no⟩ = strOfNums (bigL sh 4) ++ strOfNums (bigL tr 4) ++ strOfNums (bigL am 8) ++ strOfNums [flagT ca] ++ strOfNums (bigL dy 2) ++ strOfNums (bigL bt 2) ++ no) := hide (by
    have e1 := big_num sh 4 (by decide) (by decide) (by omega)
    have e2 := big_num tr 4 (by decide) (by decide) (by omega)
    have e3 := big_num am 8 (by decide) (by decide) (by omega)
    have e4 : strOfNums [flagT ca] = oneT (flagT ca) := by cases ca <;> rfl
    rw [e1, e2, e3, e4, big2_two, big2_two]
    rfl)
  generalize dealT ⟨sh, tr, am, ca, dy, bt, no⟩ = dt at *
  generalize dealS ⟨sh, tr, am, ca, dy, bt, no⟩ = ds at *
  unfold valDeal at *
  simp only at n1 ⊢
  have n2 := fun w => big_any sh 4 w (by decide) (by omega)
  have n3 := fun w => big_any tr 4 w (by decide) (by omega)
  have n4 := fun w => big_any am 8 w (by decide) (by omega)
  have n5 := fun b cap w c0 => bytes1T (flagT ca) (by cases ca <;> decide) b cap w c0
  have n6 := fun w => big_any dy 2 w (by decide) (by omega)
  have n7 := fun w => big_any bt 2 w (by decide) (by omega)
  have z2 : (strOfNums (bigL sh 4)).size = 4 := by rw [strOfNums_size, bigL_length]
  have z3 : (strOfNums (bigL tr 4)).size = 4 := by rw [strOfNums_size, bigL_length]
  have z4 : (strOfNums (bigL am 8)).size = 8 := by rw [strOfNums_size, bigL_length]
  have z5 : (strOfNums [flagT ca]).size = 1 := by rw [strOfNums_size]; rfl
  have z6 : (strOfNums (bigL dy 2)).size = 2 := by rw [strOfNums_size, bigL_length]
  have z7 : (strOfNums (bigL bt 2)).size = 2 := by rw [strOfNums_size, bigL_length]
  generalize strOfNums (bigL sh 4) = a2 at *
  generalize strOfNums (bigL tr 4) = a3 at *
  generalize strOfNums (bigL am 8) = a4 at *
  generalize strOfNums [flagT ca] = a5 at *
  generalize strOfNums (bigL dy 2) = a6 at *
  generalize strOfNums (bigL bt 2) = a7 at *
  have ha1 := fun w' => run_string_add_sum (P := Try.prog) w' a2 a3 (by omega)
  have ha2 := fun w' => run_string_add_sum (P := Try.prog) w' (a2 ++ a3) a4 (by simp only [ByteArray.size_append]; omega)
  have ha3 := fun w' => run_string_add_sum (P := Try.prog) w' (a2 ++ a3 ++ a4) a5 (by simp only [ByteArray.size_append]; omega)
  have ha4 := fun w' => run_string_add_sum (P := Try.prog) w' (a2 ++ a3 ++ a4 ++ a5) a6 (by simp only [ByteArray.size_append]; omega)
  have ha5 := fun w' => run_string_add_sum (P := Try.prog) w' (a2 ++ a3 ++ a4 ++ a5 ++ a6) a7 (by simp only [ByteArray.size_append]; omega)
  have ha6 := fun w' => run_string_add_sum (P := Try.prog) w' (a2 ++ a3 ++ a4 ++ a5 ++ a6 ++ a7) no (by simp only [ByteArray.size_append]; omega)
  have N1 := hide n1; have N2 := hide n2; have N3 := hide n3; have N4 := hide n4; have N5 := hide n5; have N6 := hide n6; have N7 := hide n7
  clear n1 n2 n3 n4 n5 n6 n7 he k1 k2 k3 k4 k5 k6 z2 z3 z4 z5 z6 z7
  cases ca with
  | false =>
    have hf : flagT false = 0 := rfl
    rw [hf] at N5
    have HB := hide ((Below.refl w.heap.size w).alloc (Nat.le_refl _) (.cells #[.int .i64 (sh : Int), .int .i64 (tr : Int), .int .i64 (am : Int), .bool false, .int .i64 (dy : Int), .int .i64 (bt : Int), .string no] 28))
    have HBK := hide (heap_alloc_new w (.cells #[.int .i64 (sh : Int), .int .i64 (tr : Int), .int .i64 (am : Int), .bool false, .int .i64 (dy : Int), .int .i64 (bt : Int), .string no] 28))
    clear hf
    go_enter Try.func5, Try.ntmps5
    go_wp2_with fail
    refine (unhide N1 _).mono ?_
    rintro e W ⟨rfl, hb1⟩
    have hk := (hb1.block _ (block_ltQ (unhide HBK))).trans (unhide HBK)
    have HB1 := hide ((unhide HB).trans (hb1.mono (by simp)))
    have c0 : W.cell? ⟨w.heap.size, 0, none⟩ = some (.int .i64 (sh : Int)) := cell_of_row _ _ 0 _ _ _ hk
    have c1 : W.cell? ⟨w.heap.size, 1, none⟩ = some (.int .i64 (tr : Int)) := cell_of_row _ _ 1 _ _ _ hk
    have c2 : W.cell? ⟨w.heap.size, 2, none⟩ = some (.int .i64 (am : Int)) := cell_of_row _ _ 2 _ _ _ hk
    have c3 : W.cell? ⟨w.heap.size, 3, none⟩ = some (.bool false) := cell_of_row _ _ 3 _ _ _ hk
    have c4 : W.cell? ⟨w.heap.size, 4, none⟩ = some (.int .i64 (dy : Int)) := cell_of_row _ _ 4 _ _ _ hk
    have c5 : W.cell? ⟨w.heap.size, 5, none⟩ = some (.int .i64 (bt : Int)) := cell_of_row _ _ 5 _ _ _ hk
    have c6 : W.cell? ⟨w.heap.size, 6, none⟩ = some (.string no) := cell_of_row _ _ 6 _ _ _ hk
    clear hb1 hk HB HBK N1
    go_upto_region 7 with fail
    go_region_held3 (fun w' => w'.cell? ⟨w.heap.size, 0, none⟩ = some (.int .i64 (sh : Int)) ∧ w'.cell? ⟨w.heap.size, 1, none⟩ = some (.int .i64 (tr : Int)) ∧ w'.cell? ⟨w.heap.size, 2, none⟩ = some (.int .i64 (am : Int)) ∧ w'.cell? ⟨w.heap.size, 4, none⟩ = some (.int .i64 (dy : Int)) ∧ w'.cell? ⟨w.heap.size, 5, none⟩ = some (.int .i64 (bt : Int)) ∧ w'.cell? ⟨w.heap.size, 6, none⟩ = some (.string no))
      (first | (go_split_ands; refine ⟨?_, ?_, ?_, ?_, ?_, ?_⟩ <;> ((repeat (first | (with_reducible assumption) | (with_reducible refine drew_cellQ ?_) | (with_reducible refine old_cellQ ?_) | (with_reducible refine keep_cellQ h7 ?_) | (with_reducible refine keep_cellQ h6 ?_) | (with_reducible refine keep_cellQ h5 ?_) | (with_reducible refine keep_cellQ h4 ?_) | (with_reducible refine keep_cellQ h3 ?_) | (with_reducible refine keep_cellQ h2 ?_))); done)) | go_keep)
      ((first
        | (go_at_call_of 18 (Value.int .i64 (sh : Int)); refine (unhide N2 _).mono ?_; rintro e y2 ⟨rfl, h2⟩)
        | (go_at_call_of 18 (Value.int .i64 (tr : Int)); refine (unhide N3 _).mono ?_; rintro e y3 ⟨rfl, h3⟩)
        | (go_at_call_of 18 (Value.int .i64 (am : Int)); refine (unhide N4 _).mono ?_; rintro e y4 ⟨rfl, h4⟩)
        | (have hq := h4; go_at_call 19; refine (unhide N5 _ _ _ ?_).mono ?_; (focus (repeat (first | ((with_reducible refine new_cellQ ?_ ?_); (focus (simp; done)); rfl) | (with_reducible refine old_cellQ ?_) | (with_reducible refine keep_cellQ h4 ?_) | (with_reducible refine keep_cellQ h3 ?_) | (with_reducible refine keep_cellQ h2 ?_) | (with_reducible refine drew_cellQ ?_)))); rintro e y5 ⟨rfl, h5⟩)
        | (go_at_call_of 18 (Value.int .i64 (dy : Int)); refine (unhide N6 _).mono ?_; rintro e y6 ⟨rfl, h6⟩)
        | (go_at_call_of 18 (Value.int .i64 (bt : Int)); refine (unhide N7 _).mono ?_; rintro e y7 ⟨rfl, h7⟩)))
    all_goals
      have hfin : Below W.heap.size W y7 := by
        (repeat (first | (with_reducible exact Below.refl _ _) | (with_reducible refine ext_drewT ?_) | (with_reducible refine ext_callQ ?_ h7) | (with_reducible refine ext_callQ ?_ h6) | (with_reducible refine ext_callQ ?_ h5) | (with_reducible refine ext_callQ ?_ h4) | (with_reducible refine ext_callQ ?_ h3) | (with_reducible refine ext_callQ ?_ h2) | (with_reducible refine ext_allocQ ?_ _)))
      have HF := hide (ext_callQ (unhide HB1) hfin)
      clear h2 h3 h4 h5 h6 h7 hfin
      go_wp2
      go_ret2
      exact ⟨ret_pairQ (by rw [unhide HS, unhide HT]) rfl, unhide HF⟩
  | true =>
    have hf : flagT true = 1 := rfl
    rw [hf] at N5
    have HB := hide ((Below.refl w.heap.size w).alloc (Nat.le_refl _) (.cells #[.int .i64 (sh : Int), .int .i64 (tr : Int), .int .i64 (am : Int), .bool true, .int .i64 (dy : Int), .int .i64 (bt : Int), .string no] 28))
    have HBK := hide (heap_alloc_new w (.cells #[.int .i64 (sh : Int), .int .i64 (tr : Int), .int .i64 (am : Int), .bool true, .int .i64 (dy : Int), .int .i64 (bt : Int), .string no] 28))
    clear hf
    go_enter Try.func5, Try.ntmps5
    go_wp2_with fail
    refine (unhide N1 _).mono ?_
    rintro e W ⟨rfl, hb1⟩
    have hk := (hb1.block _ (block_ltQ (unhide HBK))).trans (unhide HBK)
    have HB1 := hide ((unhide HB).trans (hb1.mono (by simp)))
    have c0 : W.cell? ⟨w.heap.size, 0, none⟩ = some (.int .i64 (sh : Int)) := cell_of_row _ _ 0 _ _ _ hk
    have c1 : W.cell? ⟨w.heap.size, 1, none⟩ = some (.int .i64 (tr : Int)) := cell_of_row _ _ 1 _ _ _ hk
    have c2 : W.cell? ⟨w.heap.size, 2, none⟩ = some (.int .i64 (am : Int)) := cell_of_row _ _ 2 _ _ _ hk
    have c3 : W.cell? ⟨w.heap.size, 3, none⟩ = some (.bool true) := cell_of_row _ _ 3 _ _ _ hk
    have c4 : W.cell? ⟨w.heap.size, 4, none⟩ = some (.int .i64 (dy : Int)) := cell_of_row _ _ 4 _ _ _ hk
    have c5 : W.cell? ⟨w.heap.size, 5, none⟩ = some (.int .i64 (bt : Int)) := cell_of_row _ _ 5 _ _ _ hk
    have c6 : W.cell? ⟨w.heap.size, 6, none⟩ = some (.string no) := cell_of_row _ _ 6 _ _ _ hk
    clear hb1 hk HB HBK N1
    go_upto_region 7 with fail
    go_region_held3 (fun w' => w'.cell? ⟨w.heap.size, 0, none⟩ = some (.int .i64 (sh : Int)) ∧ w'.cell? ⟨w.heap.size, 1, none⟩ = some (.int .i64 (tr : Int)) ∧ w'.cell? ⟨w.heap.size, 2, none⟩ = some (.int .i64 (am : Int)) ∧ w'.cell? ⟨w.heap.size, 4, none⟩ = some (.int .i64 (dy : Int)) ∧ w'.cell? ⟨w.heap.size, 5, none⟩ = some (.int .i64 (bt : Int)) ∧ w'.cell? ⟨w.heap.size, 6, none⟩ = some (.string no))
      (first | (go_split_ands; refine ⟨?_, ?_, ?_, ?_, ?_, ?_⟩ <;> ((repeat (first | (with_reducible assumption) | (with_reducible refine drew_cellQ ?_) | (with_reducible refine old_cellQ ?_) | (with_reducible refine keep_cellQ h7 ?_) | (with_reducible refine keep_cellQ h6 ?_) | (with_reducible refine keep_cellQ h5 ?_) | (with_reducible refine keep_cellQ h4 ?_) | (with_reducible refine keep_cellQ h3 ?_) | (with_reducible refine keep_cellQ h2 ?_))); done)) | go_keep)
      ((first
        | (go_at_call_of 18 (Value.int .i64 (sh : Int)); refine (unhide N2 _).mono ?_; rintro e y2 ⟨rfl, h2⟩)
        | (go_at_call_of 18 (Value.int .i64 (tr : Int)); refine (unhide N3 _).mono ?_; rintro e y3 ⟨rfl, h3⟩)
        | (go_at_call_of 18 (Value.int .i64 (am : Int)); refine (unhide N4 _).mono ?_; rintro e y4 ⟨rfl, h4⟩)
        | (have hq := h4; go_at_call 19; refine (unhide N5 _ _ _ ?_).mono ?_; (focus (repeat (first | ((with_reducible refine new_cellQ ?_ ?_); (focus (simp; done)); rfl) | (with_reducible refine old_cellQ ?_) | (with_reducible refine keep_cellQ h4 ?_) | (with_reducible refine keep_cellQ h3 ?_) | (with_reducible refine keep_cellQ h2 ?_) | (with_reducible refine drew_cellQ ?_)))); rintro e y5 ⟨rfl, h5⟩)
        | (go_at_call_of 18 (Value.int .i64 (dy : Int)); refine (unhide N6 _).mono ?_; rintro e y6 ⟨rfl, h6⟩)
        | (go_at_call_of 18 (Value.int .i64 (bt : Int)); refine (unhide N7 _).mono ?_; rintro e y7 ⟨rfl, h7⟩)))
    all_goals
      have hfin : Below W.heap.size W y7 := by
        (repeat (first | (with_reducible exact Below.refl _ _) | (with_reducible refine ext_drewT ?_) | (with_reducible refine ext_callQ ?_ h7) | (with_reducible refine ext_callQ ?_ h6) | (with_reducible refine ext_callQ ?_ h5) | (with_reducible refine ext_callQ ?_ h4) | (with_reducible refine ext_callQ ?_ h3) | (with_reducible refine ext_callQ ?_ h2) | (with_reducible refine ext_allocQ ?_ _)))
      have HF := hide (ext_callQ (unhide HB1) hfin)
      clear h2 h3 h4 h5 h6 h7 hfin
      go_wp2
      go_ret2
      exact ⟨ret_pairQ (by rw [unhide HS, unhide HT]) rfl, unhide HF⟩
end Go.Proofs.Ytolicaaifhfhcaa
