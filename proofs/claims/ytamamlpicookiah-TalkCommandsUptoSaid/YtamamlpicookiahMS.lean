/- The reference: DealText. -/
import Derived.Test.YtamamlpicookiahMR
import Derived.Test.YtamamlpicookiahMH
namespace Go.Proofs.Ytamamlpicookiah
open Go.RowKit
set_option linter.unusedVariables false

theorem big2_two (n : Nat) : strOfNums (bigL n 2) = twoT n := by
  unfold twoT
  congr 1
  simp only [bigL, Nat.pow_one, Nat.pow_zero, Nat.div_one, lowByte]
  congr 1 <;> (try congr 1) <;> omega
theorem big_num (n k : Nat) (h1 : 1 ≤ k) (h8 : k ≤ 8) (h : n < 256 ^ k) : strOfNums (bigL n k) = numS (n : Int) (k : Int) := by
  rw [numS_yes ((numOk_nat n k h1 h8).2 h)]
  simp
theorem ext_drewT {W x : World} (h : Below W.heap.size W x) : Below W.heap.size W x.drew := h.drew
set_option maxRecDepth 100000 in
set_option maxHeartbeats 8000000 in
theorem rdealText_any (d : XDeal) (w : World) :
    Calls Try.prog 17 #[valDeal d] w fun e w' => e = .returned (.tuple #[.string (dealS d), .int .i64 (dealE d)]) ∧ Below w.heap.size w w' := by
  have n1 := fun w => rdeal_any d w
  by_cases he : dealE d = 0
  case neg =>
    have HS : Hid (dealS d = ⟨#[]⟩) := hide (by rw [dealS, if_neg he])
    have t1 : (dealE d != 0) = true := by simpa using he
    generalize dealE d = de at *
    generalize dealS d = ds at *
    obtain ⟨sh, tr, am, ca, dy, bt, no⟩ := d
    unfold valDeal at *
    simp only at n1 ⊢
    have HB := hide ((Below.refl w.heap.size w).alloc (Nat.le_refl _) (.cells #[.int .i64 sh, .int .i64 tr, .int .i64 am, .bool ca, .int .i64 dy, .int .i64 bt, .string no] 23))
    have N1 := hide n1
    clear n1 he
    go_enter Try.func17, Try.ntmps17
    go_wp2_with fail
    refine (unhide N1 _).mono ?_
    rintro e w1 ⟨rfl, hb1⟩
    have HB1 := hide ((unhide HB).trans (hb1.mono (by simp)))
    clear hb1
    go_wp2
    go_ret2
    exact ⟨ret_pairQ (unhide HS).symm rfl, unhide HB1⟩
  have HS : Hid (dealS d = dealT d) := hide (by rw [dealS, if_pos he])
  obtain ⟨k1, k2, k3, k4, k5, k6⟩ := deal_in he
  rw [he] at n1 ⊢
  obtain ⟨sh', tr', am', ca, dy', bt', no⟩ := d
  simp only at k1 k2 k3 k4 k5 k6
  obtain ⟨sh, rfl⟩ := Int.eq_ofNat_of_zero_le k2.1
  obtain ⟨tr, rfl⟩ := Int.eq_ofNat_of_zero_le k3.1
  obtain ⟨am, rfl⟩ := Int.eq_ofNat_of_zero_le k1.1
  obtain ⟨dy, rfl⟩ := Int.eq_ofNat_of_zero_le k4.1
  obtain ⟨bt, rfl⟩ := Int.eq_ofNat_of_zero_le k5.1
  have HT : Hid (dealT ⟨sh, tr, am, ca, dy, bt, no⟩ = strOfNums (bigL sh 4) ++ strOfNums (bigL tr 4) ++ strOfNums (bigL am 8) ++ strOfNums [flagT ca] ++ strOfNums (bigL dy 2) ++ strOfNums (bigL bt 2) ++ no) := hide (by
    have e1 := big_num sh 4 (by decide) (by decide) (by omega)
    have e2 := big_num tr 4 (by decide) (by decide) (by omega)
    have e3 := big_num am 8 (by decide) (by decide) (by omega)
    have e4 : strOfNums [flagT ca] = oneT (flagT ca) := by cases ca <;> rfl
    rw [e1, e2, e3, e4, big2_two, big2_two]
    rfl)
  generalize dealT ⟨sh, tr, am, ca, dy, bt, no⟩ = dt at *
  generalize dealS ⟨sh, tr, am, ca, dy, bt, no⟩ = ds at *
  unfold valDeal at *
  simp only at n1 ⊢
  have n2 := fun w => big_any sh 4 w (by decide) (by omega)
  have n3 := fun w => big_any tr 4 w (by decide) (by omega)
  have n4 := fun w => big_any am 8 w (by decide) (by omega)
  have n5 := fun b cap w c0 => bytes1T (flagT ca) (by cases ca <;> decide) b cap w c0
  have n6 := fun w => big_any dy 2 w (by decide) (by omega)
  have n7 := fun w => big_any bt 2 w (by decide) (by omega)
  have z2 : (strOfNums (bigL sh 4)).size = 4 := by rw [strOfNums_size, bigL_length]
  have z3 : (strOfNums (bigL tr 4)).size = 4 := by rw [strOfNums_size, bigL_length]
  have z4 : (strOfNums (bigL am 8)).size = 8 := by rw [strOfNums_size, bigL_length]
  have z5 : (strOfNums [flagT ca]).size = 1 := by rw [strOfNums_size]; rfl
  have z6 : (strOfNums (bigL dy 2)).size = 2 := by rw [strOfNums_size, bigL_length]
  have z7 : (strOfNums (bigL bt 2)).size = 2 := by rw [strOfNums_size, bigL_length]
  generalize strOfNums (bigL sh 4) = a2 at *
  generalize strOfNums (bigL tr 4) = a3 at *
  generalize strOfNums (bigL am 8) = a4 at *
  generalize strOfNums [flagT ca] = a5 at *
  generalize strOfNums (bigL dy 2) = a6 at *
  generalize strOfNums (bigL bt 2) = a7 at *
  have ha1 := fun w' => run_string_add_sum (P := Try.prog) w' a2 a3 (by omega)
  have ha2 := fun w' => run_string_add_sum (P := Try.prog) w' (a2 ++ a3) a4 (by simp only [ByteArray.size_append]; omega)
  have ha3 := fun w' => run_string_add_sum (P := Try.prog) w' (a2 ++ a3 ++ a4) a5 (by simp only [ByteArray.size_append]; omega)
  have ha4 := fun w' => run_string_add_sum (P := Try.prog) w' (a2 ++ a3 ++ a4 ++ a5) a6 (by simp only [ByteArray.size_append]; omega)
  have ha5 := fun w' => run_string_add_sum (P := Try.prog) w' (a2 ++ a3 ++ a4 ++ a5 ++ a6) a7 (by simp only [ByteArray.size_append]; omega)
  have ha6 := fun w' => run_string_add_sum (P := Try.prog) w' (a2 ++ a3 ++ a4 ++ a5 ++ a6 ++ a7) no (by simp only [ByteArray.size_append]; omega)
  have N1 := hide n1; have N2 := hide n2; have N3 := hide n3; have N4 := hide n4; have N5 := hide n5; have N6 := hide n6; have N7 := hide n7
  clear n1 n2 n3 n4 n5 n6 n7 he k1 k2 k3 k4 k5 k6 z2 z3 z4 z5 z6 z7
  cases ca with
  | false =>
    have hf : flagT false = 0 := rfl
    rw [hf] at N5
    have HB := hide ((Below.refl w.heap.size w).alloc (Nat.le_refl _) (.cells #[.int .i64 (sh : Int), .int .i64 (tr : Int), .int .i64 (am : Int), .bool false, .int .i64 (dy : Int), .int .i64 (bt : Int), .string no] 23))
    have HBK := hide (heap_alloc_new w (.cells #[.int .i64 (sh : Int), .int .i64 (tr : Int), .int .i64 (am : Int), .bool false, .int .i64 (dy : Int), .int .i64 (bt : Int), .string no] 23))
    clear hf
    go_enter Try.func17, Try.ntmps17
    go_wp2_with fail
    refine (unhide N1 _).mono ?_
    rintro e W ⟨rfl, hb1⟩
    have hk := (hb1.block _ (block_ltQ (unhide HBK))).trans (unhide HBK)
    have HB1 := hide ((unhide HB).trans (hb1.mono (by simp)))
    have c0 : W.cell? ⟨w.heap.size, 0, none⟩ = some (.int .i64 (sh : Int)) := cell_of_row _ _ 0 _ _ _ hk
    have c1 : W.cell? ⟨w.heap.size, 1, none⟩ = some (.int .i64 (tr : Int)) := cell_of_row _ _ 1 _ _ _ hk
    have c2 : W.cell? ⟨w.heap.size, 2, none⟩ = some (.int .i64 (am : Int)) := cell_of_row _ _ 2 _ _ _ hk
    have c3 : W.cell? ⟨w.heap.size, 3, none⟩ = some (.bool false) := cell_of_row _ _ 3 _ _ _ hk
    have c4 : W.cell? ⟨w.heap.size, 4, none⟩ = some (.int .i64 (dy : Int)) := cell_of_row _ _ 4 _ _ _ hk
    have c5 : W.cell? ⟨w.heap.size, 5, none⟩ = some (.int .i64 (bt : Int)) := cell_of_row _ _ 5 _ _ _ hk
    have c6 : W.cell? ⟨w.heap.size, 6, none⟩ = some (.string no) := cell_of_row _ _ 6 _ _ _ hk
    clear hb1 hk HB HBK N1
    go_upto_region 7 with fail
    go_region_held3 (fun w' => w'.cell? ⟨w.heap.size, 0, none⟩ = some (.int .i64 (sh : Int)) ∧ w'.cell? ⟨w.heap.size, 1, none⟩ = some (.int .i64 (tr : Int)) ∧ w'.cell? ⟨w.heap.size, 2, none⟩ = some (.int .i64 (am : Int)) ∧ w'.cell? ⟨w.heap.size, 4, none⟩ = some (.int .i64 (dy : Int)) ∧ w'.cell? ⟨w.heap.size, 5, none⟩ = some (.int .i64 (bt : Int)) ∧ w'.cell? ⟨w.heap.size, 6, none⟩ = some (.string no))
      (first | (go_split_ands; refine ⟨?_, ?_, ?_, ?_, ?_, ?_⟩ <;> ((repeat (first | (with_reducible assumption) | (with_reducible refine drew_cellQ ?_) | (with_reducible refine old_cellQ ?_) | (with_reducible refine keep_cellQ h7 ?_) | (with_reducible refine keep_cellQ h6 ?_) | (with_reducible refine keep_cellQ h5 ?_) | (with_reducible refine keep_cellQ h4 ?_) | (with_reducible refine keep_cellQ h3 ?_) | (with_reducible refine keep_cellQ h2 ?_))); done)) | go_keep)
      ((first
        | (go_at_call_of 35 (Value.int .i64 (sh : Int)); refine (unhide N2 _).mono ?_; rintro e y2 ⟨rfl, h2⟩)
        | (go_at_call_of 35 (Value.int .i64 (tr : Int)); refine (unhide N3 _).mono ?_; rintro e y3 ⟨rfl, h3⟩)
        | (go_at_call_of 35 (Value.int .i64 (am : Int)); refine (unhide N4 _).mono ?_; rintro e y4 ⟨rfl, h4⟩)
        | (have hq := h4; go_at_call 16; refine (unhide N5 _ _ _ ?_).mono ?_; (focus (repeat (first | ((with_reducible refine new_cellQ ?_ ?_); (focus (simp; done)); rfl) | (with_reducible refine old_cellQ ?_) | (with_reducible refine keep_cellQ h4 ?_) | (with_reducible refine keep_cellQ h3 ?_) | (with_reducible refine keep_cellQ h2 ?_) | (with_reducible refine drew_cellQ ?_)))); rintro e y5 ⟨rfl, h5⟩)
        | (go_at_call_of 35 (Value.int .i64 (dy : Int)); refine (unhide N6 _).mono ?_; rintro e y6 ⟨rfl, h6⟩)
        | (go_at_call_of 35 (Value.int .i64 (bt : Int)); refine (unhide N7 _).mono ?_; rintro e y7 ⟨rfl, h7⟩)))
    all_goals
      have hfin : Below W.heap.size W y7 := by
        (repeat (first | (with_reducible exact Below.refl _ _) | (with_reducible refine ext_drewT ?_) | (with_reducible refine ext_callQ ?_ h7) | (with_reducible refine ext_callQ ?_ h6) | (with_reducible refine ext_callQ ?_ h5) | (with_reducible refine ext_callQ ?_ h4) | (with_reducible refine ext_callQ ?_ h3) | (with_reducible refine ext_callQ ?_ h2) | (with_reducible refine ext_allocQ ?_ _)))
      have HF := hide (ext_callQ (unhide HB1) hfin)
      clear h2 h3 h4 h5 h6 h7 hfin
      go_wp2
      go_ret2
      exact ⟨ret_pairQ (by rw [unhide HS, unhide HT]) rfl, unhide HF⟩
  | true =>
    have hf : flagT true = 1 := rfl
    rw [hf] at N5
    have HB := hide ((Below.refl w.heap.size w).alloc (Nat.le_refl _) (.cells #[.int .i64 (sh : Int), .int .i64 (tr : Int), .int .i64 (am : Int), .bool true, .int .i64 (dy : Int), .int .i64 (bt : Int), .string no] 23))
    have HBK := hide (heap_alloc_new w (.cells #[.int .i64 (sh : Int), .int .i64 (tr : Int), .int .i64 (am : Int), .bool true, .int .i64 (dy : Int), .int .i64 (bt : Int), .string no] 23))
    clear hf
    go_enter Try.func17, Try.ntmps17
    go_wp2_with fail
    refine (unhide N1 _).mono ?_
    rintro e W ⟨rfl, hb1⟩
    have hk := (hb1.block _ (block_ltQ (unhide HBK))).trans (unhide HBK)
    have HB1 := hide ((unhide HB).trans (hb1.mono (by simp)))
    have c0 : W.cell? ⟨w.heap.size, 0, none⟩ = some (.int .i64 (sh : Int)) := cell_of_row _ _ 0 _ _ _ hk
    have c1 : W.cell? ⟨w.heap.size, 1, none⟩ = some (.int .i64 (tr : Int)) := cell_of_row _ _ 1 _ _ _ hk
    have c2 : W.cell? ⟨w.heap.size, 2, none⟩ = some (.int .i64 (am : Int)) := cell_of_row _ _ 2 _ _ _ hk
    have c3 : W.cell? ⟨w.heap.size, 3, none⟩ = some (.bool true) := cell_of_row _ _ 3 _ _ _ hk
    have c4 : W.cell? ⟨w.heap.size, 4, none⟩ = some (.int .i64 (dy : Int)) := cell_of_row _ _ 4 _ _ _ hk
    have c5 : W.cell? ⟨w.heap.size, 5, none⟩ = some (.int .i64 (bt : Int)) := cell_of_row _ _ 5 _ _ _ hk
    have c6 : W.cell? ⟨w.heap.size, 6, none⟩ = some (.string no) := cell_of_row _ _ 6 _ _ _ hk
    clear hb1 hk HB HBK N1
    go_upto_region 7 with fail
    go_region_held3 (fun w' => w'.cell? ⟨w.heap.size, 0, none⟩ = some (.int .i64 (sh : Int)) ∧ w'.cell? ⟨w.heap.size, 1, none⟩ = some (.int .i64 (tr : Int)) ∧ w'.cell? ⟨w.heap.size, 2, none⟩ = some (.int .i64 (am : Int)) ∧ w'.cell? ⟨w.heap.size, 4, none⟩ = some (.int .i64 (dy : Int)) ∧ w'.cell? ⟨w.heap.size, 5, none⟩ = some (.int .i64 (bt : Int)) ∧ w'.cell? ⟨w.heap.size, 6, none⟩ = some (.string no))
      (first | (go_split_ands; refine ⟨?_, ?_, ?_, ?_, ?_, ?_⟩ <;> ((repeat (first | (with_reducible assumption) | (with_reducible refine drew_cellQ ?_) | (with_reducible refine old_cellQ ?_) | (with_reducible refine keep_cellQ h7 ?_) | (with_reducible refine keep_cellQ h6 ?_) | (with_reducible refine keep_cellQ h5 ?_) | (with_reducible refine keep_cellQ h4 ?_) | (with_reducible refine keep_cellQ h3 ?_) | (with_reducible refine keep_cellQ h2 ?_))); done)) | go_keep)
      ((first
        | (go_at_call_of 35 (Value.int .i64 (sh : Int)); refine (unhide N2 _).mono ?_; rintro e y2 ⟨rfl, h2⟩)
        | (go_at_call_of 35 (Value.int .i64 (tr : Int)); refine (unhide N3 _).mono ?_; rintro e y3 ⟨rfl, h3⟩)
        | (go_at_call_of 35 (Value.int .i64 (am : Int)); refine (unhide N4 _).mono ?_; rintro e y4 ⟨rfl, h4⟩)
        | (have hq := h4; go_at_call 16; refine (unhide N5 _ _ _ ?_).mono ?_; (focus (repeat (first | ((with_reducible refine new_cellQ ?_ ?_); (focus (simp; done)); rfl) | (with_reducible refine old_cellQ ?_) | (with_reducible refine keep_cellQ h4 ?_) | (with_reducible refine keep_cellQ h3 ?_) | (with_reducible refine keep_cellQ h2 ?_) | (with_reducible refine drew_cellQ ?_)))); rintro e y5 ⟨rfl, h5⟩)
        | (go_at_call_of 35 (Value.int .i64 (dy : Int)); refine (unhide N6 _).mono ?_; rintro e y6 ⟨rfl, h6⟩)
        | (go_at_call_of 35 (Value.int .i64 (bt : Int)); refine (unhide N7 _).mono ?_; rintro e y7 ⟨rfl, h7⟩)))
    all_goals
      have hfin : Below W.heap.size W y7 := by
        (repeat (first | (with_reducible exact Below.refl _ _) | (with_reducible refine ext_drewT ?_) | (with_reducible refine ext_callQ ?_ h7) | (with_reducible refine ext_callQ ?_ h6) | (with_reducible refine ext_callQ ?_ h5) | (with_reducible refine ext_callQ ?_ h4) | (with_reducible refine ext_callQ ?_ h3) | (with_reducible refine ext_callQ ?_ h2) | (with_reducible refine ext_allocQ ?_ _)))
      have HF := hide (ext_callQ (unhide HB1) hfin)
      clear h2 h3 h4 h5 h6 h7 hfin
      go_wp2
      go_ret2
      exact ⟨ret_pairQ (by rw [unhide HS, unhide HT]) rfl, unhide HF⟩
end Go.Proofs.Ytamamlpicookiah
namespace Go.Proofs.Ytamamlpicookiah
open Go.RowKit
set_option linter.unusedVariables false

/-- texts with their tags, one behind the other -/
def inL : List (Int × ByteArray) → ByteArray
  | [] => ⟨#[]⟩
  | x :: r => itS x.1 x.2 ++ inL r
theorem nil_app (s : ByteArray) : (⟨#[]⟩ : ByteArray) ++ s = s := by apply ByteArray.ext; simp
theorem app_nil (s : ByteArray) : s ++ (⟨#[]⟩ : ByteArray) = s := by apply ByteArray.ext; simp
theorem rest_1 (nm dg : ByteArray) (wn sh tr am : Int) (ca : Bool) (dy bt : Int) (no ex an od : ByteArray) : decide ((⟨0, nm, dg, wn, ⟨sh, tr, am, ca, dy, bt, no⟩, ex, an, od⟩ : XCommand) = zeroC) = decide ((⟨1, nm, dg, wn, ⟨sh, tr, am, ca, dy, bt, no⟩, ex, an, od⟩ : XCommand) = ownC ⟨1, nm, dg, wn, ⟨sh, tr, am, ca, dy, bt, no⟩, ex, an, od⟩) := by
  apply decide_eq_decide.2
  simp [ownC, zeroC, zeroD]
theorem rest_2 (nm dg : ByteArray) (wn sh tr am : Int) (ca : Bool) (dy bt : Int) (no ex an od : ByteArray) : decide ((⟨0, ⟨#[]⟩, dg, wn, ⟨sh, tr, am, ca, dy, bt, no⟩, ex, an, od⟩ : XCommand) = zeroC) = decide ((⟨2, nm, dg, wn, ⟨sh, tr, am, ca, dy, bt, no⟩, ex, an, od⟩ : XCommand) = ownC ⟨2, nm, dg, wn, ⟨sh, tr, am, ca, dy, bt, no⟩, ex, an, od⟩) := by
  apply decide_eq_decide.2
  simp [ownC, zeroC, zeroD]
theorem rest_3 (nm dg : ByteArray) (wn sh tr am : Int) (ca : Bool) (dy bt : Int) (no ex an od : ByteArray) : decide ((⟨0, nm, dg, wn, ⟨sh, tr, am, ca, dy, bt, no⟩, ex, an, od⟩ : XCommand) = zeroC) = decide ((⟨3, nm, dg, wn, ⟨sh, tr, am, ca, dy, bt, no⟩, ex, an, od⟩ : XCommand) = ownC ⟨3, nm, dg, wn, ⟨sh, tr, am, ca, dy, bt, no⟩, ex, an, od⟩) := by
  apply decide_eq_decide.2
  simp [ownC, zeroC, zeroD]
theorem rest_4 (nm dg : ByteArray) (wn sh tr am : Int) (ca : Bool) (dy bt : Int) (no ex an od : ByteArray) : decide ((⟨0, nm, ⟨#[]⟩, wn, ⟨sh, tr, am, ca, dy, bt, no⟩, ex, an, od⟩ : XCommand) = zeroC) = decide ((⟨4, nm, dg, wn, ⟨sh, tr, am, ca, dy, bt, no⟩, ex, an, od⟩ : XCommand) = ownC ⟨4, nm, dg, wn, ⟨sh, tr, am, ca, dy, bt, no⟩, ex, an, od⟩) := by
  apply decide_eq_decide.2
  simp [ownC, zeroC, zeroD]
theorem rest_5 (nm dg : ByteArray) (wn sh tr am : Int) (ca : Bool) (dy bt : Int) (no ex an od : ByteArray) : decide ((⟨0, nm, dg, 0, ⟨0, 0, 0, false, 0, 0, ⟨#[]⟩⟩, ⟨#[]⟩, an, od⟩ : XCommand) = zeroC) = decide ((⟨5, nm, dg, wn, ⟨sh, tr, am, ca, dy, bt, no⟩, ex, an, od⟩ : XCommand) = ownC ⟨5, nm, dg, wn, ⟨sh, tr, am, ca, dy, bt, no⟩, ex, an, od⟩) := by
  apply decide_eq_decide.2
  simp [ownC, zeroC, zeroD]
theorem rest_6 (nm dg : ByteArray) (wn sh tr am : Int) (ca : Bool) (dy bt : Int) (no ex an od : ByteArray) : decide ((⟨0, nm, dg, 0, ⟨sh, tr, am, ca, dy, bt, no⟩, ex, ⟨#[]⟩, od⟩ : XCommand) = zeroC) = decide ((⟨6, nm, dg, wn, ⟨sh, tr, am, ca, dy, bt, no⟩, ex, an, od⟩ : XCommand) = ownC ⟨6, nm, dg, wn, ⟨sh, tr, am, ca, dy, bt, no⟩, ex, an, od⟩) := by
  apply decide_eq_decide.2
  simp [ownC, zeroC, zeroD]
theorem rest_7 (nm dg : ByteArray) (wn sh tr am : Int) (ca : Bool) (dy bt : Int) (no ex an od : ByteArray) : decide ((⟨0, nm, dg, wn, ⟨sh, tr, am, ca, dy, bt, no⟩, ex, an, ⟨#[]⟩⟩ : XCommand) = zeroC) = decide ((⟨7, nm, dg, wn, ⟨sh, tr, am, ca, dy, bt, no⟩, ex, an, od⟩ : XCommand) = ownC ⟨7, nm, dg, wn, ⟨sh, tr, am, ca, dy, bt, no⟩, ex, an, od⟩) := by
  apply decide_eq_decide.2
  simp [ownC, zeroC, zeroD]

/-- tags of one byte that are not made of others -/
def goodT (t : Int) : Prop := madeV t = false ∧ validB t = true ∧ 0 ≤ t ∧ t < 256
def goodL (L : List (Int × ByteArray)) : Prop := ∀ x ∈ L, goodT x.1
theorem good_128 : goodT 128 := ⟨by decide +kernel, by decide +kernel, by decide, by decide⟩
theorem good_129 : goodT 129 := ⟨by decide +kernel, by decide +kernel, by decide, by decide⟩
theorem good_130 : goodT 130 := ⟨by decide +kernel, by decide +kernel, by decide, by decide⟩
theorem good_131 : goodT 131 := ⟨by decide +kernel, by decide +kernel, by decide, by decide⟩
theorem good_132 : goodT 132 := ⟨by decide +kernel, by decide +kernel, by decide, by decide⟩
theorem good_133 : goodT 133 := ⟨by decide +kernel, by decide +kernel, by decide, by decide⟩
theorem good_134 : goodT 134 := ⟨by decide +kernel, by decide +kernel, by decide, by decide⟩
theorem good_135 : goodT 135 := ⟨by decide +kernel, by decide +kernel, by decide, by decide⟩
theorem goodL_nil : goodL [] := fun x hx => by cases hx
theorem goodL_cons {t : Int} {s : ByteArray} {L : List (Int × ByteArray)} (h : goodT t) (hl : goodL L) : goodL ((t, s) :: L) := fun x hx => by
  rcases List.mem_cons.1 hx with rfl | h1
  · exact h
  · exact hl x h1
theorem goodL_cmd (c : XCommand) : goodL (cmdL c) := by
  unfold cmdL
  split
  · exact goodL_cons good_128 (goodL_cons good_129 goodL_nil)
  · split
    · exact goodL_cons good_128 (goodL_cons good_130 goodL_nil)
    · split
      · exact goodL_cons good_128 (goodL_cons good_131 (goodL_cons good_132 (goodL_cons good_133 goodL_nil)))
      · split
        · exact goodL_cons good_128 (goodL_cons good_131 (goodL_cons good_134 goodL_nil))
        · split
          · exact goodL_cons good_128 (goodL_cons good_135 goodL_nil)
          · exact goodL_cons good_128 goodL_nil
theorem tagLen_good {t : Int} (h : goodT t) : tagLen t.toNat = 1 := by
  unfold tagLen
  rw [if_pos (by have := h.2.2; omega)]
theorem fold_leaf : ∀ (L : List (Int × ByteArray)) (s p : Nat), goodL L → p ≤ 1 → ∃ p', (L.map leafI).foldl (stepM (measD 0)) (some (s, p)) = some (s + (inL L).size, p') ∧ p' ≤ 1
  | [], s, p, _, hp => ⟨p, rfl, hp⟩
  | x :: r, s, p, h, hp => by
    have hx := h x (List.mem_cons_self ..)
    obtain ⟨p', e, hp'⟩ := fold_leaf r (s + (itS x.1 x.2).size) (max p 1) (fun y hy => h y (List.mem_cons_of_mem _ hy)) (by omega)
    refine ⟨p', ?_, hp'⟩
    rw [List.map_cons, List.foldl_cons, step_yes]
    have hf : fitsB (leafI x).tag (leafI x).text.size (leafI x).list.length = true := by
      show fitsB x.1 x.2.size 0 = true
      rw [fits_not hx.1, hx.2.1]; rfl
    rw [if_pos hf]
    have e1 : tagLen (leafI x).tag.toNat = 1 := tagLen_good hx
    have e2 : (leafI x).text.size = x.2.size := rfl
    show List.foldl _ (some (s + (tagLen (leafI x).tag.toNat + lenLen (0 + (leafI x).text.size)) + (0 + (leafI x).text.size), max p (1 + 0))) _ = _
    rw [e1, e2]
    have e3 : s + (1 + lenLen (0 + x.2.size)) + (0 + x.2.size) = s + (itS x.1 x.2).size := by
      rw [itS_size, Nat.zero_add]; omega
    rw [e3]
    have e4 : (inL (x :: r)).size = (itS x.1 x.2).size + (inL r).size := by
      show (itS x.1 x.2 ++ inL r).size = _
      exact ByteArray.size_append
    rw [e4, ← Nat.add_assoc]
    exact e
theorem made_161 : madeV 161 = true := by decide +kernel
theorem meas_node (L : List (Int × ByteArray)) (h : goodL L) : ∃ p, measD 2 [nodeI 161 L] = some ((itS 161 (inL L)).size, p) ∧ p ≤ 2 := by
  obtain ⟨p', e, hp⟩ := fold_leaf L 0 0 h (by omega)
  have e1 : measD 1 (nodeI 161 L).list = some ((inL L).size, p') := by
    have : measD 1 (nodeI 161 L).list = (L.map leafI).foldl (stepM (measD 0)) (some (0, 0)) := rfl
    rw [this, e, Nat.zero_add]
  refine ⟨max 0 (1 + p'), ?_, by omega⟩
  show stepM (measD 1) (some (0, 0)) (nodeI 161 L) = _
  rw [step_yes]
  have hf : fitsB (nodeI 161 L).tag (nodeI 161 L).text.size (nodeI 161 L).list.length = true := by
    show fitsB 161 0 _ = true
    rw [fits_made made_161]; rfl
  rw [if_pos hf, e1]
  show some (0 + (tagLen (161 : Int).toNat + lenLen ((inL L).size + 0)) + ((inL L).size + 0), _) = _
  have e2 : tagLen (161 : Int).toNat = 1 := rfl
  rw [e2, itS_size, Nat.add_zero]
  congr 2
  omega
theorem strOf_cons (a : Int) (l : List Int) : strOfNums (a :: l) = strOfNums [a] ++ strOfNums l := by rw [strOfNums_append]; rfl
theorem itemL_it {t : Int} {b : List Int} {s : ByteArray} (h : goodT t ∨ t = 161) (hb : strOfNums b = s) (hs : s.size < 65536) : strOfNums (itemL t.toNat b) = itS t s := by
  have hl : b.length = s.size := by rw [← hb, strOfNums_size]
  have ht : 0 ≤ t ∧ t < 256 := by
    rcases h with h | h
    · exact h.2.2
    · omega
  unfold itemL
  rw [← strOfNums_append, ← strOfNums_append, hb, hl]
  have h1 : tagL t.toNat = [t] := by
    show bigL t.toNat (tagLen t.toNat) = _
    have h2 : tagLen t.toNat = 1 := by unfold tagLen; rw [if_pos (by omega)]
    rw [h2]
    simp [bigL]
    omega
  rw [h1]
  unfold itS szS
  rw [lenR_small hs]
theorem text_leaf : ∀ (L : List (Int × ByteArray)), goodL L → (inL L).size < 65536 → strOfNums (textD 1 (L.map leafI)) = inL L
  | [], _, _ => by simp [textD, inL, strOfNums]
  | x :: r, h, hs => by
    have hx := h x (List.mem_cons_self ..)
    have e4 : (inL (x :: r)).size = (itS x.1 x.2).size + (inL r).size := by
      show (itS x.1 x.2 ++ inL r).size = _
      exact ByteArray.size_append
    have e5 := itS_size x.1 x.2
    have ih := text_leaf r (fun y hy => h y (List.mem_cons_of_mem _ hy)) (by omega)
    have e1 : textD 1 ((x :: r).map leafI) = itemL x.1.toNat (bodyL (textD 0) (leafI x)) ++ textD 1 (r.map leafI) := by simp [textD, leafI, It.tag]
    have e2 : bodyL (textD 0) (leafI x) = strL x.2 := body_not hx.1
    rw [e1, e2, ← strOfNums_append, ih, itemL_it (.inl hx) (strOf_strL x.2) (by omega)]
    rfl
theorem tell_out (L : List (Int × ByteArray)) (h : goodL L) : tellE 161 L 0 = outE 161 (inL L) ∧ tellS 161 L 0 = outS 161 (inL L) := by
  obtain ⟨p, e, hp⟩ := meas_node L h
  have hz := itS_size 161 (inL L)
  have hE : printsE (measD 2 [nodeI 161 L]) = outE 161 (inL L) := by
    rw [e]
    show (if 8 < p ∨ 65535 < (itS 161 (inL L)).size then (2 : Int) else 0) = _
    unfold outE
    by_cases hc : 65535 < (itS 161 (inL L)).size
    · rw [if_pos (.inr hc), if_pos hc]
    · rw [if_neg (by omega), if_neg hc]
  constructor
  · unfold tellE; rw [if_pos rfl, hE]
  · unfold tellS printsS
    rw [if_pos rfl, hE]
    unfold outE outS
    by_cases hc : 65535 < (itS 161 (inL L)).size
    · rw [if_pos hc, if_pos hc, if_neg (by decide)]
    · rw [if_neg hc, if_neg hc, if_pos rfl]
      have e1 : textD 2 [nodeI 161 L] = itemL 161 (bodyL (textD 1) (nodeI 161 L)) := by simp [textD, nodeI, It.tag]
      have e2 : bodyL (textD 1) (nodeI 161 L) = textD 1 (L.map leafI) := body_made made_161
      rw [e1, e2]
      exact itemL_it (t := 161) (.inr rfl) (text_leaf L h (by omega)) (by omega)
theorem tell_wrong {L : List (Int × ByteArray)} {er : Int} (h : er ≠ 0) : tellE 161 L er = er ∧ tellS 161 L er = ⟨#[]⟩ := by
  unfold tellE tellS
  rw [if_neg h, if_neg h]
  exact ⟨rfl, rfl⟩
theorem inL_ge {L : List (Int × ByteArray)} {x : Int × ByteArray} (h : x ∈ L) : x.2.size ≤ (inL L).size := by
  induction L with
  | nil => cases h
  | cons y r ih =>
    have e4 : (inL (y :: r)).size = (itS y.1 y.2).size + (inL r).size := by
      show (itS y.1 y.2 ++ inL r).size = _
      exact ByteArray.size_append
    rcases List.mem_cons.1 h with rfl | h1
    · have := itS_size x.1 x.2; omega
    · have := ih h1; omega
theorem tell_long {L : List (Int × ByteArray)} (h : goodL L) {x : Int × ByteArray} (hx : x ∈ L) (hs : 65535 < x.2.size) : tellE 161 L 0 = 2 ∧ tellS 161 L 0 = ⟨#[]⟩ := by
  obtain ⟨a, b⟩ := tell_out L h
  have h1 := inL_ge hx
  have h2 := itS_size 161 (inL L)
  rw [a, b]
  unfold outE outS
  rw [if_pos (by omega), if_pos (by omega)]
  exact ⟨rfl, rfl⟩
theorem num_one {n : Int} (h : 0 ≤ n ∧ n ≤ 255) : numS n 1 = strOfNums [n] ∧ numE n 1 = 0 := by
  obtain ⟨k, rfl⟩ := Int.eq_ofNat_of_zero_le h.1
  have hk : numOk (k : Int) 1 := (numOk_nat k 1 (by decide) (by decide)).2 (by omega)
  refine ⟨?_, numE_yes hk⟩
  rw [numS_yes hk]
  congr 1
  simp [bigL]
  omega
theorem num_far {n : Int} (h : ¬ (0 ≤ n ∧ n ≤ 255)) : numE n 1 = 3 := numE_no (fun hk => h (by
  unfold numOk at hk
  have e : (256 : Int) ^ Int.toNat 1 = 256 := by decide
  rw [e] at hk
  omega))
end Go.Proofs.Ytamamlpicookiah
