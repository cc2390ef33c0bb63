/- Fill of the reference. -/
import Derived.Test.YthamjfgiklbifabFill
import Derived.Test.YthamjfgiklbifabRFind
import Derived.Test.YthamjfgiklbifabRPrintF
namespace Go.Proofs.Ythamjfgiklbifab
open Go.RowKit
set_option linter.unusedVariables false

theorem zerosS_succ (n : Nat) : zerosS n ++ ⟨#[0]⟩ = zerosS (n + 1) := by
  unfold zerosS
  apply ByteArray.ext
  apply Array.toList_inj.1
  rw [ByteArray.data_append, Array.toList_append]
  simp [List.replicate_succ']

set_option maxRecDepth 100000 in
theorem zeros_any (n : Nat) (w : World) (hn : n ≤ 255) :
    Calls Try.prog 43 #[.int .i64 n] w fun e w' => e = .returned (.string (zerosS n)) ∧ Below w.heap.size w w' := by
  go_enter Try.func43, Try.ntmps43
  go_wp2
  go_loopw [3, 4] (fun s i wr => ∃ k : Nat, k ≤ n ∧ s = .string (zerosS k) ∧ i = .int .i64 k ∧ Below w.heap.size w wr) (fun _ i _ => n - (intOf i).toNat)
  case atStart => exact ⟨0, Nat.zero_le _, rfl, rfl, Below.refl _ _⟩
  case round =>
    obtain ⟨k, hk, rfl, rfl, hbw⟩ := hrel
    by_cases hlt : k < n
    · have hz := zerosS_size k
      have h1 : (⟨#[0]⟩ : ByteArray).size = 1 := rfl
      have ha := fun w' => run_string_add_sum (P := Try.prog) w' (zerosS k) ⟨#[0]⟩ (by omega)
      rw [zerosS_succ] at ha
      generalize hA : zerosS k = A at *
      generalize hB : zerosS (k + 1) = B at *
      have HB := hide hB
      clear hA hB hz h1
      go_wp2
      go_roundw
      case rel => exact ⟨k + 1, by omega, by rw [unhide HB], by go_num, hbw⟩
      case measure => simp [intOf]; omega
    · have hke : k = n := by omega
      subst hke
      go_wp2
      go_ret
      exact ⟨rfl, hbw⟩

theorem nums_ext {a b : ByteArray} (h : a.data.toList = b.data.toList) : a = b := by
  apply ByteArray.ext
  apply Array.toList_inj.1
  exact h
theorem fit_num (t n : Nat) (s : ByteArray) (h : numB t = true) : (zerosS n ++ s).extract ((zerosS n ++ s).size - n) (zerosS n ++ s).size = fitS t n s := by
  unfold fitS
  rw [if_pos h]
  apply nums_ext
  rw [ByteArray.data_append, Array.toList_append]
  rw [ByteArray.data_extract, Array.toList_extract, List.extract_eq_take_drop, ByteArray.data_append, Array.toList_append, ByteArray.size_append, zerosS_size, ByteArray.data_extract, Array.toList_extract, List.extract_eq_take_drop]
  have hs : s.data.toList.length = s.size := by simp
  have hz : ∀ m, (zerosS m).data.toList = List.replicate m 0 := fun m => by simp [zerosS]
  rw [hz, hz, List.take_of_length_le (by simp), List.take_of_length_le (by simp), List.drop_append, List.drop_replicate]
  congr 1
  · congr 1; omega
  · congr 1; first | (simp; done) | (simp; omega)
theorem fit_text (t n : Nat) (s : ByteArray) (h : numB t = false) : (s ++ zerosS n).extract 0 n = fitS t n s := by
  unfold fitS
  rw [if_neg (by rw [h]; decide)]
  apply nums_ext
  rw [ByteArray.data_append, Array.toList_append]
  rw [ByteArray.data_extract, Array.toList_extract, List.extract_eq_take_drop, ByteArray.data_append, Array.toList_append, ByteArray.data_extract, Array.toList_extract, List.extract_eq_take_drop]
  have hs : s.data.toList.length = s.size := by simp
  have hz : ∀ m, (zerosS m).data.toList = List.replicate m 0 := fun m => by simp [zerosS]
  rw [hz, hz, List.drop_zero, List.drop_zero, Nat.sub_zero, Nat.sub_zero, List.take_append, List.take_replicate]
  congr 1
  · rw [hs.symm, List.take_eq_take_iff]; omega
  · congr 1; first | (simp; done) | (simp; omega)

set_option maxRecDepth 1000000 in
set_option maxHeartbeats 4000000 in
theorem rfill_any (fs : List (Int × Int)) (ao : Option Addr) (cap : Nat) (d : Nat) (l : List It) (bo : Option Addr) (cap' : Nat) (w : World) (hr : FRow w ao fs) (hn : FNums fs) (hl : (fs.length : Int) ≤ 9000000000000) (hv : IRow w d bo l) (hw : wt d l ≤ 1048576) :
    Calls Try.prog 21 #[.slice ao fs.length cap, .slice bo l.length cap'] w fun e w' => e = .returned (.tuple #[.string (fillS d l fs), .int .i64 (fieldsE fs)]) ∧ Below w.heap.size w w' := by
  have n1 := rprintF_all fs ao cap w hr hn hl
  unfold fillS
  generalize printS fs = PT at *
  by_cases he : fieldsE fs = 0
  · rw [if_pos he]
    obtain ⟨hall, h100⟩ := fieldsE_zero he
    rw [he] at n1 ⊢
    have N1 := hide n1; have HA := hide hall; have HV := hide hv; have HW := hide hw
    clear n1 hall he hn hv hw
    go_enter Try.func21, Try.ntmps21
    go_wp2_with fail
    refine (unhide N1).mono ?_
    rintro e w1 ⟨rfl, hb1⟩
    have hr1 := hr.below hb1
    clear hr
    go_wp2
    go_loopw [8, 9] (fun s i wr => ∃ k : Nat, k ≤ fs.length ∧ s = .string ⟨(fillL d l (fs.take k)).toArray⟩ ∧ i = .int .i64 k ∧ Below w1.heap.size w1 wr) (fun _ i _ => fs.length - (intOf i).toNat)
    case atStart => exact ⟨0, Nat.zero_le _, rfl, rfl, Below.refl _ _⟩
    case round =>
      rename World => wo
      obtain ⟨k, hk, rfl, rfl, hbw⟩ := hrel
      by_cases hlt : k < fs.length
      · rcases hr1 with hnil | ⟨b, off, rfl, hb, hc⟩
        · rw [hnil] at hlt; simp at hlt
        obtain ⟨c0, c1⟩ := hc k hlt
        have d0 : wo.cell? ⟨b, off + k * 2, none⟩ = _ := (hbw.cell (p := ⟨b, off + k * 2, none⟩) hb).trans c0
        have d1 : wo.cell? ⟨b, off + k * 2 + 1, none⟩ = _ := (hbw.cell (p := ⟨b, off + k * 2 + 1, none⟩) hb).trans c1
        have hbk : b < wo.heap.size := World.block_lt_of_cell? _ _ d0
        have hnext := fill_take (d := d) (l := l) hlt
        obtain ⟨o1, o2, o3, o4⟩ := okF_of (unhide HA) k hlt
        have hfl : (fillL d l (fs.take k)).length ≤ 25500 := by
          have h1 := fill_len (d := d) (l := l) (fs.take k) (fun f hf => by
            obtain ⟨i, hi, rfl⟩ := List.mem_iff_getElem.1 (List.mem_of_mem_take hf)
            have := (okF_of (unhide HA) i hi).2.2.2
            rw [List.getD_eq_getElem?_getD, List.getElem?_eq_getElem hi] at this
            exact this)
          have h2 : (fs.take k).length ≤ 100 := by have := List.length_take_le k fs; omega
          omega
        have hfs : fieldS d l (fs.getD k (0, 0)) = fitS (fs.getD k (0, 0)).1.toNat (fs.getD k (0, 0)).2.toNat ((findD (fs.getD k (0, 0)).1 d l).getD ⟨#[]⟩) := rfl
        generalize fs.getD k (0, 0) = f at *
        obtain ⟨ft, fl⟩ := f
        simp only at d0 d1 o1 o2 o3 o4 hfs
        obtain ⟨tn, rfl⟩ := Int.eq_ofNat_of_zero_le (show 0 ≤ ft by omega)
        obtain ⟨ln, rfl⟩ := Int.eq_ofNat_of_zero_le o3
        rw [Int.toNat_natCast, Int.toNat_natCast] at hfs
        have hsz := find_size (tn : Int) d l
        have hww := unhide HW
        have N2 := hide (fun (w2 : World) (h : Below w.heap.size w w2) => rfind_any (tn : Int) d l bo cap' w2 (IRow.below h d (unhide HV)) hww)
        have N4 := hide (fun (w2 : World) => zeros_any ln w2 (by omega))
        have hz := fitS_size tn ln ((findD (tn : Int) d l).getD ⟨#[]⟩)
        have hfn := fit_num tn ln ((findD (tn : Int) d l).getD ⟨#[]⟩)
        have hft := fit_text tn ln ((findD (tn : Int) d l).getD ⟨#[]⟩)
        have hzz := zerosS_size ln
        unfold foundV at N2
        rw [hfs] at hnext
        generalize (findD (tn : Int) d l).getD ⟨#[]⟩ = TX at *
        generalize (findD (tn : Int) d l).isSome = fb at *
        generalize fitS tn ln TX = FX at *
        have hap : (⟨(fillL d l (fs.take k)).toArray⟩ : ByteArray) ++ FX = ⟨(fillL d l (fs.take (k + 1))).toArray⟩ := by
          apply nums_ext
          rw [ByteArray.data_append, Array.toList_append]
          simp only
          rw [hnext]
        have has : (⟨(fillL d l (fs.take k)).toArray⟩ : ByteArray).size ≤ 25500 := by
          have : (⟨(fillL d l (fs.take k)).toArray⟩ : ByteArray).size = (fillL d l (fs.take k)).length := by simp [ByteArray.size]
          omega
        have ha2 := fun w' => run_string_add_sum (P := Try.prog) w' (⟨(fillL d l (fs.take k)).toArray⟩ : ByteArray) FX (by omega)
        rw [hap] at ha2
        generalize (⟨(fillL d l (fs.take k)).toArray⟩ : ByteArray) = A at *
        generalize hD : (⟨(fillL d l (fs.take (k + 1))).toArray⟩ : ByteArray) = D at *
        have HD := hide hD
        have hbwW : Below w.heap.size w wo := below_more hb1 hb1.size hbw
        have htx : (TX.size : Int) ≤ 1048576 := by omega
        have hln : (ln : Int) ≤ 255 := by omega
        have htn : (tn : Int) < 16777216 := by omega
        generalize zerosS ln = Z at *
        cases hnb : numB tn with
        | true =>
          have hf := hfn hnb
          have hnp : 1 ≤ tn % 256 ∧ tn % 256 ≤ 31 := by unfold numB at hnb; simpa using hnb
          have hxz : (Z ++ TX).size = ln + TX.size := by rw [ByteArray.size_append, hzz]
          have ha1 := fun w' => run_string_add_sum (P := Try.prog) w' Z TX (by omega)
          have hsl : ∀ wx, (Instr.slice 9 (.string (Z ++ TX)) (some (.int .i64 (((Z ++ TX).size : Int) - (ln : Int)))) none none).run Try.prog wx = .ok (.string FX) wx := fun wx => by
            have := run_slice_string_l (P := Try.prog) wx 9 (Z ++ TX) Try.underlying9 .i64 (((Z ++ TX).size : Int) - (ln : Int)) (by omega) (by omega)
            rw [this, ← hf]
            congr 3
            omega
          have q1 : decide (1 ≤ (tn : Int) % 256) = true := decide_eq_true (by omega)
          have q2 : decide ((tn : Int) % 256 ≤ 31) = true := decide_eq_true (by omega)
          generalize Z ++ TX = X at *
          have hx1 : (X.size : Int) ≤ 1048831 := by omega
          have hx2 : (ln : Int) ≤ (X.size : Int) := by omega
          clear hxz hzz htn
          clear c0 c1 hc hnext hfl hfs hsz hww hz o1 o2 o3 o4 hfn hft hf hnb hnp hap has hD
          go_wp2_with fail
          refine (unhide N2 _ hbwW).mono ?_
          rintro e w2 ⟨rfl, hb2⟩
          have e0 : w2.cell? ⟨b, off + k * 2, none⟩ = _ := (hb2.cell (p := ⟨b, off + k * 2, none⟩) hbk).trans d0
          have e1 : w2.cell? ⟨b, off + k * 2 + 1, none⟩ = _ := (hb2.cell (p := ⟨b, off + k * 2 + 1, none⟩) hbk).trans d1
          have hbw2 : Below w1.heap.size w1 w2 := below_more hbw hbw.size hb2
          clear hb2 d0 d1 N2
          go_wp2_with fail
          refine (unhide N4 _).mono ?_
          rintro e w4 ⟨rfl, hb4⟩
          have hbw4 : Below w1.heap.size w1 w4 := below_more hbw2 hbw2.size hb4
          clear hb4 hbw2 e0 e1
          go_wp2
          go_roundw
          case rel => exact ⟨k + 1, by omega, by rw [unhide HD], by go_num, hbw4⟩
          case measure => simp [intOf]; omega
        | false =>
          have hf := hft hnb
          have hnp : tn % 256 < 1 ∨ 31 < tn % 256 := by unfold numB at hnb; simp at hnb; omega
          have hxz : (TX ++ Z).size = TX.size + ln := by rw [ByteArray.size_append, hzz]
          have ha1 := fun w' => run_string_add_sum (P := Try.prog) w' TX Z (by omega)
          have hsl : ∀ wx, (Instr.slice 9 (.string (TX ++ Z)) none (some (.int .i64 (ln : Int))) none).run Try.prog wx = .ok (.string FX) wx := fun wx => by
            have := run_slice_string_h (P := Try.prog) wx 9 (TX ++ Z) Try.underlying9 .i64 (ln : Int) (by omega) (by omega)
            rw [this, ← hf]
            congr 3
          have q0 : (decide (1 ≤ (tn : Int) % 256) && decide ((tn : Int) % 256 ≤ 31)) = false := by rw [Bool.eq_false_iff]; simp; omega
          rcases hnp with hnp | hnp
          · have q1 : decide (1 ≤ (tn : Int) % 256) = false := decide_eq_false (by omega)
            generalize TX ++ Z = X at *
            have hx1 : (X.size : Int) ≤ 1048831 := by omega
            have hx2 : (ln : Int) ≤ (X.size : Int) := by omega
            clear hxz hzz htn
            clear c0 c1 hc hnext hfl hfs hsz hww hz o1 o2 o3 o4 hfn hft hf hnb hnp hap has hD
            go_wp2_with fail
            refine (unhide N2 _ hbwW).mono ?_
            rintro e w2 ⟨rfl, hb2⟩
            have e0 : w2.cell? ⟨b, off + k * 2, none⟩ = _ := (hb2.cell (p := ⟨b, off + k * 2, none⟩) hbk).trans d0
            have e1 : w2.cell? ⟨b, off + k * 2 + 1, none⟩ = _ := (hb2.cell (p := ⟨b, off + k * 2 + 1, none⟩) hbk).trans d1
            have hbw2 : Below w1.heap.size w1 w2 := below_more hbw hbw.size hb2
            clear hb2 d0 d1 N2
            go_wp2_with fail
            refine (unhide N4 _).mono ?_
            rintro e w4 ⟨rfl, hb4⟩
            have hbw4 : Below w1.heap.size w1 w4 := below_more hbw2 hbw2.size hb4
            clear hb4 hbw2 e0 e1
            go_wp2
            go_roundw
            case rel => exact ⟨k + 1, by omega, by rw [unhide HD], by go_num, hbw4⟩
            case measure => simp [intOf]; omega
          · have q1 : decide (1 ≤ (tn : Int) % 256) = true := decide_eq_true (by omega)
            have q2 : decide ((tn : Int) % 256 ≤ 31) = false := decide_eq_false (by omega)
            generalize TX ++ Z = X at *
            have hx1 : (X.size : Int) ≤ 1048831 := by omega
            have hx2 : (ln : Int) ≤ (X.size : Int) := by omega
            clear hxz hzz htn
            clear c0 c1 hc hnext hfl hfs hsz hww hz o1 o2 o3 o4 hfn hft hf hnb hnp hap has hD
            go_wp2_with fail
            refine (unhide N2 _ hbwW).mono ?_
            rintro e w2 ⟨rfl, hb2⟩
            have e0 : w2.cell? ⟨b, off + k * 2, none⟩ = _ := (hb2.cell (p := ⟨b, off + k * 2, none⟩) hbk).trans d0
            have e1 : w2.cell? ⟨b, off + k * 2 + 1, none⟩ = _ := (hb2.cell (p := ⟨b, off + k * 2 + 1, none⟩) hbk).trans d1
            have hbw2 : Below w1.heap.size w1 w2 := below_more hbw hbw.size hb2
            clear hb2 d0 d1 N2
            go_wp2_with fail
            refine (unhide N4 _).mono ?_
            rintro e w4 ⟨rfl, hb4⟩
            have hbw4 : Below w1.heap.size w1 w4 := below_more hbw2 hbw2.size hb4
            clear hb4 hbw2 e0 e1
            go_wp2
            go_roundw
            case rel => exact ⟨k + 1, by omega, by rw [unhide HD], by go_num, hbw4⟩
            case measure => simp [intOf]; omega
      · have hke : k = fs.length := by omega
        subst hke
        rw [List.take_of_length_le (Nat.le_refl _)]
        go_wp2
        go_ret2
        exact ⟨rfl, below_more hb1 hb1.size hbw⟩
  · rw [if_neg he]
    have t1 : (fieldsE fs != 0) = true := by simpa using he
    generalize fieldsE fs = er at *
    have N1 := hide n1
    clear n1 he
    go_enter Try.func21, Try.ntmps21
    go_wp2_with fail
    refine (unhide N1).mono ?_
    rintro e w1 ⟨rfl, hb1⟩
    go_wp2
    go_ret2
    exact ⟨rfl, hb1⟩
end Go.Proofs.Ythamjfgiklbifab
