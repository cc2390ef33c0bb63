/- Recover of the document's own. -/
import Derived.Test.YtckkhpegimkefaaGreatDoorM36
import Derived.Test.YtckkhpegimkefaaGreatDoorM35
import Derived.Test.YtckkhpegimkefaaGreatDoorM42
import Derived.Test.YtckkhpegimkefaaGreatDoorM41
import Derived.BigQuiet
import Derived.Test.YtckkhpegimkefaaGreatDoorM45
import Derived.Test.YtckkhpegimkefaaGreatDoorM06
import Derived.Test.YtckkhpegimkefaaGreatDoorRows
namespace Go.Proofs.YtckkhpegimkefaaGreatDoor
open Go.RowKit
set_option linter.unusedVariables false
set_option linter.unusedSimpArgs false
set_option maxRecDepth 100000

theorem hc_or (n s : Nat) (h : ¬ (n ≤ 1000 ∧ n + 2 ≤ s)) : (1000 : Int) < (n : Int) ∨ ((n : Int) ≤ 1000 ∧ (s : Int) < (n : Int) + 2) := by omega
theorem hc_yes (n s : Nat) (h : n ≤ 1000 ∧ n + 2 ≤ s) : (n : Int) ≤ 1000 ∧ (n : Int) + 2 ≤ (s : Int) := by omega
theorem slice_S (al : ByteArray) (n : Nat) (h : n + 2 ≤ al.size) (wx : World) : (Instr.slice 9 (.string al) (some (.int .i64 2)) (some (.int .i64 ((n : Int) + 2))) none).run Tryz.prog wx = .ok (.string (al.extract 2 (2 + n))) wx := by
  rw [run_slice_string (P := Tryz.prog) wx 9 al .i64 .i64 (2 : Int) ((n : Int) + 2) Tryz.underlying9 (by omega) (by omega) (by omega)]
  rw [show ((n : Int) + 2).toNat = 2 + n by omega]
  rfl
set_option maxHeartbeats 4000000 in
theorem rrecover_any (m sig rest : ByteArray) (k : Int) (beside : ByteArray) (w : World) (hr : rest.size ≤ 1048576) (hb : beside.size ≤ 1048576) :
    Calls Tryz.prog 21 #[.string m, .int .i64 k, .agg #[.string sig, .string rest], .string beside] w fun e w' => e = .returned (.tuple #[.string (rcT m sig rest k beside), .int .i64 (rcE m sig rest k beside)]) ∧ Below w.heap.size w w' := by
  obtain ⟨W1, hW1⟩ : ∃ W1, W1 = w.alloc (.cells #[.string sig, .string rest] 26) := ⟨_, rfl⟩
  have hB1 : Below w.heap.size w W1 := by rw [hW1]; exact (Below.refl _ _).alloc (Nat.le_refl _) _
  have hX1 : W1.heap[w.heap.size]? = some (.cells #[.string sig, .string rest] 26 (0, 0)) := by rw [hW1]; exact heap_alloc_new _ _
  have HW1 := hide hW1; have HB1 := hide hB1
  by_cases hk : 1 ≤ k ∧ k ≤ 4
  case neg =>
    obtain ⟨e1, e2⟩ := rc_kind (m := m) (sig := sig) (rest := rest) (beside := beside) hk
    rw [e1, e2]
    have hkc : Hid (k < 1 ∨ (1 ≤ k ∧ 4 < k)) := hide (by omega)
    clear hk e1 e2 hW1 hB1 hX1
    rcases unhide hkc with hc | ⟨hc, hc2⟩
    all_goals
      clear hkc
      go_enter Tryz.func21, Tryz.ntmps21
      go_upto_region 1 with fail
      rw [← unhide HW1]
      go_wp2
      go_ret2
      exact ⟨rfl, unhide HB1⟩
  have hk1 := hk.1
  have hk2 := hk.2
  have c0 : W1.cell? ⟨w.heap.size, 0, none⟩ = some (.string sig) := cell_of_row _ _ 0 _ _ _ hX1
  have c1 : W1.cell? ⟨w.heap.size, 1, none⟩ = some (.string rest) := cell_of_row _ _ 1 _ _ _ hX1
  have HX1 := hide hX1
  have N1 := hide (fun W => newInt_any 3 W (by decide))
  have N2 := hide (fun (W : World) (pd : Nat) (h : IntAt W pd 3) => rpower_any m sig pd 3 W h (small_lt 3 (by decide) 200 (by decide)))
  obtain ⟨RE, hRE⟩ : ∃ x, x = rcE m sig rest k beside := ⟨_, rfl⟩
  obtain ⟨RT, hRT⟩ : ∃ x, x = rcT m sig rest k beside := ⟨_, rfl⟩
  rw [← hRE, ← hRT]
  have HP : Hid (powE m sig ≠ 0 → RE = powE m sig ∧ RT = ⟨#[]⟩) := hide (fun h => by rw [hRE, hRT]; exact rc_pow hk h)
  have HNo : Hid (powE m sig = 0 → rcB (powT m sig 3) rest k beside = false → RE = 9 ∧ RT = ⟨#[]⟩) := hide (fun h hb => by rw [hRE, hRT]; exact rc_false hk h hb)
  have HYes : Hid (powE m sig = 0 → rcB (powT m sig 3) rest k beside = true → RE = 0 ∧ RT = rcBody (powT m sig 3) rest) := hide (fun h hb => by rw [hRE, hRT]; exact rc_true hk h hb)
  have HLen := hide (fun h => powT_len (m := m) (x := sig) (d := 3) h)
  clear hRE hRT hW1 hB1 hX1 hk
  generalize powE m sig = pe at *
  generalize powT m sig 3 = x at *
  go_enter Tryz.func21, Tryz.ntmps21
  go_upto_region 1 with fail
  rw [← unhide HW1]
  go_upto_region 3 with fail
  go_region_held3 (fun W => W.cell? ⟨w.heap.size, 0, none⟩ = some (.string sig) ∧ W.cell? ⟨w.heap.size, 1, none⟩ = some (.string rest))
    (first | (go_split_ands; refine ⟨?_, ?_⟩ <;> ((repeat (first | (with_reducible assumption) | (with_reducible refine drew_cellS2 ?_) | (with_reducible refine keep_cellS2 h2 ?_) | (with_reducible refine keep_cellS2 h1 ?_))); done)) | go_keep)
    ((first
      | (go_at_call 39; refine (unhide N1 _).mono ?_; rintro e z1 ⟨rfl, g1, h1, _⟩)
      | (have hq := g1; go_at_call 38; refine (unhide N2 _ _ ?_).mono ?_; (focus (first | exact g1 | exact g1.drew)); rintro e z2 ⟨rfl, h2⟩)))
  all_goals
    have hK : Below W1.heap.size W1 z2 := by
      (repeat (first | (with_reducible exact Below.refl _ _) | (with_reducible refine ext_drewS2 ?_) | (with_reducible refine ext_callB ?_ h2) | (with_reducible refine ext_callB ?_ h1)))
    have hX2 := (hK.block _ (World.block_lt_of_cell? W1 _ c0)).trans (unhide HX1)
    have d0 : z2.cell? ⟨w.heap.size, 0, none⟩ = some (.string sig) := cell_of_row _ _ 0 _ _ _ hX2
    have d1 : z2.cell? ⟨w.heap.size, 1, none⟩ = some (.string rest) := cell_of_row _ _ 1 _ _ _ hX2
    have HK := hide hK
    have HX2 := hide hX2
    have hlt2 : w.heap.size < z2.heap.size := World.block_lt_of_cell? z2 _ d0
    have HLT2 := hide hlt2
    clear h1 h2 g1 c0 c1 hK N1 N2 HX1 hX2 hlt2
    by_cases h0 : pe = 0
    case neg =>
      obtain ⟨rfl, rfl⟩ := unhide HP h0
      have t1 : (RE != 0) = true := by simpa using h0
      have HF := hide ((unhide HB1).trans ((unhide HK).mono (unhide HB1).size))
      clear HP HNo HYes HLen h0
      go_wp2
      go_ret2
      exact ⟨rfl, unhide HF⟩
    case pos =>
    subst h0
    obtain ⟨hxm, hm40, hm96⟩ := unhide HLen rfl
    rw [← hxm] at hm40 hm96
    clear hxm HLen HP
    have hz := inT_size x hm40
    have hN := rcN_lt x
    have M1 := hide (fun W => value_any ((inT x).extract 0 2) W (by rw [ByteArray.size_extract]; omega) (by show rcN x ≤ _; omega))
    have M1' := unhide M1
    rw [show valN ((inT x).extract 0 2).data.toList = rcN x from rfl] at M1'
    have M1 := hide M1'
    have HWa : Hid (wrap64 ((x.size : Int) - 20) = (x.size : Int) - 20) := hide (by unfold wrap64; omega)
    have sl1 : ∀ wx, (Instr.slice 9 (.string x) (some (.int .i64 2)) (some (.int .i64 ((x.size : Int) - 20))) none).run Tryz.prog wx = .ok (.string (inT x)) wx := fun wx => by
      rw [run_slice_string (P := Tryz.prog) wx 9 x .i64 .i64 (2 : Int) ((x.size : Int) - 20) Tryz.underlying9 (by omega) (by omega) (by omega)]
      rw [show ((x.size : Int) - 20).toNat = x.size - 20 by omega]
      rfl
    have ha := fun w' => run_string_add_sum (P := Tryz.prog) w' (inT x) rest (by omega)
    have hz2 : (2 : Int) ≤ ((inT x).size : Int) := by omega
    have hsum : (inT x ++ rest).size = (inT x).size + rest.size := ByteArray.size_append
    have hshort := fun h => rc_short (x := x) (rest := rest) (k := k) (beside := beside) h
    have hsame := fun h => rc_same (x := x) (rest := rest) (k := k) (beside := beside) h
    have hbsz := fun h => rcBody_size (x := x) (rest := rest) h
    have hbody : rcBody x rest = (inT x ++ rest).extract 2 (2 + rcN x) := rfl
    have HBODY := hide hbody
    have L1 := hide (fun W (h1 : rcN x ≤ 1000) (h2 : rcN x + 2 ≤ (inT x ++ rest).size) => rlaid_any x.size k (rcBody x rest) beside W (by omega) (by omega) (by rw [rcBody_size h2]; exact h1) (by omega))
    have hall : (inT x ++ rest).size ≤ 1048700 := by omega
    clear M1' hbody hm40 hm96 hz
    generalize inT x = i at *
    generalize rcN x = n at *
    generalize rcBody x rest = body at *
    generalize hal : i ++ rest = al at *
    have HWb : Hid (wrap64 ((n : Int) + 2) = (n : Int) + 2) := hide (by unfold wrap64; omega)
    by_cases hc : n ≤ 1000 ∧ n + 2 ≤ al.size
    case neg =>
      obtain ⟨rfl, rfl⟩ := unhide HNo (by first | rfl | trivial) (hshort hc)
      have hcs : Hid ((1000 : Int) < (n : Int) ∨ ((n : Int) ≤ 1000 ∧ (al.size : Int) < (n : Int) + 2)) := hide (hc_or n al.size hc)
      have HF := hide ((unhide HB1).trans ((unhide HK).mono (unhide HB1).size))
      clear HNo HYes hshort hsame hbsz hc L1 HBODY hsum hall hal hN hr hb
      rcases unhide hcs with hc | ⟨hc, hc2⟩
      all_goals
        clear hcs
        have hw1 := unhide HWa
        have hw2 := unhide HWb
        go_wp2_with fail
        refine (unhide M1 _).mono ?_
        rintro e y ⟨rfl, hy⟩
        have hy' := hy.symm
        subst hy'
        clear hy
        go_wp2
        go_ret2
        exact ⟨rfl, unhide HF⟩
    case pos =>
      have hrb := hsame hc
      have L2 := hide (fun W => unhide L1 W hc.1 hc.2)
      obtain ⟨hn1, hn2⟩ := hc_yes n al.size hc
      have sl2 := fun wx => slice_S al n hc.2 wx
      rw [← unhide HBODY] at sl2
      clear hshort hsame hbsz L1 hc HBODY hsum hall hal hN hr hb
      generalize laidW x.size k (bodyT body) beside = lw at *
      generalize laidR x.size (bodyT body) = lr at *
      have HRB := hide hrb
      have SL2 := hide sl2
      clear hrb sl2
      have hw1 := unhide HWa
      have hw2 := unhide HWb
      go_wp2_with fail
      refine (unhide M1 _).mono ?_
      rintro e y ⟨rfl, hy⟩
      have hy' := hy.symm
      subst hy'
      clear hy
      have t8 : decide ((1000 : Int) < (n : Int)) = false := decide_eq_false (by omega)
      have t9 : decide ((al.size : Int) < (n : Int) + 2) = false := decide_eq_false (by omega)
      clear hn1 hn2 sl1 hz2
      go_upto_region 11 with fail
      have sl2 := unhide SL2
      go_wp2_with fail
      refine (unhide L2 _).mono ?_
      rintro e y3 ⟨rfl, k3⟩
      have hX3 := (k3.block _ (unhide HLT2)).trans (unhide HX2)
      clear d0 d1
      have d1 : y3.cell? ⟨w.heap.size, 1, none⟩ = some (.string rest) := cell_of_row _ _ 1 _ _ _ hX3
      have HF := hide ((unhide HB1).trans ((ext_callB (unhide HK) k3).mono (unhide HB1).size))
      clear k3 hX3 HK HX2
      by_cases hw : lw = x
      case neg =>
        have t1 : (lw.toList != x.toList) = true := by rw [ne_bytes, decide_eq_false hw]; rfl
        obtain ⟨rfl, rfl⟩ := unhide HNo (by first | rfl | trivial) (by rw [unhide HRB, decide_eq_false hw]; rfl)
        clear HNo HYes HRB hw
        go_wp2
        all_goals first | (exfalso; simp_all; done) | (go_ret2; exact ⟨rfl, unhide HF⟩)
      case pos =>
        have t1 : (lw.toList != x.toList) = false := by rw [ne_bytes, decide_eq_true hw]; rfl
        by_cases hlr : lr = rest
        case neg =>
          have t2 : (lr.toList != rest.toList) = true := by rw [ne_bytes, decide_eq_false hlr]; rfl
          obtain ⟨rfl, rfl⟩ := unhide HNo (by first | rfl | trivial) (by rw [unhide HRB, decide_eq_false hlr, Bool.and_false])
          clear HNo HYes HRB hw hlr
          go_wp2
          all_goals first | (exfalso; simp_all; done) | (go_ret2; exact ⟨rfl, unhide HF⟩)
        case pos =>
          have t2 : (lr.toList != rest.toList) = false := by rw [ne_bytes, decide_eq_true hlr]; rfl
          obtain ⟨rfl, rfl⟩ := unhide HYes (by first | rfl | trivial) (by rw [unhide HRB, decide_eq_true hlr, decide_eq_true hw]; rfl)
          clear HNo HYes HRB hw hlr
          go_wp2
          all_goals first | (exfalso; simp_all; done) | (go_ret2; exact ⟨rfl, unhide HF⟩)
end Go.Proofs.YtckkhpegimkefaaGreatDoor
namespace Go.Proofs.YtckkhpegimkefaaGreatDoor
open Go.RowKit
set_option linter.unusedVariables false
set_option linter.unusedSimpArgs false
set_option maxRecDepth 100000

theorem mayP_long {id o : ByteArray} (h : id.size < o.size) : mayP id o = false := by
  unfold mayP
  rw [← Lib.hasPrefix_of_take, show id.data.toList.length = id.size by simp, show o.data.toList.length = o.size by simp, decide_eq_false (by omega)]
  rfl
theorem mayP_eq {id o : ByteArray} (h : o.size ≤ id.size) : mayP id o = decide (id.extract 0 o.size = o) := by
  unfold mayP
  rw [← Lib.hasPrefix_of_take, show id.data.toList.length = id.size by simp, show o.data.toList.length = o.size by simp, decide_eq_true h, Bool.true_and]
  have he : (id.extract 0 o.size).toList = id.data.toList.take o.size := by rw [Lib.extract_toList]; simp
  rw [← he, ← Lib.toList_data o, eq_bytes]
/-- what holds at the head of the loop -/
def ChI (m s1 r1 id : ByteArray) (month : Int) (CE : Int) (CM : ByteArray) (x : ByteArray) (i : Int) : Prop :=
  (i = 1 ∧ x = m) ∨ (i = 2 ∧ lkE m s1 r1 1 ⟨#[]⟩ (mayP id) month = 0 ∧ x = lkM m s1 r1 1 ⟨#[]⟩ (mayP id) month) ∨ (i = 3 ∧ CE = 0 ∧ x = CM)
/-- what the rest of a round comes to -/
structure Rnd (re ke kt : Int) (ko km : ByteArray) (mb : Bool) (month CE : Int) (CM : ByteArray) (nx : ByteArray → Prop) : Prop where
  f1 : re ≠ 0 → CE = re ∧ CM = ⟨#[]⟩
  f2 : re = 0 → ke ≠ 0 → CE = ke ∧ CM = ⟨#[]⟩
  f3 : re = 0 → ke = 0 → mb = false → CE = 10 ∧ CM = ⟨#[]⟩
  f4 : re = 0 → ke = 0 → mb = true → kt < month → CE = 11 ∧ CM = ⟨#[]⟩
  f5 : re = 0 → ke = 0 → mb = true → ¬ kt < month → nx km
theorem rnd_one {m s1 r1 s2 r2 id data : ByteArray} {month CE : Int} {CM : ByteArray} (hE : CE = chE m s1 r1 s2 r2 id data month) (hM : CM = chM m s1 r1 s2 r2 id data month) :
    Rnd (rcE m s1 r1 1 ⟨#[]⟩) (rkE (rcT m s1 r1 1 ⟨#[]⟩)) (rkT (rcT m s1 r1 1 ⟨#[]⟩)) (rkO (rcT m s1 r1 1 ⟨#[]⟩)) (rkM (rcT m s1 r1 1 ⟨#[]⟩)) (mayP id (rkO (rcT m s1 r1 1 ⟨#[]⟩))) month CE CM (fun x => ChI m s1 r1 id month CE CM x 2) where
  f1 h := by
    have hl := (lk_rc (may := mayP id) (month := month) h).1
    obtain ⟨h1, h2⟩ := ch_one (s2 := s2) (r2 := r2) (data := data) (by rw [hl]; exact h)
    rw [hE, hM, h1, h2, hl]; exact ⟨rfl, rfl⟩
  f2 h0 h := by
    have hl := (lk_rk (may := mayP id) (month := month) h0 h).1
    obtain ⟨h1, h2⟩ := ch_one (s2 := s2) (r2 := r2) (data := data) (by rw [hl]; exact h)
    rw [hE, hM, h1, h2, hl]; exact ⟨rfl, rfl⟩
  f3 h0 h h3 := by
    have hl := (lk_may (may := mayP id) (month := month) h0 h h3).1
    obtain ⟨h1, h2⟩ := ch_one (s2 := s2) (r2 := r2) (data := data) (by rw [hl]; decide)
    rw [hE, hM, h1, h2, hl]; exact ⟨rfl, rfl⟩
  f4 h0 h h3 h4 := by
    have hl := (lk_date (may := mayP id) (month := month) h0 h h3 h4).1
    obtain ⟨h1, h2⟩ := ch_one (s2 := s2) (r2 := r2) (data := data) (by rw [hl]; decide)
    rw [hE, hM, h1, h2, hl]; exact ⟨rfl, rfl⟩
  f5 h0 h h3 h4 := by
    obtain ⟨l1, l2⟩ := lk_ok (may := mayP id) (month := month) h0 h h3 h4
    exact Or.inr (Or.inl ⟨rfl, l1, l2.symm⟩)
theorem rnd_two {m s1 r1 s2 r2 id data : ByteArray} {month CE : Int} {CM x : ByteArray} (hE : CE = chE m s1 r1 s2 r2 id data month) (hM : CM = chM m s1 r1 s2 r2 id data month)
    (h1 : lkE m s1 r1 1 ⟨#[]⟩ (mayP id) month = 0) (hx : x = lkM m s1 r1 1 ⟨#[]⟩ (mayP id) month) :
    Rnd (rcE x s2 r2 2 data) (rkE (rcT x s2 r2 2 data)) (rkT (rcT x s2 r2 2 data)) (rkO (rcT x s2 r2 2 data)) (rkM (rcT x s2 r2 2 data)) (mayS id (rkO (rcT x s2 r2 2 data))) month CE CM (fun z => ChI m s1 r1 id month CE CM z 3) := by
  obtain ⟨e1, e2⟩ := ch_two (s2 := s2) (r2 := r2) (data := data) h1
  rw [e1, ← hx] at hE
  rw [e2, ← hx] at hM
  refine ⟨fun h => ?_, fun h0 h => ?_, fun h0 h h3 => ?_, fun h0 h h3 h4 => ?_, fun h0 h h3 h4 => ?_⟩
  · obtain ⟨l1, l2⟩ := lk_rc (may := mayS id) (month := month) h
    rw [hE, hM, l1, l2]; exact ⟨rfl, rfl⟩
  · obtain ⟨l1, l2⟩ := lk_rk (may := mayS id) (month := month) h0 h
    rw [hE, hM, l1, l2]; exact ⟨rfl, rfl⟩
  · obtain ⟨l1, l2⟩ := lk_may (may := mayS id) (month := month) h0 h h3
    rw [hE, hM, l1, l2]; exact ⟨rfl, rfl⟩
  · obtain ⟨l1, l2⟩ := lk_date (may := mayS id) (month := month) h0 h h3 h4
    rw [hE, hM, l1, l2]; exact ⟨rfl, rfl⟩
  · obtain ⟨l1, l2⟩ := lk_ok (may := mayS id) (month := month) h0 h h3 h4
    exact Or.inr (Or.inr ⟨rfl, hE.trans l1, (hM.trans l2).symm⟩)
set_option maxHeartbeats 8000000 in
theorem rchain_any (m s1 r1 s2 r2 id data : ByteArray) (month : Int) (w : World) (hr1 : r1.size ≤ 1048576) (hr2 : r2.size ≤ 1048576) (hd : data.size ≤ 1048576) :
    Calls Tryz.prog 7 #[.string m, .agg #[.string s1, .string r1], .agg #[.string s2, .string r2], .string id, .string data, .int .i64 month] w fun e w' => e = .returned (.tuple #[.string (chM m s1 r1 s2 r2 id data month), .int .i64 (chE m s1 r1 s2 r2 id data month)]) ∧ Below w.heap.size w w' := by
  obtain ⟨Wa, hWa⟩ : ∃ W1, W1 = w.alloc (.cells #[.string s1, .string r1] 26) := ⟨_, rfl⟩
  obtain ⟨Wb, hWb⟩ : ∃ W1, W1 = Wa.alloc (.cells #[.string s2, .string r2] 26) := ⟨_, rfl⟩
  have ba : Below w.heap.size w Wa := by rw [hWa]; exact (Below.refl _ _).alloc (Nat.le_refl _) _
  have bb : Below Wa.heap.size Wa Wb := by rw [hWb]; exact (Below.refl _ _).alloc (Nat.le_refl _) _
  have la : Wa.heap.size = w.heap.size + 1 := by rw [hWa]; simp
  have xa : At Wa w.heap.size #[.string s1, .string r1] 26 := by rw [hWa]; exact At.new _ _ _
  have xb : At Wb (w.heap.size + 1) #[.string s2, .string r2] 26 := by have h := At.new Wa #[.string s2, .string r2] 26; rw [← hWb, la] at h; exact h
  have xa' := xa.below bb
  have hB : Below w.heap.size w Wb := ba.trans (bb.mono ba.size)
  have HC : Hid (∀ W, Below Wb.heap.size Wb W → W.cell? ⟨w.heap.size, 0, none⟩ = some (.string s1) ∧ W.cell? ⟨w.heap.size, 1, none⟩ = some (.string r1) ∧ W.cell? ⟨w.heap.size + 1, 0, none⟩ = some (.string s2) ∧ W.cell? ⟨w.heap.size + 1, 1, none⟩ = some (.string r2)) := hide (fun W h =>
    ⟨(xa'.below h).cell rfl, (xa'.below h).cell rfl, (xb.below h).cell rfl, (xb.below h).cell rfl⟩)
  have HB := hide hB
  have HWb : Hid (Wb = (w.alloc (.cells #[.string s1, .string r1] 26)).alloc (.cells #[.string s2, .string r2] 26)) := hide (by rw [hWb, hWa])
  have R1 := hide (fun W => rrecover_any m s1 r1 1 ⟨#[]⟩ W hr1 (by decide))
  have R2 := hide (fun mm W => rrecover_any mm s2 r2 2 data W hr2 hd)
  obtain ⟨CE, hCE⟩ : ∃ x, x = chE m s1 r1 s2 r2 id data month := ⟨_, rfl⟩
  obtain ⟨CM, hCM⟩ : ∃ x, x = chM m s1 r1 s2 r2 id data month := ⟨_, rfl⟩
  rw [← hCE, ← hCM]
  have F1 := hide (rnd_one hCE hCM)
  have F2 := hide (fun (x : ByteArray) h1 hx => rnd_two (x := x) hCE hCM h1 hx)
  have G1 := hide (fun W => rreadKey_any (rcT m s1 r1 1 ⟨#[]⟩) W (Nat.le_trans rcT_size (by decide)))
  have G2 := hide (fun x W => rreadKey_any (rcT x s2 r2 2 data) W (Nat.le_trans rcT_size (by decide)))
  clear hCE hCM
  clear hWa hWb ba bb la xa xb xa' hB hr1 hr2 hd
  go_enter Tryz.func7, Tryz.ntmps7
  go_upto_region 1 with fail
  rw [← unhide HWb]
  go_wp2
  go_loopw [14, 15] (fun mv iv wr => ∃ (x : ByteArray) (i : Int), mv = .string x ∧ iv = .int .i64 i ∧ Below Wb.heap.size Wb wr ∧ Hid (ChI m s1 r1 id month CE CM x i)) (fun _ iv _ => 3 - (intOf iv).toNat)
  case atStart => exact ⟨m, 1, rfl, rfl, Below.refl _ _, hide (Or.inl ⟨rfl, rfl⟩)⟩
  case round =>
    obtain ⟨x, i, rfl, rfl, hbw, HI⟩ := hrel
    have HBW := hide hbw
    obtain ⟨c0, c1, c2, c3⟩ := unhide HC wr hbw
    clear hbw
    rcases unhide HI with ⟨rfl, rfl⟩ | ⟨rfl, h1, hx⟩ | ⟨rfl, h1, rfl⟩
    · clear HI c2 c3
      have F1 := F1; have G1 := G1
      clear F2 G2 R2
      generalize rcE x s1 r1 1 ⟨#[]⟩ = re at *
      generalize rcT x s1 r1 1 ⟨#[]⟩ = rt at *
      generalize rkE rt = ke at *
      generalize hko : rkO rt = ko at *
      generalize rkT rt = kt at *
      generalize rkM rt = km at *
      clear hko
      obtain ⟨W2, hW2⟩ : ∃ W2, W2 = wr.alloc (.cells #[.string s1, .string r1] 26) := ⟨_, rfl⟩
      have hb2 : Below Wb.heap.size Wb W2 := by rw [hW2]; exact (unhide HBW).alloc (unhide HBW).size _
      have hx2 : At W2 wr.heap.size #[.string s1, .string r1] 26 := by rw [hW2]; exact At.new _ _ _
      have e0 := hx2.cell (j := 0) rfl
      have e1 := hx2.cell (j := 1) rfl
      have HW2 := hide hb2
      have HE2 := hide hW2
      clear hb2 hx2 hW2
      go_upto_region 8 with fail
      rw [← unhide HE2]
      clear c0 c1
      go_wp2_with fail
      refine (unhide R1 _).mono ?_
      rintro e y1 ⟨rfl, k1⟩
      have HK1 := hide (ext_callB (unhide HW2) k1)
      clear k1 e0 e1 HW2 HE2
      by_cases h0 : re = 0
      case neg =>
        obtain ⟨rfl, rfl⟩ := (unhide F1).f1 h0
        have HF := hide ((unhide HB).trans ((unhide HK1).mono (unhide HB).size))
        have t1 : (CE != 0) = true := by simpa using h0
        clear F1 G1 R1 h0 HK1
        go_wp2
        go_ret2
        exact ⟨rfl, unhide HF⟩
      case pos =>
      subst h0
      go_wp2_with fail
      refine (unhide G1 _).mono ?_
      rintro e y2 ⟨rfl, k2⟩
      have hk2 := ext_callB (unhide HK1) k2
      obtain ⟨y3, hy3⟩ : ∃ y', y' = y2.alloc (.cells #[.string ko, .int .i64 kt, .string km] 48) := ⟨_, rfl⟩
      have hz3 : y3.heap[y2.heap.size]? = some (.cells #[.string ko, .int .i64 kt, .string km] 48 (0, 0)) := by rw [hy3]; exact heap_alloc_new _ _
      have hk3 : Below Wb.heap.size Wb y3 := by rw [hy3]; exact hk2.alloc hk2.size _
      have d0 := cell_of_row _ _ 0 _ _ _ hz3
      have d1 := cell_of_row _ _ 1 _ _ _ hz3
      have d2 := cell_of_row _ _ 2 _ _ _ hz3
      simp only [List.getElem?_toArray, List.getElem?_cons_zero, List.getElem?_cons_succ] at d0 d1 d2
      have HK3 := hide hk3; have HY3 := hide hy3
      have HF := hide ((unhide HB).trans (hk3.mono (unhide HB).size))
      clear k2 hk2 hz3 hk3 hy3 HK1 R1 G1
      by_cases h1 : ke = 0
      case neg =>
        obtain ⟨rfl, rfl⟩ := (unhide F1).f2 (by first | rfl | trivial) h1
        have t1 : (CE != 0) = true := by simpa using h1
        clear F1 h1 d0 d1 d2
        go_wp2
        go_ret2
        exact ⟨rfl, by rw [← unhide HY3]; exact unhide HF⟩
      case pos =>
      subst h1
      go_upto_region 14 with fail
      rw [← unhide HY3]
      by_cases hl : ko.size ≤ id.size
      case neg =>
        have hm := mayP_long (id := id) (o := ko) (by omega)
        rw [hm] at F1
        have t1 : decide ((id.size : Int) < (ko.size : Int)) = true := decide_eq_true (by omega)
        have t1' : decide (id.size < ko.size) = true := decide_eq_true (by omega)
        have t3 : (id.size : Int) < (ko.size : Int) := by omega
        clear hm hl
        obtain ⟨rfl, rfl⟩ := (unhide F1).f3 (by first | rfl | trivial) (by first | rfl | trivial) (by first | rfl | trivial)
        clear F1
        go_quiet (fail)
        all_goals
          go_wp2
          go_ret2
          exact ⟨rfl, below_drewN (unhide HF) _⟩
      case pos =>
        have t1 : decide ((id.size : Int) < (ko.size : Int)) = false := decide_eq_false (by omega)
        have t1' : decide (id.size < ko.size) = false := decide_eq_false (by omega)
        have sl := fun wx => slice_toQ id ko.size hl wx
        have hm := mayP_eq (id := id) (o := ko) hl
        clear hl
        generalize id.extract 0 ko.size = z at *
        by_cases hz : z = ko
        · rw [hm, decide_eq_true hz] at F1
          have t2 : (z.toList == ko.toList) = true := by rw [eq_bytes, decide_eq_true hz]
          clear hm hz
          by_cases h2 : kt < month
          · obtain ⟨rfl, rfl⟩ := (unhide F1).f4 (by first | rfl | trivial) (by first | rfl | trivial) (by first | rfl | trivial) h2
            clear F1
            go_quiet (fail)
            all_goals
              go_wp2
              go_ret2
              exact ⟨rfl, below_drewN (unhide HF) _⟩
          · have HN := hide ((unhide F1).f5 (by first | rfl | trivial) (by first | rfl | trivial) (by first | rfl | trivial) h2)
            clear F1
            go_quiet (fail)
            all_goals
              go_wp2
              go_roundw
              case rel => exact ⟨km, 2, rfl, rfl, below_drewN (unhide HK3) _, HN⟩
              case measure => simp [intOf]
        · rw [hm, decide_eq_false hz] at F1
          have t2 : (z.toList == ko.toList) = false := by rw [eq_bytes, decide_eq_false hz]
          clear hm hz
          obtain ⟨rfl, rfl⟩ := (unhide F1).f3 (by first | rfl | trivial) (by first | rfl | trivial) (by first | rfl | trivial)
          clear F1
          go_quiet (fail)
          all_goals
            go_wp2
            go_ret2
            exact ⟨rfl, below_drewN (unhide HF) _⟩
    · clear F1 G1 R1
      have F2 := hide (unhide F2 x h1 hx)
      have G2 := hide (unhide G2 x)
      have R2 := hide (unhide R2 x)
      clear h1 HI hx
      generalize rcE x s2 r2 2 data = re at *
      generalize rcT x s2 r2 2 data = rt at *
      generalize rkE rt = ke at *
      generalize rkO rt = ko at *
      generalize rkT rt = kt at *
      generalize rkM rt = km at *
      obtain ⟨W2, hW2⟩ : ∃ W2, W2 = wr.alloc (.cells #[.string s1, .string r1] 26) := ⟨_, rfl⟩
      have hb2 : Below Wb.heap.size Wb W2 := by rw [hW2]; exact (unhide HBW).alloc (unhide HBW).size _
      have hx2 : At W2 wr.heap.size #[.string s1, .string r1] 26 := by rw [hW2]; exact At.new _ _ _
      have e0 := hx2.cell (j := 0) rfl
      have e1 := hx2.cell (j := 1) rfl
      have f0 := hx2.soft (j := 0)
      have f1 := hx2.soft (j := 1)
      obtain ⟨W3, hW3⟩ : ∃ W3, W3 = (W2.setCell ⟨wr.heap.size, 0, none⟩ (.string s2)).setCell ⟨wr.heap.size, 1, none⟩ (.string r2) := ⟨_, rfl⟩
      have hb3 : Below Wb.heap.size Wb W3 := by rw [hW3]; exact (hb2.setCell (p := ⟨wr.heap.size, 0, none⟩) (unhide HBW).size _).setCell (p := ⟨wr.heap.size, 1, none⟩) (unhide HBW).size _
      have hx3 : At W3 wr.heap.size #[.string s2, .string r2] 26 := by rw [hW3]; exact (hx2.set (j := 0) (v := .string s2)).set (j := 1) (v := .string r2)
      have HE2 := hide hW2; have HE3 := hide hW3; have HW2 := hide hb3; have HX3 := hide hx3
      obtain ⟨_, _, c2, c3⟩ := unhide HC W2 hb2
      clear hb2 hx2 hW2 hW3 hb3 hx3
      go_upto_region 6 with fail
      rw [← unhide HE2]
      clear c0 c1
      go_upto_region 8 with fail
      rw [← unhide HE3]
      clear e0 e1 f0 f1 c2 c3
      have e0 := (unhide HX3).cell (j := 0) rfl
      have e1 := (unhide HX3).cell (j := 1) rfl
      go_wp2_with fail
      refine (unhide R2 _).mono ?_
      rintro e y1 ⟨rfl, k1⟩
      have HK1 := hide (ext_callB (unhide HW2) k1)
      clear k1 e0 e1 HW2 HE2 HE3 HX3
      by_cases h0 : re = 0
      case neg =>
        obtain ⟨rfl, rfl⟩ := (unhide F2).f1 h0
        have HF := hide ((unhide HB).trans ((unhide HK1).mono (unhide HB).size))
        have t1 : (CE != 0) = true := by simpa using h0
        clear F2 G2 R2 h0 HK1
        go_wp2
        go_ret2
        exact ⟨rfl, unhide HF⟩
      case pos =>
      subst h0
      go_wp2_with fail
      refine (unhide G2 _).mono ?_
      rintro e y2 ⟨rfl, k2⟩
      have hk2 := ext_callB (unhide HK1) k2
      obtain ⟨y3, hy3⟩ : ∃ y', y' = y2.alloc (.cells #[.string ko, .int .i64 kt, .string km] 48) := ⟨_, rfl⟩
      have hz3 : y3.heap[y2.heap.size]? = some (.cells #[.string ko, .int .i64 kt, .string km] 48 (0, 0)) := by rw [hy3]; exact heap_alloc_new _ _
      have hk3 : Below Wb.heap.size Wb y3 := by rw [hy3]; exact hk2.alloc hk2.size _
      have d0 := cell_of_row _ _ 0 _ _ _ hz3
      have d1 := cell_of_row _ _ 1 _ _ _ hz3
      have d2 := cell_of_row _ _ 2 _ _ _ hz3
      simp only [List.getElem?_toArray, List.getElem?_cons_zero, List.getElem?_cons_succ] at d0 d1 d2
      have HK3 := hide hk3; have HY3 := hide hy3
      have HF := hide ((unhide HB).trans (hk3.mono (unhide HB).size))
      clear k2 hk2 hz3 hk3 hy3 HK1 R2 G2
      by_cases h1 : ke = 0
      case neg =>
        obtain ⟨rfl, rfl⟩ := (unhide F2).f2 (by first | rfl | trivial) h1
        have t1 : (CE != 0) = true := by simpa using h1
        clear F2 h1 d0 d1 d2
        go_wp2
        go_ret2
        exact ⟨rfl, by rw [← unhide HY3]; exact unhide HF⟩
      case pos =>
      subst h1
      go_upto_region 14 with fail
      rw [← unhide HY3]
      by_cases hz : ko = id
      · rw [show mayS id ko = true from decide_eq_true hz] at F2
        have t2 : (ko.toList == id.toList) = true := by rw [eq_bytes, decide_eq_true hz]
        clear hz
        by_cases h2 : kt < month
        · obtain ⟨rfl, rfl⟩ := (unhide F2).f4 (by first | rfl | trivial) (by first | rfl | trivial) (by first | rfl | trivial) h2
          clear F2
          go_quiet (fail)
          all_goals
            go_wp2
            go_ret2
            exact ⟨rfl, below_drewN (unhide HF) _⟩
        · have HN := hide ((unhide F2).f5 (by first | rfl | trivial) (by first | rfl | trivial) (by first | rfl | trivial) h2)
          clear F2
          go_quiet (fail)
          all_goals
            go_wp2
            go_roundw
            case rel => exact ⟨km, 3, rfl, rfl, below_drewN (unhide HK3) _, HN⟩
            case measure => simp [intOf]
      · rw [show mayS id ko = false from decide_eq_false hz] at F2
        have t2 : (ko.toList == id.toList) = false := by rw [eq_bytes, decide_eq_false hz]
        clear hz
        obtain ⟨rfl, rfl⟩ := (unhide F2).f3 (by first | rfl | trivial) (by first | rfl | trivial) (by first | rfl | trivial)
        clear F2
        go_quiet (fail)
        all_goals
          go_wp2
          go_ret2
          exact ⟨rfl, below_drewN (unhide HF) _⟩
    · have HF := hide ((unhide HB).trans ((unhide HBW).mono (unhide HB).size))
      clear HI R1 R2 F1 F2 G1 G2 c0 c1 c2 c3
      subst h1
      go_wp2
      go_ret2
      exact ⟨rfl, unhide HF⟩
end Go.Proofs.YtckkhpegimkefaaGreatDoor
namespace Go.Proofs.YtckkhpegimkefaaGreatDoor
open Go.RowKit
set_option linter.unusedVariables false
set_option linter.unusedSimpArgs false
set_option maxRecDepth 100000

/-- what is known of each operation: its value, or the cells of the row that it builds -/
structure BX (W1 : World) (kn : Nat → Option Value) (bl : Nat → Option (Array Value × TypeId)) (S : Nat → Bool) (f : Nat → Value) (w : World) : Prop where
  g : Below W1.heap.size W1 w
  v : ∀ k x, kn k = some x → S k = true → f k = x
  a : ∀ k c, bl k = some c → S k = true → ∃ q, f k = .slice (some ⟨q, 0, none⟩) c.1.size c.1.size ∧ At w q c.1 c.2
variable {W1 : World} {kn : Nat → Option Value} {bl : Nat → Option (Array Value × TypeId)} {S : Nat → Bool} {f : Nat → Value} {w w' : World}
theorem BX.val (h : BX W1 kn bl S f w) {i : Nat} {v : Value} (hv : kn i = some v) (hb : bl i = none) (hw : Below w.heap.size w w') : BX W1 kn bl (addD S i) (updD f i v) w' where
  g := h.g.trans (hw.mono h.g.size)
  v k x hk hs := by
    by_cases e : k = i
    · subst e; rw [upd_at]; rw [hv] at hk; exact Option.some.inj hk
    · rw [upd_ne e]; rw [add_ne e] at hs; exact h.v k x hk hs
  a k c hk hs := by
    have e : k ≠ i := fun e => by rw [e, hb] at hk; cases hk
    rw [add_ne e] at hs
    obtain ⟨q, h1, h2⟩ := h.a k c hk hs
    exact ⟨q, by rw [upd_ne e]; exact h1, h2.below hw⟩
theorem BX.make (h : BX W1 kn bl S f w) {i : Nat} {c : Array Value × TypeId} (hv : kn i = none) (hb : bl i = some c) : BX W1 kn bl (addD S i) (updD f i (.slice (some ⟨w.heap.size, 0, none⟩) c.1.size c.1.size)) (w.alloc (.cells c.1 c.2)) where
  g := h.g.alloc h.g.size _
  v k x hk hs := by
    have e : k ≠ i := fun e => by rw [e, hv] at hk; cases hk
    rw [upd_ne e]; rw [add_ne e] at hs; exact h.v k x hk hs
  a k c' hk hs := by
    by_cases e : k = i
    · subst e
      rw [hb] at hk
      obtain rfl := Option.some.inj hk
      exact ⟨w.heap.size, upd_at, At.new _ _ _⟩
    · rw [add_ne e] at hs
      obtain ⟨q, h1, h2⟩ := h.a k c' hk hs
      exact ⟨q, by rw [upd_ne e]; exact h1, h2.below ((Below.refl _ _).alloc (Nat.le_refl _) _)⟩
def knL (l : List (Option Value)) (k : Nat) : Option Value := l.getD k none
def blL (K B o b : ByteArray) (kd : Int) (k : Nat) : Option (Array Value × TypeId) :=
  if k = 2 then some (#[.int .u8 kd], 5) else if k = 10 then some (#[.string K, .string B, .string o], 9) else if k = 15 then some (#[.int .u8 kd], 5) else if k = 23 then some (#[.string K, .string B, .string b], 9) else none
theorem At.row3 {w : World} {q : Nat} {x y z : ByteArray} {T : TypeId} (h : At w q #[.string x, .string y, .string z] T) : TRow w (some ⟨q, 0, none⟩) [x, y, z] :=
  .inr ⟨q, 0, rfl, h.lt, fun i s hi => by
    rw [Nat.zero_add]
    match i, hi with
    | 0, hi => cases hi; exact h.cell rfl
    | 1, hi => cases hi; exact h.cell rfl
    | 2, hi => cases hi; exact h.cell rfl
    | n + 3, hi => simp at hi⟩
theorem At.byte {w : World} {q : Nat} {k : Int} (h : At w q #[.int .u8 k] 5) : (convert 43 9 (.slice (some ⟨q, 0, none⟩) 1 1)).run Tryz.prog w = .ok (.string (strOfNums [k])) w :=
  run_convert_bytes_arg (P := Tryz.prog) _ 43 5 Tryz.underlying43 Tryz.underlying5 q 0 1 1 [k] rfl (fun i hi => by
    have h2 : i = 0 := by omega
    subst h2; exact h.cell rfl) 9 Tryz.underlying9
theorem kindT_of {k : Int} (h : 1 ≤ k ∧ k ≤ 4) : strOfNums [k] = kindT k := by
  have hc : k = 1 ∨ k = 2 ∨ k = 3 ∨ k = 4 := by omega
  rcases hc with rfl | rfl | rfl | rfl <;> rfl
set_option maxHeartbeats 1000000 in
theorem lawTwo_any (n : Nat) (w : World) (hn : n ≤ 1000) :
    Calls Tryz.prog 15 #[.int .i64 (n : Int)] w fun e w' => e = .returned (.string (strOfNums (bigL n 2))) ∧ Below w.heap.size w w' := by
  have hcv := two_bytesC
  have hbx := fun o : Obj => (Below.refl w.heap.size w).alloc (Nat.le_refl _) o
  have HB := hide hbx
  have hL : bigL n 2 = [((n / 256 : Nat) : Int), ((n % 256 : Nat) : Int)] := by
    show [((n / 256 ^ 1 % 256 : Nat) : Int), ((n / 256 ^ 0 % 256 : Nat) : Int)] = _
    rw [Nat.pow_one, Nat.pow_zero, Nat.div_one, Nat.mod_eq_of_lt (show n / 256 < 256 by omega)]
  clear hbx
  go_enter Tryz.func15, Tryz.ntmps15
  have hL2 : strOfNums [(n : Int) / 256, (n : Int) % 256] = strOfNums (bigL n 2) := by rw [hL]; rfl
  go_wp2
  go_ret
  exact ⟨rfl, unhide HB _⟩
end Go.Proofs.YtckkhpegimkefaaGreatDoor
namespace Go.Proofs.YtckkhpegimkefaaGreatDoor
open Go.RowKit
set_option linter.unusedVariables false
set_option linter.unusedSimpArgs false
set_option maxRecDepth 100000

theorem tmod4 {k : Int} (h : 1 ≤ k ∧ k ≤ 4) : ∃ v : Int, Int.tmod k 4 = v ∧ 0 ≤ v ∧ v ≤ 3 ∧ 1 + v ≠ k := by
  have hc : k = 1 ∨ k = 2 ∨ k = 3 ∨ k = 4 := by omega
  rcases hc with rfl | rfl | rfl | rfl
  · exact ⟨1, by decide, by decide, by decide, by decide⟩
  · exact ⟨2, by decide, by decide, by decide, by decide⟩
  · exact ⟨3, by decide, by decide, by decide, by decide⟩
  · exact ⟨0, by decide, by decide, by decide, by decide⟩
theorem below_two {b : Nat} {w y z W : World} (h1 : Below b w y) (h2 : Below y.heap.size y z) (h3 : Below z.heap.size z W) (hb : b ≤ w.heap.size) : Below b w W := h1.trans ((h2.trans (h3.mono h2.size)).mono (Nat.le_trans hb h1.size))
theorem entTwo (args : Array Value) (w : World) : (callFunc 15 args).run Tryz.prog w = .ok (.enter 15 args) w := by kernel_rfl
theorem entRowR (args : Array Value) (w : World) : (callFunc 14 args).run Tryz.prog w = .ok (.enter 14 args) w := by kernel_rfl
theorem entFoldR (args : Array Value) (w : World) : (callFunc 13 args).run Tryz.prog w = .ok (.enter 13 args) w := by kernel_rfl
theorem x_wrap (x : Nat) (h : (x : Int) < 4) : wrap64 ((1 : Int) + (x : Int)) = 1 + (x : Int) ∧ IntKind.i64.wrap ((1 : Int) + (x : Int)) = 1 + (x : Int) :=
  ⟨by unfold wrap64; omega, wraps_i64 _ (by omega) (by omega)⟩
theorem v_wrap (v : Int) (h0 : 0 ≤ v) (h3 : v ≤ 3) : IntKind.i64.wrap v = v ∧ wrap64 ((1 : Int) + v) = 1 + v ∧ IntKind.i64.wrap ((1 : Int) + v) = 1 + v :=
  ⟨wraps_i64 _ h0 (by omega), by unfold wrap64; omega, wraps_i64 _ (by omega) (by omega)⟩
theorem kd_in (x : Nat) (kd : Int) (h : (x : Int) < 4) (e : kd = 1 + (x : Int)) : 1 ≤ kd ∧ kd ≤ 4 := by omega
theorem k2_in (v : Int) (h0 : 0 ≤ v) (h3 : v ≤ 3) : 1 ≤ 1 + v ∧ 1 + v ≤ 4 := by omega
set_option maxHeartbeats 8000000 in
theorem walkBack (r i c : Int) (pre id : ByteArray) (t0 t1 : Int) (data : ByteArray) (sp : Int) (body beside other : ByteArray) (w : World) (ht : PairTab w)
    (hr : -9223372036854775808 ≤ r ∧ r ≤ 9223372036854775807) (hi : -9223372036854775808 ≤ i ∧ i ≤ 9223372036854775807) (hc : -9223372036854775808 ≤ c ∧ c ≤ 9223372036854775807) (hp : pre.size ≤ maxLen) (hd : id.size ≤ maxLen) (h0 : t0 ≤ 9223372036854775807) (h1 : t1 ≤ 9223372036854775807) (hdat : data.size ≤ 1048576) (hbo : body.size ≤ 1048576) (hbe : beside.size ≤ 1048576) (hot : other.size ≤ 1048576) :
    Calls Tryz.prog 4 #[.agg (lkCells r i c pre id t0 t1 data sp), .string body, .string beside, .string other] w fun e w' => e = .returned (.bool true) ∧ Below w.heap.size w w' := by
  obtain ⟨W1, hW1⟩ : ∃ W1, W1 = w.alloc (.cells (lkCells r i c pre id t0 t1 data sp) 24) := ⟨_, rfl⟩
  have hB1 : Below w.heap.size w W1 := by rw [hW1]; exact (Below.refl _ _).alloc (Nat.le_refl _) _
  have hX1 : At W1 w.heap.size (lkCells r i c pre id t0 t1 data sp) 24 := by rw [hW1]; exact At.new _ _ _
  have ht1 : PairTab W1 := ht.below hB1 ht.lt
  have hlz : 0 < W1.heap.size := Nat.lt_of_lt_of_le ht.lt hB1.size
  have HC : Hid (∀ W, Below W1.heap.size W1 W → At W w.heap.size (lkCells r i c pre id t0 t1 data sp) 24 ∧ PairTab W) := hide (fun W h => ⟨hX1.below h, ht1.below h hlz⟩)
  have HCells : Hid (∀ W, Below W1.heap.size W1 W → W.cell? ⟨w.heap.size, 0, none⟩ = some (.int .i64 r) ∧ W.cell? ⟨w.heap.size, 2, none⟩ = some (.int .i64 c)) := hide (fun W h => by
    have x := (unhide HC W h).1
    exact ⟨x.cell rfl, x.cell rfl⟩)
  have hx := chN_lt c 4 (by decide)
  have CH := hide (fun W => choose_any c 4 W hc (by decide))
  obtain ⟨x, hxe⟩ : ∃ x, x = chN c 4 := ⟨_, rfl⟩
  rw [← hxe] at hx CH
  obtain ⟨kd, hkd⟩ : ∃ kd : Int, kd = 1 + (x : Int) := ⟨_, rfl⟩
  have hk := kd_in x kd hx hkd
  have ek1 := (x_wrap x hx).1.trans hkd.symm
  have ek2 := (x_wrap x hx).2.trans hkd.symm
  obtain ⟨v, hv, hv0, hv3, hvk⟩ := tmod4 hk
  obtain ⟨ev, ev1, ev2⟩ := v_wrap v hv0 hv3
  have hk2 := k2_in v hv0 hv3
  have P1 : Hid (∀ W, Below W1.heap.size W1 W → Calls Tryz.prog 8 #[.int .i64 r] W fun e w' => e = .returned (.agg #[.string (prP r), .string (prQ r)]) ∧ Below W.heap.size W w') := hide (fun W h => pair_fun r W hr (unhide HC W h).2)
  have MR : Hid (∀ W, Calls Tryz.prog 9 #[.agg #[.string (prP r), .string (prQ r)]] W fun e w' => e = .returned (.tuple #[.string (prM r), .int .i64 0]) ∧ Below W.heap.size W w') := hide (fun W => (modulus_any (prP r) (prQ r) W).mono (by rw [pr_secret r]; exact fun _ _ h => h))
  have MC : Hid (∀ W, Calls Tryz.prog 9 #[.agg #[.string (prP c), .string (prQ c)]] W fun e w' => e = .returned (.tuple #[.string (prM c), .int .i64 0]) ∧ Below W.heap.size W w') := hide (fun W => (modulus_any (prP c) (prQ c) W).mono (by rw [pr_secret c]; exact fun _ _ h => h))
  have NC := hide (fun W => certify_any (prP r) (prQ r) kd body beside W)
  have hzr := Nat.le_trans (certR_size (prP r) (prQ r) kd body beside) (show 1048576 ≤ 2097152 by decide)
  have hbe2 := Nat.le_trans hbe (show 1048576 ≤ 2097152 by decide)
  have hot2 := Nat.le_trans hot (show 1048576 ≤ 2097152 by decide)
  have R1 := hide (fun W => recover_any (prM r) (certS (prP r) (prQ r) kd body beside) (certR (prP r) (prQ r) kd body beside) kd beside W hzr hbe2)
  have R2 := hide (fun W => recover_any (prM r) (certS (prP r) (prQ r) kd body beside) (certR (prP r) (prQ r) kd body beside) (1 + v) beside W hzr hbe2)
  have R3 := hide (fun W => recover_any (prM r) (certS (prP r) (prQ r) kd body beside) (certR (prP r) (prQ r) kd body beside) kd other W hzr hot2)
  have hce := cert_only r (body := body) (beside := beside) hk
  -- what Recover answers of what was made
  have Q1 := hide (fun h => (rec_made r (k := kd) (body := body) (beside := beside) h kd beside hk).1 rfl)
  have Q2 := hide (fun h => (rec_made r (k := kd) (body := body) (beside := beside) h (1 + v) beside hk2).2 (laidW_kind hk hk2 hvk))
  have Q3 : Hid (certE (prP r) (prQ r) kd body beside = 0 → rcE (prM r) (certS (prP r) (prQ r) kd body beside) (certR (prP r) (prQ r) kd body beside) kd other = 0 → laidF kd (bodyT body) other = laidF kd (bodyT body) beside) := hide (fun h he => by
    by_cases hl : laidW (prM r).size kd (bodyT body) other = laidW (prM r).size kd (bodyT body) beside
    · exact laidW_fold hl
    · have := ((rec_made r h kd other hk).2 hl).1
      rw [he] at this; cases this)
  have HBO := hide (fun h => (cert_bounds (p := prP r) (q := prQ r) (k := kd) (body := body) (beside := beside) h).2.2)
  have HPT : Hid (∀ W, Below w.heap.size w W → PairTab W) := hide (fun W h => ht.below h ht.lt)
  -- the chain
  have NK : Hid (∀ W, Below W1.heap.size W1 W → At W w.heap.size (lkCells r i c pre id t0 t1 data 0) 24 → True) := hide (fun _ _ _ => trivial)
  have CS := hide (fun W (h : PairTab W) => certs_any r i c pre id t0 t1 data 0 W h hr hi hc hp hd h0 h1 (by decide))
  have P3 := hide (fun W (h : PairTab W) => pair_fun c W hc h)
  have CM : Hid ((if ckE (prP r) (prQ r) 1 pre t0 (prM i) ⟨#[]⟩ = 0 then ckE (prP i) (prQ i) 2 id t1 (prM c) data else ckE (prP r) (prQ r) 1 pre t0 (prM i) ⟨#[]⟩) = 0 →
      (mayP id pre = true → chE (prM r) (ckS (prP r) (prQ r) 1 pre t0 (prM i) ⟨#[]⟩) (ckR (prP r) (prQ r) 1 pre t0 (prM i) ⟨#[]⟩) (ckS (prP i) (prQ i) 2 id t1 (prM c) data) (ckR (prP i) (prQ i) 2 id t1 (prM c) data) id data 0 = 0 ∧ chM (prM r) (ckS (prP r) (prQ r) 1 pre t0 (prM i) ⟨#[]⟩) (ckR (prP r) (prQ r) 1 pre t0 (prM i) ⟨#[]⟩) (ckS (prP i) (prQ i) 2 id t1 (prM c) data) (ckR (prP i) (prQ i) 2 id t1 (prM c) data) id data 0 = prM c) ∧
      (mayP id pre = false → chE (prM r) (ckS (prP r) (prQ r) 1 pre t0 (prM i) ⟨#[]⟩) (ckR (prP r) (prQ r) 1 pre t0 (prM i) ⟨#[]⟩) (ckS (prP i) (prQ i) 2 id t1 (prM c) data) (ckR (prP i) (prQ i) 2 id t1 (prM c) data) id data 0 = 10)) := hide (fun he => by
    by_cases ha : ckE (prP r) (prQ r) 1 pre t0 (prM i) ⟨#[]⟩ = 0
    · rw [if_pos ha] at he; exact chain_made r i c ha he
    · rw [if_neg ha] at he; exact absurd he ha)
  have NCH := hide (fun W => chain_any (prM r) (ckS (prP r) (prQ r) 1 pre t0 (prM i) ⟨#[]⟩) (ckR (prP r) (prQ r) 1 pre t0 (prM i) ⟨#[]⟩) (ckS (prP i) (prQ i) 2 id t1 (prM c) data) (ckR (prP i) (prQ i) 2 id t1 (prM c) data) id data 0 W (Nat.le_trans (ckR_size _ _ _ _ _ _ _) (by decide)) (Nat.le_trans (ckR_size _ _ _ _ _ _ _) (by decide)) (Nat.le_trans hdat (by decide)))
  generalize chE (prM r) (ckS (prP r) (prQ r) 1 pre t0 (prM i) ⟨#[]⟩) (ckR (prP r) (prQ r) 1 pre t0 (prM i) ⟨#[]⟩) (ckS (prP i) (prQ i) 2 id t1 (prM c) data) (ckR (prP i) (prQ i) 2 id t1 (prM c) data) id data 0 = che at *
  generalize chM (prM r) (ckS (prP r) (prQ r) 1 pre t0 (prM i) ⟨#[]⟩) (ckR (prP r) (prQ r) 1 pre t0 (prM i) ⟨#[]⟩) (ckS (prP i) (prQ i) 2 id t1 (prM c) data) (ckR (prP i) (prQ i) 2 id t1 (prM c) data) id data 0 = chm at *
  generalize (if ckE (prP r) (prQ r) 1 pre t0 (prM i) ⟨#[]⟩ = 0 then ckE (prP i) (prQ i) 2 id t1 (prM c) data else ckE (prP r) (prQ r) 1 pre t0 (prM i) ⟨#[]⟩) = er at *
  generalize ckS (prP r) (prQ r) 1 pre t0 (prM i) ⟨#[]⟩ = sa at *
  generalize ckR (prP r) (prQ r) 1 pre t0 (prM i) ⟨#[]⟩ = ra at *
  generalize ckS (prP i) (prQ i) 2 id t1 (prM c) data = sb at *
  generalize ckR (prP i) (prQ i) 2 id t1 (prM c) data = rb at *
  generalize rcE (prM r) (certS (prP r) (prQ r) kd body beside) (certR (prP r) (prQ r) kd body beside) kd beside = e1 at *
  generalize rcT (prM r) (certS (prP r) (prQ r) kd body beside) (certR (prP r) (prQ r) kd body beside) kd beside = b1 at *
  generalize rcE (prM r) (certS (prP r) (prQ r) kd body beside) (certR (prP r) (prQ r) kd body beside) (1 + v) beside = e2 at *
  generalize rcT (prM r) (certS (prP r) (prQ r) kd body beside) (certR (prP r) (prQ r) kd body beside) (1 + v) beside = b2 at *
  generalize rcE (prM r) (certS (prP r) (prQ r) kd body beside) (certR (prP r) (prQ r) kd body beside) kd other = e3 at *
  generalize rcT (prM r) (certS (prP r) (prQ r) kd body beside) (certR (prP r) (prQ r) kd body beside) kd other = b3 at *
  generalize certE (prP r) (prQ r) kd body beside = ce at *
  generalize certS (prP r) (prQ r) kd body beside = cs at *
  generalize certR (prP r) (prQ r) kd body beside = cr at *
  generalize prM r = mr at *
  generalize prM c = mc at *
  generalize prP r = pr at *
  generalize prQ r = qr at *
  generalize prP c = pc at *
  generalize prQ c = qc at *
  have HB1 := hide hB1; have HW1 := hide hW1; have HS := hide (And.intro hbo (And.intro hbe hot)); have HK := hide hk
  obtain ⟨c0, _⟩ := unhide HCells W1 (Below.refl _ _)
  clear hW1 hB1 hX1 ht ht1 hlz hr hi hc hp hd h0 h1 hdat hbo hbe hot hzr hbe2 hot2 hk2 NK hxe hk hx hkd hv0 hv3 hvk
  unfold lkCells at HW1 ⊢
  go_enter Tryz.func4, Tryz.ntmps4
  go_upto_region 1 with fail
  rw [← unhide HW1]
  go_wp2_with fail
  refine (unhide P1 _ (Below.refl _ _)).mono ?_
  rintro e y1 ⟨rfl, k1⟩
  obtain ⟨y2, hy2⟩ : ∃ y', y' = y1.alloc (.cells #[.string pr, .string qr] 34) := ⟨_, rfl⟩
  have x2 : At y2 y1.heap.size #[.string pr, .string qr] 34 := by rw [hy2]; exact At.new _ _ _
  have k2 : Below W1.heap.size W1 y2 := by rw [hy2]; exact k1.alloc k1.size _
  have HP : Hid (∀ W, Below y2.heap.size y2 W → Below W1.heap.size W1 W ∧ W.cell? ⟨y1.heap.size, 0, none⟩ = some (.string pr) ∧ W.cell? ⟨y1.heap.size, 1, none⟩ = some (.string qr)) := hide (fun W h => ⟨k2.trans (h.mono k2.size), (x2.below h).cell rfl, (x2.below h).cell rfl⟩)
  have s0 := x2.cell (j := 0) rfl
  have s1 := x2.cell (j := 1) rfl
  rw [hy2] at s0 s1
  have HY2 := hide hy2
  clear c0 k1 hy2 x2 k2 P1
  go_upto_region 2 with fail
  rw [← unhide HY2] at s0 s1 ⊢
  go_wp2_with fail
  refine (unhide MR _).mono ?_
  rintro e y3 ⟨rfl, k3⟩
  clear s0 s1
  obtain ⟨hb, s0, s1⟩ := unhide HP y3 k3
  obtain ⟨_, c2⟩ := unhide HCells y3 hb
  have K3 := hide k3
  clear hb k3 MR
  go_wp2_with fail
  refine (unhide CH _).mono ?_
  rintro e y4 ⟨rfl, hy4⟩
  have hy4' := hy4.symm
  subst hy4'
  clear hy4
  go_upto_region 4 with fail
  clear c2 ek1 ek2
  go_wp2_with fail
  refine (unhide NC _).mono ?_
  rintro e y4 ⟨rfl, k4⟩
  have k4 := ext_callB (unhide K3) k4
  obtain ⟨y5, hy5⟩ : ∃ y', y' = y4.alloc (.cells #[.string cs, .string cr] 26) := ⟨_, rfl⟩
  have x5 : At y5 y4.heap.size #[.string cs, .string cr] 26 := by rw [hy5]; exact At.new _ _ _
  have k5 : Below y2.heap.size y2 y5 := by rw [hy5]; exact k4.alloc k4.size _
  have kk5 := (unhide HP y5 k5).1
  have HQ : Hid (∀ W, Below y5.heap.size y5 W → Below W1.heap.size W1 W ∧ W.cell? ⟨y4.heap.size, 0, none⟩ = some (.string cs) ∧ W.cell? ⟨y4.heap.size, 1, none⟩ = some (.string cr)) := hide (fun W h => ⟨kk5.trans (h.mono kk5.size), (x5.below h).cell rfl, (x5.below h).cell rfl⟩)
  have HY5 := hide hy5
  have HF5 := hide ((unhide HB1).trans (kk5.mono (unhide HB1).size))
  have u0 := x5.cell (j := 0) rfl
  have u1 := x5.cell (j := 1) rfl
  clear s0 s1 k4 k5 kk5 hy5 x5 NC K3
  by_cases h0 : ce = 0
  case neg =>
    obtain rfl : ce = 2 := hce.resolve_left h0
    clear u0 u1 hce h0
    go_wp2
    go_ret
    exact ⟨rfl, by rw [← unhide HY5]; exact unhide HF5⟩
  case pos =>
  subst h0
  clear hce
  obtain ⟨rfl, rfl⟩ := unhide Q1 rfl
  obtain ⟨rfl, rfl⟩ := unhide Q2 rfl
  have Q3 := hide (unhide Q3 rfl)
  clear Q1 Q2
  go_upto_region 7 with fail
  rw [← unhide HY5]
  go_wp2_with fail
  refine (unhide R1 _).mono ?_
  rintro e y6 ⟨rfl, k6⟩
  clear u0 u1
  obtain ⟨hb, u0, u1⟩ := unhide HQ y6 k6
  have K6 := hide k6
  have tb : (b1.toList == b1.toList) = true := by simp
  clear hb k6 R1
  go_upto_region 10 with fail
  clear tb
  go_wp2_with fail
  refine (unhide R2 _).mono ?_
  rintro e y7 ⟨rfl, k7⟩
  have k7 := ext_callB (unhide K6) k7
  clear u0 u1
  obtain ⟨hb, u0, u1⟩ := unhide HQ y7 k7
  have K7 := hide k7
  clear hb k7 R2 K6 hv ev ev1 ev2
  go_upto_region 13 with fail
  go_wp2_with fail
  refine (unhide R3 _).mono ?_
  rintro e y8 ⟨rfl, k8⟩
  have k8 := ext_callB (unhide K7) k8
  clear u0 u1
  obtain ⟨hb, _⟩ := unhide HQ y8 k8
  have HBx := hide hb
  obtain ⟨xl, _⟩ := unhide HC y8 hb
  clear k8 R3 K7
  by_cases hoth : other ≠ beside ∧ e3 = 0
  case pos =>
    obtain ⟨ho, he⟩ := hoth
    subst he
    have tt1 : (other.toList != beside.toList) = true := by rw [ne_bytes, decide_eq_false ho]; rfl
    have tt1' : (other.toList == beside.toList) = false := by rw [eq_bytes, decide_eq_false ho]
    have hfold := (unhide Q3) (by first | rfl | trivial) (by first | rfl | trivial)
    clear hb xl
    go_upto_region 15 with fail
    obtain ⟨hsb, hse⟩ := unhide HBO (by first | rfl | trivial)
    obtain ⟨_, _, hso⟩ := unhide HS
    have hkt := kindT_of (unhide HK)
    have hks := kindT_size kd
    have hbs := bodyT_size b1
    have ku : IntKind.u8.wrap kd = kd := wraps_u8 _ (by have := (unhide HK).1; omega) (by have := (unhide HK).2; omega)
    have NT := hide (fun W => lawTwo_any b1.size W hsb)
    have hrO : (rowN [kindT kd, bodyT b1, other] : Int) ≤ 1099511627776 := by simp only [rowN]; omega
    have hrB : (rowN [kindT kd, bodyT b1, beside] : Int) ≤ 1099511627776 := by simp only [rowN]; omega
    have NRO := hide (fun (q : Nat) (W : World) (h : At W q #[.string (kindT kd), .string (bodyT b1), .string other] 9) => rrow_any [kindT kd, bodyT b1, other] (some ⟨q, 0, none⟩) 3 W h.row3 hrO (by simp))
    have NRB := hide (fun (q : Nat) (W : World) (h : At W q #[.string (kindT kd), .string (bodyT b1), .string beside] 9) => rrow_any [kindT kd, bodyT b1, beside] (some ⟨q, 0, none⟩) 3 W h.row3 hrB (by simp))
    have NFO := hide (fun W => rfold_any (rowS [kindT kd, bodyT b1, other]) (by rw [rowS_size]; exact hrO) W)
    have NFB := hide (fun W => rfold_any (rowS [kindT kd, bodyT b1, beside]) (by rw [rowS_size]; exact hrB) W)
    have hfo : foldS (rowS [kindT kd, bodyT b1, other]) = foldS (rowS [kindT kd, bodyT b1, beside]) := hfold
    rw [hfo] at NFO
    have ha := fun w' => run_string_add_sum (P := Tryz.prog) w' (strOfNums (bigL b1.size 2)) b1 (by rw [strOfNums_size, bigL_length]; omega)
    have hBT : strOfNums (bigL b1.size 2) ++ b1 = bodyT b1 := rfl
    rw [hBT] at ha
    generalize foldS (rowS [kindT kd, bodyT b1, beside]) = F at *
    generalize rowS [kindT kd, bodyT b1, other] = RO at *
    generalize rowS [kindT kd, bodyT b1, beside] = RB at *
    generalize bodyT b1 = BT at *
    generalize strOfNums (bigL b1.size 2) = L2 at *
    generalize kindT kd = K at *
    have hcb := fun (q : Nat) (W : World) (h : At W q #[.int .u8 kd] 5) => At.byte (k := kd) h
    rw [hkt] at hcb
    have tF : (F.toList == F.toList) = true := by simp
    clear hfold hfo hBT hks hbs hrO hrB hkt hsb hse hso
    refine wp_drawnJ (by kernel_rfl) 180 (by rfl) (by kernel_rfl) (by kernel_rfl) (BX y8 (knL [some (.int .i64 kd), some (.int .u8 kd), none, some (.string K), some (.string b1), some (.int .i64 (b1.size : Int)), some (.string L2), some (.string b1), some (.string BT), some (.string other), none, some (.string RO), some (.string F), some (.int .i64 kd), some (.int .u8 kd), none, some (.string K), some (.string b1), some (.int .i64 (b1.size : Int)), some (.string L2), some (.string b1), some (.string BT), some (.string beside), none, some (.string RB), some (.string F), some (.bool true), some (.bool true)]) (blL K BT other beside kd)) ?_ ?_ ?_
    · exact ⟨(Below.refl _ _).drew, fun _ _ _ h => absurd h Bool.false_ne_true, fun _ _ _ h => absurd h Bool.false_ne_true⟩
    · refine ⟨?_, ?_, ?_, ?_, ?_, ?_, ?_, ?_, ?_, ?_, ?_, ?_, ?_, ?_, ?_, ?_, ?_, ?_, ?_, ?_, ?_, ?_, ?_, ?_, ?_, ?_, ?_, ?_, trivial⟩
      · intro S ac wx hJ hS hw hoff
        have e12 : ac.eval (.tmp 12) = .int .i64 kd := (hoff 12 (by kernel_rfl)).trans rfl
        have g12 := evT e12
        refine Does.value (.int .i64 kd) wx ?_ (hJ.val (i := 0) rfl rfl (Below.refl _ _))
        clear hJ hw hoff
        go_simp
      · intro S ac wx hJ hS hw hoff
        have e89 : ac.eval (.tmp 89) = .int .i64 kd := hJ.v 0 _ rfl (hw 0 (by kernel_rfl))
        have g89 := evT e89
        refine Does.value (.int .u8 kd) wx ?_ (hJ.val (i := 1) rfl rfl (Below.refl _ _))
        clear hJ hw hoff
        go_simp
      · intro S ac wx hJ hS hw hoff
        have e90 : ac.eval (.tmp 90) = .int .u8 kd := hJ.v 1 _ rfl (hw 1 (by kernel_rfl))
        have g90 := evT e90
        refine Does.value (.slice (some ⟨wx.heap.size, 0, none⟩) 1 1) (wx.alloc (.cells #[.int .u8 kd] 5)) ?_ (hJ.make (i := 2) rfl rfl)
        clear hJ hw hoff
        go_simp
      · intro S ac wx hJ hS hw hoff
        obtain ⟨q, hq, hA⟩ := hJ.a 2 _ rfl (hw 2 (by kernel_rfl))
        have e91 : ac.eval (.tmp 91) = .slice (some ⟨q, 0, none⟩) 1 1 := hq
        have g91 := evT e91
        have hcv := hcb q wx hA
        refine Does.value (.string K) wx ?_ (hJ.val (i := 3) rfl rfl (Below.refl _ _))
        clear hJ hw hoff
        go_simp
      · intro S ac wx hJ hS hw hoff
        have e1 : ac.eval (.tmp 1) = .string b1 := (hoff 1 (by kernel_rfl)).trans rfl
        have g1 := evT e1
        refine Does.value (.string b1) wx ?_ (hJ.val (i := 4) rfl rfl (Below.refl _ _))
        clear hJ hw hoff
        go_simp
      · intro S ac wx hJ hS hw hoff
        have e93 : ac.eval (.tmp 93) = .string b1 := hJ.v 4 _ rfl (hw 4 (by kernel_rfl))
        have g93 := evT e93
        refine Does.value (.int .i64 (b1.size : Int)) wx ?_ (hJ.val (i := 5) rfl rfl (Below.refl _ _))
        clear hJ hw hoff
        go_simp
      · intro S ac wx hJ hS hw hoff
        have e94 : ac.eval (.tmp 94) = .int .i64 (b1.size : Int) := hJ.v 5 _ rfl (hw 5 (by kernel_rfl))
        have g94 := evT e94
        refine does_call1 15 (.tmp 94) _ rfl _ e94 entTwo (unhide NT wx) ?_
        rintro e wy ⟨rfl, hy⟩
        exact ⟨_, rfl, hJ.val (i := 6) rfl rfl hy⟩
      · intro S ac wx hJ hS hw hoff
        have e1 : ac.eval (.tmp 1) = .string b1 := (hoff 1 (by kernel_rfl)).trans rfl
        have g1 := evT e1
        refine Does.value (.string b1) wx ?_ (hJ.val (i := 7) rfl rfl (Below.refl _ _))
        clear hJ hw hoff
        go_simp
      · intro S ac wx hJ hS hw hoff
        have e95 : ac.eval (.tmp 95) = .string L2 := hJ.v 6 _ rfl (hw 6 (by kernel_rfl))
        have g95 := evT e95
        have e96 : ac.eval (.tmp 96) = .string b1 := hJ.v 7 _ rfl (hw 7 (by kernel_rfl))
        have g96 := evT e96
        refine Does.value (.string BT) wx ?_ (hJ.val (i := 8) rfl rfl (Below.refl _ _))
        clear hJ hw hoff
        go_simp
      · intro S ac wx hJ hS hw hoff
        have e3 : ac.eval (.tmp 3) = .string other := (hoff 3 (by kernel_rfl)).trans rfl
        have g3 := evT e3
        refine Does.value (.string other) wx ?_ (hJ.val (i := 9) rfl rfl (Below.refl _ _))
        clear hJ hw hoff
        go_simp
      · intro S ac wx hJ hS hw hoff
        have e92 : ac.eval (.tmp 92) = .string K := hJ.v 3 _ rfl (hw 3 (by kernel_rfl))
        have g92 := evT e92
        have e97 : ac.eval (.tmp 97) = .string BT := hJ.v 8 _ rfl (hw 8 (by kernel_rfl))
        have g97 := evT e97
        have e98 : ac.eval (.tmp 98) = .string other := hJ.v 9 _ rfl (hw 9 (by kernel_rfl))
        have g98 := evT e98
        refine Does.value (.slice (some ⟨wx.heap.size, 0, none⟩) 3 3) (wx.alloc (.cells #[.string K, .string BT, .string other] 9)) ?_ (hJ.make (i := 10) rfl rfl)
        clear hJ hw hoff
        go_simp
      · intro S ac wx hJ hS hw hoff
        obtain ⟨q, hq, hA⟩ := hJ.a 10 _ rfl (hw 10 (by kernel_rfl))
        have e99 : ac.eval (.tmp 99) = .slice (some ⟨q, 0, none⟩) 3 3 := hq
        refine does_call1 14 (.tmp 99) _ rfl _ e99 entRowR (unhide NRO q wx hA) ?_
        rintro e wy ⟨rfl, hy⟩
        exact ⟨_, rfl, hJ.val (i := 11) rfl rfl hy⟩
      · intro S ac wx hJ hS hw hoff
        have e100 : ac.eval (.tmp 100) = .string RO := hJ.v 11 _ rfl (hw 11 (by kernel_rfl))
        have g100 := evT e100
        refine does_call1 13 (.tmp 100) _ rfl _ e100 entFoldR (unhide NFO wx) ?_
        rintro e wy ⟨rfl, hy⟩
        exact ⟨_, rfl, hJ.val (i := 12) rfl rfl hy⟩
      · intro S ac wx hJ hS hw hoff
        have e12 : ac.eval (.tmp 12) = .int .i64 kd := (hoff 12 (by kernel_rfl)).trans rfl
        have g12 := evT e12
        refine Does.value (.int .i64 kd) wx ?_ (hJ.val (i := 13) rfl rfl (Below.refl _ _))
        clear hJ hw hoff
        go_simp
      · intro S ac wx hJ hS hw hoff
        have e102 : ac.eval (.tmp 102) = .int .i64 kd := hJ.v 13 _ rfl (hw 13 (by kernel_rfl))
        have g102 := evT e102
        refine Does.value (.int .u8 kd) wx ?_ (hJ.val (i := 14) rfl rfl (Below.refl _ _))
        clear hJ hw hoff
        go_simp
      · intro S ac wx hJ hS hw hoff
        have e103 : ac.eval (.tmp 103) = .int .u8 kd := hJ.v 14 _ rfl (hw 14 (by kernel_rfl))
        have g103 := evT e103
        refine Does.value (.slice (some ⟨wx.heap.size, 0, none⟩) 1 1) (wx.alloc (.cells #[.int .u8 kd] 5)) ?_ (hJ.make (i := 15) rfl rfl)
        clear hJ hw hoff
        go_simp
      · intro S ac wx hJ hS hw hoff
        obtain ⟨q, hq, hA⟩ := hJ.a 15 _ rfl (hw 15 (by kernel_rfl))
        have e104 : ac.eval (.tmp 104) = .slice (some ⟨q, 0, none⟩) 1 1 := hq
        have g104 := evT e104
        have hcv := hcb q wx hA
        refine Does.value (.string K) wx ?_ (hJ.val (i := 16) rfl rfl (Below.refl _ _))
        clear hJ hw hoff
        go_simp
      · intro S ac wx hJ hS hw hoff
        have e1 : ac.eval (.tmp 1) = .string b1 := (hoff 1 (by kernel_rfl)).trans rfl
        have g1 := evT e1
        refine Does.value (.string b1) wx ?_ (hJ.val (i := 17) rfl rfl (Below.refl _ _))
        clear hJ hw hoff
        go_simp
      · intro S ac wx hJ hS hw hoff
        have e106 : ac.eval (.tmp 106) = .string b1 := hJ.v 17 _ rfl (hw 17 (by kernel_rfl))
        have g106 := evT e106
        refine Does.value (.int .i64 (b1.size : Int)) wx ?_ (hJ.val (i := 18) rfl rfl (Below.refl _ _))
        clear hJ hw hoff
        go_simp
      · intro S ac wx hJ hS hw hoff
        have e107 : ac.eval (.tmp 107) = .int .i64 (b1.size : Int) := hJ.v 18 _ rfl (hw 18 (by kernel_rfl))
        have g107 := evT e107
        refine does_call1 15 (.tmp 107) _ rfl _ e107 entTwo (unhide NT wx) ?_
        rintro e wy ⟨rfl, hy⟩
        exact ⟨_, rfl, hJ.val (i := 19) rfl rfl hy⟩
      · intro S ac wx hJ hS hw hoff
        have e1 : ac.eval (.tmp 1) = .string b1 := (hoff 1 (by kernel_rfl)).trans rfl
        have g1 := evT e1
        refine Does.value (.string b1) wx ?_ (hJ.val (i := 20) rfl rfl (Below.refl _ _))
        clear hJ hw hoff
        go_simp
      · intro S ac wx hJ hS hw hoff
        have e108 : ac.eval (.tmp 108) = .string L2 := hJ.v 19 _ rfl (hw 19 (by kernel_rfl))
        have g108 := evT e108
        have e109 : ac.eval (.tmp 109) = .string b1 := hJ.v 20 _ rfl (hw 20 (by kernel_rfl))
        have g109 := evT e109
        refine Does.value (.string BT) wx ?_ (hJ.val (i := 21) rfl rfl (Below.refl _ _))
        clear hJ hw hoff
        go_simp
      · intro S ac wx hJ hS hw hoff
        have e2 : ac.eval (.tmp 2) = .string beside := (hoff 2 (by kernel_rfl)).trans rfl
        have g2 := evT e2
        refine Does.value (.string beside) wx ?_ (hJ.val (i := 22) rfl rfl (Below.refl _ _))
        clear hJ hw hoff
        go_simp
      · intro S ac wx hJ hS hw hoff
        have e105 : ac.eval (.tmp 105) = .string K := hJ.v 16 _ rfl (hw 16 (by kernel_rfl))
        have g105 := evT e105
        have e110 : ac.eval (.tmp 110) = .string BT := hJ.v 21 _ rfl (hw 21 (by kernel_rfl))
        have g110 := evT e110
        have e111 : ac.eval (.tmp 111) = .string beside := hJ.v 22 _ rfl (hw 22 (by kernel_rfl))
        have g111 := evT e111
        refine Does.value (.slice (some ⟨wx.heap.size, 0, none⟩) 3 3) (wx.alloc (.cells #[.string K, .string BT, .string beside] 9)) ?_ (hJ.make (i := 23) rfl rfl)
        clear hJ hw hoff
        go_simp
      · intro S ac wx hJ hS hw hoff
        obtain ⟨q, hq, hA⟩ := hJ.a 23 _ rfl (hw 23 (by kernel_rfl))
        have e112 : ac.eval (.tmp 112) = .slice (some ⟨q, 0, none⟩) 3 3 := hq
        refine does_call1 14 (.tmp 112) _ rfl _ e112 entRowR (unhide NRB q wx hA) ?_
        rintro e wy ⟨rfl, hy⟩
        exact ⟨_, rfl, hJ.val (i := 24) rfl rfl hy⟩
      · intro S ac wx hJ hS hw hoff
        have e113 : ac.eval (.tmp 113) = .string RB := hJ.v 24 _ rfl (hw 24 (by kernel_rfl))
        have g113 := evT e113
        refine does_call1 13 (.tmp 113) _ rfl _ e113 entFoldR (unhide NFB wx) ?_
        rintro e wy ⟨rfl, hy⟩
        exact ⟨_, rfl, hJ.val (i := 25) rfl rfl hy⟩
      · intro S ac wx hJ hS hw hoff
        have e101 : ac.eval (.tmp 101) = .string F := hJ.v 12 _ rfl (hw 12 (by kernel_rfl))
        have g101 := evT e101
        have e114 : ac.eval (.tmp 114) = .string F := hJ.v 25 _ rfl (hw 25 (by kernel_rfl))
        have g114 := evT e114
        refine Does.value (.bool true) wx ?_ (hJ.val (i := 26) rfl rfl (Below.refl _ _))
        clear hJ hw hoff
        go_simp
      · intro S ac wx hJ hS hw hoff
        have e115 : ac.eval (.tmp 115) = .bool true := hJ.v 26 _ rfl (hw 26 (by kernel_rfl))
        have g115 := evT e115
        refine Does.value (.bool true) wx ?_ (hJ.val (i := 27) rfl rfl (Below.refl _ _))
        clear hJ hw hoff
        go_simp
    · intro ac wx S hdf hsz hoff hall hJ
      have h8 : ac.tmps.getD 8 undef = .bool true := hJ.v 27 _ rfl (hall 27 (by decide))
      have hmix := mix_eq [false, false, false, false, false, false, false, false, true, false, false, false, false, false, false, false, false, false, false, false, false, false, false, false, false, false, false, false, false, false, false, false, false, false, false, false, false, false, false, false, false, false, false, false, false, false, false, false, false, false, false, false, false, false, false, false, false, false, false, false, false, false, false, false, false, false, false, false, false, false, false, false, false, false, false, false, false, false, false, false, false, false, false, false, false, false, false, false, false, true, true, true, true, true, true, true, true, true, true, true, true, true, true, true, true, true, true, true, true, true, true, true, true, true, true, true, false, false, false, false, false, false, false, false, false, false, false, false, false, false, false, false, false, false, false, false, false, false, false, false, false, false, false, false, false, false, false, false, false, false, false, false, false, false, false, false, false, false, false, false, false, false, false, false, false, false, false, false, false, false, false, false, false, false, false, false, false, false, false, false] rfl rfl hsz hdf (by kernel_rfl) hoff
      have hg := hJ.g
      clear hoff hall hsz hdf hJ
      simp only [mixL, Nat.reduceAdd, h8] at hmix
      rw [hmix]
      clear hmix h8
      have HFZ := hide ((unhide HB1).trans (((unhide HBx).trans (hg.mono (unhide HBx).size)).mono (unhide HB1).size))
      clear hg
      go_wp2
      go_ret
      exact ⟨rfl, unhide HFZ⟩
  case neg =>
  have hoc : Hid ((other = beside) ∨ (other ≠ beside ∧ e3 ≠ 0)) := hide (by
    by_cases h : other = beside
    · exact Or.inl h
    · exact Or.inr ⟨h, fun h2 => hoth ⟨h, h2⟩⟩)
  -- behind it
  obtain ⟨y9, hy9⟩ : ∃ y', y' = y8.setCell ⟨w.heap.size, 8, none⟩ (.int .i64 0) := ⟨_, rfl⟩
  have x9 : At y9 w.heap.size (lkCells r i c pre id t0 t1 data 0) 24 := by
    have := xl.set (j := 8) (v := .int .i64 0)
    rw [hy9]
    simpa [lkCells] using this
  have h9 : Below w.heap.size w y9 := by rw [hy9]; exact ((unhide HB1).trans (hb.mono (unhide HB1).size)).setCell (p := ⟨w.heap.size, 8, none⟩) (Nat.le_refl _) _
  have p9 : PairTab y9 := unhide HPT y9 h9
  have hf8 := xl.soft (j := 8)
  have c8 := xl.cell (j := 8) rfl
  have HY9 := hide hy9; have H9 := hide h9; have X9 := hide x9; have P9 := hide p9
  have CS := hide (unhide CS y9 p9)
  unfold lkCells at CS
  have l0 : y9.cell? ⟨w.heap.size, 0, none⟩ = some (.int .i64 r) := x9.cell (j := 0) rfl
  have l1 : y9.cell? ⟨w.heap.size, 1, none⟩ = some (.int .i64 i) := x9.cell (j := 1) rfl
  have l2 : y9.cell? ⟨w.heap.size, 2, none⟩ = some (.int .i64 c) := x9.cell (j := 2) rfl
  have l3 : y9.cell? ⟨w.heap.size, 3, none⟩ = some (.string pre) := x9.cell (j := 3) rfl
  have l4 : y9.cell? ⟨w.heap.size, 4, none⟩ = some (.string id) := x9.cell (j := 4) rfl
  have l5 : y9.cell? ⟨w.heap.size, 5, none⟩ = some (.int .i64 t0) := x9.cell (j := 5) rfl
  have l6 : y9.cell? ⟨w.heap.size, 6, none⟩ = some (.int .i64 t1) := x9.cell (j := 6) rfl
  have l7 : y9.cell? ⟨w.heap.size, 7, none⟩ = some (.string data) := x9.cell (j := 7) rfl
  have l8 : y9.cell? ⟨w.heap.size, 8, none⟩ = some (.int .i64 0) := x9.cell (j := 8) rfl
  clear hb xl hy9 x9 h9 p9 hoth
  rcases unhide hoc with ho | ⟨ho, he⟩
  all_goals
    first
      | (have tt1 : (other.toList != beside.toList) = true := by rw [ne_bytes, decide_eq_false ho]; rfl
         have tt1' : (other.toList == beside.toList) = false := by rw [eq_bytes, decide_eq_false ho]
         have tt2 : (e3 == 0) = false := by simpa using he
         clear ho he)
      | (have tt1 : (other.toList != beside.toList) = false := by rw [ne_bytes, decide_eq_true ho]; rfl
         have tt1' : (other.toList == beside.toList) = true := by rw [eq_bytes, decide_eq_true ho]
         clear ho)
    clear hoc
    go_upto_region 17 with fail
    rw [← unhide HY9]
    clear hf8 c8
    go_wp2_with fail
    refine (unhide CS).mono ?_
    rintro e z1 ⟨⟨sa', sb', rfl, hsp⟩, k1⟩
    obtain ⟨rfl, rfl⟩ := hsp (by first | rfl | trivial)
    clear l0 l1 l2 l3 l4 l5 l6 l7 l8 CS
    obtain ⟨z2, hz2⟩ : ∃ y', y' = z1.alloc (.cells #[.string sa', .string ra] 26) := ⟨_, rfl⟩
    obtain ⟨z3, hz3⟩ : ∃ y', y' = z2.alloc (.cells #[.string sb', .string rb] 26) := ⟨_, rfl⟩
    have w2 : At z2 z1.heap.size #[.string sa', .string ra] 26 := by rw [hz2]; exact At.new _ _ _
    have lz : z2.heap.size = z1.heap.size + 1 := by rw [hz2]; simp
    have w3 : At z3 (z1.heap.size + 1) #[.string sb', .string rb] 26 := by rw [hz3, ← lz]; exact At.new _ _ _
    have w2' : At z3 z1.heap.size #[.string sa', .string ra] 26 := w2.below (by rw [hz3]; exact (Below.refl _ _).alloc (Nat.le_refl _) _)
    have k3 : Below y9.heap.size y9 z3 := by rw [hz3, hz2]; exact (k1.alloc k1.size _).alloc (Nat.le_trans k1.size (by simp)) _
    have xz := (unhide X9).below k3
    have HZ : Hid (∀ W, Below z3.heap.size z3 W → At W z1.heap.size #[.string sa', .string ra] 26 ∧ At W (z1.heap.size + 1) #[.string sb', .string rb] 26 ∧ At W w.heap.size (lkCells r i c pre id t0 t1 data 0) 24 ∧ Below w.heap.size w W) := hide (fun W h => ⟨w2'.below h, w3.below h, xz.below h, below_two (unhide H9) k3 h (Nat.le_refl _)⟩)
    rw [hz2] at hz3
    have HZ3 := hide hz3
    clear k1 hz2 hz3 w2 lz w3 w2' k3 xz
    by_cases hre : er = 0
    case neg =>
      have t9 : (er == 0) = false := by simpa using hre
      go_wp2
      go_ret
      exact ⟨rfl, by rw [← unhide HZ3]; exact (unhide HZ z3 (Below.refl _ _)).2.2.2⟩
    case pos =>
    subst hre
    obtain ⟨za, zb, zl, _⟩ := unhide HZ z3 (Below.refl _ _)
    have a0 := za.cell (j := 0) rfl
    have a1 := za.cell (j := 1) rfl
    have b0 := zb.cell (j := 0) rfl
    have b1' := zb.cell (j := 1) rfl
    have l4 : z3.cell? ⟨w.heap.size, 4, none⟩ = some (.string id) := zl.cell (j := 4) rfl
    have l6 : z3.cell? ⟨w.heap.size, 7, none⟩ = some (.string data) := zl.cell (j := 7) rfl
    clear za zb zl
    go_upto_region 20 with fail
    rw [← unhide HZ3]
    go_wp2_with fail
    refine (unhide NCH _).mono ?_
    rintro e z4 ⟨rfl, k4⟩
    obtain ⟨_, _, zl, zb4⟩ := unhide HZ z4 k4
    have K4 := hide k4
    have p4 := unhide HPT z4 zb4
    have l2 : z4.cell? ⟨w.heap.size, 2, none⟩ = some (.int .i64 c) := zl.cell (j := 2) rfl
    clear a0 a1 b0 b1' l4 l6 k4 zl zb4 NCH
    go_upto_region 21 with fail
    go_wp2_with fail
    refine (unhide P3 _ p4).mono ?_
    rintro e z5 ⟨rfl, k5⟩
    have k5 := ext_callB (unhide K4) k5
    clear l2 p4 K4
    have K5 := hide k5
    clear k5
    go_wp2_with fail
    refine (unhide MC _).mono ?_
    rintro e z6 ⟨rfl, k6⟩
    have k6 := ext_callB (unhide K5) k6
    obtain ⟨_, _, zl, zb6⟩ := unhide HZ z6 k6
    have HF := hide zb6
    have l3 : z6.cell? ⟨w.heap.size, 3, none⟩ = some (.string pre) := zl.cell (j := 3) rfl
    have l4 : z6.cell? ⟨w.heap.size, 4, none⟩ = some (.string id) := zl.cell (j := 4) rfl
    clear k6 zl zb6 K5 MC P3
    have CM := unhide CM (by first | rfl | trivial)
    by_cases hl : pre.size ≤ id.size
    case neg =>
      have hm := mayP_long (id := id) (o := pre) (by omega)
      obtain rfl := (CM.2 hm)
      have q1 : decide ((pre.size : Int) ≤ (id.size : Int)) = false := decide_eq_false (by omega)
      have q2 : decide (pre.size ≤ id.size) = false := decide_eq_false hl
      have q5 : decide (id.size < pre.size) = true := decide_eq_true (by omega)
      have q6 : decide ((id.size : Int) < (pre.size : Int)) = true := decide_eq_true (by omega)
      have q7 : id.size < pre.size := by omega
      have q8 : (id.size : Int) < (pre.size : Int) := by omega
      clear hm hl CM
      go_upto_region 22 with fail
      go_quiet (fail)
      all_goals
        go_wp2
        go_ret
        exact ⟨ret_bool (by simp), below_drewN (unhide HF) _⟩
    case pos =>
      have q1 : decide ((pre.size : Int) ≤ (id.size : Int)) = true := decide_eq_true (by omega)
      have q2 : decide (pre.size ≤ id.size) = true := decide_eq_true hl
      have q5 : decide (id.size < pre.size) = false := decide_eq_false (by omega)
      have q6 : decide ((id.size : Int) < (pre.size : Int)) = false := decide_eq_false (by omega)
      have q7 : pre.size ≤ id.size := hl
      have q8 : (pre.size : Int) ≤ (id.size : Int) := by omega
      have sl := fun wx => slice_toQ id pre.size hl wx
      have hm := mayP_eq (id := id) (o := pre) hl
      generalize id.extract 0 pre.size = z at *
      by_cases hz : z = pre
      · obtain ⟨rfl, rfl⟩ := CM.1 (by rw [hm]; exact decide_eq_true hz)
        have q3 : (z.toList == pre.toList) = true := by rw [eq_bytes, decide_eq_true hz]
        have q4 : (chm.toList == chm.toList) = true := by simp
        clear hm hl CM hz
        go_upto_region 22 with fail
        go_quiet (fail)
        all_goals
          go_wp2
          go_ret
          exact ⟨ret_bool (by simp), below_drewN (unhide HF) _⟩
      · obtain rfl := CM.2 (by rw [hm]; exact decide_eq_false hz)
        have q3 : (z.toList == pre.toList) = false := by rw [eq_bytes, decide_eq_false hz]
        clear hm hl CM hz
        go_upto_region 22 with fail
        go_quiet (fail)
        all_goals
          go_wp2
          go_ret
          exact ⟨ret_bool (by simp), below_drewN (unhide HF) _⟩
end Go.Proofs.YtckkhpegimkefaaGreatDoor
