/- The program's end: Hear. -/
import Derived.Test.YthchicolifkpiaaDoorPArr
import Derived.BigQuiet
namespace Go.Proofs.YthchicolifkpiaaDoor
open Go.RowKit Go.Lib
set_option linter.unusedVariables false

theorem uB_size (s : ByteArray) : (uB s).size ≤ 32 := by
  unfold uB
  by_cases h : unfE s = 0
  · rw [if_pos h]
    unfold unfE at h
    split at h
    · cases h
    · split at h
      · cases h
      · split at h
        · cases h
        · exact (checkE_zero h).2.2.1
  · rw [if_neg h]
    exact Nat.zero_le _
theorem drewN_heap {w : World} {g : Nat} {o : Obj} (h : w.heap[g]? = some o) : ∀ n, (w.drewN n).heap[g]? = some o
  | 0 => h
  | n + 1 => drewN_heap (w := w) h n
def hitP (T : List ByteArray) (turn : Int) (s : ByteArray) : Bool := decide (T ≠ []) && decide (uN s ≠ turn)
def pT (T : List ByteArray) (k : Nat) (hit : Bool) : List ByteArray := if hit then arrT (T.headD ByteArray.empty) T.tail k else T
def pK (T : List ByteArray) (k : Nat) (hit : Bool) : Nat := if hit then arrK (T.headD ByteArray.empty) k else k
def hearQ (w : World) (b base : Nat) (T : List ByteArray) (arr turn pause aw : Int) (owed : Bool) (part : ByteArray) (lost : Bool) (got : List ByteArray) (tv pv gv : Value) (err : Int) (e : Ending) (w' : World) : Prop :=
  e = .returned (.int .i64 err) ∧ ∃ tv' pv' gv', PAt w' b base T arr turn pause aw owed part lost got tv' pv' gv' ∧ StepP b w w' tv pv gv tv' pv' gv'
/-- what is in the box -/
abbrev boxE (s : ByteArray) : Obj := .cells #[.int .i64 (uT s), .int .i64 (uN s), .bool (uM s), .bool (uH s), .string (uB s)] 59

set_option maxRecDepth 100000 in
set_option maxHeartbeats 4000000 in
theorem hear_bad (w : World) (b base : Nat) (T : List ByteArray) (arr turn pause aw : Int) (owed : Bool) (part : ByteArray) (lost : Bool) (got : List ByteArray) (tv pv gv : Value) (s : ByteArray)
    (hP : PAt w b base T arr turn pause aw owed part lost got tv pv gv) (ht : Tab w) (hz : s.size ≤ maxLen) (hf : unfE s ≠ 0) :
    Calls Tryd.prog 10 #[.pointer (some ⟨b, 0, none⟩), .string s] w (hearQ w b base T arr turn pause aw owed part lost got tv pv gv (unfE s)) := by
  have hw0 : 0 < w.heap.size := by have := hP.lt; omega
  have N1 := hide (unframe_all s w ht hw0 hz)
  have HP := hide hP
  have hf' : (unfE s != 0) = true := by simpa using hf
  generalize unfE s = f at *
  generalize uT s = t at *
  generalize uN s = n at *
  generalize uM s = m at *
  generalize uH s = h at *
  generalize uB s = bb at *
  clear hP ht hz hf
  go_enter Tryd.func10, Tryd.ntmps10
  go_wp2_with fail
  refine (unhide N1).mono ?_
  rintro e w1 ⟨rfl, hb1⟩
  go_wp2
  go_ret
  have hb2 := hb1.alloc hb1.size (.cells #[.int .i64 t, .int .i64 n, .bool m, .bool h, .string bb] 59)
  exact ⟨rfl, tv, pv, gv, (unhide HP).below hb2, StepP.of_below hb2⟩

set_option maxRecDepth 100000 in
set_option maxHeartbeats 4000000 in
theorem hear_good (w : World) (b base : Nat) (T : List ByteArray) (k : Nat) (turn pause aw : Int) (owed : Bool) (part : ByteArray) (lost : Bool) (got : List ByteArray) (tv pv gv : Value) (s : ByteArray)
    (hP : PAt w b base T ((32 * k : Nat) : Int) turn pause aw owed part lost got tv pv gv) (ht : Tab w) (hz : s.size ≤ maxLen) (hf : unfE s = 0) (hbase : base ≤ w.heap.size)
    (hT : ∀ x r, T = x :: r → x.size ≤ 4096 ∧ 32 * k ≤ x.size) (ht0 : 0 ≤ turn) (ht1 : turn ≤ 1) (ha0 : 0 ≤ aw) (ha1 : aw ≤ 1) (hp : part.size ≤ 4096) (hg : (got.length : Int) ≤ 1048576) :
    Calls Tryd.prog 10 #[.pointer (some ⟨b, 0, none⟩), .string s] w
      (hearQ w b base (pT T k (hitP T turn s)) ((32 * pK T k (hitP T turn s) : Nat) : Int) (if hitP T turn s then 1 - turn else turn) (if hitP T turn s then 0 else pause)
        (if uH s && decide (uT s = aw) then 1 - aw else aw) (owed || uH s) (if uH s && decide (uT s = aw) then accP part lost (uM s) (uB s) else part) (if uH s && decide (uT s = aw) then accL part lost (uM s) (uB s) else lost) (if uH s && decide (uT s = aw) then accG part lost (uM s) got (uB s) else got) tv pv gv 0) := by
  have hw0 : 0 < w.heap.size := by have := hP.lt; omega
  have N1 := hide (unframe_all s w ht hw0 hz)
  have hub := uB_size s
  have HP := hide hP
  rw [hf] at N1
  have HH := hide (show hitP T turn s = (decide (T ≠ []) && decide (uN s ≠ turn)) from rfl)
  generalize hitP T turn s = hit at *
  generalize uT s = t at *
  generalize uN s = n at *
  generalize uM s = m at *
  generalize uH s = h at *
  generalize uB s = bb at *
  obtain ⟨aP, hAP⟩ : ∃ x, x = accP part lost m bb := ⟨_, rfl⟩
  obtain ⟨aL, hAL⟩ : ∃ x, x = accL part lost m bb := ⟨_, rfl⟩
  obtain ⟨aG, hAG⟩ : ∃ x, x = accG part lost m got bb := ⟨_, rfl⟩
  have HACC := hide (show accP part lost m bb = aP ∧ accL part lost m bb = aL ∧ accG part lost m got bb = aG from ⟨hAP.symm, hAL.symm, hAG.symm⟩)
  rw [← hAP, ← hAL, ← hAG]
  obtain ⟨T1, hT1⟩ : ∃ x, x = pT T k hit := ⟨_, rfl⟩
  obtain ⟨k1, hK1⟩ : ∃ x, x = ((32 * pK T k hit : Nat) : Int) := ⟨_, rfl⟩
  rw [← hT1, ← hK1]
  have HT1 := hide hT1; have HK1 := hide hK1
  obtain ⟨tu1, htu1⟩ : ∃ x, x = if hit then 1 - turn else turn := ⟨_, rfl⟩
  obtain ⟨pa1, hpa1⟩ : ∃ x, x = if hit then 0 else pause := ⟨_, rfl⟩
  rw [← htu1, ← hpa1]
  have HTU := hide htu1; have HPA := hide hpa1
  obtain ⟨tk, htk⟩ : ∃ x, x = (h && decide (t = aw)) := ⟨_, rfl⟩
  rw [← htk]
  have HTK := hide htk
  obtain ⟨aw1, haw1⟩ : ∃ x, x = if tk then 1 - aw else aw := ⟨_, rfl⟩
  obtain ⟨ow1, how1⟩ : ∃ x, x = (owed || h) := ⟨_, rfl⟩
  obtain ⟨p1, hp1⟩ : ∃ x, x = if tk then aP else part := ⟨_, rfl⟩
  obtain ⟨l1, hl1⟩ : ∃ x, x = if tk then aL else lost := ⟨_, rfl⟩
  obtain ⟨g1, hg1⟩ : ∃ x, x = if tk then aG else got := ⟨_, rfl⟩
  rw [← haw1, ← how1, ← hp1, ← hl1, ← hg1]
  have HAW := hide haw1; have HOW := hide how1; have HPP := hide hp1; have HLL := hide hl1; have HGG := hide hg1
  clear hP ht hz hf hAP hAL hAG hT1 hK1 htu1 hpa1 htk haw1 how1 hp1 hl1 hg1
  go_enter Tryd.func10, Tryd.ntmps10
  go_wp2_with fail
  refine (unhide N1).mono ?_
  rintro e w1 ⟨rfl, hb1⟩
  obtain ⟨W1, hW1⟩ : ∃ W1, W1 = w1.alloc (.cells #[.int .i64 t, .int .i64 n, .bool m, .bool h, .string bb] 59) := ⟨_, rfl⟩
  have hB1 : Below w.heap.size w W1 := by rw [hW1]; exact hb1.alloc hb1.size _
  have hP1 := (unhide HP).below hB1
  have hX1 := heap_alloc_new w1 (.cells #[.int .i64 t, .int .i64 n, .bool m, .bool h, .string bb] 59)
  rw [← hW1] at hX1
  have hlw : w.heap.size ≤ w1.heap.size := hb1.size
  have HW1 := hide hW1
  have hblt : b < w1.heap.size := by have := (unhide HP).lt; omega
  clear hb1 hW1
  go_upto_if 13 with fail
  rw [← unhide HW1]
  obtain ⟨⟨c0, c1, c2, c3⟩, e0, e1, e2, e3⟩ := four_cells hP1.blk
  obtain ⟨⟨x0, x1, x2, x3, x4⟩, j0, j1, j2, j3, j4⟩ := five_cells hX1
  obtain ⟨ta, tc, rfl⟩ := own_slice hP1.ot
  have N2 := hide (fun wx (hx : EndAt wx b (.slice ta T.length tc) ((32 * k : Nat) : Int) turn pause aw owed pv lost gv) => isOut_any wx b ta T.length tc _ _ _ _ _ _ _ _ hx)
  have HP1 := hide hP1; have HX1 := hide hX1
  clear hP1 hX1
  go_upto_region 4 with fail
  go_cut [28] (fun c wx => c = .bool hit ∧ ∃ q, wx = W1.drewN q)
  case first =>
    by_cases hn : T.length = 0
    · have hh : hit = false := by rw [unhide HH, List.length_eq_zero_iff.1 hn]; rfl
      have hd : decide (0 < T.length) = false := by rw [hn]; rfl
      have HHH := hide hh
      rw [hd] at N2
      clear hh hn hd HH
      go_quiet ((go_at_call 26; exact Calls.quiet_of_same (unhide N2 _ ((unhide HP1).drewN _).blk)))
      go_wp2_with fail
      go_meet
      exact ⟨by rw [unhide HHH], _, rfl⟩
    · have hd : decide (0 < T.length) = true := by rw [decide_eq_true_iff]; omega
      have hne : T ≠ [] := fun e => hn (by rw [e]; rfl)
      rw [hd] at N2
      by_cases hx : n = turn
      · have hh : hit = false := by rw [unhide HH, decide_eq_true hne]; simp [hx]
        have hx2 : (n != turn) = false := by simp [hx]
        have HHH := hide hh
        clear hh hn hd HH hne hx
        go_quiet ((go_at_call 26; exact Calls.quiet_of_same (unhide N2 _ ((unhide HP1).drewN _).blk)))
        go_wp2_with fail
        go_meet
        exact ⟨by rw [unhide HHH], _, rfl⟩
      · have hh : hit = true := by rw [unhide HH, decide_eq_true hne]; simpa using hx
        have hx2 : (n != turn) = true := by simpa using hx
        have HHH := hide hh
        clear hh hn hd HH hne hx
        go_quiet ((go_at_call 26; exact Calls.quiet_of_same (unhide N2 _ ((unhide HP1).drewN _).blk)))
        go_wp2_with fail
        go_meet
        exact ⟨by rw [unhide HHH], _, rfl⟩
  case rest =>
  obtain ⟨rfl, q, hwc⟩ := hcut
  have hP2 := (unhide HP1).drewN q
  rw [← hwc] at hP2
  have hX2 : wc.heap[w1.heap.size]? = some (.cells #[.int .i64 t, .int .i64 n, .bool m, .bool h, .string bb] 59) := by
    rw [hwc]
    exact drewN_heap (unhide HX1) q
  have hS2 : StepP b w wc (.slice ta T.length tc) pv gv (.slice ta T.length tc) pv gv := StepP.of_below (by rw [hwc]; exact belowDrewN hB1 q)
  clear hwc c0 c1 c2 c3 e0 e1 e2 e3 x0 x1 x2 x3 x4 j0 j1 j2 j3 j4 HP1 HX1 N2
  obtain ⟨⟨c0, c1, c2, c3⟩, e0, e1, e2, e3⟩ := four_cells hP2.blk
  have HP2 := hide hP2; have HX2 := hide hX2; have HS2 := hide hS2
  have hbx : w1.heap.size ≠ b := by omega
  clear hP2 hX2 hS2
  go_upto_if 28 with fail
  go_cut [] (fun wx => ∃ tv', PAt wx b base T1 k1 tu1 pa1 aw owed part lost got tv' pv gv ∧ StepP b w wx (.slice ta T.length tc) pv gv tv' pv gv ∧ wx.heap[w1.heap.size]? = some (.cells #[.int .i64 t, .int .i64 n, .bool m, .bool h, .string bb] 59))
  case first =>
    cases hit with
    | false =>
      have q1 := unhide HT1; have q2 := unhide HK1; have q3 := unhide HTU; have q4 := unhide HPA
      have HQ := hide (show T1 = T ∧ k1 = ((32 * k : Nat) : Int) ∧ tu1 = turn ∧ pa1 = pause from ⟨q1, q2, q3, q4⟩)
      clear q1 q2 q3 q4
      go_wp2_with fail
      go_meet
      obtain ⟨q1, q2, q3, q4⟩ := unhide HQ
      refine ⟨_, ?_, unhide HS2, unhide HX2⟩
      rw [q1, q2, q3, q4]
      exact unhide HP2
    | true =>
      have hne : T ≠ [] := fun e => by
        have := unhide HH
        rw [e] at this
        simp at this
      obtain ⟨x, r, hT2⟩ : ∃ x r, T = x :: r := List.exists_cons_of_ne_nil hne
      obtain ⟨hz1, hz2⟩ := hT x r hT2
      subst hT2
      have HQ := hide (show T1 = arrT x r k ∧ k1 = ((32 * arrK x k : Nat) : Int) ∧ tu1 = 1 - turn ∧ pa1 = 0 from ⟨unhide HT1, unhide HK1, unhide HTU, unhide HPA⟩)
      have N3 := hide (arrive_any wc b base x r k turn pause aw owed part lost got _ pv gv (unhide HP2) hz1 hz2 ht0 ht1)
      clear HT1 HK1 HTU HPA hne HH hT
      go_wp2_with fail
      refine (unhide N3).mono ?_
      rintro e w3 ⟨rfl, tv', hP3, hK3, hN3⟩
      have hX3 : w3.heap[w1.heap.size]? = _ := (hK3.block w1.heap.size (by
        have := World.block_lt_of_cell? wc ⟨w1.heap.size, 0, none⟩ (five_cells (unhide HX2)).1.1
        exact this) (fun hx => by
          have hq := ((unhide HS2).new w1.heap.size hx)
          rcases hq with hq | hq
          · have := ((unhide HP).ge w1.heap.size hq).2
            omega
          · rcases hx with hx | hx | hx | hx
            · exact hbx hx
            · have := ((unhide HP).ot.lt _ hx).2; omega
            · have := ((unhide HP).op.lt _ hx).2; omega
            · have := ((unhide HP).og.lt _ hx).2; omega)).trans (unhide HX2)
      have HQ3 := hide hP3; have HQ4 := hide (show StepP b wc w3 (.slice ta (r.length + 1) tc) pv gv tv' pv gv from ⟨hK3, hN3⟩); have HQ5 := hide hX3
      clear hP3 hK3 hN3 hX3
      go_wp2_with fail
      go_meet
      obtain ⟨q1, q2, q3, q4⟩ := unhide HQ
      refine ⟨tv', ?_, (unhide HS2).trans (unhide HQ4), unhide HQ5⟩
      rw [q1, q2, q3, q4]
      exact unhide HQ3
  case rest =>
  obtain ⟨tv', hP3, hS3, hX3⟩ := hcut
  clear c0 c1 c2 c3 e0 e1 e2 e3 HP2 HX2 HS2
  obtain ⟨⟨c4, c5, c6, c7, c8⟩, e4, e5, e6, e7, e8⟩ := nine_cells hP3.blk
  obtain ⟨⟨x0, x1, x2, x3, x4⟩, j0, j1, j2, j3, j4⟩ := five_cells hX3
  have HP3 := hide hP3; have HS3 := hide hS3
  have hlx : w1.heap.size < wc.heap.size := World.block_lt_of_cell? wc ⟨w1.heap.size, 0, none⟩ x0
  clear hT HH HT1 HK1 HTU HPA hP3 hS3
  cases h with
  | false =>
    have q0 := unhide HTK
    rw [Bool.false_and] at q0
    subst q0
    have HQ := hide (show aw1 = aw ∧ ow1 = owed ∧ p1 = part ∧ l1 = lost ∧ g1 = got from ⟨unhide HAW, (unhide HOW).trans (Bool.or_false _), unhide HPP, unhide HLL, unhide HGG⟩)
    clear HAW HOW HPP HLL HGG HTK
    go_wp2
    go_ret
    obtain ⟨q1, q2, q3, q4, q5⟩ := unhide HQ
    refine ⟨rfl, tv', pv, gv, ?_, unhide HS3⟩
    rw [q1, q2, q3, q4, q5]
    exact unhide HP3
  | true =>
    obtain ⟨W4, hW4⟩ : ∃ W4, W4 = wc.setCell ⟨b, 5, none⟩ (.bool true) := ⟨_, rfl⟩
    have hP4 : PAt W4 b base T1 k1 tu1 pa1 aw true part lost got tv' pv gv := by rw [hW4]; exact (unhide HP3).put ((set_row (unhide HP3).blk).trans rfl)
    have hX4 : W4.heap[w1.heap.size]? = some (.cells #[.int .i64 t, .int .i64 n, .bool m, .bool true, .string bb] 59) := by rw [hW4, set_other hbx]; exact hX3
    have hS4 : StepP b wc W4 tv' pv gv tv' pv gv := ⟨by rw [hW4]; exact (KeepP.refl _ _).set b 5 _ (.inl rfl), inp_refl⟩
    have hS5 := (unhide HS3).trans hS4
    have HW4 := hide hW4
    clear hX3 hW4
    go_upto_region 8 with fail
    rw [← unhide HW4]
    clear c4 c5 c6 c7 c8 e4 e5 e6 e7 e8 x0 x1 x2 x3 x4 j0 j1 j2 j3 j4
    obtain ⟨⟨c4, c5, c6, c7, c8⟩, e4, e5, e6, e7, e8⟩ := nine_cells hP4.blk
    obtain ⟨⟨x0, x1, x2, x3, x4⟩, j0, j1, j2, j3, j4⟩ := five_cells hX4
    have HP4 := hide hP4; have HS5 := hide hS5; have HX4 := hide hX4
    have HOW2 := hide (show ow1 = true from (unhide HOW).trans (Bool.or_true _))
    clear hP4 hS4 hS5 hX4 HOW
    by_cases hta : t = aw
    case neg =>
      have hta2 : (t == aw) = false := by simpa using hta
      have q0 := unhide HTK
      rw [Bool.true_and, decide_eq_false hta] at q0
      subst q0
      have HQ := hide (show aw1 = aw ∧ p1 = part ∧ l1 = lost ∧ g1 = got from ⟨unhide HAW, unhide HPP, unhide HLL, unhide HGG⟩)
      clear HAW HPP HLL HGG HTK hta
      go_quiet (fail)
      go_wp2
      go_ret
      obtain ⟨q1, q3, q4, q5⟩ := unhide HQ
      rename Nat => nq
      refine ⟨rfl, tv', pv, gv, ?_, ⟨(unhide HS5).keep.drewN nq, (unhide HS5).new⟩⟩
      rw [q1, unhide HOW2, q3, q4, q5]
      exact (unhide HP4).drewN nq
    case pos =>
      have hta2 : (t == aw) = true := by simpa using hta
      have q0 := unhide HTK
      rw [Bool.true_and, decide_eq_true hta] at q0
      subst q0
      have HQ := hide (show aw1 = 1 - aw ∧ p1 = aP ∧ l1 = aL ∧ g1 = aG from ⟨unhide HAW, unhide HPP, unhide HLL, unhide HGG⟩)
      have N4 := hide (fun (w5 : World) (h5 : PAt w5 b base T1 k1 tu1 pa1 aw true part lost got tv' pv gv) (hb5 : base ≤ w5.heap.size) => accept_any w5 b base T1 k1 tu1 pa1 aw true part lost got tv' pv gv t n m true bb h5 hb5 ha0 ha1 hp (by omega) hg)
      rw [(unhide HACC).1, (unhide HACC).2.1, (unhide HACC).2.2] at N4
      have HBS := hide (show base ≤ W4.heap.size by have := (unhide HP4).lt; have := (unhide HP4).lo; omega)
      clear HAW HPP HLL HGG HTK hta
      go_quiet (fail)
      rename Nat => nq
      go_wp2_with fail
      obtain ⟨W6, hW6⟩ : ∃ W6, W6 = W4.drewN nq := ⟨_, rfl⟩
      have hP6 := (unhide HP4).drewN nq
      have hX6 := drewN_heap (unhide HX4) nq
      have hS6 : StepP b w (W4.drewN nq) (.slice ta T.length tc) pv gv tv' pv gv := ⟨(unhide HS5).keep.drewN nq, (unhide HS5).new⟩
      rw [← hW6] at hP6 hX6 hS6 ⊢
      clear c4 c5 c6 c7 c8 e4 e5 e6 e7 e8 x0 x1 x2 x3 x4 j0 j1 j2 j3 j4 hW6 HW4
      obtain ⟨⟨x0, x1, x2, x3, x4⟩, j0, j1, j2, j3, j4⟩ := five_cells hX6
      have HP6 := hide hP6; have HS6 := hide hS6
      clear hP6 hX6 hS6 HP4 HX4 HS5
      go_region_with ((go_at_call 28; refine (unhide N4 _ ?_ ?_).mono ?_; (focus (first | exact unhide HP6 | exact (unhide HP6).drew)); (focus (have := (unhide HP6).lt; have := (unhide HP6).lo; first | omega | (simp; omega))); rintro e w7 ⟨rfl, pv', gv', hP7, hK7, hN7⟩))
      all_goals
        have HP7 := hide hP7
        have HS7 : Hid (StepP b W6 w7 tv' pv gv tv' pv' gv') := hide ⟨(by first | exact hK7 | exact ⟨hK7.os, hK7.tape, hK7.output, hK7.size, hK7.block⟩), hN7⟩
        clear hP7 hK7 hN7
        go_wp2
        go_ret
        obtain ⟨q1, q3, q4, q5⟩ := unhide HQ
        refine ⟨rfl, tv', pv', gv', ?_, (unhide HS6).trans (unhide HS7)⟩
        rw [q1, unhide HOW2, q3, q4, q5]
        exact unhide HP7
end Go.Proofs.YthchicolifkpiaaDoor
