/- clear: Answer, Insist, Judge. -/
import Derived.Test.YtdameincehiieaaClrK
import Derived.Deep.RegionWith
namespace Go.Proofs.Ytdameincehiieaa
open Go.RowKit Go.WideMaps Go.Maps
set_option linter.unusedVariables false
set_option maxRecDepth 100000

variable {w w' : World} {F : Nat → Prop} {b m1 m2 n k : Nat} {S : Clr} {qs : List Nat}
set_option maxHeartbeats 2000000 in
theorem answer_any (h : CIn w F b S m1 m2 n k qs) (hok : okS S) (shop trace day : Int) (h1 : InR shop) (h2 : InR trace) :
    Calls Try.prog 11 #[.pointer (some ⟨b, 0, none⟩), .int .i64 shop, .int .i64 trace, .int .i64 day] w (cPost w F b (doS S shop trace ⟨2, day, 0⟩)) := by
  by_cases he : findS S shop trace 2 day = 0
  · obtain ⟨i, q, x, hi, hq, hx, hst, hd, hP, hc⟩ := findC_ok h hok shop trace 2 day h1 h2 he
    have hres := doS_ok S shop trace ⟨2, day, 0⟩ hi hx hd hst
    obtain ⟨_, hcst⟩ := on_same hst (by decide)
    have hqm := List.mem_of_getElem? hq
    have hqb := (h.nq q hqm).1
    have hmq := Ne.symm (h.nq q hqm).2.2
    have N1 := hide hc
    unfold twoV at N1
    rw [hres, if_neg (fun hh => absurd hh.1 (by show ¬ (2 : Int) = 1; decide))]
    obtain ⟨o1, o2, o3⟩ := hok.each x (List.mem_of_getElem? hx)
    have hpb := of_decide_eq_false o2
    have hfee := of_decide_eq_false hok.D
    obtain ⟨_, _, _, q1, q2, q3, q4, _⟩ := o1
    obtain ⟨r1, r2, r3, r4, r5⟩ := pay_room hok (List.mem_of_getElem? hx) (x.c.disp) (by omega)
    have HK := hide (kLess h hok)
    have HF0 := hide hok.ow0
    have HR := hide (And.intro r1 (And.intro r2 (And.intro r3 (And.intro r4 r5))))
    have HKK : Hid (1000000000000 * ((k : Int) + 1) ≤ sumB S.L - budget x.c.st + budget 3) := hide (by
      rw [hcst]; have := h.kk; show _ ≤ sumB S.L - 2000000000000 + 3000000000000; omega)
    have HX := hide hx; have HH := hide h; have HQ := hide hq; have HB := hide hqb; have HM := hide hmq
    clear hc h hP hres hx hd hst hok he hi hcst hq r1 r2 r3 r4 r5 o2 o3 hpb hqb hmq hfee q1 q2 q3 q4
    go_enter Try.func11, Try.ntmps11
    go_wp2_with fail
    refine (unhide N1).mono ?_
    rintro e w1 ⟨rfl, hI, hC⟩
    have hP1 := hI.pays i q x (unhide HQ) (unhide HX)
    have N3 := hide (turn_any b q m1 m2 S.D day 3 x.p x.c w1 hI.blk hP1 (unhide HB))
    have HI := hide hI; have HC := hide hC
    clear hI hC hP1
    go_wp2_with fail
    refine (unhide N3).mono ?_
    rintro e w3 ⟨rfl, hP3, hT3⟩
    obtain ⟨_, _, _, _, _, d5, _⟩ := hP3.cells
    have hB4 := (unhide HI).blk.of_block (hT3.2.1 b (unhide HI).blk.lt (Ne.symm (unhide HB)))
    obtain ⟨_, _, _, b3, _, _, _⟩ := hB4.cells
    have hM4 := (unhide HI).pm.tnd hT3 (unhide HM)
    obtain ⟨r1, r2, r3, r4, r5⟩ := unhide HR
    have N4 := hide (fun j => payA_any b q m1 m2 k S.D day (x.c.disp) x.p _ S.ow (w3.drewN j) (hB4.of_block rfl) (hP3.of_block rfl) (hM4.of_block rfl) (unhide HK) (unhide HB) (unhide HM) r1 r2 r3 r4 r5 (unhide HF0))
    have HT3 := hide hT3
    clear hP3 hT3 hB4 hM4 r1 r2 r3 r4 r5
    go_wp2_with fail
    refine (unhide N4 0).mono ?_
    rintro e w5 ⟨rfl, hP5, ⟨k', hk', hM5⟩, hC5⟩
    have HP5 := hide hP5; have HM5 := hide hM5; have HC5 := hide hC5
    clear hP5 hM5 hC5
    go_wp2
    go_ret
    have hCC : Chg (fun j => j = q ∨ j = m2) w1 w5 := ((Chg.of_tnd (unhide HT3)).mono (fun j hj => .inl hj)).trans ((Chg.refl _ w3).drewN _ |>.trans (unhide HC5) (fun j hj => .inl hj)) (fun j hj => .inl hj)
    have hpd : (deed1 S.D x.c ⟨2, day, 0⟩).paid - x.c.paid = x.c.disp := by show x.c.paid + x.c.disp - x.c.paid = _; omega
    refine ⟨rfl, F, ⟨m1, m2, n, k', qs, ?_⟩, (unhide HH).chg_paid (unhide HQ) (unhide HC) hCC, fun x hx => .inl hx⟩
    rw [hpd]
    have hkk := unhide HKK
    exact (unhide HI).paid (unhide HQ) (unhide HX) hCC (by first | exact unhide HP5 | (rw [show x.c.paid + (x.c.disp) = x.c.paid + x.c.disp by omega] at HP5; exact unhide HP5)) (unhide HM5) (by
      show _ ≤ sumB S.L - budget x.c.st + budget 3
      omega)
  · have hres := doS_err S shop trace ⟨2, day, 0⟩ he
    rw [hres]
    have hne : (findS S shop trace 2 day != 0) = true := by simpa using he
    show Calls _ _ _ w (cPost w F b (findS S shop trace 2 day, toldS S day))
    have N1 := hide (findC_err h hok shop trace 2 day h1 h2 he)
    unfold twoV at N1
    generalize findS S shop trace 2 day = er at *
    clear h hok hres he
    go_enter Try.func11, Try.ntmps11
    go_wp2_with fail
    refine (unhide N1).mono ?_
    rintro e w1 ⟨rfl, hI, hC⟩
    have HI := hide hI; have HC := hide hC
    clear hI hC
    go_wp2
    go_ret
    exact ⟨rfl, F, ⟨_, _, _, _, _, unhide HI⟩, unhide HC, fun x hx => .inl hx⟩
set_option maxHeartbeats 2000000 in
theorem insist_any (h : CIn w F b S m1 m2 n k qs) (hok : okS S) (shop trace day : Int) (h1 : InR shop) (h2 : InR trace) :
    Calls Try.prog 12 #[.pointer (some ⟨b, 0, none⟩), .int .i64 shop, .int .i64 trace, .int .i64 day] w (cPost w F b (doS S shop trace ⟨3, day, 0⟩)) := by
  by_cases he : findS S shop trace 3 day = 0
  · obtain ⟨i, q, x, hi, hq, hx, hst, hd, hP, hc⟩ := findC_ok h hok shop trace 3 day h1 h2 he
    have hres := doS_ok S shop trace ⟨3, day, 0⟩ hi hx hd hst
    obtain ⟨_, hcst⟩ := on_same hst (by decide)
    have hqm := List.mem_of_getElem? hq
    have hqb := (h.nq q hqm).1
    have hmq := Ne.symm (h.nq q hqm).2.2
    have N1 := hide hc
    unfold twoV at N1
    rw [hres, if_neg (fun hh => absurd hh.1 (by show ¬ (3 : Int) = 1; decide))]
    obtain ⟨o1, o2, o3⟩ := hok.each x (List.mem_of_getElem? hx)
    have hpb := of_decide_eq_false o2
    have hfee := of_decide_eq_false hok.D
    obtain ⟨_, _, _, q1, q2, q3, q4, _⟩ := o1
    have HX := hide hx; have HH := hide h; have HQ := hide hq; have HB := hide hqb; have HM := hide hmq
    have HKK : Hid (1000000000000 * (k : Int) ≤ sumB S.L - budget x.c.st + budget 4) := hide (by
      rw [hcst]; have := h.kk; show _ ≤ sumB S.L - 3000000000000 + 3000000000000; omega)
    clear hc h hP hres hx hd hst hok he hi hcst hq o2 o3 hpb hqb hmq hfee q1 q2 q3 q4
    go_enter Try.func12, Try.ntmps12
    go_wp2_with fail
    refine (unhide N1).mono ?_
    rintro e w1 ⟨rfl, hI, hC⟩
    have hP1 := hI.pays i q x (unhide HQ) (unhide HX)
    have N3 := hide (turn_any b q m1 m2 S.D day 4 x.p x.c w1 hI.blk hP1 (unhide HB))
    have HI := hide hI; have HC := hide hC
    clear hI hC hP1
    go_wp2_with fail
    refine (unhide N3).mono ?_
    rintro e w3 ⟨rfl, hP3, hT3⟩
    have HP3 := hide hP3; have HT3 := hide hT3
    clear hP3 hT3
    go_wp2
    go_ret
    have hCC : Chg (fun j => j = q ∨ j = m2) w1 w3 := (Chg.of_tnd (unhide HT3)).mono (fun j hj => .inl hj)
    have hpd : (deed1 S.D x.c ⟨3, day, 0⟩).paid - x.c.paid = 0 := by show x.c.paid - x.c.paid = _; omega
    refine ⟨rfl, F, ⟨m1, m2, n, k, qs, ?_⟩, (unhide HH).chg_paid (unhide HQ) (unhide HC) hCC, fun x hx => .inl hx⟩
    rw [hpd, owU_zero]
    exact (unhide HI).paid (unhide HQ) (unhide HX) hCC (unhide HP3) ((unhide HI).pm.tnd (unhide HT3) (unhide HM)) (unhide HKK)
  · have hres := doS_err S shop trace ⟨3, day, 0⟩ he
    rw [hres]
    have hne : (findS S shop trace 3 day != 0) = true := by simpa using he
    show Calls _ _ _ w (cPost w F b (findS S shop trace 3 day, toldS S day))
    have N1 := hide (findC_err h hok shop trace 3 day h1 h2 he)
    unfold twoV at N1
    generalize findS S shop trace 3 day = er at *
    clear h hok hres he
    go_enter Try.func12, Try.ntmps12
    go_wp2_with fail
    refine (unhide N1).mono ?_
    rintro e w1 ⟨rfl, hI, hC⟩
    have HI := hide hI; have HC := hide hC
    clear hI hC
    go_wp2
    go_ret
    exact ⟨rfl, F, ⟨_, _, _, _, _, unhide HI⟩, unhide HC, fun x hx => .inl hx⟩
set_option maxHeartbeats 2000000 in
theorem judge_shop (h : CIn w F b S m1 m2 n k qs) (hok : okS S) (shop trace day : Int) (h1 : InR shop) (h2 : InR trace) :
    Calls Try.prog 13 #[.pointer (some ⟨b, 0, none⟩), .int .i64 shop, .int .i64 trace, .bool true, .int .i64 day] w (cPost w F b (doS S shop trace ⟨4, day, 0⟩)) := by
  by_cases he : findS S shop trace 4 day = 0
  · obtain ⟨i, q, x, hi, hq, hx, hst, hd, hP, hc⟩ := findC_ok h hok shop trace 4 day h1 h2 he
    have hres := doS_ok S shop trace ⟨4, day, 0⟩ hi hx hd hst
    obtain ⟨_, hcst⟩ := on_same hst (by decide)
    have hqm := List.mem_of_getElem? hq
    have hqb := (h.nq q hqm).1
    have hmq := Ne.symm (h.nq q hqm).2.2
    have N1 := hide hc
    unfold twoV at N1
    rw [hres, if_neg (fun hh => absurd hh.1 (by show ¬ (4 : Int) = 1; decide))]
    obtain ⟨o1, o2, o3⟩ := hok.each x (List.mem_of_getElem? hx)
    have hpb := of_decide_eq_false o2
    have hfee := of_decide_eq_false hok.D
    obtain ⟨_, _, _, q1, q2, q3, q4, _⟩ := o1
    obtain ⟨r1, r2, r3, r4, r5⟩ := pay_room hok (List.mem_of_getElem? hx) (S.D.fee) (by omega)
    have HK := hide (kLess h hok)
    have HF0 := hide hok.ow0
    have HR := hide (And.intro r1 (And.intro r2 (And.intro r3 (And.intro r4 r5))))
    have HKK : Hid (1000000000000 * ((k : Int) + 1) ≤ sumB S.L - budget x.c.st + budget 6) := hide (by
      rw [hcst]; have := h.kk; show _ ≤ sumB S.L - 3000000000000 + 5000000000000; omega)
    have HX := hide hx; have HH := hide h; have HQ := hide hq; have HB := hide hqb; have HM := hide hmq
    clear hc h hP hres hx hd hst hok he hi hcst hq r1 r2 r3 r4 r5 o2 o3 hpb hqb hmq hfee q1 q2 q3 q4
    go_enter Try.func13, Try.ntmps13
    go_wp2_with fail
    refine (unhide N1).mono ?_
    rintro e w1 ⟨rfl, hI, hC⟩
    have hP1 := hI.pays i q x (unhide HQ) (unhide HX)
    have N3 := hide (turn_any b q m1 m2 S.D day 6 x.p x.c w1 hI.blk hP1 (unhide HB))
    have HI := hide hI; have HC := hide hC
    clear hI hC hP1
    go_wp2_with fail
    refine (unhide N3).mono ?_
    rintro e w3 ⟨rfl, hP3, hT3⟩
    obtain ⟨_, _, _, _, _, d5, _⟩ := hP3.cells
    have hB4 := (unhide HI).blk.of_block (hT3.2.1 b (unhide HI).blk.lt (Ne.symm (unhide HB)))
    obtain ⟨_, _, _, b3, _, _, _⟩ := hB4.cells
    have hM4 := (unhide HI).pm.tnd hT3 (unhide HM)
    obtain ⟨r1, r2, r3, r4, r5⟩ := unhide HR
    have N4 := hide (fun j => payA_any b q m1 m2 k S.D day (S.D.fee) x.p _ S.ow (w3.drewN j) (hB4.of_block rfl) (hP3.of_block rfl) (hM4.of_block rfl) (unhide HK) (unhide HB) (unhide HM) r1 r2 r3 r4 r5 (unhide HF0))
    have HT3 := hide hT3
    clear hP3 hT3 hB4 hM4 r1 r2 r3 r4 r5
    go_wp2_with fail
    refine (unhide N4 0).mono ?_
    rintro e w5 ⟨rfl, hP5, ⟨k', hk', hM5⟩, hC5⟩
    have HP5 := hide hP5; have HM5 := hide hM5; have HC5 := hide hC5
    clear hP5 hM5 hC5
    go_wp2
    go_ret
    have hCC : Chg (fun j => j = q ∨ j = m2) w1 w5 := ((Chg.of_tnd (unhide HT3)).mono (fun j hj => .inl hj)).trans ((Chg.refl _ w3).drewN _ |>.trans (unhide HC5) (fun j hj => .inl hj)) (fun j hj => .inl hj)
    have hpd : (deed1 S.D x.c ⟨4, day, 0⟩).paid - x.c.paid = S.D.fee := by show x.c.paid + S.D.fee - x.c.paid = _; omega
    refine ⟨rfl, F, ⟨m1, m2, n, k', qs, ?_⟩, (unhide HH).chg_paid (unhide HQ) (unhide HC) hCC, fun x hx => .inl hx⟩
    rw [hpd]
    have hkk := unhide HKK
    exact (unhide HI).paid (unhide HQ) (unhide HX) hCC (by first | exact unhide HP5 | (rw [show x.c.paid + (S.D.fee) = x.c.paid + S.D.fee by omega] at HP5; exact unhide HP5)) (unhide HM5) (by
      show _ ≤ sumB S.L - budget x.c.st + budget 6
      omega)
  · have hres := doS_err S shop trace ⟨4, day, 0⟩ he
    rw [hres]
    have hne : (findS S shop trace 4 day != 0) = true := by simpa using he
    show Calls _ _ _ w (cPost w F b (findS S shop trace 4 day, toldS S day))
    have N1 := hide (findC_err h hok shop trace 4 day h1 h2 he)
    unfold twoV at N1
    generalize findS S shop trace 4 day = er at *
    clear h hok hres he
    go_enter Try.func13, Try.ntmps13
    go_wp2_with fail
    refine (unhide N1).mono ?_
    rintro e w1 ⟨rfl, hI, hC⟩
    have HI := hide hI; have HC := hide hC
    clear hI hC
    go_wp2
    go_ret
    exact ⟨rfl, F, ⟨_, _, _, _, _, unhide HI⟩, unhide HC, fun x hx => .inl hx⟩
set_option maxHeartbeats 2000000 in
theorem judge_card (h : CIn w F b S m1 m2 n k qs) (hok : okS S) (shop trace day : Int) (h1 : InR shop) (h2 : InR trace) :
    Calls Try.prog 13 #[.pointer (some ⟨b, 0, none⟩), .int .i64 shop, .int .i64 trace, .bool false, .int .i64 day] w (cPost w F b (doS S shop trace ⟨5, day, 0⟩)) := by
  by_cases he : findS S shop trace 4 day = 0
  · obtain ⟨i, q, x, hi, hq, hx, hst, hd, hP, hc⟩ := findC_ok h hok shop trace 4 day h1 h2 he
    have hres := doS_ok S shop trace ⟨5, day, 0⟩ hi hx hd hst
    obtain ⟨_, hcst⟩ := on_same hst (by decide)
    have hqm := List.mem_of_getElem? hq
    have hqb := (h.nq q hqm).1
    have hmq := Ne.symm (h.nq q hqm).2.2
    have N1 := hide hc
    unfold twoV at N1
    rw [hres, if_neg (fun hh => absurd hh.1 (by show ¬ (5 : Int) = 1; decide))]
    obtain ⟨o1, o2, o3⟩ := hok.each x (List.mem_of_getElem? hx)
    have hpb := of_decide_eq_false o2
    have hfee := of_decide_eq_false hok.D
    obtain ⟨_, _, _, q1, q2, q3, q4, _⟩ := o1
    obtain ⟨r1, r2, r3, r4, r5⟩ := pay_room hok (List.mem_of_getElem? hx) (-x.c.disp - S.D.fee) (by omega)
    have HK := hide (kLess h hok)
    have HF0 := hide hok.ow0
    have HR := hide (And.intro r1 (And.intro r2 (And.intro r3 (And.intro r4 r5))))
    have HKK : Hid (1000000000000 * ((k : Int) + 1) ≤ sumB S.L - budget x.c.st + budget 6) := hide (by
      rw [hcst]; have := h.kk; show _ ≤ sumB S.L - 3000000000000 + 5000000000000; omega)
    have u1 : IntKind.i64.wrap (-x.c.disp) = -x.c.disp := by rw [IntKind.wrap_i64]; omega
    have u2 : IntKind.i64.wrap (-x.c.disp - S.D.fee) = -x.c.disp - S.D.fee := by rw [IntKind.wrap_i64]; omega
    have HX := hide hx; have HH := hide h; have HQ := hide hq; have HB := hide hqb; have HM := hide hmq
    clear hc h hP hres hx hd hst hok he hi hcst hq r1 r2 r3 r4 r5 o2 o3 hpb hqb hmq hfee q1 q2 q3 q4
    go_enter Try.func13, Try.ntmps13
    go_wp2_with fail
    refine (unhide N1).mono ?_
    rintro e w1 ⟨rfl, hI, hC⟩
    have hP1 := hI.pays i q x (unhide HQ) (unhide HX)
    have N3 := hide (turn_any b q m1 m2 S.D day 6 x.p x.c w1 hI.blk hP1 (unhide HB))
    have HI := hide hI; have HC := hide hC
    clear hI hC hP1
    go_wp2_with fail
    refine (unhide N3).mono ?_
    rintro e w3 ⟨rfl, hP3, hT3⟩
    obtain ⟨_, _, _, _, _, d5, _⟩ := hP3.cells
    have hB4 := (unhide HI).blk.of_block (hT3.2.1 b (unhide HI).blk.lt (Ne.symm (unhide HB)))
    obtain ⟨_, _, _, b3, _, _, _⟩ := hB4.cells
    have hM4 := (unhide HI).pm.tnd hT3 (unhide HM)
    obtain ⟨r1, r2, r3, r4, r5⟩ := unhide HR
    have N4 := hide (fun j => payA_any b q m1 m2 k S.D day (-x.c.disp - S.D.fee) x.p _ S.ow (w3.drewN j) (hB4.of_block rfl) (hP3.of_block rfl) (hM4.of_block rfl) (unhide HK) (unhide HB) (unhide HM) r1 r2 r3 r4 r5 (unhide HF0))
    have HT3 := hide hT3
    clear hP3 hT3 hB4 hM4 r1 r2 r3 r4 r5
    go_wp2_with fail
    go_region_with (go_at_call 25; refine (unhide N4 1).mono ?_; rintro e w5 ⟨rfl, hP5, ⟨k', hk', hM5⟩, hC5⟩; have HP5 := hide hP5; have HM5 := hide hM5; have HC5 := hide hC5; clear hP5 hM5 hC5)
    all_goals
      go_wp2
      go_ret
      have hCC : Chg (fun j => j = q ∨ j = m2) w1 w5 := ((Chg.of_tnd (unhide HT3)).mono (fun j hj => .inl hj)).trans ((Chg.refl _ w3).drewN _ |>.trans (unhide HC5) (fun j hj => .inl hj)) (fun j hj => .inl hj)
      have hpd : (deed1 S.D x.c ⟨5, day, 0⟩).paid - x.c.paid = -x.c.disp - S.D.fee := by show x.c.paid - x.c.disp - S.D.fee - x.c.paid = _; omega
      refine ⟨rfl, F, ⟨m1, m2, n, k', qs, ?_⟩, (unhide HH).chg_paid (unhide HQ) (unhide HC) hCC, fun x hx => .inl hx⟩
      rw [hpd]
      have hkk := unhide HKK
      exact (unhide HI).paid (unhide HQ) (unhide HX) hCC (by first | exact unhide HP5 | (rw [show x.c.paid + (-x.c.disp - S.D.fee) = x.c.paid - x.c.disp - S.D.fee by omega] at HP5; exact unhide HP5)) (unhide HM5) (by
        show _ ≤ sumB S.L - budget x.c.st + budget 6
        omega)
  · have hres := doS_err S shop trace ⟨5, day, 0⟩ he
    rw [hres]
    have hne : (findS S shop trace 4 day != 0) = true := by simpa using he
    show Calls _ _ _ w (cPost w F b (findS S shop trace 4 day, toldS S day))
    have N1 := hide (findC_err h hok shop trace 4 day h1 h2 he)
    unfold twoV at N1
    generalize findS S shop trace 4 day = er at *
    clear h hok hres he
    go_enter Try.func13, Try.ntmps13
    go_wp2_with fail
    refine (unhide N1).mono ?_
    rintro e w1 ⟨rfl, hI, hC⟩
    have HI := hide hI; have HC := hide hC
    clear hI hC
    go_wp2
    go_ret
    exact ⟨rfl, F, ⟨_, _, _, _, _, unhide HI⟩, unhide HC, fun x hx => .inl hx⟩
end Go.Proofs.Ytdameincehiieaa
