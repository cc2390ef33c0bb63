/- clear: Dispute, Answer, Insist, Judge. -/
import Derived.Test.YtdameincehiieaaClrJ
namespace Go.Proofs.Ytdameincehiieaa
open Go.RowKit Go.WideMaps Go.Maps
set_option linter.unusedVariables false
set_option maxRecDepth 100000

variable {w w' : World} {F : Nat → Prop} {b m1 m2 n k : Nat} {S : Clr} {qs : List Nat}
theorem doS_ok (S : Clr) (shop trace : Int) (d : Ded) {i : Nat} {x : Kse} (hi : idxK S.L shop trace = some i) (hx : S.L[i]? = some x) (hd : dayE S.last d.day = 0) (hst : (onC S.D x.c d.day).st = needS d.what) :
    doS S shop trace d = if d.what = 1 ∧ (d.amt < 1 ∨ x.p.amt < d.amt) then (3, { S with last := d.day }) else (0, { S with last := d.day, L := S.L.set i ⟨x.p, x.ds ++ [d], deed1 S.D x.c d⟩, ow := owU S.ow x.p ((deed1 S.D x.c d).paid - x.c.paid) }) := by
  have hgd : S.L.getD i default = x := by rw [List.getD_eq_getElem?_getD, hx]; rfl
  unfold doS
  rw [if_neg (by simpa using hd), hi]
  dsimp only
  rw [hgd, if_neg (by simpa using hst)]
theorem CIn.chg_paid (h : CIn w F b S m1 m2 n k qs) {i q : Nat} (hq : qs[i]? = some q) {w1 w2 : World} (h1 : Chg F w w1) (h2 : Chg (fun j => j = q ∨ j = m2) w1 w2) : Chg F w w2 :=
  h1.trans h2 (fun x hx => by rcases hx with rfl | rfl; exact .inl (h.fq _ (List.mem_of_getElem? hq)); exact .inl h.f2)
/-- what pay asks for -/
theorem pay_room {S : Clr} (hok : okS S) {x : Kse} (hx : x ∈ S.L) (z : Int) (hz : -3000000000000 ≤ z ∧ z ≤ 3000000000000) : InR (-z) ∧ InR (x.c.paid + z) ∧ InR x.p.frm ∧ InR x.p.to ∧ ∀ i j, InR (S.ow i j + z) ∧ InR (S.ow i j + -z) := by
  obtain ⟨o1, o2, o3⟩ := hok.each x hx
  have hb := of_decide_eq_false o2
  obtain ⟨_, _, _, _, _, _, _, p1, p2, _⟩ := o1
  unfold InR
  refine ⟨by omega, by omega, by omega, by omega, fun i j => ?_⟩
  have := hok.small i j
  omega
theorem kLess (h : CIn w F b S m1 m2 n k qs) (hok : okS S) : k < maxLen := by
  have h1 := h.kk
  have h2 := (sumB_in S.L).2
  have h3 := hok.len
  have : (k : Int) ≤ 500000 := by omega
  have h4 : (500001 : Nat) ≤ maxLen := by decide
  omega
set_option maxHeartbeats 2000000 in
theorem dispute_any (h : CIn w F b S m1 m2 n k qs) (hok : okS S) (shop trace amt day : Int) (h1 : InR shop) (h2 : InR trace) :
    Calls Try.prog 9 #[.pointer (some ⟨b, 0, none⟩), .int .i64 shop, .int .i64 trace, .int .i64 amt, .int .i64 day] w (cPost w F b (doS S shop trace ⟨1, day, amt⟩)) := by
  by_cases he : findS S shop trace 1 day = 0
  · obtain ⟨i, q, x, hi, hq, hx, hst, hd, hP, hc⟩ := findC_ok h hok shop trace 1 day h1 h2 he
    have hres := doS_ok S shop trace ⟨1, day, amt⟩ hi hx hd hst
    obtain ⟨_, hcst⟩ := on_same hst (by decide)
    have hqm := List.mem_of_getElem? hq
    have hqb := (h.nq q hqm).1
    have hmq := Ne.symm (h.nq q hqm).2.2
    have N1 := hide hc
    unfold twoV at N1
    by_cases ham : amt < 1 ∨ x.p.amt < amt
    · rw [hres, if_pos ⟨rfl, ham⟩]
      have HIN : inB 1 amt x.p.amt = false := decide_eq_false (by omega)
      have HX := hide hx; have HH := hide h; have HQ := hide hq
      clear hc h hP hres hx hd hst hok he hi hcst hq ham
      go_enter Try.func9, Try.ntmps9
      go_wp2_with fail
      refine (unhide N1).mono ?_
      rintro e w1 ⟨rfl, hI, hC⟩
      have hP1 := hI.pays i q x (unhide HQ) (unhide HX)
      obtain ⟨_, _, c2, _, _, _, _⟩ := hP1.cells
      have N2 := hide (cwithin_any amt 1 x.p.amt w1)
      rw [HIN] at N2
      have HI := hide hI; have HC := hide hC
      clear hI hC hP1
      go_wp2_with fail
      refine (unhide N2).mono ?_
      rintro e w2 ⟨rfl, hw2⟩
      rw [hw2]
      clear hw2
      go_wp2
      go_ret
      exact ⟨rfl, F, ⟨_, _, _, _, _, unhide HI⟩, unhide HC, fun x hx => .inl hx⟩
    · rw [hres, if_neg (fun hh => ham hh.2)]
      have HIN : inB 1 amt x.p.amt = true := decide_eq_true (by omega)
      obtain ⟨o1, o2, o3⟩ := hok.each x (List.mem_of_getElem? hx)
      have hpb := of_decide_eq_false o2
      obtain ⟨r1, r2, r3, r4, r5⟩ := pay_room hok (List.mem_of_getElem? hx) (-amt) (by omega)
      have u1 : wrap64 (-amt) = -amt := by unfold wrap64; unfold InR at r1; omega
      have HK := hide (kLess h hok)
      have HF0 := hide hok.ow0
      have HR := hide (And.intro r1 (And.intro r2 (And.intro r3 (And.intro r4 r5))))
      have HKK : Hid (1000000000000 * ((k : Int) + 1) ≤ sumB S.L - budget x.c.st + budget 2) := hide (by
        rw [hcst]; have := h.kk; show _ ≤ sumB S.L - 1000000000000 + 2000000000000; omega)
      have HX := hide hx; have HH := hide h; have HQ := hide hq; have HB := hide hqb; have HM := hide hmq
      clear hc h hP hres hx hd hst hok he hi hcst hq ham r1 r2 r3 r4 r5 o1 o2 o3 hpb hqb hmq
      go_enter Try.func9, Try.ntmps9
      go_wp2_with fail
      refine (unhide N1).mono ?_
      rintro e w1 ⟨rfl, hI, hC⟩
      have hP1 := hI.pays i q x (unhide HQ) (unhide HX)
      obtain ⟨_, _, c2, _, _, _, _⟩ := hP1.cells
      have N2 := hide (cwithin_any amt 1 x.p.amt w1)
      rw [HIN] at N2
      have N3 := hide (turn_any b q m1 m2 S.D day 2 x.p x.c w1 hI.blk hP1 (unhide HB))
      have HI := hide hI; have HC := hide hC
      clear hI hC hP1
      go_wp2_with fail
      refine (unhide N2).mono ?_
      rintro e w2 ⟨rfl, hw2⟩
      rw [hw2]
      clear hw2
      go_wp2_with fail
      refine (unhide N3).mono ?_
      rintro e w3 ⟨rfl, hP3, hT3⟩
      obtain ⟨_, _, _, _, _, d5, _⟩ := hP3.cells
      have f5 := hP3.frozen 5
      have hP4 := hP3.disputed amt
      have hT4 := hT3.trans (Tnd.set w3 q 5 (.int .i64 amt))
      have hB4 := (unhide HI).blk.of_block (hT4.2.1 b (unhide HI).blk.lt (Ne.symm (unhide HB)))
      have hM4 := (unhide HI).pm.tnd hT4 (unhide HM)
      obtain ⟨r1, r2, r3, r4, r5⟩ := unhide HR
      have N4 := hide (payA_any b q m1 m2 k S.D day (-amt) x.p _ S.ow _ hB4 hP4 hM4 (unhide HK) (unhide HB) (unhide HM) r1 r2 r3 r4 r5 (unhide HF0))
      have HT4 := hide hT4
      clear hP3 hT3 hP4 hT4 hB4 hM4 r1 r2 r3 r4 r5
      go_wp2_with fail
      refine (unhide N4).mono ?_
      rintro e w5 ⟨rfl, hP5, ⟨k', hk', hM5⟩, hC5⟩
      have HP5 := hide hP5; have HM5 := hide hM5; have HC5 := hide hC5
      clear hP5 hM5 hC5
      go_wp2
      go_ret
      have hCC : Chg (fun j => j = q ∨ j = m2) w1 w5 := ((Chg.of_tnd (unhide HT4)).mono (fun j hj => .inl hj)).trans (unhide HC5) (fun j hj => .inl hj)
      have hpd : (deed1 S.D x.c ⟨1, day, amt⟩).paid - x.c.paid = -amt := by show x.c.paid - amt - x.c.paid = _; omega
      refine ⟨rfl, F, ⟨m1, m2, n, k', qs, ?_⟩, (unhide HH).chg_paid (unhide HQ) (unhide HC) hCC, fun x hx => .inl hx⟩
      rw [hpd]
      have hkk := unhide HKK
      exact (unhide HI).paid (unhide HQ) (unhide HX) hCC (by rw [show x.c.paid + -amt = x.c.paid - amt by omega] at HP5; exact unhide HP5) (unhide HM5) (by
        show _ ≤ sumB S.L - budget x.c.st + budget 2
        omega)
  · have hres := doS_err S shop trace ⟨1, day, amt⟩ he
    rw [hres]
    have hne : (findS S shop trace 1 day != 0) = true := by simpa using he
    show Calls _ _ _ w (cPost w F b (findS S shop trace 1 day, toldS S day))
    have N1 := hide (findC_err h hok shop trace 1 day h1 h2 he)
    unfold twoV at N1
    generalize findS S shop trace 1 day = er at *
    clear h hok hres he
    go_enter Try.func9, Try.ntmps9
    go_wp2_with fail
    refine (unhide N1).mono ?_
    rintro e w1 ⟨rfl, hI, hC⟩
    have HI := hide hI; have HC := hide hC
    clear hI hC
    go_wp2
    go_ret
    exact ⟨rfl, F, ⟨_, _, _, _, _, unhide HI⟩, unhide HC, fun x hx => .inl hx⟩
end Go.Proofs.Ytdameincehiieaa
