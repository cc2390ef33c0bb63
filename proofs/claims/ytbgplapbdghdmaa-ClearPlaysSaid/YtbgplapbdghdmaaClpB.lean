/- clear: the law's walk. -/
import Derived.Test.YtbgplapbdghdmaaClpA
import Derived.Deep.RegionHeld3
namespace Go.Proofs.Ytbgplapbdghdmaa
open Go.RowKit
set_option linter.unusedVariables false
set_option linter.unusedSimpArgs false

set_option maxRecDepth 100000 in
set_option maxHeartbeats 2000000 in
theorem sameO_any (L : List Ow) (B1 B2 : Nat) (u v : Value) (w : World) (hg : OwnR w B1 46 3 cellsO u L) (hh : OwnR w B2 46 3 cellsO v L) (hl : L.length ≤ 10000) :
    Calls Try.prog 17 #[u, v] w fun e w' => e = .returned (.bool true) ∧ Below w.heap.size w w' := by
  have hl' : (L.length : Int) ≤ 10000 := by omega
  have HG := hide hg; have HH := hide hh
  obtain ⟨⟨ua, uc, rfl⟩, fu⟩ := hg.form
  obtain ⟨⟨va, vc, rfl⟩, fv⟩ := hh.form
  have FU := hide fu; have FV := hide fv
  clear hg hh fu fv
  go_enter Try.func17, Try.ntmps17
  go_wp2
  go_loopw [13] (fun i wr => ∃ k : Nat, k ≤ L.length ∧ i = .int .i64 k ∧ ∃ q, wr = w.drewN q) (fun i _ => L.length - (intOf i).toNat)
  case atStart => exact ⟨0, Nat.zero_le _, rfl, 0, rfl⟩
  case round =>
    obtain ⟨k, hk, rfl, q, rfl⟩ := hrel
    by_cases hlt : k < L.length
    · obtain ⟨x, hx⟩ : ∃ s, L[k]? = some s := ⟨_, List.getElem?_eq_getElem hlt⟩
      rcases unhide FU with h | ⟨g, c, h1, h2, h3⟩
      · rw [h] at hlt; simp at hlt
      rcases unhide FV with h | ⟨g', c', h4, h5, h6⟩
      · rw [h] at hlt; simp at hlt
      cases h1; cases h4
      have c0 : w.cell? ⟨g, k * 3, none⟩ = some (.int .i64 x.a) := (unhide HG).cell cellsO_len k x hx 0 (by omega)
      have c1 : w.cell? ⟨g, k * 3 + 1, none⟩ = some (.int .i64 x.b) := (unhide HG).cell cellsO_len k x hx 1 (by omega)
      have c2 : w.cell? ⟨g, k * 3 + 2, none⟩ = some (.int .i64 x.n) := (unhide HG).cell cellsO_len k x hx 2 (by omega)
      have d0 : w.cell? ⟨g', k * 3, none⟩ = some (.int .i64 x.a) := (unhide HH).cell cellsO_len k x hx 0 (by omega)
      have d1 : w.cell? ⟨g', k * 3 + 1, none⟩ = some (.int .i64 x.b) := (unhide HH).cell cellsO_len k x hx 1 (by omega)
      have d2 : w.cell? ⟨g', k * 3 + 2, none⟩ = some (.int .i64 x.n) := (unhide HH).cell cellsO_len k x hx 2 (by omega)
      have hki : (k : Int) < (L.length : Int) := by omega
      clear hx
      go_wp2_with fail
      go_quiet (fail)
      go_wp2
      go_roundw
      case rel => exact ⟨k + 1, by omega, by go_num, _, rfl⟩
      case measure => simp [intOf]; omega
    · go_wp2
      go_ret
      exact ⟨rfl, below_drewN (Below.refl _ _) _⟩
set_option maxRecDepth 100000
theorem cutL_len (ow : Int → Int → Int) : (cutL ow).length ≤ 10000 := by have := cutA_len ow 99; unfold cutL; omega
def dysOf (x : XDays) : Dys := ⟨x.di, x.an, x.ins, x.fee⟩
def pstOf (x : XPosted) : Pst := ⟨x.frm, x.dst, x.shop, x.trace, x.amt, x.day⟩
set_option maxHeartbeats 8000000 in
theorem walkClearPlays (x : XDays) (l : List XStep) (ao : Option Addr) (cap : Nat) (w : World) (hx : okDays w x) (hl : RowStep w ao l) :
    Calls Try.prog 4 #[valDays x, .slice ao l.length cap] w fun e w' => e = .returned (.bool true) ∧ Below w.heap.size w w' := by
  have hll : (l.length : Int) ≤ maxLen := by have := hl.2.2; omega
  have hmx : (maxLen : Int) ≤ 9223372036854775807 := by decide
  have hlen : (l.length : Int) ≤ 9223372036854775807 := Int.le_trans hll hmx
  have HL := hide hl
  have hbD : Below w.heap.size w (w.alloc (.cells #[.int .i64 x.di, .int .i64 x.an, .int .i64 x.ins, .int .i64 x.fee] 23)) := (Below.refl w.heap.size w).alloc (Nat.le_refl _) _
  have N1 := hide (new_any (dysOf x) (w.alloc (.cells #[.int .i64 x.di, .int .i64 x.an, .int .i64 x.ins, .int .i64 x.fee] 23)))
  have N2 := hide (fun U => daysOf_any (dysOf x) U)
  have HXB := hide (alloc_at w (.cells #[.int .i64 x.di, .int .i64 x.an, .int .i64 x.ins, .int .i64 x.fee] 23))
  have HBD := hide hbD
  unfold dysV at N1 N2
  unfold valDays
  dsimp only [dysOf] at N1 N2
  clear hl hll hmx hx hbD
  go_enter Try.func4, Try.ntmps4
  go_wp2_with fail
  refine (unhide N1).mono ?_
  rintro e w1 (⟨hbad, rfl, hb1⟩ | ⟨hgood, b, F0, rfl, hC, hb1, hF⟩)
  · have hx1 := (hb1.block w.heap.size (by simp)).trans (unhide HXB)
    have d0 : w1.cell? ⟨w.heap.size, 0, none⟩ = some (.int .i64 x.di) := by simp [World.cell?, hx1]
    have d1 : w1.cell? ⟨w.heap.size, 1, none⟩ = some (.int .i64 x.an) := by simp [World.cell?, hx1]
    have d2 : w1.cell? ⟨w.heap.size, 2, none⟩ = some (.int .i64 x.ins) := by simp [World.cell?, hx1]
    have d3 : w1.cell? ⟨w.heap.size, 3, none⟩ = some (.int .i64 x.fee) := by simp [World.cell?, hx1]
    have hde : daysE ⟨x.di, x.an, x.ins, x.fee⟩ = 3 := by unfold daysE; rw [show daysBad ⟨x.di, x.an, x.ins, x.fee⟩ = true from hbad]; rfl
    have n2 := unhide N2 w1
    rw [hde] at n2
    have HN2 := hide n2
    have HB1 := hide ((unhide HBD).trans (hb1.mono (by simp)))
    clear hx1 hde n2 hbad hb1
    go_wp2_with fail
    refine (unhide HN2).mono ?_
    rintro e w2 ⟨rfl, hb2⟩
    have HB2 := hide ((unhide HB1).trans (hb2.mono (unhide HB1).size))
    clear hb2
    go_wp2
    go_ret
    exact ⟨rfl, unhide HB2⟩
  · have hx1 := (hb1.block w.heap.size (by simp)).trans (unhide HXB)
    have d0 : w1.cell? ⟨w.heap.size, 0, none⟩ = some (.int .i64 x.di) := by simp [World.cell?, hx1]
    have d1 : w1.cell? ⟨w.heap.size, 1, none⟩ = some (.int .i64 x.an) := by simp [World.cell?, hx1]
    have d2 : w1.cell? ⟨w.heap.size, 2, none⟩ = some (.int .i64 x.ins) := by simp [World.cell?, hx1]
    have d3 : w1.cell? ⟨w.heap.size, 3, none⟩ = some (.int .i64 x.fee) := by simp [World.cell?, hx1]
    have hde : daysE ⟨x.di, x.an, x.ins, x.fee⟩ = 0 := by unfold daysE; rw [show daysBad ⟨x.di, x.an, x.ins, x.fee⟩ = false from hgood]; rfl
    have n2 := unhide N2 w1
    rw [hde] at n2
    have HN2 := hide n2
    have HB1 := hide ((unhide HBD).trans (hb1.mono (by simp)))
    have HC := hide hC; have HF := hide hF; have HX1 := hide hx1; have HGD := hide hgood
    clear hx1 hde n2 hgood hb1 hC hF
    go_wp2_with fail
    refine (unhide HN2).mono ?_
    rintro e w2 ⟨rfl, hb2⟩
    have hx2 := (hb2.block w.heap.size (blk_lt (unhide HX1))).trans (unhide HX1)
    have f0 : w2.cell? ⟨w.heap.size, 0, none⟩ = some (.int .i64 x.di) := by simp [World.cell?, hx2]
    have f1 : w2.cell? ⟨w.heap.size, 1, none⟩ = some (.int .i64 x.an) := by simp [World.cell?, hx2]
    have f2 : w2.cell? ⟨w.heap.size, 2, none⟩ = some (.int .i64 x.ins) := by simp [World.cell?, hx2]
    have f3 : w2.cell? ⟨w.heap.size, 3, none⟩ = some (.int .i64 x.fee) := by simp [World.cell?, hx2]
    have HB2 := hide ((unhide HB1).trans (hb2.mono (unhide HB1).size))
    have hC2 := (unhide HC).keep hb2.size (fun y hy => hb2.block y ((unhide HC).lt y hy))
    have HBT := hide (both_new (B := w.heap.size) hC2 (fun y hy => Nat.le_trans (by simp) (unhide HF y hy)) (unhide HB2).size (unhide HGD))
    unfold dysOf at HBT
    have HB3 := hide ((unhide HB2).alloc (unhide HB2).size (.cells #[.int .i64 x.di, .int .i64 x.an, .int .i64 x.ins, .int .i64 x.fee, .slice none 0 0, .int .i64 0, .int .i64 0, .slice none 0 0] 57))
    clear hb2 hx2 hC2 d0 d1 d2 d3
    dsimp only at HBT
    go_wp2
    obtain ⟨r, hr⟩ : ∃ r, r = w2.heap.size := ⟨_, rfl⟩
    rw [← hr] at HBT ⊢
    clear hr
    generalize (w2.alloc (.cells #[.int .i64 x.di, .int .i64 x.an, .int .i64 x.ins, .int .i64 x.fee, .slice none 0 0, .int .i64 0, .int .i64 0, .slice none 0 0] 57)) = w3 at *
    go_loopw [44] (fun iv wr => ∃ (k : Nat) (S : Clr), k ≤ l.length ∧ iv = .int .i64 k ∧ Bth w.heap.size wr b r S ∧ Below w.heap.size w wr) (fun iv _ => l.length - (intOf iv).toNat)
    case atStart => exact ⟨0, _, Nat.zero_le _, rfl, unhide HBT, unhide HB3⟩
    case round =>
      obtain ⟨k, S, hk, rfl, hbt, hbl⟩ := hrel
      by_cases hlt : k < l.length
      · obtain ⟨s, hs⟩ : ∃ s, l[k]? = some s := ⟨_, List.getElem?_eq_getElem hlt⟩
        have hsok := (unhide HL).2.1 s (List.mem_of_getElem? hs)
        rcases (unhide HL).1 with hn | ⟨gb, go, rfl, hgl, hcell⟩
        · rw [hn] at hlt; simp at hlt
        obtain ⟨s0, s1, s2, s3, s4, s5, s6, s7, s8, s9, s10, s11⟩ := hcell k s hs
        replace s0 := cell_far hbl hgl s0; replace s1 := cell_far hbl hgl s1; replace s2 := cell_far hbl hgl s2; replace s3 := cell_far hbl hgl s3; replace s4 := cell_far hbl hgl s4; replace s5 := cell_far hbl hgl s5
        replace s6 := cell_far hbl hgl s6; replace s7 := cell_far hbl hgl s7; replace s8 := cell_far hbl hgl s8; replace s9 := cell_far hbl hgl s9; replace s10 := cell_far hbl hgl s10; replace s11 := cell_far hbl hgl s11
        have hki : (k : Int) < (l.length : Int) := by omega
        obtain ⟨hok, hod⟩ := hbt.ok
        obtain ⟨F, G, hpl⟩ := hbt.boxed (stepObj s)
        have hbw : Below w.heap.size w (wr.alloc (stepObj s)) := hbl.alloc hbl.size _
        obtain ⟨_, hi1, hi2, hi3, hi4, hi5⟩ := hsok
        have HPL0 := hide hpl; have HBW0 := hide hbw; have HOK := hide hok; have HOD := hide hod; have HI := hide (And.intro hi1 (And.intro hi2 (And.intro hi3 (And.intro hi4 hi5))))
        unfold stepObj at HPL0 HBW0
        clear hs hcell hbt hpl hbw hok hod hi1 hi2 hi3 hi4 hi5 hbl HBT HB3
        obtain ⟨sd, sh, st, sa, sy, sf, ⟨pf, pd, ps, pt, pa, py⟩⟩ := s
        dsimp only at *
        by_cases q0 : sd = 0
        · have b0 : (sd == 0) = true := by simpa using q0
          clear q0
          go_wp2_with fail
          generalize wr.alloc (.cells #[.int .i64 sd, .int .i64 sh, .int .i64 st, .int .i64 sa, .int .i64 sy, .bool sf, .int .i64 pf, .int .i64 pd, .int .i64 ps, .int .i64 pt, .int .i64 pa, .int .i64 py] 36) = W1 at *
          have HPL : Hid (Pl w.heap.size W1 F G b r S S wr.heap.size (stepObj ⟨sd, sh, st, sa, sy, sf, ⟨pf, pd, ps, pt, pa, py⟩⟩)) := HPL0
          have hok' : okS (postS S ⟨pf, pd, ps, pt, pa, py⟩).2 := post_ok (unhide HOK) _
          have hod' : okDs (postS S ⟨pf, pd, ps, pt, pa, py⟩).2.L := post_okDs (unhide HOD) _
          have NP := hide (pl_post (unhide HPL).drew (unhide HOK) ⟨pf, pd, ps, pt, pa, py⟩ (unhide HI).2.2.2.2.2.2.1 (unhide HI).2.2.2.2.2.2.2.1)
          have NR := hide (fun U F' (hU : Pl w.heap.size U F' G b r (postS S ⟨pf, pd, ps, pt, pa, py⟩).2 S wr.heap.size (stepObj ⟨sd, sh, st, sa, sy, sf, ⟨pf, pd, ps, pt, pa, py⟩⟩)) => pl_rpost hU (unhide HOK) ⟨pf, pd, ps, pt, pa, py⟩)
          obtain ⟨R, hR⟩ : ∃ R, R = postS S ⟨pf, pd, ps, pt, pa, py⟩ := ⟨_, rfl⟩
          rw [← hR] at NP NR hok' hod'
          clear hR
          have HOK2 := hide hok'; have HOD2 := hide hod'
          obtain ⟨er, S'⟩ := R
          have hs0 : W1.drew.cell? ⟨wr.heap.size, 6, none⟩ = some (.int .i64 pf) ∧ W1.drew.cell? ⟨wr.heap.size, 7, none⟩ = some (.int .i64 pd) ∧ W1.drew.cell? ⟨wr.heap.size, 8, none⟩ = some (.int .i64 ps) ∧ W1.drew.cell? ⟨wr.heap.size, 9, none⟩ = some (.int .i64 pt) ∧ W1.drew.cell? ⟨wr.heap.size, 10, none⟩ = some (.int .i64 pa) ∧ W1.drew.cell? ⟨wr.heap.size, 11, none⟩ = some (.int .i64 py) := ⟨(stepC (s := ⟨sd, sh, st, sa, sy, sf, ⟨pf, pd, ps, pt, pa, py⟩⟩) (unhide HPL).drew.box).2.2.2.2.2.2.1, (stepC (s := ⟨sd, sh, st, sa, sy, sf, ⟨pf, pd, ps, pt, pa, py⟩⟩) (unhide HPL).drew.box).2.2.2.2.2.2.2.1, (stepC (s := ⟨sd, sh, st, sa, sy, sf, ⟨pf, pd, ps, pt, pa, py⟩⟩) (unhide HPL).drew.box).2.2.2.2.2.2.2.2.1, (stepC (s := ⟨sd, sh, st, sa, sy, sf, ⟨pf, pd, ps, pt, pa, py⟩⟩) (unhide HPL).drew.box).2.2.2.2.2.2.2.2.2.1, (stepC (s := ⟨sd, sh, st, sa, sy, sf, ⟨pf, pd, ps, pt, pa, py⟩⟩) (unhide HPL).drew.box).2.2.2.2.2.2.2.2.2.2.1, (stepC (s := ⟨sd, sh, st, sa, sy, sf, ⟨pf, pd, ps, pt, pa, py⟩⟩) (unhide HPL).drew.box).2.2.2.2.2.2.2.2.2.2.2⟩
          unfold plP at NP
          unfold plR at NR
          unfold pstV at NP NR
          dsimp only at NP NR HOK2 HOD2
          clear hok' hod'
          go_region_held3 (fun w' => w'.cell? ⟨wr.heap.size, 6, none⟩ = some (.int .i64 pf) ∧ w'.cell? ⟨wr.heap.size, 7, none⟩ = some (.int .i64 pd) ∧ w'.cell? ⟨wr.heap.size, 8, none⟩ = some (.int .i64 ps) ∧ w'.cell? ⟨wr.heap.size, 9, none⟩ = some (.int .i64 pt) ∧ w'.cell? ⟨wr.heap.size, 10, none⟩ = some (.int .i64 pa) ∧ w'.cell? ⟨wr.heap.size, 11, none⟩ = some (.int .i64 py))
            (first
              | exact hs2
              | exact hs1
              | exact hs0)
            ((first
              | (go_at_call 6; refine (unhide NP).mono ?_; rintro e y1 ⟨rfl, F1, hp1, hb1⟩; have hs1 : y1.cell? ⟨wr.heap.size, 6, none⟩ = some (.int .i64 pf) ∧ y1.cell? ⟨wr.heap.size, 7, none⟩ = some (.int .i64 pd) ∧ y1.cell? ⟨wr.heap.size, 8, none⟩ = some (.int .i64 ps) ∧ y1.cell? ⟨wr.heap.size, 9, none⟩ = some (.int .i64 pt) ∧ y1.cell? ⟨wr.heap.size, 10, none⟩ = some (.int .i64 pa) ∧ y1.cell? ⟨wr.heap.size, 11, none⟩ = some (.int .i64 py) := ⟨(stepC (s := ⟨sd, sh, st, sa, sy, sf, ⟨pf, pd, ps, pt, pa, py⟩⟩) hp1.box).2.2.2.2.2.2.1, (stepC (s := ⟨sd, sh, st, sa, sy, sf, ⟨pf, pd, ps, pt, pa, py⟩⟩) hp1.box).2.2.2.2.2.2.2.1, (stepC (s := ⟨sd, sh, st, sa, sy, sf, ⟨pf, pd, ps, pt, pa, py⟩⟩) hp1.box).2.2.2.2.2.2.2.2.1, (stepC (s := ⟨sd, sh, st, sa, sy, sf, ⟨pf, pd, ps, pt, pa, py⟩⟩) hp1.box).2.2.2.2.2.2.2.2.2.1, (stepC (s := ⟨sd, sh, st, sa, sy, sf, ⟨pf, pd, ps, pt, pa, py⟩⟩) hp1.box).2.2.2.2.2.2.2.2.2.2.1, (stepC (s := ⟨sd, sh, st, sa, sy, sf, ⟨pf, pd, ps, pt, pa, py⟩⟩) hp1.box).2.2.2.2.2.2.2.2.2.2.2⟩)
              | (go_at_call 14; refine (unhide NR _ _ hp1).mono ?_; rintro e y2 ⟨rfl, G2, hp2, hb2⟩; have hs2 : y2.cell? ⟨wr.heap.size, 6, none⟩ = some (.int .i64 pf) ∧ y2.cell? ⟨wr.heap.size, 7, none⟩ = some (.int .i64 pd) ∧ y2.cell? ⟨wr.heap.size, 8, none⟩ = some (.int .i64 ps) ∧ y2.cell? ⟨wr.heap.size, 9, none⟩ = some (.int .i64 pt) ∧ y2.cell? ⟨wr.heap.size, 10, none⟩ = some (.int .i64 pa) ∧ y2.cell? ⟨wr.heap.size, 11, none⟩ = some (.int .i64 py) := ⟨(stepC (s := ⟨sd, sh, st, sa, sy, sf, ⟨pf, pd, ps, pt, pa, py⟩⟩) hp2.box).2.2.2.2.2.2.1, (stepC (s := ⟨sd, sh, st, sa, sy, sf, ⟨pf, pd, ps, pt, pa, py⟩⟩) hp2.box).2.2.2.2.2.2.2.1, (stepC (s := ⟨sd, sh, st, sa, sy, sf, ⟨pf, pd, ps, pt, pa, py⟩⟩) hp2.box).2.2.2.2.2.2.2.2.1, (stepC (s := ⟨sd, sh, st, sa, sy, sf, ⟨pf, pd, ps, pt, pa, py⟩⟩) hp2.box).2.2.2.2.2.2.2.2.2.1, (stepC (s := ⟨sd, sh, st, sa, sy, sf, ⟨pf, pd, ps, pt, pa, py⟩⟩) hp2.box).2.2.2.2.2.2.2.2.2.2.1, (stepC (s := ⟨sd, sh, st, sa, sy, sf, ⟨pf, pd, ps, pt, pa, py⟩⟩) hp2.box).2.2.2.2.2.2.2.2.2.2.2⟩)))
          all_goals
            have HP2 := hide hp2; have HB12 := hide (And.intro hb1 hb2)
            clear hp1 hp2 hb1 hb2 hs0 hs1 hs2
            go_wp2
            go_roundw
            case rel => exact ⟨k + 1, S', by omega, by go_num, (unhide HP2).both (unhide HOK2) (unhide HOD2), ((unhide HBW0).drew.trans (unhide HB12).1).trans (unhide HB12).2⟩
            case measure => simp [intOf]; omega
        by_cases q1 : sd = 1
        · have b1 : (sd == 1) = true := by simpa using q1
          have b0 : (sd == 0) = false := by simpa using q0
          clear q0 q1
          go_wp2_with fail
          generalize wr.alloc (.cells #[.int .i64 sd, .int .i64 sh, .int .i64 st, .int .i64 sa, .int .i64 sy, .bool sf, .int .i64 pf, .int .i64 pd, .int .i64 ps, .int .i64 pt, .int .i64 pa, .int .i64 py] 36) = W1 at *
          have HPL : Hid (Pl w.heap.size W1 F G b r S S wr.heap.size (stepObj ⟨sd, sh, st, sa, sy, sf, ⟨pf, pd, ps, pt, pa, py⟩⟩)) := HPL0
          have hok' : okS (doS S sh st ⟨1, sy, sa⟩).2 := do_ok (unhide HOK) sh st ⟨1, sy, sa⟩ ⟨by show (1 : Int) ≤ 1; decide, by show (1 : Int) ≤ 5; decide⟩
          have hod' : okDs (doS S sh st ⟨1, sy, sa⟩).2.L := do_okDs (unhide HOD) sh st ⟨1, sy, sa⟩ ⟨by show (1 : Int) ≤ 1; decide, by show (1 : Int) ≤ 5; decide⟩ (unhide HOK) (fun h => absurd rfl h)
          have NP := hide (pl_dispute (unhide HPL).drew (unhide HOK) sh st sa sy (unhide HI).1 (unhide HI).2.1)
          have NR := hide (fun U F' (hU : Pl w.heap.size U F' G b r (doS S sh st ⟨1, sy, sa⟩).2 S wr.heap.size (stepObj ⟨sd, sh, st, sa, sy, sf, ⟨pf, pd, ps, pt, pa, py⟩⟩)) => pl_do hU (unhide HOK) (unhide HOD) sh st ⟨1, sy, sa⟩ ⟨by show (1 : Int) ≤ 1; decide, by show (1 : Int) ≤ 5; decide⟩ (fun h => absurd rfl h))
          obtain ⟨R, hR⟩ : ∃ R, R = doS S sh st ⟨1, sy, sa⟩ := ⟨_, rfl⟩
          rw [← hR] at NP NR hok' hod'
          clear hR
          have HOK2 := hide hok'; have HOD2 := hide hod'
          obtain ⟨er, S'⟩ := R
          have hs0 : W1.drew.cell? ⟨wr.heap.size, 1, none⟩ = some (.int .i64 sh) ∧ W1.drew.cell? ⟨wr.heap.size, 2, none⟩ = some (.int .i64 st) ∧ W1.drew.cell? ⟨wr.heap.size, 3, none⟩ = some (.int .i64 sa) ∧ W1.drew.cell? ⟨wr.heap.size, 4, none⟩ = some (.int .i64 sy) := ⟨(stepC (s := ⟨sd, sh, st, sa, sy, sf, ⟨pf, pd, ps, pt, pa, py⟩⟩) (unhide HPL).drew.box).2.1, (stepC (s := ⟨sd, sh, st, sa, sy, sf, ⟨pf, pd, ps, pt, pa, py⟩⟩) (unhide HPL).drew.box).2.2.1, (stepC (s := ⟨sd, sh, st, sa, sy, sf, ⟨pf, pd, ps, pt, pa, py⟩⟩) (unhide HPL).drew.box).2.2.2.1, (stepC (s := ⟨sd, sh, st, sa, sy, sf, ⟨pf, pd, ps, pt, pa, py⟩⟩) (unhide HPL).drew.box).2.2.2.2.1⟩
          unfold plP at NP
          unfold plR at NR
          unfold dedV at NR
          dsimp only at NP NR HOK2 HOD2
          clear hok' hod'
          go_region_held3 (fun w' => w'.cell? ⟨wr.heap.size, 1, none⟩ = some (.int .i64 sh) ∧ w'.cell? ⟨wr.heap.size, 2, none⟩ = some (.int .i64 st) ∧ w'.cell? ⟨wr.heap.size, 3, none⟩ = some (.int .i64 sa) ∧ w'.cell? ⟨wr.heap.size, 4, none⟩ = some (.int .i64 sy))
            (first
              | exact hs2
              | exact hs1
              | exact hs0)
            ((first
              | (go_at_call 7; refine (unhide NP).mono ?_; rintro e y1 ⟨rfl, F1, hp1, hb1⟩; have hs1 : y1.cell? ⟨wr.heap.size, 1, none⟩ = some (.int .i64 sh) ∧ y1.cell? ⟨wr.heap.size, 2, none⟩ = some (.int .i64 st) ∧ y1.cell? ⟨wr.heap.size, 3, none⟩ = some (.int .i64 sa) ∧ y1.cell? ⟨wr.heap.size, 4, none⟩ = some (.int .i64 sy) := ⟨(stepC (s := ⟨sd, sh, st, sa, sy, sf, ⟨pf, pd, ps, pt, pa, py⟩⟩) hp1.box).2.1, (stepC (s := ⟨sd, sh, st, sa, sy, sf, ⟨pf, pd, ps, pt, pa, py⟩⟩) hp1.box).2.2.1, (stepC (s := ⟨sd, sh, st, sa, sy, sf, ⟨pf, pd, ps, pt, pa, py⟩⟩) hp1.box).2.2.2.1, (stepC (s := ⟨sd, sh, st, sa, sy, sf, ⟨pf, pd, ps, pt, pa, py⟩⟩) hp1.box).2.2.2.2.1⟩)
              | (go_at_call 15; refine (unhide NR _ _ hp1).mono ?_; rintro e y2 ⟨rfl, G2, hp2, hb2⟩; have hs2 : y2.cell? ⟨wr.heap.size, 1, none⟩ = some (.int .i64 sh) ∧ y2.cell? ⟨wr.heap.size, 2, none⟩ = some (.int .i64 st) ∧ y2.cell? ⟨wr.heap.size, 3, none⟩ = some (.int .i64 sa) ∧ y2.cell? ⟨wr.heap.size, 4, none⟩ = some (.int .i64 sy) := ⟨(stepC (s := ⟨sd, sh, st, sa, sy, sf, ⟨pf, pd, ps, pt, pa, py⟩⟩) hp2.box).2.1, (stepC (s := ⟨sd, sh, st, sa, sy, sf, ⟨pf, pd, ps, pt, pa, py⟩⟩) hp2.box).2.2.1, (stepC (s := ⟨sd, sh, st, sa, sy, sf, ⟨pf, pd, ps, pt, pa, py⟩⟩) hp2.box).2.2.2.1, (stepC (s := ⟨sd, sh, st, sa, sy, sf, ⟨pf, pd, ps, pt, pa, py⟩⟩) hp2.box).2.2.2.2.1⟩)))
          all_goals
            have HP2 := hide hp2; have HB12 := hide (And.intro hb1 hb2)
            clear hp1 hp2 hb1 hb2 hs0 hs1 hs2
            go_wp2
            go_roundw
            case rel => exact ⟨k + 1, S', by omega, by go_num, (unhide HP2).both (unhide HOK2) (unhide HOD2), ((unhide HBW0).drew.trans (unhide HB12).1).trans (unhide HB12).2⟩
            case measure => simp [intOf]; omega
        by_cases q2 : sd = 2
        · have b2 : (sd == 2) = true := by simpa using q2
          have b0 : (sd == 0) = false := by simpa using q0
          have b1 : (sd == 1) = false := by simpa using q1
          clear q0 q1 q2
          go_wp2_with fail
          generalize wr.alloc (.cells #[.int .i64 sd, .int .i64 sh, .int .i64 st, .int .i64 sa, .int .i64 sy, .bool sf, .int .i64 pf, .int .i64 pd, .int .i64 ps, .int .i64 pt, .int .i64 pa, .int .i64 py] 36) = W1 at *
          have HPL : Hid (Pl w.heap.size W1 F G b r S S wr.heap.size (stepObj ⟨sd, sh, st, sa, sy, sf, ⟨pf, pd, ps, pt, pa, py⟩⟩)) := HPL0
          have hok' : okS (doS S sh st ⟨2, sy, 0⟩).2 := do_ok (unhide HOK) sh st ⟨2, sy, 0⟩ ⟨by show (1 : Int) ≤ 2; decide, by show (2 : Int) ≤ 5; decide⟩
          have hod' : okDs (doS S sh st ⟨2, sy, 0⟩).2.L := do_okDs (unhide HOD) sh st ⟨2, sy, 0⟩ ⟨by show (1 : Int) ≤ 2; decide, by show (2 : Int) ≤ 5; decide⟩ (unhide HOK) (fun _ => rfl)
          have NP := hide (pl_answer (unhide HPL).drew (unhide HOK) sh st sy (unhide HI).1 (unhide HI).2.1)
          have NR := hide (fun U F' (hU : Pl w.heap.size U F' G b r (doS S sh st ⟨2, sy, 0⟩).2 S wr.heap.size (stepObj ⟨sd, sh, st, sa, sy, sf, ⟨pf, pd, ps, pt, pa, py⟩⟩)) => pl_do hU (unhide HOK) (unhide HOD) sh st ⟨2, sy, 0⟩ ⟨by show (1 : Int) ≤ 2; decide, by show (2 : Int) ≤ 5; decide⟩ (fun _ => rfl))
          obtain ⟨R, hR⟩ : ∃ R, R = doS S sh st ⟨2, sy, 0⟩ := ⟨_, rfl⟩
          rw [← hR] at NP NR hok' hod'
          clear hR
          have HOK2 := hide hok'; have HOD2 := hide hod'
          obtain ⟨er, S'⟩ := R
          have hs0 : W1.drew.cell? ⟨wr.heap.size, 1, none⟩ = some (.int .i64 sh) ∧ W1.drew.cell? ⟨wr.heap.size, 2, none⟩ = some (.int .i64 st) ∧ W1.drew.cell? ⟨wr.heap.size, 4, none⟩ = some (.int .i64 sy) := ⟨(stepC (s := ⟨sd, sh, st, sa, sy, sf, ⟨pf, pd, ps, pt, pa, py⟩⟩) (unhide HPL).drew.box).2.1, (stepC (s := ⟨sd, sh, st, sa, sy, sf, ⟨pf, pd, ps, pt, pa, py⟩⟩) (unhide HPL).drew.box).2.2.1, (stepC (s := ⟨sd, sh, st, sa, sy, sf, ⟨pf, pd, ps, pt, pa, py⟩⟩) (unhide HPL).drew.box).2.2.2.2.1⟩
          unfold plP at NP
          unfold plR at NR
          unfold dedV at NR
          dsimp only at NP NR HOK2 HOD2
          clear hok' hod'
          go_region_held3 (fun w' => w'.cell? ⟨wr.heap.size, 1, none⟩ = some (.int .i64 sh) ∧ w'.cell? ⟨wr.heap.size, 2, none⟩ = some (.int .i64 st) ∧ w'.cell? ⟨wr.heap.size, 4, none⟩ = some (.int .i64 sy))
            (first
              | exact hs2
              | exact hs1
              | exact hs0)
            ((first
              | (go_at_call 8; refine (unhide NP).mono ?_; rintro e y1 ⟨rfl, F1, hp1, hb1⟩; have hs1 : y1.cell? ⟨wr.heap.size, 1, none⟩ = some (.int .i64 sh) ∧ y1.cell? ⟨wr.heap.size, 2, none⟩ = some (.int .i64 st) ∧ y1.cell? ⟨wr.heap.size, 4, none⟩ = some (.int .i64 sy) := ⟨(stepC (s := ⟨sd, sh, st, sa, sy, sf, ⟨pf, pd, ps, pt, pa, py⟩⟩) hp1.box).2.1, (stepC (s := ⟨sd, sh, st, sa, sy, sf, ⟨pf, pd, ps, pt, pa, py⟩⟩) hp1.box).2.2.1, (stepC (s := ⟨sd, sh, st, sa, sy, sf, ⟨pf, pd, ps, pt, pa, py⟩⟩) hp1.box).2.2.2.2.1⟩)
              | (go_at_call 15; refine (unhide NR _ _ hp1).mono ?_; rintro e y2 ⟨rfl, G2, hp2, hb2⟩; have hs2 : y2.cell? ⟨wr.heap.size, 1, none⟩ = some (.int .i64 sh) ∧ y2.cell? ⟨wr.heap.size, 2, none⟩ = some (.int .i64 st) ∧ y2.cell? ⟨wr.heap.size, 4, none⟩ = some (.int .i64 sy) := ⟨(stepC (s := ⟨sd, sh, st, sa, sy, sf, ⟨pf, pd, ps, pt, pa, py⟩⟩) hp2.box).2.1, (stepC (s := ⟨sd, sh, st, sa, sy, sf, ⟨pf, pd, ps, pt, pa, py⟩⟩) hp2.box).2.2.1, (stepC (s := ⟨sd, sh, st, sa, sy, sf, ⟨pf, pd, ps, pt, pa, py⟩⟩) hp2.box).2.2.2.2.1⟩)))
          all_goals
            have HP2 := hide hp2; have HB12 := hide (And.intro hb1 hb2)
            clear hp1 hp2 hb1 hb2 hs0 hs1 hs2
            go_wp2
            go_roundw
            case rel => exact ⟨k + 1, S', by omega, by go_num, (unhide HP2).both (unhide HOK2) (unhide HOD2), ((unhide HBW0).drew.trans (unhide HB12).1).trans (unhide HB12).2⟩
            case measure => simp [intOf]; omega
        by_cases q3 : sd = 3
        · have b3 : (sd == 3) = true := by simpa using q3
          have b0 : (sd == 0) = false := by simpa using q0
          have b1 : (sd == 1) = false := by simpa using q1
          have b2 : (sd == 2) = false := by simpa using q2
          clear q0 q1 q2 q3
          go_wp2_with fail
          generalize wr.alloc (.cells #[.int .i64 sd, .int .i64 sh, .int .i64 st, .int .i64 sa, .int .i64 sy, .bool sf, .int .i64 pf, .int .i64 pd, .int .i64 ps, .int .i64 pt, .int .i64 pa, .int .i64 py] 36) = W1 at *
          have HPL : Hid (Pl w.heap.size W1 F G b r S S wr.heap.size (stepObj ⟨sd, sh, st, sa, sy, sf, ⟨pf, pd, ps, pt, pa, py⟩⟩)) := HPL0
          have hok' : okS (doS S sh st ⟨3, sy, 0⟩).2 := do_ok (unhide HOK) sh st ⟨3, sy, 0⟩ ⟨by show (1 : Int) ≤ 3; decide, by show (3 : Int) ≤ 5; decide⟩
          have hod' : okDs (doS S sh st ⟨3, sy, 0⟩).2.L := do_okDs (unhide HOD) sh st ⟨3, sy, 0⟩ ⟨by show (1 : Int) ≤ 3; decide, by show (3 : Int) ≤ 5; decide⟩ (unhide HOK) (fun _ => rfl)
          have NP := hide (pl_insist (unhide HPL).drew (unhide HOK) sh st sy (unhide HI).1 (unhide HI).2.1)
          have NR := hide (fun U F' (hU : Pl w.heap.size U F' G b r (doS S sh st ⟨3, sy, 0⟩).2 S wr.heap.size (stepObj ⟨sd, sh, st, sa, sy, sf, ⟨pf, pd, ps, pt, pa, py⟩⟩)) => pl_do hU (unhide HOK) (unhide HOD) sh st ⟨3, sy, 0⟩ ⟨by show (1 : Int) ≤ 3; decide, by show (3 : Int) ≤ 5; decide⟩ (fun _ => rfl))
          obtain ⟨R, hR⟩ : ∃ R, R = doS S sh st ⟨3, sy, 0⟩ := ⟨_, rfl⟩
          rw [← hR] at NP NR hok' hod'
          clear hR
          have HOK2 := hide hok'; have HOD2 := hide hod'
          obtain ⟨er, S'⟩ := R
          have hs0 : W1.drew.cell? ⟨wr.heap.size, 1, none⟩ = some (.int .i64 sh) ∧ W1.drew.cell? ⟨wr.heap.size, 2, none⟩ = some (.int .i64 st) ∧ W1.drew.cell? ⟨wr.heap.size, 4, none⟩ = some (.int .i64 sy) := ⟨(stepC (s := ⟨sd, sh, st, sa, sy, sf, ⟨pf, pd, ps, pt, pa, py⟩⟩) (unhide HPL).drew.box).2.1, (stepC (s := ⟨sd, sh, st, sa, sy, sf, ⟨pf, pd, ps, pt, pa, py⟩⟩) (unhide HPL).drew.box).2.2.1, (stepC (s := ⟨sd, sh, st, sa, sy, sf, ⟨pf, pd, ps, pt, pa, py⟩⟩) (unhide HPL).drew.box).2.2.2.2.1⟩
          unfold plP at NP
          unfold plR at NR
          unfold dedV at NR
          dsimp only at NP NR HOK2 HOD2
          clear hok' hod'
          go_region_held3 (fun w' => w'.cell? ⟨wr.heap.size, 1, none⟩ = some (.int .i64 sh) ∧ w'.cell? ⟨wr.heap.size, 2, none⟩ = some (.int .i64 st) ∧ w'.cell? ⟨wr.heap.size, 4, none⟩ = some (.int .i64 sy))
            (first
              | exact hs2
              | exact hs1
              | exact hs0)
            ((first
              | (go_at_call 9; refine (unhide NP).mono ?_; rintro e y1 ⟨rfl, F1, hp1, hb1⟩; have hs1 : y1.cell? ⟨wr.heap.size, 1, none⟩ = some (.int .i64 sh) ∧ y1.cell? ⟨wr.heap.size, 2, none⟩ = some (.int .i64 st) ∧ y1.cell? ⟨wr.heap.size, 4, none⟩ = some (.int .i64 sy) := ⟨(stepC (s := ⟨sd, sh, st, sa, sy, sf, ⟨pf, pd, ps, pt, pa, py⟩⟩) hp1.box).2.1, (stepC (s := ⟨sd, sh, st, sa, sy, sf, ⟨pf, pd, ps, pt, pa, py⟩⟩) hp1.box).2.2.1, (stepC (s := ⟨sd, sh, st, sa, sy, sf, ⟨pf, pd, ps, pt, pa, py⟩⟩) hp1.box).2.2.2.2.1⟩)
              | (go_at_call 15; refine (unhide NR _ _ hp1).mono ?_; rintro e y2 ⟨rfl, G2, hp2, hb2⟩; have hs2 : y2.cell? ⟨wr.heap.size, 1, none⟩ = some (.int .i64 sh) ∧ y2.cell? ⟨wr.heap.size, 2, none⟩ = some (.int .i64 st) ∧ y2.cell? ⟨wr.heap.size, 4, none⟩ = some (.int .i64 sy) := ⟨(stepC (s := ⟨sd, sh, st, sa, sy, sf, ⟨pf, pd, ps, pt, pa, py⟩⟩) hp2.box).2.1, (stepC (s := ⟨sd, sh, st, sa, sy, sf, ⟨pf, pd, ps, pt, pa, py⟩⟩) hp2.box).2.2.1, (stepC (s := ⟨sd, sh, st, sa, sy, sf, ⟨pf, pd, ps, pt, pa, py⟩⟩) hp2.box).2.2.2.2.1⟩)))
          all_goals
            have HP2 := hide hp2; have HB12 := hide (And.intro hb1 hb2)
            clear hp1 hp2 hb1 hb2 hs0 hs1 hs2
            go_wp2
            go_roundw
            case rel => exact ⟨k + 1, S', by omega, by go_num, (unhide HP2).both (unhide HOK2) (unhide HOD2), ((unhide HBW0).drew.trans (unhide HB12).1).trans (unhide HB12).2⟩
            case measure => simp [intOf]; omega
        by_cases q4 : sd = 4
        · have b4 : (sd == 4) = true := by simpa using q4
          have b0 : (sd == 0) = false := by simpa using q0
          have b1 : (sd == 1) = false := by simpa using q1
          have b2 : (sd == 2) = false := by simpa using q2
          have b3 : (sd == 3) = false := by simpa using q3
          clear q0 q1 q2 q3 q4
          cases sf
          · skip
            go_wp2_with fail
            generalize wr.alloc (.cells #[.int .i64 sd, .int .i64 sh, .int .i64 st, .int .i64 sa, .int .i64 sy, .bool false, .int .i64 pf, .int .i64 pd, .int .i64 ps, .int .i64 pt, .int .i64 pa, .int .i64 py] 36) = W1 at *
            have HPL : Hid (Pl w.heap.size W1 F G b r S S wr.heap.size (stepObj ⟨sd, sh, st, sa, sy, false, ⟨pf, pd, ps, pt, pa, py⟩⟩)) := HPL0
            have hok' : okS (doS S sh st ⟨5, sy, 0⟩).2 := do_ok (unhide HOK) sh st ⟨5, sy, 0⟩ ⟨by show (1 : Int) ≤ 5; decide, by show (5 : Int) ≤ 5; decide⟩
            have hod' : okDs (doS S sh st ⟨5, sy, 0⟩).2.L := do_okDs (unhide HOD) sh st ⟨5, sy, 0⟩ ⟨by show (1 : Int) ≤ 5; decide, by show (5 : Int) ≤ 5; decide⟩ (unhide HOK) (fun _ => rfl)
            have NP := hide (pl_judge_card (unhide HPL).drew (unhide HOK) sh st sy (unhide HI).1 (unhide HI).2.1)
            have NR := hide (fun U F' (hU : Pl w.heap.size U F' G b r (doS S sh st ⟨5, sy, 0⟩).2 S wr.heap.size (stepObj ⟨sd, sh, st, sa, sy, false, ⟨pf, pd, ps, pt, pa, py⟩⟩)) => pl_do hU (unhide HOK) (unhide HOD) sh st ⟨5, sy, 0⟩ ⟨by show (1 : Int) ≤ 5; decide, by show (5 : Int) ≤ 5; decide⟩ (fun _ => rfl))
            obtain ⟨R, hR⟩ : ∃ R, R = doS S sh st ⟨5, sy, 0⟩ := ⟨_, rfl⟩
            rw [← hR] at NP NR hok' hod'
            clear hR
            have HOK2 := hide hok'; have HOD2 := hide hod'
            obtain ⟨er, S'⟩ := R
            have hs0 : W1.drew.cell? ⟨wr.heap.size, 1, none⟩ = some (.int .i64 sh) ∧ W1.drew.cell? ⟨wr.heap.size, 2, none⟩ = some (.int .i64 st) ∧ W1.drew.cell? ⟨wr.heap.size, 4, none⟩ = some (.int .i64 sy) ∧ W1.drew.cell? ⟨wr.heap.size, 5, none⟩ = some (.bool false) := ⟨(stepC (s := ⟨sd, sh, st, sa, sy, false, ⟨pf, pd, ps, pt, pa, py⟩⟩) (unhide HPL).drew.box).2.1, (stepC (s := ⟨sd, sh, st, sa, sy, false, ⟨pf, pd, ps, pt, pa, py⟩⟩) (unhide HPL).drew.box).2.2.1, (stepC (s := ⟨sd, sh, st, sa, sy, false, ⟨pf, pd, ps, pt, pa, py⟩⟩) (unhide HPL).drew.box).2.2.2.2.1, (stepC (s := ⟨sd, sh, st, sa, sy, false, ⟨pf, pd, ps, pt, pa, py⟩⟩) (unhide HPL).drew.box).2.2.2.2.2.1⟩
            unfold plP at NP
            unfold plR at NR
            unfold dedV at NR
            dsimp only at NP NR HOK2 HOD2
            clear hok' hod'
            go_region_held3 (fun w' => w'.cell? ⟨wr.heap.size, 1, none⟩ = some (.int .i64 sh) ∧ w'.cell? ⟨wr.heap.size, 2, none⟩ = some (.int .i64 st) ∧ w'.cell? ⟨wr.heap.size, 4, none⟩ = some (.int .i64 sy) ∧ w'.cell? ⟨wr.heap.size, 5, none⟩ = some (.bool false))
              (first
                | exact hs2
                | exact hs1
                | exact hs0)
              ((first
                | (go_at_call 10; refine (unhide NP).mono ?_; rintro e y1 ⟨rfl, F1, hp1, hb1⟩; have hs1 : y1.cell? ⟨wr.heap.size, 1, none⟩ = some (.int .i64 sh) ∧ y1.cell? ⟨wr.heap.size, 2, none⟩ = some (.int .i64 st) ∧ y1.cell? ⟨wr.heap.size, 4, none⟩ = some (.int .i64 sy) ∧ y1.cell? ⟨wr.heap.size, 5, none⟩ = some (.bool false) := ⟨(stepC (s := ⟨sd, sh, st, sa, sy, false, ⟨pf, pd, ps, pt, pa, py⟩⟩) hp1.box).2.1, (stepC (s := ⟨sd, sh, st, sa, sy, false, ⟨pf, pd, ps, pt, pa, py⟩⟩) hp1.box).2.2.1, (stepC (s := ⟨sd, sh, st, sa, sy, false, ⟨pf, pd, ps, pt, pa, py⟩⟩) hp1.box).2.2.2.2.1, (stepC (s := ⟨sd, sh, st, sa, sy, false, ⟨pf, pd, ps, pt, pa, py⟩⟩) hp1.box).2.2.2.2.2.1⟩)
                | (go_at_call 15; refine (unhide NR _ _ hp1).mono ?_; rintro e y2 ⟨rfl, G2, hp2, hb2⟩; have hs2 : y2.cell? ⟨wr.heap.size, 1, none⟩ = some (.int .i64 sh) ∧ y2.cell? ⟨wr.heap.size, 2, none⟩ = some (.int .i64 st) ∧ y2.cell? ⟨wr.heap.size, 4, none⟩ = some (.int .i64 sy) ∧ y2.cell? ⟨wr.heap.size, 5, none⟩ = some (.bool false) := ⟨(stepC (s := ⟨sd, sh, st, sa, sy, false, ⟨pf, pd, ps, pt, pa, py⟩⟩) hp2.box).2.1, (stepC (s := ⟨sd, sh, st, sa, sy, false, ⟨pf, pd, ps, pt, pa, py⟩⟩) hp2.box).2.2.1, (stepC (s := ⟨sd, sh, st, sa, sy, false, ⟨pf, pd, ps, pt, pa, py⟩⟩) hp2.box).2.2.2.2.1, (stepC (s := ⟨sd, sh, st, sa, sy, false, ⟨pf, pd, ps, pt, pa, py⟩⟩) hp2.box).2.2.2.2.2.1⟩)))
            all_goals
              have HP2 := hide hp2; have HB12 := hide (And.intro hb1 hb2)
              clear hp1 hp2 hb1 hb2 hs0 hs1 hs2
              go_wp2
              go_roundw
              case rel => exact ⟨k + 1, S', by omega, by go_num, (unhide HP2).both (unhide HOK2) (unhide HOD2), ((unhide HBW0).drew.trans (unhide HB12).1).trans (unhide HB12).2⟩
              case measure => simp [intOf]; omega
          · skip
            go_wp2_with fail
            generalize wr.alloc (.cells #[.int .i64 sd, .int .i64 sh, .int .i64 st, .int .i64 sa, .int .i64 sy, .bool true, .int .i64 pf, .int .i64 pd, .int .i64 ps, .int .i64 pt, .int .i64 pa, .int .i64 py] 36) = W1 at *
            have HPL : Hid (Pl w.heap.size W1 F G b r S S wr.heap.size (stepObj ⟨sd, sh, st, sa, sy, true, ⟨pf, pd, ps, pt, pa, py⟩⟩)) := HPL0
            have hok' : okS (doS S sh st ⟨4, sy, 0⟩).2 := do_ok (unhide HOK) sh st ⟨4, sy, 0⟩ ⟨by show (1 : Int) ≤ 4; decide, by show (4 : Int) ≤ 5; decide⟩
            have hod' : okDs (doS S sh st ⟨4, sy, 0⟩).2.L := do_okDs (unhide HOD) sh st ⟨4, sy, 0⟩ ⟨by show (1 : Int) ≤ 4; decide, by show (4 : Int) ≤ 5; decide⟩ (unhide HOK) (fun _ => rfl)
            have NP := hide (pl_judge_shop (unhide HPL).drew (unhide HOK) sh st sy (unhide HI).1 (unhide HI).2.1)
            have NR := hide (fun U F' (hU : Pl w.heap.size U F' G b r (doS S sh st ⟨4, sy, 0⟩).2 S wr.heap.size (stepObj ⟨sd, sh, st, sa, sy, true, ⟨pf, pd, ps, pt, pa, py⟩⟩)) => pl_do hU (unhide HOK) (unhide HOD) sh st ⟨4, sy, 0⟩ ⟨by show (1 : Int) ≤ 4; decide, by show (4 : Int) ≤ 5; decide⟩ (fun _ => rfl))
            obtain ⟨R, hR⟩ : ∃ R, R = doS S sh st ⟨4, sy, 0⟩ := ⟨_, rfl⟩
            rw [← hR] at NP NR hok' hod'
            clear hR
            have HOK2 := hide hok'; have HOD2 := hide hod'
            obtain ⟨er, S'⟩ := R
            have hs0 : W1.drew.cell? ⟨wr.heap.size, 1, none⟩ = some (.int .i64 sh) ∧ W1.drew.cell? ⟨wr.heap.size, 2, none⟩ = some (.int .i64 st) ∧ W1.drew.cell? ⟨wr.heap.size, 4, none⟩ = some (.int .i64 sy) ∧ W1.drew.cell? ⟨wr.heap.size, 5, none⟩ = some (.bool true) := ⟨(stepC (s := ⟨sd, sh, st, sa, sy, true, ⟨pf, pd, ps, pt, pa, py⟩⟩) (unhide HPL).drew.box).2.1, (stepC (s := ⟨sd, sh, st, sa, sy, true, ⟨pf, pd, ps, pt, pa, py⟩⟩) (unhide HPL).drew.box).2.2.1, (stepC (s := ⟨sd, sh, st, sa, sy, true, ⟨pf, pd, ps, pt, pa, py⟩⟩) (unhide HPL).drew.box).2.2.2.2.1, (stepC (s := ⟨sd, sh, st, sa, sy, true, ⟨pf, pd, ps, pt, pa, py⟩⟩) (unhide HPL).drew.box).2.2.2.2.2.1⟩
            unfold plP at NP
            unfold plR at NR
            unfold dedV at NR
            dsimp only at NP NR HOK2 HOD2
            clear hok' hod'
            go_region_held3 (fun w' => w'.cell? ⟨wr.heap.size, 1, none⟩ = some (.int .i64 sh) ∧ w'.cell? ⟨wr.heap.size, 2, none⟩ = some (.int .i64 st) ∧ w'.cell? ⟨wr.heap.size, 4, none⟩ = some (.int .i64 sy) ∧ w'.cell? ⟨wr.heap.size, 5, none⟩ = some (.bool true))
              (first
                | exact hs2
                | exact hs1
                | exact hs0)
              ((first
                | (go_at_call 10; refine (unhide NP).mono ?_; rintro e y1 ⟨rfl, F1, hp1, hb1⟩; have hs1 : y1.cell? ⟨wr.heap.size, 1, none⟩ = some (.int .i64 sh) ∧ y1.cell? ⟨wr.heap.size, 2, none⟩ = some (.int .i64 st) ∧ y1.cell? ⟨wr.heap.size, 4, none⟩ = some (.int .i64 sy) ∧ y1.cell? ⟨wr.heap.size, 5, none⟩ = some (.bool true) := ⟨(stepC (s := ⟨sd, sh, st, sa, sy, true, ⟨pf, pd, ps, pt, pa, py⟩⟩) hp1.box).2.1, (stepC (s := ⟨sd, sh, st, sa, sy, true, ⟨pf, pd, ps, pt, pa, py⟩⟩) hp1.box).2.2.1, (stepC (s := ⟨sd, sh, st, sa, sy, true, ⟨pf, pd, ps, pt, pa, py⟩⟩) hp1.box).2.2.2.2.1, (stepC (s := ⟨sd, sh, st, sa, sy, true, ⟨pf, pd, ps, pt, pa, py⟩⟩) hp1.box).2.2.2.2.2.1⟩)
                | (go_at_call 15; refine (unhide NR _ _ hp1).mono ?_; rintro e y2 ⟨rfl, G2, hp2, hb2⟩; have hs2 : y2.cell? ⟨wr.heap.size, 1, none⟩ = some (.int .i64 sh) ∧ y2.cell? ⟨wr.heap.size, 2, none⟩ = some (.int .i64 st) ∧ y2.cell? ⟨wr.heap.size, 4, none⟩ = some (.int .i64 sy) ∧ y2.cell? ⟨wr.heap.size, 5, none⟩ = some (.bool true) := ⟨(stepC (s := ⟨sd, sh, st, sa, sy, true, ⟨pf, pd, ps, pt, pa, py⟩⟩) hp2.box).2.1, (stepC (s := ⟨sd, sh, st, sa, sy, true, ⟨pf, pd, ps, pt, pa, py⟩⟩) hp2.box).2.2.1, (stepC (s := ⟨sd, sh, st, sa, sy, true, ⟨pf, pd, ps, pt, pa, py⟩⟩) hp2.box).2.2.2.2.1, (stepC (s := ⟨sd, sh, st, sa, sy, true, ⟨pf, pd, ps, pt, pa, py⟩⟩) hp2.box).2.2.2.2.2.1⟩)))
            all_goals
              have HP2 := hide hp2; have HB12 := hide (And.intro hb1 hb2)
              clear hp1 hp2 hb1 hb2 hs0 hs1 hs2
              go_wp2
              go_roundw
              case rel => exact ⟨k + 1, S', by omega, by go_num, (unhide HP2).both (unhide HOK2) (unhide HOD2), ((unhide HBW0).drew.trans (unhide HB12).1).trans (unhide HB12).2⟩
              case measure => simp [intOf]; omega
        by_cases q5 : sd = 5
        · have b5 : (sd == 5) = true := by simpa using q5
          have b0 : (sd == 0) = false := by simpa using q0
          have b1 : (sd == 1) = false := by simpa using q1
          have b2 : (sd == 2) = false := by simpa using q2
          have b3 : (sd == 3) = false := by simpa using q3
          have b4 : (sd == 4) = false := by simpa using q4
          clear q0 q1 q2 q3 q4 q5
          go_wp2_with fail
          generalize wr.alloc (.cells #[.int .i64 sd, .int .i64 sh, .int .i64 st, .int .i64 sa, .int .i64 sy, .bool sf, .int .i64 pf, .int .i64 pd, .int .i64 ps, .int .i64 pt, .int .i64 pa, .int .i64 py] 36) = W1 at *
          have HPL : Hid (Pl w.heap.size W1 F G b r S S wr.heap.size (stepObj ⟨sd, sh, st, sa, sy, sf, ⟨pf, pd, ps, pt, pa, py⟩⟩)) := HPL0
          have NP := hide (pl_look (unhide HPL) (unhide HOK) sh st sy (unhide HI).1 (unhide HI).2.1)
          have NR := hide (fun U (hU : Pl w.heap.size U F G b r S S wr.heap.size (stepObj ⟨sd, sh, st, sa, sy, sf, ⟨pf, pd, ps, pt, pa, py⟩⟩)) => pl_rlook hU (unhide HOK) (unhide HOD) sh st sy)
          obtain ⟨lk, hlk⟩ : ∃ lk, lk = lookS S sh st sy := ⟨_, rfl⟩
          rw [← hlk] at NP NR
          clear hlk
          obtain ⟨⟨o1, o2, o3, o4⟩, er⟩ := lk
          unfold caseV at NP NR
          dsimp only at NP NR
          refine (unhide NP).mono ?_
          rintro e y1 ⟨rfl, hy1⟩
          have hpl2 := (unhide HPL).below (hy1.alloc hy1.size (.cells #[.int .i64 o1, .int .i64 o2, .int .i64 o3, .int .i64 o4] 49))
          obtain ⟨_, t1, t2, _, t4, _⟩ := stepC (s := ⟨sd, sh, st, sa, sy, sf, ⟨pf, pd, ps, pt, pa, py⟩⟩) ((unhide HPL).below hy1).box
          have hwl : wr.heap.size < y1.heap.size := blk_lt ((unhide HPL).below hy1).box
          have HP2 := hide hpl2; have HY1 := hide (hy1.alloc hy1.size (.cells #[.int .i64 o1, .int .i64 o2, .int .i64 o3, .int .i64 o4] 49))
          have NR1 := hide (unhide NR _ hpl2)
          have c0 := newC y1 #[.int .i64 o1, .int .i64 o2, .int .i64 o3, .int .i64 o4] 49 0
          have HX := hide (alloc_at y1 (.cells #[.int .i64 o1, .int .i64 o2, .int .i64 o3, .int .i64 o4] 49))
          clear hpl2 hy1 c0 NR
          go_wp2_with fail
          refine (unhide NR1).mono ?_
          rintro e y2 ⟨rfl, hy2⟩
          have hx2 := (hy2.block y1.heap.size (by simp)).trans (unhide HX)
          have g0 : y2.cell? ⟨y1.heap.size, 0, none⟩ = some (.int .i64 o1) := by simp [World.cell?, hx2]
          have g1 : y2.cell? ⟨y1.heap.size, 1, none⟩ = some (.int .i64 o2) := by simp [World.cell?, hx2]
          have g2 : y2.cell? ⟨y1.heap.size, 2, none⟩ = some (.int .i64 o3) := by simp [World.cell?, hx2]
          have g3 : y2.cell? ⟨y1.heap.size, 3, none⟩ = some (.int .i64 o4) := by simp [World.cell?, hx2]
          have hyl : y1.heap.size < y2.heap.size := blk_lt hx2
          have HP3 := hide ((unhide HP2).below (hy2.alloc hy2.size (.cells #[.int .i64 o1, .int .i64 o2, .int .i64 o3, .int .i64 o4] 49)))
          have HY2 := hide (((unhide HY1).mono (unhide HPL).hB).trans ((hy2.alloc hy2.size (.cells #[.int .i64 o1, .int .i64 o2, .int .i64 o3, .int .i64 o4] 49)).mono (unhide HP2).hB))
          clear hy2 hx2
          go_wp2
          go_roundw
          case rel => exact ⟨k + 1, S, by omega, by go_num, (unhide HP3).both (unhide HOK) (unhide HOD), (unhide HBW0).trans (unhide HY2)⟩
          case measure => simp [intOf]; omega
        have b0 : (sd == 0) = false := by simpa using q0
        have b1 : (sd == 1) = false := by simpa using q1
        have b2 : (sd == 2) = false := by simpa using q2
        have b3 : (sd == 3) = false := by simpa using q3
        have b4 : (sd == 4) = false := by simpa using q4
        have b5 : (sd == 5) = false := by simpa using q5
        clear q0 q1 q2 q3 q4 q5
        go_wp2_with fail
        generalize wr.alloc (.cells #[.int .i64 sd, .int .i64 sh, .int .i64 st, .int .i64 sa, .int .i64 sy, .bool sf, .int .i64 pf, .int .i64 pd, .int .i64 ps, .int .i64 pt, .int .i64 pa, .int .i64 py] 36) = W1 at *
        have HPL : Hid (Pl w.heap.size W1 F G b r S S wr.heap.size (stepObj ⟨sd, sh, st, sa, sy, sf, ⟨pf, pd, ps, pt, pa, py⟩⟩)) := HPL0
        have NP := hide (pl_cut (unhide HPL) (unhide HOK))
        have NR := hide (fun U F' (hU : Pl w.heap.size U F' G b r ({ S with ow := fun _ _ => 0 } : Clr) S wr.heap.size (stepObj ⟨sd, sh, st, sa, sy, sf, ⟨pf, pd, ps, pt, pa, py⟩⟩)) => pl_rcut hU (unhide HOK))
        have NS := hide (fun B1 B2 u v U h1 h2 => sameO_any (cutL S.ow) B1 B2 u v U h1 h2 (cutL_len S.ow))
        have HOK2 := hide (cut_ok (unhide HOK))
        have HOD2 : Hid (okDs ({ S with ow := fun _ _ => 0 } : Clr).L) := HOD
        refine (unhide NP).mono ?_
        rintro e y1 ⟨v1, F1, rfl, hv1, hp1, hb1, hn1⟩
        have NR1 := hide (unhide NR _ _ hp1)
        have HV1 := hide hv1; have HB1 := hide hb1; have HN1 := hide hn1
        clear hv1 hp1 hb1 hn1
        go_wp2_with fail
        refine (unhide NR1).mono ?_
        rintro e y2 ⟨v2, G2, rfl, hv2, hp2, hb2, hc2⟩
        have hv1' := (unhide HV1).of_block (fun x hx => hc2.block x (oR_lt (unhide HV1) hx) (unhide HN1 x hx))
        have NS1 := hide (unhide NS _ _ _ _ _ hv1' hv2)
        have HP2 := hide hp2; have HB2 := hide hb2
        clear hv2 hp2 hb2 hc2 hv1'
        go_wp2_with fail
        refine (unhide NS1).mono ?_
        rintro e y3 ⟨rfl, hb3⟩
        have HP3 := hide ((unhide HP2).below hb3)
        have HB3' := hide ((((unhide HBW0).trans (unhide HB1)).trans (unhide HB2)).trans (hb3.mono (unhide HP2).hB))
        clear hb3
        go_wp2
        go_roundw
        case rel => exact ⟨k + 1, _, by omega, by go_num, (unhide HP3).both (unhide HOK2) (unhide HOD2), unhide HB3'⟩
        case measure => simp [intOf]; omega
      · have HB := hide hbl
        clear hbl hbt
        go_wp2
        go_ret
        exact ⟨rfl, unhide HB⟩
end Go.Proofs.Ytbgplapbdghdmaa
