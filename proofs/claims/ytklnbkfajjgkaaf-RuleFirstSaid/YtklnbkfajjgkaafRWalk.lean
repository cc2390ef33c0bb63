/- Walk of the document's own. -/
import Derived.Test.YtklnbkfajjgkaafWalkY
import Derived.Test.YtklnbkfajjgkaafRApp
namespace Go.Proofs.Ytklnbkfajjgkaaf
open Go.RowKit
set_option linter.unusedVariables false

set_option maxHeartbeats 4000000 in
theorem rwalk_no (v : XWays) (s : XScene) (w : World) (hr : RowWay w v.listo v.list) (h : walkE v s ≠ 0) :
    Calls Try.prog 12 #[valWays v, valScene s] w fun e w' => e = .returned (.tuple #[valWalked (0, false, 0), .int .i64 (walkE v s)]) ∧ Below w.heap.size w w' := by
  have n1 := fun w' (hb : Below w.heap.size w w') => rways_any v w' (hr.below hb)
  have n2 := fun w' => ramount_any s.amount w'
  have hbx := below_wboxes v s w
  have hat := wboxes_at v s w
  have hsz := size_wboxes v s w
  unfold valWays valScene valWalked at *
  clear hr
  by_cases h1 : waysE v = 0
  · have hna : ¬ (0 ≤ s.amount ∧ s.amount ≤ 999999999999) := fun ha => h (by rw [walkE, if_pos h1, if_pos ha])
    have e : walkE v s = 3 := by rw [walkE, if_pos h1, if_neg hna]
    rw [e]
    rw [h1] at n1
    rw [decide_eq_false hna] at n2
    have N1 := hide (n1 _ hbx); have N2 := hide n2
    clear n1 n2 h1 e h hna
    go_enter Try.func12, Try.ntmps12
    go_wp2_with fail
    refine (unhide N1).mono ?_
    rintro e w1 ⟨rfl, hb1⟩
    have c1 := (hat.2.1.below hb1).cells.1
    have hk := hat.2.2.below hb1
    obtain ⟨k0, k1, k2⟩ := hk.cells
    have t0 := hk.thaw 0; have t1 := hk.thaw 1; have t2 := hk.thaw 2
    have hb2 := hbx.trans (hb1.mono hbx.size)
    have HK := hide hk
    clear hb1 hat hk
    go_wp2_with (go_at_call 31; refine (unhide N2 _).mono ?_; rintro e w2 ⟨rfl, hw2⟩; subst hw2)
    obtain ⟨z0, z1, z2⟩ := ((unhide HK).write (b := (0, false, 0))).cells
    exact bodyPost_ret (v := .tuple #[.agg #[.int .i64 0, .bool false, .int .i64 0], .int .i64 3]) (by simp [results, Try.results12, go_sem, z0, z1, z2]) rfl ⟨rfl, ((hb2.setCell (by show _ ≤ w.heap.size + 1 + 1; omega) _).setCell (by show _ ≤ w.heap.size + 1 + 1; omega) _).setCell (by show _ ≤ w.heap.size + 1 + 1; omega) _⟩
  · have e : walkE v s = waysE v := by rw [walkE, if_neg h1]
    rw [e]
    have hne : (waysE v != 0) = true := by simpa using h1
    generalize waysE v = we at *
    have N1 := hide (n1 _ hbx)
    clear n1 n2 h1 e h
    go_enter Try.func12, Try.ntmps12
    go_wp2_with fail
    refine (unhide N1).mono ?_
    rintro e w1 ⟨rfl, hb1⟩
    have hk := hat.2.2.below hb1
    obtain ⟨k0, k1, k2⟩ := hk.cells
    have t0 := hk.thaw 0; have t1 := hk.thaw 1; have t2 := hk.thaw 2
    have hb2 := hbx.trans (hb1.mono hbx.size)
    have HK := hide hk
    clear hb1 hat hk
    go_wp2_with fail
    obtain ⟨z0, z1, z2⟩ := ((unhide HK).write (b := (0, false, 0))).cells
    exact bodyPost_ret (v := .tuple #[.agg #[.int .i64 0, .bool false, .int .i64 0], .int .i64 we]) (by simp [results, Try.results12, go_sem, z0, z1, z2]) rfl ⟨rfl, ((hb2.setCell (by show _ ≤ w.heap.size + 1 + 1; omega) _).setCell (by show _ ≤ w.heap.size + 1 + 1; omega) _).setCell (by show _ ≤ w.heap.size + 1 + 1; omega) _⟩


structure RIn (v : XWays) (s : XScene) (w : World) (wr : World) : Prop where
  bel : Below w.heap.size w wr
  ws : WsAt wr w.heap.size v
  sc : ScAt wr (w.heap.size + 1) s
  k : KAt wr (w.heap.size + 1 + 1) (0, false, 0)
theorem RIn.below {v : XWays} {s : XScene} {w : World} {wr wr' : World} (h : RIn v s w wr) (hb : Below wr.heap.size wr wr') : RIn v s w wr' :=
  ⟨h.bel.trans (hb.mono h.bel.size), h.ws.below hb, h.sc.below hb, h.k.below hb⟩
theorem inB_of {l : List XWay} (h : l.any (fun x => !inB x) = false) {k : Nat} {x : XWay} (hx : l[k]? = some x) : (0 ≤ x.code ∧ x.code ≤ 63) ∧ (0 ≤ x.when ∧ x.when ≤ 7) := by
  have hm : x ∈ l := List.mem_of_getElem? hx
  have := List.any_eq_false.1 h x hm
  simp only [Bool.not_eq_true', Bool.not_eq_false, inB, decide_eq_true_eq] at this
  exact this

set_option maxHeartbeats 8000000 in
theorem rwalk_yes (v : XWays) (s : XScene) (w : World) (hr : RowWay w v.listo v.list) (hra : Rowint w s.ableo s.able) (hrw : Rowint w s.wello s.well) (h : walkE v s = 0) :
    Calls Try.prog 12 #[valWays v, valScene s] w fun e w' => e = .returned (.tuple #[valWalked (walkL v s v.list (-1) false), .int .i64 0]) ∧ Below w.heap.size w w' := by
  have h1 : waysE v = 0 := by
    by_cases h1 : waysE v = 0
    · exact h1
    · rw [walkE, if_neg h1] at h; exact h
  have h2 : 0 ≤ s.amount ∧ s.amount ≤ 999999999999 := by
    by_cases h2 : 0 ≤ s.amount ∧ s.amount ≤ 999999999999
    · exact h2
    · rw [walkE, if_pos h1, if_neg h2] at h; cases h
  have hlen := (waysE_zero h1).1
  have hall := (waysE_zero h1).2.2
  have n1 := fun w' (hb : Below w.heap.size w w') => rways_any v w' (hr.below hb)
  have n2 := fun w' => ramount_any s.amount w'
  rw [h1] at n1
  rw [decide_eq_true h2] at n2
  have hbx := below_wboxes v s w
  have hat := wboxes_at v s w
  have n3 := fun x w' (hb : Below w.heap.size w w') h0 h7 => rapplies_any x v s w' (hra.below hb) h0 h7
  have n4 := fun code w' (hb : Below w.heap.size w w') h0 => rgoesWell_any code s w' (hra.below hb) (hrw.below hb) h0
  obtain ⟨vx, vy, vo, vl, vc⟩ := v
  unfold valWays valScene valWay at *
  simp only at n1 n2 n3 n4 hr hlen hall ⊢
  have N1 := hide (n1 _ hbx); have N2 := hide n2; have N3 := hide n3; have N4 := hide n4; have HALL := hide hall
  clear n1 n2 n3 n4 h1 h2 h hra hrw hall
  go_enter Try.func12, Try.ntmps12
  go_wp2_with fail
  refine (unhide N1).mono ?_
  rintro e w1 ⟨rfl, hb1⟩
  have hwi : RIn ⟨vx, vy, vo, vl, vc⟩ s w w1 := ⟨hbx.trans (hb1.mono hbx.size), hat.1.below hb1, hat.2.1.below hb1, hat.2.2.below hb1⟩
  have c1 := hwi.sc.cells.1
  have d2 := hwi.ws.cells.2.2
  simp only at d2
  have HWI := hide hwi
  clear hb1 hat hbx N1 hwi
  go_wp2_with fail
  refine (unhide N2 _).mono ?_
  rintro e w2 ⟨rfl, hw2⟩
  subst hw2
  go_wp2_with fail
  have HR := hide hr
  clear c1 d2 N2 hr
  go_loopw [7, 8, 25] (fun lv bv iv wr => ∃ (k : Nat) (last : Int) (u : Bool), k ≤ vl.length ∧ iv = .int .i64 k ∧ lv = .int .i64 last ∧ bv = .int .i64 (wBits u false) ∧ Hid (walkL ⟨vx, vy, vo, vl, vc⟩ s (vl.drop k) last u = walkL ⟨vx, vy, vo, vl, vc⟩ s vl (-1) false) ∧ RIn ⟨vx, vy, vo, vl, vc⟩ s w wr) (fun _ _ i _ => vl.length - (intOf i).toNat)
  case atStart => exact ⟨0, -1, false, Nat.zero_le _, rfl, rfl, rfl, hide rfl, unhide HWI⟩
  case round =>
    obtain ⟨k, last, u, hk, rfl, rfl, rfl, HE, hwi⟩ := hrel
    have o1 := wBits_or1 u; have o2 := wBits_or2 u; have o3 := wBits_or1 true
    by_cases hlt : k < vl.length
    · obtain ⟨x, hx⟩ : ∃ x, vl[k]? = some x := ⟨_, List.getElem?_eq_getElem hlt⟩
      have hdrop := drop_step vl k x hx
      obtain ⟨⟨hc0, hc1⟩, hw0, hw7⟩ := inB_of (unhide HALL) hx
      have hE := unhide HE
      rw [hdrop, walkL_step] at hE
      obtain ⟨hrr, _, _⟩ := (unhide HR).below hwi.bel
      rcases hrr with hnil | ⟨b, off, rfl, hb, hc⟩
      · rw [hnil] at hlt; simp at hlt
      obtain ⟨d0, d1, d2⟩ := hc k x hx
      have hal : Below wr.heap.size wr (wr.alloc (Obj.cells #[.int .i64 x.code, .int .i64 x.when, .bool x.next] 43)) := (Below.refl _ _).alloc (Nat.le_refl _) _
      have hwi1 := hwi.below hal
      have n3 := unhide N3 x _ hwi1.bel hw0 hw7
      have n4 := fun w3 (h3 : RIn ⟨vx, vy, some ⟨b, off, none⟩, vl, vc⟩ s w w3) => unhide N4 x.code w3 h3.bel hc0
      have hbw := box_way wr x
      obtain ⟨p0, p1, p2⟩ := hwi.ws.cells
      simp only at p0 p1 p2
      obtain ⟨q0, q1, q2, q3⟩ := hwi.sc.cells
      have hz0 : w.heap.size < wr.heap.size := block_ltW hwi.ws
      have hz1 : w.heap.size + 1 < wr.heap.size := block_ltW hwi.sc
      have HI1 := hide hwi1
      clear hc hx hdrop HE hwi hwi1 hal N3 N4 HALL hw0 hw7 hc0 hc1
      generalize appB x ⟨vx, vy, some ⟨b, off, none⟩, vl, vc⟩ s = q at *
      generalize wellB x.code s = qw at *
      cases q with
      | false =>
        simp only [cond_false] at hE
        have HE := hide hE
        have N3' := hide n3
        clear hE n3 n4 hbw o1 o2 o3
        go_wp2_with fail
        refine (unhide N3').mono ?_
        rintro e w3 ⟨rfl, hb3⟩
        have hwi3 := (unhide HI1).below hb3
        clear d0 d1 d2 p0 p1 p2 q0 q1 q2 q3 hz0 hz1
        go_wp2_with fail
        go_roundw
        case rel => exact ⟨k + 1, last, u, by omega, by go_num, rfl, rfl, HE, hwi3⟩
        case measure => simp [intOf]; omega
      | true =>
        simp only [cond_true] at hE
        have N3' := hide n3
        have N4' := hide n4
        have HBW := hide hbw
        have HE0 := hide hE
        have O1 := hide o1; have O2 := hide o2; have O3 := hide o3
        clear n3 n4 hbw hE o1 o2 o3
        go_wp2_with fail
        refine (unhide N3').mono ?_
        rintro e w3 ⟨rfl, hb3⟩
        have hwi3 := (unhide HI1).below hb3
        obtain ⟨m0, m2⟩ := unhide HBW w3 hb3
        have n4 := unhide N4' w3 hwi3
        clear q0 q1 q2 q3
        obtain ⟨q0, q1, q2, q3⟩ := hwi3.sc.cells
        have HI3 := hide hwi3
        have hE := unhide HE0
        have o1 := unhide O1; have o2 := unhide O2; have o3 := unhide O3
        clear d0 d1 d2 p0 p1 p2 hz0 hz1 hb3 hwi3 N4' N3' HBW HE0 O1 O2 O3 HI1
        have N4' := hide n4
        clear n4
        by_cases hc5 : 5 < x.code
        · have hu : (u || decide (5 < x.code)) = true := by rw [decide_eq_true hc5, Bool.or_true]
          rw [hu] at hE
          clear hu
          cases qw with
          | true =>
            simp only [cond_true] at hE
            have HE := hide hE
            clear hE
            go_wp2_with fail
            refine (unhide N4').mono ?_
            rintro e w4 ⟨rfl, hb4⟩
            have hwi4 := (unhide HI3).below hb4
            obtain ⟨k0, k1, k2⟩ := hwi4.k.cells
            have t0 := hwi4.k.thaw 0; have t1 := hwi4.k.thaw 1; have t2 := hwi4.k.thaw 2
            have m2' := (hb4.cell (World.block_lt_of_cell? _ _ m2)).trans m2
            have HK := hide hwi4.k
            have HBE := hide hwi4.bel
            have HI4 := hide hwi4
            clear hwi4 hb4 m2 m0 q0 q1 q2 q3 N4'
            go_wp2_with fail
            obtain ⟨z0, z1, z2⟩ := ((unhide HK).write (b := (x.code, true, wBits true false))).cells
            exact bodyPost_ret (v := .tuple #[.agg #[.int .i64 x.code, .bool true, .int .i64 (wBits true false)], .int .i64 0]) (by simp [results, Try.results12, go_sem, z0, z1, z2]) rfl ⟨by rw [← unhide HE]; rfl, (((unhide HBE).setCell (by show _ ≤ w.heap.size + 1 + 1; omega) _).setCell (by show _ ≤ w.heap.size + 1 + 1; omega) _).setCell (by show _ ≤ w.heap.size + 1 + 1; omega) _⟩
          | false =>
            simp only [cond_false] at hE
            cases hnx : x.next with
            | true =>
              rw [hnx] at hE m2
              simp only [cond_true] at hE
              have HE := hide hE
              clear hE hnx
              go_wp2_with fail
              refine (unhide N4').mono ?_
              rintro e w4 ⟨rfl, hb4⟩
              have hwi4 := (unhide HI3).below hb4
              obtain ⟨k0, k1, k2⟩ := hwi4.k.cells
              have t0 := hwi4.k.thaw 0; have t1 := hwi4.k.thaw 1; have t2 := hwi4.k.thaw 2
              have m2' := (hb4.cell (World.block_lt_of_cell? _ _ m2)).trans m2
              have HK := hide hwi4.k
              have HBE := hide hwi4.bel
              have HI4 := hide hwi4
              clear hwi4 hb4 m2 m0 q0 q1 q2 q3 N4'
              go_wp2_with fail
              go_roundw
              case rel => exact ⟨k + 1, x.code, true, by omega, by go_num, rfl, rfl, HE, unhide HI4⟩
              case measure => simp [intOf]; omega
            | false =>
              rw [hnx] at hE m2
              simp only [cond_false] at hE
              have HE := hide hE
              clear hE hnx
              go_wp2_with fail
              refine (unhide N4').mono ?_
              rintro e w4 ⟨rfl, hb4⟩
              have hwi4 := (unhide HI3).below hb4
              obtain ⟨k0, k1, k2⟩ := hwi4.k.cells
              have t0 := hwi4.k.thaw 0; have t1 := hwi4.k.thaw 1; have t2 := hwi4.k.thaw 2
              have m2' := (hb4.cell (World.block_lt_of_cell? _ _ m2)).trans m2
              have HK := hide hwi4.k
              have HBE := hide hwi4.bel
              have HI4 := hide hwi4
              clear hwi4 hb4 m2 m0 q0 q1 q2 q3 N4'
              go_wp2_with fail
              obtain ⟨z0, z1, z2⟩ := ((unhide HK).write (b := (x.code, false, wBits true true))).cells
              exact bodyPost_ret (v := .tuple #[.agg #[.int .i64 x.code, .bool false, .int .i64 (wBits true true)], .int .i64 0]) (by simp [results, Try.results12, go_sem, z0, z1, z2]) rfl ⟨by rw [← unhide HE]; rfl, (((unhide HBE).setCell (by show _ ≤ w.heap.size + 1 + 1; omega) _).setCell (by show _ ≤ w.heap.size + 1 + 1; omega) _).setCell (by show _ ≤ w.heap.size + 1 + 1; omega) _⟩
        · have hu : (u || decide (5 < x.code)) = u := by rw [decide_eq_false hc5, Bool.or_false]
          rw [hu] at hE
          clear hu
          cases qw with
          | true =>
            simp only [cond_true] at hE
            have HE := hide hE
            clear hE
            go_wp2_with fail
            refine (unhide N4').mono ?_
            rintro e w4 ⟨rfl, hb4⟩
            have hwi4 := (unhide HI3).below hb4
            obtain ⟨k0, k1, k2⟩ := hwi4.k.cells
            have t0 := hwi4.k.thaw 0; have t1 := hwi4.k.thaw 1; have t2 := hwi4.k.thaw 2
            have m2' := (hb4.cell (World.block_lt_of_cell? _ _ m2)).trans m2
            have HK := hide hwi4.k
            have HBE := hide hwi4.bel
            have HI4 := hide hwi4
            clear hwi4 hb4 m2 m0 q0 q1 q2 q3 N4'
            go_wp2_with fail
            obtain ⟨z0, z1, z2⟩ := ((unhide HK).write (b := (x.code, true, wBits u false))).cells
            exact bodyPost_ret (v := .tuple #[.agg #[.int .i64 x.code, .bool true, .int .i64 (wBits u false)], .int .i64 0]) (by simp [results, Try.results12, go_sem, z0, z1, z2]) rfl ⟨by rw [← unhide HE]; rfl, (((unhide HBE).setCell (by show _ ≤ w.heap.size + 1 + 1; omega) _).setCell (by show _ ≤ w.heap.size + 1 + 1; omega) _).setCell (by show _ ≤ w.heap.size + 1 + 1; omega) _⟩
          | false =>
            simp only [cond_false] at hE
            cases hnx : x.next with
            | true =>
              rw [hnx] at hE m2
              simp only [cond_true] at hE
              have HE := hide hE
              clear hE hnx
              go_wp2_with fail
              refine (unhide N4').mono ?_
              rintro e w4 ⟨rfl, hb4⟩
              have hwi4 := (unhide HI3).below hb4
              obtain ⟨k0, k1, k2⟩ := hwi4.k.cells
              have t0 := hwi4.k.thaw 0; have t1 := hwi4.k.thaw 1; have t2 := hwi4.k.thaw 2
              have m2' := (hb4.cell (World.block_lt_of_cell? _ _ m2)).trans m2
              have HK := hide hwi4.k
              have HBE := hide hwi4.bel
              have HI4 := hide hwi4
              clear hwi4 hb4 m2 m0 q0 q1 q2 q3 N4'
              go_wp2_with fail
              go_roundw
              case rel => exact ⟨k + 1, x.code, u, by omega, by go_num, rfl, rfl, HE, unhide HI4⟩
              case measure => simp [intOf]; omega
            | false =>
              rw [hnx] at hE m2
              simp only [cond_false] at hE
              have HE := hide hE
              clear hE hnx
              go_wp2_with fail
              refine (unhide N4').mono ?_
              rintro e w4 ⟨rfl, hb4⟩
              have hwi4 := (unhide HI3).below hb4
              obtain ⟨k0, k1, k2⟩ := hwi4.k.cells
              have t0 := hwi4.k.thaw 0; have t1 := hwi4.k.thaw 1; have t2 := hwi4.k.thaw 2
              have m2' := (hb4.cell (World.block_lt_of_cell? _ _ m2)).trans m2
              have HK := hide hwi4.k
              have HBE := hide hwi4.bel
              have HI4 := hide hwi4
              clear hwi4 hb4 m2 m0 q0 q1 q2 q3 N4'
              go_wp2_with fail
              obtain ⟨z0, z1, z2⟩ := ((unhide HK).write (b := (x.code, false, wBits u true))).cells
              exact bodyPost_ret (v := .tuple #[.agg #[.int .i64 x.code, .bool false, .int .i64 (wBits u true)], .int .i64 0]) (by simp [results, Try.results12, go_sem, z0, z1, z2]) rfl ⟨by rw [← unhide HE]; rfl, (((unhide HBE).setCell (by show _ ≤ w.heap.size + 1 + 1; omega) _).setCell (by show _ ≤ w.heap.size + 1 + 1; omega) _).setCell (by show _ ≤ w.heap.size + 1 + 1; omega) _⟩
    · have hkl : k = vl.length := by omega
      have hE := unhide HE
      rw [hkl, List.drop_length] at hE
      have HE2 := hide (show (last, false, wBits u true) = _ from hE)
      obtain ⟨k0, k1, k2⟩ := hwi.k.cells
      have t0 := hwi.k.thaw 0; have t1 := hwi.k.thaw 1; have t2 := hwi.k.thaw 2
      have HK := hide hwi.k
      have HBE := hide hwi.bel
      clear hE HE hwi hkl
      go_wp2_with fail
      obtain ⟨z0, z1, z2⟩ := ((unhide HK).write (b := (last, false, wBits u true))).cells
      exact bodyPost_ret (v := .tuple #[.agg #[.int .i64 last, .bool false, .int .i64 (wBits u true)], .int .i64 0]) (by simp [results, Try.results12, go_sem, z0, z1, z2]) rfl ⟨by rw [← unhide HE2]; rfl, (((unhide HBE).setCell (by show _ ≤ w.heap.size + 1 + 1; omega) _).setCell (by show _ ≤ w.heap.size + 1 + 1; omega) _).setCell (by show _ ≤ w.heap.size + 1 + 1; omega) _⟩
end Go.Proofs.Ytklnbkfajjgkaaf
