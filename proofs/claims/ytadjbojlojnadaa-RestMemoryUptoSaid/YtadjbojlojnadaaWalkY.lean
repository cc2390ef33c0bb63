/- Walk of the program, where nothing is wrong. -/
import Derived.Test.YtadjbojlojnadaaWalkP
namespace Go.Proofs.Ytadjbojlojnadaa
open Go.RowKit
set_option linter.unusedVariables false

/-- what lies in memory while the ways are gone through -/
structure WIn (v : XWays) (s : XScene) (w : World) (ga : Nat) (wr : World) : Prop where
  bel : Below w.heap.size w wr
  ws : WsAt wr w.heap.size v
  sc : ScAt wr (w.heap.size + 1) s
  k : KAt wr (w.heap.size + 1 + 1) (0, false, 0)
  able : wr.cell? ⟨ga, 0, none⟩ = some (.func (.func 21) #[] #[.pointer (some ⟨w.heap.size + 1, 0, none⟩)])
theorem WIn.below {v : XWays} {s : XScene} {w : World} {ga : Nat} {wr wr' : World} (h : WIn v s w ga wr) (hb : Below wr.heap.size wr wr') : WIn v s w ga wr' :=
  ⟨h.bel.trans (hb.mono h.bel.size), h.ws.below hb, h.sc.below hb, h.k.below hb, (hb.cell (World.block_lt_of_cell? _ _ h.able)).trans h.able⟩
theorem walkL_step (v : XWays) (s : XScene) (x : XWay) (r : List XWay) (last : Int) (u : Bool) : walkL v s (x :: r) last u = bif appB x v s then (bif wellB x.code s then (x.code, true, wBits (u || decide (5 < x.code)) false) else bif x.next then walkL v s r x.code (u || decide (5 < x.code)) else (x.code, false, wBits (u || decide (5 < x.code)) true)) else walkL v s r last u := rfl
theorem drop_step {α : Type} (l : List α) (k : Nat) (y : α) (h : l[k]? = some y) : l.drop k = y :: l.drop (k + 1) := by
  obtain ⟨hk, rfl⟩ := List.getElem?_eq_some_iff.1 h
  exact List.drop_eq_getElem_cons hk
theorem box_way (wr : World) (x : XWay) (w3 : World) (hb : Below (wr.alloc (Obj.cells #[.int .i64 x.code, .int .i64 x.when, .bool x.next] 34)).heap.size (wr.alloc (Obj.cells #[.int .i64 x.code, .int .i64 x.when, .bool x.next] 34)) w3) :
    w3.cell? ⟨wr.heap.size, 0, none⟩ = some (.int .i64 x.code) ∧ w3.cell? ⟨wr.heap.size, 2, none⟩ = some (.bool x.next) := by
  refine ⟨?_, ?_⟩ <;> (refine (hb.cell (by simp)).trans ?_; rw [World.cell?_alloc_at _ _ _ _ rfl]; rfl)

set_option maxHeartbeats 8000000 in
theorem walk_yes (v : XWays) (s : XScene) (w : World) (hr : RowWay w v.listo v.list) (hra : Rowint w s.ableo s.able) (hrw : Rowint w s.wello s.well) (h : walkE v s = 0) :
    Calls Try.prog 7 #[valWays v, valScene s] w fun e w' => e = .returned (.tuple #[valWalked (walkL v s v.list (-1) false), .int .i64 0]) ∧ Below w.heap.size w w' := by
  have h1 : waysE v = 0 := by
    by_cases h1 : waysE v = 0
    · exact h1
    · rw [walkE, if_neg h1] at h; exact h
  have h2 : 0 ≤ s.amount ∧ s.amount ≤ 999999999999 := by
    by_cases h2 : 0 ≤ s.amount ∧ s.amount ≤ 999999999999
    · exact h2
    · rw [walkE, if_pos h1, if_neg h2] at h; cases h
  have hlen := (waysE_zero h1).1
  have n1 := fun w' (hb : Below w.heap.size w w') => checkWays_any v w' (hr.below hb)
  have n2 := fun w' => isAmount_any s.amount w'
  rw [h1] at n1
  rw [decide_eq_true h2] at n2
  have hbx := below_wboxes v s w
  have hat := wboxes_at v s w
  have hsz := size_wboxes v s w
  have n3 := fun x w' (hb : Below w.heap.size w w') (hs : ScAt w' (w.heap.size + 1) s) => applies_any x v s (w.heap.size + 1) w' hs (hra.below hb)
  have n4 := fun code ga w' (hb : Below w.heap.size w w') (hs : ScAt w' (w.heap.size + 1) s) ha => goesWell_any code s (w.heap.size + 1) ga w' hs (hra.below hb) (hrw.below hb) ha
  obtain ⟨vx, vy, vo, vl, vc⟩ := v
  unfold valWays valScene valWay at *
  simp only at n1 n2 n3 n4 hr hlen ⊢
  have N1 := hide (n1 _ hbx); have N2 := hide n2; have N3 := hide n3; have N4 := hide n4
  clear n1 n2 n3 n4 h1 h2 h hra hrw
  have hst : ∀ (fn : Fn) (f c : Array Value) (a : Addr) (m : Mode) (wx : World), (store a (.func fn f c) m).run Try.prog wx = stored Try.prog wx a (.func fn f c) m := fun fn f c a m wx => run_store _ wx a _ m rfl
  go_enter Try.func7, Try.ntmps7
  go_wp2_with fail
  refine (unhide N1).mono ?_
  rintro e w1 ⟨rfl, hb1⟩
  have hsc := hat.2.1.below hb1
  have hws := hat.1.below hb1
  have hk := hat.2.2.below hb1
  have hb2 := hbx.trans (hb1.mono hbx.size)
  have hs1 : w.heap.size + 3 ≤ w1.heap.size := by have := hb1.size; omega
  have c1 := hsc.cells.1
  have d2 := hws.cells.2.2
  simp only at d2
  have hq0 : w.heap.size < w1.heap.size := by omega
  have hq1 : w.heap.size + 1 < w1.heap.size := by omega
  have HW0 := hide hs1
  have HSC := hide hsc; have HWS := hide hws; have HKK := hide hk; have HB2 := hide hb2
  clear hb1 hat hbx hsz hsc hws hk hb2 N1 hs1
  go_wp2_with fail
  refine (unhide N2 _).mono ?_
  rintro e w2 ⟨rfl, hw2⟩
  subst hw2
  go_wp2_with fail
  have hlw : vl.length ≤ 20 := hlen
  have HR := hide hr
  have HWI : Hid (WIn ⟨vx, vy, vo, vl, vc⟩ s w w2.heap.size (w2.alloc (Obj.cells #[.func (.func 21) #[] #[.pointer (some ⟨w.heap.size + 1, 0, none⟩)]] 69))) := hide (WIn.mk
    ((unhide HB2).alloc (unhide HB2).size _) ((unhide HWS).below ((Below.refl _ _).alloc (Nat.le_refl _) _)) ((unhide HSC).below ((Below.refl _ _).alloc (Nat.le_refl _) _)) ((unhide HKK).below ((Below.refl _ _).alloc (Nat.le_refl _) _)) (by rw [World.cell?_alloc_at _ _ _ _ rfl]; rfl))
  clear c1 d2 hq0 hq1 HW0 HSC HWS HKK HB2 N2 hr hlen
  go_loopw [9, 10, 29] (fun lv bv iv wr => ∃ (k : Nat) (last : Int) (u : Bool), k ≤ vl.length ∧ iv = .int .i64 k ∧ lv = .int .i64 last ∧ bv = .int .i64 (wBits u false) ∧ Hid (walkL ⟨vx, vy, vo, vl, vc⟩ s (vl.drop k) last u = walkL ⟨vx, vy, vo, vl, vc⟩ s vl (-1) false) ∧ WIn ⟨vx, vy, vo, vl, vc⟩ s w w2.heap.size wr) (fun _ _ i _ => vl.length - (intOf i).toNat)
  case atStart => exact ⟨0, -1, false, Nat.zero_le _, rfl, rfl, rfl, hide rfl, unhide HWI⟩
  case round =>
    obtain ⟨k, last, u, hk, rfl, rfl, rfl, HE, hwi⟩ := hrel
    have o1 := wBits_or1 u; have o2 := wBits_or2 u; have o3 := wBits_or1 true
    by_cases hlt : k < vl.length
    · obtain ⟨x, hx⟩ : ∃ x, vl[k]? = some x := ⟨_, List.getElem?_eq_getElem hlt⟩
      have hdrop := drop_step vl k x hx
      have hE := unhide HE
      rw [hdrop, walkL_step] at hE
      obtain ⟨hrr, _, _⟩ := (unhide HR).below hwi.bel
      rcases hrr with hnil | ⟨b, off, rfl, hb, hc⟩
      · rw [hnil] at hlt; simp at hlt
      obtain ⟨d0, d1, d2⟩ := hc k x hx
      have hal : Below wr.heap.size wr (wr.alloc (Obj.cells #[.int .i64 x.code, .int .i64 x.when, .bool x.next] 34)) := (Below.refl _ _).alloc (Nat.le_refl _) _
      have hwi1 := hwi.below hal
      have n3 := unhide N3 x _ hwi1.bel hwi1.sc
      have n4 := fun w3 (h3 : WIn ⟨vx, vy, some ⟨b, off, none⟩, vl, vc⟩ s w w2.heap.size w3) => unhide N4 x.code w2.heap.size w3 h3.bel h3.sc h3.able
      have hbw := box_way wr x
      obtain ⟨p0, p1, p2⟩ := hwi.ws.cells
      simp only at p0 p1 p2
      obtain ⟨q0, q1, q2, q3⟩ := hwi.sc.cells
      have qa := hwi.able
      have hz0 : w.heap.size < wr.heap.size := block_ltW hwi.ws
      have hz1 : w.heap.size + 1 < wr.heap.size := block_ltW hwi.sc
      have hza : w2.heap.size < wr.heap.size := World.block_lt_of_cell? _ _ qa
      have HI1 := hide hwi1
      have HX := hide hx
      clear hc hx hdrop HE hwi hwi1 hal N3 N4
      generalize appB x ⟨vx, vy, some ⟨b, off, none⟩, vl, vc⟩ s = q at *
      generalize wellB x.code s = qw at *
      cases q with
      | false =>
        simp only [cond_false] at hE
        have HE := hide hE
        have N3' := hide n3
        clear hE n3 n4 hbw o1 o2 o3
        go_wp2_with fail
        refine (unhide N3').mono ?_
        rintro e w3 ⟨rfl, hb3⟩
        have hwi3 := (unhide HI1).below hb3
        clear d0 d1 d2 p0 p1 p2 q0 q1 q2 q3 qa hz0 hz1 hza
        go_wp2_with fail
        go_roundw
        case rel => exact ⟨k + 1, last, u, by omega, by go_num, rfl, rfl, HE, hwi3⟩
        case measure => simp [intOf]; omega
      | true =>
        simp only [cond_true] at hE
        have N3' := hide n3
        have N4' := hide n4
        have HBW := hide hbw
        have HE0 := hide hE
        have O1 := hide o1; have O2 := hide o2; have O3 := hide o3
        clear n3 n4 hbw hE o1 o2 o3
        go_wp2_with fail
        refine (unhide N3').mono ?_
        rintro e w3 ⟨rfl, hb3⟩
        have hwi3 := (unhide HI1).below hb3
        obtain ⟨m0, m2⟩ := unhide HBW w3 hb3
        have n4 := unhide N4' w3 hwi3
        obtain ⟨k0, k1, k2⟩ := hwi3.k.cells
        have t0 := hwi3.k.thaw 0; have t1 := hwi3.k.thaw 1; have t2 := hwi3.k.thaw 2
        have HK := hide hwi3.k
        have HBE := hide hwi3.bel
        have HI3 := hide hwi3
        have hE := unhide HE0
        have o1 := unhide O1; have o2 := unhide O2; have o3 := unhide O3
        clear d0 d1 d2 p0 p1 p2 q0 q1 q2 q3 qa hz0 hz1 hza hb3 hwi3 N4' N3' HBW HE0 O1 O2 O3 HI1
        have N4' := hide n4
        clear n4
        by_cases hc5 : 5 < x.code
        · have hu : (u || decide (5 < x.code)) = true := by rw [decide_eq_true hc5, Bool.or_true]
          rw [hu] at hE
          clear hu
          cases qw with
          | true =>
            simp only [cond_true] at hE
            have HE := hide hE
            clear hE
            go_wp2_with fail
            refine (unhide N4').mono ?_
            rintro e w4 ⟨rfl, hw4⟩
            subst hw4
            go_wp2_with fail
            obtain ⟨z0, z1, z2⟩ := ((unhide HK).write (b := (x.code, true, wBits true false))).cells
            exact bodyPost_ret (v := .tuple #[.agg #[.int .i64 x.code, .bool true, .int .i64 (wBits true false)], .int .i64 0]) (by simp [results, Try.results7, go_sem, z0, z1, z2]) rfl ⟨by rw [← unhide HE]; rfl, (((unhide HBE).setCell (by show _ ≤ w.heap.size + 1 + 1; omega) _).setCell (by show _ ≤ w.heap.size + 1 + 1; omega) _).setCell (by show _ ≤ w.heap.size + 1 + 1; omega) _⟩
          | false =>
            simp only [cond_false] at hE
            cases hnx : x.next with
            | true =>
              rw [hnx] at hE m2
              simp only [cond_true] at hE
              have HE := hide hE
              clear hE hnx
              go_wp2_with fail
              refine (unhide N4').mono ?_
              rintro e w4 ⟨rfl, hw4⟩
              subst hw4
              go_wp2_with fail
              go_roundw
              case rel => exact ⟨k + 1, x.code, true, by omega, by go_num, rfl, rfl, HE, unhide HI3⟩
              case measure => simp [intOf]; omega
            | false =>
              rw [hnx] at hE m2
              simp only [cond_false] at hE
              have HE := hide hE
              clear hE hnx
              go_wp2_with fail
              refine (unhide N4').mono ?_
              rintro e w4 ⟨rfl, hw4⟩
              subst hw4
              go_wp2_with fail
              obtain ⟨z0, z1, z2⟩ := ((unhide HK).write (b := (x.code, false, wBits true true))).cells
              exact bodyPost_ret (v := .tuple #[.agg #[.int .i64 x.code, .bool false, .int .i64 (wBits true true)], .int .i64 0]) (by simp [results, Try.results7, go_sem, z0, z1, z2]) rfl ⟨by rw [← unhide HE]; rfl, (((unhide HBE).setCell (by show _ ≤ w.heap.size + 1 + 1; omega) _).setCell (by show _ ≤ w.heap.size + 1 + 1; omega) _).setCell (by show _ ≤ w.heap.size + 1 + 1; omega) _⟩
        · have hu : (u || decide (5 < x.code)) = u := by rw [decide_eq_false hc5, Bool.or_false]
          rw [hu] at hE
          clear hu
          cases qw with
          | true =>
            simp only [cond_true] at hE
            have HE := hide hE
            clear hE
            go_wp2_with fail
            refine (unhide N4').mono ?_
            rintro e w4 ⟨rfl, hw4⟩
            subst hw4
            go_wp2_with fail
            obtain ⟨z0, z1, z2⟩ := ((unhide HK).write (b := (x.code, true, wBits u false))).cells
            exact bodyPost_ret (v := .tuple #[.agg #[.int .i64 x.code, .bool true, .int .i64 (wBits u false)], .int .i64 0]) (by simp [results, Try.results7, go_sem, z0, z1, z2]) rfl ⟨by rw [← unhide HE]; rfl, (((unhide HBE).setCell (by show _ ≤ w.heap.size + 1 + 1; omega) _).setCell (by show _ ≤ w.heap.size + 1 + 1; omega) _).setCell (by show _ ≤ w.heap.size + 1 + 1; omega) _⟩
          | false =>
            simp only [cond_false] at hE
            cases hnx : x.next with
            | true =>
              rw [hnx] at hE m2
              simp only [cond_true] at hE
              have HE := hide hE
              clear hE hnx
              go_wp2_with fail
              refine (unhide N4').mono ?_
              rintro e w4 ⟨rfl, hw4⟩
              subst hw4
              go_wp2_with fail
              go_roundw
              case rel => exact ⟨k + 1, x.code, u, by omega, by go_num, rfl, rfl, HE, unhide HI3⟩
              case measure => simp [intOf]; omega
            | false =>
              rw [hnx] at hE m2
              simp only [cond_false] at hE
              have HE := hide hE
              clear hE hnx
              go_wp2_with fail
              refine (unhide N4').mono ?_
              rintro e w4 ⟨rfl, hw4⟩
              subst hw4
              go_wp2_with fail
              obtain ⟨z0, z1, z2⟩ := ((unhide HK).write (b := (x.code, false, wBits u true))).cells
              exact bodyPost_ret (v := .tuple #[.agg #[.int .i64 x.code, .bool false, .int .i64 (wBits u true)], .int .i64 0]) (by simp [results, Try.results7, go_sem, z0, z1, z2]) rfl ⟨by rw [← unhide HE]; rfl, (((unhide HBE).setCell (by show _ ≤ w.heap.size + 1 + 1; omega) _).setCell (by show _ ≤ w.heap.size + 1 + 1; omega) _).setCell (by show _ ≤ w.heap.size + 1 + 1; omega) _⟩
    · have hkl : k = vl.length := by omega
      have hE := unhide HE
      rw [hkl, List.drop_length] at hE
      have HE2 := hide (show (last, false, wBits u true) = _ from hE)
      obtain ⟨k0, k1, k2⟩ := hwi.k.cells
      have t0 := hwi.k.thaw 0; have t1 := hwi.k.thaw 1; have t2 := hwi.k.thaw 2
      have HK := hide hwi.k
      have HBE := hide hwi.bel
      clear hE HE hwi hkl
      go_wp2_with fail
      obtain ⟨z0, z1, z2⟩ := ((unhide HK).write (b := (last, false, wBits u true))).cells
      exact bodyPost_ret (v := .tuple #[.agg #[.int .i64 last, .bool false, .int .i64 (wBits u true)], .int .i64 0]) (by simp [results, Try.results7, go_sem, z0, z1, z2]) rfl ⟨by rw [← unhide HE2]; rfl, (((unhide HBE).setCell (by show _ ≤ w.heap.size + 1 + 1; omega) _).setCell (by show _ ≤ w.heap.size + 1 + 1; omega) _).setCell (by show _ ≤ w.heap.size + 1 + 1; omega) _⟩
end Go.Proofs.Ytadjbojlojnadaa
