/- Ways, Applies, GoesWell of the document's own. -/
import Derived.Test.YtklnbkfajjgkaafWalkP
import Derived.Deep.RegionHeld3
namespace Go.Proofs.Ytklnbkfajjgkaaf
open Go.RowKit
set_option linter.unusedVariables false

set_option maxHeartbeats 2000000 in
theorem rgoesWell_any (code : Int) (s : XScene) (w : World) (hr : Rowint w s.ableo s.able) (hr2 : Rowint w s.wello s.well) (h0 : 0 ≤ code) :
    Calls Try.prog 16 #[.int .i64 code, valScene s] w fun e w' => e = .returned (.bool (wellB code s)) ∧ Below w.heap.size w w' := by
  have hbx := fun o : Obj => (Below.refl w.heap.size w).alloc (Nat.le_refl _) o
  have N1 := hide (fun o => among_ref code s.able s.ableo s.ablec _ (hr.below (hbx o)))
  have N2 := hide (fun o => among_ref code s.well s.wello s.wellc _ (hr2.below (hbx o)))
  have HB := hide hbx
  clear hr hr2 hbx
  unfold valScene
  by_cases h5 : code = 5
  · have HE : Hid (wellB code s = true) := hide (by rw [wellB, if_pos h5])
    clear h0
    go_enter Try.func16, Try.ntmps16
    go_wp2
    go_ret
    exact ⟨ret_bool (unhide HE).symm, unhide HB _⟩
  · by_cases h00 : code < 1
    · have HE : Hid (wellB code s = false) := hide (by rw [wellB, if_neg h5, if_pos (.inl (by omega))])
      go_enter Try.func16, Try.ntmps16
      go_wp2
      go_ret
      exact ⟨ret_bool (by rw [unhide HE]; simp; omega), unhide HB _⟩
    · by_cases h6 : 4 < code
      · have HE : Hid (wellB code s = false) := hide (by rw [wellB, if_neg h5, if_pos (.inr (by omega))])
        go_enter Try.func16, Try.ntmps16
        go_wp2
        go_ret
        exact ⟨ret_bool (by rw [unhide HE]; simp; omega), unhide HB _⟩
      · have HE : Hid (wellB code s = (inInts code s.able && inInts code s.well)) := hide (by rw [wellB, if_neg h5, if_neg (by omega)])
        generalize inInts code s.able = q1 at *
        generalize inInts code s.well = q2 at *
        cases q1 with
        | false =>
          go_enter Try.func16, Try.ntmps16
          go_wp2_with fail
          refine (unhide N1 _).mono ?_
          rintro e w1 ⟨rfl, rfl⟩
          go_wp2
          go_ret
          exact ⟨ret_bool (by rw [unhide HE, show (code == 5) = false from by simp; omega]; rfl), unhide HB _⟩
        | true =>
          go_enter Try.func16, Try.ntmps16
          go_wp2_with fail
          refine (unhide N1 _).mono ?_
          rintro e w1 ⟨rfl, rfl⟩
          go_wp2_with fail
          refine (unhide N2 _).mono ?_
          rintro e w1 ⟨rfl, rfl⟩
          go_wp2
          go_ret
          exact ⟨ret_bool (by rw [unhide HE, show (code == 5) = false from by simp; omega]; rfl), unhide HB _⟩

set_option maxHeartbeats 2000000 in
theorem rways_any (v : XWays) (w : World) (hr : RowWay w v.listo v.list) :
    Calls Try.prog 14 #[valWays v] w fun e w' => e = .returned (.int .i64 (waysE v)) ∧ Below w.heap.size w w' := by
  obtain ⟨vx, vy, vo, vl, vc⟩ := v
  have n1 := fun w => ramount_any vx w
  have n2 := fun w => ramount_any vy w
  have el := @waysE_long ⟨vx, vy, vo, vl, vc⟩
  have eo := @waysE_ok ⟨vx, vy, vo, vl, vc⟩
  have en := @waysE_no ⟨vx, vy, vo, vl, vc⟩
  have hbx := fun o : Obj => (Below.refl w.heap.size w).alloc (Nat.le_refl _) o
  unfold valWays
  simp only at *
  generalize waysE ⟨vx, vy, vo, vl, vc⟩ = E at *
  by_cases hl : 20 < vl.length
  · have HE := hide (el hl)
    have HB := hide hbx
    clear n1 n2 el eo en hbx hr
    go_enter Try.func14, Try.ntmps14
    go_wp2
    go_ret
    exact ⟨ret_int (unhide HE).symm, unhide HB _⟩
  · clear el
    have hl' : vl.length ≤ 20 := by omega
    have he : ∀ q : Bool, q = (decide (0 ≤ vx ∧ vx ≤ 999999999999) && decide (0 ≤ vy ∧ vy ≤ 999999999999) && !(vl.any (fun x => !inB x))) → E = bif q then 0 else 3 := fun q hq => by
      subst hq
      by_cases hx : 0 ≤ vx ∧ vx ≤ 999999999999
      · by_cases hy : 0 ≤ vy ∧ vy ≤ 999999999999
        · cases hz : vl.any (fun x => !inB x) with
          | true => rw [en hl' (fun hh => by rw [hz] at hh; cases hh.2)]; simp
          | false => rw [eo hl' hx hy hz, decide_eq_true hx, decide_eq_true hy]; rfl
        · rw [en hl' (fun hh => hy hh.1.2), decide_eq_false hy]; simp
      · rw [en hl' (fun hh => hx hh.1.1), decide_eq_false hx]; simp
    have HE := hide he
    clear eo en he
    generalize decide (0 ≤ vx ∧ vx ≤ 999999999999) = q1 at *
    generalize decide (0 ≤ vy ∧ vy ≤ 999999999999) = q2 at *
    have N1 := hide n1; have N2 := hide n2
    have HB := hide hbx
    have HR := hide hr
    clear n1 n2 hbx hr
    have hcase : (q1 = false) ∨ (q1 = true ∧ q2 = false) ∨ (q1 = true ∧ q2 = true) := by cases q1 <;> cases q2 <;> simp
    have hok : ∃ q, q = (q1 && q2) := ⟨_, rfl⟩
    obtain ⟨q, hq⟩ := hok
    rw [← hq] at HE
    have HQ := hide hq
    clear hq
    rcases hcase with rfl | ⟨rfl, rfl⟩ | ⟨rfl, rfl⟩ <;>
    · go_enter Try.func14, Try.ntmps14
      go_wp2_with (first | (go_at_call_of 31 (Value.int .i64 vx); refine (unhide N1 _).mono ?_; rintro e w1 ⟨rfl, hw1⟩; subst hw1) | (go_at_call_of 31 (Value.int .i64 vy); refine (unhide N2 _).mono ?_; rintro e w1 ⟨rfl, hw1⟩; subst hw1))
      go_loopw [3, 21] (fun ov iv wr => ∃ k : Nat, k ≤ vl.length ∧ iv = .int .i64 k ∧ ov = .bool (q && !((vl.take k).any (fun x => !inB x))) ∧ Below w.heap.size w wr) (fun _ i _ => vl.length - (intOf i).toNat)
      case atStart => exact ⟨0, Nat.zero_le _, rfl, by rw [unhide HQ]; simp, unhide HB _⟩
      case round =>
        obtain ⟨k, hk, rfl, rfl, hbw⟩ := hrel
        by_cases hlt : k < vl.length
        · obtain ⟨x, hx⟩ : ∃ x, vl[k]? = some x := ⟨_, List.getElem?_eq_getElem hlt⟩
          have hstep : (q && !((vl.take (k + 1)).any (fun x => !inB x))) = ((q && !((vl.take k).any (fun x => !inB x))) && inB x) := by
            rw [anyW_take_succ vl _ k x hx]
            generalize (vl.take k).any (fun x => !inB x) = t
            cases q <;> cases t <;> cases inB x <;> rfl
          obtain ⟨hrr, _, _⟩ := (unhide HR).below hbw
          rcases hrr with hnil | ⟨b, off, rfl, hb, hc⟩
          · rw [hnil] at hlt; simp at hlt
          obtain ⟨d0, d1, d2⟩ := hc k x hx
          generalize (q && !((vl.take k).any (fun x => !inB x))) = o at *
          generalize hn : (q && !((vl.take (k + 1)).any (fun x => !inB x))) = o' at *
          have HN := hide hn
          have hal := fun o : Obj => hbw.alloc hbw.size o
          have HAL := hide hal
          clear hn hc hx hal hbw
          cases o with
          | false =>
            have HO : Hid (o' = false) := hide (by rw [hstep, Bool.false_and])
            clear hstep
            go_wp2
            go_roundw
            case rel => exact ⟨k + 1, by omega, by go_num, by rw [unhide HN, unhide HO], unhide HAL _⟩
            case measure => simp [intOf]; omega
          | true =>
            rw [Bool.true_and] at hstep
            have hcase : x.code < 0 ∨ (0 ≤ x.code ∧ 64 ≤ x.code) ∨ (0 ≤ x.code ∧ x.code < 64 ∧ x.when < 0) ∨ (0 ≤ x.code ∧ x.code < 64 ∧ 0 ≤ x.when ∧ 8 ≤ x.when) ∨ (0 ≤ x.code ∧ x.code < 64 ∧ 0 ≤ x.when ∧ x.when < 8) := by omega
            have hin : o' = decide ((0 ≤ x.code ∧ x.code ≤ 63) ∧ (0 ≤ x.when ∧ x.when ≤ 7)) := hstep
            rcases hcase with h1 | ⟨h1, h2⟩ | ⟨h1, h2, h3⟩ | ⟨h1, h2, h3, h4⟩ | ⟨h1, h2, h3, h4⟩
            case inr.inr.inr.inr =>
              have HO : Hid (o' = true) := hide (by rw [hin]; exact decide_eq_true (by omega))
              clear hstep hin
              go_wp2
              go_roundw
              case rel => exact ⟨k + 1, by omega, by go_num, by rw [unhide HN, unhide HO], unhide HAL _⟩
              case measure => simp [intOf]; omega
            all_goals
              have HO : Hid (o' = false) := hide (by rw [hin]; exact decide_eq_false (by omega))
              clear hstep hin
              go_wp2
              go_roundw
              case rel => exact ⟨k + 1, by omega, by go_num, by rw [unhide HN, unhide HO] <;> (congr 1; exact decide_eq_false (by omega)), unhide HAL _⟩
              case measure => simp [intOf]; omega
        · have hkl : vl.take k = vl := List.take_of_length_le (by omega)
          rw [hkl]
          clear hkl
          have hE := unhide HE _ rfl
          generalize (q && !(vl.any (fun x => !inB x))) = o at *
          have HE2 := hide hE
          clear hE
          cases o <;>
          · go_wp2
            go_ret
            exact ⟨ret_int (unhide HE2).symm, hbw⟩
end Go.Proofs.Ytklnbkfajjgkaaf
