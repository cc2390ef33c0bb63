/- What is wrong with applications: Apps of the document's own. -/
import Derived.Test.YtfpglpefofcdeaaGreatDoorM21
import Derived.Deep.QuietTactic
import Derived.BigQuiet
import Derived.Deep.DeepCutAuto
import Derived.Deep.CutBlock
namespace Go.Proofs.YtfpglpefofcdeaaGreatDoor
open Go.RowKit
set_option linter.unusedVariables false

theorem dupTo_mono (ns : List (List UInt8)) (k n : Nat) (h : dupTo ns k = true) (hkn : k ≤ n) : dupTo ns n = true := by
  induction n with
  | zero => rw [show k = 0 by omega] at h; exact h
  | succ n ih =>
    by_cases hk : k = n + 1
    · rw [← hk]; exact h
    · rw [dupTo, ih (by omega), Bool.true_or]

set_option maxRecDepth 100000 in
set_option maxHeartbeats 4000000 in
theorem rapps_any (l : List XApp) (ao : Option Addr) (cap : Nat) (w : World) (hr : RowApp w ao l) :
    Calls Tryz.prog 56 #[.slice ao l.length cap] w fun e w' => e = .returned (.int .i64 (appsE l)) ∧ Below w.heap.size w w' := by
  by_cases hl : 20 < l.length
  · have HE : Hid (appsE l = 2) := hide (by rw [appsE, if_pos hl])
    clear hr
    go_enter Tryz.func56, Tryz.ntmps56
    go_wp2
    go_ret
    exact ⟨ret_int (unhide HE).symm, Below.refl _ _⟩
  · have hl' : l.length ≤ 20 := by omega
    have HE : Hid (appsE l = bif l.any misB then 1 else bif l.any prioB then 3 else bif dupTo (namesL l) l.length then 6 else 0) := hide (by rw [appsE, if_neg hl])
    have HR := hide hr
    clear hr hl
    go_enter Tryz.func56, Tryz.ntmps56
    go_wp2
    go_loopw [14] (fun i wr => ∃ k : Nat, k ≤ l.length ∧ i = .int .i64 k ∧ Hid ((l.take k).any misB = false) ∧ Below w.heap.size w wr) (fun i _ => l.length - (intOf i).toNat)
    case atStart => exact ⟨0, Nat.zero_le _, rfl, hide (by simp), Below.refl _ _⟩
    case round =>
      obtain ⟨k, hk, rfl, HA, hbw⟩ := hrel
      by_cases hlt : k < l.length
      · obtain ⟨x, hx⟩ : ∃ x, l[k]? = some x := ⟨_, List.getElem?_eq_getElem hlt⟩
        obtain ⟨hrr, _, _⟩ := (unhide HR).below hbw
        rcases hrr with hnil | ⟨b, off, rfl, hb, hc⟩
        · rw [hnil] at hlt; simp at hlt
        obtain ⟨d0, d1, d2, d3⟩ := hc k x hx
        have hs := anyP_take_succ l misB k x hx
        rw [unhide HA, Bool.false_or] at hs
        have HAL := hide (fun o : Obj => hbw.alloc hbw.size o)
        have he := empty_iff x.label
        have hyes : misB x = true → appsE l = 1 := fun h => by rw [unhide HE, anyP_of_take l misB (k + 1) (hs.trans h)]; rfl
        have HY := hide hyes; have HS := hide hs
        clear hc hx hyes hs hbw
        have hcase : x.name.size < 5 ∨ (5 ≤ x.name.size ∧ 16 < x.name.size) ∨ (5 ≤ x.name.size ∧ x.name.size ≤ 16 ∧ x.label.size = 0) ∨ (5 ≤ x.name.size ∧ x.name.size ≤ 16 ∧ x.label.size ≠ 0 ∧ 64 < x.label.size) ∨ (5 ≤ x.name.size ∧ x.name.size ≤ 16 ∧ x.label.size ≠ 0 ∧ x.label.size ≤ 64) := by omega
        rcases hcase with h1 | ⟨h1, h2⟩ | ⟨h1, h2, h3⟩ | ⟨h1, h2, h3, h4⟩ | ⟨h1, h2, h3, h4⟩
        · have HM := hide (unhide HY (decide_eq_true (.inl h1)))
          clear he
          go_wp2
          go_ret
          exact ⟨ret_int (unhide HM).symm, unhide HAL _⟩
        · have HM := hide (unhide HY (decide_eq_true (.inr (.inl h2))))
          clear he
          go_wp2
          go_ret
          exact ⟨ret_int (unhide HM).symm, unhide HAL _⟩
        · have HM := hide (unhide HY (decide_eq_true (.inr (.inr (.inl h3)))))
          rw [decide_eq_true h3] at he
          have H3 := hide h3
          clear h3
          go_wp2
          go_ret
          exact ⟨ret_int (unhide HM).symm, unhide HAL _⟩
        · have HM := hide (unhide HY (decide_eq_true (.inr (.inr (.inr h4)))))
          rw [decide_eq_false h3] at he
          clear h3
          go_wp2
          go_ret
          exact ⟨ret_int (unhide HM).symm, unhide HAL _⟩
        · have HS2 := hide ((unhide HS).trans (show misB x = false from decide_eq_false (by omega)))
          rw [decide_eq_false h3] at he
          clear h3
          go_wp2
          go_roundw
          case rel => exact ⟨k + 1, by omega, by go_num, HS2, unhide HAL _⟩
          case measure => simp [intOf]; omega
      · have hF : l.any misB = false := by have := unhide HA; rw [List.take_of_length_le (by omega)] at this; exact this
        have HE2 : Hid (appsE l = bif l.any prioB then 3 else bif dupTo (namesL l) l.length then 6 else 0) := hide (by rw [unhide HE, hF]; rfl)
        have hkl : k = l.length := by omega
        clear hF HA HE
        subst hkl
        clear hlt hk
        go_wp2
        go_loopw [42] (fun i wr => ∃ k : Nat, k ≤ l.length ∧ i = .int .i64 k ∧ Hid ((l.take k).any prioB = false) ∧ Below w.heap.size w wr) (fun i _ => l.length - (intOf i).toNat)
        case atStart => exact ⟨0, Nat.zero_le _, rfl, hide (by simp), hbw⟩
        case round =>
          clear hbw
          obtain ⟨k, hk, rfl, HA, hbw⟩ := hrel
          by_cases hlt : k < l.length
          · obtain ⟨x, hx⟩ : ∃ x, l[k]? = some x := ⟨_, List.getElem?_eq_getElem hlt⟩
            obtain ⟨hrr, _, _⟩ := (unhide HR).below hbw
            rcases hrr with hnil | ⟨b, off, rfl, hb, hc⟩
            · rw [hnil] at hlt; simp at hlt
            obtain ⟨d0, d1, d2, d3⟩ := hc k x hx
            have hs := anyP_take_succ l prioB k x hx
            rw [unhide HA, Bool.false_or] at hs
            have HAL := hide (fun o : Obj => hbw.alloc hbw.size o)
            have hyes : prioB x = true → appsE l = 3 := fun h => by rw [unhide HE2, anyP_of_take l prioB (k + 1) (hs.trans h)]; rfl
            have HY := hide hyes; have HS := hide hs
            clear hc hx hyes hs hbw
            have hcase : x.prio < 0 ∨ (0 ≤ x.prio ∧ 15 < x.prio) ∨ (0 ≤ x.prio ∧ x.prio ≤ 15) := by omega
            rcases hcase with h1 | ⟨h1, h2⟩ | ⟨h1, h2⟩
            · have HM := hide (unhide HY (decide_eq_true (.inl h1)))
              go_wp2
              go_ret
              exact ⟨ret_int (unhide HM).symm, unhide HAL _⟩
            · have HM := hide (unhide HY (decide_eq_true (.inr h2)))
              go_wp2
              go_ret
              exact ⟨ret_int (unhide HM).symm, unhide HAL _⟩
            · have HS2 := hide ((unhide HS).trans (show prioB x = false from decide_eq_false (by omega)))
              go_wp2
              go_roundw
              case rel => exact ⟨k + 1, by omega, by go_num, HS2, unhide HAL _⟩
              case measure => simp [intOf]; omega
          · have hF : l.any prioB = false := by have := unhide HA; rw [List.take_of_length_le (by omega)] at this; exact this
            have HE3 : Hid (appsE l = bif dupTo (namesL l) l.length then 6 else 0) := hide (by rw [unhide HE2, hF]; rfl)
            have hkl : k = l.length := by omega
            clear hF HA HE2
            subst hkl
            clear hlt hk
            go_wp2
            go_loopw [57] (fun i wr => ∃ k : Nat, k ≤ l.length ∧ i = .int .i64 k ∧ Hid (dupTo (namesL l) k = false) ∧ Below w.heap.size w wr) (fun i _ => l.length - (intOf i).toNat)
            case atStart => exact ⟨0, Nat.zero_le _, rfl, hide rfl, hbw⟩
            case round =>
              clear hbw
              obtain ⟨k, hk, rfl, HA, hbw⟩ := hrel
              by_cases hlt : k < l.length
              · obtain ⟨x, hx⟩ : ∃ x, l[k]? = some x := ⟨_, List.getElem?_eq_getElem hlt⟩
                have hgd : (namesL l).getD k [] = x.name.data.toList := by simp [namesL, hx]
                have hdup : dupTo (namesL l) (k + 1) = ((namesL l).take k).contains x.name.data.toList := by rw [dupTo, unhide HA, Bool.false_or, hgd]
                have HDU := hide hdup; have HX := hide hx
                have HBO := hide hbw
                have HR2 := hide ((unhide HR).below hbw)
                clear hgd hdup hx HA hbw
                go_wp2
                go_loopw [8] (fun jv wi => ∃ j : Nat, j ≤ k ∧ jv = .int .i64 j ∧ Hid (((namesL l).take j).contains x.name.data.toList = false) ∧ Below w.heap.size w wi) (fun i _ => k - (intOf i).toNat)
                case atStart => exact ⟨0, Nat.zero_le _, rfl, hide (by simp), unhide HBO⟩
                case round =>
                  obtain ⟨j, hj, rfl, HC, hbi⟩ := hrel
                  by_cases hjk : j < k
                  · obtain ⟨y, hy⟩ : ∃ y, l[j]? = some y := ⟨_, List.getElem?_eq_getElem (by omega)⟩
                    obtain ⟨hrr, _, _⟩ := (unhide HR).below hbi
                    rcases hrr with hnil | ⟨b, off, rfl, hb, hc⟩
                    · rw [hnil] at hlt; simp at hlt
                    have e0 := (hc k x (unhide HX)).1
                    have e1 := (hc j y hy).1
                    have htk : (namesL l).take (j + 1) = (namesL l).take j ++ [y.name.data.toList] := by
                      have hjl : j < (namesL l).length := by simp [namesL]; omega
                      rw [List.take_succ_eq_append_getElem hjl]
                      congr 2
                      simp [namesL]
                      have := List.getElem?_eq_getElem (l := l) (show j < l.length by omega)
                      rw [hy] at this
                      rw [← Option.some.inj this]
                    have hk0 : (k : Int) < (l.length : Int) := by omega
                    have hj0 : (j : Int) < (l.length : Int) := by omega
                    have g0 : (0 : Int) ≤ (k : Int) := by omega
                    have g1 : (0 : Int) ≤ (j : Int) := by omega
                    have HB2 := hide hbi
                    have hbd := fun q => hide (show Below w.heap.size w (wr.drewN q) from ⟨hbi.os, hbi.tape, hbi.output, hbi.size, hbi.block⟩)
                    have HBD := hide hbd
                    have HTK := hide htk
                    clear hc hy htk hbi hbd
                    cases he : (x.name.toList == y.name.toList) with
                    | true =>
                      have hd : dupTo (namesL l) (k + 1) = true := by
                        rw [unhide HDU]
                        have h1 : x.name.data.toList = y.name.data.toList := by rw [beq_iff_eq, Lib.toList_data, Lib.toList_data] at he; exact he
                        have h2 : y.name.data.toList ∈ (namesL l).take (j + 1) := by rw [unhide HTK]; simp
                        have h3 : x.name.data.toList ∈ (namesL l).take k := by rw [h1]; exact List.take_subset_take_left _ (by omega) h2
                        simpa using h3
                      have HM := hide (show appsE l = 6 by rw [unhide HE3, dupTo_mono _ (k + 1) l.length hd (by omega)]; rfl)
                      clear hd
                      go_wp2
                      go_quiet (fail)
                      go_wp2
                      go_ret
                      exact ⟨ret_int (unhide HM).symm, unhide (unhide HBD _)⟩
                    | false =>
                      have HC2 : Hid (((namesL l).take (j + 1)).contains x.name.data.toList = false) := hide (by
                        have h1 : ¬ x.name.data.toList = y.name.data.toList := by rw [beq_eq_false_iff_ne, Lib.toList_data, Lib.toList_data] at he; exact he
                        have h2 := unhide HC
                        rw [unhide HTK]
                        simp at h2 ⊢
                        exact ⟨h2, fun h => h1 (by rw [h])⟩)
                      clear HC
                      go_wp2
                      go_quiet (fail)
                      go_wp2
                      go_roundw
                      case rel => exact ⟨j + 1, by omega, by go_num, HC2, unhide (unhide HBD _)⟩
                      case measure => simp [intOf]; omega
                  · have hjl : j = k := by omega
                    have HN := hide (show dupTo (namesL l) (k + 1) = false by rw [unhide HDU, ← hjl]; exact unhide HC)
                    go_wp2
                    go_roundw
                    case rel => exact ⟨k + 1, by omega, by go_num, HN, hbi⟩
                    case measure => simp [intOf]; omega
              · have hkl : k = l.length := by omega
                have HF := hide (show appsE l = 0 by rw [unhide HE3, ← hkl, unhide HA]; rfl)
                go_wp2
                go_ret
                exact ⟨ret_int (unhide HF).symm, hbw⟩
end Go.Proofs.YtfpglpefofcdeaaGreatDoor
