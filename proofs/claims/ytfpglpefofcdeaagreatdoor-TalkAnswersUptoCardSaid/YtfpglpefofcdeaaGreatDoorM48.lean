/- ParseFields of the reference. -/
import Derived.Test.YtfpglpefofcdeaaGreatDoorM03
import Derived.Test.YtfpglpefofcdeaaGreatDoorM02
import Derived.Deep.RegionWith
import Derived.Deep.CutBlock
import Derived.Deep.RegionHeld3
import Derived.Deep.DeepCutAuto
namespace Go.Proofs.YtfpglpefofcdeaaGreatDoor
open Go.RowKit
set_option linter.unusedVariables false

set_option maxRecDepth 1000000 in
set_option maxHeartbeats 8000000 in
theorem rparseF_any (s : ByteArray) (w : World) (hs : s.size ≤ maxLen) :
    Calls Tryz.prog 65 #[.string s] w fun e w' => ∃ v, e = .returned (.tuple #[v, .int .i64 (parseE s.data.toList)]) ∧ w'.ownsRow w.heap.size 121 2 v (parsed s.data.toList).length (cellsF (parsed s.data.toList)) ∧ Below w.heap.size w w' := by
  obtain ⟨i0, hi, hz0, hz1, hz2⟩ := info_parts infoField
  go_enter Tryz.func65, Tryz.ntmps65
  go_wp2
  go_loopw [0, 4] (fun sv v wr => ∃ (s' : ByteArray) (acc : List (Int × Int)), acc.length ≤ 100 ∧ s'.size ≤ maxLen ∧ sv = .string s' ∧ wr.ownsRow w.heap.size 121 2 v acc.length (cellsF acc) ∧ ParseAt s.data.toList acc s'.data.toList ∧ Below w.heap.size w wr) (fun sv _ _ => strLen sv)
  case atStart => exact ⟨s, [], by simp, hs, rfl, World.ownsRow_nil _ _ _ _, by simp [ParseAt], Below.refl _ _⟩
  case round =>
    rename World => wo
    obtain ⟨s', acc, hacc, hs', rfl, hown, hpa, hbw⟩ := hrel
    by_cases hemp : s'.data.toList = []
    · have he : s'.toList.isEmpty = true := by rw [Lib.toList_data, hemp]; rfl
      have hres : parseL 100 s.data.toList = some acc := by
        have := hpa
        unfold ParseAt at this
        rw [hemp] at this
        rw [this]
        cases 100 - acc.length <;> simp [parseL]
      have HR := hide hres
      clear hres hpa hemp
      go_wp2
      go_ret2
      exact ⟨_, by rw [parseE_some (unhide HR)]; rfl, by rw [parsed_some (unhide HR)]; exact hown, hbw⟩
    · have he : s'.toList.isEmpty = false := by rw [Lib.toList_data]; simpa using hemp
      have hpos : 0 < s'.size := by
        have hl0 : s'.data.toList.length = s'.size := by simp
        rcases Nat.eq_zero_or_pos s'.size with h | h
        · exact absurd (List.length_eq_zero_iff.1 (hl0.trans h)) hemp
        · exact h
      have hs9 := hs'
      unfold maxLen at hs9
      have HP := hide hpa; have HE := hide hemp
      clear hpa hemp
      go_upto_block 2 with fail
      go_cut [5] (fun n wx => ∃ j : Nat, 1 ≤ j ∧ j ≤ 3 ∧ j ≤ s'.size ∧ n = .int .i64 j ∧ Tried s'.data.toList j ∧ (j = 3 ∨ j = s'.size ∨ goodB s'.data.toList j = true) ∧ Below wo.heap.size wo wx)
      case first =>
        go_wp2_with fail
        go_loopw [5] (fun n wx => ∃ j : Nat, 1 ≤ j ∧ j ≤ 3 ∧ j ≤ s'.size ∧ n = .int .i64 j ∧ Tried s'.data.toList j ∧ Below wo.heap.size wo wx) (fun n _ => 4 - (intOf n).toNat)
        case atStart => exact ⟨1, by omega, by omega, by omega, rfl, fun i h1 h2 => by omega, Below.refl _ _⟩
        case round =>
          obtain ⟨j, h1, h3, hj, rfl, htr, hbx⟩ := hrel
          have HT := hide htr
          clear htr
          by_cases hj3 : j = 3
          · have t1 : decide ((j : Int) < 3) = false := by simp; omega
            go_wp2_with fail
            go_quiet (fail)
            go_wp2_with fail
            go_meet
            case rel => exact ⟨j, h1, h3, hj, rfl, unhide HT, .inl hj3, by first | exact hbx | exact hbx.drew | exact below_drewN hbx _⟩
          · have t1 : decide ((j : Int) < 3) = true := by simp; omega
            by_cases hjs : j = s'.size
            · have t2 : decide (j < s'.size) = false := by simp; omega
              have HJ := hide hjs
              clear hjs
              go_wp2_with fail
              go_quiet (fail)
              go_wp2_with fail
              go_meet
              case rel => exact ⟨j, h1, h3, hj, rfl, unhide HT, .inr (.inl (unhide HJ)), by first | exact hbx | exact hbx.drew | exact below_drewN hbx _⟩
            · have t2 : decide (j < s'.size) = true := by simp; omega
              have hm6 := valN_take3 s' j h3
              have n1 := fun w => value_any (s'.extract 0 j) w (by rw [ByteArray.size_extract]; omega) (by rw [extract_take]; omega)
              rw [extract_take] at n1
              have hsl : ∀ wx, (Instr.slice 9 (.string s') none (some (.int .i64 (j : Int))) none).run Tryz.prog wx = .ok (.string (s'.extract 0 j)) wx := fun wx => by
                have := run_slice_string_h (P := Tryz.prog) wx 9 s' Tryz.underlying9 .i64 (j : Int) (by omega) (by omega)
                simpa using this
              have hts := text_same s' j hj
              have hgp := @goodB_parts s'.data.toList j
              have hgn := @goodB_not s'.data.toList j
              have hmi : ((valN (s'.data.toList.take j) : Nat) : Int) ≤ 9223372036854775807 := by omega
              have n2 := fun w => rvalid_any (valN (s'.data.toList.take j) : Nat) w hmi
              have n3 := fun w => tagText_any (valN (s'.data.toList.take j)) w hm6
              generalize valN (s'.data.toList.take j) = m at *
              generalize s'.extract 0 j = u at *
              generalize strOfNums (bigL m (tagLen m)) = T at *
              have N1 := hide n1; have N3 := hide n3
              have hj2 : j ≤ 2 := by omega
              have hjl : j + 1 ≤ s'.size := by omega
              clear n1 n3 hm6 hmi hjs hj3
              cases hg : goodB s'.data.toList j with
              | true =>
                have hv := (hgp hg).1
                have hT := hts.2 (hgp hg).2
                rw [hv] at n2
                rw [hT] at N3
                have N2 := hide n2
                have HG := hide hg
                clear n2 hts hgp hgn hv hg hT
                go_wp2_with fail
                refine wp_region_below wo (hbx) (by kernel_rfl) (by kernel_rfl) ?_
                repeat (
                  refine Quietly.step (fun K hK => ?_)
                  go_simp
                  first
                    | (refine hK _ ?_; clear hK K)
                    | (apply Exists.intro
                       refine ⟨fun w1 hw1 => ?_, hK _ ?_⟩
                       (first | rfl | (go_at_call 64; exact calls_same hw1 (unhide N1 _)) | (go_at_call 78; exact calls_below hw1 (unhide N2 _)) | (go_at_call 80; exact calls_below hw1 (unhide N3 _)))
                       clear hK K))
                refine Quietly.nil ?_
                intro w2 hw2
                go_wp2_with fail
                go_meet
                case rel => exact ⟨j, h1, h3, hj, rfl, unhide HT, .inr (.inr (unhide HG)), hw2⟩
              | false =>
                rcases hgn hg with hv | ⟨hv, htl⟩
                · rw [hv] at n2
                  have N2 := hide n2
                  have HG := hide hg
                  clear n2 hts hgp hgn hv hg
                  go_wp2_with fail
                  refine wp_region_below wo (hbx) (by kernel_rfl) (by kernel_rfl) ?_
                  repeat (
                    refine Quietly.step (fun K hK => ?_)
                    go_simp
                    first
                      | (refine hK _ ?_; clear hK K)
                      | (apply Exists.intro
                         refine ⟨fun w1 hw1 => ?_, hK _ ?_⟩
                         (first | rfl | (go_at_call 64; exact calls_same hw1 (unhide N1 _)) | (go_at_call 78; exact calls_below hw1 (unhide N2 _)) | (go_at_call 80; exact calls_below hw1 (unhide N3 _)))
                         clear hK K))
                  refine Quietly.nil ?_
                  intro w2 hw2
                  go_wp2_with fail
                  go_roundw
                  case rel => exact ⟨j + 1, by omega, by omega, by omega, by go_num, tried_next (unhide HT) (unhide HG), hw2⟩
                  case measure => simp [intOf]; omega
                · have hne : (T.toList == u.toList) = false := by
                    rw [beq_eq_false_iff_ne]
                    intro h
                    exact htl (hts.1 (by apply ByteArray.ext; apply Array.toList_inj.1; rw [Lib.toList_data, Lib.toList_data] at h; exact h))
                  have hne' : T ≠ u := fun h => htl (hts.1 h)
                  rw [hv] at n2
                  have N2 := hide n2
                  have HG := hide hg
                  clear n2 hts hgp hgn hv hg htl
                  go_wp2_with fail
                  refine wp_region_below wo (hbx) (by kernel_rfl) (by kernel_rfl) ?_
                  repeat (
                    refine Quietly.step (fun K hK => ?_)
                    go_simp
                    first
                      | (refine hK _ ?_; clear hK K)
                      | (apply Exists.intro
                         refine ⟨fun w1 hw1 => ?_, hK _ ?_⟩
                         (first | rfl | (go_at_call 64; exact calls_same hw1 (unhide N1 _)) | (go_at_call 78; exact calls_below hw1 (unhide N2 _)) | (go_at_call 80; exact calls_below hw1 (unhide N3 _)))
                         clear hK K))
                  refine Quietly.nil ?_
                  intro w2 hw2
                  go_wp2_with fail
                  go_roundw
                  case rel => exact ⟨j + 1, by omega, by omega, by omega, by go_num, tried_next (unhide HT) (unhide HG), hw2⟩
                  case measure => simp [intOf]; omega
      case rest =>
        obtain ⟨j, h1, h3, hj, rfl, htr, hend, hbx⟩ := hcut
        have hm6 := valN_take3 s' j h3
        have n1 := fun w => value_any (s'.extract 0 j) w (by rw [ByteArray.size_extract]; omega) (by rw [extract_take]; omega)
        rw [extract_take] at n1
        have hsl : ∀ wx, (Instr.slice 9 (.string s') none (some (.int .i64 (j : Int))) none).run Tryz.prog wx = .ok (.string (s'.extract 0 j)) wx := fun wx => by
          have := run_slice_string_h (P := Tryz.prog) wx 9 s' Tryz.underlying9 .i64 (j : Int) (by omega) (by omega)
          simpa using this
        have hts := text_same s' j hj
        have hgp := @goodB_parts s'.data.toList j
        have hgn := @goodB_not s'.data.toList j
        have hgf := @good_field s'.data.toList j h1 h3 (by simp; omega)
        have htn := @tried_none s'.data.toList j htr
        have hmi : ((valN (s'.data.toList.take j) : Nat) : Int) ≤ 9223372036854775807 := by omega
        have n2 := fun w => rvalid_any (valN (s'.data.toList.take j) : Nat) w hmi
        have n3 := fun w => tagText_any (valN (s'.data.toList.take j)) w hm6
        have n4 := fun w => rmade_any (valN (s'.data.toList.take j)) w hm6
        have hnone : fieldAt s'.data.toList = none ∨ acc.length = 100 → parseL 100 s.data.toList = none := fun h => by
          have := unhide HP
          unfold ParseAt at this
          rw [this, parse_stop _ _ (unhide HE) (by rcases h with h | h; exact .inl h; exact .inr (by omega))]
          rfl
        generalize valN (s'.data.toList.take j) = m at *
        generalize hu0 : s'.extract 0 j = u at *
        generalize strOfNums (bigL m (tagLen m)) = T at *
        cases hg : goodB s'.data.toList j with
        | false =>
          have HR := hide (hnone (.inl (htn hg (by rcases hend with h | h | h; exact .inl h; exact .inr (by simp; omega); rw [hg] at h; cases h))))
          have N1 := hide n1; have N3 := hide n3; have N4 := hide n4
          clear n1 n3 n4 hm6 hmi hnone hend htr htn hgf hgp hu0
          rcases hgn hg with hv | ⟨hv, htl⟩
          · rw [hv] at n2
            have N2 := hide n2
            clear n2 hts hgn hv hg
            go_wp2_with fail
            refine (unhide N1 _).mono ?_
            rintro e w2 ⟨rfl, hw2⟩
            subst hw2
            go_wp2_with fail
            refine wp_region_below wo (hbx) (by kernel_rfl) (by kernel_rfl) ?_
            repeat (
              refine Quietly.step (fun K hK => ?_)
              go_simp
              first
                | (refine hK _ ?_; clear hK K)
                | (apply Exists.intro
                   refine ⟨fun w1 hw1 => ?_, hK _ ?_⟩
                   (first | rfl | (go_at_call 78; exact calls_below hw1 (unhide N2 _)) | (go_at_call 80; exact calls_below hw1 (unhide N3 _)) | (go_at_call 79; exact calls_below hw1 (unhide N4 _)))
                   clear hK K))
            refine Quietly.nil ?_
            intro w3 hw3
            go_wp2
            go_ret2
            exact ⟨_, by rw [parseE_none (unhide HR)]; rfl, by rw [parsed_none (unhide HR)]; exact World.ownsRow_nil _ _ _ _, below_more hbw hbw.size hw3⟩
          · have hne : (T.toList == u.toList) = false := by
              rw [beq_eq_false_iff_ne]
              intro h
              exact htl (hts.1 (by apply ByteArray.ext; apply Array.toList_inj.1; rw [Lib.toList_data, Lib.toList_data] at h; exact h))
            have hne' : T ≠ u := fun h => htl (hts.1 h)
            rw [hv] at n2
            have N2 := hide n2
            clear n2 hts hgn hv hg htl
            go_wp2_with fail
            refine (unhide N1 _).mono ?_
            rintro e w2 ⟨rfl, hw2⟩
            subst hw2
            go_wp2_with fail
            refine wp_region_below wo (hbx) (by kernel_rfl) (by kernel_rfl) ?_
            repeat (
              refine Quietly.step (fun K hK => ?_)
              go_simp
              first
                | (refine hK _ ?_; clear hK K)
                | (apply Exists.intro
                   refine ⟨fun w1 hw1 => ?_, hK _ ?_⟩
                   (first | rfl | (go_at_call 78; exact calls_below hw1 (unhide N2 _)) | (go_at_call 80; exact calls_below hw1 (unhide N3 _)) | (go_at_call 79; exact calls_below hw1 (unhide N4 _)))
                   clear hK K))
            refine Quietly.nil ?_
            intro w3 hw3
            go_wp2
            go_ret2
            exact ⟨_, by rw [parseE_none (unhide HR)]; rfl, by rw [parsed_none (unhide HR)]; exact World.ownsRow_nil _ _ _ _, below_more hbw hbw.size hw3⟩
        | true =>
          have hv := (hgp hg).1
          have hT := hts.2 (hgp hg).2
          have hfa := hgf hg
          rw [hv] at n2
          rw [hT] at n3
          have N1 := hide n1; have N2 := hide n2; have N3 := hide n3
          clear n1 n2 n3 hts hgp hgn hv hg hT hgf htn hend htr hmi
          have hlv : ∃ ao cp, u4 = .slice ao acc.length cp := by
            rcases hown.2 with ⟨h, h0⟩ | ⟨g, cp, cur, h, _⟩
            · exact ⟨none, 0, by rw [h, h0]⟩
            · exact ⟨_, _, h⟩
          obtain ⟨ao, cp, hu4⟩ := hlv
          cases hmd : madeB m with
          | true =>
            have HR := hide (hnone (.inl (by rw [hfa, if_neg (by rw [hmd]; simp)])))
            rw [hmd] at n4
            have N4 := hide n4
            clear n4 hnone hfa hmd hu0 hm6
            go_wp2_with fail
            refine (unhide N1 _).mono ?_
            rintro e w2 ⟨rfl, hw2⟩
            subst hw2
            go_wp2_with fail
            refine wp_region_below wo (hbx) (by kernel_rfl) (by kernel_rfl) ?_
            repeat (
              refine Quietly.step (fun K hK => ?_)
              go_simp
              first
                | (refine hK _ ?_; clear hK K)
                | (apply Exists.intro
                   refine ⟨fun w1 hw1 => ?_, hK _ ?_⟩
                   (first | rfl | (go_at_call 78; exact calls_below hw1 (unhide N2 _)) | (go_at_call 80; exact calls_below hw1 (unhide N3 _)) | (go_at_call 79; exact calls_below hw1 (unhide N4 _)))
                   clear hK K))
            refine Quietly.nil ?_
            intro w3 hw3
            go_wp2
            go_ret2
            exact ⟨_, by rw [parseE_none (unhide HR)]; rfl, by rw [parsed_none (unhide HR)]; exact World.ownsRow_nil _ _ _ _, below_more hbw hbw.size hw3⟩
          | false =>
            rw [hmd] at n4
            have N4 := hide n4
            have hlen : s'.data.toList.length = s'.size := by simp
            rw [hlen] at hfa
            by_cases hjs : j = s'.size
            · have HR := hide (hnone (.inl (by rw [hfa, if_neg (by omega)])))
              have t5 : ((s'.size : Int) == (j : Int)) = true := by simp; omega
              have t6 : (s'.size == j) = true := by simp; omega
              clear n4 hnone hfa hmd hu0 hm6 hlen hjs
              go_wp2_with fail
              refine (unhide N1 _).mono ?_
              rintro e w2 ⟨rfl, hw2⟩
              subst hw2
              go_wp2_with fail
              refine wp_region_below wo (hbx) (by kernel_rfl) (by kernel_rfl) ?_
              repeat (
                refine Quietly.step (fun K hK => ?_)
                go_simp
                first
                  | (refine hK _ ?_; clear hK K)
                  | (apply Exists.intro
                     refine ⟨fun w1 hw1 => ?_, hK _ ?_⟩
                     (first | rfl | (go_at_call 78; exact calls_below hw1 (unhide N2 _)) | (go_at_call 80; exact calls_below hw1 (unhide N3 _)) | (go_at_call 79; exact calls_below hw1 (unhide N4 _)))
                     clear hK K))
              refine Quietly.nil ?_
              intro w3 hw3
              go_wp2
              go_ret2
              exact ⟨_, by rw [parseE_none (unhide HR)]; rfl, by rw [parsed_none (unhide HR)]; exact World.ownsRow_nil _ _ _ _, below_more hbw hbw.size hw3⟩
            · have t5 : ((s'.size : Int) == (j : Int)) = false := by simp; omega
              have t6 : (s'.size == j) = false := by simp; omega
              by_cases h100 : acc.length = 100
              · have HR := hide (hnone (.inr h100))
                have t9 : ((acc.length : Int) == 100) = true := by rw [h100]; rfl
                subst hu4
                clear n4 hnone hfa hmd hu0 hm6 hlen hjs h100
                go_wp2_with fail
                refine (unhide N1 _).mono ?_
                rintro e w2 ⟨rfl, hw2⟩
                subst hw2
                go_wp2_with fail
                refine wp_region_below wo (hbx) (by kernel_rfl) (by kernel_rfl) ?_
                repeat (
                  refine Quietly.step (fun K hK => ?_)
                  go_simp
                  first
                    | (refine hK _ ?_; clear hK K)
                    | (apply Exists.intro
                       refine ⟨fun w1 hw1 => ?_, hK _ ?_⟩
                       (first | rfl | (go_at_call 78; exact calls_below hw1 (unhide N2 _)) | (go_at_call 80; exact calls_below hw1 (unhide N3 _)) | (go_at_call 79; exact calls_below hw1 (unhide N4 _)))
                       clear hK K))
                refine Quietly.nil ?_
                intro w3 hw3
                go_wp2
                go_ret2
                exact ⟨_, by rw [parseE_none (unhide HR)]; rfl, by rw [parsed_none (unhide HR)]; exact World.ownsRow_nil _ _ _ _, below_more hbw hbw.size hw3⟩
              · have t9 : ((acc.length : Int) == 100) = false := by simp; omega
                have g0 := get_byte s' j
                have hb0 : byteAt s' j = (s'.data.toList.getD j 0).toNat := by
                  unfold byteAt
                  simp [List.getD_eq_getElem?_getD]
                have hnext : ParseAt s.data.toList (acc ++ [((m : Int), (byteAt s' j : Int))]) (s'.extract (j + 1) s'.size).data.toList := by
                  have := unhide HP
                  unfold ParseAt at this ⊢
                  rw [this, drop_extract, hb0]
                  obtain ⟨n, hn⟩ : ∃ n, 100 - acc.length = n + 1 := ⟨99 - acc.length, by omega⟩
                  rw [hn, List.length_append, show 100 - (acc.length + [((m : Int), ((s'.data.toList.getD j 0).toNat : Int))].length) = n by simp; omega]
                  rw [parseL, if_neg (unhide HE), hfa, if_pos ⟨by omega, hmd⟩]
                  simp only [Option.map_map]
                  congr 1
                  funext x
                  simp
                have hsz2 : (s'.extract (j + 1) s'.size).size < s'.size := by rw [ByteArray.size_extract]; omega
                have lb := byteAt_lt s' j
                generalize byteAt s' j = y at *
                have HX := hide hnext; have HZ := hide hsz2
                have hwj : IntKind.i64.wrap ((j : Int) + 1) = (j : Int) + 1 := wraps_i64 _ (by omega) (by omega)
                have hjl : j < s'.size := by omega
                have hs2 := fun wx => run_slice_string_l (P := Tryz.prog) wx 9 s' Tryz.underlying9 .i64 ((j : Int) + 1) (by omega) (by omega)
                subst hu4
                clear n4 hnone hfa hmd hu0 hm6 hlen hnext hb0 hsz2 hjs
                go_wp2_with fail
                refine (unhide N1 _).mono ?_
                rintro e w2 ⟨rfl, hw2⟩
                subst hw2
                go_wp2_with fail
                refine wp_region_below wo (hbx) (by kernel_rfl) (by kernel_rfl) ?_
                repeat (
                  refine Quietly.step (fun K hK => ?_)
                  go_simp
                  first
                    | (refine hK _ ?_; clear hK K)
                    | (apply Exists.intro
                       refine ⟨fun w1 hw1 => ?_, hK _ ?_⟩
                       (first | rfl | (go_at_call 78; exact calls_below hw1 (unhide N2 _)) | (go_at_call 80; exact calls_below hw1 (unhide N3 _)) | (go_at_call 79; exact calls_below hw1 (unhide N4 _)))
                       clear hK K))
                refine Quietly.nil ?_
                intro w3 hw3
                have hbw3 : Below w.heap.size w w3 := below_more hbw hbw.size hw3
                have hown3 := ownsRow_below hown hw3
                go_wp2_with (at_builtin; refine wpList_append_own _ rfl _ _ 31 rfl w.heap.size 121 i0 (.agg #[.int .i64 0, .int .i64 0]) 2 16 Tryz.underlying31 hi hz0 hz1 hz2 rfl (by decide) _ _ _ rfl (World.ownsRow.alloc hown3 _) ⟨w3.heap.size, 0, none⟩ 1 1 [.int .i64 (m : Int), .int .i64 (y : Int)] rfl rfl (two_new _ _ _ _) ?c2 ?c3 ?c4 ?c5 ?_)
                case c2 => intro u hu; simp at hu; rcases hu with rfl | rfl <;> rfl
                case c3 => unfold maxLen; omega
                case c4 => omega
                case c5 => have := hbw3.size; simp; omega
                intro v' w4 hown' hgrow _
                have hb4 : Below w.heap.size w w4 := (hbw3.alloc hbw3.size _).grown hgrow (by have := hbw3.size; simp; omega) (fun q hq => (hown3.lt q hq).1)
                have hown4 : w4.ownsRow w.heap.size 121 2 v' (acc ++ [((m : Int), (y : Int))]).length (cellsF (acc ++ [((m : Int), (y : Int))])) := by
                  rw [cellsF_snoc, List.length_append]
                  exact hown'
                clear hown' hgrow hown hbw
                go_wp2
                go_roundw
                case rel => exact ⟨s'.extract (j + 1) s'.size, acc ++ [((m : Int), (y : Int))], by rw [List.length_append]; simp; omega, by have := unhide HZ; omega, rfl, hown4, unhide HX, hb4⟩
                case measure => exact unhide HZ
end Go.Proofs.YtfpglpefofcdeaaGreatDoor
