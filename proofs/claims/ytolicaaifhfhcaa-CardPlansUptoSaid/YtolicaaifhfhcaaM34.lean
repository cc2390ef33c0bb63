/- PrintFields of the reference; and one contract each. -/
import Derived.Test.YtolicaaifhfhcaaM33
import Derived.Deep.RegionHeld3
namespace Go.Proofs.Ytolicaaifhfhcaa
open Go.RowKit
set_option linter.unusedVariables false

def printS (fs : List (Int × Int)) : ByteArray := if fieldsE fs = 0 then strOfNums (textL fs) else ⟨#[]⟩
theorem printF_all (fs : List (Int × Int)) (ao : Option Addr) (cap : Nat) (w : World) (hr : FRow w ao fs) (hn : FNums fs) (hl : (fs.length : Int) ≤ 9000000000000) :
    Calls Try.prog 20 #[.slice ao fs.length cap] w fun e w' => e = .returned (.tuple #[.string (printS fs), .int .i64 (fieldsE fs)]) ∧ Below w.heap.size w w' := by
  unfold printS
  by_cases he : fieldsE fs = 0
  · rw [if_pos he, he]; exact printF_yes fs ao cap w hr hn he
  · rw [if_neg he]; exact printF_no fs ao cap w hr hn (by omega) he

theorem three_sizes (L : List Int) (tn ln : Nat) : (strOfNums (tagL tn)).size ≤ 3 ∧ (strOfNums [lowByte (ln : Int)]).size ≤ 1 ∧ (strOfNums (tagL tn) ++ strOfNums [lowByte (ln : Int)]).size ≤ 4 := by
  have h := (tagLen_le tn).2
  rw [ByteArray.size_append, strOfNums_size, strOfNums_size, tagL_length]
  simp
  omega

theorem new_cell (w : World) (x : Value) (e : TypeId) : (w.alloc (.cells #[x] e)).cell? ⟨w.heap.size, 0, none⟩ = some x := (cell_of_row _ _ 0 #[x] e _ (heap_alloc_new w _)).trans rfl
theorem bytes_low (ln : Nat) (hlow : lowByte (ln : Int) = (ln : Int)) (b off cap : Nat) (w : World) (hc : w.cell? ⟨b, off, none⟩ = some (.int .i64 (ln : Int))) :
    Calls Try.prog 19 #[.slice (some ⟨b, off, none⟩) 1 cap] w fun e w' => e = .returned (.string (strOfNums [(ln : Int)])) ∧ Below w.heap.size w w' := by
  have h := bytes_one (ln : Int) b off cap w (World.block_lt_of_cell? _ _ hc) hc
  rw [hlow] at h
  exact h

set_option maxRecDepth 1000000 in
set_option maxHeartbeats 4000000 in
theorem rprintF_all (fs : List (Int × Int)) (ao : Option Addr) (cap : Nat) (w : World) (hr : FRow w ao fs) (hn : FNums fs) (hl : (fs.length : Int) ≤ 9000000000000) :
    Calls Try.prog 26 #[.slice ao fs.length cap] w fun e w' => e = .returned (.tuple #[.string (printS fs), .int .i64 (fieldsE fs)]) ∧ Below w.heap.size w w' := by
  go_enter Try.func26, Try.ntmps26
  go_wp2
  go_loopw [4, 5] (fun s i wr => ∃ k : Nat, k ≤ fs.length ∧ i = .int .i64 k ∧ s = .string (strOfNums (textL (fs.take k))) ∧ AllTo fs k ∧ Below w.heap.size w wr) (fun _ i _ => fs.length - (intOf i).toNat)
  case atStart => exact ⟨0, Nat.zero_le _, rfl, rfl, by simp [AllTo], Below.refl _ _⟩
  case round =>
    obtain ⟨k, hk, rfl, rfl, hall', hbw⟩ := hrel
    have hall : (fs.take k).all okF = true := hall'
    clear hall'
    by_cases hlt : k < fs.length
    · rcases hr with hnil | ⟨b, off, rfl, hb, hc⟩
      · rw [hnil] at hlt; simp at hlt
      obtain ⟨c0, c1⟩ := hc k hlt
      have d0 : wr.cell? ⟨b, off + k * 2, none⟩ = _ := (hbw.cell (p := ⟨b, off + k * 2, none⟩) hb).trans c0
      have d1 : wr.cell? ⟨b, off + k * 2 + 1, none⟩ = _ := (hbw.cell (p := ⟨b, off + k * 2 + 1, none⟩) hb).trans c1
      have hnext := all_take_succ fs k hlt
      rw [hall, Bool.true_and] at hnext
      have hfn : (fs.getD k (0, 0)).1 ≤ 9223372036854775807 := hn _ (by
        rw [List.getD_eq_getElem?_getD, List.getElem?_eq_getElem hlt]; exact List.getElem_mem hlt)
      have hfo : okF (fs.getD k (0, 0)) = false → fieldsE fs = 1 := fun h => by
        unfold fieldsE
        rw [all_of_take_false fs (k + 1) (by rw [hnext, h]), if_neg (by decide)]
      have htext := textL_take fs k hlt
      generalize fs.getD k (0, 0) = f at *
      obtain ⟨ft, fl⟩ := f
      simp only at d0 d1 hfn htext
      have n1 := fun w => rvalid_any ft w hfn
      have hbk : b < wr.heap.size := World.block_lt_of_cell? _ _ d0
      have hki : (k : Int) < (fs.length : Int) := by omega
      have hs1 : ((strOfNums (textL (fs.take k))).size : Int) ≤ 40000000000000 := by
        have h1 := textL_length (fs.take k)
        have h2 := List.length_take_le k fs
        rw [strOfNums_size]
        omega
      generalize hs0 : strOfNums (textL (fs.take k)) = s at *
      have HS0 := hide hs0
      clear c0 c1 hc hs0
      have fin : fieldsE fs = 1 → Ending.returned (.tuple #[.string ⟨#[]⟩, .int .i64 1]) = .returned (.tuple #[.string (printS fs), .int .i64 (fieldsE fs)]) := fun h => by
        unfold printS
        rw [h, if_neg (by decide)]
      have FIN := hide fin
      clear fin
      cases hv : validB ft with
      | false =>
        rw [hv] at n1
        have N1 := hide n1
        have HO := hide (hfo (by unfold okF; rw [hv, Bool.false_and]))
        clear n1 hfo hnext hall hv htext
        go_wp2_with fail
        refine (unhide N1 _).mono ?_
        rintro e w2 ⟨rfl, hb2⟩
        have hbz : Below w.heap.size w w2 := hbw.trans (hb2.mono hbw.size)
        clear hb2
        go_wp2
        go_ret2
        exact ⟨unhide FIN (unhide HO), hbz⟩
      | true =>
        obtain ⟨h1, h2⟩ := validB_lt hv
        obtain ⟨tn, rfl⟩ := Int.eq_ofNat_of_zero_le (show 0 ≤ ft by omega)
        have n2 := fun w => rmade_any tn w (by omega)
        have n3 := fun w => tagText_any tn w (by omega)
        rw [hv] at n1
        rw [Int.toNat_natCast] at htext
        have N3 := hide n3
        clear n3
        cases hm : madeB tn with
        | true =>
          rw [hm] at n2
          have N1 := hide n1; have N2 := hide n2
          have HO := hide (hfo (by unfold okF; simp [hv, hm]))
          clear n1 n2 hfo hnext hall hv hm htext h1 h2 hfn hn
          go_wp2_with fail
          refine (unhide N1 _).mono ?_
          rintro e w2 ⟨rfl, hb2⟩
          have hbz : Below w.heap.size w w2 := hbw.trans (hb2.mono hbw.size)
          have e0 := below_keep hb2 d0
          have e1 := below_keep hb2 d1
          clear hb2
          go_wp2_with fail
          refine (unhide N2 _).mono ?_
          rintro e w3 ⟨rfl, hb3⟩
          have hby : Below w.heap.size w w3 := hbz.trans (hb3.mono hbz.size)
          have f0 := below_keep hb3 e0
          have f1 := below_keep hb3 e1
          clear hb3
          go_wp2
          go_ret2
          exact ⟨unhide FIN (unhide HO), hby⟩
        | false =>
          rw [hm] at n2
          have N1 := hide n1; have N2 := hide n2
          by_cases hl0 : fl < 0
          · have HO := hide (hfo (by unfold okF; simp; intros; omega))
            clear n1 n2 hfo hnext hall hv hm htext h1 h2 hfn hn
            go_wp2_with fail
            refine (unhide N1 _).mono ?_
            rintro e w2 ⟨rfl, hb2⟩
            have hbz : Below w.heap.size w w2 := hbw.trans (hb2.mono hbw.size)
            have e0 := below_keep hb2 d0
            have e1 := below_keep hb2 d1
            clear hb2
            go_wp2_with fail
            refine (unhide N2 _).mono ?_
            rintro e w3 ⟨rfl, hb3⟩
            have hby : Below w.heap.size w w3 := hbz.trans (hb3.mono hbz.size)
            have f0 := below_keep hb3 e0
            have f1 := below_keep hb3 e1
            clear hb3
            go_wp2
            go_ret2
            exact ⟨unhide FIN (unhide HO), hby⟩
          · by_cases hl2 : 255 < fl
            · have HO := hide (hfo (by unfold okF; simp; intros; omega))
              clear n1 n2 hfo hnext hall hv hm htext h1 h2 hfn hn
              go_wp2_with fail
              refine (unhide N1 _).mono ?_
              rintro e w2 ⟨rfl, hb2⟩
              have hbz : Below w.heap.size w w2 := hbw.trans (hb2.mono hbw.size)
              have e0 := below_keep hb2 d0
              have e1 := below_keep hb2 d1
              clear hb2
              go_wp2_with fail
              refine (unhide N2 _).mono ?_
              rintro e w3 ⟨rfl, hb3⟩
              have hby : Below w.heap.size w w3 := hbz.trans (hb3.mono hbz.size)
              have f0 := below_keep hb3 e0
              have f1 := below_keep hb3 e1
              clear hb3
              go_wp2
              go_ret2
              exact ⟨unhide FIN (unhide HO), hby⟩
            · have hok : okF ((tn : Int), fl) = true := by unfold okF; simp [hv, hm]; omega
              rw [hok] at hnext
              obtain ⟨ln, rfl⟩ := Int.eq_ofNat_of_zero_le (show 0 ≤ fl by omega)
              have g1 : (ln : Int) ≤ 255 := by omega
              obtain ⟨z1, z2, z3⟩ := three_sizes [] tn ln
              have hlow : lowByte (ln : Int) = (ln : Int) := by unfold lowByte; omega
              rw [hlow] at z2 z3
              have z1' : (strOfNums (bigL tn (tagLen tn))).size ≤ 3 := z1
              have z3' : (strOfNums (bigL tn (tagLen tn)) ++ strOfNums [(ln : Int)]).size ≤ 4 := z3
              clear z1 z3
              have ha1 := fun w' => run_string_add_sum (P := Try.prog) w' (strOfNums (bigL tn (tagLen tn))) (strOfNums [(ln : Int)]) (by omega)
              have ha2 := fun w' => run_string_add_sum (P := Try.prog) w' s (strOfNums (bigL tn (tagLen tn)) ++ strOfNums [(ln : Int)]) (by omega)
              have HX := hide hnext; have HT := hide htext; have HL := hide hlow
              clear n1 n2 hfo hnext hall hv hm hok hl0 hl2 h1 h2 hfn hn htext hlow FIN
              go_wp2_with fail
              refine (unhide N1 _).mono ?_
              rintro e w2 ⟨rfl, hb2⟩
              have hbz : Below w.heap.size w w2 := hbw.trans (hb2.mono hbw.size)
              have e0 := below_keep hb2 d0
              have e1 := below_keep hb2 d1
              clear hb2
              go_wp2_with fail
              refine (unhide N2 _).mono ?_
              rintro e w3 ⟨rfl, hb3⟩
              have hby : Below w.heap.size w w3 := hbz.trans (hb3.mono hbz.size)
              have f0 := below_keep hb3 e0
              have f1 := below_keep hb3 e1
              clear hb3
              clear d0 d1 e0 e1 hbz
              go_wp2_with fail
              go_region_held3 (fun w' => w'.cell? ⟨b, off + k * 2, none⟩ = some (.int .i64 (tn : Int)) ∧ w'.cell? ⟨b, off + k * 2 + 1, none⟩ = some (.int .i64 (ln : Int)))
                (first
                  | go_keep
                  | (have hq := hb5; go_split_ands; exact ⟨below_keep hb5 (by assumption), below_keep hb5 (by assumption)⟩)
                  | (have hq := hb4; go_split_ands; exact ⟨below_keep hb4 (by assumption), below_keep hb4 (by assumption)⟩))
                ((first
                  | (go_at_call 39; refine (unhide N3 _).mono ?_; rintro e w4 ⟨rfl, hb4⟩)
                  | (go_at_call 19; refine (bytes_low ln (unhide HL) _ _ _ _ ?_).mono ?_; exact new_cell _ _ _; rintro e w5 ⟨rfl, hb5⟩)
                  | (go_at_call 19; refine (bytes_low ln (unhide HL) _ _ _ _ ?_).mono ?_; exact below_keep hb4 (new_cell _ _ _); rintro e w5 ⟨rfl, hb5⟩)))
              · have hbp := hby.drew.trans (hb4.mono (by simp; exact hby.size))
                have hbq := (hbp.alloc hbp.size _).trans (hb5.mono (by have := hbp.size; simp; omega))
                have hst : strOfNums (textL (fs.take (k + 1))) = s ++ (strOfNums (bigL tn (tagLen tn)) ++ strOfNums [(ln : Int)]) := by
                  rw [unhide HT, ← strOfNums_append, ← strOfNums_append, unhide HS0]
                have HST := hide hst
                clear hst hb4 hb5
                go_wp2
                go_roundw
                case rel => exact ⟨k + 1, by omega, by go_num, by rw [unhide HST], unhide HX, hbq⟩
                case measure => simp [intOf]; omega
              · have hbp := ((hby.alloc hby.size _).drew).trans (hb4.mono (by have := hby.size; simp; omega))
                have hbq := hbp.trans (hb5.mono hbp.size)
                have hst : strOfNums (textL (fs.take (k + 1))) = s ++ (strOfNums (bigL tn (tagLen tn)) ++ strOfNums [(ln : Int)]) := by
                  rw [unhide HT, ← strOfNums_append, ← strOfNums_append, unhide HS0]
                have HST := hide hst
                clear hst hb4 hb5
                go_wp2
                go_roundw
                case rel => exact ⟨k + 1, by omega, by go_num, by rw [unhide HST], unhide HX, hbq⟩
                case measure => simp [intOf]; omega
    · rw [List.take_of_length_le (by omega)] at hall
      have he : fieldsE fs = if 100 < fs.length then 2 else 0 := by unfold fieldsE; rw [if_pos hall]
      have hkl : k = fs.length := by omega
      subst hkl
      rw [List.take_of_length_le (Nat.le_refl _)]
      have HE := hide he
      clear hall he
      by_cases h100 : 100 < fs.length
      · have H1 := hide h100
        go_wp2
        go_ret2
        exact ⟨by unfold printS; rw [unhide HE, if_pos (unhide H1), if_neg (by decide)]; rfl, hbw⟩
      · have H1 := hide h100
        go_wp2
        go_ret2
        exact ⟨by unfold printS; rw [unhide HE, if_neg (unhide H1), if_pos rfl]; rfl, hbw⟩
end Go.Proofs.Ytolicaaifhfhcaa
