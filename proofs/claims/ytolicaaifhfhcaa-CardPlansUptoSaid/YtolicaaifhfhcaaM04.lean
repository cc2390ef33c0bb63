/- Rows of fields: checkFields of the program. -/
import Derived.Test.YtolicaaifhfhcaaM02
import Derived.Test.YtolicaaifhfhcaaM03
import Derived.Deep.DeepCutAuto
import Derived.Deep.RegionWith
import Derived.Deep.DrawnRows
import Derived.Deep.AppendLies
namespace Go.Proofs.Ytolicaaifhfhcaa
open Go.RowKit
set_option linter.unusedVariables false
attribute [local go_sem ↓] Go.wp_at_zero Go.wp_at_succ

/-- a slice's head over a row of fields that lies in memory -/
def FRow (W : World) (ao : Option Addr) (fs : List (Int × Int)) : Prop :=
  fs = [] ∨ ∃ b off, ao = some ⟨b, off, none⟩ ∧ b < W.heap.size ∧ ∀ i, i < fs.length → W.cell? ⟨b, off + i * 2, none⟩ = some (.int .i64 (fs.getD i (0, 0)).1) ∧ W.cell? ⟨b, off + i * 2 + 1, none⟩ = some (.int .i64 (fs.getD i (0, 0)).2)
theorem FRow.below {W W' : World} {ao : Option Addr} {fs : List (Int × Int)} (h : FRow W ao fs) (hb : Below W.heap.size W W') : FRow W' ao fs := by
  rcases h with h | ⟨b, off, rfl, hlt, hc⟩
  · exact .inl h
  · exact .inr ⟨b, off, rfl, Nat.lt_of_lt_of_le hlt hb.size, fun i hi => ⟨(hb.cell (p := ⟨b, off + i * 2, none⟩) hlt).trans (hc i hi).1, (hb.cell (p := ⟨b, off + i * 2 + 1, none⟩) hlt).trans (hc i hi).2⟩⟩

/-- is a field one? -/
def okF (f : Int × Int) : Bool := validB f.1 && (!madeB f.1.toNat && (decide (0 ≤ f.2) && decide (f.2 ≤ 255)))
/-- what is wrong with a row -/
def fieldsE (fs : List (Int × Int)) : Int := if fs.all okF = true then (if 100 < fs.length then 2 else 0) else 1
/-- the numbers of a row fit their kind -/
def FNums (fs : List (Int × Int)) : Prop := ∀ f ∈ fs, f.1 ≤ 9223372036854775807

/-- the first k are fields -/
def AllTo (fs : List (Int × Int)) (k : Nat) : Prop := (fs.take k).all okF = true

theorem all_take_succ (fs : List (Int × Int)) (k : Nat) (h : k < fs.length) : (fs.take (k + 1)).all okF = ((fs.take k).all okF && okF (fs.getD k (0, 0))) := by
  rw [List.take_succ_eq_append_getElem h, List.all_append]
  simp [List.getD_eq_getElem?_getD, List.getElem?_eq_getElem h]
theorem all_of_take_false (fs : List (Int × Int)) (k : Nat) (h : (fs.take k).all okF = false) : fs.all okF = false := by
  have e := List.take_append_drop k fs
  rw [← e, List.all_append, h, Bool.false_and]

set_option maxRecDepth 1000000 in
set_option maxHeartbeats 2000000 in
theorem checkFields_any (fs : List (Int × Int)) (ao : Option Addr) (cap : Nat) (w : World) (hr : FRow w ao fs) (hn : FNums fs) (hl : (fs.length : Int) ≤ 9000000000000000000) :
    Calls Try.prog 34 #[.slice ao fs.length cap] w fun e w' => e = .returned (.int .i64 (fieldsE fs)) ∧ Below w.heap.size w w' := by
  go_enter Try.func34, Try.ntmps34
  go_wp2
  go_loopw [7] (fun i wr => ∃ k : Nat, k ≤ fs.length ∧ i = .int .i64 k ∧ AllTo fs k ∧ Below w.heap.size w wr) (fun i _ => fs.length - (intOf i).toNat)
  case atStart => exact ⟨0, Nat.zero_le _, rfl, by simp [AllTo], Below.refl _ _⟩
  case round =>
    obtain ⟨k, hk, rfl, hall', hbw⟩ := hrel
    have hall : (fs.take k).all okF = true := hall'
    clear hall'
    by_cases hlt : k < fs.length
    · rcases hr with hnil | ⟨b, off, rfl, hb, hc⟩
      · rw [hnil] at hlt; simp at hlt
      obtain ⟨c0, c1⟩ := hc k hlt
      have d0 : wr.cell? ⟨b, off + k * 2, none⟩ = _ := (hbw.cell (p := ⟨b, off + k * 2, none⟩) hb).trans c0
      have d1 : wr.cell? ⟨b, off + k * 2 + 1, none⟩ = _ := (hbw.cell (p := ⟨b, off + k * 2 + 1, none⟩) hb).trans c1
      have hnext := all_take_succ fs k hlt
      rw [hall, Bool.true_and] at hnext
      have hfn : (fs.getD k (0, 0)).1 ≤ 9223372036854775807 := hn _ (by
        rw [List.getD_eq_getElem?_getD, List.getElem?_eq_getElem hlt]; exact List.getElem_mem hlt)
      have hfo : okF (fs.getD k (0, 0)) = false → fieldsE fs = 1 := fun h => by
        unfold fieldsE
        rw [all_of_take_false fs (k + 1) (by rw [hnext, h]), if_neg (by decide)]
      generalize fs.getD k (0, 0) = f at *
      obtain ⟨ft, fl⟩ := f
      simp only at d0 d1 hfn
      have n1 := fun w => valid_any ft w hfn
      have hbk : b < wr.heap.size := World.block_lt_of_cell? _ _ d0
      clear c0 c1 hc
      cases hv : validB ft with
      | false =>
        rw [hv] at n1
        have N1 := hide n1
        have HO := hide (hfo (by unfold okF; rw [hv, Bool.false_and]))
        clear n1 hfo hnext hall hv
        go_wp2_with (go_at_call 53; refine (unhide N1 _).mono ?_; rintro e w1 ⟨rfl, hw1⟩; subst hw1)
        go_ret
        exact ⟨ret_int (unhide HO).symm, hbw.alloc hbw.size _⟩
      | true =>
        obtain ⟨h1, h2⟩ := validB_lt hv
        obtain ⟨tn, rfl⟩ := Int.eq_ofNat_of_zero_le (show 0 ≤ ft by omega)
        have n2 := fun w => made_any tn w (by omega) hv
        rw [hv] at n1
        cases hm : madeB tn with
        | true =>
          rw [hm] at n2
          have N1 := hide n1; have N2 := hide n2
          have HO := hide (hfo (by unfold okF; simp [hv, hm]))
          clear n1 n2 hfo hnext hall hv hm
          go_wp2_with (first | (go_at_call 53; refine (unhide N1 _).mono ?_; rintro e w1 ⟨rfl, hw1⟩; subst hw1) | (go_at_call 54; refine (unhide N2 _).mono ?_; rintro e w1 ⟨rfl, hw1⟩; subst hw1))
          go_ret
          exact ⟨ret_int (unhide HO).symm, hbw.alloc hbw.size _⟩
        | false =>
          rw [hm] at n2
          have N1 := hide n1; have N2 := hide n2
          by_cases hl0 : fl < 0
          · have HO := hide (hfo (by unfold okF; simp; intros; omega))
            clear n1 n2 hfo hnext hall hv hm
            go_wp2_with (first | (go_at_call 53; refine (unhide N1 _).mono ?_; rintro e w1 ⟨rfl, hw1⟩; subst hw1) | (go_at_call 54; refine (unhide N2 _).mono ?_; rintro e w1 ⟨rfl, hw1⟩; subst hw1))
            go_ret
            exact ⟨ret_int (unhide HO).symm, hbw.alloc hbw.size _⟩
          · by_cases hl2 : 255 < fl
            · have HO := hide (hfo (by unfold okF; simp; intros; omega))
              clear n1 n2 hfo hnext hall hv hm
              go_wp2_with (first | (go_at_call 53; refine (unhide N1 _).mono ?_; rintro e w1 ⟨rfl, hw1⟩; subst hw1) | (go_at_call 54; refine (unhide N2 _).mono ?_; rintro e w1 ⟨rfl, hw1⟩; subst hw1))
              go_ret
              exact ⟨ret_int (unhide HO).symm, hbw.alloc hbw.size _⟩
            · have hok : okF ((tn : Int), fl) = true := by unfold okF; simp [hv, hm]; omega
              rw [hok] at hnext
              have HX := hide hnext
              have g0 : 0 ≤ fl := by omega
              have g1 : fl ≤ 255 := by omega
              clear n1 n2 hfo hnext hall hv hm hok hl0 hl2 h1 h2 hfn hn
              go_wp2_with fail
              refine (unhide N1 _).mono ?_
              rintro e w1 ⟨rfl, hw1⟩
              subst hw1
              go_wp2_with fail
              refine (unhide N2 _).mono ?_
              rintro e w1 ⟨rfl, hw1⟩
              subst hw1
              go_wp2_with fail
              go_roundw
              case rel => exact ⟨k + 1, by omega, by go_num, unhide HX, hbw.alloc hbw.size _⟩
              case measure => simp [intOf]; omega
    · rw [List.take_of_length_le (by omega)] at hall
      have he : fieldsE fs = if 100 < fs.length then 2 else 0 := by unfold fieldsE; rw [if_pos hall]
      have HE := hide he
      clear hall he
      by_cases h100 : 100 < fs.length
      · have H1 := hide h100
        go_wp2
        go_ret
        exact ⟨ret_int (by rw [unhide HE, if_pos (unhide H1)]), hbw⟩
      · have H1 := hide h100
        go_wp2
        go_ret
        exact ⟨ret_int (by rw [unhide HE, if_neg (unhide H1)]), hbw⟩
end Go.Proofs.Ytolicaaifhfhcaa
