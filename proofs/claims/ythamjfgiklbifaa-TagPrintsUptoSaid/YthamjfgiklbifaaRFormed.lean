/- formed of the reference. -/
import Derived.Test.YthamjfgiklbifaaRSized
import Derived.Deep.DeepCutAuto
namespace Go.Proofs.Ythamjfgiklbifaa
open Go.RowKit
set_option linter.unusedVariables false

/-- what formed answers -/
def formV (r : Option (Nat × Nat)) : Value := match r with
  | some (_, p) => .tuple #[.bool true, .int .i64 p]
  | none => .tuple #[.bool false, .int .i64 0]
theorem ret_form {s p : Nat} {r : Option (Nat × Nat)} (h : r = some (s, p)) : Ending.returned (.tuple #[.bool true, .int .i64 p]) = .returned (formV r) := by rw [h]; rfl
theorem ret_form_no {r : Option (Nat × Nat)} (h : r = none) : Ending.returned (.tuple #[.bool false, .int .i64 0]) = .returned (formV r) := by rw [h]; rfl
/-- deeper than nothing where there is an item -/
theorem fold_pos {M : List It → Option (Nat × Nat)} : ∀ (l : List It) (s0 p0 s p : Nat), l.foldl (stepM M) (some (s0, p0)) = some (s, p) → p0 ≤ p ∧ (l ≠ [] → 1 ≤ p)
  | [], s0, p0, s, p, h => by simp at h; simp [h.2]
  | x :: r, s0, p0, s, p, h => by
    rw [List.foldl_cons, step_yes] at h
    by_cases hf : fitsB x.tag x.text.size x.list.length = true
    · rw [if_pos hf] at h
      cases hm : M x.list with
      | none => rw [hm, Option.map_none, step_none] at h; cases h
      | some b =>
        rw [hm, Option.map_some] at h
        obtain ⟨b1, b2⟩ := b
        have := fold_pos r _ _ s p h
        refine ⟨by omega, fun _ => by omega⟩
    · rw [if_neg hf, step_none] at h; cases h

set_option maxRecDepth 1000000 in
set_option maxHeartbeats 8000000 in
theorem formed_any : ∀ (d : Nat) (l : List It) (ao : Option Addr) (cap : Nat) (w : World), IRow w d ao l → wt d l ≤ 1048576 → d ≤ 1048576 →
    Calls Try.prog 13 #[.slice ao l.length cap] w fun e w' => e = .returned (formV (measD d l)) ∧ Below w.heap.size w w'
  | 0, l, ao, cap, w, hr, hw, hdm => by
    have hl : l = [] := hr
    subst hl
    clear hr hw
    go_enter Try.func13, Try.ntmps13
    go_wp2
    go_loopw [4, 5] (fun pv i wr => pv = .int .i64 0 ∧ i = .int .i64 0 ∧ Below w.heap.size w wr) (fun _ _ _ => 0)
    case atStart => exact ⟨rfl, rfl, Below.refl _ _⟩
    case round =>
      obtain ⟨rfl, rfl, hbw⟩ := hrel
      go_wp2
      go_ret2
      exact ⟨rfl, hbw⟩
  | d + 1, l, ao, cap, w, hr, hw, hdm => by
    have hlen := hr.length_le
    have hlm : (l.length : Int) ≤ 1048576 := by omega
    have hres : measD (d + 1) l = l.foldl (stepM (measD d)) (some (0, 0)) := rfl
    have IH := hide (formed_any d)
    have HW := hide hw; have HR := hide hres; have HD := hide hdm
    clear hw hres hlen hdm
    by_cases hl0 : l.length = 0
    · have hl : l = [] := List.length_eq_zero_iff.1 hl0
      subst hl
      go_enter Try.func13, Try.ntmps13
      go_wp2
      go_loopw [4, 5] (fun pv i wr => pv = .int .i64 0 ∧ i = .int .i64 0 ∧ Below w.heap.size w wr) (fun _ _ _ => 0)
      case atStart => exact ⟨rfl, rfl, Below.refl _ _⟩
      case round =>
        obtain ⟨rfl, rfl, hbw⟩ := hrel
        go_wp2
        go_ret2
        exact ⟨rfl, hbw⟩
    · have t0 : decide ((0 : Int) < (l.length : Int)) = true := decide_eq_true (by omega)
      have hlp : 0 < l.length := by omega
      clear hl0
      go_enter Try.func13, Try.ntmps13
      go_wp2
      go_loopw [4, 5] (fun pv i wr => ∃ k s p : Nat, k ≤ l.length ∧ pv = .int .i64 ((max 1 p : Nat) : Int) ∧ i = .int .i64 k ∧ (l.take k).foldl (stepM (measD d)) (some (0, 0)) = some (s, p) ∧ Below w.heap.size w wr) (fun _ i _ => l.length - (intOf i).toNat)
      case atStart => exact ⟨0, 0, 0, Nat.zero_le _, rfl, rfl, by simp, Below.refl _ _⟩
      case round =>
        rename World => wo
        obtain ⟨k, s, p, hk, rfl, rfl, hfo, hbw⟩ := hrel
        by_cases hlt : k < l.length
        · rcases hr with hnil | ⟨b, off, rfl, hb, hc⟩
          · rw [hnil] at hlt; simp at hlt
          obtain ⟨x, hx⟩ : ∃ x, l[k]? = some x := ⟨_, List.getElem?_eq_getElem hlt⟩
          obtain ⟨co, cc, c0, c1, c2, hcc, hsub, htag, htxt⟩ := hc k x hx
          have hwx := wt_get (d := d) hx
          have hww := unhide HW
          have hxn := hsub.length_le
          have d0 : wo.cell? ⟨b, off + k * 3, none⟩ = _ := (hbw.cell (p := ⟨b, off + k * 3, none⟩) hb).trans c0
          have d1 : wo.cell? ⟨b, off + k * 3 + 1, none⟩ = _ := (hbw.cell (p := ⟨b, off + k * 3 + 1, none⟩) hb).trans c1
          have d2 : wo.cell? ⟨b, off + k * 3 + 2, none⟩ = _ := (hbw.cell (p := ⟨b, off + k * 3 + 2, none⟩) hb).trans c2
          have hbk : b < wo.heap.size := World.block_lt_of_cell? _ _ d0
          have hpm : (p : Int) ≤ 1048577 := by
            have h1 := fold_le (meas_le d) (l.take k) 0 0 s p hfo
            have := unhide HD
            omega
          have hxn2 : (x.list.length : Int) ≤ 1048576 := by omega
          have n1 := fun w => rvalid_any x.tag w htag
          have N2 := hide (fun (w2 : World) (h : Below w.heap.size w w2) => unhide IH x.list co cc w2 (IRow.below h d hsub) (by omega) (by have := unhide HD; omega))
          have hnx := fold_take (M := measD d) (a := some (0, 0)) hx
          rw [hfo, step_yes] at hnx
          have hml := meas_le d x.list
          have hte := str_empty x.text
          generalize x.tag = xt at *
          generalize x.text = xs at *
          generalize x.list.length = xn at *
          generalize measD d x.list = xm at *
          clear c0 c1 c2 hc hsub hx hww hwx hxn hfo
          cases hv : validB xt with
          | false =>
            have hf : fitsB xt xs.size xn = false := by unfold fitsB madeV; rw [hv]; simp
            rw [hf] at hnx
            simp only [Bool.false_eq_true, if_false] at hnx
            rw [hv] at n1
            have N1 := hide n1; have HN := hide (fold_stop hnx)
            clear n1 hnx hf hml hte hv N2
            go_wp2_with fail
            have hblk1 := heap_alloc_new wo (.cells #[.int .i64 xt, .string xs, .slice co xn cc] 40)
            have hbel1 : Below w.heap.size w (wo.alloc (.cells #[.int .i64 xt, .string xs, .slice co xn cc] 40)) := hbw.alloc hbw.size _
            have hsz1 : wo.heap.size < (wo.alloc (.cells #[.int .i64 xt, .string xs, .slice co xn cc] 40)).heap.size := by simp
            generalize wo.alloc (.cells #[.int .i64 xt, .string xs, .slice co xn cc] 40) = w1 at *
            clear hbw d0 d1 d2 hbk
            generalize wo.heap.size = gi at *
            refine (unhide N1 _).mono ?_
            rintro e w2 ⟨rfl, hb2⟩
            have hblk2 : w2.heap[gi]? = some (.cells #[.int .i64 xt, .string xs, .slice co xn cc] 40 (0, 0)) := (hb2.block _ hsz1).trans hblk1
            have hbel2 := below_more hbel1 hbel1.size hb2
            have hsz2 : gi < w2.heap.size := Nat.lt_of_lt_of_le hsz1 hb2.size
            clear hblk1 hbel1 hsz1 hb2
            have z0 : w2.cell? ⟨gi, 0, none⟩ = some (.int .i64 xt) := cell_of_row _ _ 0 _ _ _ hblk2
            have z1 : w2.cell? ⟨gi, 1, none⟩ = some (.string xs) := cell_of_row _ _ 1 _ _ _ hblk2
            have z2 : w2.cell? ⟨gi, 2, none⟩ = some (.slice co xn cc) := cell_of_row _ _ 2 _ _ _ hblk2
            clear z0 z1 z2
            go_wp2
            go_ret2
            exact ⟨ret_form_no (by rw [unhide HR, unhide HN]), hbel2⟩
          | true =>
            obtain ⟨hv1, hv2⟩ := validB_lt hv
            obtain ⟨tn, rfl⟩ := Int.eq_ofNat_of_zero_le (show 0 ≤ xt by omega)
            have n3 := fun w => rmade_any tn w (by omega)
            have hmv : madeV (tn : Int) = madeB tn := by unfold madeV; rw [hv, Bool.true_and, Int.toNat_natCast]
            rw [hv] at n1
            have N1 := hide n1
            clear n1 hv1 hv2
            cases hm : madeB tn with
            | true =>
              rw [hm] at n3 hmv
              have N3 := hide n3
              have hff : fitsB (tn : Int) xs.size xn = (xs.size == 0) := by unfold fitsB; rw [hmv]; simp
              rw [hff, ← hte] at hnx
              clear n3 hm hmv hff hv
              cases hem : xs.toList.isEmpty with
              | false =>
                rw [hem] at hnx
                simp only [Bool.false_eq_true, if_false] at hnx
                have HN := hide (fold_stop hnx)
                clear hnx hml hte N2
                go_wp2_with fail
                have hblk1 := heap_alloc_new wo (.cells #[.int .i64 (tn : Int), .string xs, .slice co xn cc] 40)
                have hbel1 : Below w.heap.size w (wo.alloc (.cells #[.int .i64 (tn : Int), .string xs, .slice co xn cc] 40)) := hbw.alloc hbw.size _
                have hsz1 : wo.heap.size < (wo.alloc (.cells #[.int .i64 (tn : Int), .string xs, .slice co xn cc] 40)).heap.size := by simp
                generalize wo.alloc (.cells #[.int .i64 (tn : Int), .string xs, .slice co xn cc] 40) = w1 at *
                clear hbw d0 d1 d2 hbk
                generalize wo.heap.size = gi at *
                refine (unhide N1 _).mono ?_
                rintro e w2 ⟨rfl, hb2⟩
                have hblk2 : w2.heap[gi]? = some (.cells #[.int .i64 (tn : Int), .string xs, .slice co xn cc] 40 (0, 0)) := (hb2.block _ hsz1).trans hblk1
                have hbel2 := below_more hbel1 hbel1.size hb2
                have hsz2 : gi < w2.heap.size := Nat.lt_of_lt_of_le hsz1 hb2.size
                clear hblk1 hbel1 hsz1 hb2
                have z0 : w2.cell? ⟨gi, 0, none⟩ = some (.int .i64 (tn : Int)) := cell_of_row _ _ 0 _ _ _ hblk2
                have z1 : w2.cell? ⟨gi, 1, none⟩ = some (.string xs) := cell_of_row _ _ 1 _ _ _ hblk2
                have z2 : w2.cell? ⟨gi, 2, none⟩ = some (.slice co xn cc) := cell_of_row _ _ 2 _ _ _ hblk2
                go_wp2_with fail
                clear z0 z1 z2
                refine (unhide N3 _).mono ?_
                rintro e w3 ⟨rfl, hb3⟩
                have hblk3 : w3.heap[gi]? = some (.cells #[.int .i64 (tn : Int), .string xs, .slice co xn cc] 40 (0, 0)) := (hb3.block _ hsz2).trans hblk2
                have hbel3 := below_more hbel2 hbel2.size hb3
                have hsz3 : gi < w3.heap.size := Nat.lt_of_lt_of_le hsz2 hb3.size
                clear hblk2 hbel2 hsz2 hb3
                have z0 : w3.cell? ⟨gi, 0, none⟩ = some (.int .i64 (tn : Int)) := cell_of_row _ _ 0 _ _ _ hblk3
                have z1 : w3.cell? ⟨gi, 1, none⟩ = some (.string xs) := cell_of_row _ _ 1 _ _ _ hblk3
                have z2 : w3.cell? ⟨gi, 2, none⟩ = some (.slice co xn cc) := cell_of_row _ _ 2 _ _ _ hblk3
                go_wp2
                go_ret2
                exact ⟨ret_form_no (by rw [unhide HR, unhide HN]), hbel3⟩
              | true =>
                rw [hem] at hnx
                simp only [if_true] at hnx
                clear hte
                go_wp2_with fail
                have hblk1 := heap_alloc_new wo (.cells #[.int .i64 (tn : Int), .string xs, .slice co xn cc] 40)
                have hbel1 : Below w.heap.size w (wo.alloc (.cells #[.int .i64 (tn : Int), .string xs, .slice co xn cc] 40)) := hbw.alloc hbw.size _
                have hsz1 : wo.heap.size < (wo.alloc (.cells #[.int .i64 (tn : Int), .string xs, .slice co xn cc] 40)).heap.size := by simp
                generalize wo.alloc (.cells #[.int .i64 (tn : Int), .string xs, .slice co xn cc] 40) = w1 at *
                clear hbw d0 d1 d2 hbk
                generalize wo.heap.size = gi at *
                refine (unhide N1 _).mono ?_
                rintro e w2 ⟨rfl, hb2⟩
                have hblk2 : w2.heap[gi]? = some (.cells #[.int .i64 (tn : Int), .string xs, .slice co xn cc] 40 (0, 0)) := (hb2.block _ hsz1).trans hblk1
                have hbel2 := below_more hbel1 hbel1.size hb2
                have hsz2 : gi < w2.heap.size := Nat.lt_of_lt_of_le hsz1 hb2.size
                clear hblk1 hbel1 hsz1 hb2
                have z0 : w2.cell? ⟨gi, 0, none⟩ = some (.int .i64 (tn : Int)) := cell_of_row _ _ 0 _ _ _ hblk2
                have z1 : w2.cell? ⟨gi, 1, none⟩ = some (.string xs) := cell_of_row _ _ 1 _ _ _ hblk2
                have z2 : w2.cell? ⟨gi, 2, none⟩ = some (.slice co xn cc) := cell_of_row _ _ 2 _ _ _ hblk2
                go_wp2_with fail
                clear z0 z1 z2
                refine (unhide N3 _).mono ?_
                rintro e w3 ⟨rfl, hb3⟩
                have hblk3 : w3.heap[gi]? = some (.cells #[.int .i64 (tn : Int), .string xs, .slice co xn cc] 40 (0, 0)) := (hb3.block _ hsz2).trans hblk2
                have hbel3 := below_more hbel2 hbel2.size hb3
                have hsz3 : gi < w3.heap.size := Nat.lt_of_lt_of_le hsz2 hb3.size
                clear hblk2 hbel2 hsz2 hb3
                have z0 : w3.cell? ⟨gi, 0, none⟩ = some (.int .i64 (tn : Int)) := cell_of_row _ _ 0 _ _ _ hblk3
                have z1 : w3.cell? ⟨gi, 1, none⟩ = some (.string xs) := cell_of_row _ _ 1 _ _ _ hblk3
                have z2 : w3.cell? ⟨gi, 2, none⟩ = some (.slice co xn cc) := cell_of_row _ _ 2 _ _ _ hblk3
                go_wp2_with fail
                clear z0 z1 z2
                refine (unhide N3 _).mono ?_
                rintro e w4 ⟨rfl, hb4⟩
                have hblk4 : w4.heap[gi]? = some (.cells #[.int .i64 (tn : Int), .string xs, .slice co xn cc] 40 (0, 0)) := (hb4.block _ hsz3).trans hblk3
                have hbel4 := below_more hbel3 hbel3.size hb4
                have hsz4 : gi < w4.heap.size := Nat.lt_of_lt_of_le hsz3 hb4.size
                clear hblk3 hbel3 hsz3 hb4
                have z0 : w4.cell? ⟨gi, 0, none⟩ = some (.int .i64 (tn : Int)) := cell_of_row _ _ 0 _ _ _ hblk4
                have z1 : w4.cell? ⟨gi, 1, none⟩ = some (.string xs) := cell_of_row _ _ 1 _ _ _ hblk4
                have z2 : w4.cell? ⟨gi, 2, none⟩ = some (.slice co xn cc) := cell_of_row _ _ 2 _ _ _ hblk4
                go_wp2_with fail
                cases hxm : xm with
                | none =>
                  rw [hxm] at N2 hnx
                  have HN := hide (fold_stop hnx)
                  refine (unhide N2 _ hbel4).mono ?_
                  rintro e w9 ⟨he, hb9⟩
                  have he2 : e = .returned (.tuple #[.bool false, .int .i64 0]) := he
                  subst he2
                  have hbel9 := below_more hbel4 hbel4.size hb9
                  clear he hnx hxm hml N2 hb9
                  go_wp2
                  go_ret2
                  exact ⟨ret_form_no (by rw [unhide HR, unhide HN]), hbel9⟩
                | some bb =>
                  obtain ⟨b1, b2⟩ := bb
                  rw [hxm] at N2 hnx
                  rw [Option.map_some] at hnx
                  have hbb := hml b1 b2 hxm
                  have hb2m : (b2 : Int) ≤ 1048576 := by have := unhide HD; omega
                  refine (unhide N2 _ hbel4).mono ?_
                  rintro e w9 ⟨he, hb9⟩
                  have he2 : e = .returned (.tuple #[.bool true, .int .i64 b2]) := he
                  subst he2
                  have hbel9 := below_more hbel4 hbel4.size hb9
                  have HX := hide hnx
                  clear he hnx hxm hml N2 hb9 hbb
                  go_wp2_with fail
                  refine ⟨⟨k + 1, _, _, by omega, ?_, by go_num, unhide HX, hbel9⟩, by simp [intOf]; omega⟩
                  congr 1
                  split <;> omega
            | false =>
              rw [hm] at n3 hmv
              have N3 := hide n3
              have hff : fitsB (tn : Int) xs.size xn = (xn == 0) := by unfold fitsB; rw [hmv, hv]; simp
              rw [hff] at hnx
              clear n3 hm hmv hff hv hte
              by_cases hx0 : xn = 0
              · have t5 : ((xn : Int) != 0) = false := by rw [hx0]; rfl
                rw [hx0] at hnx
                simp only [beq_self_eq_true, if_true] at hnx
                clear hx0
                go_wp2_with fail
                have hblk1 := heap_alloc_new wo (.cells #[.int .i64 (tn : Int), .string xs, .slice co xn cc] 40)
                have hbel1 : Below w.heap.size w (wo.alloc (.cells #[.int .i64 (tn : Int), .string xs, .slice co xn cc] 40)) := hbw.alloc hbw.size _
                have hsz1 : wo.heap.size < (wo.alloc (.cells #[.int .i64 (tn : Int), .string xs, .slice co xn cc] 40)).heap.size := by simp
                generalize wo.alloc (.cells #[.int .i64 (tn : Int), .string xs, .slice co xn cc] 40) = w1 at *
                clear hbw d0 d1 d2 hbk
                generalize wo.heap.size = gi at *
                refine (unhide N1 _).mono ?_
                rintro e w2 ⟨rfl, hb2⟩
                have hblk2 : w2.heap[gi]? = some (.cells #[.int .i64 (tn : Int), .string xs, .slice co xn cc] 40 (0, 0)) := (hb2.block _ hsz1).trans hblk1
                have hbel2 := below_more hbel1 hbel1.size hb2
                have hsz2 : gi < w2.heap.size := Nat.lt_of_lt_of_le hsz1 hb2.size
                clear hblk1 hbel1 hsz1 hb2
                have z0 : w2.cell? ⟨gi, 0, none⟩ = some (.int .i64 (tn : Int)) := cell_of_row _ _ 0 _ _ _ hblk2
                have z1 : w2.cell? ⟨gi, 1, none⟩ = some (.string xs) := cell_of_row _ _ 1 _ _ _ hblk2
                have z2 : w2.cell? ⟨gi, 2, none⟩ = some (.slice co xn cc) := cell_of_row _ _ 2 _ _ _ hblk2
                go_wp2_with fail
                clear z0 z1 z2
                refine (unhide N3 _).mono ?_
                rintro e w3 ⟨rfl, hb3⟩
                have hblk3 : w3.heap[gi]? = some (.cells #[.int .i64 (tn : Int), .string xs, .slice co xn cc] 40 (0, 0)) := (hb3.block _ hsz2).trans hblk2
                have hbel3 := below_more hbel2 hbel2.size hb3
                have hsz3 : gi < w3.heap.size := Nat.lt_of_lt_of_le hsz2 hb3.size
                clear hblk2 hbel2 hsz2 hb3
                have z0 : w3.cell? ⟨gi, 0, none⟩ = some (.int .i64 (tn : Int)) := cell_of_row _ _ 0 _ _ _ hblk3
                have z1 : w3.cell? ⟨gi, 1, none⟩ = some (.string xs) := cell_of_row _ _ 1 _ _ _ hblk3
                have z2 : w3.cell? ⟨gi, 2, none⟩ = some (.slice co xn cc) := cell_of_row _ _ 2 _ _ _ hblk3
                go_wp2_with fail
                clear z0 z1 z2
                refine (unhide N3 _).mono ?_
                rintro e w4 ⟨rfl, hb4⟩
                have hblk4 : w4.heap[gi]? = some (.cells #[.int .i64 (tn : Int), .string xs, .slice co xn cc] 40 (0, 0)) := (hb4.block _ hsz3).trans hblk3
                have hbel4 := below_more hbel3 hbel3.size hb4
                have hsz4 : gi < w4.heap.size := Nat.lt_of_lt_of_le hsz3 hb4.size
                clear hblk3 hbel3 hsz3 hb4
                have z0 : w4.cell? ⟨gi, 0, none⟩ = some (.int .i64 (tn : Int)) := cell_of_row _ _ 0 _ _ _ hblk4
                have z1 : w4.cell? ⟨gi, 1, none⟩ = some (.string xs) := cell_of_row _ _ 1 _ _ _ hblk4
                have z2 : w4.cell? ⟨gi, 2, none⟩ = some (.slice co xn cc) := cell_of_row _ _ 2 _ _ _ hblk4
                go_wp2_with fail
                cases hxm : xm with
                | none =>
                  rw [hxm] at N2 hnx
                  have HN := hide (fold_stop hnx)
                  refine (unhide N2 _ hbel4).mono ?_
                  rintro e w9 ⟨he, hb9⟩
                  have he2 : e = .returned (.tuple #[.bool false, .int .i64 0]) := he
                  subst he2
                  have hbel9 := below_more hbel4 hbel4.size hb9
                  clear he hnx hxm hml N2 hb9
                  go_wp2
                  go_ret2
                  exact ⟨ret_form_no (by rw [unhide HR, unhide HN]), hbel9⟩
                | some bb =>
                  obtain ⟨b1, b2⟩ := bb
                  rw [hxm] at N2 hnx
                  rw [Option.map_some] at hnx
                  have hbb := hml b1 b2 hxm
                  have hb2m : (b2 : Int) ≤ 1048576 := by have := unhide HD; omega
                  refine (unhide N2 _ hbel4).mono ?_
                  rintro e w9 ⟨he, hb9⟩
                  have he2 : e = .returned (.tuple #[.bool true, .int .i64 b2]) := he
                  subst he2
                  have hbel9 := below_more hbel4 hbel4.size hb9
                  have HX := hide hnx
                  clear he hnx hxm hml N2 hb9 hbb
                  go_wp2_with fail
                  refine ⟨⟨k + 1, _, _, by omega, ?_, by go_num, unhide HX, hbel9⟩, by simp [intOf]; omega⟩
                  congr 1
                  split <;> omega
              · have t5 : ((xn : Int) != 0) = true := by simp; omega
                rw [beq_eq_false_iff_ne.2 hx0] at hnx
                simp only [Bool.false_eq_true, if_false] at hnx
                have HN := hide (fold_stop hnx)
                clear hnx hml N2 hx0
                go_wp2_with fail
                have hblk1 := heap_alloc_new wo (.cells #[.int .i64 (tn : Int), .string xs, .slice co xn cc] 40)
                have hbel1 : Below w.heap.size w (wo.alloc (.cells #[.int .i64 (tn : Int), .string xs, .slice co xn cc] 40)) := hbw.alloc hbw.size _
                have hsz1 : wo.heap.size < (wo.alloc (.cells #[.int .i64 (tn : Int), .string xs, .slice co xn cc] 40)).heap.size := by simp
                generalize wo.alloc (.cells #[.int .i64 (tn : Int), .string xs, .slice co xn cc] 40) = w1 at *
                clear hbw d0 d1 d2 hbk
                generalize wo.heap.size = gi at *
                refine (unhide N1 _).mono ?_
                rintro e w2 ⟨rfl, hb2⟩
                have hblk2 : w2.heap[gi]? = some (.cells #[.int .i64 (tn : Int), .string xs, .slice co xn cc] 40 (0, 0)) := (hb2.block _ hsz1).trans hblk1
                have hbel2 := below_more hbel1 hbel1.size hb2
                have hsz2 : gi < w2.heap.size := Nat.lt_of_lt_of_le hsz1 hb2.size
                clear hblk1 hbel1 hsz1 hb2
                have z0 : w2.cell? ⟨gi, 0, none⟩ = some (.int .i64 (tn : Int)) := cell_of_row _ _ 0 _ _ _ hblk2
                have z1 : w2.cell? ⟨gi, 1, none⟩ = some (.string xs) := cell_of_row _ _ 1 _ _ _ hblk2
                have z2 : w2.cell? ⟨gi, 2, none⟩ = some (.slice co xn cc) := cell_of_row _ _ 2 _ _ _ hblk2
                go_wp2_with fail
                clear z0 z1 z2
                refine (unhide N3 _).mono ?_
                rintro e w3 ⟨rfl, hb3⟩
                have hblk3 : w3.heap[gi]? = some (.cells #[.int .i64 (tn : Int), .string xs, .slice co xn cc] 40 (0, 0)) := (hb3.block _ hsz2).trans hblk2
                have hbel3 := below_more hbel2 hbel2.size hb3
                have hsz3 : gi < w3.heap.size := Nat.lt_of_lt_of_le hsz2 hb3.size
                clear hblk2 hbel2 hsz2 hb3
                have z0 : w3.cell? ⟨gi, 0, none⟩ = some (.int .i64 (tn : Int)) := cell_of_row _ _ 0 _ _ _ hblk3
                have z1 : w3.cell? ⟨gi, 1, none⟩ = some (.string xs) := cell_of_row _ _ 1 _ _ _ hblk3
                have z2 : w3.cell? ⟨gi, 2, none⟩ = some (.slice co xn cc) := cell_of_row _ _ 2 _ _ _ hblk3
                go_wp2_with fail
                clear z0 z1 z2
                refine (unhide N3 _).mono ?_
                rintro e w4 ⟨rfl, hb4⟩
                have hblk4 : w4.heap[gi]? = some (.cells #[.int .i64 (tn : Int), .string xs, .slice co xn cc] 40 (0, 0)) := (hb4.block _ hsz3).trans hblk3
                have hbel4 := below_more hbel3 hbel3.size hb4
                have hsz4 : gi < w4.heap.size := Nat.lt_of_lt_of_le hsz3 hb4.size
                clear hblk3 hbel3 hsz3 hb4
                have z0 : w4.cell? ⟨gi, 0, none⟩ = some (.int .i64 (tn : Int)) := cell_of_row _ _ 0 _ _ _ hblk4
                have z1 : w4.cell? ⟨gi, 1, none⟩ = some (.string xs) := cell_of_row _ _ 1 _ _ _ hblk4
                have z2 : w4.cell? ⟨gi, 2, none⟩ = some (.slice co xn cc) := cell_of_row _ _ 2 _ _ _ hblk4
                go_wp2
                go_ret2
                exact ⟨ret_form_no (by rw [unhide HR, unhide HN]), hbel4⟩
        · have hke : k = l.length := by omega
          have hfo2 : l.foldl (stepM (measD d)) (some (0, 0)) = some (s, p) := by rw [hke, List.take_length] at hfo; exact hfo
          have hp := (fold_pos l 0 0 s p hfo2).2 (by intro h; rw [h] at hlp; simp at hlp)
          have HN := hide hfo2
          have hmx : (max 1 p : Nat) = p := by omega
          rw [hmx]
          clear hfo hfo2 hmx
          go_wp2
          go_ret2
          exact ⟨ret_form (by rw [unhide HR, unhide HN]), hbw⟩
end Go.Proofs.Ythamjfgiklbifaa
