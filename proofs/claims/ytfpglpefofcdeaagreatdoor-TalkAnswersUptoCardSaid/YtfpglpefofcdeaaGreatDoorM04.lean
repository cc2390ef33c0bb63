/- headOf of the reference. -/
import Derived.Test.YtfpglpefofcdeaaGreatDoorM03
namespace Go.Proofs.YtfpglpefofcdeaaGreatDoor
open Go.RowKit
set_option linter.unusedVariables false

/-- the tag and the length at the beginning, and how many bytes they take -/
def headD (s : ByteArray) : Option (Nat × Nat × Nat) :=
  if s.size < tagSz s.data.toList then none
  else if validB (tagAt s) = false then none
  else match lenAt (behind s (tagSz s.data.toList)) with
    | none => none
    | some (n, k) => some (tagAt s, n, tagSz s.data.toList + k)
def headV (r : Option (Nat × Nat × Nat)) : Value := match r with
  | some (t, n, k) => .tuple #[.int .i64 t, .int .i64 n, .int .i64 k]
  | none => .tuple #[.int .i64 0, .int .i64 0, .int .i64 0]
theorem head_none {s : ByteArray} {j : Nat} (h : Tried s.data.toList j) (hj : 3 < j ∨ s.size < j) : headD s = none := by
  unfold headD
  split
  · rfl
  · rename_i hz
    split
    · rfl
    · rename_i hv
      have h13 := tagSz_le s.data.toList
      have hl : s.data.toList.length = s.size := by simp
      have hg := (good_iff s.data.toList (tagSz s.data.toList) h13.1 h13.2 (by omega)).2 ⟨rfl, by simpa [tagAt] using hv⟩
      have := h (tagSz s.data.toList) h13.1 (by omega)
      rw [this] at hg
      cases hg
theorem head_some {s : ByteArray} {j : Nat} (h1 : 1 ≤ j) (h3 : j ≤ 3) (hj : j ≤ s.size) (hg : goodB s.data.toList j = true) :
    headD s = match lenAt (behind s j) with | none => none | some (n, k) => some (valN (s.data.toList.take j), n, j + k) := by
  have hl : s.data.toList.length = s.size := by simp
  obtain ⟨e, hv⟩ := (good_iff s.data.toList j h1 h3 (by omega)).1 hg
  unfold headD tagAt
  rw [← e, hv, if_neg (by omega)]
  rfl

theorem val_13 (r : ByteArray) (h : 3 ≤ r.size) : valN (r.extract 1 3).data.toList = byteAt r 1 * 256 + byteAt r 2 := by
  have e : (r.extract 1 3).data.toList = (r.data.toList.drop 1).take 2 := by
    rw [ByteArray.data_extract, Array.toList_extract, List.extract_eq_take_drop]
  have hl : r.data.toList.length = r.size := by simp
  rw [e]
  unfold byteAt
  match hq : r.data.toList, hl with
  | [], hl => simp at hl; omega
  | [a], hl => simp at hl; omega
  | [a, b], hl => simp at hl; omega
  | a :: b :: c :: l, hl =>
    simp only [List.drop_succ_cons, List.drop_zero, List.take_succ_cons, List.take_zero]
    rw [valN_two]
    rfl
theorem ret_head {t n k : Nat} {a b c : Int} (h1 : a = t) (h2 : b = n) (h3 : c = k) : Ending.returned (.tuple #[.int .i64 a, .int .i64 b, .int .i64 c]) = .returned (headV (some (t, n, k))) := by rw [h1, h2, h3]; rfl

set_option maxRecDepth 1000000 in
set_option maxHeartbeats 8000000 in
theorem headOf_any (s : ByteArray) (w : World) (hs : (s.size : Int) ≤ 65535) :
    Calls Tryz.prog 124 #[.string s] w fun e w' => e = .returned (headV (headD s)) ∧ Below w.heap.size w w' := by
  go_enter Tryz.func124, Tryz.ntmps124
  go_wp2
  go_loopw [5] (fun n wr => ∃ j : Nat, 1 ≤ j ∧ j ≤ 4 ∧ n = .int .i64 j ∧ Tried s.data.toList j ∧ Below w.heap.size w wr) (fun n _ => 5 - (intOf n).toNat)
  case atStart => exact ⟨1, by omega, by omega, rfl, fun i h1 h2 => by omega, Below.refl _ _⟩
  case round =>
    rename World => wo
    obtain ⟨j, h1, h4, rfl, htr, hbw⟩ := hrel
    by_cases hout : 3 < j ∨ s.size < j
    · have HN := hide (head_none htr hout)
      clear htr
      by_cases hj : 3 < j
      · have t1 : decide ((j : Int) ≤ 3) = false := by simp; omega
        clear hout
        go_wp2
        go_ret3
        exact ⟨by rw [unhide HN]; rfl, hbw⟩
      · have t1 : decide ((j : Int) ≤ 3) = true := by simp; omega
        have t2 : decide (j ≤ s.size) = false := by simp; omega
        clear hout
        go_wp2
        go_ret3
        exact ⟨by rw [unhide HN]; rfl, hbw⟩
    · have h3 : j ≤ 3 := by omega
      have hj : j ≤ s.size := by omega
      have t1 : decide ((j : Int) ≤ 3) = true := by simp; omega
      have t2 : decide (j ≤ s.size) = true := by simp; omega
      have t3 : decide ((j : Int) ≤ (s.size : Int)) = true := by simp; omega
      have hm6 := valN_take3 s j h3
      have n1 := fun w => value_any (s.extract 0 j) w (by rw [ByteArray.size_extract]; omega) (by rw [extract_take]; omega)
      rw [extract_take] at n1
      have hsl : ∀ wx, (Instr.slice 9 (.string s) none (some (.int .i64 (j : Int))) none).run Tryz.prog wx = .ok (.string (s.extract 0 j)) wx := fun wx => by
        have := run_slice_string_h (P := Tryz.prog) wx 9 s Tryz.underlying9 .i64 (j : Int) (by omega) (by omega)
        simpa using this
      have hts := text_same s j hj
      have hgp := @goodB_parts s.data.toList j
      have hgn := @goodB_not s.data.toList j
      have hhs := @head_some s j h1 h3 hj
      have hmi : ((valN (s.data.toList.take j) : Nat) : Int) ≤ 9223372036854775807 := by omega
      have n2 := fun w => rvalid_any (valN (s.data.toList.take j) : Nat) w hmi
      have n3 := fun w => tagText_any (valN (s.data.toList.take j)) w hm6
      generalize valN (s.data.toList.take j) = m at *
      generalize s.extract 0 j = u at *
      generalize strOfNums (bigL m (tagLen m)) = T at *
      clear hout hm6 hmi
      have HT := hide htr
      clear htr
      cases hg : goodB s.data.toList j with
      | false =>
        have HG := hide (tried_next (unhide HT) hg)
        have N1 := hide n1; have N3 := hide n3
        clear n1 n3 hgp hhs
        rcases hgn hg with hv | ⟨hv, htl⟩
        · rw [hv] at n2
          have N2 := hide n2
          clear n2 hts hgn hv hg
          go_wp2_with fail
          refine (unhide N1 _).mono ?_
          rintro e w2 ⟨rfl, hw2⟩
          subst hw2
          go_wp2_with fail
          refine wp_region_below w2 (Below.refl _ _) (by kernel_rfl) (by kernel_rfl) ?_
          repeat (
            refine Quietly.step (fun K hK => ?_)
            go_simp
            first
              | (refine hK _ ?_; clear hK K)
              | (apply Exists.intro
                 refine ⟨fun w1 hw1 => ?_, hK _ ?_⟩
                 (first | rfl | (go_at_call 78; exact calls_below hw1 (unhide N2 _)) | (go_at_call 80; exact calls_below hw1 (unhide N3 _)))
                 clear hK K))
          refine Quietly.nil ?_
          intro w3 hw3
          go_wp2_with fail
          go_roundw
          case rel => exact ⟨j + 1, by omega, by omega, by go_num, unhide HG, below_more hbw hbw.size hw3⟩
          case measure => simp [intOf]; omega
        · have hne : (T.toList == u.toList) = false := by
            rw [beq_eq_false_iff_ne]
            intro h
            exact htl (hts.1 (by apply ByteArray.ext; apply Array.toList_inj.1; rw [Lib.toList_data, Lib.toList_data] at h; exact h))
          have hne' : T ≠ u := fun h => htl (hts.1 h)
          rw [hv] at n2
          have N2 := hide n2
          clear n2 hts hgn hv hg htl
          go_wp2_with fail
          refine (unhide N1 _).mono ?_
          rintro e w2 ⟨rfl, hw2⟩
          subst hw2
          go_wp2_with fail
          refine wp_region_below w2 (Below.refl _ _) (by kernel_rfl) (by kernel_rfl) ?_
          repeat (
            refine Quietly.step (fun K hK => ?_)
            go_simp
            first
              | (refine hK _ ?_; clear hK K)
              | (apply Exists.intro
                 refine ⟨fun w1 hw1 => ?_, hK _ ?_⟩
                 (first | rfl | (go_at_call 78; exact calls_below hw1 (unhide N2 _)) | (go_at_call 80; exact calls_below hw1 (unhide N3 _)))
                 clear hK K))
          refine Quietly.nil ?_
          intro w3 hw3
          go_wp2_with fail
          go_roundw
          case rel => exact ⟨j + 1, by omega, by omega, by go_num, unhide HG, below_more hbw hbw.size hw3⟩
          case measure => simp [intOf]; omega
      | true =>
        have hv := (hgp hg).1
        have hT := hts.2 (hgp hg).2
        have hres := hhs hg
        rw [hv] at n2
        rw [hT] at n3
        have hsl2 : ∀ wx, (Instr.slice 9 (.string s) (some (.int .i64 (j : Int))) none none).run Tryz.prog wx = .ok (.string (behind s j)) wx := fun wx => by
          have := run_slice_string_l (P := Tryz.prog) wx 9 s Tryz.underlying9 .i64 (j : Int) (by omega) (by omega)
          simpa [behind] using this
        have hbs := behind_size s j
        have b0 := get_byte (behind s j) 0
        have b1 := get_byte (behind s j) 1
        have b2 := get_byte (behind s j) 2
        have l0 := byteAt_lt (behind s j) 0
        have l1 := byteAt_lt (behind s j) 1
        have l2 := byteAt_lt (behind s j) 2
        have hla : lenAt (behind s j) = lenN (behind s j).size (byteAt (behind s j) 0) (byteAt (behind s j) 1) (byteAt (behind s j) 2) := rfl
        have hrm : ((behind s j).size : Int) ≤ 65535 := by omega
        rw [hla] at hres
        have hv3 := val_13 (behind s j)
        generalize behind s j = r at *
        generalize byteAt r 0 = x at *
        generalize byteAt r 1 = y at *
        generalize byteAt r 2 = z at *
        have N1 := hide n1; have N2 := hide n2; have N3 := hide n3
        clear n1 n2 n3 hts hgp hgn hv hg hT hhs HT hla hbs
        unfold lenN at hres
        by_cases hz : r.size = 0
        · rw [if_pos hz] at hres
          have HR := hide hres
          have t5 : decide (0 < (r.size : Int)) = false := decide_eq_false (by omega)
          have t6 : decide (0 < r.size) = false := decide_eq_false (by omega)
          have t7 : decide (1 < (r.size : Int)) = false := decide_eq_false (by omega)
          have t8 : decide (2 < (r.size : Int)) = false := decide_eq_false (by omega)
          clear hres b0 b1 b2 hz hv3
          go_wp2_with fail
          refine (unhide N1 _).mono ?_
          rintro e w2 ⟨rfl, hw2⟩
          subst hw2
          go_wp2_with fail
          refine wp_region_below w2 (Below.refl _ _) (by kernel_rfl) (by kernel_rfl) ?_
          repeat (
            refine Quietly.step (fun K hK => ?_)
            go_simp
            first
              | (refine hK _ ?_; clear hK K)
              | (apply Exists.intro
                 refine ⟨fun w1 hw1 => ?_, hK _ ?_⟩
                 (first | rfl | (go_at_call 78; exact calls_below hw1 (unhide N2 _)) | (go_at_call 80; exact calls_below hw1 (unhide N3 _)))
                 clear hK K))
          refine Quietly.nil ?_
          intro w3 hw3
          go_wp2
          all_goals
            go_ret3
            exact ⟨by rw [unhide HR]; rfl, below_more hbw hbw.size hw3⟩
        · rw [if_neg hz] at hres
          have t5 : decide (0 < (r.size : Int)) = true := decide_eq_true (by omega)
          have t6 : decide (0 < r.size) = true := decide_eq_true (by omega)
          have hp : 0 < r.size := by omega
          clear hz
          by_cases c0 : x < 128
          · rw [if_pos c0] at hres
            have HR := hide hres
            clear hres b1 b2 hv3
            go_wp2_with fail
            refine (unhide N1 _).mono ?_
            rintro e w2 ⟨rfl, hw2⟩
            subst hw2
            go_wp2_with fail
            refine wp_region_below w2 (Below.refl _ _) (by kernel_rfl) (by kernel_rfl) ?_
            repeat (
              refine Quietly.step (fun K hK => ?_)
              go_simp
              first
                | (refine hK _ ?_; clear hK K)
                | (apply Exists.intro
                   refine ⟨fun w1 hw1 => ?_, hK _ ?_⟩
                   (first | rfl | (go_at_call 78; exact calls_below hw1 (unhide N2 _)) | (go_at_call 80; exact calls_below hw1 (unhide N3 _)))
                   clear hK K))
            refine Quietly.nil ?_
            intro w3 hw3
            go_wp2_with fail
            go_quiet (fail)
            go_wp2
            go_ret3
            exact ⟨by rw [unhide HR]; exact ret_head (by omega) (by omega) (by omega), below_draws (below_more hbw hbw.size hw3) _⟩
          · rw [if_neg c0] at hres
            by_cases c1 : x = 129
            · subst c1
              by_cases c2 : 2 ≤ r.size
              · rw [if_pos ⟨rfl, c2⟩] at hres
                have t7 : decide (1 < (r.size : Int)) = true := decide_eq_true (by omega)
                by_cases c3 : 128 ≤ y
                · rw [if_pos c3] at hres
                  have t3 : decide (127 < (y : Int)) = true := decide_eq_true (by omega)
                  have HR := hide hres
                  clear hres b2 hv3
                  go_wp2_with fail
                  refine (unhide N1 _).mono ?_
                  rintro e w2 ⟨rfl, hw2⟩
                  subst hw2
                  go_wp2_with fail
                  refine wp_region_below w2 (Below.refl _ _) (by kernel_rfl) (by kernel_rfl) ?_
                  repeat (
                    refine Quietly.step (fun K hK => ?_)
                    go_simp
                    first
                      | (refine hK _ ?_; clear hK K)
                      | (apply Exists.intro
                         refine ⟨fun w1 hw1 => ?_, hK _ ?_⟩
                         (first | rfl | (go_at_call 78; exact calls_below hw1 (unhide N2 _)) | (go_at_call 80; exact calls_below hw1 (unhide N3 _)))
                         clear hK K))
                  refine Quietly.nil ?_
                  intro w3 hw3
                  go_wp2_with fail
                  go_quiet (fail)
                  go_wp2
                  go_ret3
                  exact ⟨by rw [unhide HR]; exact ret_head (by omega) (by omega) (by omega), below_draws (below_more hbw hbw.size hw3) _⟩
                · rw [if_neg c3] at hres
                  have t3 : decide (127 < (y : Int)) = false := decide_eq_false (by omega)
                  have HR := hide hres
                  clear hres b2 hv3
                  go_wp2_with fail
                  refine (unhide N1 _).mono ?_
                  rintro e w2 ⟨rfl, hw2⟩
                  subst hw2
                  go_wp2_with fail
                  refine wp_region_below w2 (Below.refl _ _) (by kernel_rfl) (by kernel_rfl) ?_
                  repeat (
                    refine Quietly.step (fun K hK => ?_)
                    go_simp
                    first
                      | (refine hK _ ?_; clear hK K)
                      | (apply Exists.intro
                         refine ⟨fun w1 hw1 => ?_, hK _ ?_⟩
                         (first | rfl | (go_at_call 78; exact calls_below hw1 (unhide N2 _)) | (go_at_call 80; exact calls_below hw1 (unhide N3 _)))
                         clear hK K))
                  refine Quietly.nil ?_
                  intro w3 hw3
                  go_wp2
                  all_goals
                    go_ret3
                    exact ⟨by rw [unhide HR]; rfl, below_more hbw hbw.size hw3⟩
              · rw [if_neg (by omega), if_neg (by omega)] at hres
                have t7 : decide (1 < (r.size : Int)) = false := decide_eq_false (by omega)
                have t8 : decide (2 < (r.size : Int)) = false := decide_eq_false (by omega)
                have HR := hide hres
                clear hres b1 b2 hv3
                go_wp2_with fail
                refine (unhide N1 _).mono ?_
                rintro e w2 ⟨rfl, hw2⟩
                subst hw2
                go_wp2_with fail
                refine wp_region_below w2 (Below.refl _ _) (by kernel_rfl) (by kernel_rfl) ?_
                repeat (
                  refine Quietly.step (fun K hK => ?_)
                  go_simp
                  first
                    | (refine hK _ ?_; clear hK K)
                    | (apply Exists.intro
                       refine ⟨fun w1 hw1 => ?_, hK _ ?_⟩
                       (first | rfl | (go_at_call 78; exact calls_below hw1 (unhide N2 _)) | (go_at_call 80; exact calls_below hw1 (unhide N3 _)))
                       clear hK K))
                refine Quietly.nil ?_
                intro w3 hw3
                go_wp2
                all_goals
                  go_ret3
                  exact ⟨by rw [unhide HR]; rfl, below_more hbw hbw.size hw3⟩
            · rw [if_neg (by omega)] at hres
              have t1 : ((x : Int) == 129) = false := by simp; omega
              by_cases c4 : x = 130
              · subst c4
                by_cases c2 : 3 ≤ r.size
                · rw [if_pos ⟨rfl, c2⟩] at hres
                  have t8 : decide (2 < (r.size : Int)) = true := decide_eq_true (by omega)
                  by_cases c3 : 256 ≤ y * 256 + z
                  · rw [if_pos c3] at hres
                    have t3 : decide (0 < (y : Int)) = true := decide_eq_true (by omega)
                    have n4 := fun w => value_any (r.extract 1 3) w (by rw [ByteArray.size_extract]; omega) (by rw [hv3 c2]; omega)
                    rw [hv3 c2] at n4
                    have hsl3 : ∀ wx, (Instr.slice 9 (.string r) (some (.int .i64 1)) (some (.int .i64 3)) none).run Tryz.prog wx = .ok (.string (r.extract 1 3)) wx := fun wx => by
                      have := run_slice_string (P := Tryz.prog) wx 9 r .i64 .i64 1 3 Tryz.underlying9 (by omega) (by omega) (by omega)
                      simpa using this
                    have HR := hide hres; have N4 := hide n4
                    clear hres hv3 n4
                    go_wp2_with fail
                    refine (unhide N1 _).mono ?_
                    rintro e w2 ⟨rfl, hw2⟩
                    subst hw2
                    go_wp2_with fail
                    refine wp_region_below w2 (Below.refl _ _) (by kernel_rfl) (by kernel_rfl) ?_
                    repeat (
                      refine Quietly.step (fun K hK => ?_)
                      go_simp
                      first
                        | (refine hK _ ?_; clear hK K)
                        | (apply Exists.intro
                           refine ⟨fun w1 hw1 => ?_, hK _ ?_⟩
                           (first | rfl | (go_at_call 78; exact calls_below hw1 (unhide N2 _)) | (go_at_call 80; exact calls_below hw1 (unhide N3 _)))
                           clear hK K))
                    refine Quietly.nil ?_
                    intro w3 hw3
                    go_wp2_with fail
                    refine (unhide N4 _).mono ?_
                    rintro e w4 ⟨rfl, hw4⟩
                    subst hw4
                    go_wp2
                    go_ret3
                    exact ⟨by rw [unhide HR]; exact ret_head (by omega) (by omega) (by omega), below_more hbw hbw.size hw3⟩
                  · rw [if_neg c3] at hres
                    have t3 : decide (0 < (y : Int)) = false := decide_eq_false (by omega)
                    have HR := hide hres
                    clear hres hv3
                    go_wp2_with fail
                    refine (unhide N1 _).mono ?_
                    rintro e w2 ⟨rfl, hw2⟩
                    subst hw2
                    go_wp2_with fail
                    refine wp_region_below w2 (Below.refl _ _) (by kernel_rfl) (by kernel_rfl) ?_
                    repeat (
                      refine Quietly.step (fun K hK => ?_)
                      go_simp
                      first
                        | (refine hK _ ?_; clear hK K)
                        | (apply Exists.intro
                           refine ⟨fun w1 hw1 => ?_, hK _ ?_⟩
                           (first | rfl | (go_at_call 78; exact calls_below hw1 (unhide N2 _)) | (go_at_call 80; exact calls_below hw1 (unhide N3 _)))
                           clear hK K))
                    refine Quietly.nil ?_
                    intro w3 hw3
                    go_wp2
                    all_goals
                      go_ret3
                      exact ⟨by rw [unhide HR]; rfl, below_more hbw hbw.size hw3⟩
                · rw [if_neg (by omega)] at hres
                  have t8 : decide (2 < (r.size : Int)) = false := decide_eq_false (by omega)
                  have HR := hide hres
                  clear hres b1 b2 hv3
                  go_wp2_with fail
                  refine (unhide N1 _).mono ?_
                  rintro e w2 ⟨rfl, hw2⟩
                  subst hw2
                  go_wp2_with fail
                  refine wp_region_below w2 (Below.refl _ _) (by kernel_rfl) (by kernel_rfl) ?_
                  repeat (
                    refine Quietly.step (fun K hK => ?_)
                    go_simp
                    first
                      | (refine hK _ ?_; clear hK K)
                      | (apply Exists.intro
                         refine ⟨fun w1 hw1 => ?_, hK _ ?_⟩
                         (first | rfl | (go_at_call 78; exact calls_below hw1 (unhide N2 _)) | (go_at_call 80; exact calls_below hw1 (unhide N3 _)))
                         clear hK K))
                  refine Quietly.nil ?_
                  intro w3 hw3
                  go_wp2
                  all_goals
                    go_ret3
                    exact ⟨by rw [unhide HR]; rfl, below_more hbw hbw.size hw3⟩
              · rw [if_neg (by omega)] at hres
                have t2 : ((x : Int) == 130) = false := by simp; omega
                have HR := hide hres
                clear hres hv3
                go_wp2_with fail
                refine (unhide N1 _).mono ?_
                rintro e w2 ⟨rfl, hw2⟩
                subst hw2
                go_wp2_with fail
                refine wp_region_below w2 (Below.refl _ _) (by kernel_rfl) (by kernel_rfl) ?_
                repeat (
                  refine Quietly.step (fun K hK => ?_)
                  go_simp
                  first
                    | (refine hK _ ?_; clear hK K)
                    | (apply Exists.intro
                       refine ⟨fun w1 hw1 => ?_, hK _ ?_⟩
                       (first | rfl | (go_at_call 78; exact calls_below hw1 (unhide N2 _)) | (go_at_call 80; exact calls_below hw1 (unhide N3 _)))
                       clear hK K))
                refine Quietly.nil ?_
                intro w3 hw3
                go_wp2
                all_goals
                  go_ret3
                  exact ⟨by rw [unhide HR]; rfl, below_more hbw hbw.size hw3⟩
end Go.Proofs.YtfpglpefofcdeaaGreatDoor
