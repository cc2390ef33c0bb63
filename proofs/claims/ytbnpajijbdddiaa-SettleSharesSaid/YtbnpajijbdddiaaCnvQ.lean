/- Convert of the program, amounts and rates in range; all inputs. -/
import Derived.Test.YtbnpajijbdddiaaCnvP
namespace Go.Proofs.Ytbnpajijbdddiaa
open Go.RowKit
set_option linter.unusedVariables false

theorem wrapEq64 (x : Int) : IntKind.i64.wrap x = wrap64 x := by rw [IntKind.wrap_i64]; unfold wrap64; omega
set_option maxHeartbeats 4000000 in
theorem convert_good (a nu de : Nat) (w : World) (ha : (a : Int) ≤ 999999999999) (hn : (1 : Int) ≤ (nu : Int) ∧ (nu : Int) ≤ 1000000000) (hd : (1 : Int) ≤ (de : Int) ∧ (de : Int) ≤ 1000000000) :
    Calls Try.prog 11 #[.int .i64 a, .agg #[.int .i64 nu, .int .i64 de]] w fun e w' => e = .returned (if 999999999999 < cnvN a nu de then .tuple #[.int .i64 0, .int .i64 2] else .tuple #[.int .i64 (cnvN a nu de : Nat), .int .i64 0]) ∧ Below w.heap.size w w' := by
  obtain ⟨hn1, hn2⟩ := hn
  obtain ⟨hd1, hd2⟩ := hd
  obtain ⟨e1, e2⟩ := cnv_split a nu de (by omega)
  have hge := cnvN_ge a nu de
  obtain ⟨wh, hwh⟩ : ∃ x, x = a / de := ⟨_, rfl⟩
  obtain ⟨rm, hrm⟩ : ∃ x, x = a % de := ⟨_, rfl⟩
  obtain ⟨ov, hov⟩ : ∃ x, x = rm * nu := ⟨_, rfl⟩
  obtain ⟨mq, hmq⟩ : ∃ x, x = 999999999999 / nu := ⟨_, rfl⟩
  have hrmd : rm < de := by rw [hrm]; exact Nat.mod_lt _ (by omega)
  have hwha : wh ≤ a := by rw [hwh]; exact Nat.div_le_self _ _
  have hovb : ov ≤ 1000000000 * 1000000000 := by rw [hov]; exact Nat.mul_le_mul (by omega) (by omega)
  rw [← hwh, ← hrm, ← hov] at e1
  rw [← hrm, ← hov] at e2
  have t1 : (a : Int).tdiv (de : Int) = (wh : Int) := by rw [Int.tdiv_eq_ediv_of_nonneg (by omega), hwh]; exact (Int.natCast_ediv a de).symm
  have t1' : (a : Int) / (de : Int) = (wh : Int) := by rw [hwh]; exact (Int.natCast_ediv a de).symm
  have t2 : (a : Int).tmod (de : Int) = (rm : Int) := by rw [Int.tmod_eq_emod_of_nonneg (by omega), hrm]; exact (Int.natCast_emod a de).symm
  have t2' : (a : Int) % (de : Int) = (rm : Int) := by rw [hrm]; exact (Int.natCast_emod a de).symm
  have t3 : IntKind.i64.wrap ((rm : Int) * (nu : Int)) = (ov : Int) := by
    have : (rm : Int) * (nu : Int) = (ov : Int) := by rw [hov]; exact (Int.natCast_mul rm nu).symm
    rw [this, IntKind.wrap_i64]; omega
  have t3' : wrap64 ((rm : Int) * (nu : Int)) = (ov : Int) := by
    have : (rm : Int) * (nu : Int) = (ov : Int) := by rw [hov]; exact (Int.natCast_mul rm nu).symm
    rw [this]; unfold wrap64; omega
  have t4 : (999999999999 : Int).tdiv (nu : Int) = (mq : Int) := by rw [Int.tdiv_eq_ediv_of_nonneg (by omega), hmq]; exact (Int.natCast_ediv 999999999999 nu).symm
  have t4' : (999999999999 : Int) / (nu : Int) = (mq : Int) := by rw [hmq]; exact (Int.natCast_ediv 999999999999 nu).symm
  have tw1 : wrap64 (wh : Int) = (wh : Int) := by unfold wrap64; omega
  have hmqb : mq ≤ 999999999999 := by rw [hmq]; exact Nat.div_le_self _ _
  have tw2 : wrap64 (mq : Int) = (mq : Int) := by unfold wrap64; omega
  have dp : 0 < de := by omega
  have np : 0 < nu := by omega
  have HB := hide ((Below.refl w.heap.size w).alloc (Nat.le_refl _) (.cells #[.int .i64 (nu : Int), .int .i64 (de : Int)] 36))
  have a0 : (0 : Int) ≤ (a : Int) := Int.natCast_nonneg a
  by_cases hbig : mq < wh
  · have hgt : 999999999999 < wh * nu := by rw [hmq] at hbig; exact (Nat.div_lt_iff_lt_mul np).1 hbig
    have h1 : wh * nu ≤ a * nu / de := by rw [e1]; exact Nat.le_add_right _ _
    have hout : 999999999999 < cnvN a nu de := Nat.lt_of_lt_of_le hgt (Nat.le_trans h1 hge.1)
    rw [if_pos hout]
    have hbig' : (mq : Int) < (wh : Int) := Int.ofNat_lt.2 hbig
    clear hge hwh hrm hov hmq e1 e2 hgt hout hbig hrmd h1 hovb hmqb hwha
    go_enter Try.func11, Try.ntmps11
    go_wp2
    go_quiet (fail)
    go_wp2
    go_ret2
    exact ⟨rfl, below_drewN (unhide HB) _⟩
  · have hsm : wh * nu ≤ 999999999999 := by
      have h : wh ≤ 999999999999 / nu := by rw [← hmq]; exact Nat.not_lt.1 hbig
      exact Nat.le_trans (Nat.mul_le_mul_right nu h) (Nat.div_mul_le_self _ _)
    have hbig' : ¬ (mq : Int) < (wh : Int) := fun h => hbig (Int.ofNat_lt.1 h)
    have hbn : decide (mq < wh) = false := decide_eq_false hbig
    obtain ⟨wn, hwn⟩ : ∃ x, x = wh * nu := ⟨_, rfl⟩
    obtain ⟨oq, hoq⟩ : ∃ x, x = ov / de := ⟨_, rfl⟩
    obtain ⟨orr, hor⟩ : ∃ x, x = ov % de := ⟨_, rfl⟩
    obtain ⟨lw, hlw⟩ : ∃ x, x = wn + oq := ⟨_, rfl⟩
    have hord : orr < de := by rw [hor]; exact Nat.mod_lt _ dp
    have hoqb : oq ≤ 1000000000 := by
      rw [hoq]
      have h1 : ov ≤ de * 1000000000 := by rw [hov]; exact Nat.mul_le_mul (Nat.le_of_lt hrmd) (by omega)
      exact Nat.div_le_of_le_mul h1
    have hcn : cnvN a nu de = if 2 * orr > de ∨ (2 * orr = de ∧ lw % 2 = 1) then lw + 1 else lw := by
      unfold cnvN
      rw [e1, e2, ← hwn, ← hoq, ← hor, ← hlw]
    have u1 : wrap64 ((wh : Int) * (nu : Int)) = (wn : Int) := by
      have h : (wh : Int) * (nu : Int) = (wn : Int) := by rw [hwn]; exact (Int.natCast_mul wh nu).symm
      rw [h]
      clear hcn hge e1 e2 hoq hor hov hrm hwh hmq t1 t1' t2 t2' t3 t3' t4 t4'
      unfold wrap64; omega
    have u2 : (ov : Int).tdiv (de : Int) = (oq : Int) := by rw [Int.tdiv_eq_ediv_of_nonneg (Int.natCast_nonneg ov), hoq]; exact (Int.natCast_ediv ov de).symm
    have u2' : (ov : Int) / (de : Int) = (oq : Int) := by rw [hoq]; exact (Int.natCast_ediv ov de).symm
    have u3 : (ov : Int).tmod (de : Int) = (orr : Int) := by rw [Int.tmod_eq_emod_of_nonneg (Int.natCast_nonneg ov), hor]; exact (Int.natCast_emod ov de).symm
    have u3' : (ov : Int) % (de : Int) = (orr : Int) := by rw [hor]; exact (Int.natCast_emod ov de).symm
    have hb1 : (wn : Int) ≤ 999999999999 ∧ (oq : Int) ≤ 1000000000 ∧ (orr : Int) ≤ 1000000000 ∧ (lw : Int) ≤ 2000000000000 ∧ (wn : Int) + (oq : Int) = (lw : Int) := by
      clear hcn hge e1 e2 hoq hor hov hrm hwh hmq t1 t1' t2 t2' t3 t3' t4 t4' u1 u2 u2' u3 u3' hbig hbig'
      rw [← hwn] at hsm
      omega
    obtain ⟨b1, b2, b3, b4, b5⟩ := hb1
    have u4 : wrap64 (oq : Int) = (oq : Int) := by
      clear hcn hge e1 e2 hoq hor hov hrm hwh hmq t1 t1' t2 t2' t3 t3' t4 t4' u1 u2 u2' u3 u3' hbig hbig'
      unfold wrap64; omega
    have u5 : wrap64 ((wn : Int) + (oq : Int)) = (lw : Int) := by
      rw [b5]
      clear hcn hge e1 e2 hoq hor hov hrm hwh hmq t1 t1' t2 t2' t3 t3' t4 t4' u1 u2 u2' u3 u3' hbig hbig' u4
      unfold wrap64; omega
    have u1' : IntKind.i64.wrap ((wh : Int) * (nu : Int)) = (wn : Int) := (wrapEq64 _).trans u1
    have u4' : IntKind.i64.wrap (oq : Int) = (oq : Int) := (wrapEq64 _).trans u4
    have u5' : IntKind.i64.wrap ((wn : Int) + (oq : Int)) = (lw : Int) := (wrapEq64 _).trans u5
    have ov0 : (0 : Int) ≤ (ov : Int) := Int.natCast_nonneg ov
    have de1 : de ≠ 0 := Nat.ne_of_gt dp
    have de2 : (de : Int) ≠ 0 := fun h => by rw [h] at hd1; exact absurd hd1 (by decide)
    have de0 : ((de : Int) == 0) = false := by rw [beq_eq_false_iff_ne]; exact fun h => by rw [h] at hd1; exact absurd hd1 (by decide)
    have N1 := hide (fun w' => nearest_any lw orr de w' b4 b3 hd2)
    rw [← hcn] at N1
    have N2 := hide (fun w' => isAmount_any ((cnvN a nu de : Nat) : Int) w')
    have HO : Hid (amtB ((cnvN a nu de : Nat) : Int) = !decide (999999999999 < cnvN a nu de)) := hide (by
      unfold amtB
      clear hcn hge e1 e2 hoq hor hov hrm hwh hmq t1 t1' t2 t2' t3 t3' t4 t4' u1 u2 u2' u3 u3' hbig hbig' u4 u5 N1 N2
      rw [Bool.eq_iff_iff]
      simp
      omega)
    generalize cnvN a nu de = out at *
    clear hge hwh hrm hov hmq e1 e2 hbig hrmd hovb hmqb hwha hsm hwn hoq hor hlw hord hoqb hcn b5
    obtain ⟨V, hV⟩ : ∃ V : Value, V = if 999999999999 < out then .tuple #[.int .i64 0, .int .i64 2] else .tuple #[.int .i64 (out : Nat), .int .i64 0] := ⟨_, rfl⟩
    rw [← hV]
    have HV := hide hV
    clear b1 b2 b3 b4 hV
    go_enter Try.func11, Try.ntmps11
    go_wp2
    go_quiet (fail)
    go_wp2
    have c0 : ((w.alloc (.cells #[.int .i64 (nu : Int), .int .i64 (de : Int)] 36)).drewN nq).cell? ⟨w.heap.size, 0, none⟩ = some (.int .i64 (nu : Int)) := by simp
    have c1 : ((w.alloc (.cells #[.int .i64 (nu : Int), .int .i64 (de : Int)] 36)).drewN nq).cell? ⟨w.heap.size, 1, none⟩ = some (.int .i64 (de : Int)) := by simp
    have HW := hide (below_drewN (unhide HB) nq)
    generalize (w.alloc (.cells #[.int .i64 (nu : Int), .int .i64 (de : Int)] 36)).drewN nq = W at *
    clear HB
    go_quiet ((go_at_call 25; exact Calls.quiet_of_same (unhide N1 _)))
    go_wp2_with fail
    refine (unhide N2 _).mono ?_
    rintro e w2 ⟨rfl, hw2⟩
    subst hw2
    by_cases hbg : 999999999999 < out
    · have HG := hide hbg
      have ho := unhide HO
      rw [decide_eq_true hbg] at ho
      rw [ho]
      clear HO ho hbg
      go_wp2
      go_ret2
      exact ⟨by rw [unhide HV, if_pos (unhide HG)]; rfl, below_drewN (unhide HW) _⟩
    · have HG := hide hbg
      have ho := unhide HO
      rw [decide_eq_false hbg] at ho
      rw [ho]
      clear HO ho hbg
      go_wp2
      go_ret2
      exact ⟨by rw [unhide HV, if_neg (unhide HG)]; rfl, below_drewN (unhide HW) _⟩
theorem convert_any (A Nu De : Int) (w : World) :
    Calls Try.prog 11 #[.int .i64 A, .agg #[.int .i64 Nu, .int .i64 De]] w fun e w' => e = .returned (.tuple #[.int .i64 (cnvV A Nu De), .int .i64 (cnvE A Nu De)]) ∧ Below w.heap.size w w' := by
  cases hb : cnvBad A Nu De with
  | true =>
    have he : cnvE A Nu De = 3 := by unfold cnvE; rw [hb]; rfl
    have hv : cnvV A Nu De = 0 := by unfold cnvV; rw [he, if_neg (by decide)]
    rw [he, hv]
    exact convert_bad A Nu De w hb
  | false =>
    have hc := of_decide_eq_false hb
    obtain ⟨a, ha⟩ : ∃ a : Nat, A = (a : Int) := ⟨A.toNat, by omega⟩
    obtain ⟨nu, hnu⟩ : ∃ a : Nat, Nu = (a : Int) := ⟨Nu.toNat, by omega⟩
    obtain ⟨de, hde⟩ : ∃ a : Nat, De = (a : Int) := ⟨De.toNat, by omega⟩
    subst ha hnu hde
    have h := convert_good a nu de w (by omega) (by omega) (by omega)
    refine h.mono ?_
    rintro e w' ⟨rfl, hbw⟩
    refine ⟨?_, hbw⟩
    unfold cnvV cnvE
    rw [hb]
    simp only [cond_false, Int.toNat_natCast]
    by_cases ho : 999999999999 < cnvN a nu de
    · rw [if_pos ho, if_pos ho, if_neg (by decide)]
    · rw [if_neg ho, if_neg ho, if_pos rfl]
end Go.Proofs.Ytbnpajijbdddiaa
