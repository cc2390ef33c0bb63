/- The library's symMerge over a row of numbers. -/
import Derived.Test.YtbnpajijbdddiaaSrtX
namespace Go.Proofs.Ytbnpajijbdddiaa
open Go.RowKit
set_option linter.unusedVariables false

set_option maxRecDepth 100000 in
set_option maxHeartbeats 8000000 in
theorem sym_left {K : Nat → Int} {N g cp : Nat} {CW : World → Prop} (hC : CmpOK K N g cp CW) (D : Nat → Nat) (cap a m b : Nat) (w : World) (h : RI w g N D) (hw : CW w) (hD : ∀ x, D x < N) (hm : m = a + 1) (hR : Srt K D m b) (hlr : LR D a m b) (hmb : m < b) (hb : b ≤ N) (hN : N ≤ 1000) :
    Calls Try.prog 53 #[.slice (some ⟨g, 0, none⟩) N cap, .int .i64 a, .int .i64 m, .int .i64 b, cmpV cp] w fun e w' => e = .returned (.tuple #[]) ∧ (∃ D', RI w' g N D' ∧ Srt K D' a b ∧ SameIn D D' a b) ∧ ButG g w w' := by
  have H := hide h; have HW := hide hw; have HD := hide hD; have HC := hide hC; have HRR := hide hR; have HLR := hide hlr; have HM := hide hm
  have hNi : (N : Int) ≤ 1000 := by omega
  have e0 : IntKind.i64.wrap ((m : Int) - (a : Int)) = 1 := by rw [IntKind.wrap_i64]; omega
  have ham : a < m := by omega
  clear h hw hD hC hR hlr hm
  unfold cmpV
  go_enter Try.func53, Try.ntmps53
  go_wp2
  go_loopw [10, 11] (fun x y wr => ∃ (i j : Nat), x = .int .i64 i ∧ y = .int .i64 j ∧ m ≤ i ∧ i ≤ j ∧ j ≤ b ∧ RI wr g N D ∧ ButG g w wr ∧ Hid ((i = m ∨ ltK K (D (i - 1)) (D a)) ∧ (j = b ∨ ltK K (D a) (D j)))) (fun x y _ => (intOf y).toNat - (intOf x).toNat)
  case atStart => exact ⟨m, b, rfl, rfl, Nat.le_refl _, by omega, Nat.le_refl _, unhide H, ButG.refl _ _, hide ⟨.inl rfl, .inl rfl⟩⟩
  case round =>
    clear e0
    obtain ⟨i, j, rfl, rfl, hmi, hij, hjb, hrr, hbb, HJ⟩ := hrel
    by_cases hlt : i < j
    · have hki : (i : Int) < (j : Int) := by omega
      obtain ⟨c, hc⟩ : ∃ c, c = (i + j) / 2 := ⟨_, rfl⟩
      have e2 : ((i : Int) + (j : Int)) / 2 = (c : Int) := by omega
      have hc1 : i ≤ c := by omega
      have hc2 : c < j := by omega
      have lc : (c : Int) < (N : Int) := by omega
      have la : (a : Int) < (N : Int) := by omega
      have c0 := hrr.cell (i := c) (by omega)
      have c1 := hrr.cell (i := a) (by omega)
      have n1 := fun t => (unhide HC).call (wr.drewN t) (D c) (D a) ((unhide HC).keep w _ (unhide HW) (hbb.drewN t)) (unhide HD _) (unhide HD _)
      have HRR2 := hide hrr; have HBB := hide hbb
      clear hrr hbb
      have hlb := cmpI_lt K (D c) (D a)
      have HDC := hide hc
      cases hle : lessB K (D c) (D a) with
      | false =>
        rw [hle] at hlb
        have hx := lt_of_not hle (unhide HLR a c (Nat.le_refl _) ham (by omega) (by omega))
        have HX : Hid ((i = m ∨ ltK K (D (i - 1)) (D a)) ∧ (c = b ∨ ltK K (D a) (D c))) := hide ⟨(unhide HJ).1, .inr hx⟩
        generalize cmpI (K (D a)) (K (D c)) = cm at *
        have N1 := hide n1
        clear n1 hx hle hc HJ
        go_wp2_with fail
        go_quiet ((go_at_call 20; exact Calls.quiet_of (unhide N1 _)))
        go_wp2
        go_roundw
        case rel => exact ⟨i, c, rfl, rfl, hmi, hc1, by omega, (unhide HRR2).drewN _, (unhide HBB).drewN _, HX⟩
        case measure => simp [intOf]; omega
      | true =>
        rw [hle] at hlb
        have hx := lt_of_less hle
        have HX : Hid ((c + 1 = m ∨ ltK K (D (c + 1 - 1)) (D a)) ∧ (j = b ∨ ltK K (D a) (D j))) := hide ⟨.inr (by rw [Nat.add_sub_cancel]; exact hx), (unhide HJ).2⟩
        generalize cmpI (K (D a)) (K (D c)) = cm at *
        have N1 := hide n1
        clear n1 hx hle hc HJ
        go_wp2_with fail
        go_quiet ((go_at_call 20; exact Calls.quiet_of (unhide N1 _)))
        go_wp2
        go_roundw
        case rel => exact ⟨c + 1, j, by go_num, rfl, by omega, by omega, hjb, (unhide HRR2).drewN _, (unhide HBB).drewN _, HX⟩
        case measure => simp [intOf]; omega
    · have hij' : i = j := by omega
      have hj2 := unhide HJ
      rw [← hij'] at hj2
      have hsr : Srt K (rot D a m i) a b := by
        have hr := unhide HRR
        have hm := unhide HM
        rw [hm] at hr hj2 hmi ⊢
        exact oneL hr hmi (by omega) hj2.1 hj2.2
      have hsi : SameIn D (rot D a m i) a b := (rot_same D a m i (by omega) hmi).wide (Nat.le_refl _) (by omega)
      have HSR := hide hsr; have HSI := hide hsi; have HRR2 := hide hrr; have HBB := hide hbb
      clear hj2 hsr hsi HJ hrr hbb hij'
      go_wp2
      go_loopw [13] (fun x wr => ∃ k : Nat, x = .int .i64 k ∧ a ≤ k ∧ k + 1 ≤ i ∧ RI wr g N (rot D a m (k + 1)) ∧ ButG g w wr) (fun x _ => i - (intOf x).toNat)
      case atStart => exact ⟨a, rfl, Nat.le_refl _, by omega, by rw [rot_none D a m (a + 1) (.inr (unhide HM))]; exact unhide HRR2, unhide HBB⟩
      case round =>
        obtain ⟨k, rfl, hak, hki, hr, hbw⟩ := hrel
        have e3 : IntKind.i64.wrap ((i : Int) - 1) = ((i - 1 : Nat) : Int) := by rw [IntKind.wrap_i64]; omega
        by_cases hk : k + 1 < i
        · have hkd : (k : Int) < ((i - 1 : Nat) : Int) := by omega
          obtain ⟨k1, hk1⟩ : ∃ k1, k1 = k + 1 := ⟨_, rfl⟩
          have e4 : IntKind.i64.wrap ((k : Int) + 1) = (k1 : Int) := by rw [IntKind.wrap_i64]; omega
          have hs := hr.swap k (k + 1)
          have hst := rot_right D a k hak
          rw [← unhide HM] at hst
          rw [hst, ← hk1] at hs
          have c0 := hr.cell (i := k) (by omega)
          have c1 := hr.cell (i := k1) (by omega)
          rw [← hk1] at c0 c1
          have f0 := hr.frozen k
          have f1 := hr.frozen k1
          have l0 : (k : Int) < (N : Int) := by omega
          have l1 : (k1 : Int) < (N : Int) := by omega
          have hbs := (hbw.setCell k (.int .i64 (rot D a m k1 k1 : Nat))).setCell k1 (.int .i64 (rot D a m k1 k : Nat))
          have hlt : k < k1 := by omega
          generalize rot D a m k1 k = x at *
          generalize rot D a m k1 k1 = y at *
          generalize i - 1 = i1 at *
          have HS := hide hs; have HBS := hide hbs; have HK := hide hk1
          clear hs hbs hst hr hbw hk1
          go_wp2_with fail
          go_region
          go_wp2
          go_roundw
          case rel => exact ⟨k + 1, by have := unhide HK; subst this; go_num, by omega, by omega, (unhide HS).drewN 1, (unhide HBS).drewN 1⟩
          case measure => simp [intOf]; omega
        · have hkd : ¬ (k : Int) < ((i - 1 : Nat) : Int) := by omega
          have hke : k + 1 = i := by omega
          rw [hke] at hr
          have HR := hide hr; have HBW := hide hbw
          generalize i - 1 = i1 at *
          clear hr hbw hke
          go_wp2
          exact bodyPost_ret (v := .tuple #[]) (results_none rfl _ _ _) rfl ⟨rfl, ⟨_, unhide HR, unhide HSR, unhide HSI⟩, unhide HBW⟩

set_option maxRecDepth 100000 in
set_option maxHeartbeats 8000000 in
theorem sym_right {K : Nat → Int} {N g cp : Nat} {CW : World → Prop} (hC : CmpOK K N g cp CW) (D : Nat → Nat) (cap a m b : Nat) (w : World) (h : RI w g N D) (hw : CW w) (hD : ∀ x, D x < N) (hm : a + 1 < m) (hmb : b = m + 1) (hL : Srt K D a m) (hlr : LR D a m b) (hb : b ≤ N) (hN : N ≤ 1000) :
    Calls Try.prog 53 #[.slice (some ⟨g, 0, none⟩) N cap, .int .i64 a, .int .i64 m, .int .i64 b, cmpV cp] w fun e w' => e = .returned (.tuple #[]) ∧ (∃ D', RI w' g N D' ∧ Srt K D' a b ∧ SameIn D D' a b) ∧ ButG g w w' := by
  have H := hide h; have HW := hide hw; have HD := hide hD; have HC := hide hC; have HLL := hide hL; have HLR := hide hlr; have HM := hide hmb
  have hNi : (N : Int) ≤ 1000 := by omega
  obtain ⟨d, hd⟩ : ∃ d, d = m - a := ⟨_, rfl⟩
  have e0 : IntKind.i64.wrap ((m : Int) - (a : Int)) = (d : Int) := by rw [IntKind.wrap_i64]; omega
  have d0 : ((d : Int) == 1) = false := by rw [beq_eq_false_iff_ne]; omega
  have e1 : IntKind.i64.wrap ((b : Int) - (m : Int)) = 1 := by rw [IntKind.wrap_i64]; omega
  have hmN : m < N := by omega
  clear h hw hD hC hL hlr hmb hd
  unfold cmpV
  go_enter Try.func53, Try.ntmps53
  go_wp2
  go_loopw [14, 15] (fun x y wr => ∃ (i j : Nat), x = .int .i64 i ∧ y = .int .i64 j ∧ a ≤ i ∧ i ≤ j ∧ j ≤ m ∧ RI wr g N D ∧ ButG g w wr ∧ Hid ((i = a ∨ ltK K (D (i - 1)) (D m)) ∧ (j = m ∨ ltK K (D m) (D j)))) (fun x y _ => (intOf y).toNat - (intOf x).toNat)
  case atStart => exact ⟨a, m, rfl, rfl, Nat.le_refl _, by omega, Nat.le_refl _, unhide H, ButG.refl _ _, hide ⟨.inl rfl, .inl rfl⟩⟩
  case round =>
    clear e0 e1
    obtain ⟨i, j, rfl, rfl, hmi, hij, hjb, hrr, hbb, HJ⟩ := hrel
    by_cases hlt : i < j
    · have hki : (i : Int) < (j : Int) := by omega
      obtain ⟨c, hc⟩ : ∃ c, c = (i + j) / 2 := ⟨_, rfl⟩
      have e2 : ((i : Int) + (j : Int)) / 2 = (c : Int) := by omega
      have hc1 : i ≤ c := by omega
      have hc2 : c < j := by omega
      have lc : (c : Int) < (N : Int) := by omega
      have la : (m : Int) < (N : Int) := by omega
      have c0 := hrr.cell (i := c) (by omega)
      have c1 := hrr.cell (i := m) (by omega)
      have n1 := fun t => (unhide HC).call (wr.drewN t) (D m) (D c) ((unhide HC).keep w _ (unhide HW) (hbb.drewN t)) (unhide HD _) (unhide HD _)
      have HRR2 := hide hrr; have HBB := hide hbb
      clear hrr hbb
      have hlb := cmpI_lt K (D m) (D c)
      cases hle : lessB K (D m) (D c) with
      | true =>
        rw [hle] at hlb
        have hx := lt_of_less hle
        have HX : Hid ((i = a ∨ ltK K (D (i - 1)) (D m)) ∧ (c = m ∨ ltK K (D m) (D c))) := hide ⟨(unhide HJ).1, .inr hx⟩
        generalize cmpI (K (D c)) (K (D m)) = cm at *
        have N1 := hide n1
        clear n1 hx hle hc HJ
        go_wp2_with fail
        go_quiet ((go_at_call 20; exact Calls.quiet_of (unhide N1 _)))
        go_wp2
        go_roundw
        case rel => exact ⟨i, c, rfl, rfl, hmi, hc1, by omega, (unhide HRR2).drewN _, (unhide HBB).drewN _, HX⟩
        case measure => simp [intOf]; omega
      | false =>
        rw [hle] at hlb
        have hx := lt_of_not hle (unhide HLR c m (by omega) (by omega) (Nat.le_refl _) (by have := unhide HM; omega))
        have HX : Hid ((c + 1 = a ∨ ltK K (D (c + 1 - 1)) (D m)) ∧ (j = m ∨ ltK K (D m) (D j))) := hide ⟨.inr (by rw [Nat.add_sub_cancel]; exact hx), (unhide HJ).2⟩
        generalize cmpI (K (D c)) (K (D m)) = cm at *
        have N1 := hide n1
        clear n1 hx hle hc HJ
        go_wp2_with fail
        go_quiet ((go_at_call 20; exact Calls.quiet_of (unhide N1 _)))
        go_wp2
        go_roundw
        case rel => exact ⟨c + 1, j, by go_num, rfl, by omega, by omega, hjb, (unhide HRR2).drewN _, (unhide HBB).drewN _, HX⟩
        case measure => simp [intOf]; omega
    · have hij' : i = j := by omega
      have hj2 := unhide HJ
      rw [← hij'] at hj2
      have hsr : Srt K (rot D i m (m + 1)) a b := by
        rw [unhide HM]
        exact oneR (unhide HLL) hmi (by omega) hj2.1 hj2.2
      have hsi : SameIn D (rot D i m (m + 1)) a b := by
        rw [unhide HM]
        exact (rot_same D i m (m + 1) (by omega) (by omega)).wide hmi (Nat.le_refl _)
      have HSR := hide hsr; have HSI := hide hsi; have HRR2 := hide hrr; have HBB := hide hbb
      clear hj2 hsr hsi HJ hrr hbb hij'
      go_wp2
      go_loopw [17] (fun x wr => ∃ k : Nat, x = .int .i64 k ∧ i ≤ k ∧ k ≤ m ∧ RI wr g N (rot D k m (m + 1)) ∧ ButG g w wr) (fun x _ => (intOf x).toNat)
      case atStart => exact ⟨m, rfl, by omega, Nat.le_refl _, by rw [rot_none D m m (m + 1) (.inl rfl)]; exact unhide HRR2, unhide HBB⟩
      case round =>
        obtain ⟨k, rfl, hak, hki, hr, hbw⟩ := hrel
        by_cases hk : i < k
        · have hkd : (i : Int) < (k : Int) := by omega
          obtain ⟨k1, hk1⟩ : ∃ k1, k = k1 + 1 := ⟨k - 1, by omega⟩
          have e4 : IntKind.i64.wrap ((k : Int) - 1) = (k1 : Int) := by rw [IntKind.wrap_i64]; omega
          have hs := hr.swap k k1
          have hst := rot_left D k1 m (by omega)
          rw [← hk1] at hst
          rw [hst] at hs
          have c0 := hr.cell (i := k) (by omega)
          have c1 := hr.cell (i := k1) (by omega)
          have f0 := hr.frozen k
          have f1 := hr.frozen k1
          have l0 : (k : Int) < (N : Int) := by omega
          have l1 : (k1 : Int) < (N : Int) := by omega
          have hbs := (hbw.setCell k (.int .i64 (rot D k m (m + 1) k1 : Nat))).setCell k1 (.int .i64 (rot D k m (m + 1) k : Nat))
          have hlt : k1 < k := by omega
          generalize rot D k m (m + 1) k = x at *
          generalize rot D k m (m + 1) k1 = y at *
          have HS := hide hs; have HBS := hide hbs; have HK := hide hk1
          clear hs hbs hst hr hbw hk1
          go_wp2_with fail
          go_region
          go_wp2
          go_roundw
          case rel => exact ⟨k1, by go_num, by have := unhide HK; omega, by have := unhide HK; omega, (unhide HS).drewN 1, (unhide HBS).drewN 1⟩
          case measure => simp [intOf]; omega
        · have hkd : ¬ (i : Int) < (k : Int) := by omega
          have hke : k = i := by omega
          rw [hke] at hr
          have HR := hide hr; have HBW := hide hbw
          clear hr hbw hke
          go_wp2
          exact bodyPost_ret (v := .tuple #[]) (results_none rfl _ _ _) rfl ⟨rfl, ⟨_, unhide HR, unhide HSR, unhide HSI⟩, unhide HBW⟩
end Go.Proofs.Ytbnpajijbdddiaa
