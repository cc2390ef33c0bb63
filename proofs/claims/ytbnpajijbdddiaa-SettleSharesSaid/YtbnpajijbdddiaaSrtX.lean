/- The library's rotate and insertion sort over a row of numbers. -/
import Derived.Test.YtbnpajijbdddiaaSrtW
namespace Go.Proofs.Ytbnpajijbdddiaa
open Go.RowKit
set_option linter.unusedVariables false

set_option maxRecDepth 100000 in
set_option maxHeartbeats 4000000 in
theorem rotate_any (D : Nat → Nat) (g N cap a m b : Nat) (fv : Value) (w : World) (h : RI w g N D) (ham : a < m) (hmb : m < b) (hb : b ≤ N) (hN : N ≤ 1000) :
    Calls Try.prog 59 #[.slice (some ⟨g, 0, none⟩) N cap, .int .i64 a, .int .i64 m, .int .i64 b, fv] w fun e w' => e = .returned (.tuple #[]) ∧ RI w' g N (rot D a m b) ∧ ButG g w w' := by
  have H := hide h
  have hNi : (N : Int) ≤ 1000 := by omega
  have e0 : IntKind.i64.wrap ((m : Int) - (a : Int)) = ((m - a : Nat) : Int) := by rw [IntKind.wrap_i64]; omega
  have e1 : IntKind.i64.wrap ((b : Int) - (m : Int)) = ((b - m : Nat) : Int) := by rw [IntKind.wrap_i64]; omega
  clear h
  go_enter Try.func59, Try.ntmps59
  go_wp2
  go_loopw [10, 11] (fun x y wr => ∃ (i j : Nat) (C : Nat → Nat), 0 < i ∧ 0 < j ∧ i ≤ m ∧ m + j ≤ N ∧ x = .int .i64 i ∧ y = .int .i64 j ∧ RI wr g N C ∧ Hid (rot C (m - i) m (m + j) = rot D a m b) ∧ ButG g w wr) (fun x y _ => (intOf x).toNat + (intOf y).toNat)
  case atStart => exact ⟨m - a, b - m, D, by omega, by omega, by omega, by omega, rfl, rfl, unhide H, hide (by rw [show m - (m - a) = a by omega, show m + (b - m) = b by omega]), ButG.refl _ _⟩
  case round =>
    clear e0 e1
    obtain ⟨i, j, C, hi, hj, him, hjN, rfl, rfl, hr, HR, hbw⟩ := hrel
    have e0 : IntKind.i64.wrap ((m : Int) - (i : Int)) = ((m - i : Nat) : Int) := by rw [IntKind.wrap_i64]; omega
    rcases Nat.lt_trichotomy i j with hc | hc | hc
    · have n1 := swapRange_any C g N cap (m - i) (m + j - i) i fv wr hr (by omega) (by omega) hN
      have hne : ((i : Int) != (j : Int)) = true := by simp; omega
      have hgt : ¬ ((j : Int) < (i : Int)) := by omega
      have e1 : IntKind.i64.wrap ((m : Int) + (j : Int)) = ((m + j : Nat) : Int) := by rw [IntKind.wrap_i64]; omega
      have e2 : IntKind.i64.wrap (((m + j : Nat) : Int) - (i : Int)) = ((m + j - i : Nat) : Int) := by rw [IntKind.wrap_i64]; omega
      have e3 : IntKind.i64.wrap ((j : Int) - (i : Int)) = ((j - i : Nat) : Int) := by rw [IntKind.wrap_i64]; omega
      have hrs := rot_short C m i j him hc
      rw [unhide HR] at hrs
      have HX := hide hrs
      have N1 := hide n1
      have B1 := hide hbw
      have HJN := hide hjN
      generalize hmj : m + j = mj at *
      generalize hmi : m - i = mi at *
      generalize mj - i = mji at *
      have HMI := hide hmi; have HMJ := hide hmj
      clear n1 hrs hr hbw HR hmi hmj
      go_wp2_with fail
      refine (unhide N1).mono ?_
      rintro e w1 ⟨rfl, hr1, hb1⟩
      have HR1 := hide hr1; have HB1 := hide ((unhide B1).trans hb1)
      clear hr1 hb1
      go_wp2
      go_roundw
      case rel => exact ⟨i, j - i, _, hi, by omega, him, by have := unhide HMJ; have := unhide HJN; omega, rfl, by go_num, unhide HR1, hide (by rw [unhide HMI]; exact unhide HX), unhide HB1⟩
      case measure => simp [intOf]; omega
    · subst hc
      have n1 := swapRange_any C g N cap (m - i) m i fv wr hr (by omega) (by omega) hN
      rw [rot_even C m i him, unhide HR] at n1
      have N1 := hide n1
      have B1 := hide hbw
      generalize m - i = mi at *
      clear n1 hr hbw HR
      go_wp2_with fail
      refine (unhide N1).mono ?_
      rintro e w1 ⟨rfl, hr1, hb1⟩
      have HR1 := hide hr1; have HB1 := hide ((unhide B1).trans hb1)
      clear hr1 hb1
      go_wp2
      go_end0
      exact ⟨rfl, unhide HR1, unhide HB1⟩
    · have n1 := swapRange_any C g N cap (m - i) m j fv wr hr (by omega) (by omega) hN
      have hne : ((i : Int) != (j : Int)) = true := by simp; omega
      have hgt : (j : Int) < (i : Int) := by omega
      have e3 : IntKind.i64.wrap ((i : Int) - (j : Int)) = ((i - j : Nat) : Int) := by rw [IntKind.wrap_i64]; omega
      have hrs := rot_long C m i j him hc
      rw [unhide HR] at hrs
      have HX := hide hrs
      have N1 := hide n1
      have B1 := hide hbw
      generalize m - i = mi at *
      clear n1 hrs hr hbw HR
      go_wp2_with fail
      refine (unhide N1).mono ?_
      rintro e w1 ⟨rfl, hr1, hb1⟩
      have HR1 := hide hr1; have HB1 := hide ((unhide B1).trans hb1)
      clear hr1 hb1
      go_wp2
      go_roundw
      case rel => exact ⟨i - j, j, _, by omega, hj, by omega, by omega, by go_num, rfl, unhide HR1, HX, unhide HB1⟩
      case measure => simp [intOf]; omega

def cmpI (a b : Int) : Int := if a < b then -1 else if b < a then 1 else 0
theorem cmpI_lt (K : Nat → Int) (x y : Nat) : decide (cmpI (K y) (K x) < 0) = lessB K x y := by
  unfold cmpI lessB
  apply decide_eq_decide.2
  split
  · constructor <;> intro _ <;> omega
  · split <;> constructor <;> intro _ <;> omega
/-- what is known of how two numbers are compared, wherever the row that is sorted changes -/
structure CmpOK (K : Nat → Int) (N g cp : Nat) (CW : World → Prop) : Prop where
  call : ∀ (w : World) (x y : Nat), CW w → x < N → y < N → Calls Try.prog 20 #[.int .i64 x, .int .i64 y, .pointer (some ⟨cp, 0, none⟩)] w fun e w' => e = .returned (.int .i64 (cmpI (K y) (K x))) ∧ ∃ q, w' = w.drewN q
  keep : ∀ w w', CW w → ButG g w w' → CW w'
def cmpV (cp : Nat) : Value := .func (.func 20) #[] #[.pointer (some ⟨cp, 0, none⟩)]
set_option maxRecDepth 100000 in
set_option maxHeartbeats 8000000 in
theorem isort_int {K : Nat → Int} {N g cp : Nat} {CW : World → Prop} (hC : CmpOK K N g cp CW) (D : Nat → Nat) (cap a b : Nat) (w : World) (h : RI w g N D) (hw : CW w) (hD : ∀ x, D x < N) (hid : ∀ x, a ≤ x → x < b → D x = x) (hab : a < b) (hb : b ≤ N) (hN : N ≤ 1000) :
    Calls Try.prog 52 #[.slice (some ⟨g, 0, none⟩) N cap, .int .i64 a, .int .i64 b, cmpV cp] w fun e w' => e = .returned (.tuple #[]) ∧ (∃ D', RI w' g N D' ∧ Bk K D' a b ∧ (∀ x, x < a ∨ b ≤ x → D' x = D x) ∧ ∀ x, D' x < N) ∧ ButG g w w' := by
  have H := hide h; have HW := hide hw; have HD := hide hD; have HI := hide hid; have HC := hide hC
  have hNi : (N : Int) ≤ 1000 := by omega
  have e0 : IntKind.i64.wrap ((a : Int) + 1) = ((a + 1 : Nat) : Int) := by rw [IntKind.wrap_i64]; omega
  clear h hw hD hid hC
  unfold cmpV
  go_enter Try.func52, Try.ntmps52
  go_wp2
  go_loopw [8] (fun x wr => ∃ (i : Nat) (C : Nat → Nat), x = .int .i64 i ∧ a + 1 ≤ i ∧ i ≤ b ∧ RI wr g N C ∧ Hid (Bk K C a (min i b) ∧ (∀ x, x < a ∨ i ≤ x → C x = D x) ∧ ∀ x, C x < N) ∧ ButG g w wr) (fun x _ => b - (intOf x).toNat)
  case atStart =>
    refine ⟨a + 1, D, rfl, Nat.le_refl _, hab, unhide H, hide ⟨⟨fun i j h1 h2 h3 => by omega, fun i h1 h2 => ?_⟩, fun _ _ => rfl, unhide HD⟩, ButG.refl _ _⟩
    have := unhide HI i h1 (by omega)
    omega
  case round =>
    clear e0
    obtain ⟨i, C, rfl, hai, hib, hr, HB, hbw⟩ := hrel
    by_cases hlt : i < b
    · have hki : (i : Int) < (b : Int) := by omega
      have HR := hide hr; have HBW := hide hbw
      clear hr hbw hib
      go_wp2
      generalize wr = wo at *
      go_loopw [9] (fun x wx => ∃ j : Nat, x = .int .i64 j ∧ a ≤ j ∧ j ≤ i ∧ RI wx g N (rot C j i (i + 1)) ∧ Hid (j = i ∨ ltK K (C i) (C j)) ∧ ButG g w wx) (fun x _ => (intOf x).toNat)
      case atStart => exact ⟨i, rfl, by omega, Nat.le_refl _, by rw [rot_none C i i (i + 1) (.inl rfl)]; exact unhide HR, hide (.inl rfl), unhide HBW⟩
      case round =>
        clear HR HBW
        obtain ⟨j, rfl, haj, hji, hr, HJ, hbx⟩ := hrel
        obtain ⟨hbk, hout, hCN⟩ := unhide HB
        rw [show min i b = i by omega] at hbk
        have hCi : C i = i := by rw [hout i (.inr (Nat.le_refl _)), unhide HI i (by omega) (by omega)]
        have hgo : Hid ((j = a ∨ ltK K (C (j - 1)) (C i)) → (∃ D', RI wr g N D' ∧ Hid (Bk K D' a (min (i + 1) b) ∧ (∀ x, x < a ∨ i + 1 ≤ x → D' x = D x) ∧ ∀ x, D' x < N))) := hide (fun hx => by
          refine ⟨rot C j i (i + 1), hr, hide ⟨⟨?_, ?_⟩, fun x hx => ?_, fun x => hCN _⟩⟩
          · rw [show min (i + 1) b = i + 1 by omega]
            exact oneR hbk.srt haj hji hx (unhide HJ)
          · intro x h1 h2
            rw [show min (i + 1) b = i + 1 by omega] at h2 ⊢
            obtain ⟨y, y1, y2, e⟩ := (rot_same C j i (i + 1) hji (by omega)).wide haj (Nat.le_refl _) |>.fwd x h1 h2
            rw [e]
            by_cases hy : y = i
            · rw [hy, hCi]; omega
            · have := hbk.own y y1 (by omega); omega
          · rw [rot_c C hji (by omega) (by omega)]
            exact hout x (by omega))
        by_cases hja : j = a
        · have hz : ¬ ((a : Int) < (j : Int)) := by omega
          have hzd : decide ((a : Int) < (j : Int)) = false := decide_eq_false hz
          have hzn : decide (a < j) = false := decide_eq_false (by omega)
          have HBX := hide hbx
          have HG := hide (unhide hgo (.inl hja))
          have HJA := hide hja
          clear hbk hout hCN hCi hgo hr hbx hja
          generalize hwz : wr = wz at *
          have HWZ := hide hwz
          clear hwz
          go_wp2_with fail
          go_quiet (fail)
          go_wp2
          go_roundw
          case rel =>
            obtain ⟨D', h1, h2⟩ := unhide HG
            exact ⟨i + 1, D', by go_num, by omega, by omega, h1.drewN _, h2, (unhide HBX).drewN _⟩
          case measure => simp [intOf]; omega
        · obtain ⟨p, hp⟩ : ∃ p, j = p + 1 := ⟨j - 1, by omega⟩
          have hzd : decide ((a : Int) < (j : Int)) = true := decide_eq_true (by omega)
          have hzn : decide (a < j) = true := decide_eq_true (by omega)
          have e1 : IntKind.i64.wrap ((j : Int) - 1) = (p : Int) := by rw [IntKind.wrap_i64]; omega
          have c0 := hr.cell (i := j) (by omega)
          have c1 := hr.cell (i := p) (by omega)
          rw [rot_a C (Nat.le_refl _) (by omega), show j + (i - j) = i by omega] at c0
          rw [rot_c C hji (by omega) (.inl (by omega))] at c1
          have f0 := hr.frozen j
          have f1 := hr.frozen p
          have l0 : (j : Int) < (N : Int) := by omega
          have l1 : (p : Int) < (N : Int) := by omega
          have n1 := fun q => (unhide HC).call (wr.drewN q) (C i) (C p) ((unhide HC).keep w _ (unhide HW) (hbx.drewN q)) (hCN _) (hCN _)
          have hlb := cmpI_lt K (C i) (C p)
          generalize hcm : cmpI (K (C p)) (K (C i)) = cm at *
          cases hle : lessB K (C i) (C p) with
          | false =>
            rw [hle] at hlb
            have hx := lt_of_not hle (by rw [hCi]; have := hbk.own p (by omega) (by omega); omega)
            have HBX := hide hbx
            have HG := hide (unhide hgo (.inr (by rw [show j - 1 = p by omega]; exact hx)))
            have N1 := hide n1
            generalize C i = x at *
            generalize C p = y at *
            have HP := hide hp
            clear hbk hout hCN hCi hgo hr hbx hx hle n1 hcm hp HJ f0 f1
            generalize hwz : wr = wz at *
            have HWZ := hide hwz
            clear hwz
            go_wp2_with fail
            go_quiet ((go_at_call 20; exact Calls.quiet_of (unhide N1 _)))
            go_wp2
            go_roundw
            case rel =>
              obtain ⟨D', h1, h2⟩ := unhide HG
              exact ⟨i + 1, D', by go_num, by omega, by omega, h1.drewN _, h2, (unhide HBX).drewN _⟩
            case measure => simp [intOf]; omega
          | true =>
            rw [hle] at hlb
            have hx := lt_of_less hle
            have hs := fun q => (hr.drewN q).swap j p
            have hrl := rot_left C p i (by omega)
            rw [← hp] at hrl
            simp only [hrl] at hs
            rw [rot_a C (Nat.le_refl _) (by omega), show j + (i - j) = i by omega, rot_c C hji (by omega) (.inl (by omega))] at hs
            have hbs := fun q => ((hbx.drewN q).setCell j (.int .i64 (C p : Nat))).setCell p (.int .i64 (C i : Nat))
            have N1 := hide n1
            have HX : Hid (p = i ∨ ltK K (C i) (C p)) := hide (.inr hx)
            have HS := hide hs; have HBS := hide hbs
            have hpj : p < j := by omega
            generalize hxx : C i = x at *
            generalize hyy : C p = y at *
            have HXX := hide hxx; have HYY := hide hyy
            have HP := hide hp
            clear hbk hout hCN hCi hgo hr hbx hx hle n1 hcm hp HJ hs hbs hrl hxx hyy
            generalize hwz : wr = wz at *
            have HWZ := hide hwz
            clear hwz
            go_wp2_with fail
            go_quiet ((go_at_call 20; exact Calls.quiet_of (unhide N1 _)))
            go_wp2_with fail
            go_region
            go_wp2
            go_roundw
            case rel => exact ⟨p, by go_num, by have := unhide HP; omega, by have := unhide HP; omega, unhide HS _, by rw [unhide HYY]; exact HX, unhide HBS _⟩
            case measure => simp [intOf]; omega
    · have HB2 := unhide HB
      clear HB
      obtain ⟨hbk, hout, hCN⟩ := HB2
      have hmb : min i b = b := by omega
      rw [hmb] at hbk
      have HBK := hide hbk; have HO : Hid (∀ x, x < a ∨ b ≤ x → C x = D x) := hide (fun x hx => hout x (by omega))
      have HCN := hide hCN; have HR := hide hr
      clear hbk hout hCN hmb hr
      go_wp2
      go_end0
      exact ⟨rfl, ⟨C, unhide HR, unhide HBK, unhide HO, unhide HCN⟩, hbw⟩
theorem isort_int_none (v f : Value) (n : Nat) (hn : n ≤ 1000) (w : World) :
    Calls Try.prog 52 #[v, .int .i64 n, .int .i64 n, f] w fun e w' => e = .returned (.tuple #[]) ∧ w' = w := by
  have e0 : IntKind.i64.wrap ((n : Int) + 1) = ((n : Int) + 1) := by rw [IntKind.wrap_i64]; omega
  go_enter Try.func52, Try.ntmps52
  go_wp2
  go_loopw [8] (fun i wr => i = .int .i64 ((n : Int) + 1) ∧ wr = w) (fun _ _ => 0)
  case atStart => exact ⟨rfl, rfl⟩
  case round =>
    obtain ⟨rfl, rfl⟩ := hrel
    have h1 : ¬ (n : Int) + 1 < (n : Int) := by omega
    go_wp2
    go_end0
    exact ⟨rfl, rfl⟩
end Go.Proofs.Ytbnpajijbdddiaa
