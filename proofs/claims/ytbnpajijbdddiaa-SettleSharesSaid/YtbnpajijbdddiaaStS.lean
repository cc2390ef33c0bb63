/- The library's stable sort of a row of numbers. -/
import Derived.Test.YtbnpajijbdddiaaSrtZ
namespace Go.Proofs.Ytbnpajijbdddiaa
open Go.RowKit
set_option linter.unusedVariables false

set_option maxRecDepth 100000 in
set_option maxHeartbeats 8000000 in
theorem stable_int {K : Nat → Int} {N g cp : Nat} {CW : World → Prop} (hC : CmpOK K N g cp CW) (D : Nat → Nat) (cap : Nat) (w : World) (h : RI w g N D) (hw : CW w) (hD : ∀ x, D x < N) (hid : ∀ x, x < N → D x = x) (hN : N ≤ 1000) :
    Calls Try.prog 39 #[.slice (some ⟨g, 0, none⟩) N cap, .int .i64 N, cmpV cp] w fun e w' => e = .returned (.tuple #[]) ∧ (∃ D', RI w' g N D' ∧ Bk K D' 0 N) ∧ ButG g w w' := by
  have H := hide h; have HW := hide hw; have HD := hide hD; have HC := hide hC; have HID := hide hid
  have hNi : (N : Int) ≤ 1000 := by omega
  have HSY := hide (fun L => symMerge_any hC cap hN L)
  have n0 := fun w' => isort_int_none (.slice (some ⟨g, 0, none⟩) N cap) (cmpV cp) N (by omega) w'
  have N0 := hide n0
  clear h hw hD hC hid n0
  unfold cmpV at N0
  unfold cmpV
  go_enter Try.func39, Try.ntmps39
  go_wp2
  go_loopw [7, 8] (fun x y wr => ∃ (a : Nat) (C : Nat → Nat), x = .int .i64 a ∧ y = .int .i64 ((a + 20 : Nat) : Int) ∧ a ≤ N ∧ RI wr g N C ∧ Hid (Full K C 20 a ∧ (∀ x, a ≤ x → C x = D x) ∧ ∀ x, C x < N) ∧ ButG g w wr) (fun x _ _ => N - (intOf x).toNat)
  case atStart => exact ⟨0, D, rfl, rfl, Nat.zero_le _, unhide H, hide ⟨Full.zero, fun _ _ => rfl, unhide HD⟩, ButG.refl _ _⟩
  case round =>
    obtain ⟨a, C, rfl, rfl, haN, hr, HF, hbw⟩ := hrel
    obtain ⟨a20, ha20⟩ : ∃ a20, a20 = a + 20 := ⟨_, rfl⟩
    rw [← ha20]
    have e1 : IntKind.i64.wrap ((a20 : Int) + 20) = ((a20 + 20 : Nat) : Int) := by rw [IntKind.wrap_i64]; omega
    by_cases hle : a20 ≤ N
    · have hle' : (a20 : Int) ≤ (N : Int) := by omega
      obtain ⟨f1, f2, f3⟩ := unhide HF
      have n1 := isort_int (unhide HC) C cap a a20 wr hr ((unhide HC).keep w _ (unhide HW) hbw) f3 (fun x h1 h2 => by rw [f2 x h1]; exact unhide HID x (by omega)) (by omega) hle hN
      have N1 := hide n1; have HBW := hide hbw; have HA := hide ha20
      unfold cmpV at N1
      clear n1 hr hbw f1 f2 f3 ha20
      go_wp2_with fail
      refine (unhide N1).mono ?_
      rintro ev w2 ⟨rfl, ⟨D', hr2, hk2, ho2, hv2⟩, hb2⟩
      have HR2 := hide hr2; have HB2 := hide ((unhide HBW).trans hb2)
      have HF2 : Hid (Full K D' 20 a20 ∧ (∀ x, a20 ≤ x → D' x = D x) ∧ ∀ x, D' x < N) := hide (by
        obtain ⟨f1, f2, f3⟩ := unhide HF
        have ha := unhide HA
        refine ⟨?_, fun x hx => by rw [ho2 x (.inr hx)]; exact f2 x (by omega), hv2⟩
        rw [ha] at hk2 ⊢
        exact Full.next (f1.congr (fun i hi => ho2 i (.inl hi))) hk2)
      clear hr2 hk2 ho2 hv2 hb2
      go_wp2
      go_roundw
      case rel => exact ⟨a20, D', rfl, by go_num, hle, unhide HR2, HF2, unhide HB2⟩
      case measure => simp [intOf]; have := unhide HA; omega
    · have hle' : ¬ (a20 : Int) ≤ (N : Int) := by omega
      have HA := hide ha20; have HR := hide hr; have HBW := hide hbw
      clear hr hbw ha20 e1
      go_upto_region 6 with fail
      go_cut [] (fun wx => ∃ D', RI wx g N D' ∧ Hid (Rest K D' 20 N 0 ∧ ∀ x, D' x < N) ∧ ButG g w wx)
      case first =>
        obtain ⟨f1, f2, f3⟩ := unhide HF
        have ha := unhide HA
        rcases Nat.lt_or_ge a N with hlt | hge
        · have n1 := isort_int (unhide HC) C cap a N wr (unhide HR) ((unhide HC).keep w _ (unhide HW) (unhide HBW)) f3 (fun x h1 h2 => by rw [f2 x h1]; exact unhide HID x (by omega)) hlt (Nat.le_refl _) hN
          have N1 := hide n1
          unfold cmpV at N1
          clear n1 f1 f2 f3 ha
          go_wp2_with fail
          refine (unhide N1).mono ?_
          rintro ev w2 ⟨rfl, ⟨D', hr2, hk2, ho2, hv2⟩, hb2⟩
          have HR2 := hide hr2; have HB2 := hide ((unhide HBW).trans hb2)
          have HF2 : Hid (Rest K D' 20 N 0 ∧ ∀ x, D' x < N) := hide (by
            obtain ⟨f1, f2, f3⟩ := unhide HF
            have ha := unhide HA
            exact ⟨(f1.congr (fun i hi => ho2 i (.inl hi))).rest (Rest.last haN (by omega) hk2), hv2⟩)
          clear hr2 hk2 ho2 hv2 hb2
          go_wp2
          go_meet
          exact ⟨D', unhide HR2, HF2, unhide HB2⟩
        · have haN' : a = N := by omega
          have HF2 : Hid (Rest K C 20 N 0 ∧ ∀ x, C x < N) := hide ⟨f1.rest (Rest.last haN (by omega) (by rw [haN']; exact Bk.empty _ _ _)), f3⟩
          have n0 : ∀ w', Calls Try.prog 52 #[.slice (some ⟨g, 0, none⟩) N cap, .int .i64 a, .int .i64 N, .func (.func 20) #[] #[.pointer (some ⟨cp, 0, none⟩)]] w' fun e w'' => e = .returned (.tuple #[]) ∧ w'' = w' := by rw [haN']; exact unhide N0
          have N0' := hide n0
          clear f1 f2 f3 ha HF haN' hge n0
          go_wp2_with fail
          refine (unhide N0' _).mono ?_
          rintro ev w2 ⟨rfl, hw2⟩
          subst hw2
          go_wp2
          go_meet
          exact ⟨C, unhide HR, HF2, unhide HBW⟩
      case rest =>
      clear HR HBW HF N0
      obtain ⟨D', hr2, HF2, hb2⟩ := hcut
      go_wp2
      go_loopw [6] (fun x wx => ∃ (s : Nat) (C : Nat → Nat), x = .int .i64 s ∧ 20 ≤ s ∧ s ≤ 2000 ∧ RI wx g N C ∧ Hid (Rest K C s N 0 ∧ ∀ x, C x < N) ∧ ButG g w wx) (fun x _ => 2000 - (intOf x).toNat)
      case atStart => exact ⟨20, D', rfl, Nat.le_refl _, by omega, hr2, HF2, hb2⟩
      case round =>
        clear hr2 HF2 hb2 D'
        obtain ⟨s, C, rfl, hs1, hs2, hr, HF, hbw⟩ := hrel
        by_cases hsn : s < N
        · have hsn' : (s : Int) < (N : Int) := by omega
          obtain ⟨t, ht⟩ : ∃ t, t = 2 * s := ⟨_, rfl⟩
          have e2 : IntKind.i64.wrap (2 * (s : Int)) = (t : Int) := by rw [IntKind.wrap_i64]; omega
          have e3 : IntKind.i64.wrap ((s : Int) * 2) = (t : Int) := by rw [IntKind.wrap_i64]; omega
          have HT := hide ht; have HR := hide hr; have HBW := hide hbw
          have ht2 : t ≤ 2000 := by omega
          clear ht hr hbw
          go_wp2
          generalize wr = wo at *
          go_loopw [7, 8] (fun x y wx => ∃ (a : Nat) (E : Nat → Nat), x = .int .i64 a ∧ y = .int .i64 ((a + t : Nat) : Int) ∧ a ≤ N ∧ RI wx g N E ∧ Hid (Full K E t a ∧ Rest K E s N a ∧ ∀ x, E x < N) ∧ ButG g w wx) (fun x _ _ => N - (intOf x).toNat)
          case atStart => exact ⟨0, C, rfl, by simp, Nat.zero_le _, unhide HR, hide ⟨Full.zero, (unhide HF).1, (unhide HF).2⟩, unhide HBW⟩
          case round =>
            clear HR HBW
            obtain ⟨a, E, rfl, rfl, haN, hr, HE, hbx⟩ := hrel
            obtain ⟨at', hat⟩ : ∃ at', at' = a + t := ⟨_, rfl⟩
            rw [← hat]
            obtain ⟨am, ham⟩ : ∃ am, am = a + s := ⟨_, rfl⟩
            have e4 : IntKind.i64.wrap ((a : Int) + (s : Int)) = (am : Int) := by rw [IntKind.wrap_i64]; omega
            have e5 : IntKind.i64.wrap ((at' : Int) + (t : Int)) = ((at' + t : Nat) : Int) := by rw [IntKind.wrap_i64]; omega
            have hts := unhide HT
            by_cases hle : at' ≤ N
            · have hle' : (at' : Int) ≤ (N : Int) := by omega
              obtain ⟨f1, f2, f3⟩ := unhide HE
              obtain ⟨k1, k2, k3⟩ := f2.two (by omega) (by omega)
              rw [← ham] at k1 k2
              rw [← hts, ← hat] at k2 k3
              have n1 := unhide HSY (N + 1) E a am at' wr hr ((unhide HC).keep w _ (unhide HW) hbx) f3 (by omega) (by omega) hle (by omega) k1.srt k2.srt (k1.lr k2)
              have N1 := hide n1; have HBX := hide hbx
              unfold cmpV at N1
              have HG : Hid (∀ D2, Srt K D2 a at' → SameIn E D2 a at' → Full K D2 t at' ∧ Rest K D2 s N at' ∧ ∀ x, D2 x < N) := hide (fun D2 q1 q2 => by
                refine ⟨?_, k3.congr (fun i hi => q2.out i (.inr hi)), q2.all f3⟩
                have hm := k1.merge k2 (by omega) (by omega) q2 q1
                rw [hat] at hm ⊢
                exact Full.next (f1.congr (fun i hi => q2.out i (.inl hi))) hm)
              have HAT := hide hat
              clear n1 hr hbx f1 f2 f3 k1 k2 k3 hat ham hts HE
              go_wp2_with fail
              refine (unhide N1).mono ?_
              rintro ev w2 ⟨rfl, ⟨D2, hr2, q1, q2⟩, hb2⟩
              have HR2 := hide hr2; have HB2 := hide ((unhide HBX).trans hb2); have HG2 := hide (unhide HG D2 q1 q2)
              clear hr2 q1 q2 hb2
              go_wp2
              go_roundw
              case rel => exact ⟨at', D2, rfl, by go_num, hle, unhide HR2, HG2, unhide HB2⟩
              case measure => simp [intOf]; have := unhide HAT; have := unhide HT; omega
            · have hle' : ¬ (at' : Int) ≤ (N : Int) := by omega
              obtain ⟨f1, f2, f3⟩ := unhide HE
              obtain ⟨k1, k2⟩ := f2.tail (by omega)
              by_cases ham2 : am < N
              · have ham2' : (am : Int) < (N : Int) := by omega
                obtain ⟨k3, k4⟩ := k1 (by omega)
                rw [← ham] at k3 k4
                have n1 := unhide HSY (N + 1) E a am N wr hr ((unhide HC).keep w _ (unhide HW) hbx) f3 (by omega) ham2 (Nat.le_refl _) (by omega) k3.srt k4.srt (k3.lr k4)
                have N1 := hide n1; have HBX := hide hbx
                unfold cmpV at N1
                have HG : Hid (∀ D2, Srt K D2 a N → SameIn E D2 a N → Rest K D2 t N 0 ∧ ∀ x, D2 x < N) := hide (fun D2 q1 q2 => by
                  have hm := k3.merge k4 (by omega) (by omega) q2 q1
                  exact ⟨(f1.congr (fun i hi => q2.out i (.inl hi))).rest (Rest.last haN (by omega) hm), q2.all f3⟩)
                clear n1 hr hbx f1 f2 f3 k1 k2 k3 k4 hat ham hts HE e5
                go_wp2_with fail
                refine (unhide N1).mono ?_
                rintro ev w2 ⟨rfl, ⟨D2, hr2, q1, q2⟩, hb2⟩
                have HR2 := hide hr2; have HB2 := hide ((unhide HBX).trans hb2); have HG2 := hide (unhide HG D2 q1 q2)
                clear hr2 q1 q2 hb2
                go_wp2
                go_roundw
                case rel => exact ⟨t, D2, rfl, by have := unhide HT; omega, ht2, unhide HR2, HG2, unhide HB2⟩
                case measure => simp [intOf]; have := unhide HT; omega
              · have ham2' : ¬ (am : Int) < (N : Int) := by omega
                have HG2 : Hid (Rest K E t N 0 ∧ ∀ x, E x < N) := hide ⟨f1.rest (Rest.last haN (by omega) (k2 (by omega))), f3⟩
                have HR2 := hide hr; have HB2 := hide hbx
                clear hr hbx f1 f2 f3 k1 k2 hat ham hts HE e5
                go_wp2
                go_roundw
                case rel => exact ⟨t, E, rfl, by have := unhide HT; omega, ht2, unhide HR2, HG2, unhide HB2⟩
                case measure => simp [intOf]; have := unhide HT; omega
        · have hsn' : ¬ (s : Int) < (N : Int) := by omega
          have HK := hide ((unhide HF).1.whole (by omega))
          have HR := hide hr
          clear hr
          go_wp2
          go_end0
          exact ⟨rfl, ⟨C, unhide HR, unhide HK⟩, hbw⟩
theorem sortStable_int {K : Nat → Int} {N g cp : Nat} {CW : World → Prop} (hC : CmpOK K N g cp CW) (D : Nat → Nat) (cap : Nat) (w : World) (h : RI w g N D) (hw : CW w) (hD : ∀ x, D x < N) (hid : ∀ x, x < N → D x = x) (hN : N ≤ 1000) :
    Calls Try.prog 19 #[.slice (some ⟨g, 0, none⟩) N cap, cmpV cp] w fun e w' => e = .returned (.tuple #[]) ∧ (∃ D', RI w' g N D' ∧ Bk K D' 0 N) ∧ ButG g w w' := by
  have N1 := hide (stable_int hC D cap w h hw hD hid hN)
  clear h
  unfold cmpV at N1
  unfold cmpV
  go_enter Try.func19, Try.ntmps19
  go_wp2_with fail
  refine (unhide N1).mono ?_
  rintro e w1 ⟨rfl, hq⟩
  have HQ := hide hq
  clear hq
  go_wp2
  go_end0
  exact ⟨rfl, unhide HQ⟩
end Go.Proofs.Ytbnpajijbdddiaa
