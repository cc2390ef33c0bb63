/- The library's symMerge over a row of numbers: the general way. -/
import Derived.Test.YtbnpajijbdddiaaSrtT
namespace Go.Proofs.Ytbnpajijbdddiaa
open Go.RowKit
set_option linter.unusedVariables false

set_option maxRecDepth 100000 in
set_option maxHeartbeats 16000000 in
theorem sym_gen {K : Nat → Int} {N g cp : Nat} {CW : World → Prop} (hC : CmpOK K N g cp CW) (D : Nat → Nat) (cap a m b : Nat) (w : World) (h : RI w g N D) (hw : CW w) (hD : ∀ x, D x < N) (ham : a + 1 < m) (hmb : m + 1 < b) (hL : Srt K D a m) (hR : Srt K D m b) (hlr : LR D a m b) (hb : b ≤ N) (hN : N ≤ 1000)
    (ih : SymBelow K N g cp cap CW (b - a)) :
    Calls Try.prog 53 #[.slice (some ⟨g, 0, none⟩) N cap, .int .i64 a, .int .i64 m, .int .i64 b, cmpV cp] w fun e w' => e = .returned (.tuple #[]) ∧ (∃ D', RI w' g N D' ∧ Srt K D' a b ∧ SameIn D D' a b) ∧ ButG g w w' := by
  have H := hide h; have HW := hide hw; have HD := hide hD; have HC := hide hC; have HLL := hide hL; have HRR := hide hR; have HLR := hide hlr; have HIH := hide ih
  have hNi : (N : Int) ≤ 1000 := by omega
  obtain ⟨d, hd⟩ : ∃ d, d = m - a := ⟨_, rfl⟩
  have e0 : IntKind.i64.wrap ((m : Int) - (a : Int)) = (d : Int) := by rw [IntKind.wrap_i64]; omega
  have d0 : ((d : Int) == 1) = false := by rw [beq_eq_false_iff_ne]; omega
  obtain ⟨d', hd'⟩ : ∃ d', d' = b - m := ⟨_, rfl⟩
  have e1 : IntKind.i64.wrap ((b : Int) - (m : Int)) = (d' : Int) := by rw [IntKind.wrap_i64]; omega
  have d1 : ((d' : Int) == 1) = false := by rw [beq_eq_false_iff_ne]; omega
  obtain ⟨mid, hmid⟩ : ∃ mid, mid = (a + b) / 2 := ⟨_, rfl⟩
  have e2 : ((a : Int) + (b : Int)) / 2 = (mid : Int) := by omega
  obtain ⟨n, hn⟩ : ∃ n, n = mid + m := ⟨_, rfl⟩
  have e3 : IntKind.i64.wrap ((mid : Int) + (m : Int)) = (n : Int) := by rw [IntKind.wrap_i64]; omega
  obtain ⟨p, hp⟩ : ∃ p, n = p + 1 := ⟨n - 1, by omega⟩
  have e4 : IntKind.i64.wrap ((n : Int) - 1) = (p : Int) := by rw [IntKind.wrap_i64]; omega
  have hmm : a < mid ∧ mid < b := by omega
  obtain ⟨hm1, hm2⟩ := hmm
  have HMID := hide hmid; have HN := hide hn; have HP := hide hp
  have hn99 : n ≤ 2000 := by omega
  have hnd : n ≤ b + (if mid < m then n - b else a) ∧ a ≤ (if mid < m then n - b else a) ∧ (if mid < m then n - b else a) ≤ (if mid < m then mid else m) ∧ (if mid < m then mid else m) ≤ m ∧ m + (if mid < m then mid else m) ≤ n := by split <;> omega
  clear h hw hD hC hL hR hlr ih hd hd' hmid hn hp
  unfold cmpV
  go_enter Try.func53, Try.ntmps53
  go_upto_if 140 with fail
  go_cut [20, 21] (fun x y wx => wx = w ∧ ∃ s r : Nat, x = .int .i64 s ∧ y = .int .i64 r ∧ a ≤ s ∧ s ≤ r ∧ r ≤ m ∧ m + r ≤ n ∧ n ≤ b + s ∧ Hid ((s = a ∨ n - s = b) ∧ (r = m ∨ n - r = m)))
  case first =>
    by_cases hc : mid < m
    · have hc' : (mid : Int) < (m : Int) := by omega
      rw [if_pos hc, if_pos hc] at hnd
      have e5 : IntKind.i64.wrap ((n : Int) - (b : Int)) = ((n - b : Nat) : Int) := by rw [IntKind.wrap_i64]; omega
      go_wp2
      go_meet
      exact ⟨rfl, n - b, mid, rfl, rfl, hnd.2.1, hnd.2.2.1, hnd.2.2.2.1, hnd.2.2.2.2, hnd.1, hide ⟨.inr (by have := unhide HN; omega), .inr (by have := unhide HN; omega)⟩⟩
    · have hc' : ¬ (mid : Int) < (m : Int) := by omega
      rw [if_neg hc, if_neg hc] at hnd
      go_wp2
      go_meet
      exact ⟨rfl, a, m, rfl, rfl, hnd.2.1, hnd.2.2.1, hnd.2.2.2.1, hnd.2.2.2.2, hnd.1, hide ⟨.inl rfl, .inl rfl⟩⟩
  case rest =>
  obtain ⟨hwc, s0, r0, rfl, rfl, b1, b2, b3, b4, b5, HS0⟩ := hcut
  have hwc' := hwc.symm
  subst hwc'
  clear hnd e0 e1 hwc
  go_wp2
  go_loopw [20, 21] (fun x y wr => ∃ (s r : Nat), x = .int .i64 s ∧ y = .int .i64 r ∧ a ≤ s ∧ s ≤ r ∧ r ≤ m ∧ m + r ≤ n ∧ n ≤ b + s ∧ RI wr g N D ∧ ButG g w wr ∧ Hid ((s = a ∨ n - s = b ∨ ltK K (D (s - 1)) (D (n - s))) ∧ (r = m ∨ n - r = m ∨ ltK K (D (n - r - 1)) (D r)))) (fun x y _ => (intOf y).toNat - (intOf x).toNat)
  case atStart =>
    refine ⟨s0, r0, rfl, rfl, b1, b2, b3, b4, b5, unhide H, ButG.refl _ _, hide ⟨?_, ?_⟩⟩
    · rcases (unhide HS0).1 with h | h
      · exact .inl h
      · exact .inr (.inl h)
    · rcases (unhide HS0).2 with h | h
      · exact .inl h
      · exact .inr (.inl h)
  case round =>
    clear b1 b2 b3 b4 b5 HS0
    obtain ⟨s, r, rfl, rfl, b1, b2, b3, b4, b5, hrr, hbb, HJ⟩ := hrel
    by_cases hlt : s < r
    · have hki : (s : Int) < (r : Int) := by omega
      obtain ⟨c, hc⟩ : ∃ c, c = (s + r) / 2 := ⟨_, rfl⟩
      have e5 : ((s : Int) + (r : Int)) / 2 = (c : Int) := by omega
      have hc1 : s ≤ c := by omega
      have hc2 : c < r := by omega
      obtain ⟨t, ht⟩ : ∃ t, t = p - c := ⟨_, rfl⟩
      have hpn := unhide HP
      have htn : n - (c + 1) = t ∧ n - c - 1 = t ∧ m ≤ t ∧ t < b := by omega
      obtain ⟨ht1, ht2, ht3, ht4⟩ := htn
      have e6 : IntKind.i64.wrap ((p : Int) - (c : Int)) = (t : Int) := by rw [IntKind.wrap_i64]; omega
      have lc : (c : Int) < (N : Int) := by omega
      have la : (t : Int) < (N : Int) := by omega
      have c0 := hrr.cell (i := c) (by omega)
      have c1 := hrr.cell (i := t) (by omega)
      have n1 := fun q => (unhide HC).call (wr.drewN q) (D t) (D c) ((unhide HC).keep w _ (unhide HW) (hbb.drewN q)) (unhide HD _) (unhide HD _)
      have HRR2 := hide hrr; have HBB := hide hbb
      clear hrr hbb hpn
      have hlb := cmpI_lt K (D t) (D c)
      cases hle : lessB K (D t) (D c) with
      | true =>
        rw [hle] at hlb
        have hx := lt_of_less hle
        have HX : Hid ((s = a ∨ n - s = b ∨ ltK K (D (s - 1)) (D (n - s))) ∧ (c = m ∨ n - c = m ∨ ltK K (D (n - c - 1)) (D c))) := hide ⟨(unhide HJ).1, .inr (.inr (by rw [ht2]; exact hx))⟩
        generalize cmpI (K (D c)) (K (D t)) = cm at *
        have N1 := hide n1
        clear n1 hx hle hc HJ ht ht1 ht2
        go_wp2_with fail
        go_quiet ((go_at_call 20; exact Calls.quiet_of (unhide N1 _)))
        go_wp2
        go_roundw
        case rel => exact ⟨s, c, rfl, rfl, b1, hc1, by omega, by omega, b5, (unhide HRR2).drewN _, (unhide HBB).drewN _, HX⟩
        case measure => simp [intOf]; omega
      | false =>
        rw [hle] at hlb
        have hx := lt_of_not hle (unhide HLR c t (by omega) (by omega) ht3 ht4)
        have HX : Hid ((c + 1 = a ∨ n - (c + 1) = b ∨ ltK K (D (c + 1 - 1)) (D (n - (c + 1)))) ∧ (r = m ∨ n - r = m ∨ ltK K (D (n - r - 1)) (D r))) := hide ⟨.inr (.inr (by rw [ht1, Nat.add_sub_cancel]; exact hx)), (unhide HJ).2⟩
        generalize cmpI (K (D c)) (K (D t)) = cm at *
        have N1 := hide n1
        clear n1 hx hle hc HJ ht ht1 ht2
        go_wp2_with fail
        go_quiet ((go_at_call 20; exact Calls.quiet_of (unhide N1 _)))
        go_wp2
        go_roundw
        case rel => exact ⟨c + 1, r, by go_num, rfl, by omega, by omega, b3, b4, by omega, (unhide HRR2).drewN _, (unhide HBB).drewN _, HX⟩
        case measure => simp [intOf]; omega
    · have hsr : r = s := by omega
      subst hsr
      obtain ⟨e, he⟩ : ∃ e, e = n - r := ⟨_, rfl⟩
      have e7 : IntKind.i64.wrap ((n : Int) - (r : Int)) = (e : Int) := by rw [IntKind.wrap_i64]; omega
      have hj := unhide HJ
      rw [← he] at hj
      have he1 : m ≤ e := by omega
      have he2 : e ≤ b := by omega
      have hme : r + (e - m) = mid := by have := unhide HN; omega
      have hhv := halves (unhide HLL) (unhide HRR) b1 b3 he1 he2 hj.1 (by
        rcases hj.2 with h | h | h
        · exact .inl h
        · exact .inr (.inl h)
        · exact .inr (.inr h))
      rw [hme] at hhv
      have hlr1 : LR (rot D r m e) a r mid ∧ LR (rot D r m e) mid e b := by
        constructor
        · intro i j h1 h2 h3 h4
          rw [rot_c D b3 he1 (.inl h2), rot_a D h3 (by omega)]
          exact unhide HLR i _ h1 (by omega) (by omega) (by omega)
        · intro i j h1 h2 h3 h4
          rw [rot_b D (by omega) h2, rot_c D b3 he1 (.inr h3)]
          exact unhide HLR _ j (by omega) (by omega) (by omega) h4
      have hsame : SameIn D (rot D r m e) a b := (rot_same D r m e b3 he1).wide b1 he2
      have hrot := fun (h1 : r < m) (h2 : m < e) => rotate_any D g N cap r m e (cmpV cp) wr hrr h1 h2 (by omega) hN
      have hno := rot_none D r m e
      have HHV := hide hhv; have HLR1 := hide hlr1; have HSM := hide hsame; have HROT := hide hrot; have HNO := hide hno; have HRR2 := hide hrr; have HBB := hide hbb; have HME := hide hme
      clear hj hhv hlr1 hsame hrot hno hrr hbb hme HJ he
      generalize wr = w1 at *
      go_upto_region 39 with fail
      go_cut [185] (fun c wx => c = .bool (decide (r < m) && decide (m < e)) ∧ wx = w1)
      case first =>
        by_cases g1 : r < m
        · have g1' : (r : Int) < (m : Int) := by omega
          by_cases g2 : m < e
          · have g2' : (m : Int) < (e : Int) := by omega
            go_wp2
            go_meet
            exact ⟨by rw [decide_eq_true g1, decide_eq_true g2]; rfl, rfl⟩
          · have g2' : ¬ (m : Int) < (e : Int) := by omega
            go_wp2
            go_meet
            exact ⟨by rw [decide_eq_true g1, decide_eq_false g2]; rfl, rfl⟩
        · have g1' : ¬ (r : Int) < (m : Int) := by omega
          go_wp2
          go_meet
          exact ⟨by rw [decide_eq_false g1]; rfl, rfl⟩
      case rest =>
      obtain ⟨rfl, hwc⟩ := hcut
      have hwc' := hwc.symm
      subst hwc'
      clear hwc
      go_upto_if 185 with fail
      go_cut [] (fun wx => RI wx g N (rot D r m e) ∧ ButG g w wx)
      case first =>
        by_cases g1 : r < m
        · have g1d : decide (r < m) = true := decide_eq_true g1
          by_cases g2 : m < e
          · have N1 := hide (unhide HROT g1 g2)
            have g2d : decide (m < e) = true := decide_eq_true g2
            clear HROT
            unfold cmpV at N1
            go_wp2_with fail
            refine (unhide N1).mono ?_
            rintro ev w2 ⟨rfl, hr2, hb2⟩
            have HR2 := hide hr2; have HB2 := hide ((unhide HBB).trans hb2)
            clear hr2 hb2
            go_wp2
            go_meet
            exact ⟨unhide HR2, unhide HB2⟩
          · have g2d : decide (m < e) = false := decide_eq_false g2
            have hx := unhide HNO (.inr (by omega))
            go_wp2
            go_meet
            exact ⟨by rw [hx]; exact unhide HRR2, unhide HBB⟩
        · have g1d : decide (r < m) = false := decide_eq_false g1
          have hx := unhide HNO (.inl (by omega))
          go_wp2
          go_meet
          exact ⟨by rw [hx]; exact unhide HRR2, unhide HBB⟩
      case rest =>
      obtain ⟨hr2, hb2⟩ := hcut
      apply_assumption
      exact sym_tail (unhide HC) D (rot D r m e) cap a m b mid r e w wc hr2 hb2 (unhide HW) ((unhide HSM).all (unhide HD)) b1 (by have := unhide HME; omega) (by have := unhide HME; omega) he2 hm1 hm2 hb hN (unhide HIH) (unhide HHV) (unhide HLR1) (unhide HSM) _ _ _ _ _ _ _ _ _ _ _ _ _ _ _ _ _ _ _ _ _ _ _ _ _ _ _ _ _ _ _ _ _ _ _ _ _ _ _ _ _ _ _ _ _ _ _ _ _ _ _ _ _ _ _ _ _ _ _ _ _ _ _ _ _ _ _ _ _ _ _ _ _ _ _ _ _ _ _ _ _ _ _ _ _ _ _ _ _ _ _ _ _ _ _ _ _ _ _ _ _ _ _ _ _ _ _ _ _ _ _ _ _ _ _ _ _ _ _ _ _ _ _ _ _ _ _ _ _ _ _ _ _ _ _ _ _ _ _ _ _ _ _ _ _ _ _ _ _ _ _ _ _ _ _ _ _ _ _ _ _ _ _ _ _ _ _ _ _ _ _ _ _ _ _ _ _ _ _ _ _ _ _ _ _ _ _ _ _ _ _ _ _ _ _ _ _ _ _ _ _ _ _ _ _ _ _ _ _ _ _ _
theorem symMerge_any {K : Nat → Int} {N g cp : Nat} {CW : World → Prop} (hC : CmpOK K N g cp CW) (cap : Nat) (hN : N ≤ 1000) : ∀ L, SymBelow K N g cp cap CW L := by
  intro L
  induction L with
  | zero => intro D a m b w _ _ _ _ _ _ h; omega
  | succ L ih =>
    intro D a m b w h hw hD ham hmb hb hL h1 h2 h3
    have ih' : SymBelow K N g cp cap CW (b - a) := fun D' a' m' b' w' k1 k2 k3 k4 k5 k6 k7 => ih D' a' m' b' w' k1 k2 k3 k4 k5 k6 (by omega)
    by_cases c1 : m = a + 1
    · exact sym_left hC D cap a m b w h hw hD c1 h2 h3 hmb hb hN
    by_cases c2 : b = m + 1
    · exact sym_right hC D cap a m b w h hw hD (by omega) c2 h1 h3 hb hN
    exact sym_gen hC D cap a m b w h hw hD (by omega) (by omega) h1 h2 h3 hb hN ih'
end Go.Proofs.Ytbnpajijbdddiaa
