/- For every amount and all parts: the shares are the amount together, each is its part but for less than 1, and who has more parts has no less. No conditions. -/
import Derived.Test.YtbnpajijbdddiaaShrC
import Derived.Test.YtbnpajijbdddiaaRows
import Derived.WalkKit
import Derived.ProofKit
import Derived.OpenShut
import Derived.ShutString
import Derived.ChangeOld
import Derived.Below
namespace Go.Proofs.Ytbnpajijbdddiaa
open Go.ChangeShapes Go.WideShapes Go.ChangeAt Go.RowKit
open Go.ChangeMaps (open_string shut_string)
set_option linter.unusedVariables false

theorem sumTo_mono (f : Nat → Int) (n : Nat) (h : ∀ i, 0 ≤ f i) : ∀ k, k ≤ n → sumTo f k ≤ sumTo f n := by
  intro k hk
  induction n with
  | zero => obtain rfl : k = 0 := by omega
            exact Int.le_refl _
  | succ n ih =>
    by_cases e : k = n + 1
    · rw [e]; exact Int.le_refl _
    · have := ih (by omega)
      have := h n
      simp only [sumTo]; omega
set_option maxRecDepth 100000 in
set_option maxHeartbeats 8000000 in
theorem walkSettleFair (A : Int) (ps : List Int) (ao : Option Addr) (cap : Nat) (w : World) (hAb : -9223372036854775808 ≤ A ∧ A ≤ 9223372036854775807) (hr : Rowint w ao ps) :
    Calls Try.prog 4 #[.int .i64 A, .slice ao ps.length cap] w fun e w' => e = .returned (.bool true) ∧ Below w.heap.size w w' := by
  by_cases he : partE A ps = 0
  case neg =>
    have n1 := share_no A ps ao cap w hr he
    have hne : (partE A ps != 0) = true := by simpa using he
    generalize partE A ps = pe at *
    have N1 := hide n1
    clear n1 hr
    go_enter Try.func4, Try.ntmps4
    go_wp2_with fail
    refine (unhide N1).mono ?_
    rintro e w1 ⟨rfl, hb1⟩
    go_wp2
    go_ret
    exact ⟨ret_bool (by simp), hb1⟩
  obtain ⟨hA, hw, hn, hS0⟩ := partE_zero he
  have n1 := share_yes A ps ao cap w hr he
  have hsn := sum_in hw ps.length hn
  have hSS : sumTo (pt ps) ps.length = allS ps := rfl
  have h0 : 0 < ps.length := by
    rcases Nat.eq_zero_or_pos ps.length with h | h
    · exfalso; apply hS0; unfold allS; rw [h]; rfl
    · exact h
  have hrow : ∃ b off, ao = some ⟨b, off, none⟩ ∧ b < w.heap.size ∧ ∀ i x, ps[i]? = some x → w.cell? ⟨b, off + i, none⟩ = some (.int .i64 x) := by
    rcases hr.1 with h | h
    · rw [h] at h0; simp at h0
    · exact h
  obtain ⟨b, off, rfl, hb, hc⟩ := hrow
  rw [hSS] at hsn
  generalize hSv : allS ps = S at *
  have hS : 0 < S ∧ S ≤ 1000000000 := by omega
  have hni : (ps.length : Int) ≤ 1000 := by omega
  have N1 := hide n1; have HC := hide hc; have HW := hide hw; have HSS := hide hSS; have HA := hide hA; have HS := hide hS
  have HHN := hide hn; have HH0 := hide h0
  clear n1 hc hw hSS hr he hS0 hSv hsn hA hS hAb
  go_enter Try.func4, Try.ntmps4
  go_wp2_with fail
  refine (unhide N1).mono ?_
  rintro e w1 ⟨⟨D, g, hk, rfl, hrg, hg⟩, hb1⟩
  have hsum := share_sum A S ps ps.length D hk (unhide HSS) (unhide HS).1 (unhide HH0)
  have hrest := share_rest A S ps ps.length D hk (unhide HSS) (unhide HS).1 (unhide HH0)
  have hmono := share_mono A S ps ps.length D hk (unhide HSS) (unhide HS).1 (unhide HH0) (unhide HA).1
  generalize (leftS A S ps ps.length).toNat = t at *
  have hshb : ∀ i, 0 ≤ shS A S ps D t i := fun i => by
    have := (lo_in A S ps (unhide HA) (unhide HS).1 (unhide HW) i).2.2.1
    have := chI_in D t i
    unfold shS; omega
  have hpar := fun k (hk : k ≤ ps.length) => sumTo_mono (shS A S ps D t) ps.length hshb k hk
  rw [hsum] at hpar
  have HSUM := hide hsum; have HREST := hide hrest; have HMONO := hide hmono; have HSHB := hide hshb; have HPAR := hide hpar; have HRG := hide hrg; have HB1 := hide hb1
  have HCC : Hid (∀ i x, ps[i]? = some x → w1.cell? ⟨b, off + i, none⟩ = some (.int .i64 x)) := hide (fun i x hx => (hb1.cell (p := ⟨b, off + i, none⟩) hb).trans (unhide HC i x hx))
  clear N1 hk hsum hrest hmono hshb hpar hrg hg hb1 HC
  go_wp2
  go_loopw [7, 8, 29] (fun a s i wr => ∃ k : Nat, k ≤ ps.length ∧ i = .int .i64 k ∧ a = .int .i64 (sumTo (pt ps) k) ∧ s = .int .i64 (sumTo (shS A S ps D t) k) ∧ wr = w1) (fun _ _ i _ => ps.length - (intOf i).toNat)
  case atStart => exact ⟨0, Nat.zero_le _, rfl, rfl, rfl, rfl⟩
  case round =>
    obtain ⟨k, hk, rfl, rfl, rfl, rfl⟩ := hrel
    have hsb := sum_in (unhide HW) k (by have := unhide HHN; omega)
    obtain ⟨s1, s2⟩ := hsb
    have hp1 := unhide HPAR k hk
    have hp0 := sumTo_nonneg (shS A S ps D t) k (fun i _ => unhide HSHB i)
    obtain ⟨A1, A2⟩ := unhide HA
    by_cases hlt : k < ps.length
    · obtain ⟨x, hx⟩ : ∃ x, ps[k]? = some x := ⟨_, List.getElem?_eq_getElem hlt⟩
      have c0 := unhide HCC k x hx
      have c1 := (unhide HRG).cell hlt
      have hsb2 := sum_in (unhide HW) (k + 1) (by have := unhide HHN; omega)
      have hp2 := unhide HPAR (k + 1) (by omega)
      have e1 : sumTo (pt ps) (k + 1) = sumTo (pt ps) k + x := by rw [sumTo, pt_at hx]
      have e2 : sumTo (shS A S ps D t) (k + 1) = sumTo (shS A S ps D t) k + shS A S ps D t k := rfl
      rw [e1] at hsb2
      rw [e2] at hp2
      obtain ⟨s3, s4⟩ := hsb2
      have hv0 := unhide HSHB k
      have E1 := hide e1; have E2 := hide e2
      have hki : (k : Int) < (ps.length : Int) := by omega
      generalize sumTo (pt ps) k = X at *
      generalize sumTo (shS A S ps D t) k = Y at *
      generalize shS A S ps D t k = v at *
      clear hx e1 e2
      go_wp2
      go_roundw
      case rel => exact ⟨k + 1, by omega, by go_num, by rw [unhide E1], by rw [unhide E2], by first | trivial | rfl⟩
      case measure => simp [intOf]; omega
    · have hkl : k = ps.length := by omega
      have e1 : sumTo (pt ps) k = S := by rw [hkl]; exact unhide HSS
      have e2 : sumTo (shS A S ps D t) k = A := by rw [hkl]; exact unhide HSUM
      rw [e1, e2]
      clear s1 s2 hp1 hp0 e1 e2 hkl
      go_wp2
      generalize wr = wq at *
      go_loopw [56] (fun i wr => ∃ (k : Nat), k ≤ ps.length ∧ i = .int .i64 k ∧ ∃ q, wr = wq.drewN q) (fun i _ => ps.length - (intOf i).toNat)
      case atStart => exact ⟨0, Nat.zero_le _, rfl, 0, rfl⟩
      case round =>
        obtain ⟨i, hi, rfl, q, rfl⟩ := hrel
        by_cases hil : i < ps.length
        · obtain ⟨x, hx⟩ : ∃ x, ps[i]? = some x := ⟨_, List.getElem?_eq_getElem hil⟩
          have c0 := unhide HCC i x hx
          have c1 := (unhide HRG).cell hil
          have hli := lo_in A S ps (unhide HA) (unhide HS).1 (unhide HW) i
          obtain ⟨l1, l2, l3, l4⟩ := hli
          rw [pt_at hx] at l1 l2
          have hq : wrap64 ((wrap64 (A * x)).tdiv S) = loS A S ps i := by
            have e : A * x / S = loS A S ps i := by unfold loS; rw [pt_at hx]
            rw [show wrap64 (A * x) = A * x by unfold wrap64; omega, Int.tdiv_eq_ediv_of_nonneg l1, e]
            unfold wrap64; omega
          have hrm : (wrap64 (A * x)).tmod S = reS A S ps i := by
            rw [show wrap64 (A * x) = A * x by unfold wrap64; omega, Int.tmod_eq_emod_of_nonneg l1]
            unfold reS; rw [pt_at hx]
          have hsp := (unhide HS).1
          have hii : (i : Int) < (ps.length : Int) := by omega
          have hci := chI_in D t i
          have hsv : shS A S ps D t i = loS A S ps i + chI D t i := rfl
          have hrs := unhide HREST i
          have hmo : Hid (∀ k y, ps[k]? = some y → y < x → shS A S ps D t k ≤ shS A S ps D t i) := hide (fun k y hky hyx => by
            have hk : k < ps.length := (List.getElem?_eq_some_iff.1 hky).1
            exact unhide HMONO i k hil hk (by rw [pt_at hky, pt_at hx]; exact hyx))
          rw [hsv] at c1 hmo
          generalize loS A S ps i = lk at *
          have hcase : chI D t i = 0 ∨ chI D t i = 1 := by omega
          have hnr : Hid (chI D t i = 1 → (reS A S ps i == 0) = false) := hide (fun h => by rw [beq_eq_false_iff_ne]; exact hrs h)
          generalize chI D t i = ch at *
          generalize reS A S ps i = re at *
          clear hx hci hsv hrs l1 l2
          have hinner : ∀ (v : Int) (hv : lk + ch = v), True := fun _ _ => trivial
          obtain ⟨v, hv⟩ : ∃ v, v = lk + ch := ⟨_, rfl⟩
          rw [← hv] at c1 hmo
          have g1 : ¬ v < lk := by omega
          have g2 : ¬ lk + 1 < v := by omega
          have g3 : Hid ((v == lk + 1) = true → (re == 0) = false) := hide (fun h => unhide hnr (by
            have : v = lk + 1 := by simpa using h
            omega))
          clear hinner hcase hv hnr
          have key : (v == lk + 1) = false ∨ ((v == lk + 1) = true ∧ (re == 0) = false) := by
            cases h : (v == lk + 1) with
            | false => exact .inl rfl
            | true => exact .inr ⟨rfl, unhide g3 h⟩
          clear g3
          rcases key with g3 | ⟨g3, g4⟩
          all_goals
            go_wp2
            go_loopw [100] (fun j wr => ∃ (k : Nat), k ≤ ps.length ∧ j = .int .i64 k ∧ ∃ q, wr = wq.drewN q) (fun j _ => ps.length - (intOf j).toNat)
            case atStart => exact ⟨0, Nat.zero_le _, rfl, q, rfl⟩
            case round =>
              obtain ⟨j, hj, rfl, q2, rfl⟩ := hrel
              by_cases hjl : j < ps.length
              · obtain ⟨y, hy⟩ : ∃ y, ps[j]? = some y := ⟨_, List.getElem?_eq_getElem hjl⟩
                have c2 := unhide HCC j y hy
                have c3 := (unhide HRG).cell hjl
                have hjj : (j : Int) < (ps.length : Int) := by omega
                have hm := unhide hmo j y hy
                generalize shS A S ps D t j = u at *
                clear hy
                by_cases hyx : y < x
                · have hyd : decide (y < x) = true := decide_eq_true hyx
                  have hm2 : ¬ v < u := by have := hm hyx; omega
                  clear hm
                  go_wp2_with fail
                  go_quiet (fail)
                  go_wp2
                  go_roundw
                  case rel => exact ⟨j + 1, by omega, by go_num, _, rfl⟩
                  case measure => simp [intOf]; omega
                · have hyd : decide (y < x) = false := decide_eq_false hyx
                  clear hm
                  go_wp2_with fail
                  go_quiet (fail)
                  go_wp2
                  go_roundw
                  case rel => exact ⟨j + 1, by omega, by go_num, _, rfl⟩
                  case measure => simp [intOf]; omega
              · go_wp2
                go_roundw
                case rel => exact ⟨i + 1, by omega, by go_num, _, rfl⟩
                case measure => simp [intOf]; omega
        · go_wp2
          go_ret
          exact ⟨rfl, below_drewN (unhide HB1) _⟩
theorem ownSettleFair : ownKnob Try.prog.godebug = none := by kernel_rfl
theorem laidOutSettleFair : laidOutB Try.prog = true := by kernel_rfl
set_option maxRecDepth 100000 in
theorem contractSettleFair (H : Type) (enc : TypeId × Value → H) (W : World) (base : Nat) (args : Array Value) (ds gs : List (DataW H)) (before : List MemPlace)
    (hval0 : ∀ (j : Nat) t v, Try.f4.params[j]? = some t → args[j]? = some v → Value.okWide Try.prog W .any base t v)
    (hW : DataW.Whole enc Try.prog Try.f4.params.toList Rows.settleFairSpec.vars false W args.toList ds gs before) :
    Calls Try.prog 4 args W fun e W' => ∃ v, e = .returned v ∧ Rows.settleFairSpec.post enc Try.prog Try.f4 false true false false W args v W' := by
  have hval : ∀ (j : Nat) t v, Try.f4.params[j]? = some t → args[j]? = some v → Value.okWide Try.prog W .any base t v := hval0
  have hW' := hW
  obtain ⟨p, q, hA0, hV, rfl, hfz, hnd⟩ := hW
  have hA : DataW.TrodAll enc Try.prog W 0 (fun _ => true) true Try.f4.params.toList args.toList ds p := hA0
  rw [Try.params4] at hA hval
  obtain ⟨v0, vs0, d0, ds0, p0, q0, hargs, rfl, rfl, h0, r0⟩ := trodAll_cons hA
  obtain ⟨v1, vs1, d1, ds1, p1, q1, rfl, rfl, rfl, h1, r1⟩ := trodAll_cons r0
  obtain ⟨rfl, rfl, rfl⟩ := trodAll_nil r1
  obtain rfl : args = #[v0, v1] := by cases args; simp_all
  obtain ⟨rfl, rfl⟩ := trodVars_none hV
  clear hA0 hval0
  simp only [List.append_nil] at hW'
  have hlt0 : ∀ x ∈ p0, x.block < W.heap.size := fun x hx => by simpa using hW'.lt x (by simp [hx])
  have hargs0 : ∀ (W' : World), Below W.heap.size W W' → DataW.Trod enc Try.prog W' 0 (fun b => decide (b < W.heap.size)) true 3 v0 d0 p0 :=
    fun W' hn => Below.trod laidOutSettleFair (by kernel_rfl) (of_decide_eq_true (by kernel_rfl)) h0 hn hlt0
  have hlt1 : ∀ x ∈ p1, x.block < W.heap.size := fun x hx => by simpa using hW'.lt x (by simp [hx])
  have hargs1 : ∀ (W' : World), Below W.heap.size W W' → DataW.Trod enc Try.prog W' 0 (fun b => decide (b < W.heap.size)) true 31 v1 d1 p1 :=
    fun W' hn => Below.trod laidOutSettleFair (by kernel_rfl) (of_decide_eq_true (by kernel_rfl)) h1 hn hlt1
  obtain ⟨a0, rfl, hd0, _, w0⟩ := open_int Try.underlying3 (hval 0 3 v0 rfl rfl) h0
  obtain ⟨ao1, l1, cap1, rfl, hr1, hd1⟩ := openRint (hval 1 31 v1 rfl rfl) h1
  refine (walkSettleFair a0 l1 ao1 cap1 W (bounds_i64 w0) hr1).mono fun e W' ⟨he, bel⟩ => ?_
  subst he
  exact ⟨_, rfl, _, _, _, [], _, [], hW', trodAll_mk1 (shut_bool Try.underlying4 _), (trodAll_cons_mk (hargs0 _ bel) (trodAll_cons_mk (hargs1 _ bel) trodAll_mk0)), rfl, bel.frame _, fun h => by cases h⟩

set_option maxRecDepth 100000 in
theorem liftedSettleFair (os : Os) (started : os.Started) (H : Type) (enc : TypeId × Value → H) :
    ReturnsInHanded {} Try.checked os 4 .any (Rows.settleFairSpec.pre6 enc Try.prog Try.f4 Rows.settleFairRow.domain false) (Rows.settleFairSpec.post enc Try.prog Try.f4 false true false false) := by
  refine returnsInHanded_of_change (C := Try.checked) ownSettleFair started (by kernel_rfl) Try.func4
    (ChangeSpec.witness6 (enc := enc) (C := Try.checked) false ⟨#[], #[.int .i64 0, .slice none 0 0], []⟩ 8 (by kernel_rfl) (by kernel_rfl) (by kernel_rfl) (by kernel_rfl)) ?_
  intro W base args ds gs before hval hW hcnd _
  exact contractSettleFair H enc W base args ds gs before hval hW

theorem overSettleFair : Rows.settleFairRow.holds Try.pinned (OpenSpec.ofChange Rows.settleFairSpec) :=
  OpenClaim.holds_of_wide 4 Try.f4 rfl rfl rfl rfl rfl rfl rfl ⟨rfl, rfl, rfl, rfl, rfl⟩ rfl rfl rfl rfl rfl (by kernel_rfl) Try.func4 (by kernel_rfl)
    (of_decide_eq_true (by kernel_rfl)) (by unfold Func.isWrapper; first | (rw [if_pos (by decide +kernel)]; kernel_rfl) | (rw [if_neg (by decide +kernel)]; exact ⟨rfl, rfl⟩))
    (fun os started H enc _ => liftedSettleFair os started H enc)

/-- THE STATEMENT -/
theorem settleFair_holds : Rows.SettleFairSaid := overSettleFair
#print axioms settleFair_holds
end Go.Proofs.Ytbnpajijbdddiaa
