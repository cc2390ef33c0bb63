/- For every amount, all parts and every rate: Share and Convert of the program answer as the document's own. No conditions. -/
import Derived.Test.YtbnpajijbdddiaaShrR
import Derived.Test.YtbnpajijbdddiaaCnvQ
import Derived.Test.YtbnpajijbdddiaaCnvR
import Derived.Test.YtbnpajijbdddiaaRows
import Derived.WalkKit
import Derived.ProofKit
import Derived.OpenShut
import Derived.ShutString
import Derived.ChangeOld
import Derived.Below
namespace Go.Proofs.Ytbnpajijbdddiaa
open Go.ChangeShapes Go.WideShapes Go.ChangeAt Go.RowKit
open Go.ChangeMaps (open_string shut_string)
set_option linter.unusedVariables false



set_option maxHeartbeats 1000000 in
theorem sameNil (w : World) :
    Calls Try.prog 13 #[.slice none 0 0, .slice none 0 0] w fun e w' => e = .returned (.bool true) ∧ w' = w := by
  go_enter Try.func13, Try.ntmps13
  go_wp2
  go_loopw [13] (fun i wr => i = .int .i64 0 ∧ wr = w) (fun i _ => 0)
  case atStart => exact ⟨rfl, rfl⟩
  case round =>
    obtain ⟨rfl, rfl⟩ := hrel
    go_wp2
    go_ret
    exact ⟨rfl, rfl⟩
set_option maxHeartbeats 1000000 in
theorem sameInts (n : Nat) (x : Nat → Int) (g1 g2 k1 k2 : Nat) (w : World) (hn : (n : Int) ≤ 1000) (h1 : ∀ i, i < n → w.cell? ⟨g1, i, none⟩ = some (.int .i64 (x i))) (h2 : ∀ i, i < n → w.cell? ⟨g2, i, none⟩ = some (.int .i64 (x i))) :
    Calls Try.prog 13 #[.slice (some ⟨g1, 0, none⟩) n k1, .slice (some ⟨g2, 0, none⟩) n k2] w fun e w' => e = .returned (.bool true) ∧ Below w.heap.size w w' := by
  have H1 := hide h1; have H2 := hide h2
  clear h1 h2
  go_enter Try.func13, Try.ntmps13
  go_wp2
  go_loopw [13] (fun i wr => ∃ k : Nat, k ≤ n ∧ i = .int .i64 k ∧ ∃ q, wr = w.drewN q) (fun i _ => n - (intOf i).toNat)
  case atStart => exact ⟨0, Nat.zero_le _, rfl, 0, rfl⟩
  case round =>
    obtain ⟨k, hk, rfl, q, rfl⟩ := hrel
    by_cases hlt : k < n
    · have c0 := unhide H1 k hlt
      have c1 := unhide H2 k hlt
      have hki : (k : Int) < (n : Int) := by omega
      generalize x k = y at *
      go_wp2_with fail
      go_quiet (fail)
      go_wp2
      go_roundw
      case rel => exact ⟨k + 1, by omega, by go_num, _, rfl⟩
      case measure => simp [intOf]; omega
    · have hkn : ¬ (k : Int) < (n : Int) := by omega
      go_wp2
      go_ret
      exact ⟨rfl, below_drewN (Below.refl _ _) _⟩
set_option maxRecDepth 100000 in
set_option maxHeartbeats 8000000 in
theorem walkSettleShares (A : Int) (ps : List Int) (ao : Option Addr) (cap : Nat) (rt : XRate) (w : World) (hAb : -9223372036854775808 ≤ A ∧ A ≤ 9223372036854775807) (hr : Rowint w ao ps) (ht : okRate w rt) :
    Calls Try.prog 5 #[.int .i64 A, .slice ao ps.length cap, valRate rt] w fun e w' => e = .returned (.bool true) ∧ Below w.heap.size w w' := by
  obtain ⟨Nu, De⟩ := rt
  unfold valRate
  have N3 := hide (fun w' => convert_any A Nu De w')
  have N4 := hide (fun w' => rconvert_any A Nu De w')
  generalize cnvV A Nu De = cv at *
  generalize cnvE A Nu De = ce at *
  clear ht
  have HK := hide (alB w (.cells #[.int .i64 Nu, .int .i64 De] 36))
  have c0 : (w.alloc (.cells #[.int .i64 Nu, .int .i64 De] 36)).cell? ⟨w.heap.size, 0, none⟩ = some (.int .i64 Nu) := by simp
  have c1 : (w.alloc (.cells #[.int .i64 Nu, .int .i64 De] 36)).cell? ⟨w.heap.size, 1, none⟩ = some (.int .i64 De) := by simp
  have C0 := hide c0; have C1 := hide c1
  clear c0 c1
  by_cases he : partE A ps = 0
  case neg =>
    have N1 := hide (fun w' (hb : Below w.heap.size w w') => share_no A ps ao cap w' (hr.below hb) he)
    have N2 := hide (fun w' (hb : Below w.heap.size w w') => rshare_no A ps ao cap w' (hr.below hb) hAb he)
    generalize partE A ps = pe at *
    clear hr he hAb
    go_enter Try.func5, Try.ntmps5
    go_wp2_with fail
    refine (unhide N1 _ (unhide HK)).mono ?_
    rintro e w1 ⟨rfl, hb1⟩
    have K1 := hide (stepB (unhide HK) hb1)
    have D0 := hide (keepB hb1 (unhide C0)); have D1 := hide (keepB hb1 (unhide C1))
    clear hb1 C0 C1 HK
    go_wp2_with fail
    refine (unhide N2 _ (unhide K1)).mono ?_
    rintro e w2 ⟨rfl, hb2⟩
    have K2 := hide (stepB (unhide K1) hb2)
    have d0 := keepB hb2 (unhide D0); have d1 := keepB hb2 (unhide D1)
    clear hb2 K1 D0 D1
    go_wp2_with fail
    refine (unhide N3 _).mono ?_
    rintro e w3 ⟨rfl, hb3⟩
    have K3 := hide (stepB (unhide K2) hb3)
    have e0 := keepB hb3 d0; have e1 := keepB hb3 d1
    clear hb3 d0 d1 K2
    go_wp2_with fail
    refine (unhide N4 _).mono ?_
    rintro e w4 ⟨rfl, hb4⟩
    have K4 := hide (stepB (unhide K3) hb4)
    clear hb4 e0 e1 K3
    go_wp2_with fail
    refine (sameNil _).mono ?_
    rintro e w5 ⟨rfl, hw5⟩
    rw [hw5]
    clear hw5
    go_wp2
    go_ret
    exact ⟨ret_bool (by simp), unhide K4⟩
  have hn : (ps.length : Int) ≤ 1000 := by have := partE_zero he; omega
  have N1 := hide (fun w' (hb : Below w.heap.size w w') => share_yes A ps ao cap w' (hr.below hb) he)
  have N2 := hide (fun w' (hb : Below w.heap.size w w') D hD => rshare_yes A ps ao cap w' (hr.below hb) he D hD)
  clear hr he hAb
  go_enter Try.func5, Try.ntmps5
  go_wp2_with fail
  refine (unhide N1 _ (unhide HK)).mono ?_
  rintro e w1 ⟨⟨D, g, hD, rfl, hrg, hg⟩, hb1⟩
  have K1 := hide (stepB (unhide HK) hb1)
  have D0 := hide (keepB hb1 (unhide C0)); have D1 := hide (keepB hb1 (unhide C1))
  have N2' := hide (unhide N2 _ (unhide K1) D hD)
  generalize shS A (allS ps) ps D (leftS A (allS ps) ps ps.length).toNat = x at *
  have R1 : Hid (∀ i, i < ps.length → w1.cell? ⟨g, i, none⟩ = some (.int .i64 (x i))) := hide (fun i hi => hrg.cell hi)
  clear hb1 C0 C1 HK N2 hrg hg hD
  go_wp2_with fail
  refine (unhide N2').mono ?_
  rintro e w2 ⟨⟨g2, k2, rfl, hp, hg2⟩, hb2⟩
  have K2 := hide (stepB (unhide K1) hb2)
  have d0 := keepB hb2 (unhide D0); have d1 := keepB hb2 (unhide D1)
  have R2 : Hid (∀ i, i < ps.length → w2.cell? ⟨g, i, none⟩ = some (.int .i64 (x i)) ∧ w2.cell? ⟨g2, i, none⟩ = some (.int .i64 (x i))) := hide (fun i hi => ⟨keepB hb2 (unhide R1 i hi), hp.cell hi⟩)
  clear hb2 K1 D0 D1 R1 hp hg2 N2' N1
  go_wp2_with fail
  refine (unhide N3 _).mono ?_
  rintro e w3 ⟨rfl, hb3⟩
  have K3 := hide (stepB (unhide K2) hb3)
  have e0 := keepB hb3 d0; have e1 := keepB hb3 d1
  have H3 := hide hb3
  clear hb3 d0 d1 K2
  go_wp2_with fail
  refine (unhide N4 _).mono ?_
  rintro e w4 ⟨rfl, hb4⟩
  have K4 := hide (stepB (unhide K3) hb4)
  have N5 := hide (sameInts ps.length x g g2 ps.length k2 w4 hn (fun i hi => keepB hb4 (keepB (unhide H3) (unhide R2 i hi).1)) (fun i hi => keepB hb4 (keepB (unhide H3) (unhide R2 i hi).2)))
  clear hb4 e0 e1 K3 H3 R2
  go_wp2_with fail
  refine (unhide N5).mono ?_
  rintro e w5 ⟨rfl, hb5⟩
  have K5 := hide (stepB (unhide K4) hb5)
  clear hb5 K4 N5
  go_wp2
  go_ret
  exact ⟨ret_bool (by simp), unhide K5⟩
theorem ownSettleShares : ownKnob Try.prog.godebug = none := by kernel_rfl
theorem laidOutSettleShares : laidOutB Try.prog = true := by kernel_rfl
set_option maxRecDepth 100000 in
theorem contractSettleShares (H : Type) (enc : TypeId × Value → H) (W : World) (base : Nat) (args : Array Value) (ds gs : List (DataW H)) (before : List MemPlace)
    (hval0 : ∀ (j : Nat) t v, Try.f5.params[j]? = some t → args[j]? = some v → Value.okWide Try.prog W .any base t v)
    (hW : DataW.Whole enc Try.prog Try.f5.params.toList Rows.settleSharesSpec.vars false W args.toList ds gs before) :
    Calls Try.prog 5 args W fun e W' => ∃ v, e = .returned v ∧ Rows.settleSharesSpec.post enc Try.prog Try.f5 false true false false W args v W' := by
  have hval : ∀ (j : Nat) t v, Try.f5.params[j]? = some t → args[j]? = some v → Value.okWide Try.prog W .any base t v := hval0
  have hW' := hW
  obtain ⟨p, q, hA0, hV, rfl, hfz, hnd⟩ := hW
  have hA : DataW.TrodAll enc Try.prog W 0 (fun _ => true) true Try.f5.params.toList args.toList ds p := hA0
  rw [Try.params5] at hA hval
  obtain ⟨v0, vs0, d0, ds0, p0, q0, hargs, rfl, rfl, h0, r0⟩ := trodAll_cons hA
  obtain ⟨v1, vs1, d1, ds1, p1, q1, rfl, rfl, rfl, h1, r1⟩ := trodAll_cons r0
  obtain ⟨v2, vs2, d2, ds2, p2, q2, rfl, rfl, rfl, h2, r2⟩ := trodAll_cons r1
  obtain ⟨rfl, rfl, rfl⟩ := trodAll_nil r2
  obtain rfl : args = #[v0, v1, v2] := by cases args; simp_all
  obtain ⟨rfl, rfl⟩ := trodVars_none hV
  clear hA0 hval0
  simp only [List.append_nil] at hW'
  have hlt0 : ∀ x ∈ p0, x.block < W.heap.size := fun x hx => by simpa using hW'.lt x (by simp [hx])
  have hargs0 : ∀ (W' : World), Below W.heap.size W W' → DataW.Trod enc Try.prog W' 0 (fun b => decide (b < W.heap.size)) true 3 v0 d0 p0 :=
    fun W' hn => Below.trod laidOutSettleShares (by kernel_rfl) (of_decide_eq_true (by kernel_rfl)) h0 hn hlt0
  have hlt1 : ∀ x ∈ p1, x.block < W.heap.size := fun x hx => by simpa using hW'.lt x (by simp [hx])
  have hargs1 : ∀ (W' : World), Below W.heap.size W W' → DataW.Trod enc Try.prog W' 0 (fun b => decide (b < W.heap.size)) true 31 v1 d1 p1 :=
    fun W' hn => Below.trod laidOutSettleShares (by kernel_rfl) (of_decide_eq_true (by kernel_rfl)) h1 hn hlt1
  have hlt2 : ∀ x ∈ p2, x.block < W.heap.size := fun x hx => by simpa using hW'.lt x (by simp [hx])
  have hargs2 : ∀ (W' : World), Below W.heap.size W W' → DataW.Trod enc Try.prog W' 0 (fun b => decide (b < W.heap.size)) true 36 v2 d2 p2 :=
    fun W' hn => Below.trod laidOutSettleShares (by kernel_rfl) (of_decide_eq_true (by kernel_rfl)) h2 hn hlt2
  obtain ⟨a0, rfl, hd0, _, w0⟩ := open_int Try.underlying3 (hval 0 3 v0 rfl rfl) h0
  obtain ⟨ao1, l1, cap1, rfl, hr1, hd1⟩ := openRint (hval 1 31 v1 rfl rfl) h1
  obtain ⟨x2, rfl, hr2⟩ := openRate (hval 2 36 v2 rfl rfl) h2
  refine (walkSettleShares a0 l1 ao1 cap1 x2 W (bounds_i64 w0) hr1 hr2).mono fun e W' ⟨he, bel⟩ => ?_
  subst he
  exact ⟨_, rfl, _, _, _, [], _, [], hW', trodAll_mk1 (shut_bool Try.underlying4 _), (trodAll_cons_mk (hargs0 _ bel) (trodAll_cons_mk (hargs1 _ bel) (trodAll_cons_mk (hargs2 _ bel) trodAll_mk0))), rfl, bel.frame _, fun h => by cases h⟩

set_option maxRecDepth 100000 in
theorem liftedSettleShares (os : Os) (started : os.Started) (H : Type) (enc : TypeId × Value → H) :
    ReturnsInHanded {} Try.checked os 5 .any (Rows.settleSharesSpec.pre6 enc Try.prog Try.f5 Rows.settleSharesRow.domain false) (Rows.settleSharesSpec.post enc Try.prog Try.f5 false true false false) := by
  refine returnsInHanded_of_change (C := Try.checked) ownSettleShares started (by kernel_rfl) Try.func5
    (ChangeSpec.witness6 (enc := enc) (C := Try.checked) false ⟨#[], #[.int .i64 0, .slice none 0 0, .agg #[.int .i64 0, .int .i64 0]], []⟩ 8 (by kernel_rfl) (by kernel_rfl) (by kernel_rfl) (by kernel_rfl)) ?_
  intro W base args ds gs before hval hW hcnd _
  exact contractSettleShares H enc W base args ds gs before hval hW

theorem overSettleShares : Rows.settleSharesRow.holds Try.pinned (OpenSpec.ofChange Rows.settleSharesSpec) :=
  OpenClaim.holds_of_wide 5 Try.f5 rfl rfl rfl rfl rfl rfl rfl ⟨rfl, rfl, rfl, rfl, rfl⟩ rfl rfl rfl rfl rfl (by kernel_rfl) Try.func5 (by kernel_rfl)
    (of_decide_eq_true (by kernel_rfl)) (by unfold Func.isWrapper; first | (rw [if_pos (by decide +kernel)]; kernel_rfl) | (rw [if_neg (by decide +kernel)]; exact ⟨rfl, rfl⟩))
    (fun os started H enc _ => liftedSettleShares os started H enc)

/-- THE STATEMENT -/
theorem settleShares_holds : Rows.SettleSharesSaid := overSettleShares
#print axioms settleShares_holds
end Go.Proofs.Ytbnpajijbdddiaa
