/- For every list of positions: Plan of the program answers as the document's own does. No conditions. -/
import Derived.Test.YtbnpajijbdddiaaStR
import Derived.Test.YtbnpajijbdddiaaRows
import Derived.WalkKit
import Derived.ProofKit
import Derived.OpenShut
import Derived.ShutString
import Derived.ChangeOld
import Derived.Below
namespace Go.Proofs.Ytbnpajijbdddiaa
open Go.ChangeShapes Go.WideShapes Go.ChangeAt Go.RowKit
open Go.ChangeMaps (open_string shut_string)
set_option linter.unusedVariables false



set_option maxRecDepth 100000 in
set_option maxHeartbeats 2000000 in
theorem sameOwe_any (L : List XOwe) (B1 B2 : Nat) (u v : Value) (w : World) (hg : OwnR w B1 29 3 cellsOwe u L) (hh : OwnR w B2 29 3 cellsOwe v L) (hl : L.length ≤ 1000) :
    Calls Try.prog 8 #[u, v] w fun e w' => e = .returned (.bool true) ∧ Below w.heap.size w w' := by
  have hl' : (L.length : Int) ≤ 1000 := by omega
  have HG := hide hg; have HH := hide hh
  obtain ⟨⟨ua, uc, rfl⟩, fu⟩ := hg.form
  obtain ⟨⟨va, vc, rfl⟩, fv⟩ := hh.form
  have FU := hide fu; have FV := hide fv
  clear hg hh fu fv
  go_enter Try.func8, Try.ntmps8
  go_wp2
  go_loopw [13] (fun i wr => ∃ k : Nat, k ≤ L.length ∧ i = .int .i64 k ∧ ∃ q, wr = w.drewN q) (fun i _ => L.length - (intOf i).toNat)
  case atStart => exact ⟨0, Nat.zero_le _, rfl, 0, rfl⟩
  case round =>
    obtain ⟨k, hk, rfl, q, rfl⟩ := hrel
    by_cases hlt : k < L.length
    · obtain ⟨x, hx⟩ : ∃ s, L[k]? = some s := ⟨_, List.getElem?_eq_getElem hlt⟩
      rcases unhide FU with h | ⟨g, c, h1, h2, h3⟩
      · rw [h] at hlt; simp at hlt
      rcases unhide FV with h | ⟨g', c', h4, h5, h6⟩
      · rw [h] at hlt; simp at hlt
      cases h1; cases h4
      have c0 : w.cell? ⟨g, k * 3, none⟩ = some (.int .i64 x.frm) := (unhide HG).cell cellsOwe_len k x hx 0 (by omega)
      have c1 : w.cell? ⟨g, k * 3 + 1, none⟩ = some (.int .i64 x.dst) := (unhide HG).cell cellsOwe_len k x hx 1 (by omega)
      have c2 : w.cell? ⟨g, k * 3 + 2, none⟩ = some (.int .i64 x.amount) := (unhide HG).cell cellsOwe_len k x hx 2 (by omega)
      have d0 : w.cell? ⟨g', k * 3, none⟩ = some (.int .i64 x.frm) := (unhide HH).cell cellsOwe_len k x hx 0 (by omega)
      have d1 : w.cell? ⟨g', k * 3 + 1, none⟩ = some (.int .i64 x.dst) := (unhide HH).cell cellsOwe_len k x hx 1 (by omega)
      have d2 : w.cell? ⟨g', k * 3 + 2, none⟩ = some (.int .i64 x.amount) := (unhide HH).cell cellsOwe_len k x hx 2 (by omega)
      have hki : (k : Int) < (L.length : Int) := by omega
      clear hx
      go_wp2_with fail
      go_quiet (fail)
      go_wp2
      go_roundw
      case rel => exact ⟨k + 1, by omega, by go_num, _, rfl⟩
      case measure => simp [intOf]; omega
    · go_wp2
      go_ret
      exact ⟨rfl, below_drewN (Below.refl _ _) _⟩
theorem planS_length (l : List XPos) : (planS l).length ≤ 1000 := by
  unfold planS
  split
  · rename_i h
    have h1 := planH_length l.length (hasL l)
    have h2 := (posE_zero h).1
    unfold payL
    rw [List.length_map]
    omega
  · simp
set_option maxHeartbeats 1000000 in
theorem walkSettlePlans (l : List XPos) (ao : Option Addr) (cap : Nat) (w : World) (hr : RowPos w ao l) :
    Calls Try.prog 3 #[.slice ao l.length cap] w fun e w' => e = .returned (.bool true) ∧ Below w.heap.size w w' := by
  have N1 := hide (plan_any l ao cap w hr)
  have N2 := hide (fun w' (hb : Below w.heap.size w w') => planOf_any l ao cap w' (hr.below hb))
  have hcl := planS_length l
  generalize posE l = pe at *
  generalize planS l = S at *
  have N3 := hide (fun (B1 B2 : Nat) (u v : Value) (w : World) h1 h2 => sameOwe_any S B1 B2 u v w h1 h2 hcl)
  clear hr hcl
  go_enter Try.func3, Try.ntmps3
  go_wp2_with fail
  refine (unhide N1).mono ?_
  rintro e x1 ⟨⟨v1, rfl, hA1⟩, b1⟩
  have HA1 := hide hA1
  clear hA1
  go_wp2_with fail
  refine (unhide N2 _ b1).mono ?_
  rintro e x2 ⟨⟨v2, rfl, hA2⟩, b2⟩
  have HA2 := hide hA2
  have H1 := hide ((unhide HA1).below b2)
  have b3 := ext_b b1 b2 b1.size
  clear hA2 b1 b2 HA1 N1 N2
  go_wp2_with fail
  refine (unhide N3 _ _ _ _ _ (unhide H1) (unhide HA2)).mono ?_
  rintro e x3 ⟨rfl, b4⟩
  have b5 := ext_b b3 b4 b3.size
  clear b3 b4
  go_wp2
  go_ret
  exact ⟨ret_bool (by simp), b5⟩
theorem ownSettlePlans : ownKnob Try.prog.godebug = none := by kernel_rfl
theorem laidOutSettlePlans : laidOutB Try.prog = true := by kernel_rfl
set_option maxRecDepth 100000 in
theorem contractSettlePlans (H : Type) (enc : TypeId × Value → H) (W : World) (base : Nat) (args : Array Value) (ds gs : List (DataW H)) (before : List MemPlace)
    (hval0 : ∀ (j : Nat) t v, Try.f3.params[j]? = some t → args[j]? = some v → Value.okWide Try.prog W .any base t v)
    (hW : DataW.Whole enc Try.prog Try.f3.params.toList Rows.settlePlansSpec.vars false W args.toList ds gs before) :
    Calls Try.prog 3 args W fun e W' => ∃ v, e = .returned v ∧ Rows.settlePlansSpec.post enc Try.prog Try.f3 false true false false W args v W' := by
  have hval : ∀ (j : Nat) t v, Try.f3.params[j]? = some t → args[j]? = some v → Value.okWide Try.prog W .any base t v := hval0
  have hW' := hW
  obtain ⟨p, q, hA0, hV, rfl, hfz, hnd⟩ := hW
  have hA : DataW.TrodAll enc Try.prog W 0 (fun _ => true) true Try.f3.params.toList args.toList ds p := hA0
  rw [Try.params3] at hA hval
  obtain ⟨v0, vs0, d0, ds0, p0, q0, hargs, rfl, rfl, h0, r0⟩ := trodAll_cons hA
  obtain ⟨rfl, rfl, rfl⟩ := trodAll_nil r0
  obtain rfl : args = #[v0] := by cases args; simp_all
  obtain ⟨rfl, rfl⟩ := trodVars_none hV
  clear hA0 hval0
  simp only [List.append_nil] at hW'
  have hlt0 : ∀ x ∈ p0, x.block < W.heap.size := fun x hx => by simpa using hW'.lt x (by simp [hx])
  have hargs0 : ∀ (W' : World), Below W.heap.size W W' → DataW.Trod enc Try.prog W' 0 (fun b => decide (b < W.heap.size)) true 22 v0 d0 p0 :=
    fun W' hn => Below.trod laidOutSettlePlans (by kernel_rfl) (of_decide_eq_true (by kernel_rfl)) h0 hn hlt0
  obtain ⟨ao0, l0, cap0, rfl, hr0, hd0⟩ := openRPos (hval 0 22 v0 rfl rfl) h0
  refine (walkSettlePlans l0 ao0 cap0 W hr0).mono fun e W' ⟨he, bel⟩ => ?_
  subst he
  exact ⟨_, rfl, _, _, _, [], _, [], hW', trodAll_mk1 (shut_bool Try.underlying4 _), (trodAll_cons_mk (hargs0 _ bel) trodAll_mk0), rfl, bel.frame _, fun h => by cases h⟩

set_option maxRecDepth 100000 in
theorem liftedSettlePlans (os : Os) (started : os.Started) (H : Type) (enc : TypeId × Value → H) :
    ReturnsInHanded {} Try.checked os 3 .any (Rows.settlePlansSpec.pre6 enc Try.prog Try.f3 Rows.settlePlansRow.domain false) (Rows.settlePlansSpec.post enc Try.prog Try.f3 false true false false) := by
  refine returnsInHanded_of_change (C := Try.checked) ownSettlePlans started (by kernel_rfl) Try.func3
    (ChangeSpec.witness6 (enc := enc) (C := Try.checked) false ⟨#[], #[.slice none 0 0], []⟩ 8 (by kernel_rfl) (by kernel_rfl) (by kernel_rfl) (by kernel_rfl)) ?_
  intro W base args ds gs before hval hW hcnd _
  exact contractSettlePlans H enc W base args ds gs before hval hW

theorem overSettlePlans : Rows.settlePlansRow.holds Try.pinned (OpenSpec.ofChange Rows.settlePlansSpec) :=
  OpenClaim.holds_of_wide 3 Try.f3 rfl rfl rfl rfl rfl rfl rfl ⟨rfl, rfl, rfl, rfl, rfl⟩ rfl rfl rfl rfl rfl (by kernel_rfl) Try.func3 (by kernel_rfl)
    (of_decide_eq_true (by kernel_rfl)) (by unfold Func.isWrapper; first | (rw [if_pos (by decide +kernel)]; kernel_rfl) | (rw [if_neg (by decide +kernel)]; exact ⟨rfl, rfl⟩))
    (fun os started H enc _ => liftedSettlePlans os started H enc)

/-- THE STATEMENT -/
theorem settlePlans_holds : Rows.SettlePlansSaid := overSettlePlans
#print axioms settlePlans_holds
end Go.Proofs.Ytbnpajijbdddiaa
