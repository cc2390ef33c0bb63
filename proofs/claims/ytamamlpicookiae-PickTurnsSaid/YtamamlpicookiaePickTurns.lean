/- For all applications and every text: what Print of applications writes Parse reads as they were; what Parse reads Print writes in just that way; what it does not take it answers with ErrForm and no applications. No conditions. -/
import Derived.Test.YtamamlpicookiaePickR
import Derived.Test.YtamamlpicookiaeRows
import Derived.WalkKit
import Derived.ProofKit
import Derived.OpenShut
import Derived.ShutString
import Derived.ChangeOld
import Derived.Below
import Derived.Deep.DeepCutAuto
namespace Go.Proofs.Ytamamlpicookiae
open Go.ChangeShapes Go.WideShapes Go.ChangeAt Go.RowKit
open Go.ChangeMaps (open_string shut_string)
set_option linter.unusedVariables false



set_option maxRecDepth 100000 in
set_option maxHeartbeats 2000000 in
theorem walkPickTurns (l : List XApp) (ao : Option Addr) (cap : Nat) (s : ByteArray) (w : World) (hr : RowApp w ao l) (hs : s.size ≤ maxLen) :
    Calls Try.prog 4 #[.slice ao l.length cap, .string s] w fun e w' => e = .returned (.bool true) ∧ Below w.heap.size w w' := by
  have n1 := pprint_any l ao cap w hr
  have n2 := fun w => pparse_any s w hs
  have hrl := reads_length s
  have N1 := hide n1; have N2 := hide n2; have HR := hide hr
  have HP : Hid (appsE l = 0 → (∀ w, Calls Try.prog 9 #[.string (appsS l)] w fun e w' => (∃ ao cap, e = .returned (.tuple #[.slice ao l.length cap, .int .i64 0]) ∧ RowApp w' ao l) ∧ Below w.heap.size w w') ∧ l.length ≤ 20) := hide (fun h => by
    obtain ⟨a, b⟩ := reads_print h
    have e : appsS l = appsT l := by unfold appsS; rw [if_pos h]
    refine ⟨fun w => ?_, (apps_sized h).1⟩
    have := pparse_any (appsT l) w (appsT_size h)
    rw [a, b] at this
    rw [e]
    exact this)
  have HN := hide (@reads_none s); have HS := hide (@reads_some s)
  generalize appsE l = ae at *
  generalize appsS l = sl at *
  generalize readsE s = re at *
  generalize readsL s = rl at *
  clear n1 n2 hr
  go_enter Try.func4, Try.ntmps4
  go_wp2_with fail
  refine (unhide N1).mono ?_
  rintro e w1 ⟨rfl, hb1⟩
  go_upto_if 16 with fail
  go_cut [5, 6, 7, 8] (fun a b c d wx => Below w.heap.size w wx)
  case first =>
    by_cases hae : ae = 0
    · subst hae
      obtain ⟨hp1, hp2⟩ := unhide HP rfl
      have HP1 := hide hp1
      clear hp1 HP HN HS N2 N1
      go_wp2_with fail
      refine (unhide HP1 _).mono ?_
      rintro e w2 ⟨⟨ao2, cap2, rfl, hrow⟩, hb2⟩
      have hb12 := hb1.trans (hb2.mono hb1.size)
      have N3 := hide (sameP_any l ao2 ao cap2 cap w2 hrow ((unhide HR).below hb12) (by omega))
      have HB := hide hb12
      clear hrow hb2 hb1 hb12
      go_wp2_with fail
      refine (unhide N3).mono ?_
      rintro e w3 ⟨rfl, hb3⟩
      go_wp2
      go_meet
      exact (unhide HB).trans (hb3.mono (unhide HB).size)
    · have t1 : (ae == 0) = false := by simpa using hae
      clear HP HN HS N2 N1
      go_wp2
      go_meet
      exact hb1
  case rest =>
  clear hb1 HP N1 HR
  have HB := hide hcut
  clear hcut
  by_cases hre : re = 0
  · subst hre
    obtain ⟨h1, h2⟩ := unhide HS rfl
    clear HN HS
    have HX := hide h1; have HY := hide h2
    clear h1 h2
    go_wp2_with fail
    refine (unhide N2 _).mono ?_
    rintro e w2 ⟨⟨ao2, cap2, rfl, hrow⟩, hb2⟩
    have n3 := pprint_any rl ao2 cap2 w2 hrow
    rw [unhide HX, unhide HY] at n3
    have N3 := hide n3
    have hbw := (unhide HB).trans (hb2.mono (unhide HB).size)
    have HB2 := hide hbw
    clear n3 hrow hb2 hbw HB HX HY N2
    go_wp2_with fail
    refine (unhide N3).mono ?_
    rintro e w3 ⟨rfl, hb3⟩
    have t2 : (s.toList == s.toList) = true := by simp
    go_wp2
    go_ret
    exact ⟨rfl, (unhide HB2).trans (hb3.mono (unhide HB2).size)⟩
  · obtain ⟨h1, h2, h3⟩ := unhide HN hre
    subst h1
    subst h2
    have t3 : (s.toList == []) = false := by
      have := toList_neQ h3
      simpa using this
    have t4 : s.toList.isEmpty = false := by
      cases hh : s.toList with
      | nil => rw [hh] at t3; cases t3
      | cons a b => rfl
    clear HN HS h3
    go_wp2_with fail
    refine (unhide N2 _).mono ?_
    rintro e w2 ⟨⟨ao2, cap2, rfl, hrow⟩, hb2⟩
    clear hrow
    go_wp2
    go_ret
    exact ⟨rfl, (unhide HB).trans (hb2.mono (unhide HB).size)⟩

theorem ownPickTurns : ownKnob Try.prog.godebug = none := by kernel_rfl
theorem laidOutPickTurns : laidOutB Try.prog = true := by kernel_rfl
set_option maxRecDepth 100000 in
theorem contractPickTurns (H : Type) (enc : TypeId × Value → H) (W : World) (base : Nat) (args : Array Value) (ds gs : List (DataW H)) (before : List MemPlace)
    (hval0 : ∀ (j : Nat) t v, Try.f4.params[j]? = some t → args[j]? = some v → Value.okWide Try.prog W .any base t v)
    (hW : DataW.Whole enc Try.prog Try.f4.params.toList Rows.pickTurnsSpec.vars false W args.toList ds gs before) :
    Calls Try.prog 4 args W fun e W' => ∃ v, e = .returned v ∧ Rows.pickTurnsSpec.post enc Try.prog Try.f4 false true false false W args v W' := by
  have hval : ∀ (j : Nat) t v, Try.f4.params[j]? = some t → args[j]? = some v → Value.okWide Try.prog W .any base t v := hval0
  have hW' := hW
  obtain ⟨p, q, hA0, hV, rfl, hfz, hnd⟩ := hW
  have hA : DataW.TrodAll enc Try.prog W 0 (fun _ => true) true Try.f4.params.toList args.toList ds p := hA0
  rw [Try.params4] at hA hval
  obtain ⟨v0, vs0, d0, ds0, p0, q0, hargs, rfl, rfl, h0, r0⟩ := trodAll_cons hA
  obtain ⟨v1, vs1, d1, ds1, p1, q1, rfl, rfl, rfl, h1, r1⟩ := trodAll_cons r0
  obtain ⟨rfl, rfl, rfl⟩ := trodAll_nil r1
  obtain rfl : args = #[v0, v1] := by cases args; simp_all
  obtain ⟨rfl, rfl⟩ := trodVars_none hV
  clear hA0 hval0
  simp only [List.append_nil] at hW'
  have hlt0 : ∀ x ∈ p0, x.block < W.heap.size := fun x hx => by simpa using hW'.lt x (by simp [hx])
  have hargs0 : ∀ (W' : World), Below W.heap.size W W' → DataW.Trod enc Try.prog W' 0 (fun b => decide (b < W.heap.size)) true 22 v0 d0 p0 :=
    fun W' hn => Below.trod laidOutPickTurns (by kernel_rfl) (of_decide_eq_true (by kernel_rfl)) h0 hn hlt0
  have hlt1 : ∀ x ∈ p1, x.block < W.heap.size := fun x hx => by simpa using hW'.lt x (by simp [hx])
  have hargs1 : ∀ (W' : World), Below W.heap.size W W' → DataW.Trod enc Try.prog W' 0 (fun b => decide (b < W.heap.size)) true 9 v1 d1 p1 :=
    fun W' hn => Below.trod laidOutPickTurns (by kernel_rfl) (of_decide_eq_true (by kernel_rfl)) h1 hn hlt1
  obtain ⟨ao0, l0, cap0, rfl, hr0, hd0⟩ := openRApp (hval 0 22 v0 rfl rfl) h0
  obtain ⟨a1, rfl, hd1, _, w1⟩ := open_string Try.underlying9 (hval 1 9 v1 rfl rfl) h1
  refine (walkPickTurns l0 ao0 cap0 a1 W hr0 w1).mono fun e W' ⟨he, bel⟩ => ?_
  subst he
  exact ⟨_, rfl, _, _, _, [], _, [], hW', trodAll_mk1 (shut_bool Try.underlying4 _), (trodAll_cons_mk (hargs0 _ bel) (trodAll_cons_mk (hargs1 _ bel) trodAll_mk0)), rfl, bel.frame _, fun h => by cases h⟩

set_option maxRecDepth 100000 in
theorem liftedPickTurns (os : Os) (started : os.Started) (H : Type) (enc : TypeId × Value → H) :
    ReturnsInHanded {} Try.checked os 4 .any (Rows.pickTurnsSpec.pre6 enc Try.prog Try.f4 Rows.pickTurnsRow.domain false) (Rows.pickTurnsSpec.post enc Try.prog Try.f4 false true false false) := by
  refine returnsInHanded_of_change (C := Try.checked) ownPickTurns started (by kernel_rfl) Try.func4
    (ChangeSpec.witness6 (enc := enc) (C := Try.checked) false ⟨#[], #[.slice none 0 0, .string ByteArray.empty], []⟩ 8 (by kernel_rfl) (by kernel_rfl) (by kernel_rfl) (by kernel_rfl)) ?_
  intro W base args ds gs before hval hW hcnd _
  exact contractPickTurns H enc W base args ds gs before hval hW

theorem overPickTurns : Rows.pickTurnsRow.holds Try.pinned (OpenSpec.ofChange Rows.pickTurnsSpec) :=
  OpenClaim.holds_of_wide 4 Try.f4 rfl rfl rfl rfl rfl rfl rfl ⟨rfl, rfl, rfl, rfl, rfl⟩ rfl rfl rfl rfl rfl (by kernel_rfl) Try.func4 (by kernel_rfl)
    (of_decide_eq_true (by kernel_rfl)) (by unfold Func.isWrapper; first | (rw [if_pos (by decide +kernel)]; kernel_rfl) | (rw [if_neg (by decide +kernel)]; exact ⟨rfl, rfl⟩))
    (fun os started H enc _ => liftedPickTurns os started H enc)

/-- THE STATEMENT -/
theorem pickTurns_holds : Rows.PickTurnsSaid := overPickTurns
#print axioms pickTurns_holds
end Go.Proofs.Ytamamlpicookiae
