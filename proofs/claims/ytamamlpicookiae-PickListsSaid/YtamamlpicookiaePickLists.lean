/- For all applications and every text: Check, Print and Parse of the program answer as the document's own do. No conditions. -/
import Derived.Test.YtamamlpicookiaePickR
import Derived.Test.YtamamlpicookiaeRPickA
import Derived.Test.YtamamlpicookiaeRPickC
import Derived.Test.YtamamlpicookiaeRows
import Derived.WalkKit
import Derived.ProofKit
import Derived.OpenShut
import Derived.ShutString
import Derived.ChangeOld
import Derived.Below
namespace Go.Proofs.Ytamamlpicookiae
open Go.ChangeShapes Go.WideShapes Go.ChangeAt Go.RowKit
open Go.ChangeMaps (open_string shut_string)
set_option linter.unusedVariables false



set_option maxRecDepth 100000 in
set_option maxHeartbeats 2000000 in
theorem walkPickLists (l : List XApp) (ao : Option Addr) (cap : Nat) (s : ByteArray) (w : World) (hr : RowApp w ao l) (hs : s.size ≤ maxLen) :
    Calls Try.prog 3 #[.slice ao l.length cap, .string s] w fun e w' => e = .returned (.bool true) ∧ Below w.heap.size w w' := by
  have n1 := pprint_any l ao cap w hr
  have n2 := fun w' (hb : Below w.heap.size w w') => appsText_any l ao cap w' (hr.below hb)
  have n3 := fun w => pparse_any s w hs
  have n4 := fun w => readApps_any appsText_any s w hs
  have n5 := fun w' (hb : Below w.heap.size w w') => check_any l ao cap w' (hr.below hb)
  have hrl := reads_length s
  generalize appsE l = ae at *
  generalize appsS l = sl at *
  generalize readsE s = re at *
  have N6 := hide (fun (ao bo : Option Addr) (c d : Nat) (w : World) (hg : RowApp w ao (readsL s)) (hh : RowApp w bo (readsL s)) => sameP_any (readsL s) ao bo c d w hg hh (by omega))
  generalize readsL s = rl at *
  have N1 := hide n1; have N2 := hide n2; have N3 := hide n3; have N4 := hide n4; have N5 := hide n5
  clear n1 n2 n3 n4 n5 hr
  have t1 : (ae == ae) = true := by simp
  have t2 : (sl.toList == sl.toList) = true := by simp
  have t3 : (re == re) = true := by simp
  go_enter Try.func3, Try.ntmps3
  go_wp2_with fail
  refine (unhide N1).mono ?_
  rintro e w1 ⟨rfl, hb1⟩
  go_wp2_with fail
  refine (unhide N2 _ hb1).mono ?_
  rintro e w2 ⟨rfl, hb2⟩
  have hb12 := hb1.trans (hb2.mono hb1.size)
  clear hb1 hb2
  go_wp2_with fail
  refine (unhide N3 _).mono ?_
  rintro e w3 ⟨⟨ao3, cap3, rfl, hrow3⟩, hb3⟩
  have hb13 := hb12.trans (hb3.mono hb12.size)
  have H3 := hide hrow3
  clear hb12 hb3 hrow3
  go_wp2_with fail
  refine (unhide N4 _).mono ?_
  rintro e w4 ⟨⟨ao4, cap4, rfl, hrow4⟩, hb4⟩
  have hb14 := hb13.trans (hb4.mono hb13.size)
  have H4 := hide hrow4; have H34 := hide ((unhide H3).below hb4)
  clear hb13 hb4 hrow4 H3
  go_wp2_with fail
  refine (unhide N5 _ hb14).mono ?_
  rintro e w5 ⟨rfl, hb5⟩
  have hb15 := hb14.trans (hb5.mono hb14.size)
  have K4 := hide ((unhide H4).below hb5); have K3 := hide ((unhide H34).below hb5)
  clear hb14 hb5 H4 H34
  go_wp2_with fail
  refine (unhide N6 _ _ _ _ _ (unhide K3) (unhide K4)).mono ?_
  rintro e w6 ⟨rfl, hb6⟩
  go_wp2
  go_ret
  exact ⟨rfl, hb15.trans (hb6.mono hb15.size)⟩

theorem ownPickLists : ownKnob Try.prog.godebug = none := by kernel_rfl
theorem laidOutPickLists : laidOutB Try.prog = true := by kernel_rfl
set_option maxRecDepth 100000 in
theorem contractPickLists (H : Type) (enc : TypeId × Value → H) (W : World) (base : Nat) (args : Array Value) (ds gs : List (DataW H)) (before : List MemPlace)
    (hval0 : ∀ (j : Nat) t v, Try.f3.params[j]? = some t → args[j]? = some v → Value.okWide Try.prog W .any base t v)
    (hW : DataW.Whole enc Try.prog Try.f3.params.toList Rows.pickListsSpec.vars false W args.toList ds gs before) :
    Calls Try.prog 3 args W fun e W' => ∃ v, e = .returned v ∧ Rows.pickListsSpec.post enc Try.prog Try.f3 false true false false W args v W' := by
  have hval : ∀ (j : Nat) t v, Try.f3.params[j]? = some t → args[j]? = some v → Value.okWide Try.prog W .any base t v := hval0
  have hW' := hW
  obtain ⟨p, q, hA0, hV, rfl, hfz, hnd⟩ := hW
  have hA : DataW.TrodAll enc Try.prog W 0 (fun _ => true) true Try.f3.params.toList args.toList ds p := hA0
  rw [Try.params3] at hA hval
  obtain ⟨v0, vs0, d0, ds0, p0, q0, hargs, rfl, rfl, h0, r0⟩ := trodAll_cons hA
  obtain ⟨v1, vs1, d1, ds1, p1, q1, rfl, rfl, rfl, h1, r1⟩ := trodAll_cons r0
  obtain ⟨rfl, rfl, rfl⟩ := trodAll_nil r1
  obtain rfl : args = #[v0, v1] := by cases args; simp_all
  obtain ⟨rfl, rfl⟩ := trodVars_none hV
  clear hA0 hval0
  simp only [List.append_nil] at hW'
  have hlt0 : ∀ x ∈ p0, x.block < W.heap.size := fun x hx => by simpa using hW'.lt x (by simp [hx])
  have hargs0 : ∀ (W' : World), Below W.heap.size W W' → DataW.Trod enc Try.prog W' 0 (fun b => decide (b < W.heap.size)) true 22 v0 d0 p0 :=
    fun W' hn => Below.trod laidOutPickLists (by kernel_rfl) (of_decide_eq_true (by kernel_rfl)) h0 hn hlt0
  have hlt1 : ∀ x ∈ p1, x.block < W.heap.size := fun x hx => by simpa using hW'.lt x (by simp [hx])
  have hargs1 : ∀ (W' : World), Below W.heap.size W W' → DataW.Trod enc Try.prog W' 0 (fun b => decide (b < W.heap.size)) true 9 v1 d1 p1 :=
    fun W' hn => Below.trod laidOutPickLists (by kernel_rfl) (of_decide_eq_true (by kernel_rfl)) h1 hn hlt1
  obtain ⟨ao0, l0, cap0, rfl, hr0, hd0⟩ := openRApp (hval 0 22 v0 rfl rfl) h0
  obtain ⟨a1, rfl, hd1, _, w1⟩ := open_string Try.underlying9 (hval 1 9 v1 rfl rfl) h1
  refine (walkPickLists l0 ao0 cap0 a1 W hr0 w1).mono fun e W' ⟨he, bel⟩ => ?_
  subst he
  exact ⟨_, rfl, _, _, _, [], _, [], hW', trodAll_mk1 (shut_bool Try.underlying4 _), (trodAll_cons_mk (hargs0 _ bel) (trodAll_cons_mk (hargs1 _ bel) trodAll_mk0)), rfl, bel.frame _, fun h => by cases h⟩

set_option maxRecDepth 100000 in
theorem liftedPickLists (os : Os) (started : os.Started) (H : Type) (enc : TypeId × Value → H) :
    ReturnsInHanded {} Try.checked os 3 .any (Rows.pickListsSpec.pre6 enc Try.prog Try.f3 Rows.pickListsRow.domain false) (Rows.pickListsSpec.post enc Try.prog Try.f3 false true false false) := by
  refine returnsInHanded_of_change (C := Try.checked) ownPickLists started (by kernel_rfl) Try.func3
    (ChangeSpec.witness6 (enc := enc) (C := Try.checked) false ⟨#[], #[.slice none 0 0, .string ByteArray.empty], []⟩ 8 (by kernel_rfl) (by kernel_rfl) (by kernel_rfl) (by kernel_rfl)) ?_
  intro W base args ds gs before hval hW hcnd _
  exact contractPickLists H enc W base args ds gs before hval hW

theorem overPickLists : Rows.pickListsRow.holds Try.pinned (OpenSpec.ofChange Rows.pickListsSpec) :=
  OpenClaim.holds_of_wide 3 Try.f3 rfl rfl rfl rfl rfl rfl rfl ⟨rfl, rfl, rfl, rfl, rfl⟩ rfl rfl rfl rfl rfl (by kernel_rfl) Try.func3 (by kernel_rfl)
    (of_decide_eq_true (by kernel_rfl)) (by unfold Func.isWrapper; first | (rw [if_pos (by decide +kernel)]; kernel_rfl) | (rw [if_neg (by decide +kernel)]; exact ⟨rfl, rfl⟩))
    (fun os started H enc _ => liftedPickLists os started H enc)

/-- THE STATEMENT -/
theorem pickLists_holds : Rows.PickListsSaid := overPickLists
#print axioms pickLists_holds
end Go.Proofs.Ytamamlpicookiae
