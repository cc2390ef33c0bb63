/- For every card's list of applications and everything that a shop knows: Candidates of the program answers as the document's own does. No conditions. -/
import Derived.Test.YtlnoilfnpgogbaeSameA
import Derived.Test.YtlnoilfnpgogbaeRows
import Derived.WalkKit
import Derived.ProofKit
import Derived.OpenShut
import Derived.ShutString
import Derived.ChangeOld
import Derived.Below
namespace Go.Proofs.Ytlnoilfnpgogbae
open Go.ChangeShapes Go.WideShapes Go.ChangeAt Go.RowKit
open Go.ChangeMaps (open_string shut_string)
set_option linter.unusedVariables false




set_option maxHeartbeats 1000000 in
theorem walkPickCandidates (l : List XApp) (ao : Option Addr) (cap : Nat) (sh : List XKnown) (bo : Option Addr) (cap2 : Nat) (w : World) (hr : RowApp w ao l) (hs : RowKnown w bo sh) :
    Calls Try.prog 5 #[.slice ao l.length cap, .slice bo sh.length cap2] w fun e w' => e = .returned (.bool true) ∧ Below w.heap.size w w' := by
  have N1 := hide (candidates_any l ao cap sh bo cap2 w hr hs)
  have N2 := hide (fun w' (hb : Below w.heap.size w w') => rcandidates_any l ao cap sh bo cap2 w' (hr.below hb) (hs.below hb))
  have hcl := candS_length l sh
  generalize candE l sh = ce at *
  generalize candS l sh = S at *
  have N3 := hide (fun (ao bo : Option Addr) (c d : Nat) (w : World) h1 h2 => sameA_any S ao bo c d w h1 h2 hcl)
  clear hr hs hcl
  go_enter Try.func5, Try.ntmps5
  go_wp2_with fail
  refine (unhide N1).mono ?_
  rintro e x1 ⟨⟨v1, rfl, hg1⟩, b1⟩
  obtain ⟨a1, c1, rfl, hA1⟩ := hg1.some_len
  have HA1 := hide hA1
  clear hg1 hA1
  go_wp2_with fail
  refine (unhide N2 _ b1).mono ?_
  rintro e x2 ⟨⟨v2, rfl, hg2⟩, b2⟩
  obtain ⟨a2, c2, rfl, hA2⟩ := hg2.some_len
  have HA2 := hide hA2
  have H1 : Hid (S = [] ∨ ∃ g, a1 = some ⟨g, 0, none⟩ ∧ ARow x2 g S) := hide (by
    rcases unhide HA1 with h | ⟨g, h1, h2⟩
    · exact .inl h
    · exact .inr ⟨g, h1, h2.below b2⟩)
  have b3 := ext_callR b1 b2
  clear hg2 hA2 b1 b2 HA1 N1 N2
  go_wp2_with fail
  refine (unhide N3 _ _ _ _ _ (unhide H1) (unhide HA2)).mono ?_
  rintro e x3 ⟨rfl, b4⟩
  have b5 := ext_callR b3 b4
  clear b3 b4
  go_wp2
  go_ret
  exact ⟨ret_bool (by simp), b5⟩
theorem ownPickCandidates : ownKnob Try.prog.godebug = none := by kernel_rfl
theorem laidOutPickCandidates : laidOutB Try.prog = true := by kernel_rfl
set_option maxRecDepth 100000 in
theorem contractPickCandidates (H : Type) (enc : TypeId × Value → H) (W : World) (base : Nat) (args : Array Value) (ds gs : List (DataW H)) (before : List MemPlace)
    (hval0 : ∀ (j : Nat) t v, Try.f5.params[j]? = some t → args[j]? = some v → Value.okWide Try.prog W .any base t v)
    (hW : DataW.Whole enc Try.prog Try.f5.params.toList Rows.pickCandidatesSpec.vars false W args.toList ds gs before) :
    Calls Try.prog 5 args W fun e W' => ∃ v, e = .returned v ∧ Rows.pickCandidatesSpec.post enc Try.prog Try.f5 false true false false W args v W' := by
  have hval : ∀ (j : Nat) t v, Try.f5.params[j]? = some t → args[j]? = some v → Value.okWide Try.prog W .any base t v := hval0
  have hW' := hW
  obtain ⟨p, q, hA0, hV, rfl, hfz, hnd⟩ := hW
  have hA : DataW.TrodAll enc Try.prog W 0 (fun _ => true) true Try.f5.params.toList args.toList ds p := hA0
  rw [Try.params5] at hA hval
  obtain ⟨v0, vs0, d0, ds0, p0, q0, hargs, rfl, rfl, h0, r0⟩ := trodAll_cons hA
  obtain ⟨v1, vs1, d1, ds1, p1, q1, rfl, rfl, rfl, h1, r1⟩ := trodAll_cons r0
  obtain ⟨rfl, rfl, rfl⟩ := trodAll_nil r1
  obtain rfl : args = #[v0, v1] := by cases args; simp_all
  obtain ⟨rfl, rfl⟩ := trodVars_none hV
  clear hA0 hval0
  simp only [List.append_nil] at hW'
  have hlt0 : ∀ x ∈ p0, x.block < W.heap.size := fun x hx => by simpa using hW'.lt x (by simp [hx])
  have hargs0 : ∀ (W' : World), Below W.heap.size W W' → DataW.Trod enc Try.prog W' 0 (fun b => decide (b < W.heap.size)) true 22 v0 d0 p0 :=
    fun W' hn => Below.trod laidOutPickCandidates (by kernel_rfl) (of_decide_eq_true (by kernel_rfl)) h0 hn hlt0
  have hlt1 : ∀ x ∈ p1, x.block < W.heap.size := fun x hx => by simpa using hW'.lt x (by simp [hx])
  have hargs1 : ∀ (W' : World), Below W.heap.size W W' → DataW.Trod enc Try.prog W' 0 (fun b => decide (b < W.heap.size)) true 33 v1 d1 p1 :=
    fun W' hn => Below.trod laidOutPickCandidates (by kernel_rfl) (of_decide_eq_true (by kernel_rfl)) h1 hn hlt1
  obtain ⟨ao0, l0, cap0, rfl, hr0, hd0⟩ := openRApp (hval 0 22 v0 rfl rfl) h0
  obtain ⟨ao1, l1, cap1, rfl, hr1, hd1⟩ := openRKnown (hval 1 33 v1 rfl rfl) h1
  refine (walkPickCandidates l0 ao0 cap0 l1 ao1 cap1 W hr0 hr1).mono fun e W' ⟨he, bel⟩ => ?_
  subst he
  exact ⟨_, rfl, _, _, _, [], _, [], hW', trodAll_mk1 (shut_bool Try.underlying4 _), (trodAll_cons_mk (hargs0 _ bel) (trodAll_cons_mk (hargs1 _ bel) trodAll_mk0)), rfl, bel.frame _, fun h => by cases h⟩

set_option maxRecDepth 100000 in
theorem liftedPickCandidates (os : Os) (started : os.Started) (H : Type) (enc : TypeId × Value → H) :
    ReturnsInHanded {} Try.checked os 5 .any (Rows.pickCandidatesSpec.pre6 enc Try.prog Try.f5 Rows.pickCandidatesRow.domain false) (Rows.pickCandidatesSpec.post enc Try.prog Try.f5 false true false false) := by
  refine returnsInHanded_of_change (C := Try.checked) ownPickCandidates started (by kernel_rfl) Try.func5
    (ChangeSpec.witness6 (enc := enc) (C := Try.checked) false ⟨#[], #[.slice none 0 0, .slice none 0 0], []⟩ 8 (by kernel_rfl) (by kernel_rfl) (by kernel_rfl) (by kernel_rfl)) ?_
  intro W base args ds gs before hval hW hcnd _
  exact contractPickCandidates H enc W base args ds gs before hval hW

theorem overPickCandidates : Rows.pickCandidatesRow.holds Try.pinned (OpenSpec.ofChange Rows.pickCandidatesSpec) :=
  OpenClaim.holds_of_wide 5 Try.f5 rfl rfl rfl rfl rfl rfl rfl ⟨rfl, rfl, rfl, rfl, rfl⟩ rfl rfl rfl rfl rfl (by kernel_rfl) Try.func5 (by kernel_rfl)
    (of_decide_eq_true (by kernel_rfl)) (by unfold Func.isWrapper; first | (rw [if_pos (by decide +kernel)]; kernel_rfl) | (rw [if_neg (by decide +kernel)]; exact ⟨rfl, rfl⟩))
    (fun os started H enc _ => liftedPickCandidates os started H enc)

/-- THE STATEMENT -/
theorem pickCandidates_holds : Rows.PickCandidatesSaid := overPickCandidates
#print axioms pickCandidates_holds
end Go.Proofs.Ytlnoilfnpgogbae
