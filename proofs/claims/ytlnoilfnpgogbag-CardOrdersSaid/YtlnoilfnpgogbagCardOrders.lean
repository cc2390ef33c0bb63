/- For every key, number and list of orders: Orders of the program answers as the document's own does. No conditions. -/
import Derived.Test.YtlnoilfnpgogbagROrdY
import Derived.Test.YtlnoilfnpgogbagRows
import Derived.WalkKit
import Derived.ProofKit
import Derived.OpenShut
import Derived.ShutString
import Derived.ChangeOld
import Derived.Below
namespace Go.Proofs.Ytlnoilfnpgogbag
open Go.ChangeShapes Go.WideShapes Go.ChangeAt Go.RowKit
open Go.ChangeMaps (open_string shut_string)
set_option linter.unusedVariables false



theorem walkCardOrders (key : ByteArray) (number : Int) (l : List XOrder) (ao : Option Addr) (cap : Nat) (w : World) (h0 : key.size ≤ maxLen) (h1 : -9223372036854775808 ≤ number ∧ number ≤ 9223372036854775807) (hr : RowOrder w ao l) :
    Calls Try.prog 5 #[.string key, .int .i64 number, .slice ao l.length cap] w fun e w' => e = .returned (.bool true) ∧ Below w.heap.size w w' := by
  have N1 := hide (orders_any key number l ao cap w hr)
  have N2 := hide (fun w' (hb : Below w.heap.size w w') => rorders_any key number l ao cap w' (hr.below hb))
  generalize ordersV key number l = ov at *
  generalize ordersE key number l = oe at *
  clear hr h0 h1
  go_enter Try.func5, Try.ntmps5
  go_wp2_with fail
  refine (unhide N1).mono ?_
  rintro e x1 ⟨rfl, b1⟩
  go_wp2_with fail
  refine (unhide N2 _ b1).mono ?_
  rintro e x2 ⟨rfl, b2⟩
  have b3 := ext_call b1 b2
  clear b1 b2
  go_wp2
  go_ret
  exact ⟨ret_bool (by simp), b3⟩
theorem ownCardOrders : ownKnob Try.prog.godebug = none := by kernel_rfl
theorem laidOutCardOrders : laidOutB Try.prog = true := by kernel_rfl
set_option maxRecDepth 100000 in
theorem contractCardOrders (H : Type) (enc : TypeId × Value → H) (W : World) (base : Nat) (args : Array Value) (ds gs : List (DataW H)) (before : List MemPlace)
    (hval0 : ∀ (j : Nat) t v, Try.f5.params[j]? = some t → args[j]? = some v → Value.okWide Try.prog W .any base t v)
    (hW : DataW.Whole enc Try.prog Try.f5.params.toList Rows.cardOrdersSpec.vars false W args.toList ds gs before) :
    Calls Try.prog 5 args W fun e W' => ∃ v, e = .returned v ∧ Rows.cardOrdersSpec.post enc Try.prog Try.f5 false true false false W args v W' := by
  have hval : ∀ (j : Nat) t v, Try.f5.params[j]? = some t → args[j]? = some v → Value.okWide Try.prog W .any base t v := hval0
  have hW' := hW
  obtain ⟨p, q, hA0, hV, rfl, hfz, hnd⟩ := hW
  have hA : DataW.TrodAll enc Try.prog W 0 (fun _ => true) true Try.f5.params.toList args.toList ds p := hA0
  rw [Try.params5] at hA hval
  obtain ⟨v0, vs0, d0, ds0, p0, q0, hargs, rfl, rfl, h0, r0⟩ := trodAll_cons hA
  obtain ⟨v1, vs1, d1, ds1, p1, q1, rfl, rfl, rfl, h1, r1⟩ := trodAll_cons r0
  obtain ⟨v2, vs2, d2, ds2, p2, q2, rfl, rfl, rfl, h2, r2⟩ := trodAll_cons r1
  obtain ⟨rfl, rfl, rfl⟩ := trodAll_nil r2
  obtain rfl : args = #[v0, v1, v2] := by cases args; simp_all
  obtain ⟨rfl, rfl⟩ := trodVars_none hV
  clear hA0 hval0
  simp only [List.append_nil] at hW'
  have hlt0 : ∀ x ∈ p0, x.block < W.heap.size := fun x hx => by simpa using hW'.lt x (by simp [hx])
  have hargs0 : ∀ (W' : World), Below W.heap.size W W' → DataW.Trod enc Try.prog W' 0 (fun b => decide (b < W.heap.size)) true 9 v0 d0 p0 :=
    fun W' hn => Below.trod laidOutCardOrders (by kernel_rfl) (of_decide_eq_true (by kernel_rfl)) h0 hn hlt0
  have hlt1 : ∀ x ∈ p1, x.block < W.heap.size := fun x hx => by simpa using hW'.lt x (by simp [hx])
  have hargs1 : ∀ (W' : World), Below W.heap.size W W' → DataW.Trod enc Try.prog W' 0 (fun b => decide (b < W.heap.size)) true 3 v1 d1 p1 :=
    fun W' hn => Below.trod laidOutCardOrders (by kernel_rfl) (of_decide_eq_true (by kernel_rfl)) h1 hn hlt1
  have hlt2 : ∀ x ∈ p2, x.block < W.heap.size := fun x hx => by simpa using hW'.lt x (by simp [hx])
  have hargs2 : ∀ (W' : World), Below W.heap.size W W' → DataW.Trod enc Try.prog W' 0 (fun b => decide (b < W.heap.size)) true 42 v2 d2 p2 :=
    fun W' hn => Below.trod laidOutCardOrders (by kernel_rfl) (of_decide_eq_true (by kernel_rfl)) h2 hn hlt2
  obtain ⟨a0, rfl, hd0, _, w0⟩ := open_string Try.underlying9 (hval 0 9 v0 rfl rfl) h0
  obtain ⟨a1, rfl, hd1, _, w1⟩ := open_int Try.underlying3 (hval 1 3 v1 rfl rfl) h1
  obtain ⟨ao2, l2, cap2, rfl, hr2, hd2⟩ := openROrder (hval 2 42 v2 rfl rfl) h2
  refine (walkCardOrders a0 a1 l2 ao2 cap2 W w0 (bounds_i64 w1) hr2).mono fun e W' ⟨he, bel⟩ => ?_
  subst he
  exact ⟨_, rfl, _, _, _, [], _, [], hW', trodAll_mk1 (shut_bool Try.underlying4 _), (trodAll_cons_mk (hargs0 _ bel) (trodAll_cons_mk (hargs1 _ bel) (trodAll_cons_mk (hargs2 _ bel) trodAll_mk0))), rfl, bel.frame _, fun h => by cases h⟩

set_option maxRecDepth 100000 in
theorem liftedCardOrders (os : Os) (started : os.Started) (H : Type) (enc : TypeId × Value → H) :
    ReturnsInHanded {} Try.checked os 5 .any (Rows.cardOrdersSpec.pre6 enc Try.prog Try.f5 Rows.cardOrdersRow.domain false) (Rows.cardOrdersSpec.post enc Try.prog Try.f5 false true false false) := by
  refine returnsInHanded_of_change (C := Try.checked) ownCardOrders started (by kernel_rfl) Try.func5
    (ChangeSpec.witness6 (enc := enc) (C := Try.checked) false ⟨#[], #[.string ByteArray.empty, .int .i64 0, .slice none 0 0], []⟩ 8 (by kernel_rfl) (by kernel_rfl) (by kernel_rfl) (by kernel_rfl)) ?_
  intro W base args ds gs before hval hW hcnd _
  exact contractCardOrders H enc W base args ds gs before hval hW

theorem overCardOrders : Rows.cardOrdersRow.holds Try.pinned (OpenSpec.ofChange Rows.cardOrdersSpec) :=
  OpenClaim.holds_of_wide 5 Try.f5 rfl rfl rfl rfl rfl rfl rfl ⟨rfl, rfl, rfl, rfl, rfl⟩ rfl rfl rfl rfl rfl (by kernel_rfl) Try.func5 (by kernel_rfl)
    (of_decide_eq_true (by kernel_rfl)) (by unfold Func.isWrapper; first | (rw [if_pos (by decide +kernel)]; kernel_rfl) | (rw [if_neg (by decide +kernel)]; exact ⟨rfl, rfl⟩))
    (fun os started H enc _ => liftedCardOrders os started H enc)

/-- THE STATEMENT -/
theorem cardOrders_holds : Rows.CardOrdersSaid := overCardOrders
#print axioms cardOrders_holds
end Go.Proofs.Ytlnoilfnpgogbag
