/- For all applications and all answers: Select of the program answers as the document's own does. No conditions. -/
import Derived.Test.YtklnbkfajjgkaafSel
import Derived.Test.YtklnbkfajjgkaafRows
import Derived.WalkKit
import Derived.ProofKit
import Derived.OpenShut
import Derived.ShutString
import Derived.ChangeOld
import Derived.Below
namespace Go.Proofs.Ytklnbkfajjgkaaf
open Go.ChangeShapes Go.WideShapes Go.ChangeAt Go.RowKit
open Go.ChangeMaps (open_string shut_string)
set_option linter.unusedVariables false


set_option maxHeartbeats 2000000 in
theorem walkPickSelects (l : List XApp) (ao : Option Addr) (cap : Nat) (ans : List Bool) (bo : Option Addr) (cap2 : Nat) (w : World) (hl : RowApp w ao l) (ha : Rowbool w bo ans) :
    Calls Try.prog 3 #[.slice ao l.length cap, .slice bo ans.length cap2] w fun e w' => e = .returned (.bool true) ∧ Below w.heap.size w w' := by
  have n1 := select_any l ao cap ans bo cap2 w hl ha
  have n2 := fun w' (hb : Below w.heap.size w w') => rselect_any l ao cap ans bo cap2 w' (hl.below hb) (ha.below hb)
  clear hl ha
  generalize selL ans l 0 = r at *
  obtain ⟨⟨nm, lb, pr, cf⟩, t, e⟩ := r
  unfold valApp at *
  simp only at *
  have N1 := hide n1; have N2 := hide n2
  clear n1 n2
  go_enter Try.func3, Try.ntmps3
  go_wp2_with fail
  refine (unhide N1).mono ?_
  rintro e1 x1 ⟨rfl, hb1⟩
  have N3 := hide (fun o => unhide N2 (x1.alloc o) (hb1.alloc hb1.size _))
  clear N1 N2
  go_wp2_with fail
  refine (unhide N3 _).mono ?_
  rintro e2 x2 ⟨rfl, hb2⟩
  have k0 : x2.cell? ⟨x1.heap.size, 0, none⟩ = some (.string nm) := (hb2.cell (by simp)).trans (by rw [World.cell?_alloc_at _ _ _ _ rfl]; rfl)
  have k1 : x2.cell? ⟨x1.heap.size, 1, none⟩ = some (.string lb) := (hb2.cell (by simp)).trans (by rw [World.cell?_alloc_at _ _ _ _ rfl]; rfl)
  have k2 : x2.cell? ⟨x1.heap.size, 2, none⟩ = some (.int .i64 pr) := (hb2.cell (by simp)).trans (by rw [World.cell?_alloc_at _ _ _ _ rfl]; rfl)
  have k3 : x2.cell? ⟨x1.heap.size, 3, none⟩ = some (.bool cf) := (hb2.cell (by simp)).trans (by rw [World.cell?_alloc_at _ _ _ _ rfl]; rfl)
  have hz : x1.heap.size < x2.heap.size := by have := hb2.size; simp at this; omega
  have HB2 := hide (hb1.trans ((((Below.refl _ _).alloc (Nat.le_refl _) _).trans (hb2.mono (by simp))).mono hb1.size))
  clear hb2 hb1
  go_wp2
  go_ret
  exact ⟨ret_bool (by simp), (unhide HB2).alloc (unhide HB2).size _⟩

theorem ownPickSelects : ownKnob Try.prog.godebug = none := by kernel_rfl
theorem laidOutPickSelects : laidOutB Try.prog = true := by kernel_rfl
set_option maxRecDepth 100000 in
theorem contractPickSelects (H : Type) (enc : TypeId × Value → H) (W : World) (base : Nat) (args : Array Value) (ds gs : List (DataW H)) (before : List MemPlace)
    (hval0 : ∀ (j : Nat) t v, Try.f3.params[j]? = some t → args[j]? = some v → Value.okWide Try.prog W .any base t v)
    (hW : DataW.Whole enc Try.prog Try.f3.params.toList Rows.pickSelectsSpec.vars false W args.toList ds gs before) :
    Calls Try.prog 3 args W fun e W' => ∃ v, e = .returned v ∧ Rows.pickSelectsSpec.post enc Try.prog Try.f3 false true false false W args v W' := by
  have hval : ∀ (j : Nat) t v, Try.f3.params[j]? = some t → args[j]? = some v → Value.okWide Try.prog W .any base t v := hval0
  have hW' := hW
  obtain ⟨p, q, hA0, hV, rfl, hfz, hnd⟩ := hW
  have hA : DataW.TrodAll enc Try.prog W 0 (fun _ => true) true Try.f3.params.toList args.toList ds p := hA0
  rw [Try.params3] at hA hval
  obtain ⟨v0, vs0, d0, ds0, p0, q0, hargs, rfl, rfl, h0, r0⟩ := trodAll_cons hA
  obtain ⟨v1, vs1, d1, ds1, p1, q1, rfl, rfl, rfl, h1, r1⟩ := trodAll_cons r0
  obtain ⟨rfl, rfl, rfl⟩ := trodAll_nil r1
  obtain rfl : args = #[v0, v1] := by cases args; simp_all
  obtain ⟨rfl, rfl⟩ := trodVars_none hV
  clear hA0 hval0
  simp only [List.append_nil] at hW'
  have hlt0 : ∀ x ∈ p0, x.block < W.heap.size := fun x hx => by simpa using hW'.lt x (by simp [hx])
  have hargs0 : ∀ (W' : World), Below W.heap.size W W' → DataW.Trod enc Try.prog W' 0 (fun b => decide (b < W.heap.size)) true 22 v0 d0 p0 :=
    fun W' hn => Below.trod laidOutPickSelects (by kernel_rfl) (of_decide_eq_true (by kernel_rfl)) h0 hn hlt0
  have hlt1 : ∀ x ∈ p1, x.block < W.heap.size := fun x hx => by simpa using hW'.lt x (by simp [hx])
  have hargs1 : ∀ (W' : World), Below W.heap.size W W' → DataW.Trod enc Try.prog W' 0 (fun b => decide (b < W.heap.size)) true 23 v1 d1 p1 :=
    fun W' hn => Below.trod laidOutPickSelects (by kernel_rfl) (of_decide_eq_true (by kernel_rfl)) h1 hn hlt1
  obtain ⟨ao0, l0, cap0, rfl, hr0, hd0⟩ := openRApp (hval 0 22 v0 rfl rfl) h0
  obtain ⟨ao1, l1, cap1, rfl, hr1, hd1⟩ := openRbool (hval 1 23 v1 rfl rfl) h1
  refine (walkPickSelects l0 ao0 cap0 l1 ao1 cap1 W hr0 hr1).mono fun e W' ⟨he, bel⟩ => ?_
  subst he
  exact ⟨_, rfl, _, _, _, [], _, [], hW', trodAll_mk1 (shut_bool Try.underlying4 _), (trodAll_cons_mk (hargs0 _ bel) (trodAll_cons_mk (hargs1 _ bel) trodAll_mk0)), rfl, bel.frame _, fun h => by cases h⟩

set_option maxRecDepth 100000 in
theorem liftedPickSelects (os : Os) (started : os.Started) (H : Type) (enc : TypeId × Value → H) :
    ReturnsInHanded {} Try.checked os 3 .any (Rows.pickSelectsSpec.pre6 enc Try.prog Try.f3 Rows.pickSelectsRow.domain false) (Rows.pickSelectsSpec.post enc Try.prog Try.f3 false true false false) := by
  refine returnsInHanded_of_change (C := Try.checked) ownPickSelects started (by kernel_rfl) Try.func3
    (ChangeSpec.witness6 (enc := enc) (C := Try.checked) false ⟨#[], #[.slice none 0 0, .slice none 0 0], []⟩ 8 (by kernel_rfl) (by kernel_rfl) (by kernel_rfl) (by kernel_rfl)) ?_
  intro W base args ds gs before hval hW hcnd _
  exact contractPickSelects H enc W base args ds gs before hval hW

theorem overPickSelects : Rows.pickSelectsRow.holds Try.pinned (OpenSpec.ofChange Rows.pickSelectsSpec) :=
  OpenClaim.holds_of_wide 3 Try.f3 rfl rfl rfl rfl rfl rfl rfl ⟨rfl, rfl, rfl, rfl, rfl⟩ rfl rfl rfl rfl rfl (by kernel_rfl) Try.func3 (by kernel_rfl)
    (of_decide_eq_true (by kernel_rfl)) (by unfold Func.isWrapper; first | (rw [if_pos (by decide +kernel)]; kernel_rfl) | (rw [if_neg (by decide +kernel)]; exact ⟨rfl, rfl⟩))
    (fun os started H enc _ => liftedPickSelects os started H enc)

/-- THE STATEMENT -/
theorem pickSelects_holds : Rows.PickSelectsSaid := overPickSelects
#print axioms pickSelects_holds
end Go.Proofs.Ytklnbkfajjgkaaf
