/- For all ways, scenes, risks and lists of steps, together of bulk at most 1048576: the program leaves what it is handed as it was, and what it gave answers no more to what becomes of it. -/
import Derived.Test.YtadjbojlojnadaaRmD
import Derived.Test.YtadjbojlojnadaaShRB
import Derived.Test.YtadjbojlojnadaaRows
import Derived.WalkKit
import Derived.ProofKit
import Derived.OpenShut
import Derived.ShutString
import Derived.ChangeOld
import Derived.Below
namespace Go.Proofs.Ytadjbojlojnadaa
open Go.ChangeShapes Go.WideShapes Go.ChangeAt Go.RowKit
open Go.ChangeMaps (open_string shut_string)
set_option linter.unusedVariables false








theorem walkRestMemory (v : XWays) (s : XScene) (k : XRisk) (l : List XStep) (ao : Option Addr) (cap : Nat) (w : World)
    (hv : okWays w v) (hvb : bulkWays v ≤ 1048576) (hs : okScene w s) (hsb : bulkScene s ≤ 1048576) (hk : okRisk w k) (hkb : bulkRisk k ≤ 1048576) (hl : RowStep w ao l) (hlb : l.length ≤ 1048576) :
    Calls Try.prog 3 #[valWays v, valScene s, valRisk k, .slice ao l.length cap] w fun e w' => e = .returned (.bool true) ∧ Below w.heap.size w w' := by
  unfold bulkWays at hvb
  unfold bulkScene at hsb
  unfold bulkRisk at hkb
  exact walkRM v s k l ao cap w hv.2.2 hs.2.1 hs.2.2 hk.2.2.2.2.2.2 hl (by omega) (by omega) (by omega) (by omega) hlb

theorem ownRestMemory : ownKnob Try.prog.godebug = none := by kernel_rfl
theorem laidOutRestMemory : laidOutB Try.prog = true := by kernel_rfl
set_option maxRecDepth 100000 in
theorem contractRestMemory (H : Type) (enc : TypeId × Value → H) (W : World) (base : Nat) (args : Array Value) (ds gs : List (DataW H)) (before : List MemPlace)
    (hval0 : ∀ (j : Nat) t v, Try.f3.params[j]? = some t → args[j]? = some v → Value.okWide Try.prog W .any base t v)
    (hW : DataW.Whole enc Try.prog Try.f3.params.toList Rows.restMemorySpec.vars false W args.toList ds gs before) (hk : Rows.uptoSmall H (ds ++ gs) = true) :
    Calls Try.prog 3 args W fun e W' => ∃ v, e = .returned v ∧ Rows.restMemorySpec.post enc Try.prog Try.f3 false true false false W args v W' := by
  have hval : ∀ (j : Nat) t v, Try.f3.params[j]? = some t → args[j]? = some v → Value.okWide Try.prog W .any base t v := hval0
  have hW' := hW
  obtain ⟨p, q, hA0, hV, rfl, hfz, hnd⟩ := hW
  have hA : DataW.TrodAll enc Try.prog W 0 (fun _ => true) true Try.f3.params.toList args.toList ds p := hA0
  rw [Try.params3] at hA hval
  obtain ⟨v0, vs0, d0, ds0, p0, q0, hargs, rfl, rfl, h0, r0⟩ := trodAll_cons hA
  obtain ⟨v1, vs1, d1, ds1, p1, q1, rfl, rfl, rfl, h1, r1⟩ := trodAll_cons r0
  obtain ⟨v2, vs2, d2, ds2, p2, q2, rfl, rfl, rfl, h2, r2⟩ := trodAll_cons r1
  obtain ⟨v3, vs3, d3, ds3, p3, q3, rfl, rfl, rfl, h3, r3⟩ := trodAll_cons r2
  obtain ⟨rfl, rfl, rfl⟩ := trodAll_nil r3
  obtain rfl : args = #[v0, v1, v2, v3] := by cases args; simp_all
  obtain ⟨rfl, rfl⟩ := trodVars_none hV
  clear hA0 hval0
  simp only [List.append_nil] at hW' hk
  have hbulk : Rows.uptoBulk d0 + Rows.uptoBulk d1 + Rows.uptoBulk d2 + Rows.uptoBulk d3 ≤ 1048576 := by
    have h : Rows.uptoBulkAll _ ≤ 1048576 := of_decide_eq_true hk
    simp only [Rows.uptoBulkAll] at h
    omega
  have hlt0 : ∀ x ∈ p0, x.block < W.heap.size := fun x hx => by simpa using hW'.lt x (by simp [hx])
  have hargs0 : ∀ (W' : World), Below W.heap.size W W' → DataW.Trod enc Try.prog W' 0 (fun b => decide (b < W.heap.size)) true 24 v0 d0 p0 :=
    fun W' hn => Below.trod laidOutRestMemory (by kernel_rfl) (of_decide_eq_true (by kernel_rfl)) h0 hn hlt0
  have hlt1 : ∀ x ∈ p1, x.block < W.heap.size := fun x hx => by simpa using hW'.lt x (by simp [hx])
  have hargs1 : ∀ (W' : World), Below W.heap.size W W' → DataW.Trod enc Try.prog W' 0 (fun b => decide (b < W.heap.size)) true 27 v1 d1 p1 :=
    fun W' hn => Below.trod laidOutRestMemory (by kernel_rfl) (of_decide_eq_true (by kernel_rfl)) h1 hn hlt1
  have hlt2 : ∀ x ∈ p2, x.block < W.heap.size := fun x hx => by simpa using hW'.lt x (by simp [hx])
  have hargs2 : ∀ (W' : World), Below W.heap.size W W' → DataW.Trod enc Try.prog W' 0 (fun b => decide (b < W.heap.size)) true 30 v2 d2 p2 :=
    fun W' hn => Below.trod laidOutRestMemory (by kernel_rfl) (of_decide_eq_true (by kernel_rfl)) h2 hn hlt2
  have hlt3 : ∀ x ∈ p3, x.block < W.heap.size := fun x hx => by simpa using hW'.lt x (by simp [hx])
  have hargs3 : ∀ (W' : World), Below W.heap.size W W' → DataW.Trod enc Try.prog W' 0 (fun b => decide (b < W.heap.size)) true 31 v3 d3 p3 :=
    fun W' hn => Below.trod laidOutRestMemory (by kernel_rfl) (of_decide_eq_true (by kernel_rfl)) h3 hn hlt3
  obtain ⟨x0, rfl, hr0, hbb0⟩ := openbWays (hval 0 24 v0 rfl rfl) h0
  have hb0 : bulkWays x0 ≤ 1048576 := by omega
  obtain ⟨x1, rfl, hr1, hbb1⟩ := openbScene (hval 1 27 v1 rfl rfl) h1
  have hb1 : bulkScene x1 ≤ 1048576 := by omega
  obtain ⟨x2, rfl, hr2, hbb2⟩ := openbRisk (hval 2 30 v2 rfl rfl) h2
  have hb2 : bulkRisk x2 ≤ 1048576 := by omega
  obtain ⟨ao3, l3, cap3, rfl, hr3, hd3⟩ := openRStep (hval 3 31 v3 rfl rfl) h3
  have hb3 : l3.length ≤ 1048576 := by
    rcases hd3 with hd | ⟨es, ss, hd, hes⟩
    · rw [hd]; simp
    · rw [hd] at hbulk
      simp only [Rows.uptoBulk] at hbulk
      have := bulkAll_length (es := es)
      omega
  refine (walkRestMemory x0 x1 x2 l3 ao3 cap3 W hr0 hb0 hr1 hb1 hr2 hb2 hr3 hb3).mono fun e W' ⟨he, bel⟩ => ?_
  subst he
  exact ⟨_, rfl, _, _, _, [], _, [], hW', trodAll_mk1 (shut_bool Try.underlying4 _), (trodAll_cons_mk (hargs0 _ bel) (trodAll_cons_mk (hargs1 _ bel) (trodAll_cons_mk (hargs2 _ bel) (trodAll_cons_mk (hargs3 _ bel) trodAll_mk0)))), rfl, bel.frame _, fun h => by cases h⟩

set_option maxRecDepth 100000 in
theorem liftedRestMemory (os : Os) (started : os.Started) (H : Type) (enc : TypeId × Value → H) (F : Stop.Interp) :
    ReturnsInHanded {} Try.checked os 3 .any ((Rows.OpenSpec.upto Rows.restMemorySpec).pre6 enc Try.prog Try.f3 Rows.restMemoryUptoRow.domain false) (((Rows.OpenSpec.upto Rows.restMemorySpec).at F).post enc Try.prog Try.f3 false true false false) := by
  refine returnsInHanded_of_cond (C := Try.checked) (s := Rows.OpenSpec.upto Rows.restMemorySpec) (k := Rows.uptoSmall) rfl ownRestMemory started (by kernel_rfl) Try.func3
    (OpenSpec.witness (enc := enc) (C := Try.checked) (s := Rows.OpenSpec.upto Rows.restMemorySpec) (k := Rows.uptoSmall) rfl false ⟨#[], #[.agg #[.int .i64 0, .int .i64 0, .slice none 0 0], .agg #[.int .i64 0, .bool false, .slice none 0 0, .slice none 0 0], .agg #[.int .i64 0, .int .i64 0, .int .i64 0, .int .i64 0, .int .i64 0, .int .i64 0, .slice none 0 0], .slice none 0 0], []⟩ 8 (by kernel_rfl) (by kernel_rfl) (by kernel_rfl)
      (x := ([.agg [.lit (.int .i64 0), .lit (.int .i64 0), .nil], .agg [.lit (.int .i64 0), .lit (.bool false), .nil, .nil], .agg [.lit (.int .i64 0), .lit (.int .i64 0), .lit (.int .i64 0), .lit (.int .i64 0), .lit (.int .i64 0), .lit (.int .i64 0), .nil], .nil], [], [])) (by kernel_rfl) rfl (by kernel_rfl)) ?_
  intro W base args ds gs before hval hW _ hk _
  exact contractRestMemory H enc W base args ds gs before hval hW hk

/-- THE STATEMENT -/
theorem restMemory_upto : Rows.RestMemoryUptoSaid :=
  OpenClaim.holds_of_cond 3 Try.f3 rfl rfl rfl rfl rfl rfl rfl ⟨rfl, rfl, rfl, rfl, rfl⟩ rfl rfl rfl rfl rfl (by kernel_rfl) Try.func3 (by kernel_rfl)
    (of_decide_eq_true (by kernel_rfl)) (by unfold Func.isWrapper; first | (rw [if_pos (by decide +kernel)]; kernel_rfl) | (rw [if_neg (by decide +kernel)]; exact ⟨rfl, rfl⟩))
    (fun os started H enc _ F => liftedRestMemory os started H enc F)
#print axioms restMemory_upto
end Go.Proofs.Ytadjbojlojnadaa
