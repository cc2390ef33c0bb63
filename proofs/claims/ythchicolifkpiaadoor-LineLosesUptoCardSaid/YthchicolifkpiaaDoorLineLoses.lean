/- For every script (of bulk at most 1048576): over a line that loses, doubles and bends what goes over it, what comes out at each end is a beginning of what went in at the other; and behind that, over a line that does as it should, all of it. The table of the sum starts as the program's text lays it (tied). -/
import Derived.Test.YthchicolifkpiaaDoorRows
import Derived.Test.YthchicolifkpiaaDoorTie
import Derived.Test.YthchicolifkpiaaDoorSum
import Derived.WalkKit
import Derived.ProofKit
import Derived.OpenShut
import Derived.ShutString
import Derived.ChangeOld
import Derived.Below
import Derived.LaidMore
import Derived.Lib.LaidTab
import Derived.Lib.SmallJoins
import Derived.Stop.Joined
import Derived.SevenTiedAt
import Derived.Test.YthchicolifkpiaaDoorCards
import Derived.Test.YthchicolifkpiaaDoorLosL
import Derived.Deep.DeepHandedRow
namespace Go.Proofs.YthchicolifkpiaaDoor
open Go.ChangeShapes Go.WideShapes Go.ChangeAt Go.RowKit Go.Joins
open Go.ChangeMaps (open_string shut_string)
set_option linter.unusedVariables false

theorem ownLine : ownKnob Tryd.prog.godebug = none := by kernel_rfl
theorem laidOutLine : laidOutB Tryd.prog = true := by kernel_rfl
/-- the table's name, as the row has it -/
def nameSteps : String := Rows.lineLosesRow.named.headD default
theorem gSteps : Tryd.prog.globalNamed nameSteps = some 0 := by kernel_rfl
theorem tSteps : (Tryd.prog.globals[0]?).map (·.type) = some 81 := by kernel_rfl
theorem cellsU16 : Tryd.prog.cellsOf 72 = 1 := by kernel_rfl
theorem cellsTab : Tryd.prog.cellsOf 81 = 16 := by kernel_rfl
def laidLine : List (String × DataW Unit) := [(nameSteps, Rows.laid_pursehouse_line_steps)]

/-- what the condition gives the walks -/
theorem tab_of_laid {W : World} (h : laidMetH Tryd.prog laidLine W) : Tab W := by
  rw [MakeChecks.laidMetH_plain _ _ _ (by kernel_rfl)] at h
  have hT : Lib.TabIs Tryd.prog W nameSteps .u16 (stepsT.map (fun n : Nat => (n : Int))) :=
    Lib.tabIs_of_head gSteps tSteps Tryd.underlying81 Tryd.underlying72 cellsU16 cellsTab (rest := []) h
  intro i hi
  have := hT.cell gSteps i (by simpa [stepsT] using hi)
  rw [this]
  have e : ∀ j : Fin 16, (stepsT.map (fun n : Nat => (n : Int))).getD j.val 0 = ((stepsT.getD j.val 0 : Nat) : Int) := by decide
  rw [e ⟨i, hi⟩]
theorem tab_block {W : World} (h : Tab W) : 0 < W.heap.size := World.block_lt_of_cell? _ _ (h 0 (by decide))

end Go.Proofs.YthchicolifkpiaaDoor
namespace Go.Proofs.YthchicolifkpiaaDoor
open Go.ChangeShapes Go.WideShapes Go.ChangeAt Go.RowKit
open Go.ChangeMaps (open_string shut_string)
set_option linter.unusedVariables false

theorem bulk_pos {H : Type} (d : DataW H) : 1 ≤ Rows.uptoBulk d := by
  cases d with
  | lit x => cases x <;> simp [Rows.uptoBulk]
  | _ => simp [Rows.uptoBulk]
theorem bulkAll_lengthL {H : Type} {es : List (DataW H)} : es.length ≤ Rows.uptoBulkAll es := by
  induction es with
  | nil => simp
  | cons d r ih =>
    have := bulk_pos d
    simp only [Rows.uptoBulkAll, List.length_cons]
    omega

theorem tab_of_loses {W : World} (h : laidMetH Tryd.prog Rows.lineLosesUptoRow.laid W) : Tab W := tab_of_laid h

set_option maxRecDepth 100000 in
theorem contractLineLoses (H : Type) (enc : TypeId × Value → H) (W : World) (base : Nat) (args : Array Value) (ds gs : List (DataW H)) (before : List MemPlace)
    (hval0 : ∀ (j : Nat) t v, Tryd.f4.params[j]? = some t → args[j]? = some v → Value.okWide Tryd.prog W .any base t v)
    (hW : DataW.Whole enc Tryd.prog Tryd.f4.params.toList Rows.lineLosesSpec.vars false W args.toList ds gs before) (hk : Rows.uptoSmall H (ds ++ gs) = true) (hL : laidMetH Tryd.prog Rows.lineLosesUptoRow.laid W) :
    Calls Tryd.prog 4 args W fun e W' => ∃ v, e = .returned v ∧ Rows.lineLosesSpec.post enc Tryd.prog Tryd.f4 false true false false W args v W' := by
  have hval : ∀ (j : Nat) t v, Tryd.f4.params[j]? = some t → args[j]? = some v → Value.okWide Tryd.prog W .any base t v := hval0
  have hW' := hW
  obtain ⟨p, q, hA0, hV, rfl, hfz, hnd⟩ := hW
  have hA : DataW.TrodAll enc Tryd.prog W 0 (fun _ => true) true Tryd.f4.params.toList args.toList ds p := hA0
  rw [Tryd.params4] at hA hval
  obtain ⟨v0, vs0, d0, ds0, p0, q0, hargs, rfl, rfl, h0, r0⟩ := trodAll_cons hA
  obtain ⟨rfl, rfl, rfl⟩ := trodAll_nil r0
  obtain rfl : args = #[v0] := by cases args; simp_all
  obtain ⟨rfl, rfl⟩ := trodVars_none hV
  clear hA0 hval0
  simp only [List.append_nil] at hW' hk
  have hbulk : Rows.uptoBulk d0 ≤ 1048576 := by
    have h : Rows.uptoBulkAll _ ≤ 1048576 := of_decide_eq_true hk
    simp only [Rows.uptoBulkAll] at h
    omega
  have hlt0 : ∀ x ∈ p0, x.block < W.heap.size := fun x hx => by simpa using hW'.lt x (by simp [hx])
  have hargs0 : ∀ (W' : World), Below W.heap.size W W' → DataW.Trod enc Tryd.prog W' 0 (fun b => decide (b < W.heap.size)) true 42 v0 d0 p0 :=
    fun W' hn => Below.trod laidOutLine (by kernel_rfl) (of_decide_eq_true (by kernel_rfl)) h0 hn hlt0
  obtain ⟨ao0, l0, cap0, rfl, hr0, hd0⟩ := openRuint8 (hval 0 42 v0 rfl rfl) h0
  have hb0 : l0.length ≤ 1048576 := by
    rcases hd0 with hd | ⟨es, ss, hd, hes⟩
    · rw [hd]; simp
    · rw [hd] at hbulk
      simp only [Rows.uptoBulk] at hbulk
      have := bulkAll_lengthL (es := es)
      omega
  refine (walkLineLoses l0 ao0 cap0 W hr0 hb0 (tab_of_loses hL)).mono fun e W' ⟨he, bel⟩ => ?_
  subst he
  exact ⟨_, rfl, _, _, _, [], _, [], hW', trodAll_mk1 (shut_bool Tryd.underlying4 _), (trodAll_cons_mk (hargs0 _ bel) trodAll_mk0), rfl, bel.frame _, fun h => by cases h⟩

/-- a world for the witness: the table holds what its initialiser lays -/
noncomputable def laidWorldL (os : Os) : World :=
  { World.holding Tryd.prog os ⟨#[], #[], []⟩ with heap := (World.holding Tryd.prog os ⟨#[], #[], []⟩).heap.modify 0 fun
      | .cells _ t frozen => .cells #[.int .u16 0, .int .u16 4129, .int .u16 8258, .int .u16 12387, .int .u16 16516, .int .u16 20645, .int .u16 24774, .int .u16 28903, .int .u16 33032, .int .u16 37161, .int .u16 41290, .int .u16 45419, .int .u16 49548, .int .u16 53677, .int .u16 57806, .int .u16 61935] t frozen
      | o => o }
theorem laid_metL (os : Os) : laidMet Tryd.prog Rows.lineLosesUptoRow.laid ((laidWorldL os).forCall (fun _ _ => 0) ⟨#[], #[.slice none 0 0], []⟩).memory :=
  laidMet_of_run' 8 (by kernel_rfl) (by kernel_rfl)
theorem readsL2 (os : Os) {H : Type} (enc : TypeId × Value → H) : ∃ places, DataW.whole enc Tryd.prog ((laidWorldL os).forCall (fun _ _ => 0) ⟨#[], #[.slice none 0 0], []⟩).memory Tryd.f4.params.toList Rows.lineLosesSpec.vars false #[Value.slice none 0 0].toList 8 = some ([.nil], [], places) :=
  ⟨[], by kernel_rfl⟩

set_option maxRecDepth 100000 in
theorem liftedLineLoses (os : Os) (started : os.Started) (H : Type) (enc : TypeId × Value → H) (F : Stop.Interp) :
    ReturnsInHanded {} Tryd.checked os 4 .any ((Rows.OpenSpec.upto Rows.lineLosesSpec).preRow enc Tryd.prog Tryd.f4 Rows.lineLosesUptoRow.domain false Rows.lineLosesUptoRow.laid) (((Rows.OpenSpec.upto Rows.lineLosesSpec).at F).post enc Tryd.prog Tryd.f4 false true false false) := by
  obtain ⟨places, hx⟩ := readsL2 os enc
  refine returnsInHanded_of_row (C := Tryd.checked) (s := Rows.OpenSpec.upto Rows.lineLosesSpec) ownLine started (by kernel_rfl) Tryd.func4
    (witness_row_at (enc := enc) (C := Tryd.checked) false (laidWorldL os) #[.slice none 0 0] rfl (by kernel_rfl) (by kernel_rfl) (by kernel_rfl)
      (OpenSpec.preRow_of_cond 8 hx (by kernel_rfl) (fun k hk => by cases hk; kernel_rfl) (by kernel_rfl) (laid_metL os))) ?_
  intro W base args ds gs before hval hW _ hcond _ hL _ _
  exact contractLineLoses H enc W base args ds gs before hval hW (hcond _ rfl) hL
theorem overLineLoses : Rows.LineLosesUptoSaid :=
  OpenClaim.holds_of_cond 4 Tryd.f4 rfl rfl rfl rfl rfl rfl rfl ⟨rfl, rfl, rfl, rfl, rfl⟩ rfl rfl rfl rfl rfl (by kernel_rfl) Tryd.func4 (by kernel_rfl)
    (of_decide_eq_true (by kernel_rfl)) (by unfold Func.isWrapper; first | (rw [if_pos (by decide +kernel)]; kernel_rfl) | (rw [if_neg (by decide +kernel)]; exact ⟨rfl, rfl⟩))
    (fun os started H enc _ F => by rw [OpenClaim.pre_eq_preRow]; exact liftedLineLoses os started H enc F)

/-- THE STATEMENT: the second form's tied card -/
theorem lineLoses_upto : Rows.LineLosesUptoCardSaid :=
  Claim7.holds_tied_plain_at .later [] _ _ _ _ overLineLoses (fun _ h => by cases h) (by kernel_rfl) (fun _ h => by cases h) lineLosesUpto_row_tie rfl ⟨rfl, rfl⟩ (by kernel_rfl) rfl
    (fun f fn hf hfn => by
      obtain rfl : f = 4 := Option.some.inj ((show Tryd.prog.funcNamed Rows.lineLosesUptoRow.func = some 4 by kernel_rfl).symm.trans hf) |>.symm
      obtain rfl : fn = Tryd.f4 := (Option.some.inj (Tryd.func4.symm.trans hfn)).symm
      exact ⟨by kernel_rfl, fun j t ht => by
        rw [Tryd.params4] at ht
        have hm : t ∈ [42] := by simpa using Array.mem_of_getElem? ht
        have hall : ([42].all fun u => !Tryd.prog.wantsStandIn u) = true := by kernel_rfl
        exact (show Tryd.prog.wantsStandIn t = false by simpa using List.all_eq_true.1 hall t hm)⟩)
    (by kernel_rfl)
#print axioms lineLoses_upto
end Go.Proofs.YthchicolifkpiaaDoor
