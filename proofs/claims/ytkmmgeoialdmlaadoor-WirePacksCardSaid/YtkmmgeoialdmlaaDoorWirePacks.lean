/- For every message and every bytes: the program packs and unpacks as the document's own do; what was packed is unpacked as it was. The listed tables start as the program's text lays them (tied). -/
import Derived.Test.YtkmmgeoialdmlaaDoorRows
import Derived.Test.YtkmmgeoialdmlaaDoorCards
import Derived.Test.YtkmmgeoialdmlaaDoorTie
import Derived.Test.YtkmmgeoialdmlaaDoorWireW
import Derived.Test.YtkmmgeoialdmlaaDoorWirePk
import Derived.WalkKit
import Derived.ProofKit
import Derived.OpenShut
import Derived.ShutString
import Derived.ChangeOld
import Derived.Below
import Derived.LaidMore
import Derived.Stop.Joined
import Derived.SevenTiedAt
import Derived.Deep.DeepHandedRow
import Derived.Lib.LaidU8
import Derived.Lib.SmallJoins
namespace Go.Proofs.YtkmmgeoialdmlaaDoor
open Go.ChangeShapes Go.WideShapes Go.ChangeAt Go.RowKit Go.Joins
open Go.ChangeMaps (open_string shut_string)
set_option linter.unusedVariables false
set_option maxRecDepth 100000

theorem envOfWirePacks {W : World} (h : laidMetH Tryd.prog Rows.wirePacksRow.laid W) : Env W ∧ 4 ≤ W.heap.size := by
  rw [MakeChecks.laidMetH_plain _ _ _ (by kernel_rfl)] at h
  have h3 := Lib.laidMet.reads (n := "internal/strconv.uint64pow10") (d := Rows.laid_internal_strconv_uint64pow10) h (by simp [Rows.wirePacksRow])
  have h1 := Lib.laidMet.reads (n := "strconv.ErrRange") (d := Rows.laid_strconv_ErrRange) h (by simp [Rows.wirePacksRow])
  have h2 := Lib.laidMet.reads (n := "strconv.ErrSyntax") (d := Rows.laid_strconv_ErrSyntax) h (by simp [Rows.wirePacksRow])
  have h0 := Lib.laidMet.reads (n := "pursehouse/wire.forms") (d := Rows.laid_pursehouse_wire_forms) h (by simp [Rows.wirePacksRow])
  rw [pow10_same] at h3
  rw [forms_same] at h0
  have hp := pow_of_reads h3
  refine ⟨⟨forms_of_reads h0, hp, ?_, ?_⟩, ?_⟩
  · exact err_of_reads (by kernel_rfl) (by kernel_rfl) h2
  · exact err_of_reads (by kernel_rfl) (by kernel_rfl) h1
  · obtain ⟨g, t, cs, fuel, p, hg, hty, hvar, hd⟩ := h3
    obtain rfl := Option.some.inj (gPow.symm.trans hg)
    have hc := World.var?_cell hg hvar 0
    have hcs := Lib.cells_of_tab Tryd.underlying138 Tryd.underlying111 cellsU64 cellsTab20 (by obtain rfl := Option.some.inj ((show (Tryd.prog.globals[3]?).map (·.type) = some 138 by kernel_rfl).symm.trans hty); exact hd)
    have : W.cell? ⟨3, 0, none⟩ = some (.int .u64 1) := by rw [hc, ← Array.getElem?_toList, hcs]; rfl
    have h4 : 3 < W.heap.size := World.block_lt_of_cell? _ _ this
    omega
theorem parts_row {W : World} {ao : Option Addr} {l : List XPart} (h : RowPart W ao l) : PRow W ao (l.map fun x => (x.n, x.text)) := by
  obtain ⟨h, _, _⟩ := h
  rcases h with h | ⟨b, off, e, hlt, hc⟩
  · exact .inl (by rw [h]; rfl)
  · refine .inr ⟨b, off, e, hlt, fun i p hi => ?_⟩
    rw [List.getElem?_map] at hi
    obtain ⟨x, hx, rfl⟩ := Option.map_eq_some_iff.1 hi
    exact hc i x hx
theorem walkWirePacks (m : XMessage) (s : ByteArray) (W : World) (hm : okMessage W m) (hs : s.size ≤ maxLen) (he : Env W ∧ 4 ≤ W.heap.size) :
    Calls Tryd.prog 3 #[valMessage m, .string s] W fun e W' => e = .returned (.bool true) ∧ Below W.heap.size W W' := by
  obtain ⟨hk, hr⟩ := hm
  have hl : m.parts.length = (m.parts.map fun x => (x.n, x.text)).length := by rw [List.length_map]
  have := walkPacks m.kind (m.parts.map fun x => (x.n, x.text)) m.partso m.partsc s W (parts_row hr) (by have := hr.2.2; rw [List.length_map]; unfold maxLen at this; omega) (fun p hp => by
    obtain ⟨x, hx, rfl⟩ := List.mem_map.1 hp
    exact hr.2.1 x hx) (by unfold maxLen at hs; omega) he.1 he.2
  rw [← hl] at this
  exact this


theorem ownWirePacks : ownKnob Tryd.prog.godebug = none := by kernel_rfl
theorem laidOutWirePacks : laidOutB Tryd.prog = true := by kernel_rfl
set_option maxRecDepth 100000 in
theorem contractWirePacks (H : Type) (enc : TypeId × Value → H) (W : World) (base : Nat) (args : Array Value) (ds gs : List (DataW H)) (before : List MemPlace)
    (hval0 : ∀ (j : Nat) t v, Tryd.f3.params[j]? = some t → args[j]? = some v → Value.okWide Tryd.prog W .any base t v)
    (hW : DataW.Whole enc Tryd.prog Tryd.f3.params.toList Rows.wirePacksSpec.vars false W args.toList ds gs before) (hL : laidMetH Tryd.prog Rows.wirePacksRow.laid W) :
    Calls Tryd.prog 3 args W fun e W' => ∃ v, e = .returned v ∧ Rows.wirePacksSpec.post enc Tryd.prog Tryd.f3 false true false false W args v W' := by
  have hval : ∀ (j : Nat) t v, Tryd.f3.params[j]? = some t → args[j]? = some v → Value.okWide Tryd.prog W .any base t v := hval0
  have hW' := hW
  obtain ⟨p, q, hA0, hV, rfl, hfz, hnd⟩ := hW
  have hA : DataW.TrodAll enc Tryd.prog W 0 (fun _ => true) true Tryd.f3.params.toList args.toList ds p := hA0
  rw [Tryd.params3] at hA hval
  obtain ⟨v0, vs0, d0, ds0, p0, q0, hargs, rfl, rfl, h0, r0⟩ := trodAll_cons hA
  obtain ⟨v1, vs1, d1, ds1, p1, q1, rfl, rfl, rfl, h1, r1⟩ := trodAll_cons r0
  obtain ⟨rfl, rfl, rfl⟩ := trodAll_nil r1
  obtain rfl : args = #[v0, v1] := by cases args; simp_all
  obtain ⟨rfl, rfl⟩ := trodVars_none hV
  clear hA0 hval0
  simp only [List.append_nil] at hW'
  have hlt0 : ∀ x ∈ p0, x.block < W.heap.size := fun x hx => by simpa using hW'.lt x (by simp [hx])
  have hargs0 : ∀ (W' : World), Below W.heap.size W W' → DataW.Trod enc Tryd.prog W' 0 (fun b => decide (b < W.heap.size)) true 24 v0 d0 p0 :=
    fun W' hn => Below.trod laidOutWirePacks (by kernel_rfl) (of_decide_eq_true (by kernel_rfl)) h0 hn hlt0
  have hlt1 : ∀ x ∈ p1, x.block < W.heap.size := fun x hx => by simpa using hW'.lt x (by simp [hx])
  have hargs1 : ∀ (W' : World), Below W.heap.size W W' → DataW.Trod enc Tryd.prog W' 0 (fun b => decide (b < W.heap.size)) true 9 v1 d1 p1 :=
    fun W' hn => Below.trod laidOutWirePacks (by kernel_rfl) (of_decide_eq_true (by kernel_rfl)) h1 hn hlt1
  obtain ⟨x0, rfl, hr0⟩ := openMessage (hval 0 24 v0 rfl rfl) h0
  obtain ⟨a1, rfl, hd1, _, w1⟩ := open_string Tryd.underlying9 (hval 1 9 v1 rfl rfl) h1
  refine (walkWirePacks x0 a1 W hr0 w1 (envOfWirePacks hL)).mono fun e W' ⟨he, bel⟩ => ?_
  subst he
  exact ⟨_, rfl, _, _, _, [], _, [], hW', trodAll_mk1 (shut_bool Tryd.underlying4 _), (trodAll_cons_mk (hargs0 _ bel) (trodAll_cons_mk (hargs1 _ bel) trodAll_mk0)), rfl, bel.frame _, fun h => by cases h⟩

theorem metWirePacks (os : Os) (args : Array Value) : laidMetH Tryd.prog Rows.wirePacksRow.laid ((laidWorldOf os).forCall (fun _ _ => 0) ⟨#[], args, []⟩).memory :=
  laidMetH_of_parts3 (fuel := 8) (laidMet_of_run' 8 (by kernel_rfl) (by kernel_rfl)) (by kernel_rfl) (by kernel_rfl)
set_option maxRecDepth 100000 in
theorem liftedWirePacks (os : Os) (started : os.Started) (H : Type) (enc : TypeId × Value → H) :
    ReturnsInHanded {} Tryd.checked os 3 .any (fun w args => (Rows.wirePacksSpec.pre enc Tryd.prog Tryd.f3 [] false w args ∧ laidMetH Tryd.prog Rows.wirePacksRow.laid w) ∧ sizedMet enc Tryd.prog Tryd.f3 (OpenSpec.ofChange Rows.wirePacksSpec) false w args)
      (Rows.wirePacksSpec.post enc Tryd.prog Tryd.f3 false true false false) := by
  refine returnsInHanded_of_change_and (C := Tryd.checked) (X := fun w _ => laidMetH Tryd.prog Rows.wirePacksRow.laid w) (fun _ _ _ hh h => h.of_heap hh) ownWirePacks started (by kernel_rfl) Tryd.func3
    (ChangeSpec.witness_shaped (enc := enc) (C := Tryd.checked) (os := os) (X := fun w _ => laidMetH Tryd.prog Rows.wirePacksRow.laid w) false (laidWorldOf os) #[.agg #[.int .i64 0, .slice none 0 0], .string ⟨#[]⟩] 8 rfl (World.shaped_of_RefB (by kernel_rfl) (by kernel_rfl)) (by kernel_rfl) (by kernel_rfl) (by kernel_rfl) (metWirePacks os _)) ?_
  intro W base args ds gs before hval hW _ _ hL _
  exact contractWirePacks H enc W base args ds gs before hval hW hL
theorem overWirePacks : Rows.WirePacksSaid :=
  OpenClaim.holds_of_wide 3 Tryd.f3 rfl rfl rfl rfl rfl rfl rfl ⟨rfl, rfl, rfl, rfl, rfl⟩ rfl rfl rfl rfl rfl (by kernel_rfl) Tryd.func3 (by kernel_rfl)
    (of_decide_eq_true (by kernel_rfl)) (by unfold Func.isWrapper; first | (rw [if_pos (by decide +kernel)]; kernel_rfl) | (rw [if_neg (by decide +kernel)]; exact ⟨rfl, rfl⟩))
    (fun os started H enc _ => liftedWirePacks os started H enc)

/-- THE STATEMENT: the tied card -/
theorem wirePacks_holds : Rows.WirePacksCardSaid :=
  Claim7.holds_tied_plain_at .later [] _ _ _ _ overWirePacks (fun _ h => by cases h) (by kernel_rfl) (fun _ h => by cases h) wirePacks_row_tie rfl ⟨rfl, rfl⟩ (by kernel_rfl) rfl
    (fun f fn hf hfn => by
      obtain rfl : f = 3 := Option.some.inj ((show Tryd.prog.funcNamed Rows.wirePacksRow.func = some 3 by kernel_rfl).symm.trans hf) |>.symm
      obtain rfl : fn = Tryd.f3 := (Option.some.inj (Tryd.func3.symm.trans hfn)).symm
      exact ⟨by kernel_rfl, fun j t ht => by
        rw [Tryd.params3] at ht
        have hm : t ∈ [24, 9] := by simpa using Array.mem_of_getElem? ht
        have hall : ([24, 9].all fun u => !Tryd.prog.wantsStandIn u) = true := by kernel_rfl
        exact (show Tryd.prog.wantsStandIn t = false by simpa using List.all_eq_true.1 hall t hm)⟩)
    (by kernel_rfl)
#print axioms wirePacks_holds
end Go.Proofs.YtkmmgeoialdmlaaDoor
