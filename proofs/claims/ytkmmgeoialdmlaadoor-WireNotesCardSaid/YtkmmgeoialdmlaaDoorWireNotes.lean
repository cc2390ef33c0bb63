/- For every note and every bytes: the program writes and reads notes as the document's own do; what was written is read, and is written as it was. The listed tables start as the program's text lays them (tied). -/
import Derived.Test.YtkmmgeoialdmlaaDoorRows
import Derived.Test.YtkmmgeoialdmlaaDoorCards
import Derived.Test.YtkmmgeoialdmlaaDoorTie
import Derived.Test.YtkmmgeoialdmlaaDoorWireW
import Derived.Test.YtkmmgeoialdmlaaDoorWnJ
import Derived.Test.YtkmmgeoialdmlaaDoorShN
import Derived.WalkKit
import Derived.ProofKit
import Derived.OpenShut
import Derived.ShutString
import Derived.ChangeOld
import Derived.Below
import Derived.LaidMore
import Derived.Stop.Joined
import Derived.SevenTiedAt
import Derived.Deep.DeepHandedRow
import Derived.Lib.LaidU8
import Derived.Lib.SmallJoins
namespace Go.Proofs.YtkmmgeoialdmlaaDoor
open Go.ChangeShapes Go.WideShapes Go.ChangeAt Go.RowKit Go.Joins
open Go.ChangeMaps (open_string shut_string)
set_option linter.unusedVariables false
set_option maxRecDepth 100000

theorem envOfWireNotes {W : World} (h : laidMetH Tryd.prog Rows.wireNotesRow.laid W) : Env W ∧ 4 ≤ W.heap.size := by
  rw [MakeChecks.laidMetH_plain _ _ _ (by kernel_rfl)] at h
  have h3 := Lib.laidMet.reads (n := "internal/strconv.uint64pow10") (d := Rows.laid_internal_strconv_uint64pow10) h (by simp [Rows.wireNotesRow])
  have h1 := Lib.laidMet.reads (n := "strconv.ErrRange") (d := Rows.laid_strconv_ErrRange) h (by simp [Rows.wireNotesRow])
  have h2 := Lib.laidMet.reads (n := "strconv.ErrSyntax") (d := Rows.laid_strconv_ErrSyntax) h (by simp [Rows.wireNotesRow])
  have h0 := Lib.laidMet.reads (n := "pursehouse/wire.forms") (d := Rows.laid_pursehouse_wire_forms) h (by simp [Rows.wireNotesRow])
  rw [pow10_same] at h3
  rw [forms_same] at h0
  have hp := pow_of_reads h3
  refine ⟨⟨forms_of_reads h0, hp, ?_, ?_⟩, ?_⟩
  · exact err_of_reads (by kernel_rfl) (by kernel_rfl) h2
  · exact err_of_reads (by kernel_rfl) (by kernel_rfl) h1
  · obtain ⟨g, t, cs, fuel, p, hg, hty, hvar, hd⟩ := h3
    obtain rfl := Option.some.inj (gPow.symm.trans hg)
    have hc := World.var?_cell hg hvar 0
    have hcs := Lib.cells_of_tab Tryd.underlying138 Tryd.underlying111 cellsU64 cellsTab20 (by obtain rfl := Option.some.inj ((show (Tryd.prog.globals[3]?).map (·.type) = some 138 by kernel_rfl).symm.trans hty); exact hd)
    have : W.cell? ⟨3, 0, none⟩ = some (.int .u64 1) := by rw [hc, ← Array.getElem?_toList, hcs]; rfl
    have h4 : 3 < W.heap.size := World.block_lt_of_cell? _ _ this
    omega
/-- a note that is handed in, by its fields -/
def ntOf (n : XNote) : Nt := ⟨n.kind,
  fun f => if f = 2 then n.deal.amount else if f = 3 then (if n.deal.cash then 1 else 0) else if f = 4 then n.deal.day else if f = 5 then n.deal.shop else if f = 6 then n.deal.trace else if f = 7 then n.deal.bits else if f = 10 then n.count else if f = 12 then n.reply else if f = 13 then n.code else 0,
  fun f => if f = 1 then n.iD else if f = 8 then n.deal.nonce else if f = 9 then n.extra else if f = 11 then n.sealT else if f = 14 then n.answer else if f = 15 then n.orders else if f = 16 then n.digits else ⟨#[]⟩⟩
theorem ntOf_v (n : XNote) : noteV (ntOf n) = valNote n := by
  obtain ⟨k, c, r, co, i, e, s, an, o, d, ⟨sh, tr, am, ca, da, bi, no⟩⟩ := n
  cases ca <;> rfl
theorem ntOf_cashy (n : XNote) : Cashy (ntOf n) := by
  show (if n.deal.cash then (1 : Int) else 0) = 0 ∨ (if n.deal.cash then (1 : Int) else 0) = 1
  cases n.deal.cash
  · exact .inl rfl
  · exact .inr rfl
theorem ntOf_ok {W : World} {n : XNote} (h : okNote W n) : NtOk (ntOf n) := by
  obtain ⟨h1, h2, h3, h4, h5, h6, h7, h8, h9, h10, h11⟩ := h
  obtain ⟨d1, d2, d3, d4, d5, d6⟩ := h11
  have hm : maxLen = 9223372036854775807 := rfl
  rw [hm] at h5 h6 h7 h8 h9 h10 d6
  refine ⟨fun f => ?_, fun f => ?_⟩
  · simp only [ntOf]
    repeat' split
    all_goals first | assumption | omega
  · simp only [ntOf]
    repeat' split
    all_goals first | assumption | exact Nat.zero_le _
theorem walkWireNotes (n : XNote) (s : ByteArray) (W : World) (hn : okNote W n) (hs : s.size ≤ maxLen) (he : Env W ∧ 4 ≤ W.heap.size) :
    Calls Tryd.prog 4 #[valNote n, .string s] W fun e W' => e = .returned (.bool true) ∧ Below W.heap.size W W' := by
  have := walkNotes (ntOf n) (ntOf_ok hn) (ntOf_cashy n) s (by unfold maxLen at hs; omega) W he.1 he.2
  rw [ntOf_v] at this
  exact this


theorem ownWireNotes : ownKnob Tryd.prog.godebug = none := by kernel_rfl
theorem laidOutWireNotes : laidOutB Tryd.prog = true := by kernel_rfl
set_option maxRecDepth 100000 in
theorem contractWireNotes (H : Type) (enc : TypeId × Value → H) (W : World) (base : Nat) (args : Array Value) (ds gs : List (DataW H)) (before : List MemPlace)
    (hval0 : ∀ (j : Nat) t v, Tryd.f4.params[j]? = some t → args[j]? = some v → Value.okWide Tryd.prog W .any base t v)
    (hW : DataW.Whole enc Tryd.prog Tryd.f4.params.toList Rows.wireNotesSpec.vars false W args.toList ds gs before) (hL : laidMetH Tryd.prog Rows.wireNotesRow.laid W) :
    Calls Tryd.prog 4 args W fun e W' => ∃ v, e = .returned v ∧ Rows.wireNotesSpec.post enc Tryd.prog Tryd.f4 false true false false W args v W' := by
  have hval : ∀ (j : Nat) t v, Tryd.f4.params[j]? = some t → args[j]? = some v → Value.okWide Tryd.prog W .any base t v := hval0
  have hW' := hW
  obtain ⟨p, q, hA0, hV, rfl, hfz, hnd⟩ := hW
  have hA : DataW.TrodAll enc Tryd.prog W 0 (fun _ => true) true Tryd.f4.params.toList args.toList ds p := hA0
  rw [Tryd.params4] at hA hval
  obtain ⟨v0, vs0, d0, ds0, p0, q0, hargs, rfl, rfl, h0, r0⟩ := trodAll_cons hA
  obtain ⟨v1, vs1, d1, ds1, p1, q1, rfl, rfl, rfl, h1, r1⟩ := trodAll_cons r0
  obtain ⟨rfl, rfl, rfl⟩ := trodAll_nil r1
  obtain rfl : args = #[v0, v1] := by cases args; simp_all
  obtain ⟨rfl, rfl⟩ := trodVars_none hV
  clear hA0 hval0
  simp only [List.append_nil] at hW'
  have hlt0 : ∀ x ∈ p0, x.block < W.heap.size := fun x hx => by simpa using hW'.lt x (by simp [hx])
  have hargs0 : ∀ (W' : World), Below W.heap.size W W' → DataW.Trod enc Tryd.prog W' 0 (fun b => decide (b < W.heap.size)) true 35 v0 d0 p0 :=
    fun W' hn => Below.trod laidOutWireNotes (by kernel_rfl) (of_decide_eq_true (by kernel_rfl)) h0 hn hlt0
  have hlt1 : ∀ x ∈ p1, x.block < W.heap.size := fun x hx => by simpa using hW'.lt x (by simp [hx])
  have hargs1 : ∀ (W' : World), Below W.heap.size W W' → DataW.Trod enc Tryd.prog W' 0 (fun b => decide (b < W.heap.size)) true 9 v1 d1 p1 :=
    fun W' hn => Below.trod laidOutWireNotes (by kernel_rfl) (of_decide_eq_true (by kernel_rfl)) h1 hn hlt1
  obtain ⟨x0, rfl, hr0⟩ := openNote (hval 0 35 v0 rfl rfl) h0
  obtain ⟨a1, rfl, hd1, _, w1⟩ := open_string Tryd.underlying9 (hval 1 9 v1 rfl rfl) h1
  refine (walkWireNotes x0 a1 W hr0 w1 (envOfWireNotes hL)).mono fun e W' ⟨he, bel⟩ => ?_
  subst he
  exact ⟨_, rfl, _, _, _, [], _, [], hW', trodAll_mk1 (shut_bool Tryd.underlying4 _), (trodAll_cons_mk (hargs0 _ bel) (trodAll_cons_mk (hargs1 _ bel) trodAll_mk0)), rfl, bel.frame _, fun h => by cases h⟩

theorem metWireNotes (os : Os) (args : Array Value) : laidMetH Tryd.prog Rows.wireNotesRow.laid ((laidWorldOf os).forCall (fun _ _ => 0) ⟨#[], args, []⟩).memory :=
  laidMetH_of_parts3 (fuel := 8) (laidMet_of_run' 8 (by kernel_rfl) (by kernel_rfl)) (by kernel_rfl) (by kernel_rfl)
set_option maxRecDepth 100000 in
theorem liftedWireNotes (os : Os) (started : os.Started) (H : Type) (enc : TypeId × Value → H) :
    ReturnsInHanded {} Tryd.checked os 4 .any (fun w args => (Rows.wireNotesSpec.pre enc Tryd.prog Tryd.f4 [] false w args ∧ laidMetH Tryd.prog Rows.wireNotesRow.laid w) ∧ sizedMet enc Tryd.prog Tryd.f4 (OpenSpec.ofChange Rows.wireNotesSpec) false w args)
      (Rows.wireNotesSpec.post enc Tryd.prog Tryd.f4 false true false false) := by
  refine returnsInHanded_of_change_and (C := Tryd.checked) (X := fun w _ => laidMetH Tryd.prog Rows.wireNotesRow.laid w) (fun _ _ _ hh h => h.of_heap hh) ownWireNotes started (by kernel_rfl) Tryd.func4
    (ChangeSpec.witness_shaped (enc := enc) (C := Tryd.checked) (os := os) (X := fun w _ => laidMetH Tryd.prog Rows.wireNotesRow.laid w) false (laidWorldOf os) #[.agg #[.int .i64 0, .int .i64 0, .int .i64 0, .int .i64 0, .string ⟨#[]⟩, .string ⟨#[]⟩, .string ⟨#[]⟩, .string ⟨#[]⟩, .string ⟨#[]⟩, .string ⟨#[]⟩, .int .i64 0, .int .i64 0, .int .i64 0, .bool false, .int .i64 0, .int .i64 0, .string ⟨#[]⟩], .string ⟨#[]⟩] 8 rfl (World.shaped_of_RefB (by kernel_rfl) (by kernel_rfl)) (by kernel_rfl) (by kernel_rfl) (by kernel_rfl) (metWireNotes os _)) ?_
  intro W base args ds gs before hval hW _ _ hL _
  exact contractWireNotes H enc W base args ds gs before hval hW hL
theorem overWireNotes : Rows.WireNotesSaid :=
  OpenClaim.holds_of_wide 4 Tryd.f4 rfl rfl rfl rfl rfl rfl rfl ⟨rfl, rfl, rfl, rfl, rfl⟩ rfl rfl rfl rfl rfl (by kernel_rfl) Tryd.func4 (by kernel_rfl)
    (of_decide_eq_true (by kernel_rfl)) (by unfold Func.isWrapper; first | (rw [if_pos (by decide +kernel)]; kernel_rfl) | (rw [if_neg (by decide +kernel)]; exact ⟨rfl, rfl⟩))
    (fun os started H enc _ => liftedWireNotes os started H enc)

/-- THE STATEMENT: the tied card -/
theorem wireNotes_holds : Rows.WireNotesCardSaid :=
  Claim7.holds_tied_plain_at .later [] _ _ _ _ overWireNotes (fun _ h => by cases h) (by kernel_rfl) (fun _ h => by cases h) wireNotes_row_tie rfl ⟨rfl, rfl⟩ (by kernel_rfl) rfl
    (fun f fn hf hfn => by
      obtain rfl : f = 4 := Option.some.inj ((show Tryd.prog.funcNamed Rows.wireNotesRow.func = some 4 by kernel_rfl).symm.trans hf) |>.symm
      obtain rfl : fn = Tryd.f4 := (Option.some.inj (Tryd.func4.symm.trans hfn)).symm
      exact ⟨by kernel_rfl, fun j t ht => by
        rw [Tryd.params4] at ht
        have hm : t ∈ [35, 9] := by simpa using Array.mem_of_getElem? ht
        have hall : ([35, 9].all fun u => !Tryd.prog.wantsStandIn u) = true := by kernel_rfl
        exact (show Tryd.prog.wantsStandIn t = false by simpa using List.all_eq_true.1 hall t hm)⟩)
    (by kernel_rfl)
#print axioms wireNotes_holds
end Go.Proofs.YtkmmgeoialdmlaaDoor
