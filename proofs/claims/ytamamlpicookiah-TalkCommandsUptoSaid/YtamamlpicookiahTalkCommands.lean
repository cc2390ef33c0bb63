/- For all commands and every text, together of bulk at most 1048576: Command and ReadCommand of the program answer as the document's own do. -/
import Derived.Test.YtamamlpicookiahMZ
import Derived.Test.YtamamlpicookiahRows
import Derived.WalkKit
import Derived.ProofKit
import Derived.OpenShut
import Derived.ShutString
import Derived.ChangeOld
import Derived.Below
namespace Go.Proofs.Ytamamlpicookiah
open Go.ChangeShapes Go.WideShapes Go.ChangeAt Go.RowKit
open Go.ChangeMaps (open_string shut_string)
set_option linter.unusedVariables false




set_option maxRecDepth 100000 in
set_option maxHeartbeats 4000000 in
theorem walkTalkCommands (c : XCommand) (s : ByteArray) (w : World) (hok : okCommand w c) (hbk : bulkCommand c ≤ 1048576) (hs : s.size ≤ maxLen) (hs2 : s.size ≤ 1048576) :
    Calls Try.prog 3 #[valCommand c, .string s] w fun e w' => e = .returned (.bool true) ∧ Below w.heap.size w w' := by
  have n1 := fun w' (hb : Below w.heap.size w w') => command_any c w' (hok.below hb) hbk
  have n2 := fun w' => rcommand_all c w' hbk
  have n3 := fun w' => readCommand_any s w' hs
  have n4 := fun w' => rreadCommand_any s w' hs
  have hsame := readC_same s (comF_want s) (comG_bulk s).2
  have hl : readCL comG s = readCL comF s := by unfold readCL; rw [hsame]
  have he : readCE comG s = readCE comF s := by unfold readCE; rw [hsame]
  rw [hl, he] at n4
  generalize readCL comF s = x at *
  generalize readCE comF s = xe at *
  generalize commandS c = t at *
  generalize commandE c = te at *
  obtain ⟨dO, nm, dg, wn, ⟨sh, tr, am, ca, dy, bt, no⟩, ex, an, od⟩ := c
  obtain ⟨dO', nm', dg', wn', ⟨sh', tr', am', ca', dy', bt', no'⟩, ex', an', od'⟩ := x
  have hvc : valCommand ⟨dO, nm, dg, wn, ⟨sh, tr, am, ca, dy, bt, no⟩, ex, an, od⟩ = .agg #[.int .i64 dO, .string nm, .string dg, .int .i64 wn, .int .i64 sh, .int .i64 tr, .int .i64 am, .bool ca, .int .i64 dy, .int .i64 bt, .string no, .string ex, .string an, .string od] := rfl
  have hvx : valCommand ⟨dO', nm', dg', wn', ⟨sh', tr', am', ca', dy', bt', no'⟩, ex', an', od'⟩ = .agg #[.int .i64 dO', .string nm', .string dg', .int .i64 wn', .int .i64 sh', .int .i64 tr', .int .i64 am', .bool ca', .int .i64 dy', .int .i64 bt', .string no', .string ex', .string an', .string od'] := rfl
  rw [hvc] at n1 n2 ⊢
  rw [hvx] at n3 n4
  have t1 : (t.toList == t.toList) = true := by simp
  have t2 : (te == te) = true := by simp
  have t3 : (xe == xe) = true := by simp
  have HB0 := hide ((Below.refl w.heap.size w).alloc (Nat.le_refl _) (.cells #[.int .i64 dO, .string nm, .string dg, .int .i64 wn, .int .i64 sh, .int .i64 tr, .int .i64 am, .bool ca, .int .i64 dy, .int .i64 bt, .string no, .string ex, .string an, .string od] 25))
  have HK0 := hide (heap_alloc_new w (.cells #[.int .i64 dO, .string nm, .string dg, .int .i64 wn, .int .i64 sh, .int .i64 tr, .int .i64 am, .bool ca, .int .i64 dy, .int .i64 bt, .string no, .string ex, .string an, .string od] 25))
  have N1 := hide n1; have N2 := hide n2; have N3 := hide n3; have N4 := hide n4
  clear n1 n2 n3 n4 hvc hvx hl he hsame hok hbk hs hs2
  go_enter Try.func3, Try.ntmps3
  go_wp2_with fail
  refine (unhide N1 _ (unhide HB0)).mono ?_
  rintro e w1 ⟨rfl, hb1⟩
  have hk1 := (hb1.block _ (block_ltQ (unhide HK0))).trans (unhide HK0)
  have HB1 := hide (ext_callQ (unhide HB0) hb1)
  have y0 : w1.cell? ⟨w.heap.size, 0, none⟩ = some (.int .i64 dO) := cell_of_row _ _ 0 _ _ _ hk1
  have y1 : w1.cell? ⟨w.heap.size, 1, none⟩ = some (.string nm) := cell_of_row _ _ 1 _ _ _ hk1
  have y2 : w1.cell? ⟨w.heap.size, 2, none⟩ = some (.string dg) := cell_of_row _ _ 2 _ _ _ hk1
  have y3 : w1.cell? ⟨w.heap.size, 3, none⟩ = some (.int .i64 wn) := cell_of_row _ _ 3 _ _ _ hk1
  have y4 : w1.cell? ⟨w.heap.size, 4, none⟩ = some (.int .i64 sh) := cell_of_row _ _ 4 _ _ _ hk1
  have y5 : w1.cell? ⟨w.heap.size, 5, none⟩ = some (.int .i64 tr) := cell_of_row _ _ 5 _ _ _ hk1
  have y6 : w1.cell? ⟨w.heap.size, 6, none⟩ = some (.int .i64 am) := cell_of_row _ _ 6 _ _ _ hk1
  have y7 : w1.cell? ⟨w.heap.size, 7, none⟩ = some (.bool ca) := cell_of_row _ _ 7 _ _ _ hk1
  have y8 : w1.cell? ⟨w.heap.size, 8, none⟩ = some (.int .i64 dy) := cell_of_row _ _ 8 _ _ _ hk1
  have y9 : w1.cell? ⟨w.heap.size, 9, none⟩ = some (.int .i64 bt) := cell_of_row _ _ 9 _ _ _ hk1
  have y10 : w1.cell? ⟨w.heap.size, 10, none⟩ = some (.string no) := cell_of_row _ _ 10 _ _ _ hk1
  have y11 : w1.cell? ⟨w.heap.size, 11, none⟩ = some (.string ex) := cell_of_row _ _ 11 _ _ _ hk1
  have y12 : w1.cell? ⟨w.heap.size, 12, none⟩ = some (.string an) := cell_of_row _ _ 12 _ _ _ hk1
  have y13 : w1.cell? ⟨w.heap.size, 13, none⟩ = some (.string od) := cell_of_row _ _ 13 _ _ _ hk1
  clear hb1 hk1 HK0 HB0
  go_wp2_with fail
  refine (unhide N2 _).mono ?_
  rintro e w2 ⟨rfl, hb2⟩
  have HB2 := hide (ext_callQ (unhide HB1) hb2)
  clear hb2 HB1 y0 y1 y2 y3 y4 y5 y6 y7 y8 y9 y10 y11 y12 y13
  go_wp2_with fail
  refine (unhide N3 _).mono ?_
  rintro e w3 ⟨rfl, hb3⟩
  have HB3 := hide (ext_allocQ (ext_callQ (unhide HB2) hb3) (.cells #[.int .i64 dO', .string nm', .string dg', .int .i64 wn', .int .i64 sh', .int .i64 tr', .int .i64 am', .bool ca', .int .i64 dy', .int .i64 bt', .string no', .string ex', .string an', .string od'] 25))
  have HX3 := hide (heap_alloc_new w3 (.cells #[.int .i64 dO', .string nm', .string dg', .int .i64 wn', .int .i64 sh', .int .i64 tr', .int .i64 am', .bool ca', .int .i64 dy', .int .i64 bt', .string no', .string ex', .string an', .string od'] 25))
  clear hb3 HB2
  go_wp2_with fail
  refine (unhide N4 _).mono ?_
  rintro e w4 ⟨rfl, hb4⟩
  have hx4 := (hb4.block _ (block_ltQ (unhide HX3))).trans (unhide HX3)
  have hx5 := alloc_keepQT (o' := .cells #[.int .i64 dO', .string nm', .string dg', .int .i64 wn', .int .i64 sh', .int .i64 tr', .int .i64 am', .bool ca', .int .i64 dy', .int .i64 bt', .string no', .string ex', .string an', .string od'] 25) hx4
  obtain ⟨W, hW⟩ : ∃ W, W = w4.alloc (.cells #[.int .i64 dO', .string nm', .string dg', .int .i64 wn', .int .i64 sh', .int .i64 tr', .int .i64 am', .bool ca', .int .i64 dy', .int .i64 bt', .string no', .string ex', .string an', .string od'] 25) := ⟨_, rfl⟩
  have HB4 := hide (ext_allocQ (ext_callQ (unhide HB3) hb4) (.cells #[.int .i64 dO', .string nm', .string dg', .int .i64 wn', .int .i64 sh', .int .i64 tr', .int .i64 am', .bool ca', .int .i64 dy', .int .i64 bt', .string no', .string ex', .string an', .string od'] 25))
  have z0 := cell_of_row _ _ 0 _ _ _ hx5
  have z1 := cell_of_row _ _ 1 _ _ _ hx5
  have z2 := cell_of_row _ _ 2 _ _ _ hx5
  have z3 := cell_of_row _ _ 3 _ _ _ hx5
  have z4 := cell_of_row _ _ 4 _ _ _ hx5
  have z5 := cell_of_row _ _ 5 _ _ _ hx5
  have z6 := cell_of_row _ _ 6 _ _ _ hx5
  have z7 := cell_of_row _ _ 7 _ _ _ hx5
  have z8 := cell_of_row _ _ 8 _ _ _ hx5
  have z9 := cell_of_row _ _ 9 _ _ _ hx5
  have z10 := cell_of_row _ _ 10 _ _ _ hx5
  have z11 := cell_of_row _ _ 11 _ _ _ hx5
  have z12 := cell_of_row _ _ 12 _ _ _ hx5
  have z13 := cell_of_row _ _ 13 _ _ _ hx5
  clear hb4 hx4 hx5 HB3 HX3 hW
  go_wp2
  exact bodyPost_ret (v := .bool true) (by simp [results, Try.results3, go_sem]) rfl ⟨rfl, unhide HB4⟩

theorem ownTalkCommands : ownKnob Try.prog.godebug = none := by kernel_rfl
theorem laidOutTalkCommands : laidOutB Try.prog = true := by kernel_rfl
set_option maxRecDepth 100000 in
theorem contractTalkCommands (H : Type) (enc : TypeId × Value → H) (W : World) (base : Nat) (args : Array Value) (ds gs : List (DataW H)) (before : List MemPlace)
    (hval0 : ∀ (j : Nat) t v, Try.f3.params[j]? = some t → args[j]? = some v → Value.okWide Try.prog W .any base t v)
    (hW : DataW.Whole enc Try.prog Try.f3.params.toList Rows.talkCommandsSpec.vars false W args.toList ds gs before) (hk : Rows.uptoSmall H (ds ++ gs) = true) :
    Calls Try.prog 3 args W fun e W' => ∃ v, e = .returned v ∧ Rows.talkCommandsSpec.post enc Try.prog Try.f3 false true false false W args v W' := by
  have hval : ∀ (j : Nat) t v, Try.f3.params[j]? = some t → args[j]? = some v → Value.okWide Try.prog W .any base t v := hval0
  have hW' := hW
  obtain ⟨p, q, hA0, hV, rfl, hfz, hnd⟩ := hW
  have hA : DataW.TrodAll enc Try.prog W 0 (fun _ => true) true Try.f3.params.toList args.toList ds p := hA0
  rw [Try.params3] at hA hval
  obtain ⟨v0, vs0, d0, ds0, p0, q0, hargs, rfl, rfl, h0, r0⟩ := trodAll_cons hA
  obtain ⟨v1, vs1, d1, ds1, p1, q1, rfl, rfl, rfl, h1, r1⟩ := trodAll_cons r0
  obtain ⟨rfl, rfl, rfl⟩ := trodAll_nil r1
  obtain rfl : args = #[v0, v1] := by cases args; simp_all
  obtain ⟨rfl, rfl⟩ := trodVars_none hV
  clear hA0 hval0
  simp only [List.append_nil] at hW' hk
  have hbulk : Rows.uptoBulk d0 + Rows.uptoBulk d1 ≤ 1048576 := by
    have h : Rows.uptoBulkAll _ ≤ 1048576 := of_decide_eq_true hk
    simp only [Rows.uptoBulkAll] at h
    omega
  have hlt0 : ∀ x ∈ p0, x.block < W.heap.size := fun x hx => by simpa using hW'.lt x (by simp [hx])
  have hargs0 : ∀ (W' : World), Below W.heap.size W W' → DataW.Trod enc Try.prog W' 0 (fun b => decide (b < W.heap.size)) true 25 v0 d0 p0 :=
    fun W' hn => Below.trod laidOutTalkCommands (by kernel_rfl) (of_decide_eq_true (by kernel_rfl)) h0 hn hlt0
  have hlt1 : ∀ x ∈ p1, x.block < W.heap.size := fun x hx => by simpa using hW'.lt x (by simp [hx])
  have hargs1 : ∀ (W' : World), Below W.heap.size W W' → DataW.Trod enc Try.prog W' 0 (fun b => decide (b < W.heap.size)) true 9 v1 d1 p1 :=
    fun W' hn => Below.trod laidOutTalkCommands (by kernel_rfl) (of_decide_eq_true (by kernel_rfl)) h1 hn hlt1
  obtain ⟨x0, rfl, hr0, hbb0⟩ := openbCommand (hval 0 25 v0 rfl rfl) h0
  have hb0 : bulkCommand x0 ≤ 1048576 := by omega
  obtain ⟨a1, rfl, hd1, _, w1⟩ := open_string Try.underlying9 (hval 1 9 v1 rfl rfl) h1
  have hb1 : a1.size ≤ 1048576 := by
    have l1 : a1.data.toList.length = a1.size := by simp
    rw [hd1] at hbulk
    simp only [Rows.uptoBulk] at hbulk
    omega
  refine (walkTalkCommands x0 a1 W hr0 hb0 w1 hb1).mono fun e W' ⟨he, bel⟩ => ?_
  subst he
  exact ⟨_, rfl, _, _, _, [], _, [], hW', trodAll_mk1 (shut_bool Try.underlying4 _), (trodAll_cons_mk (hargs0 _ bel) (trodAll_cons_mk (hargs1 _ bel) trodAll_mk0)), rfl, bel.frame _, fun h => by cases h⟩

set_option maxRecDepth 100000 in
theorem liftedTalkCommands (os : Os) (started : os.Started) (H : Type) (enc : TypeId × Value → H) (F : Stop.Interp) :
    ReturnsInHanded {} Try.checked os 3 .any ((Rows.OpenSpec.upto Rows.talkCommandsSpec).pre6 enc Try.prog Try.f3 Rows.talkCommandsUptoRow.domain false) (((Rows.OpenSpec.upto Rows.talkCommandsSpec).at F).post enc Try.prog Try.f3 false true false false) := by
  refine returnsInHanded_of_cond (C := Try.checked) (s := Rows.OpenSpec.upto Rows.talkCommandsSpec) (k := Rows.uptoSmall) rfl ownTalkCommands started (by kernel_rfl) Try.func3
    (OpenSpec.witness (enc := enc) (C := Try.checked) (s := Rows.OpenSpec.upto Rows.talkCommandsSpec) (k := Rows.uptoSmall) rfl false ⟨#[], #[.agg #[.int .i64 0, .string ByteArray.empty, .string ByteArray.empty, .int .i64 0, .int .i64 0, .int .i64 0, .int .i64 0, .bool false, .int .i64 0, .int .i64 0, .string ByteArray.empty, .string ByteArray.empty, .string ByteArray.empty, .string ByteArray.empty], .string ByteArray.empty], []⟩ 8 (by kernel_rfl) (by kernel_rfl) (by kernel_rfl)
      (x := ([.agg [.lit (.int .i64 0), .lit (.string []), .lit (.string []), .lit (.int .i64 0), .agg [.lit (.int .i64 0), .lit (.int .i64 0), .lit (.int .i64 0), .lit (.bool false), .lit (.int .i64 0), .lit (.int .i64 0), .lit (.string [])], .lit (.string []), .lit (.string []), .lit (.string [])], .lit (.string [])], [], [])) (by kernel_rfl) rfl (by kernel_rfl)) ?_
  intro W base args ds gs before hval hW _ hk _
  exact contractTalkCommands H enc W base args ds gs before hval hW hk

/-- THE STATEMENT -/
theorem talkCommands_upto : Rows.TalkCommandsUptoSaid :=
  OpenClaim.holds_of_cond 3 Try.f3 rfl rfl rfl rfl rfl rfl rfl ⟨rfl, rfl, rfl, rfl, rfl⟩ rfl rfl rfl rfl rfl (by kernel_rfl) Try.func3 (by kernel_rfl)
    (of_decide_eq_true (by kernel_rfl)) (by unfold Func.isWrapper; first | (rw [if_pos (by decide +kernel)]; kernel_rfl) | (rw [if_neg (by decide +kernel)]; exact ⟨rfl, rfl⟩))
    (fun os started H enc _ F => liftedTalkCommands os started H enc F)
#print axioms talkCommands_upto
end Go.Proofs.Ytamamlpicookiah
