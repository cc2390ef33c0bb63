/- Commands read, by the program: commandOf, ReadCommand. -/
import Derived.Test.YtfpglpefofcdeaaGreatDoorM18
namespace Go.Proofs.YtfpglpefofcdeaaGreatDoor
open Go.RowKit
set_option linter.unusedVariables false

/-- the command of items, as the program reads it -/
def comP (D : List It) : XCommand := ⟨readV (gotT 128 8 D), gotT 129 8 D, gotT 130 8 D, readV (gotT 131 8 D), dealP (gotT 132 8 D), gotT 133 8 D, gotT 134 8 D, gotT 135 8 D⟩
theorem readV_bound (s : ByteArray) : 0 ≤ readV s ∧ readV s ≤ 9223372036854775807 := by
  unfold readV
  split
  · omega
  · split <;> omega
theorem wideQ {x : Int} (h : 0 ≤ x ∧ x ≤ 9223372036854775807) : -9223372036854775808 ≤ x ∧ x ≤ 9223372036854775807 := ⟨by omega, h.2⟩
theorem dealP_ok (s : ByteArray) (W : World) (hs : s.size ≤ 65535) : okDeal W (dealP s) ∧ bulkDeal (dealP s) ≤ 65535 := by
  unfold dealP
  split
  · have h1 := readV_bound (s.extract 0 4); have h2 := readV_bound (s.extract 4 8); have h3 := readV_bound (s.extract 8 16); have h4 := readV_bound (s.extract 17 19); have h5 := readV_bound (s.extract 19 21)
    have h6 : (s.extract 21 s.size).size ≤ 65535 := by rw [ByteArray.size_extract]; omega
    unfold okDeal bulkDeal
    dsimp only
    generalize readV (s.extract 0 4) = v1 at *
    generalize readV (s.extract 4 8) = v2 at *
    generalize readV (s.extract 8 16) = v3 at *
    generalize readV (s.extract 17 19) = v4 at *
    generalize readV (s.extract 19 21) = v5 at *
    exact ⟨⟨wideQ h1, wideQ h2, wideQ h3, wideQ h4, wideQ h5, by unfold maxLen; omega⟩, h6⟩
  · exact ⟨⟨⟨by decide, by decide⟩, ⟨by decide, by decide⟩, ⟨by decide, by decide⟩, ⟨by decide, by decide⟩, ⟨by decide, by decide⟩, Nat.zero_le _⟩, Nat.zero_le _⟩
theorem comP_ok (D : List It) (W : World) (hw : wt 8 D ≤ 65535) : okCommand W (comP D) ∧ bulkCommand (comP D) ≤ 0x100000 := by
  have g1 := got_size 129 8 D; have g2 := got_size 130 8 D; have g3 := got_size 132 8 D; have g4 := got_size 133 8 D; have g5 := got_size 134 8 D; have g6 := got_size 135 8 D
  have r1 := readV_bound (gotT 128 8 D); have r2 := readV_bound (gotT 131 8 D)
  obtain ⟨d1, d2⟩ := dealP_ok (gotT 132 8 D) W (by omega)
  refine ⟨⟨⟨?_, r1.2⟩, ?_, ?_, ⟨?_, r2.2⟩, d1, ?_, ?_, ?_⟩, ?_⟩
  · show -9223372036854775808 ≤ readV (gotT 128 8 D); omega
  · show (gotT 129 8 D).size ≤ maxLen; unfold maxLen; omega
  · show (gotT 130 8 D).size ≤ maxLen; unfold maxLen; omega
  · show -9223372036854775808 ≤ readV (gotT 131 8 D); omega
  · show (gotT 133 8 D).size ≤ maxLen; unfold maxLen; omega
  · show (gotT 134 8 D).size ≤ maxLen; unfold maxLen; omega
  · show (gotT 135 8 D).size ≤ maxLen; unfold maxLen; omega
  · show (gotT 129 8 D).size + (gotT 130 8 D).size + bulkDeal (dealP (gotT 132 8 D)) + (gotT 133 8 D).size + (gotT 134 8 D).size + (gotT 135 8 D).size ≤ 0x100000
    omega
set_option maxRecDepth 100000 in
set_option maxHeartbeats 4000000 in
theorem commandOf_any (D : List It) (ao : Option Addr) (cap : Nat) (w : World) (hr : IRow w 8 ao D) (hw : wt 8 D ≤ 65535) :
    Calls Tryz.prog 50 #[.slice ao D.length cap] w fun e w' => e = .returned (valCommand (comP D)) ∧ Below w.heap.size w w' := by
  have hv : valCommand (comP D) = .agg #[.int .i64 (readV (gotT 128 8 D)), .string (gotT 129 8 D), .string (gotT 130 8 D), .int .i64 (readV (gotT 131 8 D)), .int .i64 (dealP (gotT 132 8 D)).shop, .int .i64 (dealP (gotT 132 8 D)).trace, .int .i64 (dealP (gotT 132 8 D)).amount, .bool (dealP (gotT 132 8 D)).cash, .int .i64 (dealP (gotT 132 8 D)).day, .int .i64 (dealP (gotT 132 8 D)).bits, .string (dealP (gotT 132 8 D)).nonce, .string (gotT 133 8 D), .string (gotT 134 8 D), .string (gotT 135 8 D)] := rfl
  rw [hv]
  have n1 := fun w' (hb : Below w.heap.size w w') => hnumber_any 128 8 D ao cap w' (IRow.below hb 8 hr) (by omega)
  have n2 := fun w' (hb : Below w.heap.size w w') => htext_any 129 8 D ao cap w' (IRow.below hb 8 hr) (by omega)
  have n3 := fun w' (hb : Below w.heap.size w w') => htext_any 130 8 D ao cap w' (IRow.below hb 8 hr) (by omega)
  have n4 := fun w' (hb : Below w.heap.size w w') => hnumber_any 131 8 D ao cap w' (IRow.below hb 8 hr) (by omega)
  have n5 := fun w' (hb : Below w.heap.size w w') => htext_any 132 8 D ao cap w' (IRow.below hb 8 hr) (by omega)
  have g3 := got_size 132 8 D
  have n6 := fun w' => dealOf_any (gotT 132 8 D) w' (by unfold maxLen; omega)
  have n7 := fun w' (hb : Below w.heap.size w w') => htext_any 133 8 D ao cap w' (IRow.below hb 8 hr) (by omega)
  have n8 := fun w' (hb : Below w.heap.size w w') => htext_any 134 8 D ao cap w' (IRow.below hb 8 hr) (by omega)
  have n9 := fun w' (hb : Below w.heap.size w w') => htext_any 135 8 D ao cap w' (IRow.below hb 8 hr) (by omega)
  have hvd : valDeal (dealP (gotT 132 8 D)) = .agg #[.int .i64 (dealP (gotT 132 8 D)).shop, .int .i64 (dealP (gotT 132 8 D)).trace, .int .i64 (dealP (gotT 132 8 D)).amount, .bool (dealP (gotT 132 8 D)).cash, .int .i64 (dealP (gotT 132 8 D)).day, .int .i64 (dealP (gotT 132 8 D)).bits, .string (dealP (gotT 132 8 D)).nonce] := rfl
  rw [hvd] at n6
  generalize dealP (gotT 132 8 D) = dl at *
  obtain ⟨sh, tr, am, ca, dy, bt, no⟩ := dl
  simp only at n6 ⊢
  generalize readV (gotT 128 8 D) = dO at *
  generalize gotT 129 8 D = nm at *
  generalize gotT 130 8 D = dg at *
  generalize readV (gotT 131 8 D) = wn at *
  generalize gotT 132 8 D = dt at *
  generalize gotT 133 8 D = ex at *
  generalize gotT 134 8 D = an at *
  generalize gotT 135 8 D = od at *
  generalize D.length = ll at *
  have HB0 := hide ((Below.refl w.heap.size w).alloc (Nat.le_refl _) (.cells #[.int .i64 0, .string ⟨#[]⟩, .string ⟨#[]⟩, .int .i64 0, .int .i64 0, .int .i64 0, .int .i64 0, .bool false, .int .i64 0, .int .i64 0, .string ⟨#[]⟩, .string ⟨#[]⟩, .string ⟨#[]⟩, .string ⟨#[]⟩] 48))
  have HK0 := hide (heap_alloc_new w (.cells #[.int .i64 0, .string ⟨#[]⟩, .string ⟨#[]⟩, .int .i64 0, .int .i64 0, .int .i64 0, .int .i64 0, .bool false, .int .i64 0, .int .i64 0, .string ⟨#[]⟩, .string ⟨#[]⟩, .string ⟨#[]⟩, .string ⟨#[]⟩] 48))
  have N1 := hide n1; have N2 := hide n2; have N3 := hide n3; have N4 := hide n4; have N5 := hide n5; have N6 := hide n6; have N7 := hide n7; have N8 := hide n8; have N9 := hide n9
  clear n1 n2 n3 n4 n5 n6 n7 n8 n9 hv hvd hr hw g3
  go_enter Tryz.func50, Tryz.ntmps50
  go_wp2_with fail
  refine (unhide N1 _ (unhide HB0)).mono ?_
  rintro e w1 ⟨rfl, hb1⟩
  have HK1 := hide ((hb1.block _ (block_ltQ (unhide HK0))).trans (unhide HK0))
  have HB1 := hide ((unhide HB0).trans (hb1.mono (unhide HB0).size))
  clear hb1 HK0 HB0 N1
  go_wp2_with fail
  refine (unhide N2 _ (unhide HB1)).mono ?_
  rintro e w2 ⟨rfl, hb2⟩
  have HK2 := hide ((hb2.block _ (block_ltQ (unhide HK1))).trans (unhide HK1))
  have HB2 := hide ((unhide HB1).trans (hb2.mono (unhide HB1).size))
  clear hb2 HK1 HB1 N2
  go_wp2_with fail
  refine (unhide N3 _ (unhide HB2)).mono ?_
  rintro e w3 ⟨rfl, hb3⟩
  have HK3 := hide ((hb3.block _ (block_ltQ (unhide HK2))).trans (unhide HK2))
  have HB3 := hide ((unhide HB2).trans (hb3.mono (unhide HB2).size))
  clear hb3 HK2 HB2 N3
  go_wp2_with fail
  refine (unhide N4 _ (unhide HB3)).mono ?_
  rintro e w4 ⟨rfl, hb4⟩
  have HK4 := hide ((hb4.block _ (block_ltQ (unhide HK3))).trans (unhide HK3))
  have HB4 := hide ((unhide HB3).trans (hb4.mono (unhide HB3).size))
  clear hb4 HK3 HB3 N4
  go_wp2_with fail
  refine (unhide N5 _ (unhide HB4)).mono ?_
  rintro e w5 ⟨rfl, hb5⟩
  have HK5 := hide ((hb5.block _ (block_ltQ (unhide HK4))).trans (unhide HK4))
  have HB5 := hide ((unhide HB4).trans (hb5.mono (unhide HB4).size))
  clear hb5 HK4 HB4 N5
  go_wp2_with fail
  refine (unhide N6 _).mono ?_
  rintro e w6 ⟨rfl, hb6⟩
  have HK6 := hide ((hb6.block _ (block_ltQ (unhide HK5))).trans (unhide HK5))
  have HB6 := hide ((unhide HB5).trans (hb6.mono (unhide HB5).size))
  clear hb6 HK5 HB5 N6
  go_wp2_with fail
  refine (unhide N7 _ (unhide HB6)).mono ?_
  rintro e w7 ⟨rfl, hb7⟩
  have HK7 := hide ((hb7.block _ (block_ltQ (unhide HK6))).trans (unhide HK6))
  have HB7 := hide ((unhide HB6).trans (hb7.mono (unhide HB6).size))
  clear hb7 HK6 HB6 N7
  go_wp2_with fail
  refine (unhide N8 _ (unhide HB7)).mono ?_
  rintro e w8 ⟨rfl, hb8⟩
  have HK8 := hide ((hb8.block _ (block_ltQ (unhide HK7))).trans (unhide HK7))
  have HB8 := hide ((unhide HB7).trans (hb8.mono (unhide HB7).size))
  clear hb8 HK7 HB7 N8
  go_wp2_with fail
  refine (unhide N9 _ (unhide HB8)).mono ?_
  rintro e w9 ⟨rfl, hb9⟩
  have HK9 := hide ((hb9.block _ (block_ltQ (unhide HK8))).trans (unhide HK8))
  have HB9 := hide ((unhide HB8).trans (hb9.mono (unhide HB8).size))
  clear hb9 HK8 HB8 N9
  have y0 : w9.cell? ⟨w.heap.size, 0, none⟩ = some (.int .i64 0) := cell_of_row _ _ 0 _ _ _ (unhide HK9)
  have y1 : w9.cell? ⟨w.heap.size, 1, none⟩ = some (.string ⟨#[]⟩) := cell_of_row _ _ 1 _ _ _ (unhide HK9)
  have y2 : w9.cell? ⟨w.heap.size, 2, none⟩ = some (.string ⟨#[]⟩) := cell_of_row _ _ 2 _ _ _ (unhide HK9)
  have y3 : w9.cell? ⟨w.heap.size, 3, none⟩ = some (.int .i64 0) := cell_of_row _ _ 3 _ _ _ (unhide HK9)
  have y4 : w9.cell? ⟨w.heap.size, 4, none⟩ = some (.int .i64 0) := cell_of_row _ _ 4 _ _ _ (unhide HK9)
  have y5 : w9.cell? ⟨w.heap.size, 5, none⟩ = some (.int .i64 0) := cell_of_row _ _ 5 _ _ _ (unhide HK9)
  have y6 : w9.cell? ⟨w.heap.size, 6, none⟩ = some (.int .i64 0) := cell_of_row _ _ 6 _ _ _ (unhide HK9)
  have y7 : w9.cell? ⟨w.heap.size, 7, none⟩ = some (.bool false) := cell_of_row _ _ 7 _ _ _ (unhide HK9)
  have y8 : w9.cell? ⟨w.heap.size, 8, none⟩ = some (.int .i64 0) := cell_of_row _ _ 8 _ _ _ (unhide HK9)
  have y9 : w9.cell? ⟨w.heap.size, 9, none⟩ = some (.int .i64 0) := cell_of_row _ _ 9 _ _ _ (unhide HK9)
  have y10 : w9.cell? ⟨w.heap.size, 10, none⟩ = some (.string ⟨#[]⟩) := cell_of_row _ _ 10 _ _ _ (unhide HK9)
  have y11 : w9.cell? ⟨w.heap.size, 11, none⟩ = some (.string ⟨#[]⟩) := cell_of_row _ _ 11 _ _ _ (unhide HK9)
  have y12 : w9.cell? ⟨w.heap.size, 12, none⟩ = some (.string ⟨#[]⟩) := cell_of_row _ _ 12 _ _ _ (unhide HK9)
  have y13 : w9.cell? ⟨w.heap.size, 13, none⟩ = some (.string ⟨#[]⟩) := cell_of_row _ _ 13 _ _ _ (unhide HK9)
  have yf : ∀ o, w9.frozen? ⟨w.heap.size, o, none⟩ = false := fun o => frozen_of_row _ _ o _ _ (unhide HK9)
  go_wp2
  refine bodyPost_ret (v := .agg #[.int .i64 dO, .string nm, .string dg, .int .i64 wn, .int .i64 sh, .int .i64 tr, .int .i64 am, .bool ca, .int .i64 dy, .int .i64 bt, .string no, .string ex, .string an, .string od]) (by simp [results, Tryz.results50, go_sem, y0, y1, y2, y3, y4, y5, y6, y7, y8, y9, y10, y11, y12, y13]) rfl ?_
  refine ⟨rfl, ?_⟩
  exact ((((((((((((((unhide HB9).setCell (Nat.le_refl _) _).setCell (Nat.le_refl _) _).setCell (Nat.le_refl _) _).setCell (Nat.le_refl _) _).setCell (Nat.le_refl _) _).setCell (Nat.le_refl _) _).setCell (Nat.le_refl _) _).setCell (Nat.le_refl _) _).setCell (Nat.le_refl _) _).setCell (Nat.le_refl _) _).setCell (Nat.le_refl _) _).setCell (Nat.le_refl _) _).setCell (Nat.le_refl _) _).setCell (Nat.le_refl _) _

def zeroC : XCommand := ⟨0, ⟨#[]⟩, ⟨#[]⟩, 0, zeroD, ⟨#[]⟩, ⟨#[]⟩, ⟨#[]⟩⟩
/-- the command that is read, where f makes one of a text -/
def readC (f : ByteArray → XCommand) (s : ByteArray) : Option XCommand := if commandE (f s) = 0 ∧ commandS (f s) = s then some (f s) else none
/-- as the program does it -/
def comF (s : ByteArray) : XCommand := if parsesE s = 0 then comP (parsesL s) else zeroC
def readCL (f : ByteArray → XCommand) (s : ByteArray) : XCommand := (readC f s).getD zeroC
def readCE (f : ByteArray → XCommand) (s : ByteArray) : Int := if (readC f s).isSome then 0 else 1
theorem zeroC_no : commandE zeroC = 4 := by decide +kernel
theorem ret_cmdQ {a b : Value} {x y : Int} (h1 : a = b) (h2 : x = y) : Ending.returned (.tuple #[a, .int .i64 x]) = .returned (.tuple #[b, .int .i64 y]) := by rw [h1, h2]
set_option maxRecDepth 100000 in
set_option maxHeartbeats 4000000 in
theorem readCommand_any (s : ByteArray) (w : World) (hs : s.size ≤ maxLen) :
    Calls Tryz.prog 13 #[.string s] w fun e w' => e = .returned (.tuple #[valCommand (readCL comF s), .int .i64 (readCE comF s)]) ∧ Below w.heap.size w w' := by
  have hz : valCommand zeroC = .agg #[.int .i64 0, .string ⟨#[]⟩, .string ⟨#[]⟩, .int .i64 0, .int .i64 0, .int .i64 0, .int .i64 0, .bool false, .int .i64 0, .int .i64 0, .string ⟨#[]⟩, .string ⟨#[]⟩, .string ⟨#[]⟩, .string ⟨#[]⟩] := rfl
  have n1 := fun w => parse_any s w hs
  have HB0 := hide ((Below.refl w.heap.size w).alloc (Nat.le_refl _) (.cells #[.int .i64 0, .string ⟨#[]⟩, .string ⟨#[]⟩, .int .i64 0, .int .i64 0, .int .i64 0, .int .i64 0, .bool false, .int .i64 0, .int .i64 0, .string ⟨#[]⟩, .string ⟨#[]⟩, .string ⟨#[]⟩, .string ⟨#[]⟩] 48))
  have HK0 := hide (heap_alloc_new w (.cells #[.int .i64 0, .string ⟨#[]⟩, .string ⟨#[]⟩, .int .i64 0, .int .i64 0, .int .i64 0, .int .i64 0, .bool false, .int .i64 0, .int .i64 0, .string ⟨#[]⟩, .string ⟨#[]⟩, .string ⟨#[]⟩, .string ⟨#[]⟩] 48))
  by_cases he : parsesE s = 0
  case neg =>
    have hf : comF s = zeroC := by unfold comF; rw [if_neg he]
    have hN : readC comF s = none := by unfold readC; rw [hf, zeroC_no, if_neg (by simp)]
    have h1 : valCommand (readCL comF s) = .agg #[.int .i64 0, .string ⟨#[]⟩, .string ⟨#[]⟩, .int .i64 0, .int .i64 0, .int .i64 0, .int .i64 0, .bool false, .int .i64 0, .int .i64 0, .string ⟨#[]⟩, .string ⟨#[]⟩, .string ⟨#[]⟩, .string ⟨#[]⟩] := by unfold readCL; rw [hN]; exact hz
    have h2 : readCE comF s = 1 := by unfold readCE; rw [hN]; rfl
    rw [h1, h2]
    have t1 : (parsesE s != 0) = true := by simpa using he
    generalize parsesE s = pe at *
    generalize parsesL s = pl at *
    have N1 := hide n1
    clear n1 he h1 h2 hf hN hz hs
    go_enter Tryz.func13, Tryz.ntmps13
    go_wp2_with fail
    refine (unhide N1 _).mono ?_
    rintro e w1 ⟨ao, cap, rfl, _, _, hb1⟩
    have HK1 := hide ((hb1.block _ (block_ltQ (unhide HK0))).trans (unhide HK0))
    have HB1 := hide ((unhide HB0).trans (hb1.mono (unhide HB0).size))
    clear hb1 HK0 HB0 N1
    have y0 : w1.cell? ⟨w.heap.size, 0, none⟩ = some (.int .i64 0) := cell_of_row _ _ 0 _ _ _ (unhide HK1)
    have y1 : w1.cell? ⟨w.heap.size, 1, none⟩ = some (.string ⟨#[]⟩) := cell_of_row _ _ 1 _ _ _ (unhide HK1)
    have y2 : w1.cell? ⟨w.heap.size, 2, none⟩ = some (.string ⟨#[]⟩) := cell_of_row _ _ 2 _ _ _ (unhide HK1)
    have y3 : w1.cell? ⟨w.heap.size, 3, none⟩ = some (.int .i64 0) := cell_of_row _ _ 3 _ _ _ (unhide HK1)
    have y4 : w1.cell? ⟨w.heap.size, 4, none⟩ = some (.int .i64 0) := cell_of_row _ _ 4 _ _ _ (unhide HK1)
    have y5 : w1.cell? ⟨w.heap.size, 5, none⟩ = some (.int .i64 0) := cell_of_row _ _ 5 _ _ _ (unhide HK1)
    have y6 : w1.cell? ⟨w.heap.size, 6, none⟩ = some (.int .i64 0) := cell_of_row _ _ 6 _ _ _ (unhide HK1)
    have y7 : w1.cell? ⟨w.heap.size, 7, none⟩ = some (.bool false) := cell_of_row _ _ 7 _ _ _ (unhide HK1)
    have y8 : w1.cell? ⟨w.heap.size, 8, none⟩ = some (.int .i64 0) := cell_of_row _ _ 8 _ _ _ (unhide HK1)
    have y9 : w1.cell? ⟨w.heap.size, 9, none⟩ = some (.int .i64 0) := cell_of_row _ _ 9 _ _ _ (unhide HK1)
    have y10 : w1.cell? ⟨w.heap.size, 10, none⟩ = some (.string ⟨#[]⟩) := cell_of_row _ _ 10 _ _ _ (unhide HK1)
    have y11 : w1.cell? ⟨w.heap.size, 11, none⟩ = some (.string ⟨#[]⟩) := cell_of_row _ _ 11 _ _ _ (unhide HK1)
    have y12 : w1.cell? ⟨w.heap.size, 12, none⟩ = some (.string ⟨#[]⟩) := cell_of_row _ _ 12 _ _ _ (unhide HK1)
    have y13 : w1.cell? ⟨w.heap.size, 13, none⟩ = some (.string ⟨#[]⟩) := cell_of_row _ _ 13 _ _ _ (unhide HK1)
    have yf : ∀ o, w1.frozen? ⟨w.heap.size, o, none⟩ = false := fun o => frozen_of_row _ _ o _ _ (unhide HK1)
    go_wp2
    refine bodyPost_ret (v := .tuple #[.agg #[.int .i64 0, .string ⟨#[]⟩, .string ⟨#[]⟩, .int .i64 0, .int .i64 0, .int .i64 0, .int .i64 0, .bool false, .int .i64 0, .int .i64 0, .string ⟨#[]⟩, .string ⟨#[]⟩, .string ⟨#[]⟩, .string ⟨#[]⟩], .int .i64 1]) (by simp [results, Tryz.results13, go_sem, y0, y1, y2, y3, y4, y5, y6, y7, y8, y9, y10, y11, y12, y13]) rfl ?_
    exact ⟨rfl, ((((((((((((((unhide HB1).setCell (Nat.le_refl _) _).setCell (Nat.le_refl _) _).setCell (Nat.le_refl _) _).setCell (Nat.le_refl _) _).setCell (Nat.le_refl _) _).setCell (Nat.le_refl _) _).setCell (Nat.le_refl _) _).setCell (Nat.le_refl _) _).setCell (Nat.le_refl _) _).setCell (Nat.le_refl _) _).setCell (Nat.le_refl _) _).setCell (Nat.le_refl _) _).setCell (Nat.le_refl _) _).setCell (Nat.le_refl _) _⟩
  have hf : comF s = comP (parsesL s) := by unfold comF; rw [if_pos he]
  have hwt := parses_wt s
  have HRD : Hid (readC comF s = if commandE (comP (parsesL s)) = 0 ∧ commandS (comP (parsesL s)) = s then some (comP (parsesL s)) else none) := hide (by unfold readC; rw [hf])
  have n2 := fun ao cap w hr => commandOf_any (parsesL s) ao cap w hr hwt
  obtain ⟨hok, hbk⟩ := comP_ok (parsesL s) w hwt
  have n3 := fun w' hok' => command_any (comP (parsesL s)) w' hok' hbk
  have n3' := fun w' => n3 w' (comP_ok (parsesL s) w' hwt).1
  rw [he] at n1
  have HRL : Hid (readCL comF s = (readC comF s).getD zeroC) := hide rfl
  have HRE : Hid (readCE comF s = if (readC comF s).isSome then 0 else 1) := hide rfl
  generalize readCL comF s = RL at *
  generalize readCE comF s = RE at *
  generalize readC comF s = RC at *
  generalize comP (parsesL s) = c at *
  generalize commandE c = ce at *
  generalize commandS c = cs at *
  clear n3 hok hbk hf hwt
  generalize parsesL s = D at *
  obtain ⟨dO, nm, dg, wn, ⟨sh, tr, am, ca, dy, bt, no⟩, ex, an, od⟩ := c
  have hvc : valCommand ⟨dO, nm, dg, wn, ⟨sh, tr, am, ca, dy, bt, no⟩, ex, an, od⟩ = .agg #[.int .i64 dO, .string nm, .string dg, .int .i64 wn, .int .i64 sh, .int .i64 tr, .int .i64 am, .bool ca, .int .i64 dy, .int .i64 bt, .string no, .string ex, .string an, .string od] := rfl
  rw [hvc] at n2 n3'
  have HVC := hide hvc
  have N1 := hide n1; have N2 := hide n2; have N3 := hide n3'
  have HZ := hide hz
  clear n1 n2 n3' hvc hz he hs
  go_enter Tryz.func13, Tryz.ntmps13
  go_wp2_with fail
  refine (unhide N1 _).mono ?_
  rintro e w1 ⟨ao, cap, rfl, _, hrow, hb1⟩
  have HK1 := hide ((hb1.block _ (block_ltQ (unhide HK0))).trans (unhide HK0))
  have HB1 := hide ((unhide HB0).trans (hb1.mono (unhide HB0).size))
  have HROW := hide (IRowA.row 8 hrow)
  clear hb1 HK0 HB0 N1 hrow
  go_wp2_with fail
  refine (unhide N2 _ _ _ (unhide HROW)).mono ?_
  rintro e w2 ⟨rfl, hb2⟩
  have HK2 := hide (alloc_keepQT (o' := .cells #[.int .i64 dO, .string nm, .string dg, .int .i64 wn, .int .i64 sh, .int .i64 tr, .int .i64 am, .bool ca, .int .i64 dy, .int .i64 bt, .string no, .string ex, .string an, .string od] 48) ((hb2.block _ (block_ltQ (unhide HK1))).trans (unhide HK1)))
  have HB2 := hide (((unhide HB1).trans (hb2.mono (unhide HB1).size)).alloc ((unhide HB1).trans (hb2.mono (unhide HB1).size)).size (.cells #[.int .i64 dO, .string nm, .string dg, .int .i64 wn, .int .i64 sh, .int .i64 tr, .int .i64 am, .bool ca, .int .i64 dy, .int .i64 bt, .string no, .string ex, .string an, .string od] 48))
  have HC2 := hide (heap_alloc_new w2 (.cells #[.int .i64 dO, .string nm, .string dg, .int .i64 wn, .int .i64 sh, .int .i64 tr, .int .i64 am, .bool ca, .int .i64 dy, .int .i64 bt, .string no, .string ex, .string an, .string od] 48))
  have hl2 : w.heap.size < w2.heap.size := block_ltQ ((hb2.block _ (block_ltQ (unhide HK1))).trans (unhide HK1))
  clear hb2 HK1 HB1 N2 HROW
  go_wp2_with fail
  refine (unhide N3 _).mono ?_
  rintro e w3 ⟨rfl, hb3⟩
  have HK3 := hide ((hb3.block _ (block_ltQ (unhide HK2))).trans (unhide HK2))
  have HC3 := hide ((hb3.block _ (block_ltQ (unhide HC2))).trans (unhide HC2))
  have HB3 := hide ((unhide HB2).trans (hb3.mono (unhide HB2).size))
  clear hb3 HK2 HB2 HC2 N3
  have y0 : w3.cell? ⟨w.heap.size, 0, none⟩ = some (.int .i64 0) := cell_of_row _ _ 0 _ _ _ (unhide HK3)
  have y1 : w3.cell? ⟨w.heap.size, 1, none⟩ = some (.string ⟨#[]⟩) := cell_of_row _ _ 1 _ _ _ (unhide HK3)
  have y2 : w3.cell? ⟨w.heap.size, 2, none⟩ = some (.string ⟨#[]⟩) := cell_of_row _ _ 2 _ _ _ (unhide HK3)
  have y3 : w3.cell? ⟨w.heap.size, 3, none⟩ = some (.int .i64 0) := cell_of_row _ _ 3 _ _ _ (unhide HK3)
  have y4 : w3.cell? ⟨w.heap.size, 4, none⟩ = some (.int .i64 0) := cell_of_row _ _ 4 _ _ _ (unhide HK3)
  have y5 : w3.cell? ⟨w.heap.size, 5, none⟩ = some (.int .i64 0) := cell_of_row _ _ 5 _ _ _ (unhide HK3)
  have y6 : w3.cell? ⟨w.heap.size, 6, none⟩ = some (.int .i64 0) := cell_of_row _ _ 6 _ _ _ (unhide HK3)
  have y7 : w3.cell? ⟨w.heap.size, 7, none⟩ = some (.bool false) := cell_of_row _ _ 7 _ _ _ (unhide HK3)
  have y8 : w3.cell? ⟨w.heap.size, 8, none⟩ = some (.int .i64 0) := cell_of_row _ _ 8 _ _ _ (unhide HK3)
  have y9 : w3.cell? ⟨w.heap.size, 9, none⟩ = some (.int .i64 0) := cell_of_row _ _ 9 _ _ _ (unhide HK3)
  have y10 : w3.cell? ⟨w.heap.size, 10, none⟩ = some (.string ⟨#[]⟩) := cell_of_row _ _ 10 _ _ _ (unhide HK3)
  have y11 : w3.cell? ⟨w.heap.size, 11, none⟩ = some (.string ⟨#[]⟩) := cell_of_row _ _ 11 _ _ _ (unhide HK3)
  have y12 : w3.cell? ⟨w.heap.size, 12, none⟩ = some (.string ⟨#[]⟩) := cell_of_row _ _ 12 _ _ _ (unhide HK3)
  have y13 : w3.cell? ⟨w.heap.size, 13, none⟩ = some (.string ⟨#[]⟩) := cell_of_row _ _ 13 _ _ _ (unhide HK3)
  have yf : ∀ o, w3.frozen? ⟨w.heap.size, o, none⟩ = false := fun o => frozen_of_row _ _ o _ _ (unhide HK3)
  by_cases hce : ce = 0
  case neg =>
    have t1 : (ce != 0) = true := by simpa using hce
    have h1 : RC = none := by rw [unhide HRD, if_neg (fun h => hce h.1)]
    have h2 : valCommand RL = .agg #[.int .i64 0, .string ⟨#[]⟩, .string ⟨#[]⟩, .int .i64 0, .int .i64 0, .int .i64 0, .int .i64 0, .bool false, .int .i64 0, .int .i64 0, .string ⟨#[]⟩, .string ⟨#[]⟩, .string ⟨#[]⟩, .string ⟨#[]⟩] := by rw [unhide HRL, h1]; exact unhide HZ
    have h3 : RE = 1 := by rw [unhide HRE, h1]; rfl
    have H2 := hide h2; have H3 := hide h3
    clear h1 h2 h3 hce
    go_wp2
    refine bodyPost_ret (v := .tuple #[.agg #[.int .i64 0, .string ⟨#[]⟩, .string ⟨#[]⟩, .int .i64 0, .int .i64 0, .int .i64 0, .int .i64 0, .bool false, .int .i64 0, .int .i64 0, .string ⟨#[]⟩, .string ⟨#[]⟩, .string ⟨#[]⟩, .string ⟨#[]⟩], .int .i64 1]) (by simp [results, Tryz.results13, go_sem, y0, y1, y2, y3, y4, y5, y6, y7, y8, y9, y10, y11, y12, y13]) rfl ?_
    exact ⟨ret_cmdQ (unhide H2).symm (unhide H3).symm, ((((((((((((((unhide HB3).setCell (Nat.le_refl _) _).setCell (Nat.le_refl _) _).setCell (Nat.le_refl _) _).setCell (Nat.le_refl _) _).setCell (Nat.le_refl _) _).setCell (Nat.le_refl _) _).setCell (Nat.le_refl _) _).setCell (Nat.le_refl _) _).setCell (Nat.le_refl _) _).setCell (Nat.le_refl _) _).setCell (Nat.le_refl _) _).setCell (Nat.le_refl _) _).setCell (Nat.le_refl _) _).setCell (Nat.le_refl _) _⟩
  subst hce
  by_cases hse : cs = s
  case neg =>
    have t2 : (cs.toList == s.toList) = false := toList_neQ hse
    have h1 : RC = none := by rw [unhide HRD, if_neg (fun h => hse h.2)]
    have h2 : valCommand RL = .agg #[.int .i64 0, .string ⟨#[]⟩, .string ⟨#[]⟩, .int .i64 0, .int .i64 0, .int .i64 0, .int .i64 0, .bool false, .int .i64 0, .int .i64 0, .string ⟨#[]⟩, .string ⟨#[]⟩, .string ⟨#[]⟩, .string ⟨#[]⟩] := by rw [unhide HRL, h1]; exact unhide HZ
    have h3 : RE = 1 := by rw [unhide HRE, h1]; rfl
    have H2 := hide h2; have H3 := hide h3
    clear h1 h2 h3 hse
    go_wp2
    refine bodyPost_ret (v := .tuple #[.agg #[.int .i64 0, .string ⟨#[]⟩, .string ⟨#[]⟩, .int .i64 0, .int .i64 0, .int .i64 0, .int .i64 0, .bool false, .int .i64 0, .int .i64 0, .string ⟨#[]⟩, .string ⟨#[]⟩, .string ⟨#[]⟩, .string ⟨#[]⟩], .int .i64 1]) (by simp [results, Tryz.results13, go_sem, y0, y1, y2, y3, y4, y5, y6, y7, y8, y9, y10, y11, y12, y13]) rfl ?_
    exact ⟨ret_cmdQ (unhide H2).symm (unhide H3).symm, ((((((((((((((unhide HB3).setCell (Nat.le_refl _) _).setCell (Nat.le_refl _) _).setCell (Nat.le_refl _) _).setCell (Nat.le_refl _) _).setCell (Nat.le_refl _) _).setCell (Nat.le_refl _) _).setCell (Nat.le_refl _) _).setCell (Nat.le_refl _) _).setCell (Nat.le_refl _) _).setCell (Nat.le_refl _) _).setCell (Nat.le_refl _) _).setCell (Nat.le_refl _) _).setCell (Nat.le_refl _) _).setCell (Nat.le_refl _) _⟩
  subst hse
  have t2 : (cs.toList == cs.toList) = true := by simp
  have h1 : RC = some ⟨dO, nm, dg, wn, ⟨sh, tr, am, ca, dy, bt, no⟩, ex, an, od⟩ := by rw [unhide HRD, if_pos ⟨rfl, rfl⟩]
  have h2 : valCommand RL = .agg #[.int .i64 dO, .string nm, .string dg, .int .i64 wn, .int .i64 sh, .int .i64 tr, .int .i64 am, .bool ca, .int .i64 dy, .int .i64 bt, .string no, .string ex, .string an, .string od] := by rw [unhide HRL, h1]; exact unhide HVC
  have h3 : RE = 0 := by rw [unhide HRE, h1]; rfl
  have H2 := hide h2; have H3 := hide h3
  clear h1 h2 h3
  have x0 : w3.cell? ⟨w2.heap.size, 0, none⟩ = some (.int .i64 dO) := cell_of_row _ _ 0 _ _ _ (unhide HC3)
  have x1 : w3.cell? ⟨w2.heap.size, 1, none⟩ = some (.string nm) := cell_of_row _ _ 1 _ _ _ (unhide HC3)
  have x2 : w3.cell? ⟨w2.heap.size, 2, none⟩ = some (.string dg) := cell_of_row _ _ 2 _ _ _ (unhide HC3)
  have x3 : w3.cell? ⟨w2.heap.size, 3, none⟩ = some (.int .i64 wn) := cell_of_row _ _ 3 _ _ _ (unhide HC3)
  have x4 : w3.cell? ⟨w2.heap.size, 4, none⟩ = some (.int .i64 sh) := cell_of_row _ _ 4 _ _ _ (unhide HC3)
  have x5 : w3.cell? ⟨w2.heap.size, 5, none⟩ = some (.int .i64 tr) := cell_of_row _ _ 5 _ _ _ (unhide HC3)
  have x6 : w3.cell? ⟨w2.heap.size, 6, none⟩ = some (.int .i64 am) := cell_of_row _ _ 6 _ _ _ (unhide HC3)
  have x7 : w3.cell? ⟨w2.heap.size, 7, none⟩ = some (.bool ca) := cell_of_row _ _ 7 _ _ _ (unhide HC3)
  have x8 : w3.cell? ⟨w2.heap.size, 8, none⟩ = some (.int .i64 dy) := cell_of_row _ _ 8 _ _ _ (unhide HC3)
  have x9 : w3.cell? ⟨w2.heap.size, 9, none⟩ = some (.int .i64 bt) := cell_of_row _ _ 9 _ _ _ (unhide HC3)
  have x10 : w3.cell? ⟨w2.heap.size, 10, none⟩ = some (.string no) := cell_of_row _ _ 10 _ _ _ (unhide HC3)
  have x11 : w3.cell? ⟨w2.heap.size, 11, none⟩ = some (.string ex) := cell_of_row _ _ 11 _ _ _ (unhide HC3)
  have x12 : w3.cell? ⟨w2.heap.size, 12, none⟩ = some (.string an) := cell_of_row _ _ 12 _ _ _ (unhide HC3)
  have x13 : w3.cell? ⟨w2.heap.size, 13, none⟩ = some (.string od) := cell_of_row _ _ 13 _ _ _ (unhide HC3)
  go_wp2
  refine bodyPost_ret (v := .tuple #[.agg #[.int .i64 dO, .string nm, .string dg, .int .i64 wn, .int .i64 sh, .int .i64 tr, .int .i64 am, .bool ca, .int .i64 dy, .int .i64 bt, .string no, .string ex, .string an, .string od], .int .i64 0]) (by simp [results, Tryz.results13, go_sem, y0, y1, y2, y3, y4, y5, y6, y7, y8, y9, y10, y11, y12, y13]) rfl ?_
  exact ⟨ret_cmdQ (unhide H2).symm (unhide H3).symm, ((((((((((((((unhide HB3).setCell (Nat.le_refl _) _).setCell (Nat.le_refl _) _).setCell (Nat.le_refl _) _).setCell (Nat.le_refl _) _).setCell (Nat.le_refl _) _).setCell (Nat.le_refl _) _).setCell (Nat.le_refl _) _).setCell (Nat.le_refl _) _).setCell (Nat.le_refl _) _).setCell (Nat.le_refl _) _).setCell (Nat.le_refl _) _).setCell (Nat.le_refl _) _).setCell (Nat.le_refl _) _).setCell (Nat.le_refl _) _⟩
end Go.Proofs.YtfpglpefofcdeaaGreatDoor
