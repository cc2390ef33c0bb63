/- TalkTurns: the law's walk. -/
import Derived.Test.YtfpglpefofcdeaaGreatDoorM29
namespace Go.Proofs.YtfpglpefofcdeaaGreatDoor
open Go.RowKit
set_option linter.unusedVariables false
set_option linter.unusedSimpArgs false
set_option maxRecDepth 100000

theorem wpList_load_midT {P : Program} {ops : Array Oper} {rest : List Oper} {op : Oper} {a : Act} {w : World} {Q : Exit → Act → World → Prop} (hw : Region.wanted op (yielded ops a.tmps) = true) (ty : TypeId) (x : Operand) (ho : op.op = .load ty x)
    (b o : Nat) (hx : a.eval x = .pointer (some ⟨b, o, none⟩)) (cs : List Value) (d : TypeDesc) (hc : w.rangeAt b o cs)
    (hu : P.underlying ty = some d) (hd : d.isRow = true) (hi : (P.info? ty).map (·.size) = some cs.length)
    (h : wpList P ops Q rest (a.put op.dst (.agg cs.toArray)) w) : wpList P ops Q (op :: rest) a w :=
  wpList_step fun K hK => by rw [if_pos hw]; exact wp_load_mid ty x ho b o hx cs d hc hu hd hi (hK _ _ h)
theorem row_keepT {W W' : World} {g : Nat} {o : Obj} (h : W.heap[g]? = some o) (hb : Below W.heap.size W W') : W'.heap[g]? = some o := (hb.block _ (block_ltQ h)).trans h
/-- a struct laid into a block of its own -/
theorem laid_cellT {w : World} {t : TypeId} {z : Array Value} {L : List Value} : ((w.alloc (.cells z t)).setRow w.heap.size L.toArray).heap[w.heap.size]? = some (.cells L.toArray t (0, 0)) ∧ Below w.heap.size w ((w.alloc (.cells z t)).setRow w.heap.size L.toArray) :=
  ⟨setRow_heap _ _ _ _ _ _ (heap_alloc_new w _), setRow_belowT ((Below.refl _ _).alloc (Nat.le_refl _) _) (Nat.le_refl _)⟩
set_option maxHeartbeats 8000000 in
theorem walkTurns (c : XCommand) (a : An) (s : ByteArray) (w : World) (hok : okCommand w c) (hbk : bulkCommand c ≤ 1048576) (ha : AnOK w a) (hz : anZ a ≤ 1048576) (hs : s.size ≤ maxLen) :
    Calls Tryz.prog 4 #[valCommand c, .agg (anC a), .string s] w fun e w' => e = .returned (.bool true) ∧ Below w.heap.size w w' := by
  rw [cmdC_val, anC_list]
  have hcC := cmdC_cells c
  have hcA := anC_cells a
  have n1 := fun W (hb : Below w.heap.size w W) => command_any c W (hok.below hb) hbk
  have n2 := fun W (h : commandE c = 0) => readCommand_any (commandS c) W (readC_back h hok.2.2.2.1.2).2.2
  have n2' : ∀ W, commandE c = 0 → Calls Tryz.prog 13 #[.string (commandS c)] W fun e w' => e = .returned (.tuple #[.agg (cmdC c).toArray, .int .i64 0]) ∧ Below W.heap.size W w' := fun W h => by
    have := n2 W h
    rw [(readC_back h hok.2.2.2.1.2).1, (readC_back h hok.2.2.2.1.2).2.1, cmdC_val] at this
    exact this
  have n3 : ∀ W, Below w.heap.size w W → Calls Tryz.prog 5 #[.agg (anC a).toList.toArray] W fun e w' => e = .returned (.tuple #[.string (answerS a), .int .i64 (answerE a)]) ∧ Below W.heap.size W w' := fun W hb => answer_any a W (ha.below hb) hz
  have n4 : ∀ W, answerE a = 0 → Calls Tryz.prog 7 #[.string (answerS a)] W fun e w' => (∃ b, e = .returned (.tuple #[.agg (anC b).toList.toArray, .int .i64 0]) ∧ AnOK w' b ∧ b.strip = readWL (answerS a)) ∧ Below W.heap.size W w' := fun W h => by
    have h1 := readAnswer_any (answerS a) W (answer_size h)
    rw [(readW_yes (answer_back ha h)).2] at h1
    exact h1
  have n5 : ∀ W b, answerE a = 0 → AnOK W b → b.strip = readWL (answerS a) → Calls Tryz.prog 5 #[.agg (anC b).toList.toArray] W fun e w' => e = .returned (.tuple #[.string (answerS a), .int .i64 0]) ∧ Below W.heap.size W w' := fun W b h hb he => by
    have h1 := answer_any b W hb (by rw [anZ_like he]; exact readWL_z _)
    rw [answerE_like he, answerS_like he] at h1
    rcases readW_cases (answerS a) with ⟨h2, _⟩ | ⟨_, h3, h4⟩
    · rw [(readW_yes (answer_back ha h)).2] at h2; cases h2
    · rw [h3, h4] at h1; exact h1
  have n6 := fun W => readCommand_any s W hs
  have n7 : ∀ W, Calls Tryz.prog 7 #[.string s] W fun e w' => (∃ b, e = .returned (.tuple #[.agg (anC b).toList.toArray, .int .i64 (readWE s)]) ∧ AnOK w' b ∧ b.strip = readWL s) ∧ Below W.heap.size W w' := fun W => readAnswer_any s W hs
  have n8 := fun W => command_any (readCL comF s) W (readCL_ok s W).1 (readCL_ok s W).2
  have n9 : ∀ W b, AnOK W b → b.strip = readWL s → Calls Tryz.prog 5 #[.agg (anC b).toList.toArray] W fun e w' => e = .returned (.tuple #[.string (answerS (readWL s)), .int .i64 (answerE (readWL s))]) ∧ Below W.heap.size W w' := fun W b hb he => by
    have h1 := answer_any b W hb (by rw [anZ_like he]; exact readWL_z _)
    rw [answerE_like he, answerS_like he] at h1
    exact h1
  have n10 : ∀ W b, readWE s ≠ 0 → AnOK W b → b.strip = readWL s → Calls Tryz.prog 11 #[.agg (anC b).toList.toArray, .agg (anC anNil)] W fun e w' => e = .returned (.bool true) ∧ Below W.heap.size W w' := fun W b h hb he => by
    rcases readW_cases s with ⟨_, h2⟩ | ⟨h3, _⟩
    · rw [h2] at he
      have hq : b.strip = anNil.strip := he
      have e1 : b.apps = [] := by have := congrArg An.apps hq; exact this
      have e2 : b.fl.apps = [] := by have := congrArg (fun x => x.fl.apps) hq; exact this
      have e3 : b.fl.ways.list = [] := by have := congrArg (fun x => x.fl.ways.list) hq; exact this
      exact sameAnswers_any b anNil W hb (anNil_ok W) hq (by rw [e1]; exact Nat.zero_le _) (by rw [e2]; exact Nat.zero_le _) (by rw [e3]; exact Nat.zero_le _)
    · exact absurd h3 h
  have hcases := readC_cases s
  have hwases := readW_cases s
  have hne := fun wx => cmd_neq c wx
  have hgd := fun op x y wx => cmd_guard op x y c c wx
  rw [cmdC_val] at n6 n8
  rw [cmdC_val] at n1
  have hcD := cmdC_cells (readCL comF s)
  have hzq : readCE comF s ≠ 0 → ∀ wx, (binOp .eql 48 (.agg (cmdC (readCL comF s)).toArray) (.agg (cmdC zeroC).toArray)).run Tryz.prog wx = .ok (.bool true) wx := fun h wx => by
    rcases hcases with ⟨_, h2⟩ | ⟨h3, _⟩
    · rw [h2]; exact cmd_eql zeroC wx
    · exact absurd h3 h
  have hzg := fun op x y wx => cmd_guard op x y (readCL comF s) zeroC wx
  have hzz : cmdC zeroC = [.int .i64 0, .string ⟨#[]⟩, .string ⟨#[]⟩, .int .i64 0, .int .i64 0, .int .i64 0, .int .i64 0, .bool false, .int .i64 0, .int .i64 0, .string ⟨#[]⟩, .string ⟨#[]⟩, .string ⟨#[]⟩, .string ⟨#[]⟩] := rfl
  have hza : anC anNil = #[.int .i64 0, .int .i64 0, .slice none 0 0, .int .i64 0, .int .i64 0, .int .i64 0, .string ⟨#[]⟩, .slice none 0 0, .string ⟨#[]⟩, .string ⟨#[]⟩, .string ⟨#[]⟩, .string ⟨#[]⟩, .int .i64 0, .int .i64 0, .slice none 0 0, .int .i64 0, .int .i64 0, .int .i64 0, .slice none 0 0, .int .i64 0, .int .i64 0, .string ⟨#[]⟩, .string ⟨#[]⟩, .string ⟨#[]⟩] := rfl
  rw [hzz] at hzq hzg
  rw [hza] at n10
  have HCS := hide hcases; have HWS := hide hwases
  generalize commandS c = cs at *
  generalize commandE c = ce at *
  generalize readWL (answerS a) = RB at *
  generalize answerS a = aS at *
  generalize answerE a = ae at *
  generalize commandS (readCL comF s) = ds at *
  generalize commandE (readCL comF s) = dce at *
  generalize readCE comF s = de at *
  generalize answerS (readWL s) = us at *
  generalize answerE (readWL s) = ue at *
  generalize readWE s = be at *
  generalize readWL s = RS at *
  generalize cmdC (readCL comF s) = Ld at *
  generalize cmdC c = Lc at *
  generalize (anC a).toList = La at *
  clear n2 hok hbk ha hz hs hza hzz hcases hwases
  obtain ⟨W2, hW2⟩ : ∃ W2, W2 = (w.alloc (.cells Lc.toArray 48)).alloc (.cells La.toArray 37) := ⟨_, rfl⟩
  have hB2 : Below w.heap.size w W2 := by rw [hW2]; exact ((Below.refl _ _).alloc (Nat.le_refl _) _).alloc (by simp) _
  have hXC : W2.heap[w.heap.size]? = some (.cells Lc.toArray 48 (0, 0)) := by
    rw [hW2]
    have h1 := heap_alloc_new w (.cells Lc.toArray 48)
    rw [((Below.refl (w.alloc _).heap.size (w.alloc _)).alloc (Nat.le_refl _) _).block _ (block_ltQ h1)]; exact h1
  have hXA : W2.heap[w.heap.size + 1]? = some (.cells La.toArray 37 (0, 0)) := by
    rw [hW2]
    have h1 := heap_alloc_new (w.alloc (.cells Lc.toArray 48)) (.cells La.toArray 37)
    simpa using h1
  have N1 := hide n1; have N2 := hide n2'; have N3 := hide n3; have N4 := hide n4; have N5 := hide n5; have N6 := hide n6; have N7 := hide n7; have N8 := hide n8; have N9 := hide n9; have N10 := hide n10
  have HB2 := hide hB2; have HW2 := hide hW2; have HXC := hide hXC; have HXA := hide hXA
  have HCC := hide hcC; have HCA := hide hcA; have HCD := hide hcD
  have HZQ := hide hzq; have HZG := hide hzg
  clear n1 n2' n3 n4 n5 n6 n7 n8 n9 n10 hB2 hW2 hXC hXA hcC hcA hcD hzq hzg
  go_enter Tryz.func4, Tryz.ntmps4
  go_upto_region 1 with fail
  rw [← unhide HW2]
  go_wp2_with (refine wpList_load_midT (by rfl) _ _ rfl w.heap.size 0 rfl Lc _ (range_rowT (unhide HXC)) Tryz.underlying48 rfl ((unhide HCC).info infoCmd) ?_)
  refine (unhide N1 _ (unhide HB2)).mono ?_
  rintro e y1 ⟨rfl, k1⟩
  have HK1 := hide k1
  clear k1
  go_upto_if 27 with fail
  go_cut [7, 8] (fun tv ev wx => Below W2.heap.size W2 wx)
  case first =>
    by_cases hce : ce = 0
    case neg =>
      have t1 : (ce == 0) = false := by simpa using hce
      go_wp2
      go_meet
      exact unhide HK1
    have t1 : (ce == 0) = true := by simpa using hce
    go_wp2_with fail
    refine (unhide N2 _ hce).mono ?_
    rintro e y2 ⟨rfl, k2⟩
    obtain ⟨W3, hW3⟩ : ∃ W3, W3 = (y2.alloc (.cells #[.int .i64 0, .string ⟨#[]⟩, .string ⟨#[]⟩, .int .i64 0, .int .i64 0, .int .i64 0, .int .i64 0, .bool false, .int .i64 0, .int .i64 0, .string ⟨#[]⟩, .string ⟨#[]⟩, .string ⟨#[]⟩, .string ⟨#[]⟩] 48)).setRow y2.heap.size Lc.toArray := ⟨_, rfl⟩
    have hl := laid_cellT (w := y2) (t := 48) (z := #[.int .i64 0, .string ⟨#[]⟩, .string ⟨#[]⟩, .int .i64 0, .int .i64 0, .int .i64 0, .int .i64 0, .bool false, .int .i64 0, .int .i64 0, .string ⟨#[]⟩, .string ⟨#[]⟩, .string ⟨#[]⟩, .string ⟨#[]⟩]) (L := Lc)
    rw [← hW3] at hl
    have k12 := belowTr (unhide HK1) k2
    have k13 := belowTr k12 hl.2
    have HX3 := hide hl.1; have HK3 := hide k13; have HW3 := hide hW3
    have HXC3 := hide (row_keepT (unhide HXC) k13)
    clear k2 hl k12 k13 hW3
    go_upto_region 4 with (refine wpList_store_row rfl _ _ _ rfl y2.heap.size Lc.toArray rfl rfl _ _ (heap_alloc_new _ _) ((unhide HCC).info2 infoCmd) (unhide HCC).size.symm (unhide HCC).one ?_)
    rw [← unhide HW3]
    go_wp2_with (first
      | refine wpList_load_midT (by rfl) _ _ rfl y2.heap.size 0 rfl Lc _ (range_rowT (unhide HX3)) Tryz.underlying48 rfl ((unhide HCC).info infoCmd) ?_
      | refine wpList_load_midT (by rfl) _ _ rfl w.heap.size 0 rfl Lc _ (range_rowT (unhide HXC3)) Tryz.underlying48 rfl ((unhide HCC).info infoCmd) ?_)
    go_meet
    exact unhide HK3
  case rest =>
  have HK2 := hide hcut
  have HXA2 := hide (row_keepT (unhide HXA) hcut)
  clear hcut HK1 hne hgd N1 N2 HCC HXC HW2
  go_wp2_with (refine wpList_load_midT (by rfl) _ _ rfl (w.heap.size + 1) 0 rfl La _ (range_rowT (unhide HXA2)) Tryz.underlying37 rfl ((unhide HCA).info infoAn) ?_)
  refine (unhide N3 _ (belowTr (unhide HB2) (unhide HK2))).mono ?_
  rintro e y3 ⟨rfl, k3⟩
  have HK3 := hide (belowTr (unhide HK2) k3)
  clear k3
  go_upto_if 46 with fail
  go_cut [7, 8] (fun tv ev wx => Below W2.heap.size W2 wx)
  case first =>
    by_cases hae : ae = 0
    case neg =>
      have t1 : (ae == 0) = false := by simpa using hae
      go_wp2
      go_meet
      exact unhide HK3
    have t1 : (ae == 0) = true := by simpa using hae
    have t2 : (aS.toList == aS.toList) = true := by simp
    go_wp2_with fail
    refine (unhide N4 _ hae).mono ?_
    rintro e y4 ⟨⟨b, rfl, hbo, hbs⟩, k4⟩
    have hcB := anC_cells b
    obtain ⟨W5, hW5⟩ : ∃ W5, W5 = (y4.alloc (.cells #[.int .i64 0, .int .i64 0, .slice none 0 0, .int .i64 0, .int .i64 0, .int .i64 0, .string ⟨#[]⟩, .slice none 0 0, .string ⟨#[]⟩, .string ⟨#[]⟩, .string ⟨#[]⟩, .string ⟨#[]⟩, .int .i64 0, .int .i64 0, .slice none 0 0, .int .i64 0, .int .i64 0, .int .i64 0, .slice none 0 0, .int .i64 0, .int .i64 0, .string ⟨#[]⟩, .string ⟨#[]⟩, .string ⟨#[]⟩] 37)).setRow y4.heap.size (anC b).toList.toArray := ⟨_, rfl⟩
    have hl := laid_cellT (w := y4) (t := 37) (z := #[.int .i64 0, .int .i64 0, .slice none 0 0, .int .i64 0, .int .i64 0, .int .i64 0, .string ⟨#[]⟩, .slice none 0 0, .string ⟨#[]⟩, .string ⟨#[]⟩, .string ⟨#[]⟩, .string ⟨#[]⟩, .int .i64 0, .int .i64 0, .slice none 0 0, .int .i64 0, .int .i64 0, .int .i64 0, .slice none 0 0, .int .i64 0, .int .i64 0, .string ⟨#[]⟩, .string ⟨#[]⟩, .string ⟨#[]⟩]) (L := (anC b).toList)
    rw [← hW5] at hl
    have n5 := unhide N5 W5 b hae (hbo.below hl.2) hbs
    generalize (anC b).toList = Lb at *
    have k14 := belowTr (unhide HK3) k4
    have k15 := belowTr k14 hl.2
    have HX5 := hide hl.1; have HK5 := hide k15; have HW5 := hide hW5; have N5b := hide n5; have HCB := hide hcB
    clear k4 hl k14 k15 hW5 n5 hcB hbo hbs
    go_upto_region 9 with (refine wpList_store_row rfl _ _ _ rfl y4.heap.size Lb.toArray rfl rfl _ _ (heap_alloc_new _ _) ((unhide HCB).info2 infoAn) (unhide HCB).size.symm (unhide HCB).one ?_)
    rw [← unhide HW5]
    go_wp2_with (refine wpList_load_midT (by rfl) _ _ rfl y4.heap.size 0 rfl Lb _ (range_rowT (unhide HX5)) Tryz.underlying37 rfl ((unhide HCB).info infoAn) ?_)
    refine (unhide N5b).mono ?_
    rintro e y6 ⟨rfl, k6⟩
    have HK6 := hide (belowTr (unhide HK5) k6)
    clear k6
    go_wp2
    go_meet
    exact unhide HK6
  case rest =>
  have HK7 := hide hcut
  clear hcut HK2 HK3 N3 N4 N5 HXA HXA2 HCA
  go_wp2_with fail
  refine (unhide N6 _).mono ?_
  rintro e y7 ⟨rfl, k7⟩
  obtain ⟨W8, hW8⟩ : ∃ W8, W8 = (y7.alloc (.cells #[.int .i64 0, .string ⟨#[]⟩, .string ⟨#[]⟩, .int .i64 0, .int .i64 0, .int .i64 0, .int .i64 0, .bool false, .int .i64 0, .int .i64 0, .string ⟨#[]⟩, .string ⟨#[]⟩, .string ⟨#[]⟩, .string ⟨#[]⟩] 48)).setRow y7.heap.size Ld.toArray := ⟨_, rfl⟩
  have hl := laid_cellT (w := y7) (t := 48) (z := #[.int .i64 0, .string ⟨#[]⟩, .string ⟨#[]⟩, .int .i64 0, .int .i64 0, .int .i64 0, .int .i64 0, .bool false, .int .i64 0, .int .i64 0, .string ⟨#[]⟩, .string ⟨#[]⟩, .string ⟨#[]⟩, .string ⟨#[]⟩]) (L := Ld)
  rw [← hW8] at hl
  have HX8 := hide hl.1; have HK8 := hide (belowTr (belowTr (unhide HK7) k7) hl.2); have HW8 := hide hW8
  clear k7 hl hW8 HK7
  go_upto_region 13 with (refine wpList_store_row rfl _ _ _ rfl y7.heap.size Ld.toArray rfl rfl _ _ (heap_alloc_new _ _) ((unhide HCD).info2 infoCmd) (unhide HCD).size.symm (unhide HCD).one ?_)
  rw [← unhide HW8]
  go_wp2_with fail
  refine (unhide N7 _).mono ?_
  rintro e y9 ⟨⟨b, rfl, hbo, hbs⟩, k9⟩
  have hcB := anC_cells b
  obtain ⟨W10, hW10⟩ : ∃ W10, W10 = (y9.alloc (.cells #[.int .i64 0, .int .i64 0, .slice none 0 0, .int .i64 0, .int .i64 0, .int .i64 0, .string ⟨#[]⟩, .slice none 0 0, .string ⟨#[]⟩, .string ⟨#[]⟩, .string ⟨#[]⟩, .string ⟨#[]⟩, .int .i64 0, .int .i64 0, .slice none 0 0, .int .i64 0, .int .i64 0, .int .i64 0, .slice none 0 0, .int .i64 0, .int .i64 0, .string ⟨#[]⟩, .string ⟨#[]⟩, .string ⟨#[]⟩] 37)).setRow y9.heap.size (anC b).toList.toArray := ⟨_, rfl⟩
  have hl := laid_cellT (w := y9) (t := 37) (z := #[.int .i64 0, .int .i64 0, .slice none 0 0, .int .i64 0, .int .i64 0, .int .i64 0, .string ⟨#[]⟩, .slice none 0 0, .string ⟨#[]⟩, .string ⟨#[]⟩, .string ⟨#[]⟩, .string ⟨#[]⟩, .int .i64 0, .int .i64 0, .slice none 0 0, .int .i64 0, .int .i64 0, .int .i64 0, .slice none 0 0, .int .i64 0, .int .i64 0, .string ⟨#[]⟩, .string ⟨#[]⟩, .string ⟨#[]⟩]) (L := (anC b).toList)
  rw [← hW10] at hl
  have n9 := fun W (hb : Below W10.heap.size W10 W) => unhide N9 W b ((hbo.below hl.2).below hb) hbs
  have n10 := fun (h : be ≠ 0) => unhide N10 W10 b h (hbo.below hl.2) hbs
  generalize (anC b).toList = Lb at *
  have k810 := belowTr k9 hl.2
  have HX10 := hide hl.1; have HK10 := hide (belowTr (unhide HK8) k810); have HW10 := hide hW10; have N9b := hide n9; have N10b := hide n10; have HCB := hide hcB
  have HXD10 := hide (row_keepT (unhide HX8) k810)
  clear k9 hl k810 hW10 n9 n10 hcB hbo hbs HK8 HW8 HX8 N6 N7 N9 N10
  go_upto_region 14 with (refine wpList_store_row rfl _ _ _ rfl y9.heap.size Lb.toArray rfl rfl _ _ (heap_alloc_new _ _) ((unhide HCB).info2 infoAn) (unhide HCB).size.symm (unhide HCB).one ?_)
  rw [← unhide HW10]
  by_cases hd0 : de = 0
  case neg =>
    have t1 : (de != 0) = true := by simpa using hd0
    have t3 : (de == 0) = false := by simpa using hd0
    by_cases hb0 : be = 0
    case neg =>
      have t2 : (be != 0) = true := by simpa using hb0
      have hzq := unhide HZQ hd0
      have hzg := unhide HZG
      go_wp2_with (first
        | refine wpList_load_midT (by rfl) _ _ rfl y7.heap.size 0 rfl Ld _ (range_rowT (unhide HXD10)) Tryz.underlying48 rfl ((unhide HCD).info infoCmd) ?_
        | refine wpList_load_midT (by rfl) _ _ rfl y9.heap.size 0 rfl Lb _ (range_rowT (unhide HX10)) Tryz.underlying37 rfl ((unhide HCB).info infoAn) ?_)
      refine (unhide N10b hb0).mono ?_
      rintro e y11 ⟨rfl, k11⟩
      have HKZ := hide (belowTr (unhide HB2) (belowTr (unhide HK10) k11))
      clear k11
      go_wp2
      go_ret
      exact ⟨rfl, unhide HKZ⟩
    have t2 : (be != 0) = false := by simpa using hb0
    have t4 : (be == 0) = true := by simpa using hb0
    obtain ⟨hu1, hu2⟩ : ue = 0 ∧ us = s := by
      rcases unhide HWS with ⟨h, _⟩ | ⟨_, h2, h3⟩
      · rw [hb0] at h; cases h
      · exact ⟨h2, h3⟩
    have t5 : (ue == 0) = true := by simpa using hu1
    have t6 : (us.toList == s.toList) = true := by rw [hu2]; simp
    have HU := hide hu1
    clear hu1 hu2
    go_wp2_with (refine wpList_load_midT (by rfl) _ _ rfl y7.heap.size 0 rfl Ld _ (range_rowT (unhide HXD10)) Tryz.underlying48 rfl ((unhide HCD).info infoCmd) ?_)
    refine (unhide N8 _).mono ?_
    rintro e y11 ⟨rfl, k11⟩
    have HX11 := hide (row_keepT (unhide HX10) k11)
    have HK11 := hide k11
    clear k11
    go_wp2_with (refine wpList_load_midT (by rfl) _ _ rfl y9.heap.size 0 rfl Lb _ (range_rowT (unhide HX11)) Tryz.underlying37 rfl ((unhide HCB).info infoAn) ?_)
    refine (unhide N9b _ (unhide HK11)).mono ?_
    rintro e y12 ⟨rfl, k12⟩
    have HKZ := hide (belowTr (unhide HB2) (belowTr (unhide HK10) (belowTr (unhide HK11) k12)))
    clear k12
    go_wp2
    go_ret
    exact ⟨rfl, unhide HKZ⟩
  have t1 : (de != 0) = false := by simpa using hd0
  have t3 : (de == 0) = true := by simpa using hd0
  obtain ⟨hu1, hu2⟩ : dce = 0 ∧ ds = s := by
    rcases unhide HCS with ⟨h, _⟩ | ⟨_, h2, h3⟩
    · rw [hd0] at h; cases h
    · exact ⟨h2, h3⟩
  have t5 : (dce == 0) = true := by simpa using hu1
  have t6 : (ds.toList == s.toList) = true := by rw [hu2]; simp
  have HU := hide hu1
  clear hu1 hu2
  go_wp2_with (refine wpList_load_midT (by rfl) _ _ rfl y7.heap.size 0 rfl Ld _ (range_rowT (unhide HXD10)) Tryz.underlying48 rfl ((unhide HCD).info infoCmd) ?_)
  refine (unhide N8 _).mono ?_
  rintro e y11 ⟨rfl, k11⟩
  have HX11 := hide (row_keepT (unhide HX10) k11)
  have HK11 := hide k11
  clear k11
  go_wp2_with (refine wpList_load_midT (by rfl) _ _ rfl y9.heap.size 0 rfl Lb _ (range_rowT (unhide HX11)) Tryz.underlying37 rfl ((unhide HCB).info infoAn) ?_)
  refine (unhide N9b _ (unhide HK11)).mono ?_
  rintro e y12 ⟨rfl, k12⟩
  have HKZ := hide (belowTr (unhide HB2) (belowTr (unhide HK10) (belowTr (unhide HK11) k12)))
  clear k12
  go_wp2
  go_ret
  exact ⟨rfl, unhide HKZ⟩
end Go.Proofs.YtfpglpefofcdeaaGreatDoor
