/- TalkAnswers: the law's walk. -/
import Derived.Test.YtfpglpefofcdeaaGreatDoorM30
import Derived.Test.YtfpglpefofcdeaaGreatDoorM35
import Derived.Test.YtfpglpefofcdeaaGreatDoorM34
import Derived.Test.YtfpglpefofcdeaaGreatDoorM25
namespace Go.Proofs.YtfpglpefofcdeaaGreatDoor
open Go.RowKit
set_option linter.unusedVariables false
set_option linter.unusedSimpArgs false
set_option maxRecDepth 100000

/-- a file within an answer: its cells -/
theorem anC_file (a : An) : ∃ (L0 L1 L2 : List Value), (anC a).toList = L0 ++ L1 ++ L2 ∧ L0.length = 6 ∧ L1 = (flC a.fl).toList := ⟨(anC a).toList.take 6, (flC a.fl).toList, (anC a).toList.drop 19, rfl, rfl, rfl⟩
theorem flC_cells (f : Fl) : CellsT (flC f).toList 13 := ⟨rfl, flC_one f⟩
theorem range_midT {w : World} {b : Nat} {L0 L1 L2 L : List Value} {t : TypeId} (h : w.heap[b]? = some (.cells L.toArray t (0, 0))) (hL : L = L0 ++ L1 ++ L2) : w.rangeAt b L0.length L1 := fun j v hv => by
  rw [cell_of_row _ _ (L0.length + j) _ _ _ h, List.getElem?_toArray, hL, List.append_assoc, List.getElem?_append_right (by omega), Nat.add_sub_cancel_left]
  have hj : j < L1.length := by
    rcases Nat.lt_or_ge j L1.length with h | h
    · exact h
    · rw [List.getElem?_eq_none h] at hv; cases hv
  rw [List.getElem?_append_left hj]
  exact hv
theorem same_reads {s : ByteArray} {x y : An} (hx : x.strip = readWL s) (hy : y.strip = readWL s) : x.strip = y.strip := hx.trans hy.symm
theorem flP_len (W : World) (g : ByteArray) (hg : g.size ≤ 65535) : (flP g).apps.length ≤ 1000 ∧ (flP g).ways.list.length ≤ 1000000 := by
  unfold flP
  by_cases h : (cutR 65536 g).length = 5
  · obtain ⟨p0, p1, p2, p3, p4, h5⟩ := flL_five h
    have hle := cutR_le 65536 g p2 (by rw [h5]; simp)
    rw [h5]
    show (readsL p1).length ≤ 1000 ∧ (wayZ p2).length ≤ 1000000
    have h1 := reads_length p1
    have h2 := (wayZ_ok W p2).2
    exact ⟨by omega, by omega⟩
  · rw [flL_not h]
    exact ⟨Nat.zero_le _, Nat.zero_le _⟩
theorem readWL_len (W : World) (s : ByteArray) : (readWL s).apps.length ≤ 1000 ∧ (readWL s).fl.apps.length ≤ 1000 ∧ (readWL s).fl.ways.list.length ≤ 1000000 := by
  unfold readWL
  cases readW s with
  | false => exact ⟨Nat.zero_le _, Nat.zero_le _, Nat.zero_le _⟩
  | true =>
    have h1 := reads_length (gotT 130 8 (parsesL s))
    have h2 := flP_len W (gotT 133 8 (parsesL s)) (Nat.le_trans (got_size _ _ _) (parses_wt s))
    exact ⟨by show (readsL (gotT 130 8 (parsesL s))).length ≤ 1000; omega, h2.1, h2.2⟩
theorem like_len {W : World} {s : ByteArray} {b : An} (h : b.strip = readWL s) : b.apps.length ≤ 1000 ∧ b.fl.apps.length ≤ 1000 ∧ b.fl.ways.list.length ≤ 1000000 := by
  have := readWL_len W s
  rw [← h] at this
  exact this
set_option maxHeartbeats 8000000 in
theorem walkAnswers
    (RA : ∀ (a : An) (w : World), AnOK w a → anZ a ≤ 1048576 → Calls Tryz.prog 6 #[.agg (anC a)] w fun e w' => e = .returned (.tuple #[.string (answerS a), .int .i64 (answerE a)]) ∧ Below w.heap.size w w')
    (RR : ∀ (s : ByteArray) (w : World), s.size ≤ maxLen → Calls Tryz.prog 8 #[.string s] w fun e w' => (∃ a, e = .returned (.tuple #[.agg (anC a), .int .i64 (readWE s)]) ∧ AnOK w' a ∧ a.strip = readWL s) ∧ Below w.heap.size w w')
    (a : An) (s : ByteArray) (w : World) (ha : AnOK w a) (hz : anZ a ≤ 1048576) (hs : s.size ≤ maxLen) :
    Calls Tryz.prog 3 #[.agg (anC a), .string s] w fun e w' => e = .returned (.bool true) ∧ Below w.heap.size w w' := by
  rw [anC_list]
  have hcA := anC_cells a
  obtain ⟨L0, LF, L2, hLL, hL6, hLF⟩ := anC_file a
  have hcF := flC_cells a.fl
  rw [← hLF] at hcF
  have n1 : ∀ W, Below w.heap.size w W → Calls Tryz.prog 5 #[.agg (anC a).toList.toArray] W fun e w' => e = .returned (.tuple #[.string (answerS a), .int .i64 (answerE a)]) ∧ Below W.heap.size W w' := fun W hb => answer_any a W (ha.below hb) hz
  have n2 : ∀ W, Below w.heap.size w W → Calls Tryz.prog 6 #[.agg (anC a).toList.toArray] W fun e w' => e = .returned (.tuple #[.string (answerS a), .int .i64 (answerE a)]) ∧ Below W.heap.size W w' := fun W hb => RA a W (ha.below hb) hz
  have n3 : ∀ W, Calls Tryz.prog 7 #[.string s] W fun e w' => (∃ b, e = .returned (.tuple #[.agg (anC b).toList.toArray, .int .i64 (readWE s)]) ∧ AnOK w' b ∧ b.strip = readWL s) ∧ Below W.heap.size W w' := fun W => readAnswer_any s W hs
  have n4 : ∀ W, Calls Tryz.prog 8 #[.string s] W fun e w' => (∃ b, e = .returned (.tuple #[.agg (anC b).toList.toArray, .int .i64 (readWE s)]) ∧ AnOK w' b ∧ b.strip = readWL s) ∧ Below W.heap.size W w' := fun W => RR s W hs
  have n5 : ∀ W, Below w.heap.size w W → Calls Tryz.prog 9 #[.agg LF.toArray] W fun e w' => e = .returned (.tuple #[.string (fileS a.fl), .int .i64 (fileE a.fl)]) ∧ Below W.heap.size W w' := fun W hb => by
    rw [hLF]; exact fileText_any a.fl W (ha.below hb).fl
  have n6 : ∀ W, Below w.heap.size w W → Calls Tryz.prog 10 #[.agg LF.toArray] W fun e w' => e = .returned (.tuple #[.string (fileS a.fl), .int .i64 (fileE a.fl)]) ∧ Below W.heap.size W w' := fun W hb => by
    rw [hLF]; exact rfileText_any a.fl W (ha.below hb).fl
  have n7 : ∀ W b c, AnOK W b → AnOK W c → b.strip = readWL s → c.strip = readWL s → Calls Tryz.prog 11 #[.agg (anC b).toList.toArray, .agg (anC c).toList.toArray] W fun e w' => e = .returned (.bool true) ∧ Below W.heap.size W w' := fun W b c hb hc h1 h2 => sameAnswers_any b c W hb hc (same_reads h1 h2) (like_len (W := W) h1).1 (like_len (W := W) h1).2.1 (like_len (W := W) h1).2.2
  generalize answerS a = aS at *
  generalize answerE a = ae at *
  generalize fileS a.fl = fS at *
  generalize fileE a.fl = fe at *
  generalize readWE s = be at *
  generalize readWL s = RS at *
  generalize (anC a).toList = La at *
  clear ha hz hs RA RR hLF
  obtain ⟨W2, hW2⟩ : ∃ W2, W2 = w.alloc (.cells La.toArray 37) := ⟨_, rfl⟩
  have hB2 : Below w.heap.size w W2 := by rw [hW2]; exact (Below.refl _ _).alloc (Nat.le_refl _) _
  have hXA : W2.heap[w.heap.size]? = some (.cells La.toArray 37 (0, 0)) := by rw [hW2]; exact heap_alloc_new _ _
  have hrg : ∀ W : World, W.heap[w.heap.size]? = some (.cells La.toArray 37 (0, 0)) → W.rangeAt w.heap.size 6 LF := fun W h => by
    have := range_midT h hLL
    rw [hL6] at this
    exact this
  have N1 := hide n1; have N2 := hide n2; have N3 := hide n3; have N4 := hide n4; have N5 := hide n5; have N6 := hide n6; have N7 := hide n7
  have HB2 := hide hB2; have HW2 := hide hW2; have HXA := hide hXA; have HCA := hide hcA; have HCF := hide hcF; have HRG := hide hrg
  clear n1 n2 n3 n4 n5 n6 n7 hB2 hW2 hXA hcA hcF hrg hLL hL6
  have t1 : (aS.toList == aS.toList) = true := by simp
  have t2 : (ae == ae) = true := by simp
  have t3 : (be == be) = true := by simp
  have t4 : (fS.toList == fS.toList) = true := by simp
  have t5 : (fe == fe) = true := by simp
  go_enter Tryz.func3, Tryz.ntmps3
  go_upto_region 1 with fail
  rw [← unhide HW2]
  go_wp2_with (refine wpList_load_midT (by rfl) _ _ rfl w.heap.size 0 rfl La _ (range_rowT (unhide HXA)) Tryz.underlying37 rfl ((unhide HCA).info infoAn) ?_)
  refine (unhide N1 _ (unhide HB2)).mono ?_
  rintro e y1 ⟨rfl, k1⟩
  have HK1 := hide (belowTr (unhide HB2) k1); have HX1 := hide (row_keepT (unhide HXA) k1)
  clear k1 HW2 N1 HXA
  go_wp2_with (refine wpList_load_midT (by rfl) _ _ rfl w.heap.size 0 rfl La _ (range_rowT (unhide HX1)) Tryz.underlying37 rfl ((unhide HCA).info infoAn) ?_)
  refine (unhide N2 _ (unhide HK1)).mono ?_
  rintro e y2 ⟨rfl, k2⟩
  have HK2 := hide (belowTr (unhide HK1) k2); have HX2 := hide (row_keepT (unhide HX1) k2)
  clear k2 N2 HX1 HK1
  go_wp2_with fail
  refine (unhide N3 _).mono ?_
  rintro e y3 ⟨⟨b, rfl, hbo, hbs⟩, k3⟩
  have hcB := anC_cells b
  obtain ⟨W5, hW5⟩ : ∃ W5, W5 = (y3.alloc (.cells #[.int .i64 0, .int .i64 0, .slice none 0 0, .int .i64 0, .int .i64 0, .int .i64 0, .string ⟨#[]⟩, .slice none 0 0, .string ⟨#[]⟩, .string ⟨#[]⟩, .string ⟨#[]⟩, .string ⟨#[]⟩, .int .i64 0, .int .i64 0, .slice none 0 0, .int .i64 0, .int .i64 0, .int .i64 0, .slice none 0 0, .int .i64 0, .int .i64 0, .string ⟨#[]⟩, .string ⟨#[]⟩, .string ⟨#[]⟩] 37)).setRow y3.heap.size (anC b).toList.toArray := ⟨_, rfl⟩
  have hl := laid_cellT (w := y3) (t := 37) (z := #[.int .i64 0, .int .i64 0, .slice none 0 0, .int .i64 0, .int .i64 0, .int .i64 0, .string ⟨#[]⟩, .slice none 0 0, .string ⟨#[]⟩, .string ⟨#[]⟩, .string ⟨#[]⟩, .string ⟨#[]⟩, .int .i64 0, .int .i64 0, .slice none 0 0, .int .i64 0, .int .i64 0, .int .i64 0, .slice none 0 0, .int .i64 0, .int .i64 0, .string ⟨#[]⟩, .string ⟨#[]⟩, .string ⟨#[]⟩]) (L := (anC b).toList)
  rw [← hW5] at hl
  have hbo5 := hbo.below hl.2
  have n7 := fun W c (hb : Below W5.heap.size W5 W) (hc : AnOK W c) (h2 : c.strip = RS) => unhide N7 W b c (hbo5.below hb) hc hbs h2
  generalize (anC b).toList = Lb at *
  have k35 := belowTr k3 hl.2
  have HX5 := hide hl.1; have HK5 := hide (belowTr (unhide HK2) k35); have HW5 := hide hW5; have N7b := hide n7; have HCB := hide hcB; have HXA5 := hide (row_keepT (unhide HX2) k35)
  clear k3 hl k35 hW5 n7 hcB hbo hbs hbo5 HK2 HX2 N3 N7
  go_upto_region 4 with (refine wpList_store_row rfl _ _ _ rfl y3.heap.size Lb.toArray rfl rfl _ _ (heap_alloc_new _ _) ((unhide HCB).info2 infoAn) (unhide HCB).size.symm (unhide HCB).one ?_)
  rw [← unhide HW5]
  go_wp2_with fail
  refine (unhide N4 _).mono ?_
  rintro e y6 ⟨⟨c, rfl, hco, hcs⟩, k6⟩
  have hcC := anC_cells c
  obtain ⟨W7, hW7⟩ : ∃ W7, W7 = (y6.alloc (.cells #[.int .i64 0, .int .i64 0, .slice none 0 0, .int .i64 0, .int .i64 0, .int .i64 0, .string ⟨#[]⟩, .slice none 0 0, .string ⟨#[]⟩, .string ⟨#[]⟩, .string ⟨#[]⟩, .string ⟨#[]⟩, .int .i64 0, .int .i64 0, .slice none 0 0, .int .i64 0, .int .i64 0, .int .i64 0, .slice none 0 0, .int .i64 0, .int .i64 0, .string ⟨#[]⟩, .string ⟨#[]⟩, .string ⟨#[]⟩] 37)).setRow y6.heap.size (anC c).toList.toArray := ⟨_, rfl⟩
  have hl := laid_cellT (w := y6) (t := 37) (z := #[.int .i64 0, .int .i64 0, .slice none 0 0, .int .i64 0, .int .i64 0, .int .i64 0, .string ⟨#[]⟩, .slice none 0 0, .string ⟨#[]⟩, .string ⟨#[]⟩, .string ⟨#[]⟩, .string ⟨#[]⟩, .int .i64 0, .int .i64 0, .slice none 0 0, .int .i64 0, .int .i64 0, .int .i64 0, .slice none 0 0, .int .i64 0, .int .i64 0, .string ⟨#[]⟩, .string ⟨#[]⟩, .string ⟨#[]⟩]) (L := (anC c).toList)
  rw [← hW7] at hl
  have hco7 := hco.below hl.2
  have k57 := belowTr k6 hl.2
  have n7 := fun W (hb : Below W7.heap.size W7 W) => unhide N7b W c (belowTr k57 hb) (hco7.below hb) hcs
  generalize (anC c).toList = Lc at *
  have HX7 := hide hl.1; have HK7 := hide (belowTr (unhide HK5) k57); have HW7 := hide hW7; have N7c := hide n7; have HCC := hide hcC; have HXA7 := hide (row_keepT (unhide HXA5) k57); have HXB7 := hide (row_keepT (unhide HX5) k57)
  clear k6 hl k57 hW7 n7 hcC hco hcs hco7 HK5 HX5 HXA5 N4 N7b HW5
  go_upto_region 5 with (refine wpList_store_row rfl _ _ _ rfl y6.heap.size Lc.toArray rfl rfl _ _ (heap_alloc_new _ _) ((unhide HCC).info2 infoAn) (unhide HCC).size.symm (unhide HCC).one ?_)
  rw [← unhide HW7]
  go_wp2_with (refine wpList_load_midT (by rfl) _ _ rfl w.heap.size 6 rfl LF _ (unhide HRG _ (unhide HXA7)) Tryz.underlying33 rfl ((unhide HCF).info infoFl) ?_)
  refine (unhide N5 _ (unhide HK7)).mono ?_
  rintro e y8 ⟨rfl, k8⟩
  have HK8 := hide k8; have HXA8 := hide (row_keepT (unhide HXA7) k8)
  clear k8 N5 HW7
  go_wp2_with (refine wpList_load_midT (by rfl) _ _ rfl w.heap.size 6 rfl LF _ (unhide HRG _ (unhide HXA8)) Tryz.underlying33 rfl ((unhide HCF).info infoFl) ?_)
  refine (unhide N6 _ (belowTr (unhide HK7) (unhide HK8))).mono ?_
  rintro e y9 ⟨rfl, k9⟩
  have HK9 := hide (belowTr (unhide HK8) k9)
  clear k9 N6
  have HXB9 := hide (row_keepT (unhide HXB7) (unhide HK9)); have HXC9 := hide (row_keepT (unhide HX7) (unhide HK9))
  go_wp2_with (first
    | refine wpList_load_midT (by rfl) _ _ rfl y3.heap.size 0 rfl Lb _ (range_rowT (unhide HXB9)) Tryz.underlying37 rfl ((unhide HCB).info infoAn) ?_
    | refine wpList_load_midT (by rfl) _ _ rfl y6.heap.size 0 rfl Lc _ (range_rowT (unhide HXC9)) Tryz.underlying37 rfl ((unhide HCC).info infoAn) ?_)
  refine (unhide N7c _ (unhide HK9)).mono ?_
  rintro e y10 ⟨rfl, k10⟩
  have HKZ := hide (belowTr (unhide HK7) (belowTr (unhide HK9) k10))
  clear k10
  go_wp2
  go_ret
  exact ⟨rfl, unhide HKZ⟩
end Go.Proofs.YtfpglpefofcdeaaGreatDoor
namespace Go.Proofs.YtfpglpefofcdeaaGreatDoor
open Go.RowKit
set_option linter.unusedVariables false

theorem meas_nodeA (L : List (Int × ByteArray)) (h : goodL L) : ∃ p, measD 2 [nodeI 162 L] = some ((itS 162 (inL L)).size, p) ∧ p ≤ 2 := by
  obtain ⟨p', e, hp⟩ := fold_leaf L 0 0 h (by omega)
  have e1 : measD 1 (nodeI 162 L).list = some ((inL L).size, p') := by
    have : measD 1 (nodeI 162 L).list = (L.map leafI).foldl (stepM (measD 0)) (some (0, 0)) := rfl
    rw [this, e, Nat.zero_add]
  refine ⟨max 0 (1 + p'), ?_, by omega⟩
  show stepM (measD 1) (some (0, 0)) (nodeI 162 L) = _
  rw [step_yes]
  have hf : fitsB (nodeI 162 L).tag (nodeI 162 L).text.size (nodeI 162 L).list.length = true := by
    show fitsB 162 0 _ = true
    rw [fits_made made_162]; rfl
  rw [if_pos hf, e1]
  show some (0 + (tagLen (162 : Int).toNat + lenLen ((inL L).size + 0)) + ((inL L).size + 0), _) = _
  have e2 : tagLen (162 : Int).toNat = 1 := rfl
  rw [e2, itS_size, Nat.add_zero]
  congr 2
  omega
theorem itemL_itA {t : Int} {b : List Int} {s : ByteArray} (ht : 0 ≤ t ∧ t < 256) (hb : strOfNums b = s) (hs : s.size < 65536) : strOfNums (itemL t.toNat b) = itS t s := by
  have hl : b.length = s.size := by rw [← hb, strOfNums_size]
  unfold itemL
  rw [← strOfNums_append, ← strOfNums_append, hb, hl]
  have h1 : tagL t.toNat = [t] := by
    show bigL t.toNat (tagLen t.toNat) = _
    have h2 : tagLen t.toNat = 1 := by unfold tagLen; rw [if_pos (by omega)]
    rw [h2]
    simp [bigL]
    omega
  rw [h1]
  unfold itS szS
  rw [lenR_small hs]
theorem tell_outA (L : List (Int × ByteArray)) (h : goodL L) : tellE 162 L 0 = outE 162 (inL L) ∧ tellS 162 L 0 = outS 162 (inL L) := by
  obtain ⟨p, e, hp⟩ := meas_nodeA L h
  have hz := itS_size 162 (inL L)
  have hE : printsE (measD 2 [nodeI 162 L]) = outE 162 (inL L) := by
    rw [e]
    show (if 8 < p ∨ 65535 < (itS 162 (inL L)).size then (2 : Int) else 0) = _
    unfold outE
    by_cases hc : 65535 < (itS 162 (inL L)).size
    · rw [if_pos (.inr hc), if_pos hc]
    · rw [if_neg (by omega), if_neg hc]
  constructor
  · unfold tellE; rw [if_pos rfl, hE]
  · unfold tellS printsS
    rw [if_pos rfl, hE]
    unfold outE outS
    by_cases hc : 65535 < (itS 162 (inL L)).size
    · rw [if_pos hc, if_pos hc, if_neg (by decide)]
    · rw [if_neg hc, if_neg hc, if_pos rfl]
      have e1 : textD 2 [nodeI 162 L] = itemL 162 (bodyL (textD 1) (nodeI 162 L)) := by simp [textD, nodeI, It.tag]
      have e2 : bodyL (textD 1) (nodeI 162 L) = textD 1 (L.map leafI) := body_made made_162
      rw [e1, e2]
      exact itemL_itA (t := 162) ⟨by decide, by decide⟩ (text_leaf L h (by omega)) (by omega)
theorem tell_longA {L : List (Int × ByteArray)} (h : goodL L) {x : Int × ByteArray} (hx : x ∈ L) (hs : 65535 < x.2.size) : tellE 162 L 0 = 2 ∧ tellS 162 L 0 = ⟨#[]⟩ := by
  obtain ⟨a, b⟩ := tell_outA L h
  have h1 := inL_ge hx
  have h2 := itS_size 162 (inL L)
  rw [a, b]
  unfold outE outS
  rw [if_pos (by omega), if_pos (by omega)]
  exact ⟨rfl, rfl⟩
theorem tell_wrongA {t : Int} {L : List (Int × ByteArray)} {er : Int} (h : er ≠ 0) : tellE t L er = er ∧ tellS t L er = ⟨#[]⟩ := by
  unfold tellE tellS
  rw [if_neg h, if_neg h]
  exact ⟨rfl, rfl⟩
theorem inL_app (L M : List (Int × ByteArray)) : inL (L ++ M) = inL L ++ inL M := by
  induction L with
  | nil => exact (nil_app _).symm
  | cons x r ih =>
    show itS x.1 x.2 ++ inL (r ++ M) = (itS x.1 x.2 ++ inL r) ++ inL M
    rw [ih, ByteArray.append_assoc]
theorem inL_one (t : Int) (s : ByteArray) : inL [(t, s)] = itS t s := by
  show itS t s ++ (⟨#[]⟩ : ByteArray) = _
  exact app_nil _
/-- is a text among them too long? -/
def longL (L : List (Int × ByteArray)) : Bool := L.any (fun x => decide (65535 < x.2.size))
/-- what the document's own says of its texts -/
theorem tellA {L : List (Int × ByteArray)} (h : goodL L) : tellE 162 L 0 = (bif longL L then 2 else outE 162 (inL L)) ∧ tellS 162 L 0 = (bif longL L then ⟨#[]⟩ else outS 162 (inL L)) := by
  cases hl : longL L with
  | false => exact tell_outA L h
  | true =>
    obtain ⟨x, hx, hs⟩ := List.any_eq_true.1 hl
    exact tell_longA h hx (of_decide_eq_true hs)
end Go.Proofs.YtfpglpefofcdeaaGreatDoor
