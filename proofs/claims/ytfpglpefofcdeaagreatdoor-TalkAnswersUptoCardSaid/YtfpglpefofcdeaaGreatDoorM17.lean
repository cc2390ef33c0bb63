/- Answer of the program. -/
import Derived.Test.YtfpglpefofcdeaaGreatDoorM16
import Derived.Deep.MidRow
namespace Go.Proofs.YtfpglpefofcdeaaGreatDoor
open Go.RowKit
set_option linter.unusedVariables false
set_option linter.unusedSimpArgs false
set_option maxRecDepth 100000

theorem infoAn : (Tryz.prog.info? 37).map (·.size) = some 24 := by kernel_rfl
def ansL0 (a : An) : List (Int × ByteArray) := [] ++ [(128, numS a.er 1)] ++ [(129, numS a.dO 1)]
def ansW0 (a : An) : Int := blE (blE 0 (numE a.er 1)) (numE a.dO 1)
/-- what an answer says, text by text -/
def ansL (a : An) : List (Int × ByteArray) := if a.er = 0 then ansL0 a ++ addL a else if a.er = 10 ∧ a.dO = 4 then ansL0 a ++ [(138, numS a.left 1)] else ansL0 a
/-- the first thing that is wrong with it -/
def ansW (a : An) : Int := if a.er = 0 then addW a (ansW0 a) else if a.er = 10 ∧ a.dO = 4 then blE (ansW0 a) (numE a.left 1) else ansW0 a
def answerE (a : An) : Int := bif inT a.dO 1 7 then tellE 162 (ansL a) (ansW a) else 4
def answerS (a : An) : ByteArray := bif inT a.dO 1 7 then tellS 162 (ansL a) (ansW a) else ⟨#[]⟩
/-- how much it bears -/
def anZ (a : An) : Nat := a.fl.isig.size + a.fl.irest.size + a.fl.csig.size + a.fl.crest.size + a.sl.size + a.bsig.size + a.brest.size
theorem appsS_le (l : List XApp) : (appsS l).size ≤ 65535 := by
  by_cases h : appsE l = 0
  · exact appsS_size h
  · unfold appsS; rw [if_neg h]; exact Nat.zero_le _
theorem fileS_le (f : Fl) : (fileS f).size ≤ 300000 := by
  unfold fileS
  split
  · rename_i h
    unfold fileE at h
    by_cases h1 : idB f.id = false
    · rw [if_pos h1] at h; cases h
    rw [if_neg h1] at h
    by_cases h2 : appsE f.apps = 0
    case neg => rw [if_pos h2] at h; exact absurd h h2
    rw [if_neg (by simpa using h2)] at h
    by_cases h3 : waysE f.ways = 0
    case neg => rw [if_pos h3] at h; exact absurd h h3
    rw [if_neg (by simpa using h3)] at h
    by_cases h4 : fieldsE f.row = 0
    case neg => rw [if_pos h4] at h; exact absurd h h4
    have hidz : f.id.size ≤ 19 := by
      have h1' : idB f.id = true := by simpa using h1
      unfold idB at h1'
      have h2 := inT_true.1 (Bool.and_eq_true_iff.1 h1').1
      omega
    have e0 := appsS_size h2
    have e1 : (wayT f.ways).size ≤ 76 := by
      unfold wayT
      rw [ByteArray.size_append, ByteArray.size_append, strOfNums_size, wayL_len]
      have := numS_size f.ways.x 8; have := numS_size f.ways.y 8; have := (waysE_zero h3).1; omega
    have e2 : (masksS f.md f.mo f.mf).size ≤ 24 := by
      unfold masksS
      split
      · rw [ByteArray.size_append, ByteArray.size_append]
        have := numS_size f.md 2; have := numS_size f.mo 2; have := numS_size f.mf 2; omega
      · exact Nat.zero_le _
    have e3 : (printS f.row).size ≤ 400 := by
      rw [show printS f.row = strOfNums (textL f.row) by unfold printS; rw [if_pos h4], strOfNums_size]
      have := textL_length f.row; have := (fieldsE_zero h4).2; omega
    rw [rowS_size]
    have := rowN_bulk (fileL f)
    have hb : bulkT (fileL f) ≤ 66100 := by simp only [fileL, bulkT]; omega
    omega
  · exact Nat.zero_le _
theorem ansL0_ok (a : An) : okL (ansL0 a) ∧ wtL (ansL0 a) ≤ 20 := by
  have z1 := numS_size a.er 1; have z2 := numS_size a.dO 1
  refine ⟨fun x hx => ?_, by simp only [ansL0, wtL, List.nil_append, List.map_append, List.map_cons, List.map_nil, List.sum_append, List.sum_cons, List.sum_nil]; omega⟩
  simp only [ansL0, List.nil_append, List.mem_append, List.mem_cons, List.not_mem_nil, or_false] at hx
  unfold maxLen
  rcases hx with rfl | rfl <;> exact ⟨by dsimp only; omega, by dsimp only; omega⟩
theorem okL_append {l m : List (Int × ByteArray)} (h : okL l) (k : okL m) : okL (l ++ m) := fun x hx => (List.mem_append.1 hx).elim (h x) (k x)
theorem wtL_append (l m : List (Int × ByteArray)) : wtL (l ++ m) = wtL l + wtL m := by unfold wtL; rw [List.map_append, List.sum_append]
theorem addL_ok (a : An) (h : anZ a ≤ 1048576) : okL (addL a) ∧ wtL (addL a) ≤ 1500000 ∧ (addL a).length ≤ 7 := by
  have z1 := appsS_le a.apps; have z2 := fileS_le a.fl; have z3 := numS_size a.count 2; have z4 := numS_size a.last 2; have z5 := numS_size a.left 1; have z6 := numS_size a.kind 1; have z7 := numS_size a.rcount 2
  unfold anZ at h
  unfold addL
  split
  · refine ⟨fun x hx => ?_, by simp only [wtL, List.map_cons, List.map_nil, List.sum_cons, List.sum_nil]; omega, by simp⟩
    simp only [List.mem_cons, List.not_mem_nil, or_false] at hx
    unfold maxLen
    subst hx; exact ⟨by dsimp only; omega, by dsimp only; omega⟩
  split
  · refine ⟨fun x hx => ?_, by simp only [wtL, List.map_cons, List.map_nil, List.sum_cons, List.sum_nil]; omega, by simp⟩
    simp only [List.mem_cons, List.not_mem_nil, or_false] at hx
    unfold maxLen
    rcases hx with rfl | rfl | rfl | rfl | rfl | rfl | rfl <;> exact ⟨by dsimp only; omega, by dsimp only; omega⟩
  split
  · refine ⟨fun x hx => ?_, by simp only [wtL, List.map_cons, List.map_nil, List.sum_cons, List.sum_nil]; omega, by simp⟩
    simp only [List.mem_cons, List.not_mem_nil, or_false] at hx
    unfold maxLen
    subst hx; exact ⟨by dsimp only; omega, by dsimp only; omega⟩
  split
  · refine ⟨fun x hx => ?_, by simp only [wtL, List.map_cons, List.map_nil, List.sum_cons, List.sum_nil]; omega, by simp⟩
    simp only [List.mem_cons, List.not_mem_nil, or_false] at hx
    unfold maxLen
    rcases hx with rfl | rfl | rfl | rfl | rfl <;> exact ⟨by dsimp only; omega, by dsimp only; omega⟩
  · exact ⟨okL_nil, Nat.zero_le _, Nat.zero_le _⟩
theorem ansL_ok (a : An) (h : anZ a ≤ 1048576) : okL (ansL a) ∧ wtL (ansL a) ≤ 2097000 ∧ (ansL a).length ≤ 20 := by
  obtain ⟨h1, h2⟩ := ansL0_ok a
  obtain ⟨k1, k2, k3⟩ := addL_ok a h
  have z5 := numS_size a.left 1
  have hl0 : (ansL0 a).length = 2 := rfl
  unfold ansL
  split
  · exact ⟨okL_append h1 k1, by rw [wtL_append]; omega, by rw [List.length_append]; omega⟩
  split
  · refine ⟨okL_append h1 (fun x hx => ?_), by rw [wtL_append]; simp only [wtL, List.map_cons, List.map_nil, List.sum_cons, List.sum_nil] at h2 ⊢; omega, by rw [List.length_append]; simp; omega⟩
    simp only [List.mem_cons, List.not_mem_nil, or_false] at hx
    unfold maxLen
    subst hx; exact ⟨by dsimp only; omega, by dsimp only; omega⟩
  · exact ⟨h1, by omega, by omega⟩
theorem answer_no (a : An) (w : World) (hd : inT a.dO 1 7 = false) :
    Calls Tryz.prog 5 #[.agg (anC a)] w fun e w' => e = .returned (.tuple #[.string (answerS a), .int .i64 (answerE a)]) ∧ Below w.heap.size w w' := by
  have HQ : Hid (answerS a = ⟨#[]⟩ ∧ answerE a = 4) := hide ⟨by unfold answerS; rw [hd]; rfl, by unfold answerE; rw [hd]; rfl⟩
  obtain ⟨S, hS⟩ : ∃ S, S = answerS a := ⟨_, rfl⟩
  obtain ⟨E, hE⟩ : ∃ E, E = answerE a := ⟨_, rfl⟩
  rw [← hS, ← hE] at HQ
  rw [← hS, ← hE]
  have N1 := hide (fun W => isDo_any a.dO W)
  rw [hd] at N1
  have HB0 := hide ((Below.refl w.heap.size w).alloc (Nat.le_refl _) (.cells (anC a) 37))
  unfold anC at HB0
  unfold anC
  clear hd hS hE
  go_enter Tryz.func5, Tryz.ntmps5
  go_wp2_with fail
  refine (unhide N1 _).mono ?_
  rintro e w1 ⟨rfl, rfl⟩
  go_wp2
  go_ret2
  exact ⟨retPT (unhide HQ).1.symm (unhide HQ).2.symm, unhide HB0⟩
set_option maxHeartbeats 8000000 in
theorem answer_ok (a : An) (w : World) (hok : AnOK w a) (hz : anZ a ≤ 1048576) (hd : inT a.dO 1 7 = true) (he : a.er = 0) :
    Calls Tryz.prog 5 #[.agg (anC a)] w fun e w' => e = .returned (.tuple #[.string (answerS a), .int .i64 (answerE a)]) ∧ Below w.heap.size w w' := by
  obtain ⟨S, hS⟩ : ∃ S, S = answerS a := ⟨_, rfl⟩
  obtain ⟨E, hE⟩ : ∃ E, E = answerE a := ⟨_, rfl⟩
  rw [← hS, ← hE]
  have HQ : Hid (S = tellS 162 (ansL a) (ansW a) ∧ E = tellE 162 (ansL a) (ansW a)) := hide ⟨by rw [hS]; unfold answerS; rw [hd]; rfl, by rw [hE]; unfold answerE; rw [hd]; rfl⟩
  obtain ⟨ok1, ok2, ok3⟩ := ansL_ok a hz
  have NPR := hide (fun (b : Nat) (W : World) (h : Parts W b (ansL a) (ansW a)) => tprint_any b (ansL a) (ansW a) 162 W h ok3 ok1 (by decide) ok2)
  obtain ⟨W1, hW1⟩ : ∃ W1, W1 = w.alloc (.cells (anC a) 37) := ⟨_, rfl⟩
  obtain ⟨W2, hW2⟩ : ∃ W2, W2 = W1.alloc (.cells #[.slice none 0 0, .int .i64 0] 57) := ⟨_, rfl⟩
  obtain ⟨b, hb⟩ : ∃ b, b = W1.heap.size := ⟨_, rfl⟩
  have hs1 : W1.heap.size = w.heap.size + 1 := by rw [hW1]; simp
  have hB1 : Below w.heap.size w W1 := by rw [hW1]; exact (Below.refl _ _).alloc (Nat.le_refl _) _
  have hB2 : Below W1.heap.size W1 W2 := by rw [hW2]; exact (Below.refl _ _).alloc (Nat.le_refl _) _
  have hX1 : W1.heap[w.heap.size]? = some (.cells (anC a) 37) := by rw [hW1]; exact heap_alloc_new _ _
  have hX2 : W2.heap[w.heap.size]? = some (.cells (anC a) 37) := (hB2.block _ (by omega)).trans hX1
  have HC : Hid (∀ wx, Kp b W2 wx → AnAt wx w.heap.size a) := hide (fun wx k => anAt_of ((k.bel.block _ (by omega)).trans hX2))
  have HBL : Hid (∀ wx, Kp b W2 wx → Below w.heap.size w wx) := hide (fun wx k => (hB1.trans (hB2.mono hB1.size)).trans (k.bel.mono (by omega)))
  have HOKK : Hid (∀ wx, Kp b W2 wx → ∀ W, Below b wx W → AnOK W a) := hide (fun wx k W hW => hok.below (((hB1.trans (hB2.mono hB1.size)).trans (k.bel.mono (by omega))).trans (hW.mono (by omega))))
  have HP0 : Hid (Parts W2 b [] 0) := hide (by rw [hW2, hb]; exact parts_new W1)
  have HK0 : Hid (Kp b W2 W2) := hide (Kp.refl _ _)
  have ND := hide (fun W => isDo_any a.dO W)
  rw [hd] at ND
  have N1 := hide (fun (W : World) (h : Parts W b [] 0) => pnumber_anyK b [] 0 128 a.er 1 W h (by simp) hok.er)
  have N2 := hide (fun (W : World) (h : Parts W b ([] ++ [(128, numS a.er 1)]) (blE 0 (numE a.er 1))) => pnumber_anyK b ([] ++ [(128, numS a.er 1)]) (blE 0 (numE a.er 1)) 129 a.dO 1 W h (by simp) hok.dO)
  obtain ⟨c0, c1, c2, c3, c4, c5, c6, c7, c8, c9, c10, c11, c12, c13, c14, c15, c16, c17, c18, c19, c20, c21, c22, c23⟩ := unhide HC W2 (Kp.refl _ _)
  have d1 : W1.cell? ⟨w.heap.size, 1, none⟩ = some (.int .i64 a.dO) := (anAt_of hX1).2.1
  obtain ⟨X, hX⟩ : ∃ X : List Value, anC a = X.toArray := ⟨(anC a).toList, by simp⟩
  have HR : Hid (∀ wx, Kp b W2 wx → wx.rangeAt w.heap.size 0 X) := hide (fun wx k j u hu => by
    have e := (k.bel.block _ (by omega)).trans hX2
    rw [hX] at e
    rw [Nat.zero_add]
    simp only [World.cell?, e]
    simpa using hu)
  have HIN : Hid ((Tryz.prog.info? 37).map (·.size) = some X.length) := hide (by
    have : X.length = 24 := by have := congrArg Array.size hX; simpa [anC] using this.symm
    rw [this]; exact infoAn)
  have HLE : Hid (ansL a = ansL0 a ++ addL a ∧ ansW a = addW a (ansW0 a)) := hide ⟨by unfold ansL; rw [if_pos he], by unfold ansW; rw [if_pos he]⟩
  have heb : (a.er == 0) = true := by rw [he]; rfl
  have N3 := hide (fun (W : World) (h : Parts W b (ansL0 a) (ansW0 a)) (hk : ∀ W', Below b W W' → AnOK W' a) => panswer_any a b (ansL0 a) (ansW0 a) W h (by show (2 : Nat) ≤ 4; decide) hk)
  rw [hX] at N3
  clear he
  rw [hX] at hW1
  rw [hX]
  have HW1 := hide hW1; have HW2 := hide hW2; have HBB := hide hb
  clear hz hS hE ok1 ok2 ok3 hW1 hW2 hs1 hB1 hB2 hX1 hX2 hok hd hX
  go_enter Tryz.func5, Tryz.ntmps5
  go_upto_region 1 with fail
  rw [← unhide HW1]
  go_wp2_with fail
  refine (unhide ND _).mono ?_
  rintro e w0 ⟨rfl, hw0⟩
  have hw0' := hw0.symm
  subst hw0'
  go_upto_region 4 with fail
  rw [← unhide HW2, ← hb]
  clear hb d1
  go_wp2_with fail
  refine (unhide N1 _ (unhide HP0)).mono ?_
  rintro e y1 ⟨rfl, hP, kK⟩
  have HP1 := hide hP; have HK1 := hide ((unhide HK0).trans kK)
  clear hP kK
  obtain ⟨c0, c1, c2, c3, c4, c5, c6, c7, c8, c9, c10, c11, c12, c13, c14, c15, c16, c17, c18, c19, c20, c21, c22, c23⟩ := unhide HC y1 (unhide HK1)
  go_wp2_with fail
  refine (unhide N2 _ (unhide HP1)).mono ?_
  rintro e y2 ⟨rfl, hP, kK⟩
  have HP2 : Hid (Parts y2 b (ansL0 a) (ansW0 a)) := hide hP
  have HK2 := hide ((unhide HK1).trans kK)
  clear hP kK
  obtain ⟨c0, c1, c2, c3, c4, c5, c6, c7, c8, c9, c10, c11, c12, c13, c14, c15, c16, c17, c18, c19, c20, c21, c22, c23⟩ := unhide HC y2 (unhide HK2)
  have hR2 := hide (unhide HR _ (unhide HK2))
  go_wp2_with (refine wpList_load_mid rfl _ _ rfl w.heap.size 0 rfl X _ (unhide hR2) Tryz.underlying37 rfl (unhide HIN) ?_)
  refine (unhide N3 _ (unhide HP2) (unhide HOKK _ (unhide HK2))).mono ?_
  rintro e y3 ⟨rfl, hP, kK⟩
  have HPL : Hid (Parts y3 b (ansL a) (ansW a)) := hide (by rw [(unhide HLE).1, (unhide HLE).2]; exact hP)
  have HK3 := hide ((unhide HK2).trans kK)
  clear hP kK
  go_wp2_with fail
  refine (unhide NPR b _ (unhide HPL)).mono ?_
  rintro e yz ⟨rfl, kz⟩
  have HKZ := hide (((unhide HBL) _ (unhide HK3)).trans (kz.mono (unhide HBL _ (unhide HK3)).size))
  clear kz
  go_wp2
  go_ret2
  exact ⟨retPT (unhide HQ).1.symm (unhide HQ).2.symm, unhide HKZ⟩
set_option maxHeartbeats 8000000 in
theorem answer_pin (a : An) (w : World) (hok : AnOK w a) (hz : anZ a ≤ 1048576) (hd : inT a.dO 1 7 = true) (he : a.er = 10) (h4 : a.dO = 4) :
    Calls Tryz.prog 5 #[.agg (anC a)] w fun e w' => e = .returned (.tuple #[.string (answerS a), .int .i64 (answerE a)]) ∧ Below w.heap.size w w' := by
  obtain ⟨S, hS⟩ : ∃ S, S = answerS a := ⟨_, rfl⟩
  obtain ⟨E, hE⟩ : ∃ E, E = answerE a := ⟨_, rfl⟩
  rw [← hS, ← hE]
  have HQ : Hid (S = tellS 162 (ansL a) (ansW a) ∧ E = tellE 162 (ansL a) (ansW a)) := hide ⟨by rw [hS]; unfold answerS; rw [hd]; rfl, by rw [hE]; unfold answerE; rw [hd]; rfl⟩
  obtain ⟨ok1, ok2, ok3⟩ := ansL_ok a hz
  have NPR := hide (fun (b : Nat) (W : World) (h : Parts W b (ansL a) (ansW a)) => tprint_any b (ansL a) (ansW a) 162 W h ok3 ok1 (by decide) ok2)
  obtain ⟨W1, hW1⟩ : ∃ W1, W1 = w.alloc (.cells (anC a) 37) := ⟨_, rfl⟩
  obtain ⟨W2, hW2⟩ : ∃ W2, W2 = W1.alloc (.cells #[.slice none 0 0, .int .i64 0] 57) := ⟨_, rfl⟩
  obtain ⟨b, hb⟩ : ∃ b, b = W1.heap.size := ⟨_, rfl⟩
  have hs1 : W1.heap.size = w.heap.size + 1 := by rw [hW1]; simp
  have hB1 : Below w.heap.size w W1 := by rw [hW1]; exact (Below.refl _ _).alloc (Nat.le_refl _) _
  have hB2 : Below W1.heap.size W1 W2 := by rw [hW2]; exact (Below.refl _ _).alloc (Nat.le_refl _) _
  have hX1 : W1.heap[w.heap.size]? = some (.cells (anC a) 37) := by rw [hW1]; exact heap_alloc_new _ _
  have hX2 : W2.heap[w.heap.size]? = some (.cells (anC a) 37) := (hB2.block _ (by omega)).trans hX1
  have HC : Hid (∀ wx, Kp b W2 wx → AnAt wx w.heap.size a) := hide (fun wx k => anAt_of ((k.bel.block _ (by omega)).trans hX2))
  have HBL : Hid (∀ wx, Kp b W2 wx → Below w.heap.size w wx) := hide (fun wx k => (hB1.trans (hB2.mono hB1.size)).trans (k.bel.mono (by omega)))
  have HOKK : Hid (∀ wx, Kp b W2 wx → ∀ W, Below b wx W → AnOK W a) := hide (fun wx k W hW => hok.below (((hB1.trans (hB2.mono hB1.size)).trans (k.bel.mono (by omega))).trans (hW.mono (by omega))))
  have HP0 : Hid (Parts W2 b [] 0) := hide (by rw [hW2, hb]; exact parts_new W1)
  have HK0 : Hid (Kp b W2 W2) := hide (Kp.refl _ _)
  have ND := hide (fun W => isDo_any a.dO W)
  rw [hd] at ND
  have N1 := hide (fun (W : World) (h : Parts W b [] 0) => pnumber_anyK b [] 0 128 a.er 1 W h (by simp) hok.er)
  have N2 := hide (fun (W : World) (h : Parts W b ([] ++ [(128, numS a.er 1)]) (blE 0 (numE a.er 1))) => pnumber_anyK b ([] ++ [(128, numS a.er 1)]) (blE 0 (numE a.er 1)) 129 a.dO 1 W h (by simp) hok.dO)
  obtain ⟨c0, c1, c2, c3, c4, c5, c6, c7, c8, c9, c10, c11, c12, c13, c14, c15, c16, c17, c18, c19, c20, c21, c22, c23⟩ := unhide HC W2 (Kp.refl _ _)
  have d1 : W1.cell? ⟨w.heap.size, 1, none⟩ = some (.int .i64 a.dO) := (anAt_of hX1).2.1
  obtain ⟨X, hX⟩ : ∃ X : List Value, anC a = X.toArray := ⟨(anC a).toList, by simp⟩
  have HR : Hid (∀ wx, Kp b W2 wx → wx.rangeAt w.heap.size 0 X) := hide (fun wx k j u hu => by
    have e := (k.bel.block _ (by omega)).trans hX2
    rw [hX] at e
    rw [Nat.zero_add]
    simp only [World.cell?, e]
    simpa using hu)
  have HIN : Hid ((Tryz.prog.info? 37).map (·.size) = some X.length) := hide (by
    have : X.length = 24 := by have := congrArg Array.size hX; simpa [anC] using this.symm
    rw [this]; exact infoAn)
  have HLE : Hid (ansL a = ansL0 a ++ [(138, numS a.left 1)] ∧ ansW a = blE (ansW0 a) (numE a.left 1)) := hide ⟨by unfold ansL; rw [if_neg (by omega), if_pos ⟨he, h4⟩], by unfold ansW; rw [if_neg (by omega), if_pos ⟨he, h4⟩]⟩
  have heb : (a.er == 0) = false := by rw [he]; rfl
  have heb2 : (a.er == 10) = true := by rw [he]; rfl
  have hdb : (a.dO == 4) = true := by rw [h4]; rfl
  have N3 := hide (fun (W : World) (h : Parts W b (ansL0 a) (ansW0 a)) => pnumber_anyK b (ansL0 a) (ansW0 a) 138 a.left 1 W h (by show (2 : Nat) ≤ 20; decide) hok.left)
  clear he h4
  rw [hX] at hW1
  rw [hX]
  have HW1 := hide hW1; have HW2 := hide hW2; have HBB := hide hb
  clear hz hS hE ok1 ok2 ok3 hW1 hW2 hs1 hB1 hB2 hX1 hX2 hok hd hX
  go_enter Tryz.func5, Tryz.ntmps5
  go_upto_region 1 with fail
  rw [← unhide HW1]
  go_wp2_with fail
  refine (unhide ND _).mono ?_
  rintro e w0 ⟨rfl, hw0⟩
  have hw0' := hw0.symm
  subst hw0'
  go_upto_region 4 with fail
  rw [← unhide HW2, ← hb]
  clear hb d1
  go_wp2_with fail
  refine (unhide N1 _ (unhide HP0)).mono ?_
  rintro e y1 ⟨rfl, hP, kK⟩
  have HP1 := hide hP; have HK1 := hide ((unhide HK0).trans kK)
  clear hP kK
  obtain ⟨c0, c1, c2, c3, c4, c5, c6, c7, c8, c9, c10, c11, c12, c13, c14, c15, c16, c17, c18, c19, c20, c21, c22, c23⟩ := unhide HC y1 (unhide HK1)
  go_wp2_with fail
  refine (unhide N2 _ (unhide HP1)).mono ?_
  rintro e y2 ⟨rfl, hP, kK⟩
  have HP2 : Hid (Parts y2 b (ansL0 a) (ansW0 a)) := hide hP
  have HK2 := hide ((unhide HK1).trans kK)
  clear hP kK
  obtain ⟨c0, c1, c2, c3, c4, c5, c6, c7, c8, c9, c10, c11, c12, c13, c14, c15, c16, c17, c18, c19, c20, c21, c22, c23⟩ := unhide HC y2 (unhide HK2)
  go_wp2_with fail
  refine (unhide N3 _ (unhide HP2)).mono ?_
  rintro e y3 ⟨rfl, hP, kK⟩
  have HPL : Hid (Parts y3 b (ansL a) (ansW a)) := hide (by rw [(unhide HLE).1, (unhide HLE).2]; exact hP)
  have HK3 := hide ((unhide HK2).trans kK)
  clear hP kK
  go_wp2_with fail
  refine (unhide NPR b _ (unhide HPL)).mono ?_
  rintro e yz ⟨rfl, kz⟩
  have HKZ := hide (((unhide HBL) _ (unhide HK3)).trans (kz.mono (unhide HBL _ (unhide HK3)).size))
  clear kz
  go_wp2
  go_ret2
  exact ⟨retPT (unhide HQ).1.symm (unhide HQ).2.symm, unhide HKZ⟩
set_option maxHeartbeats 8000000 in
theorem answer_pin2 (a : An) (w : World) (hok : AnOK w a) (hz : anZ a ≤ 1048576) (hd : inT a.dO 1 7 = true) (he : a.er = 10) (h4 : a.dO ≠ 4) :
    Calls Tryz.prog 5 #[.agg (anC a)] w fun e w' => e = .returned (.tuple #[.string (answerS a), .int .i64 (answerE a)]) ∧ Below w.heap.size w w' := by
  obtain ⟨S, hS⟩ : ∃ S, S = answerS a := ⟨_, rfl⟩
  obtain ⟨E, hE⟩ : ∃ E, E = answerE a := ⟨_, rfl⟩
  rw [← hS, ← hE]
  have HQ : Hid (S = tellS 162 (ansL a) (ansW a) ∧ E = tellE 162 (ansL a) (ansW a)) := hide ⟨by rw [hS]; unfold answerS; rw [hd]; rfl, by rw [hE]; unfold answerE; rw [hd]; rfl⟩
  obtain ⟨ok1, ok2, ok3⟩ := ansL_ok a hz
  have NPR := hide (fun (b : Nat) (W : World) (h : Parts W b (ansL a) (ansW a)) => tprint_any b (ansL a) (ansW a) 162 W h ok3 ok1 (by decide) ok2)
  obtain ⟨W1, hW1⟩ : ∃ W1, W1 = w.alloc (.cells (anC a) 37) := ⟨_, rfl⟩
  obtain ⟨W2, hW2⟩ : ∃ W2, W2 = W1.alloc (.cells #[.slice none 0 0, .int .i64 0] 57) := ⟨_, rfl⟩
  obtain ⟨b, hb⟩ : ∃ b, b = W1.heap.size := ⟨_, rfl⟩
  have hs1 : W1.heap.size = w.heap.size + 1 := by rw [hW1]; simp
  have hB1 : Below w.heap.size w W1 := by rw [hW1]; exact (Below.refl _ _).alloc (Nat.le_refl _) _
  have hB2 : Below W1.heap.size W1 W2 := by rw [hW2]; exact (Below.refl _ _).alloc (Nat.le_refl _) _
  have hX1 : W1.heap[w.heap.size]? = some (.cells (anC a) 37) := by rw [hW1]; exact heap_alloc_new _ _
  have hX2 : W2.heap[w.heap.size]? = some (.cells (anC a) 37) := (hB2.block _ (by omega)).trans hX1
  have HC : Hid (∀ wx, Kp b W2 wx → AnAt wx w.heap.size a) := hide (fun wx k => anAt_of ((k.bel.block _ (by omega)).trans hX2))
  have HBL : Hid (∀ wx, Kp b W2 wx → Below w.heap.size w wx) := hide (fun wx k => (hB1.trans (hB2.mono hB1.size)).trans (k.bel.mono (by omega)))
  have HOKK : Hid (∀ wx, Kp b W2 wx → ∀ W, Below b wx W → AnOK W a) := hide (fun wx k W hW => hok.below (((hB1.trans (hB2.mono hB1.size)).trans (k.bel.mono (by omega))).trans (hW.mono (by omega))))
  have HP0 : Hid (Parts W2 b [] 0) := hide (by rw [hW2, hb]; exact parts_new W1)
  have HK0 : Hid (Kp b W2 W2) := hide (Kp.refl _ _)
  have ND := hide (fun W => isDo_any a.dO W)
  rw [hd] at ND
  have N1 := hide (fun (W : World) (h : Parts W b [] 0) => pnumber_anyK b [] 0 128 a.er 1 W h (by simp) hok.er)
  have N2 := hide (fun (W : World) (h : Parts W b ([] ++ [(128, numS a.er 1)]) (blE 0 (numE a.er 1))) => pnumber_anyK b ([] ++ [(128, numS a.er 1)]) (blE 0 (numE a.er 1)) 129 a.dO 1 W h (by simp) hok.dO)
  obtain ⟨c0, c1, c2, c3, c4, c5, c6, c7, c8, c9, c10, c11, c12, c13, c14, c15, c16, c17, c18, c19, c20, c21, c22, c23⟩ := unhide HC W2 (Kp.refl _ _)
  have d1 : W1.cell? ⟨w.heap.size, 1, none⟩ = some (.int .i64 a.dO) := (anAt_of hX1).2.1
  obtain ⟨X, hX⟩ : ∃ X : List Value, anC a = X.toArray := ⟨(anC a).toList, by simp⟩
  have HR : Hid (∀ wx, Kp b W2 wx → wx.rangeAt w.heap.size 0 X) := hide (fun wx k j u hu => by
    have e := (k.bel.block _ (by omega)).trans hX2
    rw [hX] at e
    rw [Nat.zero_add]
    simp only [World.cell?, e]
    simpa using hu)
  have HIN : Hid ((Tryz.prog.info? 37).map (·.size) = some X.length) := hide (by
    have : X.length = 24 := by have := congrArg Array.size hX; simpa [anC] using this.symm
    rw [this]; exact infoAn)
  have heb : (a.er == 0) = false := by rw [he]; rfl
  have heb2 : (a.er == 10) = true := by rw [he]; rfl
  have hdb : (a.dO == 4) = false := by simpa using h4
  have HLE : Hid (ansL a = ansL0 a ∧ ansW a = ansW0 a) := hide ⟨by unfold ansL; rw [if_neg (by omega), if_neg (by omega)], by unfold ansW; rw [if_neg (by omega), if_neg (by omega)]⟩
  clear he h4
  rw [hX] at hW1
  rw [hX]
  have HW1 := hide hW1; have HW2 := hide hW2; have HBB := hide hb
  clear hz hS hE ok1 ok2 ok3 hW1 hW2 hs1 hB1 hB2 hX1 hX2 hok hd hX
  go_enter Tryz.func5, Tryz.ntmps5
  go_upto_region 1 with fail
  rw [← unhide HW1]
  go_wp2_with fail
  refine (unhide ND _).mono ?_
  rintro e w0 ⟨rfl, hw0⟩
  have hw0' := hw0.symm
  subst hw0'
  go_upto_region 4 with fail
  rw [← unhide HW2, ← hb]
  clear hb d1
  go_wp2_with fail
  refine (unhide N1 _ (unhide HP0)).mono ?_
  rintro e y1 ⟨rfl, hP, kK⟩
  have HP1 := hide hP; have HK1 := hide ((unhide HK0).trans kK)
  clear hP kK
  obtain ⟨c0, c1, c2, c3, c4, c5, c6, c7, c8, c9, c10, c11, c12, c13, c14, c15, c16, c17, c18, c19, c20, c21, c22, c23⟩ := unhide HC y1 (unhide HK1)
  go_wp2_with fail
  refine (unhide N2 _ (unhide HP1)).mono ?_
  rintro e y2 ⟨rfl, hP, kK⟩
  have HP2 : Hid (Parts y2 b (ansL0 a) (ansW0 a)) := hide hP
  have HK2 := hide ((unhide HK1).trans kK)
  clear hP kK
  obtain ⟨c0, c1, c2, c3, c4, c5, c6, c7, c8, c9, c10, c11, c12, c13, c14, c15, c16, c17, c18, c19, c20, c21, c22, c23⟩ := unhide HC y2 (unhide HK2)
  have HPL : Hid (Parts y2 b (ansL a) (ansW a)) := hide (by rw [(unhide HLE).1, (unhide HLE).2]; exact unhide HP2)
  go_wp2_with fail
  refine (unhide NPR b _ (unhide HPL)).mono ?_
  rintro e yz ⟨rfl, kz⟩
  have HKZ := hide (((unhide HBL) _ (unhide HK2)).trans (kz.mono (unhide HBL _ (unhide HK2)).size))
  clear kz
  go_wp2
  go_ret2
  exact ⟨retPT (unhide HQ).1.symm (unhide HQ).2.symm, unhide HKZ⟩
set_option maxHeartbeats 8000000 in
theorem answer_bad (a : An) (w : World) (hok : AnOK w a) (hz : anZ a ≤ 1048576) (hd : inT a.dO 1 7 = true) (he : a.er ≠ 0) (h4 : a.er ≠ 10) :
    Calls Tryz.prog 5 #[.agg (anC a)] w fun e w' => e = .returned (.tuple #[.string (answerS a), .int .i64 (answerE a)]) ∧ Below w.heap.size w w' := by
  obtain ⟨S, hS⟩ : ∃ S, S = answerS a := ⟨_, rfl⟩
  obtain ⟨E, hE⟩ : ∃ E, E = answerE a := ⟨_, rfl⟩
  rw [← hS, ← hE]
  have HQ : Hid (S = tellS 162 (ansL a) (ansW a) ∧ E = tellE 162 (ansL a) (ansW a)) := hide ⟨by rw [hS]; unfold answerS; rw [hd]; rfl, by rw [hE]; unfold answerE; rw [hd]; rfl⟩
  obtain ⟨ok1, ok2, ok3⟩ := ansL_ok a hz
  have NPR := hide (fun (b : Nat) (W : World) (h : Parts W b (ansL a) (ansW a)) => tprint_any b (ansL a) (ansW a) 162 W h ok3 ok1 (by decide) ok2)
  obtain ⟨W1, hW1⟩ : ∃ W1, W1 = w.alloc (.cells (anC a) 37) := ⟨_, rfl⟩
  obtain ⟨W2, hW2⟩ : ∃ W2, W2 = W1.alloc (.cells #[.slice none 0 0, .int .i64 0] 57) := ⟨_, rfl⟩
  obtain ⟨b, hb⟩ : ∃ b, b = W1.heap.size := ⟨_, rfl⟩
  have hs1 : W1.heap.size = w.heap.size + 1 := by rw [hW1]; simp
  have hB1 : Below w.heap.size w W1 := by rw [hW1]; exact (Below.refl _ _).alloc (Nat.le_refl _) _
  have hB2 : Below W1.heap.size W1 W2 := by rw [hW2]; exact (Below.refl _ _).alloc (Nat.le_refl _) _
  have hX1 : W1.heap[w.heap.size]? = some (.cells (anC a) 37) := by rw [hW1]; exact heap_alloc_new _ _
  have hX2 : W2.heap[w.heap.size]? = some (.cells (anC a) 37) := (hB2.block _ (by omega)).trans hX1
  have HC : Hid (∀ wx, Kp b W2 wx → AnAt wx w.heap.size a) := hide (fun wx k => anAt_of ((k.bel.block _ (by omega)).trans hX2))
  have HBL : Hid (∀ wx, Kp b W2 wx → Below w.heap.size w wx) := hide (fun wx k => (hB1.trans (hB2.mono hB1.size)).trans (k.bel.mono (by omega)))
  have HOKK : Hid (∀ wx, Kp b W2 wx → ∀ W, Below b wx W → AnOK W a) := hide (fun wx k W hW => hok.below (((hB1.trans (hB2.mono hB1.size)).trans (k.bel.mono (by omega))).trans (hW.mono (by omega))))
  have HP0 : Hid (Parts W2 b [] 0) := hide (by rw [hW2, hb]; exact parts_new W1)
  have HK0 : Hid (Kp b W2 W2) := hide (Kp.refl _ _)
  have ND := hide (fun W => isDo_any a.dO W)
  rw [hd] at ND
  have N1 := hide (fun (W : World) (h : Parts W b [] 0) => pnumber_anyK b [] 0 128 a.er 1 W h (by simp) hok.er)
  have N2 := hide (fun (W : World) (h : Parts W b ([] ++ [(128, numS a.er 1)]) (blE 0 (numE a.er 1))) => pnumber_anyK b ([] ++ [(128, numS a.er 1)]) (blE 0 (numE a.er 1)) 129 a.dO 1 W h (by simp) hok.dO)
  obtain ⟨c0, c1, c2, c3, c4, c5, c6, c7, c8, c9, c10, c11, c12, c13, c14, c15, c16, c17, c18, c19, c20, c21, c22, c23⟩ := unhide HC W2 (Kp.refl _ _)
  have d1 : W1.cell? ⟨w.heap.size, 1, none⟩ = some (.int .i64 a.dO) := (anAt_of hX1).2.1
  obtain ⟨X, hX⟩ : ∃ X : List Value, anC a = X.toArray := ⟨(anC a).toList, by simp⟩
  have HR : Hid (∀ wx, Kp b W2 wx → wx.rangeAt w.heap.size 0 X) := hide (fun wx k j u hu => by
    have e := (k.bel.block _ (by omega)).trans hX2
    rw [hX] at e
    rw [Nat.zero_add]
    simp only [World.cell?, e]
    simpa using hu)
  have HIN : Hid ((Tryz.prog.info? 37).map (·.size) = some X.length) := hide (by
    have : X.length = 24 := by have := congrArg Array.size hX; simpa [anC] using this.symm
    rw [this]; exact infoAn)
  have heb : (a.er == 0) = false := by simpa using he
  have heb2 : (a.er == 10) = false := by simpa using h4
  have HLE : Hid (ansL a = ansL0 a ∧ ansW a = ansW0 a) := hide ⟨by unfold ansL; rw [if_neg (by omega), if_neg (by omega)], by unfold ansW; rw [if_neg (by omega), if_neg (by omega)]⟩
  clear he h4
  rw [hX] at hW1
  rw [hX]
  have HW1 := hide hW1; have HW2 := hide hW2; have HBB := hide hb
  clear hz hS hE ok1 ok2 ok3 hW1 hW2 hs1 hB1 hB2 hX1 hX2 hok hd hX
  go_enter Tryz.func5, Tryz.ntmps5
  go_upto_region 1 with fail
  rw [← unhide HW1]
  go_wp2_with fail
  refine (unhide ND _).mono ?_
  rintro e w0 ⟨rfl, hw0⟩
  have hw0' := hw0.symm
  subst hw0'
  go_upto_region 4 with fail
  rw [← unhide HW2, ← hb]
  clear hb d1
  go_wp2_with fail
  refine (unhide N1 _ (unhide HP0)).mono ?_
  rintro e y1 ⟨rfl, hP, kK⟩
  have HP1 := hide hP; have HK1 := hide ((unhide HK0).trans kK)
  clear hP kK
  obtain ⟨c0, c1, c2, c3, c4, c5, c6, c7, c8, c9, c10, c11, c12, c13, c14, c15, c16, c17, c18, c19, c20, c21, c22, c23⟩ := unhide HC y1 (unhide HK1)
  go_wp2_with fail
  refine (unhide N2 _ (unhide HP1)).mono ?_
  rintro e y2 ⟨rfl, hP, kK⟩
  have HP2 : Hid (Parts y2 b (ansL0 a) (ansW0 a)) := hide hP
  have HK2 := hide ((unhide HK1).trans kK)
  clear hP kK
  obtain ⟨c0, c1, c2, c3, c4, c5, c6, c7, c8, c9, c10, c11, c12, c13, c14, c15, c16, c17, c18, c19, c20, c21, c22, c23⟩ := unhide HC y2 (unhide HK2)
  have HPL : Hid (Parts y2 b (ansL a) (ansW a)) := hide (by rw [(unhide HLE).1, (unhide HLE).2]; exact unhide HP2)
  go_wp2_with fail
  refine (unhide NPR b _ (unhide HPL)).mono ?_
  rintro e yz ⟨rfl, kz⟩
  have HKZ := hide (((unhide HBL) _ (unhide HK2)).trans (kz.mono (unhide HBL _ (unhide HK2)).size))
  clear kz
  go_wp2
  go_ret2
  exact ⟨retPT (unhide HQ).1.symm (unhide HQ).2.symm, unhide HKZ⟩
theorem answer_any (a : An) (w : World) (hok : AnOK w a) (hz : anZ a ≤ 1048576) :
    Calls Tryz.prog 5 #[.agg (anC a)] w fun e w' => e = .returned (.tuple #[.string (answerS a), .int .i64 (answerE a)]) ∧ Below w.heap.size w w' := by
  cases hd : inT a.dO 1 7 with
  | false => exact answer_no a w hd
  | true =>
    by_cases h0 : a.er = 0
    · exact answer_ok a w hok hz hd h0
    by_cases h1 : a.er = 10
    · by_cases h4 : a.dO = 4
      · exact answer_pin a w hok hz hd h1 h4
      · exact answer_pin2 a w hok hz hd h1 h4
    · exact answer_bad a w hok hz hd h0 h1
end Go.Proofs.YtfpglpefofcdeaaGreatDoor
