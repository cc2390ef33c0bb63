/- A book's find: an entry. -/
import Derived.Test.YtbiipeapcclbkaaBkG
namespace Go.Proofs.Ytbiipeapcclbkaa
open Go.RowKit Go.Shelf
set_option linter.unusedVariables false
set_option linter.unusedSimpArgs false
set_option maxRecDepth 100000

section
variable {w w' : World} {B bb mb : Nat} {v pl : Value} {M : Mm}
set_option maxHeartbeats 8000000 in
/-- an entry lies there -/
theorem find_yes (h : StoAt w B bb mb v M pl) (ho : M.off = false) (n p : Nat) (e : En) (he : okEn e) (hl : LiesAt M.C p e) (hp : p + wid e < M.C.length) (hsz : ∀ c ∈ M.C, c.size = 16) :
    Calls Try.prog 15 #[.pointer (some ⟨bb, 0, none⟩), plV n en0 p] w fun r w' => r = .returned (.tuple #[plV n e p, .bool true]) ∧ Below w.heap.size w w' := by
  have hF := h.F_lt
  have HO := hide ho; have HF := hide hF
  have hlen := h.mem.len
  obtain ⟨W1, hW1⟩ : ∃ W1, W1 = (w.alloc (plO n en0 p)).alloc plZ := ⟨_, rfl⟩
  have hs0 : (w.alloc (plO n en0 p)).heap.size = w.heap.size + 1 := by simp
  have hB1 : Below w.heap.size w W1 := by rw [hW1]; exact ((Below.refl _ _).alloc (Nat.le_refl _) _).alloc (by simp) _
  have hX1 : W1.heap[w.heap.size]? = some (plO n en0 p) := by
    rw [hW1]
    exact (((Below.refl (w.alloc (plO n en0 p)).heap.size (w.alloc (plO n en0 p))).alloc (Nat.le_refl _) _).block w.heap.size (by rw [hs0]; omega)).trans (heap_alloc_new _ _)
  have hX2 : W1.heap[w.heap.size + 1]? = some plZ := by
    rw [hW1]
    have := heap_alloc_new (w.alloc (plO n en0 p)) plZ
    rwa [hs0] at this
  have hD1 : FdAt w W1 B bb mb v pl M n p 0 0 := ⟨h.below hB1, hX1, hX2, hB1⟩
  have HSET := hide (fun (W : World) (a b x : Int) (hd : FdAt w W B bb mb v pl M n p a b) => hd.set (x := x) hF)
  have N0 := hide (sread_on (h.below hB1) ho p (headB e) hl.1 (headB_size e he))
  obtain ⟨r1, r2, r3⟩ := head_reads e he
  obtain ⟨t1, t2, t3⟩ := head_parts e he
  have N1 := hide (fun W => read_all ((headB e).extract 0 1) W (by rw [ByteArray.size_extract]; unfold maxLen; omega))
  have N2 := hide (fun W => read_all ((headB e).extract 1 2) W (by rw [ByteArray.size_extract]; unfold maxLen; omega))
  have N3 := hide (fun W => read_all ((headB e).extract 2 4) W (by rw [ByteArray.size_extract]; unfold maxLen; omega))
  rw [show readV ((headB e).extract 0 1) = e.what from by rw [t1, r1]] at N1
  rw [show readV ((headB e).extract 1 2) = e.how from by rw [t2, r2]] at N2
  rw [show readV ((headB e).extract 2 4) = (e.text.size : Int) from by rw [t3, r3]] at N3
  generalize readE ((headB e).extract 0 1) = e1 at *
  generalize readE ((headB e).extract 1 2) = e2 at *
  generalize readE ((headB e).extract 2 4) = e3 at *
  have hts := he.2.2.2.2
  have N4 := hide (fun W => endOf_any p e.text.size (by omega) (by omega) W)
  have N5 := hide (fun W a b (hd : FdAt w W B bb mb v pl M n p a b) => sfits_any hd.sto ((p + (1 + nC e.text.size) : Nat) : Int))
  rw [show decide (((p + (1 + nC e.text.size) : Nat) : Int) < (M.C.length : Int)) = true from decide_eq_true (by unfold wid at hp; omega)] at N5
  have N6 := hide (fun W => cellsOf_any e.text.size (by omega) W)
  have N7 : Hid (∀ i, i < nC e.text.size → ∀ W a b, FdAt w W B bb mb v pl M n p a b → Calls Try.prog 28 #[.pointer (some ⟨bb, 0, none⟩), .int .i64 ((p : Int) + 1 + (i : Int))] W fun r w' => r = .returned (.string (chunk e.text i)) ∧ w' = W) := hide (fun i hi W a b hd => by
    have := sread_on hd.sto ho (p + 1 + i) (chunk e.text i) (hl.2 i hi) (chunk_size e.text i)
    rwa [show ((p + 1 + i : Nat) : Int) = (p : Int) + 1 + (i : Int) by omega] at this)
  have HTX := hide (chunks_text e.text)
  have hwh : (e.what == 0) = false := by have := he.1; simpa using (show ¬ e.what = 0 by omega)
  have hnc : (nC e.text.size : Int) ≤ 1251 := by unfold nC; omega
  have hnl : e.text.size ≤ 16 * nC e.text.size := by unfold nC; omega
  have hti : (e.text.size : Int) ≤ 20000 := by omega
  have hpi : (p : Int) ≤ 100000 := by omega
  have hhs : (headB e).size = 16 := headB_size e he
  generalize headB e = hd at *
  have HW1 := hide hW1; have HD1 := hide hD1
  obtain ⟨wh, hw, tx⟩ := e
  unfold plO plZ en0 at HW1
  unfold plV en0
  dsimp only at *
  clear h ho he hl hp hsz hF hlen hW1 hs0 hB1 hX1 hX2 hD1 r1 r2 r3 t1 t2 t3 hts
  go_enter Try.func15, Try.ntmps15
  go_upto_region 1 with fail
  rw [← unhide HW1]
  obtain ⟨d0, d1, d2, d3, d4⟩ := plCells (unhide HD1).b1
  dsimp only at d0 d1 d2 d3 d4
  have ff : ∀ j, W1.frozen? ⟨w.heap.size, j, none⟩ = false := fun j => by have := (unhide HD1).b1; unfold plO at this; simp [World.frozen?, this]
  have f1 := ff 1; have f2 := ff 2
  clear ff
  go_wp2_with fail
  refine (unhide N0).mono ?_
  rintro r y1 ⟨rfl, hw1⟩
  have hw1' := hw1.symm
  subst hw1'
  go_wp2_with fail
  refine (unhide N1 _).mono ?_
  rintro r y1 ⟨rfl, hw1⟩
  rw [hw1]
  clear hw1
  go_wp2_with fail
  refine (unhide N2 _).mono ?_
  rintro r y2 ⟨rfl, hw1⟩
  rw [hw1]
  clear hw1
  go_wp2_with fail
  refine (unhide N3 _).mono ?_
  rintro r y3 ⟨rfl, hw1⟩
  rw [hw1]
  have HD2 := hide (unhide HSET _ _ _ hw (unhide HSET _ _ _ wh (unhide HD1)).1).2
  clear hw1 d0 d1 d2 d3 d4 f1 f2 HD1 HSET
  generalize ((W1.setCell ⟨w.heap.size, 1, none⟩ (.int .i64 wh)).setCell ⟨w.heap.size, 2, none⟩ (.int .i64 hw)) = W2 at *
  obtain ⟨d0, d1, d2, d3, d4⟩ := plCells (unhide HD2).b1
  dsimp only at d0 d1 d2 d3 d4
  go_wp2_with fail
  refine (unhide N4 _).mono ?_
  rintro r y4 ⟨rfl, hw1⟩
  have hw1' := hw1.symm
  subst hw1'
  go_wp2_with fail
  refine (unhide N5 _ _ _ (unhide HD2)).mono ?_
  rintro r y5 ⟨rfl, hw1⟩
  have hw1' := hw1.symm
  subst hw1'
  have HBF := hide (Lib.fresh_isBuilder 80 5 W2)
  have HB3 := hide ((Below.refl W2.heap.size W2).alloc (Nat.le_refl _) (.cells #[.pointer none, .slice none 0 0] 80))
  go_wp2_with fail
  refine (unhide N6 _).mono ?_
  rintro r y6 ⟨rfl, hw1⟩
  rw [hw1]
  clear hw1
  go_wp2_with fail
  obtain ⟨W3, hW3⟩ : ∃ W3, W3 = W2.alloc (.cells #[.pointer none, .slice none 0 0] 80) := ⟨_, rfl⟩
  rw [← hW3] at HBF HB3 ⊢
  clear hW3
  obtain ⟨bt, hbt⟩ : ∃ bt, bt = W2.heap.size := ⟨_, rfl⟩
  have HBT := hide hbt
  rw [← hbt] at HBF ⊢
  clear hbt
  go_loopw [53] (fun iv wx => ∃ i : Nat, i ≤ nC tx.size ∧ iv = .int .i64 (i : Int) ∧ Lib.IsBuilder 80 5 bt bt (Lib.byteCells (chunksL tx i)) wx ∧ Below bt W2 wx) (fun iv _ => nC tx.size - (intOf iv).toNat)
  case atStart => exact ⟨0, Nat.zero_le _, rfl, unhide HBF, by rw [unhide HBT]; exact unhide HB3⟩
  case round =>
    obtain ⟨i, hi, rfl, hIB, hbw⟩ := hrel
    have hD := (unhide HD2).below (by rw [unhide HBT] at hbw; exact hbw)
    obtain ⟨c0, c1, c2, c3, c4⟩ := plCells hD.b1
    dsimp only at c0 c1 c2 c3 c4
    have hbl := isB_below hIB
    by_cases hlt : i < nC tx.size
    · have hii : (i : Int) < (nC tx.size : Int) := by omega
      have M1 := hide (unhide N7 i hlt wr _ _ hD)
      have M2 := hide (writeS_any bt bt (Lib.byteCells (chunksL tx i)) (chunk tx i) wr hIB (by rw [show (Lib.byteCells (chunksL tx i)).length = 16 * i by unfold Lib.byteCells; rw [List.length_map, chunksL_len], chunk_size]; omega) (Nat.le_of_lt hbl))
      have HBW := hide hbw
      have HNX : Hid (Lib.byteCells (chunksL tx i) ++ Lib.strCells (chunk tx i) = Lib.byteCells (chunksL tx (i + 1))) := hide (by rw [chunksL, Lib.byteCells_append]; rfl)
      clear hIB hbw hD hbl
      go_wp2_with fail
      refine (unhide M1).mono ?_
      rintro r z1 ⟨rfl, hw1⟩
      have hw1' := hw1.symm
      subst hw1'
      go_wp2_with fail
      refine (unhide M2).mono ?_
      rintro r z2 ⟨rfl, hBA, hb2⟩
      have HZ := hide (And.intro (show Lib.IsBuilder 80 5 bt bt (Lib.byteCells (chunksL tx (i + 1))) z2 from by rw [← unhide HNX]; exact .inr hBA) ((unhide HBW).trans hb2))
      clear hBA hb2
      go_wp2
      go_roundw
      case rel => exact ⟨i + 1, by omega, by go_num, unhide HZ⟩
      case measure => simp [intOf]; omega
    · have hii : ¬ (i : Int) < (nC tx.size : Int) := by omega
      have hie : i = nC tx.size := by omega
      rw [hie] at hIB
      have M3 := hide (stringS_any bt bt (chunksL tx (nC tx.size)) wr hIB (Nat.le_of_lt hbl))
      have hcl : (⟨(chunksL tx (nC tx.size)).toArray⟩ : ByteArray).size = 16 * nC tx.size := by
        show (chunksL tx (nC tx.size)).toArray.size = _
        rw [List.size_toArray, chunksL_len]
      obtain ⟨big, hbig⟩ : ∃ big : ByteArray, big = ⟨(chunksL tx (nC tx.size)).toArray⟩ := ⟨_, rfl⟩
      have htx := unhide HTX
      rw [← hbig] at M3 hcl htx
      have HBW := hide hbw
      clear hIB hbw hbl hie hi hD hbig
      go_wp2_with fail
      refine (unhide M3).mono ?_
      rintro r z3 ⟨rfl, hb3⟩
      have hD3 := (unhide HD2).below (by have := (unhide HBW).trans hb3; rw [unhide HBT] at this; exact this)
      obtain ⟨c0, c1, c2, c3, c4⟩ := plCells hD3.b1
      obtain ⟨x0, x1, x2, x3, x4⟩ := plZCells hD3.b2
      dsimp only at c0 c1 c2 c3 c4
      obtain ⟨o0, o1, o2⟩ := hD3.sto.cells
      rw [unhide HO] at o1
      have hb1' := hD3.b1; have hb2' := hD3.b2
      unfold plO at hb1'
      unfold plZ at hb2'
      have ff : z3.frozen? ⟨w.heap.size, 3, none⟩ = false := by simp [World.frozen?, hb1']
      have hbn : bb ≠ w.heap.size := fun e => by have := unhide HF bb (.inl rfl); omega
      have H5 : Hid ((z3.setCell ⟨w.heap.size, 3, none⟩ (.string tx)).heap[w.heap.size]? = some (.cells #[.int .i64 (n : Int), .int .i64 wh, .int .i64 hw, .string tx, .int .i64 (p : Int)] 62) ∧ (z3.setCell ⟨w.heap.size, 3, none⟩ (.string tx)).heap[w.heap.size + 1]? = some (.cells #[.int .i64 0, .int .i64 0, .int .i64 0, .string ⟨#[]⟩, .int .i64 0] 62) ∧ (z3.setCell ⟨w.heap.size, 3, none⟩ (.string tx)).cell? ⟨bb, 1, none⟩ = some (.bool false) ∧ Below w.heap.size w (z3.setCell ⟨w.heap.size, 3, none⟩ (.string tx))) := hide (by
        refine ⟨?_, ?_, ?_, hD3.bel.setCell (p := ⟨w.heap.size, 3, none⟩) (Nat.le_refl _) _⟩
        · simp [World.setCell, Array.getElem?_modify, hb1']
        · simp [World.setCell, Array.getElem?_modify, hb2']
        · rw [← o1]
          unfold World.cell? World.setCell
          simp [Array.getElem?_modify, Ne.symm hbn])
      have hcn : tx.size ≤ big.size := by omega
      clear hD3 hb3 o0 o1 o2 hcl hb1' hb2' hbn
      go_upto_region 14 with fail
      clear htx hcn
      generalize z3.setCell ⟨w.heap.size, 3, none⟩ (.string tx) = W5 at *
      obtain ⟨a1, a2, a3, a4⟩ := unhide H5
      have k0 : W5.cell? ⟨w.heap.size, 0, none⟩ = some (.int .i64 (n : Int)) := by simp [World.cell?, a1]
      have k1 : W5.cell? ⟨w.heap.size, 1, none⟩ = some (.int .i64 wh) := by simp [World.cell?, a1]
      have k2 : W5.cell? ⟨w.heap.size, 2, none⟩ = some (.int .i64 hw) := by simp [World.cell?, a1]
      have k3 : W5.cell? ⟨w.heap.size, 3, none⟩ = some (.string tx) := by simp [World.cell?, a1]
      have k4 : W5.cell? ⟨w.heap.size, 4, none⟩ = some (.int .i64 (p : Int)) := by simp [World.cell?, a1]
      have l0 : W5.cell? ⟨w.heap.size + 1, 0, none⟩ = some (.int .i64 0) := by simp [World.cell?, a2]
      have l1 : W5.cell? ⟨w.heap.size + 1, 1, none⟩ = some (.int .i64 0) := by simp [World.cell?, a2]
      have l2 : W5.cell? ⟨w.heap.size + 1, 2, none⟩ = some (.int .i64 0) := by simp [World.cell?, a2]
      have l3 : W5.cell? ⟨w.heap.size + 1, 3, none⟩ = some (.string ⟨#[]⟩) := by simp [World.cell?, a2]
      have l4 : W5.cell? ⟨w.heap.size + 1, 4, none⟩ = some (.int .i64 0) := by simp [World.cell?, a2]
      have g0 : W5.frozen? ⟨w.heap.size + 1, 0, none⟩ = false := by simp [World.frozen?, a2]
      have g1 : W5.frozen? ⟨w.heap.size + 1, 1, none⟩ = false := by simp [World.frozen?, a2]
      have g2 : W5.frozen? ⟨w.heap.size + 1, 2, none⟩ = false := by simp [World.frozen?, a2]
      have g3 : W5.frozen? ⟨w.heap.size + 1, 3, none⟩ = false := by simp [World.frozen?, a2]
      have g4 : W5.frozen? ⟨w.heap.size + 1, 4, none⟩ = false := by simp [World.frozen?, a2]
      have HA4 := hide a4
      have hq1 : bb ≠ w.heap.size + 1 := fun e => by have := unhide HF bb (.inl rfl); omega
      have hq2 : w.heap.size + 1 ≠ bb := Ne.symm hq1
      clear a1 a2 a4 H5 c0 c1 c2 c3 c4 x0 x1 x2 x3 x4 ff
      go_region
      all_goals
        go_wp2
        refine bodyPost_ret (v := .tuple #[.agg #[.int .i64 (n : Int), .int .i64 wh, .int .i64 hw, .string tx, .int .i64 (p : Int)], .bool true]) ?_ rfl ⟨rfl, ?_⟩
        · simp [results, Try.results15, go_sem, l0, l1, l2, l3, l4]
        · exact ((((((unhide HA4).setCell (p := ⟨w.heap.size + 1, 0, none⟩) (Nat.le_succ _) _).setCell (p := ⟨w.heap.size + 1, 1, none⟩) (Nat.le_succ _) _).setCell (p := ⟨w.heap.size + 1, 2, none⟩) (Nat.le_succ _) _).setCell (p := ⟨w.heap.size + 1, 3, none⟩) (Nat.le_succ _) _).setCell (p := ⟨w.heap.size + 1, 4, none⟩) (Nat.le_succ _) _).drew
end
end Go.Proofs.Ytbiipeapcclbkaa
