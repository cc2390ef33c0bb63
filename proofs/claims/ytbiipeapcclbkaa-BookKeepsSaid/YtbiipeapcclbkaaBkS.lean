/- A book's store over the plain memory. -/
import Derived.Test.YtbiipeapcclbkaaBkM
import Derived.Test.YtbiipeapcclbkaaRepeat
namespace Go.Proofs.Ytbiipeapcclbkaa
open Go.RowKit Go.Shelf
set_option linter.unusedVariables false
set_option linter.unusedSimpArgs false
set_option maxRecDepth 100000

theorem repeat_bk (n : Nat) : (⟨(Lib.repeatL (⟨#[0]⟩ : ByteArray).data.toList n).toArray⟩ : ByteArray) = ⟨Array.replicate n 0⟩ := by
  congr 1
  apply Array.toList_inj.1
  rw [Array.toList_replicate]
  show Lib.repeatL [0] n = _
  induction n with
  | zero => rfl
  | succ n ih => simp only [Lib.repeatL, ih]; rfl
set_option maxHeartbeats 1000000 in
theorem cell_any (s : ByteArray) (hs : s.size ≤ 16) (w : World) : Calls Try.prog 35 #[.string s] w fun e w' => e = .returned (.string (pad s)) ∧ Below w.heap.size w w' := by
  have n1 := fun w => Any.strings_Repeat Try.lays105 Try.Builder_Extra_105 ⟨#[0]⟩ (16 - s.size) w (by omega) (by have h1 : (⟨#[0]⟩ : ByteArray).size = 1 := rfl; rw [h1]; omega)
  have hcast : ((16 - s.size : Nat) : Int) = 16 - (s.size : Int) := by omega
  have hsz : (Array.replicate (16 - s.size) (0 : UInt8)).size = 16 - s.size := by simp
  have HP : Hid (pad s = s ++ ⟨Array.replicate (16 - s.size) 0⟩) := hide (by
    unfold pad
    apply ByteArray.ext
    simp)
  have hw : wrap64 (16 - (s.size : Int)) = 16 - (s.size : Int) := by unfold wrap64; omega
  obtain ⟨z, hz⟩ : ∃ z : ByteArray, z = ⟨Array.replicate (16 - s.size) 0⟩ := ⟨_, rfl⟩
  rw [← hz] at HP
  have n2 : ∀ w, Calls Try.prog 38 #[.string ⟨#[0]⟩, .int .i64 (16 - (s.size : Int))] w fun e w' => e = .returned (.string z) ∧ Below w.heap.size w w' := fun w => by
    rw [hz, ← repeat_bk, ← hcast]; exact n1 w
  have hzs : z.size = 16 - s.size := by rw [hz]; exact hsz
  have hsum : s.size + z.size ≤ 16 := by omega
  have hadd := fun w' => run_string_add_sum (P := Try.prog) w' s z (by omega)
  rw [unhide HP]
  have N1 := hide n2
  clear n1 n2 hcast hsz HP hz
  go_enter Try.func35, Try.ntmps35
  go_wp2_with fail
  refine (unhide N1 _).mono ?_
  rintro e w1 ⟨rfl, hb⟩
  have HB := hide hb
  clear hb
  go_wp2
  go_ret
  exact ⟨rfl, unhide HB⟩
/-- a book's block: its store over a memory, its places -/
structure StoAt (w : World) (B bb mb : Nat) (v : Value) (M : Mm) (pl : Value) : Prop where
  box : w.heap[bb]? = some (.cells #[.iface 23 (.pointer (some ⟨mb, 0, none⟩)), .bool M.off, pl] 58)
  mem : MemAt w B mb v M
  bm : bb ≠ mb
  bv : v.ownBlock ≠ some bb
def stoF (bb mb : Nat) (v : Value) : Nat → Prop := fun x => x = bb ∨ memF mb v x
section
variable {w w' : World} {B bb mb : Nat} {v pl : Value} {M : Mm}
theorem StoAt.lt (h : StoAt w B bb mb v M pl) : bb < w.heap.size := block_ltR h.box
theorem StoAt.cells (h : StoAt w B bb mb v M pl) : w.cell? ⟨bb, 0, none⟩ = some (.iface 23 (.pointer (some ⟨mb, 0, none⟩))) ∧ w.cell? ⟨bb, 1, none⟩ = some (.bool M.off) ∧ w.cell? ⟨bb, 2, none⟩ = some pl := by
  have := h.box
  refine ⟨?_, ?_, ?_⟩ <;> simp [World.cell?, this]
theorem StoAt.frozen (h : StoAt w B bb mb v M pl) (j : Nat) : w.frozen? ⟨bb, j, none⟩ = false := by
  have := h.box
  simp [World.frozen?, this]
theorem StoAt.below (h : StoAt w B bb mb v M pl) (hb : Below w.heap.size w w') : StoAt w' B bb mb v M pl :=
  ⟨(hb.block bb h.lt).trans h.box, h.mem.below hb, h.bm, h.bv⟩
theorem StoAt.chg {F : Nat → Prop} (h : StoAt w B bb mb v M pl) (hc : Chg F w w') (hF : ∀ x, F x → ¬ stoF bb mb v x) : StoAt w' B bb mb v M pl :=
  ⟨(hc.block bb h.lt (fun hf => hF bb hf (.inl rfl))).trans h.box, h.mem.chg hc (fun x hx hm => hF x hx (.inr hm)), h.bm, h.bv⟩
theorem sfits_any (h : StoAt w B bb mb v M pl) (e : Int) : Calls Try.prog 23 #[.pointer (some ⟨bb, 0, none⟩), .int .i64 e] w fun r w' => r = .returned (.bool (decide (e < (M.C.length : Int)))) ∧ w' = w := by
  obtain ⟨c0, c1, c2⟩ := h.cells
  have N := hide (mcells_any h.mem)
  generalize M.C.length = n at *
  clear h
  go_enter Try.func23, Try.ntmps23
  go_wp2_with fail
  refine (unhide N).mono ?_
  rintro r w1 ⟨rfl, hw⟩
  have hw' := hw.symm
  subst hw'
  go_wp2
  go_ret
  exact ⟨rfl, rfl⟩
/-- a read: zeros where there is no power -/
theorem sread_any (h : StoAt w B bb mb v M pl) (i : Nat) (s : ByteArray) (hs : M.C[i]? = some s) (h16 : s.size = 16) : Calls Try.prog 28 #[.pointer (some ⟨bb, 0, none⟩), .int .i64 (i : Int)] w fun e w' => e = .returned (.string (if M.off = true then zeroC else s)) ∧ StoAt w' B bb mb v M pl ∧ Chg (stoF bb mb v) w w' := by
  obtain ⟨c0, c1, c2⟩ := h.cells
  cases ho : M.off with
  | false =>
    have N := hide (mread_on h.mem ho i s hs)
    have hsi : (s.size : Int) = 16 := by omega
    have HH := hide h
    rw [ho] at c1
    clear h hs h16 ho
    go_enter Try.func28, Try.ntmps28
    go_wp2_with fail
    refine (unhide N).mono ?_
    rintro r w1 ⟨rfl, hw⟩
    have hw' := hw.symm
    subst hw'
    go_wp2
    go_ret
    exact ⟨rfl, unhide HH, Chg.refl _ _⟩
  | true =>
    have N := hide (mread_off h.mem ho i)
    have N2 := hide (fun W => cell_any ⟨#[]⟩ (Nat.zero_le _) W)
    have f1 := h.frozen 1
    have HS : Hid (StoAt (w.setCell ⟨bb, 1, none⟩ (.bool true)) B bb mb v M pl ∧ Chg (stoF bb mb v) w (w.setCell ⟨bb, 1, none⟩ (.bool true))) := hide (by
      have hc : Chg (fun x => x = bb) w (w.setCell ⟨bb, 1, none⟩ (.bool true)) := Chg.setCell w ⟨bb, 1, none⟩ _
      refine ⟨⟨?_, h.mem.chg hc (fun x hx hm => ?_), h.bm, h.bv⟩, hc.mono (fun x hx => .inl hx)⟩
      · have hb := h.box
        rw [ho] at hb ⊢
        simp [World.setCell, Array.getElem?_modify, hb]
      · rw [hx] at hm
        exact hm.elim h.bm h.bv)
    rw [ho] at c1
    clear h hs h16 ho
    go_enter Try.func28, Try.ntmps28
    go_wp2_with fail
    refine (unhide N).mono ?_
    rintro r w1 ⟨rfl, hw⟩
    have hw' := hw.symm
    subst hw'
    go_wp2_with fail
    refine (unhide N2 _).mono ?_
    rintro r w2 ⟨rfl, hb2⟩
    have HZ := hide (And.intro ((unhide HS).1.below hb2) ((unhide HS).2.trans (Chg.of_below (stoF bb mb v) hb2) (fun x hx => .inl hx)))
    clear hb2
    go_wp2
    go_ret
    exact ⟨rfl, unhide HZ⟩
/-- what a write makes of a memory -/
def wrM (M : Mm) (i : Nat) (s : ByteArray) : Mm := if M.off = true then M else if M.pw = 0 then offM M else setM M i s
theorem swrite_any (h : StoAt w B bb mb v M pl) (i : Nat) (s : ByteArray) (hi : i < M.C.length) (h16 : s.size = 16) : Calls Try.prog 34 #[.pointer (some ⟨bb, 0, none⟩), .int .i64 (i : Int), .string s] w fun e w' => e = .returned (.tuple #[]) ∧ StoAt w' B bb mb v (wrM M i s) pl ∧ Chg (stoF bb mb v) w w' := by
  obtain ⟨c0, c1, c2⟩ := h.cells
  unfold wrM
  cases ho : M.off with
  | true =>
    rw [if_pos rfl]
    rw [ho] at c1
    have HH := hide h
    clear h ho
    go_enter Try.func34, Try.ntmps34
    go_wp2
    go_end0
    exact ⟨rfl, unhide HH, Chg.refl _ _⟩
  | false =>
    rw [if_neg (by decide)]
    rw [ho] at c1
    by_cases hp : M.pw = 0
    · rw [if_pos hp]
      have N := hide (mwrite_off h.mem (.inl hp) i s)
      have HH := hide h
      have HF : Hid (∀ w1, MemAt w1 B mb v (offM M) → Chg (memF mb v) w w1 → w1.cell? ⟨bb, 1, none⟩ = some (.bool false) ∧ w1.frozen? ⟨bb, 1, none⟩ = false ∧ StoAt (w1.setCell ⟨bb, 1, none⟩ (.bool true)) B bb mb v (offM M) pl ∧ Chg (stoF bb mb v) w (w1.setCell ⟨bb, 1, none⟩ (.bool true))) := hide (by
        intro w1 hm hc
        have hb1 : w1.heap[bb]? = w.heap[bb]? := hc.block bb h.lt (fun hf => hf.elim h.bm h.bv)
        have hb := hb1.trans h.box
        rw [ho] at hb
        have hc1 : Chg (fun x => x = bb) w1 (w1.setCell ⟨bb, 1, none⟩ (.bool true)) := Chg.setCell w1 ⟨bb, 1, none⟩ _
        refine ⟨by simp [World.cell?, hb], by simp [World.frozen?, hb], ⟨?_, hm.chg hc1 (fun x hx hm => ?_), h.bm, h.bv⟩, (hc.mono (fun x hx => .inr hx)).trans (hc1.mono (fun x hx => (.inl hx : stoF bb mb v x))) (fun x hx => .inl hx)⟩
        · unfold offM
          simp [World.setCell, Array.getElem?_modify, hb]
        · rw [hx] at hm
          exact hm.elim h.bm h.bv)
      clear h ho hp
      go_enter Try.func34, Try.ntmps34
      go_wp2_with fail
      refine (unhide N).mono ?_
      rintro r w1 ⟨rfl, hm1, hc1⟩
      obtain ⟨q1, q2, q3⟩ := unhide HF w1 hm1 hc1
      have HQ := hide q3
      clear hm1 hc1 q3
      go_wp2
      go_end0
      exact ⟨rfl, unhide HQ⟩
    · rw [if_neg hp]
      have N := hide (mwrite_on h.mem hp ho i s hi h16)
      have HF : Hid (∀ w1, MemAt w1 B mb v (setM M i s) → Chg (memF mb v) w w1 → StoAt w1 B bb mb v (setM M i s) pl ∧ Chg (stoF bb mb v) w w1) := hide (by
        intro w1 hm hc
        have hb1 : w1.heap[bb]? = w.heap[bb]? := hc.block bb h.lt (fun hf => hf.elim h.bm h.bv)
        exact ⟨⟨hb1.trans h.box, hm, h.bm, h.bv⟩, hc.mono (fun x hx => .inr hx)⟩)
      clear h ho hp
      go_enter Try.func34, Try.ntmps34
      go_wp2_with fail
      refine (unhide N).mono ?_
      rintro r w1 ⟨rfl, hm1, hc1⟩
      have HQ := hide (unhide HF w1 hm1 hc1)
      clear hm1 hc1
      go_wp2
      go_end0
      exact ⟨rfl, unhide HQ⟩
end
end Go.Proofs.Ytbiipeapcclbkaa
