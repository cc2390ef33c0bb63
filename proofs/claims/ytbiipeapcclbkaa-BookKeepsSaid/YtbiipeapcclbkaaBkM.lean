/- The plain memory: its calls. -/
import Derived.Test.YtbiipeapcclbkaaBkP
import Derived.Test.YtbiipeapcclbkaaChg0
import Derived.Test.YtbiipeapcclbkaaRow0
namespace Go.Proofs.Ytbiipeapcclbkaa
open Go.RowKit
set_option linter.unusedVariables false
set_option linter.unusedSimpArgs false
set_option maxRecDepth 100000

def cellsS (s : ByteArray) : List Value := [.string s]
theorem cellsS_len (s : ByteArray) : (cellsS s).length = 1 := rfl
/-- a memory in its block -/
structure MemAt (w : World) (B mb : Nat) (v : Value) (M : Mm) : Prop where
  box : w.heap[mb]? = some (.cells #[v, .int .i64 M.pw, .bool M.off] 50)
  row : OwnR w B 9 1 cellsS v M.C
  len : M.C.length ≤ 100000
  ne : v.ownBlock ≠ some mb
  pwb : -9223372036854775808 ≤ M.pw ∧ M.pw ≤ 9223372036854775807
section
variable {w w' : World} {B mb : Nat} {v : Value} {M : Mm}
theorem MemAt.lt (h : MemAt w B mb v M) : mb < w.heap.size := block_ltR h.box
theorem MemAt.cells (h : MemAt w B mb v M) : w.cell? ⟨mb, 0, none⟩ = some v ∧ w.cell? ⟨mb, 1, none⟩ = some (.int .i64 M.pw) ∧ w.cell? ⟨mb, 2, none⟩ = some (.bool M.off) := by
  have := h.box
  refine ⟨?_, ?_, ?_⟩ <;> simp [World.cell?, this]
theorem MemAt.frozen (h : MemAt w B mb v M) (j : Nat) : w.frozen? ⟨mb, j, none⟩ = false := by
  have := h.box
  simp [World.frozen?, this]
theorem MemAt.keep (h : MemAt w B mb v M) (hb : w'.heap[mb]? = w.heap[mb]?) (hr : ∀ g, v.ownBlock = some g → w'.heap[g]? = w.heap[g]?) : MemAt w' B mb v M := by
  refine ⟨hb.trans h.box, ⟨h.row.1, ?_⟩, h.len, h.ne, h.pwb⟩
  rcases h.row.2 with h0 | ⟨g, cap, cur, e1, e2, e3, e4⟩
  · exact .inl h0
  · exact .inr ⟨g, cap, cur, e1, e2, by rw [hr g (by rw [e1]; rfl)]; exact e3, e4⟩
theorem MemAt.below (h : MemAt w B mb v M) (hb : Below w.heap.size w w') : MemAt w' B mb v M :=
  h.keep (hb.block mb h.lt) (fun g hg => hb.block g (h.row.lt g hg).2)
/-- what a call of the memory may touch -/
def memF (mb : Nat) (v : Value) : Nat → Prop := fun x => x = mb ∨ v.ownBlock = some x
theorem MemAt.chg {F : Nat → Prop} (h : MemAt w B mb v M) (hc : Chg F w w') (hF : ∀ x, F x → ¬ memF mb v x) : MemAt w' B mb v M :=
  h.keep (hc.block mb h.lt (fun hf => hF mb hf (.inl rfl))) (fun g hg => hc.block g (h.row.lt g hg).2 (fun hf => hF g hf (.inr hg)))
theorem mcells_any (h : MemAt w B mb v M) : Calls Try.prog 6 #[.pointer (some ⟨mb, 0, none⟩)] w fun e w' => e = .returned (.int .i64 (M.C.length : Nat)) ∧ w' = w := by
  obtain ⟨c0, c1, c2⟩ := h.cells
  obtain ⟨⟨ao, cap, rfl⟩, _⟩ := h.row.form
  clear h
  go_enter Try.func6, Try.ntmps6
  go_wp2
  go_ret
  exact ⟨rfl, rfl⟩
theorem moff_any (h : MemAt w B mb v M) : Calls Try.prog 10 #[.pointer (some ⟨mb, 0, none⟩)] w fun e w' => e = .returned (.bool M.off) ∧ w' = w := by
  obtain ⟨c0, c1, c2⟩ := h.cells
  clear h
  go_enter Try.func10, Try.ntmps10
  go_wp2
  go_ret
  exact ⟨rfl, rfl⟩
/-- without power -/
theorem mread_off (h : MemAt w B mb v M) (ho : M.off = true) (i : Int) : Calls Try.prog 64 #[.pointer (some ⟨mb, 0, none⟩), .int .i64 i] w fun e w' => e = .returned (.tuple #[.string ⟨#[]⟩, .int .i64 12]) ∧ w' = w := by
  obtain ⟨c0, c1, c2⟩ := h.cells
  rw [ho] at c2
  clear h ho
  go_enter Try.func64, Try.ntmps64
  go_wp2
  go_ret2
  exact ⟨rfl, rfl⟩
theorem mread_on (h : MemAt w B mb v M) (ho : M.off = false) (i : Nat) (s : ByteArray) (hs : M.C[i]? = some s) : Calls Try.prog 64 #[.pointer (some ⟨mb, 0, none⟩), .int .i64 (i : Int)] w fun e w' => e = .returned (.tuple #[.string s, .int .i64 0]) ∧ w' = w := by
  obtain ⟨c0, c1, c2⟩ := h.cells
  rw [ho] at c2
  have hi := (List.getElem?_eq_some_iff.1 hs).1
  have hlen := h.len
  rcases h.row.form.2 with hn | ⟨g, cap, hv, _, _⟩
  · rw [hn] at hi; simp at hi
  subst hv
  have hc : w.cell? ⟨g, i, none⟩ = some (.string s) := by
    have := h.row.cell cellsS_len i s hs 0 (by omega)
    simpa [cellsS] using this
  have hli : (i : Int) < (M.C.length : Int) := by omega
  have hl0 : ¬ (i : Int) < 0 := by omega
  generalize M.C.length = n at *
  clear h ho hs
  go_enter Try.func64, Try.ntmps64
  go_wp2
  go_ret2
  exact ⟨rfl, rfl⟩
def offM (M : Mm) : Mm := { M with off := true }
/-- a write for which there is no power -/
theorem mwrite_off (h : MemAt w B mb v M) (ho : M.pw = 0 ∨ M.off = true) (i : Int) (s : ByteArray) : Calls Try.prog 65 #[.pointer (some ⟨mb, 0, none⟩), .int .i64 i, .string s] w fun e w' => e = .returned (.int .i64 12) ∧ MemAt w' B mb v (offM M) ∧ Chg (memF mb v) w w' := by
  obtain ⟨c0, c1, c2⟩ := h.cells
  have f2 := h.frozen 2
  have hml := h.lt
  have HS : Hid (MemAt (w.setCell ⟨mb, 2, none⟩ (.bool true)) B mb v (offM M) ∧ Chg (memF mb v) w (w.setCell ⟨mb, 2, none⟩ (.bool true))) := hide (by
    refine ⟨⟨?_, h.row.other h.ne _, h.len, h.ne, h.pwb⟩, (Chg.setCell w ⟨mb, 2, none⟩ _).mono (fun x hx => .inl hx)⟩
    have := h.box
    simp [World.setCell, Array.getElem?_modify, this, offM])
  by_cases hp : M.pw = 0
  · rw [hp] at c1
    clear h ho hp
    go_enter Try.func65, Try.ntmps65
    go_wp2
    go_ret
    exact ⟨rfl, unhide HS⟩
  · have hoff : M.off = true := ho.resolve_left hp
    have HM : Hid (MemAt w B mb v (offM M)) := hide (by have h' := h; unfold offM; rw [← hoff]; exact h')
    have hpb : (M.pw == 0) = false := by simpa using hp
    rw [hoff] at c2
    generalize M.pw = pw at *
    clear h ho hp hoff HS
    go_enter Try.func65, Try.ntmps65
    go_wp2
    go_ret
    exact ⟨rfl, unhide HM, Chg.refl _ _⟩
def setM (M : Mm) (i : Nat) (s : ByteArray) : Mm := ⟨M.C.set i s, if 0 < M.pw then M.pw - 1 else M.pw, M.off⟩
theorem rowC_one_set (C : List ByteArray) (i : Nat) (s : ByteArray) : rowC cellsS (C.set i s) = (rowC cellsS C).set i (.string s) := by
  induction C generalizing i with
  | nil => rfl
  | cons x l ih =>
    cases i with
    | zero => rfl
    | succ i =>
      show Value.string x :: rowC cellsS (l.set i s) = Value.string x :: (rowC cellsS l).set i (.string s)
      rw [ih]
/-- a cell of the row is written -/
theorem OwnR.write {g cap : Nat} {C : List ByteArray} (h : OwnR w B 9 1 cellsS (.slice (some ⟨g, 0, none⟩) C.length cap) C) (i : Nat) (s : ByteArray) (hi : i < C.length) : OwnR (w.setCell ⟨g, i, none⟩ (.string s)) B 9 1 cellsS (.slice (some ⟨g, 0, none⟩) (C.set i s).length cap) (C.set i s) := by
  rcases h.2 with ⟨h0, _⟩ | ⟨g', cap', cur, e1, e2, e3, e4, e5, e6, e7⟩
  · cases h0
  · obtain ⟨rfl, rfl⟩ : g = g' ∧ cap = cap' := by injection e1 with a1 _ a3; injection a1 with a1; injection a1 with a1; exact ⟨a1, a3⟩
    refine ⟨by rw [rowC_length cellsS_len], .inr ⟨g, cap, cur.setIfInBounds i (.string s), rfl, e2, ?_, by rw [List.length_set]; exact e4, e5, by rw [Array.size_setIfInBounds]; exact e6, ?_⟩⟩
    · simp [World.setCell, Array.getElem?_modify, e3]
    · rw [rowC_one_set, List.length_set, ← e7, Array.toList_setIfInBounds, List.take_set]
/-- a write that is done -/
theorem mwrite_on (h : MemAt w B mb v M) (hp : M.pw ≠ 0) (ho : M.off = false) (i : Nat) (s : ByteArray) (hi : i < M.C.length) (hs : s.size = 16) : Calls Try.prog 65 #[.pointer (some ⟨mb, 0, none⟩), .int .i64 (i : Int), .string s] w fun e w' => e = .returned (.int .i64 0) ∧ MemAt w' B mb v (setM M i s) ∧ Chg (memF mb v) w w' := by
  obtain ⟨c0, c1, c2⟩ := h.cells
  rw [ho] at c2
  have f1 := h.frozen 1
  have hml := h.lt
  have hlen := h.len
  rcases h.row.form.2 with hn | ⟨g, cap, hv, hgB, hgl⟩
  · rw [hn] at hi; simp at hi
  subst hv
  have hgm : g ≠ mb := fun e => h.ne (by rw [e]; rfl)
  have hgm' : mb ≠ g := Ne.symm hgm
  obtain ⟨so, hso⟩ : ∃ so, M.C[i]? = some so := ⟨_, List.getElem?_eq_getElem hi⟩
  have hc : w.cell? ⟨g, i, none⟩ = some (.string so) := by
    have := h.row.cell cellsS_len i so hso 0 (by omega)
    simpa [cellsS] using this
  have hf : w.frozen? ⟨g, i, none⟩ = false := h.row.frozen rfl i
  have hpb : (M.pw == 0) = false := by simpa using hp
  have hli : (i : Int) < (M.C.length : Int) := by omega
  have hl0 : ¬ (i : Int) < 0 := by omega
  have hsi : (s.size : Int) = 16 := by omega
  have hbox := h.box
  by_cases hpos : 0 < M.pw
  · have hwr : wrap64 (M.pw - 1) = M.pw - 1 := by have := h.pwb; unfold wrap64; omega
    have HR : Hid (MemAt ((w.setCell ⟨mb, 1, none⟩ (.int .i64 (M.pw - 1))).setCell ⟨g, i, none⟩ (.string s)) B mb (.slice (some ⟨g, 0, none⟩) M.C.length cap) (setM M i s) ∧ Chg (memF mb (.slice (some ⟨g, 0, none⟩) M.C.length cap)) w ((w.setCell ⟨mb, 1, none⟩ (.int .i64 (M.pw - 1))).setCell ⟨g, i, none⟩ (.string s))) := hide (by
      have hr1 := h.row.other (a := ⟨mb, 1, none⟩) h.ne (.int .i64 (M.pw - 1))
      have hr2 := hr1.write i s hi
      rw [List.length_set] at hr2
      refine ⟨⟨?_, hr2, by show (M.C.set i s).length ≤ 100000; rw [List.length_set]; exact hlen, h.ne, ?_⟩, ((Chg.setCell w ⟨mb, 1, none⟩ _).mono (fun x hx => .inl hx)).trans ((Chg.setCell _ ⟨g, i, none⟩ _).mono (fun x hx => (.inr (by rw [hx]; rfl) : memF mb (.slice (some ⟨g, 0, none⟩) M.C.length cap) x))) (fun x hx => .inl hx)⟩
      · unfold setM
        rw [if_pos hpos, ho]
        rw [ho] at hbox
        simp [World.setCell, Array.getElem?_modify, hbox, hgm]
      · show -9223372036854775808 ≤ (if 0 < M.pw then M.pw - 1 else M.pw) ∧ (if 0 < M.pw then M.pw - 1 else M.pw) ≤ 9223372036854775807
        rw [if_pos hpos]; have := h.pwb; omega)
    generalize M.pw = pw at *
    generalize M.C.length = n at *
    clear h ho hp hso hbox hs hi hlen
    go_enter Try.func65, Try.ntmps65
    go_wp2
    go_ret
    exact ⟨rfl, unhide HR⟩
  · have HR : Hid (MemAt (w.setCell ⟨g, i, none⟩ (.string s)) B mb (.slice (some ⟨g, 0, none⟩) M.C.length cap) (setM M i s) ∧ Chg (memF mb (.slice (some ⟨g, 0, none⟩) M.C.length cap)) w (w.setCell ⟨g, i, none⟩ (.string s))) := hide (by
      have hr2 := h.row.write i s hi
      rw [List.length_set] at hr2
      refine ⟨⟨?_, hr2, by show (M.C.set i s).length ≤ 100000; rw [List.length_set]; exact hlen, h.ne, ?_⟩, (Chg.setCell w ⟨g, i, none⟩ _).mono (fun x hx => (.inr (by rw [hx]; rfl) : memF mb (.slice (some ⟨g, 0, none⟩) M.C.length cap) x))⟩
      · unfold setM
        rw [if_neg hpos, ho]
        rw [ho] at hbox
        simp [World.setCell, Array.getElem?_modify, hbox, hgm]
      · show -9223372036854775808 ≤ (if 0 < M.pw then M.pw - 1 else M.pw) ∧ (if 0 < M.pw then M.pw - 1 else M.pw) ≤ 9223372036854775807
        rw [if_neg hpos]; exact h.pwb)
    generalize M.pw = pw at *
    generalize M.C.length = n at *
    clear h ho hp hso hbox hs hi hlen
    go_enter Try.func65, Try.ntmps65
    go_wp2
    go_ret
    exact ⟨rfl, unhide HR⟩
end
end Go.Proofs.Ytbiipeapcclbkaa
