/- clear: Look. -/
import Derived.Test.YtdameincehiieaaClrD
namespace Go.Proofs.Ytdameincehiieaa
open Go.RowKit
set_option linter.unusedVariables false
set_option maxRecDepth 100000

theorem alloc_at (w : World) (o : Obj) : (w.alloc o).heap[w.heap.size]? = some o := heap_alloc_new w o
set_option maxHeartbeats 1000000 in
theorem look_day (b m1 m2 : Nat) (D : Dys) (t shop trace day : Int) (w : World) (h : ClrB w b D t m1 m2) (hd : dayE t day ≠ 0) :
    Calls Try.prog 14 #[.pointer (some ⟨b, 0, none⟩), .int .i64 shop, .int .i64 trace, .int .i64 day] w fun e w' => e = .returned (.tuple #[caseV ⟨0, 0, 0, 0⟩, .int .i64 (dayE t day)]) ∧ Below w.heap.size w w' := by
  have hbl := h.lt
  have ha : Below w.heap.size w (w.alloc (.cells #[.int .i64 0, .int .i64 0, .int .i64 0, .int .i64 0] 47)) := (Below.refl w.heap.size w).alloc (Nat.le_refl _) _
  have n1 := checkDay_any b D t day m1 m2 _ (h.of_block (ha.block b hbl))
  have hne : (dayE t day != 0) = true := by simpa using hd
  generalize dayE t day = x at *
  have N1 := hide n1; have HA := hide ha
  unfold caseV
  clear n1 ha h hd
  go_enter Try.func14, Try.ntmps14
  go_wp2_with fail
  refine (unhide N1).mono ?_
  rintro e w1 ⟨rfl, hw1⟩
  rw [hw1]
  clear hw1
  go_wp2
  exact bodyPost_ret (v := .tuple #[.agg #[.int .i64 0, .int .i64 0, .int .i64 0, .int .i64 0], .int .i64 x]) (by simp [results, Try.results14, go_sem]) rfl ⟨rfl, by first | exact unhide HA | exact (((((unhide HA).setCell (Nat.le_refl _) _).setCell (Nat.le_refl _) _).setCell (Nat.le_refl _) _).setCell (Nat.le_refl _) _)⟩
set_option maxHeartbeats 1000000 in
theorem look_none (b m1 m2 n cc : Nat) (D : Dys) (t shop trace day : Int) (g : Int → Int → Option Nat) (w : World) (h : ClrB w b D t m1 m2) (hN : NMap w m1 n cc g) (h1 : InR shop) (h2 : InR trace) (hd : dayE t day = 0) (hg : g shop trace = none) :
    Calls Try.prog 14 #[.pointer (some ⟨b, 0, none⟩), .int .i64 shop, .int .i64 trace, .int .i64 day] w fun e w' => e = .returned (.tuple #[caseV ⟨0, 0, 0, 0⟩, .int .i64 5]) ∧ Below w.heap.size w w' := by
  have hbl := h.lt
  have ha : Below w.heap.size w (w.alloc (.cells #[.int .i64 0, .int .i64 0, .int .i64 0, .int .i64 0] 47)) := (Below.refl w.heap.size w).alloc (Nat.le_refl _) _
  have hC := h.of_block (ha.block b hbl)
  have n1 := checkDay_any b D t day m1 m2 _ hC
  rw [hd] at n1
  have hl := (hN.below ha).look shop trace h1 h2
  rw [hg] at hl
  have hl' : (Instr.lookup 64 (.map (some m1)) (.agg #[.int .i64 shop, .int .i64 trace]) false).run Try.prog (w.alloc (.cells #[.int .i64 0, .int .i64 0, .int .i64 0, .int .i64 0] 47)) = .ok (.pointer none) _ := hl
  obtain ⟨_, _, _, _, _, c5, _⟩ := hC.cells
  have N1 := hide n1; have HA := hide ha
  unfold caseV
  clear n1 ha h hd hN hg hl hC h1 h2
  go_enter Try.func14, Try.ntmps14
  go_wp2_with fail
  refine (unhide N1).mono ?_
  rintro e w1 ⟨rfl, hw1⟩
  rw [hw1]
  clear hw1
  go_wp2
  exact bodyPost_ret (v := .tuple #[.agg #[.int .i64 0, .int .i64 0, .int .i64 0, .int .i64 0], .int .i64 5]) (by simp [results, Try.results14, go_sem]) rfl ⟨rfl, by first | exact unhide HA | exact (((((unhide HA).setCell (Nat.le_refl _) _).setCell (Nat.le_refl _) _).setCell (Nat.le_refl _) _).setCell (Nat.le_refl _) _)⟩
set_option maxHeartbeats 1000000 in
theorem look_yes (b m1 m2 n cc q : Nat) (D : Dys) (t shop trace day : Int) (g : Int → Int → Option Nat) (p : Pst) (c : Cse) (w : World) (h : ClrB w b D t m1 m2) (hN : NMap w m1 n cc g) (h1 : InR shop) (h2 : InR trace) (hd : dayE t day = 0) (hg : g shop trace = some q) (hP : PayB w q p c)
    (hs : 0 ≤ c.since ∧ c.since ≤ 65535) (hw : 0 ≤ waitC D c.st ∧ waitC D c.st ≤ 65535) :
    Calls Try.prog 14 #[.pointer (some ⟨b, 0, none⟩), .int .i64 shop, .int .i64 trace, .int .i64 day] w fun e w' => e = .returned (.tuple #[caseV (onC D c day), .int .i64 0]) ∧ Below w.heap.size w w' := by
  have hbl := h.lt
  have ha : Below w.heap.size w (w.alloc (.cells #[.int .i64 0, .int .i64 0, .int .i64 0, .int .i64 0] 47)) := (Below.refl w.heap.size w).alloc (Nat.le_refl _) _
  have hC := h.of_block (ha.block b hbl)
  have n1 := checkDay_any b D t day m1 m2 _ hC
  rw [hd] at n1
  have hl := (hN.below ha).look shop trace h1 h2
  rw [hg] at hl
  have hl' : (Instr.lookup 64 (.map (some m1)) (.agg #[.int .i64 shop, .int .i64 trace]) false).run Try.prog (w.alloc (.cells #[.int .i64 0, .int .i64 0, .int .i64 0, .int .i64 0] 47)) = .ok (.pointer (some ⟨q, 0, none⟩)) _ := hl
  obtain ⟨_, _, _, _, _, c5, _⟩ := hC.cells
  have N2 := hide (on_any b q D t day m1 m2 p c _ hC (hP.of_block (ha.block q (blk_lt hP))) hs hw)
  unfold caseV at *
  generalize onC D c day = oc at *
  obtain ⟨o1, o2, o3, o4⟩ := oc
  dsimp only at *
  have R8 := hide (alloc_at w (.cells #[.int .i64 0, .int .i64 0, .int .i64 0, .int .i64 0] 47))
  have N1 := hide n1; have HA := hide ha
  clear n1 ha h hd hN hg hl hC h1 h2 hP
  go_enter Try.func14, Try.ntmps14
  go_wp2_with fail
  refine (unhide N1).mono ?_
  rintro e w1 ⟨rfl, hw1⟩
  rw [hw1]
  clear hw1
  go_wp2_with fail
  refine (unhide N2).mono ?_
  rintro e w2 ⟨rfl, hb2⟩
  have hb8 := (hb2.block w.heap.size (by simp)).trans (unhide R8)
  have z0 : w2.cell? ⟨w.heap.size, 0, none⟩ = some (.int .i64 0) := by simp [World.cell?, hb8]
  have z1 : w2.cell? ⟨w.heap.size, 1, none⟩ = some (.int .i64 0) := by simp [World.cell?, hb8]
  have z2 : w2.cell? ⟨w.heap.size, 2, none⟩ = some (.int .i64 0) := by simp [World.cell?, hb8]
  have z3 : w2.cell? ⟨w.heap.size, 3, none⟩ = some (.int .i64 0) := by simp [World.cell?, hb8]
  have f0 : w2.frozen? ⟨w.heap.size, 0, none⟩ = false := by simp [World.frozen?, hb8]
  have f1 : w2.frozen? ⟨w.heap.size, 1, none⟩ = false := by simp [World.frozen?, hb8]
  have f2 : w2.frozen? ⟨w.heap.size, 2, none⟩ = false := by simp [World.frozen?, hb8]
  have f3 : w2.frozen? ⟨w.heap.size, 3, none⟩ = false := by simp [World.frozen?, hb8]
  have HB := hide ((unhide HA).trans (hb2.mono (by simp)))
  clear hb2 hb8 hl' c5
  go_wp2
  exact bodyPost_ret (v := .tuple #[.agg #[.int .i64 o1, .int .i64 o2, .int .i64 o3, .int .i64 o4], .int .i64 0]) (by simp [results, Try.results14, go_sem, z0, z1, z2, z3]) rfl ⟨rfl, (((((unhide HB).setCell (Nat.le_refl _) _).setCell (Nat.le_refl _) _).setCell (Nat.le_refl _) _).setCell (Nat.le_refl _) _)⟩
end Go.Proofs.Ytdameincehiieaa
