/- The program's end: Give. -/
import Derived.Test.YthchicolifkpiaaDoorPEnd
namespace Go.Proofs.YthchicolifkpiaaDoor
open Go.RowKit
set_option linter.unusedVariables false

def cellsT (l : List ByteArray) : List Value := l.map Value.string
theorem infoStr : (Tryd.prog.info? 9).map (fun i => (i.zero, i.size, i.bytes)) = some (some (.string ⟨#[]⟩), 1, 16) := by kernel_rfl
def giveE (n : Nat) (s : ByteArray) : Int := if 4096 < s.size then 2 else if 8 ≤ n then 8 else 0

theorem give_no (w : World) (b : Nat) (ta : Option Addr) (tn tc : Nat) (arr turn pause aw : Int) (owed : Bool) (pv : Value) (lost : Bool) (gv : Value) (s : ByteArray) (h : EndAt w b (.slice ta tn tc) arr turn pause aw owed pv lost gv) (he : giveE tn s ≠ 0) (hs : s.size ≤ maxLen) :
    Calls Tryd.prog 8 #[.pointer (some ⟨b, 0, none⟩), .string s] w fun e w' => e = .returned (.int .i64 (giveE tn s)) ∧ w' = w := by
  have c0 : w.cell? ⟨b, 0, none⟩ = some (.slice ta tn tc) := (cell_of_row _ _ 0 _ _ _ h).trans rfl
  clear h
  unfold giveE at *
  by_cases h1 : 4096 < s.size
  · rw [if_pos h1]
    have h1' : (4096 : Int) < (s.size : Int) := by omega
    clear he
    go_enter Tryd.func8, Tryd.ntmps8
    go_wp2
    go_ret
    exact ⟨rfl, rfl⟩
  · rw [if_neg h1] at he ⊢
    by_cases h2 : 8 ≤ tn
    · rw [if_pos h2]
      have h1' : ¬ (4096 : Int) < (s.size : Int) := by omega
      have h2' : (8 : Int) ≤ (tn : Int) := by omega
      clear he
      go_enter Tryd.func8, Tryd.ntmps8
      go_wp2
      go_ret
      exact ⟨rfl, rfl⟩
    · rw [if_neg h2] at he
      exact absurd rfl he

set_option maxRecDepth 100000 in
set_option maxHeartbeats 2000000 in
theorem give_yes (w : World) (b base : Nat) (tv : Value) (l : List ByteArray) (arr turn pause aw : Int) (owed : Bool) (pv : Value) (lost : Bool) (gv : Value) (s : ByteArray) (h : EndAt w b tv arr turn pause aw owed pv lost gv) (hT : w.ownsRow base 9 1 tv l.length (cellsT l)) (hb : tv.ownBlock ≠ some b) (hbase : base ≤ w.heap.size) (he : giveE l.length s = 0) :
    Calls Tryd.prog 8 #[.pointer (some ⟨b, 0, none⟩), .string s] w fun e w' => e = .returned (.int .i64 0) ∧ ∃ g cap w3 o, (w.alloc o).grownBy w3 tv.ownBlock ∧ w' = w3.setCell ⟨b, 0, none⟩ (.slice (some ⟨g, 0, none⟩) (l.length + 1) cap) ∧ (tv.ownBlock = some g ∨ g = w.heap.size + 1) ∧ w3.ownsRow base 9 1 (.slice (some ⟨g, 0, none⟩) (l.length + 1) cap) (l.length + 1) (cellsT (l ++ [s])) ∧ EndAt w' b (.slice (some ⟨g, 0, none⟩) (l.length + 1) cap) arr turn pause aw owed pv lost gv := by
  obtain ⟨i0, hi, hz0, hz1, hz2⟩ := info_parts' infoStr
  have hlt : b < w.heap.size := World.block_lt_of_cell? w ⟨b, 0, none⟩ ((cell_of_row _ _ 0 _ _ _ h).trans rfl)
  obtain ⟨ta, tc, rfl⟩ : ∃ ta tc, tv = .slice ta l.length tc := by
    rcases hT.2 with ⟨h1, h2⟩ | ⟨g, cap, cur, h1, _⟩
    · exact ⟨none, 0, by rw [h1, h2]⟩
    · exact ⟨_, cap, h1⟩
  have c0 : w.cell? ⟨b, 0, none⟩ = some (.slice ta l.length tc) := (cell_of_row _ _ 0 _ _ _ h).trans rfl
  have h1 : ¬ 4096 < s.size := fun h => by unfold giveE at he; rw [if_pos h] at he; cases he
  have h2 : ¬ 8 ≤ l.length := fun h => by unfold giveE at he; rw [if_neg h1, if_pos h] at he; cases he
  have h1' : ¬ (4096 : Int) < (s.size : Int) := by omega
  have h2' : ¬ (8 : Int) ≤ (l.length : Int) := by omega
  have H := hide h
  clear h he h1
  go_enter Tryd.func8, Tryd.ntmps8
  go_wp2_with (at_builtin; refine wpList_append_lies _ rfl _ _ 25 rfl base 9 i0 (.string ⟨#[]⟩) 1 16 Tryd.underlying25 hi hz0 hz1 hz2 rfl (by decide) _ _ _ rfl (World.ownsRow.alloc hT _) ⟨w.heap.size, 0, none⟩ 1 1 [.string s] rfl rfl (World.news_of_block (heap_alloc_new _ _)) ?c2 ?c3 ?c4 ?c5 ?c6 (w.heap.size + 1) ?c7 ?_)
  case c2 => rfl
  case c4 => unfold maxLen; omega
  case c5 => omega
  case c6 => omega
  intro g cap w3 own3 hgrow hat hlt3
  have hne : some b ≠ (Value.slice ta l.length tc).ownBlock := fun e => hb e.symm
  have hblk : EndAt w3 b (.slice ta l.length tc) arr turn pause aw owed pv lost gv := by
    unfold EndAt
    rw [hgrow.block b (by simp; omega) hne, Below.heap_alloc _ _ _ hlt]
    exact unhide H
  have d0 : w3.cell? ⟨b, 0, none⟩ = some (.slice ta l.length tc) := (cell_of_row _ _ 0 _ _ _ hblk).trans rfl
  have f0 : w3.frozen? ⟨b, 0, none⟩ = false := frozen_of_row _ _ 0 _ _ hblk
  have HB := hide hblk
  clear hblk c0
  go_wp2
  go_ret
  refine ⟨rfl, g, cap, w3, _, hgrow, rfl, hat, ?_, (set_row (unhide HB)).trans rfl⟩
  simpa [cellsT] using own3
end Go.Proofs.YthchicolifkpiaaDoor
