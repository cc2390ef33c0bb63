/- The program's end: the piece that is out has arrived. -/
import Derived.Test.YthchicolifkpiaaDoorPAcc
import Derived.Test.YthchicolifkpiaaDoorLayDel
namespace Go.Proofs.YthchicolifkpiaaDoor
open Go.RowKit Go.Lib
set_option linter.unusedVariables false

def arrT (s : ByteArray) (r : List ByteArray) (k : Nat) : List ByteArray := if 32 * k + 32 < s.size then s :: r else r
def arrK (s : ByteArray) (k : Nat) : Nat := if 32 * k + 32 < s.size then k + 1 else 0
theorem four_cells {w : World} {g : Nat} {a0 a1 a2 a3 a4 a5 a6 a7 a8 : Value} {e : TypeId} (h : w.heap[g]? = some (.cells #[a0, a1, a2, a3, a4, a5, a6, a7, a8] e)) :
    (w.cell? ⟨g, 0, none⟩ = some a0 ∧ w.cell? ⟨g, 1, none⟩ = some a1 ∧ w.cell? ⟨g, 2, none⟩ = some a2 ∧ w.cell? ⟨g, 3, none⟩ = some a3) ∧
    w.frozen? ⟨g, 0, none⟩ = false ∧ w.frozen? ⟨g, 1, none⟩ = false ∧ w.frozen? ⟨g, 2, none⟩ = false ∧ w.frozen? ⟨g, 3, none⟩ = false :=
  ⟨⟨(cell_of_row _ _ 0 _ _ _ h).trans rfl, (cell_of_row _ _ 1 _ _ _ h).trans rfl, (cell_of_row _ _ 2 _ _ _ h).trans rfl, (cell_of_row _ _ 3 _ _ _ h).trans rfl⟩,
    frozen_of_row _ _ 0 _ _ h, frozen_of_row _ _ 1 _ _ h, frozen_of_row _ _ 2 _ _ h, frozen_of_row _ _ 3 _ _ h⟩
theorem inp_texts {b : Nat} {tv pv gv tv' : Value} {H : Nat} (h : ∀ q, tv'.ownBlock = some q → tv.ownBlock = some q ∨ H ≤ q) : ∀ q, InP b tv' pv gv q → InP b tv pv gv q ∨ H ≤ q := by
  rintro q (hq | hq | hq | hq)
  · exact .inl (.inl hq)
  · exact (h q hq).elim (fun hx => .inl (.inr (.inl hx))) .inr
  · exact .inl (.inr (.inr (.inl hq)))
  · exact .inl (.inr (.inr (.inr hq)))
theorem PAt.drewN {w : World} {b base : Nat} {T : List ByteArray} {arr turn pause aw : Int} {owed : Bool} {part : ByteArray} {lost : Bool} {got : List ByteArray} {tv pv gv : Value} (h : PAt w b base T arr turn pause aw owed part lost got tv pv gv) : ∀ n, PAt (w.drewN n) b base T arr turn pause aw owed part lost got tv pv gv
  | 0 => h
  | n + 1 => (h.drewN n).drew
theorem KeepP.drewN {S : Nat → Prop} {w w' : World} (h : KeepP S w w') : ∀ n, KeepP S w (w'.drewN n)
  | 0 => h
  | n + 1 => (h.drewN n).drew
def arrQ (w : World) (b base : Nat) (T : List ByteArray) (arr turn pause aw : Int) (owed : Bool) (part : ByteArray) (lost : Bool) (got : List ByteArray) (tv pv gv : Value) (e : Ending) (w' : World) : Prop :=
  e = .returned (.tuple #[]) ∧ ∃ tv', PAt w' b base T arr turn pause aw owed part lost got tv' pv gv ∧ KeepP (InP b tv pv gv) w w' ∧ (∀ q, InP b tv' pv gv q → InP b tv pv gv q ∨ w.heap.size ≤ q)

set_option maxRecDepth 100000 in
set_option maxHeartbeats 4000000 in
theorem arrive_any (w : World) (b base : Nat) (s : ByteArray) (r : List ByteArray) (k : Nat) (turn pause aw : Int) (owed : Bool) (part : ByteArray) (lost : Bool) (got : List ByteArray) (tv pv gv : Value)
    (hP : PAt w b base (s :: r) ((32 * k : Nat) : Int) turn pause aw owed part lost got tv pv gv) (hs : s.size ≤ 4096) (hk : 32 * k ≤ s.size) (ht0 : 0 ≤ turn) (ht1 : turn ≤ 1) :
    Calls Tryd.prog 27 #[.pointer (some ⟨b, 0, none⟩)] w (arrQ w b base (arrT s r k) ((32 * arrK s k : Nat) : Int) (1 - turn) 0 aw owed part lost got tv pv gv) := by
  obtain ⟨a, ha⟩ : ∃ a : Nat, a = 32 * k := ⟨_, rfl⟩
  have HAK := hide ha
  rw [← ha] at hP hk
  obtain ⟨W1, hW1⟩ : ∃ W1, W1 = w.setCell ⟨b, 2, none⟩ (.int .i64 (1 - turn)) := ⟨_, rfl⟩
  have hP1 : PAt W1 b base (s :: r) (a : Int) (1 - turn) pause aw owed part lost got tv pv gv := by rw [hW1]; exact hP.put ((set_row hP.blk).trans rfl)
  have hK1 : KeepP (InP b tv pv gv) w W1 := by rw [hW1]; exact (KeepP.refl _ _).set b 2 _ (.inl rfl)
  obtain ⟨W2, hW2⟩ : ∃ W2, W2 = W1.setCell ⟨b, 3, none⟩ (.int .i64 0) := ⟨_, rfl⟩
  have hP2 : PAt W2 b base (s :: r) (a : Int) (1 - turn) 0 aw owed part lost got tv pv gv := by rw [hW2]; exact hP1.put ((set_row hP1.blk).trans rfl)
  have hK2 : KeepP (InP b tv pv gv) w W2 := by rw [hW2]; exact hK1.set b 3 _ (.inl rfl)
  obtain ⟨W3, hW3⟩ : ∃ W3, W3 = W2.setCell ⟨b, 1, none⟩ (.int .i64 ((a : Int) + 32)) := ⟨_, rfl⟩
  have hP3 : PAt W3 b base (s :: r) ((a : Int) + 32) (1 - turn) 0 aw owed part lost got tv pv gv := by rw [hW3]; exact hP2.put ((set_row hP2.blk).trans rfl)
  have hK3 : KeepP (InP b tv pv gv) w W3 := by rw [hW3]; exact hK2.set b 1 _ (.inl rfl)
  obtain ⟨g, cap, htv, _, _⟩ := hP.ot.form (by simp)
  subst htv
  have hc0 := (hP3.ot.cells (g := g) rfl) 0 (.string s) rfl
  rw [Addr.add_lit, Nat.add_zero] at hc0
  obtain ⟨⟨c0, c1, c2, c3⟩, e0, e1, e2, e3⟩ := four_cells hP.blk
  have N1 := hide (fun wx (h : wx.ownsRow base 9 1 (.slice (some ⟨g, 0, none⟩) (r.length + 1) cap) (r.length + 1) (cellsT (s :: r))) => delete_any wx base g cap s r h)
  have HP3 := hide hP3; have HK3 := hide hK3; have HP := hide hP
  have HT := hide (show arrT s r k = if 32 * k + 32 < s.size then s :: r else r from rfl)
  have HA := hide (show ((32 * arrK s k : Nat) : Int) = if 32 * k + 32 < s.size then (a : Int) + 32 else 0 by
    unfold arrK
    split
    · rw [ha]; omega
    · rfl)
  generalize arrT s r k = T' at *
  generalize ((32 * arrK s k : Nat) : Int) = kk at *
  have hW : W3 = ((w.setCell ⟨b, 2, none⟩ (.int .i64 (1 - turn))).setCell ⟨b, 3, none⟩ (.int .i64 0)).setCell ⟨b, 1, none⟩ (.int .i64 ((a : Int) + 32)) := by rw [hW3, hW2, hW1]
  have HW := hide hW
  have hki : ((a : Int)) ≤ 4096 := by omega
  have hk0 : (0 : Int) ≤ (a : Int) := by omega
  have hsi : (s.size : Int) ≤ 4096 := by omega
  have hrl : (0 : Int) < (r.length : Int) + 1 := by omega
  clear hP hP1 hP2 hP3 hK1 hK2 hK3 hW1 hW2 hW3 hW ha hk hs
  go_enter Tryd.func27, Tryd.ntmps27
  go_upto_region 3 with fail
  rw [← unhide HW]
  obtain ⟨⟨d0, d1, d2, d3⟩, k0, k1, k2, k3⟩ := four_cells (unhide HP3).blk
  clear c0 c1 c2 c3 e0 e1 e2 e3
  by_cases hlt : (a : Int) + 32 < (s.size : Int)
  · have hq : decide ((s.size : Int) ≤ (a : Int) + 32) = false := by rw [decide_eq_false_iff_not]; omega
    have HT2 := hide (show T' = s :: r by rw [unhide HT]; exact if_pos (by have := unhide HAK; omega))
    have HA2 := hide (show kk = (a : Int) + 32 by rw [unhide HA]; exact if_pos (by have := unhide HAK; omega))
    have hlt2 : ¬ (s.size : Int) ≤ (a : Int) + 32 := by omega
    clear HT HA
    go_quiet (fail)
    go_wp2
    go_end0
    refine ⟨rfl, .slice (some ⟨g, 0, none⟩) (r.length + 1) cap, ?_, (unhide HK3).drewN _, inp_refl⟩
    rw [unhide HT2, unhide HA2]
    exact (unhide HP3).drewN _
  · have hq : decide ((s.size : Int) ≤ (a : Int) + 32) = true := by rw [decide_eq_true_iff]; omega
    have HT2 := hide (show T' = r by rw [unhide HT]; exact if_neg (by have := unhide HAK; omega))
    have HA2 := hide (show kk = 0 by rw [unhide HA]; exact if_neg (by have := unhide HAK; omega))
    have hlt2 : (s.size : Int) ≤ (a : Int) + 32 := by omega
    clear HT HA
    go_quiet (fail)
    go_wp2_with fail
    refine (unhide N1 _ ?_).mono ?_
    · exact ((unhide HP3).drewN _).ot
    rintro e w4 ⟨rfl, own4, hgrow⟩
    rename Nat => nq
    have hltb : b < (W3.drewN nq).heap.size := ((unhide HP3).drewN nq).lt
    have hblk : EndAt w4 b (.slice (some ⟨g, 0, none⟩) (r.length + 1) cap) ((a : Int) + 32) (1 - turn) 0 aw owed pv lost gv := (hgrow.block b hltb (fun e => (unhide HP3).nt e.symm)).trans ((unhide HP3).drewN nq).blk
    obtain ⟨⟨c0, c1, c2, c3⟩, e0, e1, e2, e3⟩ := four_cells hblk
    have HB := hide hblk; have HO := hide own4; have HG := hide hgrow
    clear hblk own4 hgrow d0 d1 d2 d3 k0 k1 k2 k3
    go_wp2
    go_end0
    have hP5 : PAt (w4.setCell ⟨b, 0, none⟩ (.slice (some ⟨g, 0, none⟩) r.length cap)) b base r ((a : Int) + 32) (1 - turn) 0 aw owed part lost got (.slice (some ⟨g, 0, none⟩) r.length cap) pv gv := by
      refine ((unhide HP3).drewN nq).texts ((set_row (unhide HB)).trans rfl) ?_ ?_ (fun q hq => .inl hq)
      · exact slot_kept (unhide HO) fun q hq => set_other (fun e => (unhide HP3).nt (by rw [← e]; exact hq))
      · intro q hq hqb hne
        exact (set_other hqb).trans ((unhide HG).block q hq hne)
    refine ⟨rfl, .slice (some ⟨g, 0, none⟩) r.length cap, ?_, ?_, inp_texts fun q hq => .inl hq⟩
    · rw [unhide HT2, unhide HA2]
      exact hP5.put ((set_row hP5.blk).trans rfl)
    · exact ((((unhide HK3).drewN nq).trans (KeepP.of_grown (S := InP b (.slice (some ⟨g, 0, none⟩) (r.length + 1) cap) pv gv) (unhide HG) (fun q hq => .inr (.inl hq))) inp_refl).set b 0 _ (.inl rfl)).set b 1 _ (.inl rfl)
end Go.Proofs.YthchicolifkpiaaDoor
