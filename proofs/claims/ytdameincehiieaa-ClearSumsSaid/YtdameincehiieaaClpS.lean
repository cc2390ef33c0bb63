/- ClearSums: a step's box; the program's Look (what ClpA, ClpB, ClrZ, ClrZ3 hold for ClearPlays, alone). -/
import Derived.Test.YtdameincehiieaaClrT
import Derived.Test.YtdameincehiieaaClrO
import Derived.Test.YtdameincehiieaaShK
namespace Go.Proofs.Ytdameincehiieaa
open Go.RowKit
set_option linter.unusedVariables false
set_option linter.unusedSimpArgs false
set_option maxRecDepth 100000

def stepObj (s : XStep) : Obj := .cells #[.int .i64 s.dO, .int .i64 s.shop, .int .i64 s.trace, .int .i64 s.amount, .int .i64 s.day, .bool s.forShop, .int .i64 s.posted.frm, .int .i64 s.posted.dst, .int .i64 s.posted.shop, .int .i64 s.posted.trace, .int .i64 s.posted.amt, .int .i64 s.posted.day] 38
theorem stepC {w : World} {g : Nat} {s : XStep} (h : w.heap[g]? = some (stepObj s)) : w.cell? ⟨g, 0, none⟩ = some (.int .i64 s.dO) ∧ w.cell? ⟨g, 1, none⟩ = some (.int .i64 s.shop) ∧ w.cell? ⟨g, 2, none⟩ = some (.int .i64 s.trace) ∧ w.cell? ⟨g, 3, none⟩ = some (.int .i64 s.amount) ∧ w.cell? ⟨g, 4, none⟩ = some (.int .i64 s.day) ∧ w.cell? ⟨g, 5, none⟩ = some (.bool s.forShop) ∧ w.cell? ⟨g, 6, none⟩ = some (.int .i64 s.posted.frm) ∧ w.cell? ⟨g, 7, none⟩ = some (.int .i64 s.posted.dst) ∧ w.cell? ⟨g, 8, none⟩ = some (.int .i64 s.posted.shop) ∧ w.cell? ⟨g, 9, none⟩ = some (.int .i64 s.posted.trace) ∧ w.cell? ⟨g, 10, none⟩ = some (.int .i64 s.posted.amt) ∧ w.cell? ⟨g, 11, none⟩ = some (.int .i64 s.posted.day) := by
  unfold stepObj at h
  refine ⟨?_, ?_, ?_, ?_, ?_, ?_, ?_, ?_, ?_, ?_, ?_, ?_⟩ <;> simp [World.cell?, h]
theorem cell_far {W V1 : World} {g o : Nat} {v : Value} (hb : Below W.heap.size W V1) (hg : g < W.heap.size) (h : W.cell? ⟨g, o, none⟩ = some v) : V1.cell? ⟨g, o, none⟩ = some v := (hb.cell (p := ⟨g, o, none⟩) hg).trans h
theorem cutB_len (ow : Int → Int → Int) (a : Int) (k : Nat) : (cutB ow a k).length ≤ k := by
  induction k with
  | zero => simp [cutB]
  | succ k ih => rw [cutB, List.length_append]; split <;> simp <;> omega
theorem cutA_len (ow : Int → Int → Int) (k : Nat) : (cutA ow k).length ≤ 99 * k := by
  induction k with
  | zero => simp [cutA]
  | succ k ih => rw [cutA, List.length_append]; have := cutB_len ow ((k : Int) + 1) 99; omega
theorem cutL_len (ow : Int → Int → Int) : (cutL ow).length ≤ 10000 := by have := cutA_len ow 99; unfold cutL; omega
def dysOf (x : XDays) : Dys := ⟨x.di, x.an, x.ins, x.fee⟩
theorem lookC {w : World} {F : Nat → Prop} {b m1 m2 n k : Nat} {S : Clr} {qs : List Nat} (h : CIn w F b S m1 m2 n k qs) (hok : okS S) (shop trace day : Int) (h1 : InR shop) (h2 : InR trace) :
    Calls Try.prog 14 #[.pointer (some ⟨b, 0, none⟩), .int .i64 shop, .int .i64 trace, .int .i64 day] w fun e w' => e = .returned (.tuple #[caseV (lookS S shop trace day).1, .int .i64 (lookS S shop trace day).2]) ∧ Below w.heap.size w w' := by
  unfold lookS
  by_cases hd : dayE S.last day = 0
  · rw [if_neg (by simpa using hd)]
    cases hi : idxK S.L shop trace with
    | none => exact look_none b m1 m2 n S.L.length S.D S.last shop trace day (gOf S.L qs) w h.blk h.nm h1 h2 hd (by unfold gOf; rw [hi]; rfl)
    | some i =>
      obtain ⟨q, x, hq, hx, hg, hP, e1, e2⟩ := h.at hi
      have hgd : S.L.getD i default = x := by rw [List.getD_eq_getElem?_getD, hx]; rfl
      obtain ⟨o1, o2, o3⟩ := hok.each x (List.mem_of_getElem? hx)
      dsimp only
      rw [hgd]
      exact look_yes b m1 m2 n S.L.length q S.D S.last shop trace day (gOf S.L qs) x.p x.c w h.blk h.nm h1 h2 hd hg hP ⟨o1.2.1, o1.2.2.1⟩ (wait_in hok.D _)
  · rw [if_pos hd]
    exact look_day b m1 m2 S.D S.last shop trace day w h.blk hd
end Go.Proofs.Ytdameincehiieaa
