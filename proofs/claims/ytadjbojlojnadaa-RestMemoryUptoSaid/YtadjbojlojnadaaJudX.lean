/- Judge of the program. -/
import Derived.Test.YtadjbojlojnadaaJudW
namespace Go.Proofs.Ytadjbojlojnadaa
open Go.RowKit
set_option linter.unusedVariables false

/-- one variable of its own, in memory -/
def OneAt (w : World) (g : Nat) (x : Int) : Prop := w.heap[g]? = some (.cells #[.int .i64 x] 3)
/-- all but one block are as they were -/
structure ButOne (g : Nat) (w w' : World) : Prop where
  os : w'.os = w.os
  tape : w'.tape = w.tape
  output : w'.output = w.output
  size : w'.heap.size = w.heap.size
  block : ∀ k, k ≠ g → w'.heap[k]? = w.heap[k]?
theorem ButOne.refl (g : Nat) (w : World) : ButOne g w w := ⟨rfl, rfl, rfl, rfl, fun _ _ => rfl⟩
theorem ButOne.cell {g : Nat} {w w' : World} (h : ButOne g w w') {a : Addr} (ha : a.block ≠ g) : w'.cell? a = w.cell? a := by
  unfold World.cell?
  rw [h.block _ ha]
theorem ButOne.below {g : Nat} {w w' : World} (h : ButOne g w w') {B : Nat} (hB : B ≤ g) : Below B w w' :=
  ⟨h.os, h.tape, h.output, by rw [h.size]; exact Nat.le_refl _, fun k hk => h.block k (by omega)⟩
theorem OneAt.cell {w : World} {g : Nat} {x : Int} (h : OneAt w g x) : w.cell? ⟨g, 0, none⟩ = some (.int .i64 x) := by
  unfold World.cell?
  rw [h]; rfl

theorem set_blockJ {w : World} {g : Nat} {x y : Int} (h : OneAt w g x) : OneAt (w.setCell ⟨g, 0, none⟩ (.int .i64 y)) g y := by
  unfold OneAt at *
  simp [World.setCell, Array.getElem?_modify, h]
theorem setCell_but (w : World) (g : Nat) (v : Value) : ButOne g w (w.setCell ⟨g, 0, none⟩ v) := by
  exact ⟨rfl, rfl, rfl, by simp, fun k hk => Below.heap_setCell _ _ _ _ hk⟩

set_option maxHeartbeats 1000000 in
theorem find_any (f : Bool) (x k : Int) (g : Nat) (w : World) (hg : OneAt w g x) :
    Calls Try.prog 28 #[.bool f, .int .i64 k, .pointer (some ⟨g, 0, none⟩)] w fun e w' => e = .returned (.tuple #[]) ∧ OneAt w' g (bif f then bits .or .i64 x k else x) ∧ ButOne g w w' := by
  have c0 := hg.cell
  have c1 : w.frozen? ⟨g, 0, none⟩ = false := frozen_of_row w g 0 _ _ hg
  have HG := hide hg
  clear hg
  cases f with
  | false =>
    go_enter Try.func28, Try.ntmps28
    go_wp2
    go_end0
    exact ⟨rfl, unhide HG, ButOne.refl _ _⟩
  | true =>
    go_enter Try.func28, Try.ntmps28
    go_wp2
    go_end0
    refine ⟨rfl, ?_, ?_⟩
    · exact set_blockJ (unhide HG)
    · exact setCell_but _ _ _

theorem find_no (k : Int) (p : Value) (w : World) :
    Calls Try.prog 28 #[.bool false, .int .i64 k, p] w fun e w' => e = .returned (.tuple #[]) ∧ w' = w := by
  go_enter Try.func28, Try.ntmps28
  go_wp2
  go_end0
  exact ⟨rfl, rfl⟩

/-- what lies in memory while Judge runs -/
structure InJ (r : XRisk) (s : XSeen) (n : Nat) (w : World) : Prop where
  r0 : w.cell? ⟨n, 0, none⟩ = some (.int .i64 r.floor)
  r1 : w.cell? ⟨n, 1, none⟩ = some (.int .i64 r.frm)
  r2 : w.cell? ⟨n, 2, none⟩ = some (.int .i64 r.share)
  r3 : w.cell? ⟨n, 3, none⟩ = some (.int .i64 r.most)
  r4 : w.cell? ⟨n, 4, none⟩ = some (.int .i64 r.lower)
  r5 : w.cell? ⟨n, 5, none⟩ = some (.int .i64 r.upper)
  r6 : w.cell? ⟨n, 6, none⟩ = some (.slice r.blacko r.black.length r.blackc)
  s0 : w.cell? ⟨n + 1, 0, none⟩ = some (.string s.id)
  s1 : w.cell? ⟨n + 1, 1, none⟩ = some (.int .i64 s.amount)
  s2 : w.cell? ⟨n + 1, 2, none⟩ = some (.int .i64 s.other)
  s3 : w.cell? ⟨n + 1, 3, none⟩ = some (.int .i64 s.count)
  s4 : w.cell? ⟨n + 1, 4, none⟩ = some (.int .i64 s.last)
  s5 : w.cell? ⟨n + 1, 5, none⟩ = some (.int .i64 s.draw)
def jboxes (r : XRisk) (s : XSeen) (w : World) : World :=
  ((w.alloc (Obj.cells #[.int .i64 r.floor, .int .i64 r.frm, .int .i64 r.share, .int .i64 r.most, .int .i64 r.lower, .int .i64 r.upper, .slice r.blacko r.black.length r.blackc] 30)).alloc
    (Obj.cells #[.string s.id, .int .i64 s.amount, .int .i64 s.other, .int .i64 s.count, .int .i64 s.last, .int .i64 s.draw] 45))
theorem inJ {r : XRisk} {s : XSeen} {w w' : World} (h : Below (jboxes r s w).heap.size (jboxes r s w) w') : InJ r s w.heap.size w' := by
  have hz : (jboxes r s w).heap.size = w.heap.size + 2 := by simp [jboxes]
  refine ⟨?_, ?_, ?_, ?_, ?_, ?_, ?_, ?_, ?_, ?_, ?_, ?_, ?_⟩ <;> (refine (h.cell (by rw [hz]; simp)).trans ?_; unfold jboxes; first | (rw [World.cell?_alloc_at _ _ _ _ (by simp)]; rfl) | (rw [World.cell?_alloc_past _ _ _ (by simp), World.cell?_alloc_at _ _ _ _ (by simp)]; rfl))
theorem below_jboxes (r : XRisk) (s : XSeen) (w : World) : Below w.heap.size w (jboxes r s w) := ((Below.refl _ _).alloc (Nat.le_refl _) _).alloc (by simp) _

/-- .. with the variable of the bits -/
structure JAt (r : XRisk) (s : XSeen) (w0 : World) (g : Nat) (x : Int) (w : World) : Prop where
  cells : InJ r s w0.heap.size w
  one : OneAt w g x
  far : w0.heap.size + 2 ≤ g
  bel : Below w0.heap.size w0 w
theorem InJ.keep {r : XRisk} {s : XSeen} {n : Nat} {w w' : World} (h : InJ r s n w) (hk : ∀ b j, b < n + 2 → w'.cell? ⟨b, j, none⟩ = w.cell? ⟨b, j, none⟩) : InJ r s n w' :=
  ⟨(hk _ _ (by omega)).trans h.r0, (hk _ _ (by omega)).trans h.r1, (hk _ _ (by omega)).trans h.r2, (hk _ _ (by omega)).trans h.r3, (hk _ _ (by omega)).trans h.r4, (hk _ _ (by omega)).trans h.r5, (hk _ _ (by omega)).trans h.r6,
   (hk _ _ (by omega)).trans h.s0, (hk _ _ (by omega)).trans h.s1, (hk _ _ (by omega)).trans h.s2, (hk _ _ (by omega)).trans h.s3, (hk _ _ (by omega)).trans h.s4, (hk _ _ (by omega)).trans h.s5⟩
theorem OneAt.lt {w : World} {g : Nat} {x : Int} (h : OneAt w g x) : g < w.heap.size := by
  rcases Nat.lt_or_ge g w.heap.size with h1 | h1
  · exact h1
  · unfold OneAt at h
    rw [Array.getElem?_eq_none h1] at h
    cases h
theorem JAt.found {r : XRisk} {s : XSeen} {w0 w w' : World} {g : Nat} {x y : Int} (h : JAt r s w0 g x w) (h1 : OneAt w' g y) (h2 : ButOne g w w') : JAt r s w0 g y w' :=
  ⟨h.cells.keep (fun b j hb => h2.cell (a := ⟨b, j, none⟩) (by have := h.far; show b ≠ g; omega)), h1, h.far, h.bel.trans (h2.below (by have := h.far; omega))⟩
theorem JAt.more {r : XRisk} {s : XSeen} {w0 w w' : World} {g : Nat} {x : Int} (h : JAt r s w0 g x w) (hb : Below w.heap.size w w') : JAt r s w0 g x w' :=
  ⟨h.cells.keep (fun b j hb' => hb.cell (p := ⟨b, j, none⟩) (by have := h.far; have := h.one.lt; show b < _; omega)), (hb.block g h.one.lt).trans h.one, h.far, h.bel.trans (hb.mono h.bel.size)⟩

/-- a bit that is laid down -/
def orIf (f : Bool) (k x : Int) : Int := bif f then bits .or .i64 x k else x
/-- the bits that are found -/
def found6 (f1 f2 f3 f4 f5 f6 : Bool) : Int := (bif f1 then 8 else 0) + (bif f2 then 16 else 0) + (bif f3 then 32 else 0) + (bif f4 then 64 else 0) + (bif f5 then 128 else 0) + (bif f6 then 256 else 0)
theorem found_or (f1 f2 f3 f4 f5 f6 : Bool) : orIf f6 256 (orIf f5 128 (orIf f4 64 (orIf f3 32 (orIf f2 16 (orIf f1 8 0))))) = found6 f1 f2 f3 f4 f5 f6 := by
  cases f1 <;> cases f2 <;> cases f3 <;> cases f4 <;> cases f5 <;> cases f6 <;> decide
def foundRS (r : XRisk) (s : XSeen) : Int :=
  found6 (decide (r.floor ≤ s.amount + s.other)) (decide (s.amount < r.floor) && decide (s.draw ≤ pct r s.amount)) (decide (r.lower < s.count - s.last)) (decide (r.upper < s.count - s.last)) (s.last == 0) (inTexts s.id r.black)
def judgeE (r : XRisk) (s : XSeen) : Int := if riskE r = 0 then seenE s else riskE r
def judgeA (r : XRisk) (s : XSeen) : Int := if judgeE r s = 0 then foundRS r s else 0

theorem riskE_zero {r : XRisk} (h : riskE r = 0) : r.black.length ≤ 1000 ∧ RiskOK r := by
  unfold riskE at h
  split at h
  · cases h
  · split at h
    · exact ⟨by omega, by assumption⟩
    · cases h
theorem seenE_zero {s : XSeen} (h : seenE s = 0) : SeenOK s := by
  unfold seenE at h
  split at h
  · assumption
  · cases h

set_option maxHeartbeats 4000000 in
theorem judge_no (r : XRisk) (s : XSeen) (w : World) (h : judgeE r s ≠ 0) :
    Calls Try.prog 8 #[valRisk r, valSeen s] w fun e w' => e = .returned (.tuple #[.int .i64 0, .int .i64 (judgeE r s)]) ∧ Below w.heap.size w w' := by
  have n1 := fun w => checkRisk_any r w
  have n2 := fun w => checkSeen_any s w
  have hbx := below_jboxes r s w
  have hin := fun w' => @inJ r s w w'
  unfold valRisk valSeen at *
  by_cases h1 : riskE r = 0
  · have e : judgeE r s = seenE s := by rw [judgeE, if_pos h1]
    rw [e] at h ⊢
    rw [h1] at n1
    have hne : (seenE s != 0) = true := by simpa using h
    generalize seenE s = se at *
    have N1 := hide n1; have N2 := hide n2
    clear n1 n2 h1 e h
    go_enter Try.func8, Try.ntmps8
    go_wp2_with fail
    refine (unhide N1 _).mono ?_
    rintro e w1 ⟨rfl, hb1⟩
    have HB : Below (jboxes r s w).heap.size (jboxes r s w) w1 := hb1
    have hj := hin _ HB
    have i1 := hj.s0; have i2 := hj.s1; have i3 := hj.s2; have i4 := hj.s3; have i5 := hj.s4; have i6 := hj.s5
    clear hb1 hj
    go_wp2_with fail
    refine (unhide N2 _).mono ?_
    rintro e w2 ⟨rfl, hb2⟩
    clear i1 i2 i3 i4 i5 i6
    go_wp2_with fail
    go_ret2
    exact ⟨rfl, hbx.trans ((HB.trans (hb2.mono HB.size)).mono hbx.size)⟩
  · have e : judgeE r s = riskE r := by rw [judgeE, if_neg h1]
    rw [e]
    have hne : (riskE r != 0) = true := by simpa using h1
    generalize riskE r = re at *
    have N1 := hide n1
    clear n1 n2 h1 e h
    go_enter Try.func8, Try.ntmps8
    go_wp2_with fail
    refine (unhide N1 _).mono ?_
    rintro e w1 ⟨rfl, hb1⟩
    go_wp2_with fail
    go_ret2
    exact ⟨rfl, hbx.trans (hb1.mono hbx.size)⟩
end Go.Proofs.Ytadjbojlojnadaa
