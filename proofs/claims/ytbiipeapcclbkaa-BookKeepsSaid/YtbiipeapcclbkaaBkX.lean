/- A book's Done: what it does. -/
import Derived.Test.YtbiipeapcclbkaaBkW
namespace Go.Proofs.Ytbiipeapcclbkaa
open Go.RowKit Go.Shelf
set_option linter.unusedVariables false
set_option linter.unusedSimpArgs false
set_option maxRecDepth 100000

theorem plsFrom_set {e e' : En} (ht : wid e' = wid e) : ∀ (L : List En) (k p i : Nat), L[i]? = some e → plsFrom k p (L.set i e') = (plsFrom k p L).set i (k + i + 1, e', p + posL (L.take i)) := by
  intro L
  induction L with
  | nil => intro k p i h; simp at h
  | cons x l ih =>
    intro k p i h
    cases i with
    | zero =>
      simp only [List.getElem?_cons_zero, Option.some.injEq] at h
      subst h
      simp [plsFrom, posL, ht]
    | succ i =>
      simp only [List.getElem?_cons_succ] at h
      simp only [List.set_cons_succ, plsFrom, List.take_succ_cons, posL, ih _ _ _ h]
      rw [show k + 1 + i + 1 = k + (i + 1) + 1 by omega, show p + wid x + posL (l.take i) = p + (wid x + posL (l.take i)) by omega]
theorem plsL_set {L : List En} {i : Nat} {e e' : En} (ht : wid e' = wid e) (h : L[i]? = some e) : plsL (L.set i e') = (plsL L).set i (i + 1, e', posL (L.take i)) := by
  unfold plsL
  rw [plsFrom_set ht L 0 0 i h]
  simp
theorem posL_set {e e' : En} (ht : wid e' = wid e) : ∀ (L : List En) (i : Nat), L[i]? = some e → posL (L.set i e') = posL L := by
  intro L
  induction L with
  | nil => intro i h; simp at h
  | cons x l ih =>
    intro i h
    cases i with
    | zero =>
      simp only [List.getElem?_cons_zero, Option.some.injEq] at h
      subst h
      simp [posL, ht]
    | succ i =>
      simp only [List.getElem?_cons_succ] at h
      simp only [List.set_cons_succ, posL, ih _ h]
theorem rowPl_set (x : Nat × En × Nat) : ∀ (l : List (Nat × En × Nat)) (i : Nat), i < l.length → rowC cellsPl (l.set i x) = ((((((rowC cellsPl l).set (i * 5) (.int .i64 (x.1 : Int))).set (i * 5 + 1) (.int .i64 x.2.1.what)).set (i * 5 + 2) (.int .i64 x.2.1.how)).set (i * 5 + 3) (.string x.2.1.text)).set (i * 5 + 4) (.int .i64 (x.2.2 : Int))) := by
  intro l
  induction l with
  | nil => intro i h; simp at h
  | cons y l ih =>
    intro i h
    cases i with
    | zero => rfl
    | succ i =>
      have h1 := ih i (by simpa using h)
      rw [List.set_cons_succ]
      show cellsPl y ++ rowC cellsPl (l.set i x) = _
      rw [h1, show (i + 1) * 5 = i * 5 + 5 by omega]
      rfl
section
variable {α : Type} {w w' : World} {B : Nat} {t : TypeId} {m : Nat} {c : α → List Value} {v : Value} {l : List α}
theorem OwnR.chg {F : Nat → Prop} (h : OwnR w B t m c v l) (hc : Chg F w w') (hF : ∀ x, v.ownBlock = some x → ¬ F x) : OwnR w' B t m c v l := by
  refine ⟨h.1, ?_⟩
  rcases h.2 with h0 | ⟨g, cap, cur, e1, e2, e3, e4⟩
  · exact .inl h0
  · exact .inr ⟨g, cap, cur, e1, e2, by rw [hc.block g (block_ltR e3) (hF g (by rw [e1]; rfl))]; exact e3, e4⟩
end
/-- a place of the row is written -/
def setPl (w : World) (g i : Nat) (x : Nat × En × Nat) : World := ((((w.setCell ⟨g, i * 5, none⟩ (.int .i64 (x.1 : Int))).setCell ⟨g, i * 5 + 1, none⟩ (.int .i64 x.2.1.what)).setCell ⟨g, i * 5 + 2, none⟩ (.int .i64 x.2.1.how)).setCell ⟨g, i * 5 + 3, none⟩ (.string x.2.1.text)).setCell ⟨g, i * 5 + 4, none⟩ (.int .i64 (x.2.2 : Int))
theorem OwnR.setPl {w : World} {B g cap : Nat} {l : List (Nat × En × Nat)} (h : OwnR w B 62 5 cellsPl (.slice (some ⟨g, 0, none⟩) l.length cap) l) (i : Nat) (x : Nat × En × Nat) (hi : i < l.length) : OwnR (Proofs.Ytbiipeapcclbkaa.setPl w g i x) B 62 5 cellsPl (.slice (some ⟨g, 0, none⟩) (l.set i x).length cap) (l.set i x) := by
  rcases h.2 with ⟨h0, _⟩ | ⟨g', cap', cur, e1, e2, e3, e4, e5, e6, e7⟩
  · cases h0
  · obtain ⟨rfl, rfl⟩ : g = g' ∧ cap = cap' := by injection e1 with a1 _ a3; injection a1 with a1; injection a1 with a1; exact ⟨a1, a3⟩
    refine ⟨by rw [rowC_length cellsPl_len], .inr ⟨g, cap, ((((cur.setIfInBounds (i * 5) (.int .i64 (x.1 : Int))).setIfInBounds (i * 5 + 1) (.int .i64 x.2.1.what)).setIfInBounds (i * 5 + 2) (.int .i64 x.2.1.how)).setIfInBounds (i * 5 + 3) (.string x.2.1.text)).setIfInBounds (i * 5 + 4) (.int .i64 (x.2.2 : Int)), rfl, e2, ?_, by rw [List.length_set]; exact e4, e5, by simp only [Array.size_setIfInBounds]; exact e6, ?_⟩⟩
    · simp [Proofs.Ytbiipeapcclbkaa.setPl, World.setCell, Array.getElem?_modify, e3]
    · rw [rowPl_set x l i hi, List.length_set, ← e7]
      simp only [Array.toList_setIfInBounds, List.take_set]
theorem setPl_chg (w : World) (g i : Nat) (x : Nat × En × Nat) : Chg (fun y => y = g) w (setPl w g i x) := by
  unfold setPl
  have k := fun (w : World) (j : Nat) (u : Value) => Chg.setCell w ⟨g, j, none⟩ u
  have s := fun (y : Nat) (W : World) (h : y = g) => (Or.inl h : y = g ∨ W.heap.size ≤ y)
  exact ((((k w _ _).trans (k _ _ _) (fun y => s y w)).trans (k _ _ _) (fun y => s y w)).trans (k _ _ _) (fun y => s y w)).trans (k _ _ _) (fun y => s y w)
theorem step_call2 {P : Program} {ops : Array Oper} {o : Oper} {a : Act} {w : World} {K : Act → World → Prop} {Q : Exit → Act → World → Prop} {E : Prop} (hgd : o.guard = none) (f : FuncId) (x y : Operand) (ts : Array TypeId)
    (ho : o.op = .call { callee := .value (.func f), args := #[x, y], argTypes := ts }) (v u : Value) (hx : a.eval x = v) (hy : a.eval y = u) (hf : ∀ args w, (callFunc f args).run P w = .ok (.enter f args) w)
    {S : Ending → World → Prop} (hc : Calls P f #[v, u] w S) (hv : ∀ e w', S e w' → ∃ v, e = .returned v ∧ K (a.put o.dst v) w') :
    if Region.wanted o (yielded ops a.tmps) = true then Oper.wp P o a w K Q else E := by
  have hw : Region.wanted o (yielded ops a.tmps) = true := by simp [Region.wanted, hgd]
  rw [if_pos hw]
  obtain ⟨dst, op, ty, pos, after, guard⟩ := o
  cases ho
  have hrun : (execOp a.eval { dst, op := .call { callee := .value (.func f), args := #[x, y], argTypes := ts }, type := ty, pos, after, guard }).run P w = .ok (.enter f #[v, u]) w := by
    show (callFunc f (#[] ++ #[x, y].map a.eval ++ #[])).run P w = _
    have e : (#[] ++ #[x, y].map a.eval ++ #[]) = #[v, u] := by simp [hx, hy]
    rw [e]; exact hf _ _
  unfold Oper.wp
  rw [hrun, Oper.upon_enter]
  refine hc.mono fun e w' hh => ?_
  obtain ⟨v, rfl, hk⟩ := hv e w' hh
  exact hk
theorem ent_head (args : Array Value) (w : World) : (callFunc 27 args).run Try.prog w = .ok (.enter 27 args) w := by kernel_rfl
end Go.Proofs.Ytbiipeapcclbkaa
