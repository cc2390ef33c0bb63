/- A book: its places; where the next one would lie. -/
import Derived.Test.YtbiipeapcclbkaaBkH
import Derived.Deep.RegionLaw
namespace Go.Proofs.Ytbiipeapcclbkaa
open Go.RowKit Go.Shelf
set_option linter.unusedVariables false
set_option linter.unusedSimpArgs false
set_option maxRecDepth 100000

def plsFrom (k p : Nat) : List En → List (Nat × En × Nat)
  | [] => []
  | e :: l => (k + 1, e, p) :: plsFrom (k + 1) (p + wid e) l
/-- the places of entries -/
def plsL (L : List En) : List (Nat × En × Nat) := plsFrom 0 0 L
theorem plsFrom_len (L : List En) : ∀ k p, (plsFrom k p L).length = L.length := by
  induction L with
  | nil => intro k p; rfl
  | cons e l ih => intro k p; simp [plsFrom, ih]
theorem plsL_len (L : List En) : (plsL L).length = L.length := plsFrom_len L 0 0
theorem plsFrom_get (L : List En) : ∀ k p i, (plsFrom k p L)[i]? = L[i]?.map (fun e => (k + i + 1, e, p + posL (L.take i))) := by
  induction L with
  | nil => intro k p i; simp [plsFrom]
  | cons e l ih =>
    intro k p i
    cases i with
    | zero => simp [plsFrom, posL]
    | succ i =>
      simp only [plsFrom, List.getElem?_cons_succ, ih, List.take_succ_cons, posL]
      congr 1
      funext x
      rw [show k + 1 + i + 1 = k + (i + 1) + 1 by omega, show p + wid e + posL (l.take i) = p + (wid e + posL (l.take i)) by omega]
theorem plsL_get {L : List En} {i : Nat} {e : En} (h : L[i]? = some e) : (plsL L)[i]? = some (i + 1, e, posL (L.take i)) := by
  unfold plsL
  rw [plsFrom_get, h]
  simp
theorem plsFrom_append (L m : List En) : ∀ k p, plsFrom k p (L ++ m) = plsFrom k p L ++ plsFrom (k + L.length) (p + posL L) m := by
  induction L with
  | nil => intro k p; simp [plsFrom, posL]
  | cons e l ih =>
    intro k p
    simp only [List.cons_append, plsFrom, ih, posL, List.length_cons]
    rw [show k + 1 + l.length = k + (l.length + 1) by omega, show p + wid e + posL l = p + (wid e + posL l) by omega]
theorem plsL_snoc (L : List En) (e : En) : plsL (L ++ [e]) = plsL L ++ [(L.length + 1, e, posL L)] := by
  unfold plsL
  rw [plsFrom_append]
  simp [plsFrom]
def cellsPl (x : Nat × En × Nat) : List Value := [.int .i64 (x.1 : Int), .int .i64 x.2.1.what, .int .i64 x.2.1.how, .string x.2.1.text, .int .i64 (x.2.2 : Int)]
theorem cellsPl_len (x : Nat × En × Nat) : (cellsPl x).length = 5 := rfl
/-- a book in memory -/
structure BookAt (w : World) (B bb mb : Nat) (v : Value) (M : Mm) (pl : Value) (L : List En) : Prop where
  sto : StoAt w B bb mb v M pl
  row : OwnR w B 62 5 cellsPl pl (plsL L)
  pF : ∀ x, pl.ownBlock = some x → ¬ stoF bb mb v x
  ok : ∀ e ∈ L, okEn e
  pos : posL L ≤ 100000
section
variable {w w' : World} {B bb mb : Nat} {v pl : Value} {M : Mm} {L : List En}
theorem BookAt.below (h : BookAt w B bb mb v M pl L) (hb : Below w.heap.size w w') : BookAt w' B bb mb v M pl L := ⟨h.sto.below hb, h.row.below hb, h.pF, h.ok, h.pos⟩
theorem BookAt.len (h : BookAt w B bb mb v M pl L) : L.length ≤ 100000 := Nat.le_trans (posL_len L) h.pos
theorem step_call1 {P : Program} {ops : Array Oper} {o : Oper} {a : Act} {w : World} {K : Act → World → Prop} {Q : Exit → Act → World → Prop} {E : Prop} (hgd : o.guard = none) (f : FuncId) (x : Operand) (ts : Array TypeId)
    (ho : o.op = .call { callee := .value (.func f), args := #[x], argTypes := ts }) (v : Value) (hx : a.eval x = v) (hf : ∀ args w, (callFunc f args).run P w = .ok (.enter f args) w)
    {S : Ending → World → Prop} (hc : Calls P f #[v] w S) (hv : ∀ e w', S e w' → ∃ v, e = .returned v ∧ K (a.put o.dst v) w') :
    if Region.wanted o (yielded ops a.tmps) = true then Oper.wp P o a w K Q else E := by
  have hw : Region.wanted o (yielded ops a.tmps) = true := by simp [Region.wanted, hgd]
  rw [if_pos hw]
  obtain ⟨dst, op, ty, pos, after, guard⟩ := o
  cases ho
  have hrun : (execOp a.eval { dst, op := .call { callee := .value (.func f), args := #[x], argTypes := ts }, type := ty, pos, after, guard }).run P w = .ok (.enter f #[v]) w := by
    show (callFunc f (#[] ++ #[x].map a.eval ++ #[])).run P w = _
    have e : (#[] ++ #[x].map a.eval ++ #[]) = #[v] := by simp [hx]
    rw [e]; exact hf _ _
  unfold Oper.wp
  rw [hrun, Oper.upon_enter]
  refine hc.mono fun e w' hh => ?_
  obtain ⟨v, rfl, hk⟩ := hv e w' hh
  exact hk
theorem ent_end (args : Array Value) (w : World) : (callFunc 24 args).run Try.prog w = .ok (.enter 24 args) w := by kernel_rfl
theorem blen_any (h : BookAt w B bb mb v M pl L) : Calls Try.prog 17 #[.pointer (some ⟨bb, 0, none⟩)] w fun r w' => r = .returned (.int .i64 (L.length : Nat)) ∧ w' = w := by
  obtain ⟨c0, c1, c2⟩ := h.sto.cells
  obtain ⟨⟨ao, cap, hv⟩, _⟩ := h.row.form
  rw [plsL_len] at hv
  subst hv
  clear h
  go_enter Try.func17, Try.ntmps17
  go_wp2
  go_ret
  exact ⟨rfl, rfl⟩
def wiB (n lo hi : Int) : Bool := decide (lo ≤ n ∧ n ≤ hi)
theorem bwithin_any (n lo hi : Int) (w : World) :
    Calls Try.prog 22 #[.int .i64 n, .int .i64 lo, .int .i64 hi] w fun e w' => e = .returned (.bool (wiB n lo hi)) ∧ w' = w := by
  by_cases h1 : lo ≤ n
  · have HQ : Hid (wiB n lo hi = decide (n ≤ hi)) := hide (decide_eq_decide.2 (by omega))
    go_enter Try.func22, Try.ntmps22
    go_wp2
    go_ret
    exact ⟨ret_bool (unhide HQ).symm, rfl⟩
  · have HQ : Hid (wiB n lo hi = false) := hide (decide_eq_false (by omega))
    go_enter Try.func22, Try.ntmps22
    go_wp2
    go_ret
    exact ⟨ret_bool (unhide HQ).symm, rfl⟩
theorem has_any (h : BookAt w B bb mb v M pl L) (n : Int) : Calls Try.prog 26 #[.pointer (some ⟨bb, 0, none⟩), .int .i64 n] w fun r w' => r = .returned (.bool (wiB n 1 (L.length : Int))) ∧ w' = w := by
  obtain ⟨c0, c1, c2⟩ := h.sto.cells
  obtain ⟨⟨ao, cap, hv⟩, _⟩ := h.row.form
  rw [plsL_len] at hv
  subst hv
  have N := hide (bwithin_any n 1 (L.length : Int) w)
  generalize wiB n 1 (L.length : Int) = q at *
  clear h
  go_enter Try.func26, Try.ntmps26
  go_wp2_with fail
  refine (unhide N).mono ?_
  rintro r w1 ⟨rfl, hw⟩
  have hw' := hw.symm
  subst hw'
  go_wp2
  go_ret
  exact ⟨rfl, rfl⟩
end
end Go.Proofs.Ytbiipeapcclbkaa
