/- ReadApps of the reference. -/
import Derived.Test.YtamamlpicookiaeRPick
import Derived.Test.YtamamlpicookiaeRParseI
import Derived.Laws.AppendOwn
namespace Go.Proofs.Ytamamlpicookiae
open Go.RowKit
set_option linter.unusedVariables false

/-- what one item more says of an application -/
def stepR (y : XApp) (z : It) : XApp :=
  if z.tag = 79 then { y with name := z.text } else if z.tag = 80 then { y with label := z.text }
  else if z.tag = 135 ∧ z.text.size = 1 then { y with prio := (byteAt z.text 0 % 128 : Nat), confirm := decide (127 < byteAt z.text 0) } else y
def zeroA : XApp := ⟨⟨#[]⟩, ⟨#[]⟩, 0, false⟩
/-- the application of an item, as the reference reads it -/
def appR (x : It) : XApp := x.list.foldl stepR zeroA
theorem appR_item (x : XApp) (hs : sizedA x) (h0 : 0 ≤ x.prio) (h1 : x.prio ≤ 15) : appR (itemI x) = x := by
  obtain ⟨nm, lb, pr, cf⟩ := x
  have hb := last_byte h0 h1
  have hsz : (strOfNums [lastN ⟨nm, lb, pr, cf⟩]).size = 1 := by rw [strOfNums_size]; rfl
  have hby : byteAt (strOfNums [lastN ⟨nm, lb, pr, cf⟩]) 0 = (lastN ⟨nm, lb, pr, cf⟩).toNat := byteAt_nums 0 _ rfl hb.1 hb.2
  simp only [appR, itemI, It.list, List.foldl_cons, List.foldl_nil, stepR, It.tag, It.text, zeroA]
  simp only [if_true, Int.reduceEq, if_false, false_and, hsz, and_self, hby]
  simp only at h0 h1
  have hl : lastN ⟨nm, lb, pr, cf⟩ = pr + (if cf = true then 128 else 0) := rfl
  rw [hl]
  congr 1
  · cases cf <;> simp <;> omega
  · cases cf <;> simp <;> omega
def cellsAQ (x : XApp) : List Value := [.string x.name, .string x.label, .int .i64 x.prio, .bool x.confirm]
def cellsLQ : List XApp → List Value
  | [] => []
  | x :: r => cellsAQ x ++ cellsLQ r
theorem cellsLQ_snoc (l : List XApp) (x : XApp) : cellsLQ (l ++ [x]) = cellsLQ l ++ cellsAQ x := by
  induction l with
  | nil => simp [cellsLQ]
  | cons y r ih => simp [cellsLQ, ih]
theorem cellsLQ_at (l : List XApp) (i : Nat) (x : XApp) (h : l[i]? = some x) : (cellsLQ l)[i * 4]? = some (.string x.name) ∧ (cellsLQ l)[i * 4 + 1]? = some (.string x.label) ∧ (cellsLQ l)[i * 4 + 2]? = some (.int .i64 x.prio) ∧ (cellsLQ l)[i * 4 + 3]? = some (.bool x.confirm) := by
  induction l generalizing i with
  | nil => simp at h
  | cons y r ih =>
    cases i with
    | zero =>
      obtain rfl : y = x := by simpa using h
      exact ⟨rfl, rfl, rfl, rfl⟩
    | succ i =>
      obtain ⟨h0, h1, h2, h3⟩ := ih i (by simpa using h)
      have e : ∀ j, (cellsLQ (y :: r))[(i + 1) * 4 + j]? = (cellsLQ r)[i * 4 + j]? := fun j => by
        rw [cellsLQ, List.getElem?_append_right (by simp [cellsAQ]; omega)]
        congr 1
        simp [cellsAQ]; omega
      exact ⟨(e 0).trans h0, (e 1).trans h1, (e 2).trans h2, (e 3).trans h3⟩
theorem rowApp_own {w : World} {B : Nat} {v : Value} {l : List XApp} (h : w.ownsRow B 31 4 v l.length (cellsLQ l)) (ho : ∀ x ∈ l, okApp w x) (hm : l.length ≤ maxLen) :
    ∃ ao cap, v = .slice ao l.length cap ∧ RowApp w ao l := by
  rcases h.2 with ⟨hv, hn⟩ | ⟨g, cap, cur, hv, hg, hh, _, _, _, htake⟩
  · exact ⟨none, 0, by rw [hv, hn], .inl (List.length_eq_zero_iff.1 hn), ho, hm⟩
  · refine ⟨_, cap, hv, .inr ⟨g, 0, rfl, block_ltQ hh, fun i x hx => ?_⟩, ho, hm⟩
    obtain ⟨h0, h1, h2, h3⟩ := cellsLQ_at l i x hx
    have hi : i < l.length := by
      rcases Nat.lt_or_ge i l.length with h | h
      · exact h
      · rw [List.getElem?_eq_none h] at hx; cases hx
    rw [← htake] at h0 h1 h2 h3
    rw [List.getElem?_take_of_lt (by omega)] at h0 h1 h2 h3
    rw [Nat.zero_add]
    exact ⟨by rw [cell_of_row _ _ _ _ _ _ hh, ← h0]; simp, by rw [cell_of_row _ _ _ _ _ _ hh, ← h1]; simp, by rw [cell_of_row _ _ _ _ _ _ hh, ← h2]; simp, by rw [cell_of_row _ _ _ _ _ _ hh, ← h3]; simp⟩
theorem alloc_keepQ {w : World} {g : Nat} {o o' : Obj} (h : w.heap[g]? = some o) : (w.alloc o').heap[g]? = some o := by
  rw [((Below.refl w.heap.size w).alloc (Nat.le_refl _) o').block g (block_ltQ h)]; exact h
/-- an application's cells in a block -/
def AppAt (w : World) (g : Nat) (y : XApp) : Prop := w.heap[g]? = some (.cells #[.string y.name, .string y.label, .int .i64 y.prio, .bool y.confirm] 31 (0, 0))
theorem AppAt.name {w : World} {g : Nat} {y : XApp} (h : AppAt w g y) (t : ByteArray) : AppAt (w.setCell ⟨g, 0, none⟩ (.string t)) g { y with name := t } := by
  have := set_rowQ (j := 0) (v := .string t) h
  exact this
theorem AppAt.label {w : World} {g : Nat} {y : XApp} (h : AppAt w g y) (t : ByteArray) : AppAt (w.setCell ⟨g, 1, none⟩ (.string t)) g { y with label := t } := by
  have := set_rowQ (j := 1) (v := .string t) h
  exact this
theorem AppAt.last {w : World} {g : Nat} {y : XApp} (h : AppAt w g y) (p : Int) (c : Bool) : AppAt ((w.setCell ⟨g, 2, none⟩ (.int .i64 p)).setCell ⟨g, 3, none⟩ (.bool c)) g { y with prio := p, confirm := c } := by
  have := set_rowQ (j := 3) (v := .bool c) (set_rowQ (j := 2) (v := .int .i64 p) h)
  exact this
theorem AppAt.alloc {w : World} {g : Nat} {y : XApp} (h : AppAt w g y) (o : Obj) : AppAt (w.alloc o) g y := alloc_keepQ h
theorem fold_size : ∀ (l : List It) (y : XApp), (l.foldl stepR y).name.size ≤ y.name.size + wt 1 l ∧ (l.foldl stepR y).label.size ≤ y.label.size + wt 1 l ∧ ((0 ≤ y.prio ∧ y.prio < 256) → 0 ≤ (l.foldl stepR y).prio ∧ (l.foldl stepR y).prio < 256)
  | [], y => ⟨Nat.le_add_right _ _, Nat.le_add_right _ _, fun h => h⟩
  | z :: r, y => by
    have hw : wt 1 (z :: r) = 1 + z.text.size + wt 1 r := by simp [wt]
    obtain ⟨a, b, c⟩ := fold_size r (stepR y z)
    rw [List.foldl_cons, hw]
    have h1 : (stepR y z).name.size ≤ y.name.size + z.text.size ∧ (stepR y z).label.size ≤ y.label.size + z.text.size ∧ ((0 ≤ y.prio ∧ y.prio < 256) → 0 ≤ (stepR y z).prio ∧ (stepR y z).prio < 256) := by
      unfold stepR
      split
      · exact ⟨Nat.le_add_left _ _, Nat.le_add_right _ _, fun h => h⟩
      · split
        · exact ⟨Nat.le_add_right _ _, Nat.le_add_left _ _, fun h => h⟩
        · split
          · refine ⟨Nat.le_add_right _ _, Nat.le_add_right _ _, fun h => ?_⟩
            simp only
            omega
          · exact ⟨Nat.le_add_right _ _, Nat.le_add_right _ _, fun h => h⟩
    exact ⟨by omega, by omega, fun h => c (h1.2.2 h)⟩
theorem wt_one : ∀ (d : Nat) (l : List It), wt 1 l ≤ wt (d + 1) l
  | d, [] => by simp [wt]
  | d, x :: r => by
    have := wt_one d r
    simp only [wt, List.map_cons, List.sum_cons] at this ⊢
    omega
theorem appR_ok (d : Nat) (x : It) (W : World) (h : wt (d + 1) x.list ≤ 1048576) : okApp W (appR x) := by
  obtain ⟨a, b, c⟩ := fold_size x.list zeroA
  have h1 := wt_one d x.list
  obtain ⟨p, q⟩ := c ⟨by decide, by decide⟩
  have z1 : zeroA.name.size = 0 := rfl
  have z2 : zeroA.label.size = 0 := rfl
  refine ⟨?_, ?_, ?_⟩
  · show (x.list.foldl stepR zeroA).name.size ≤ maxLen
    unfold maxLen; omega
  · show (x.list.foldl stepR zeroA).label.size ≤ maxLen
    unfold maxLen; omega
  · show -9223372036854775808 ≤ (x.list.foldl stepR zeroA).prio ∧ (x.list.foldl stepR zeroA).prio ≤ 9223372036854775807
    generalize (x.list.foldl stepR zeroA).prio = z at *
    omega
/-- what is read -/
theorem reads_same (s : ByteArray) : readA appR s = readA (appP 7) s := readA_same appR_item appP_item s
end Go.Proofs.Ytamamlpicookiae
