/- Parse of the reference. -/
import Derived.Test.YtamamlpicookiahRItems
import Derived.WalkKit
import Derived.Test.YtamamlpicookiahRP
import Derived.Laws.AppendOwn
namespace Go.Proofs.Ytamamlpicookiah
open Go.RowKit
set_option linter.unusedVariables false

set_option maxRecDepth 1000000 in
theorem rparse_any (s : ByteArray) (w : World) (hs : s.size ≤ maxLen) :
    Calls Try.prog 40 #[.string s] w fun e w' => ∃ ao cap, e = .returned (.tuple #[.slice ao (parsesL s).length cap, .int .i64 (parsesE s)]) ∧ IRowA w' (fun b => w.heap.size ≤ b) 8 ao (parsesL s) ∧ Below w.heap.size w w' := by
  unfold maxLen at hs
  by_cases hb : 65535 < s.size
  · have h1 : parsesL s = [] := by unfold parsesL; rw [if_pos hb]
    have h2 : parsesE s = 2 := by unfold parsesE; rw [if_pos hb]
    rw [h1, h2]
    have t1 : decide (65535 < (s.size : Int)) = true := by simp; omega
    clear h1 h2
    go_enter Try.func40, Try.ntmps40
    go_wp2
    go_ret2
    exact ⟨none, 0, rfl, IRowA.nil _ _ _ _, Below.refl _ _⟩
  · have n1 := fun w => itemsOf_any 8 (Nat.le_refl _) (s.size + 1) s w (by omega) (by omega)
    have h1 : parsesL s = (parseD 8 s).getD [] := by unfold parsesL; rw [if_neg hb]
    have h2 : parsesE s = if (parseD 8 s).isSome then 0 else 1 := by unfold parsesE; rw [if_neg hb]
    rw [h1, h2]
    have hd : (9 : Int) - ((8 : Nat) : Int) = 1 := by omega
    rw [hd] at n1
    have t1 : decide (65535 < (s.size : Int)) = false := by simp; omega
    clear h1 h2 hd
    cases hp : parseD 8 s with
    | none =>
      unfold ItemsRet at n1
      rw [hp] at n1
      have N1 := hide n1
      clear n1 hp hb
      go_enter Try.func40, Try.ntmps40
      go_wp2_with fail
      refine (unhide N1 _).mono ?_
      rintro e w2 ⟨⟨v, rs, rfl, _, _, _⟩, hb2⟩
      go_wp2
      go_ret2
      first
        | exact ⟨none, 0, rfl, IRowA.nil _ _ _ _, hb2⟩
        | exact ⟨none, ⟨0, rfl⟩, IRowA.nil _ _ _ _, hb2⟩
    | some l =>
      have HP := hide hp
      have N1 := hide n1
      clear n1 hp hb
      go_enter Try.func40, Try.ntmps40
      go_wp2_with fail
      refine (unhide N1 _).mono ?_
      rintro e w2 ⟨hret, hb2⟩
      obtain ⟨ao, cap, rfl, hcap, hrow⟩ := items_row hret (unhide HP)
      have HW := hide hrow
      clear hrow hret
      go_wp2
      go_ret2
      first
        | exact ⟨ao, cap, rfl, unhide HW, hb2⟩
        | exact ⟨ao, ⟨cap, rfl⟩, unhide HW, hb2⟩
end Go.Proofs.Ytamamlpicookiah
namespace Go.Proofs.Ytamamlpicookiah
open Go.RowKit
set_option linter.unusedVariables false

/-- what one item more says of an application -/
def stepR (y : XApp) (z : It) : XApp :=
  if z.tag = 79 then { y with name := z.text } else if z.tag = 80 then { y with label := z.text }
  else if z.tag = 135 ∧ z.text.size = 1 then { y with prio := (byteAt z.text 0 % 128 : Nat), confirm := decide (127 < byteAt z.text 0) } else y
def zeroA : XApp := ⟨⟨#[]⟩, ⟨#[]⟩, 0, false⟩
/-- the application of an item, as the reference reads it -/
def appR (x : It) : XApp := x.list.foldl stepR zeroA
theorem appR_item (x : XApp) (hs : sizedA x) (h0 : 0 ≤ x.prio) (h1 : x.prio ≤ 15) : appR (itemI x) = x := by
  obtain ⟨nm, lb, pr, cf⟩ := x
  have hb := last_byte h0 h1
  have hsz : (strOfNums [lastN ⟨nm, lb, pr, cf⟩]).size = 1 := by rw [strOfNums_size]; rfl
  have hby : byteAt (strOfNums [lastN ⟨nm, lb, pr, cf⟩]) 0 = (lastN ⟨nm, lb, pr, cf⟩).toNat := byteAt_nums 0 _ rfl hb.1 hb.2
  simp only [appR, itemI, It.list, List.foldl_cons, List.foldl_nil, stepR, It.tag, It.text, zeroA]
  simp only [if_true, Int.reduceEq, if_false, false_and, hsz, and_self, hby]
  simp only at h0 h1
  have hl : lastN ⟨nm, lb, pr, cf⟩ = pr + (if cf = true then 128 else 0) := rfl
  rw [hl]
  congr 1
  · cases cf <;> simp <;> omega
  · cases cf <;> simp <;> omega
def cellsAQ (x : XApp) : List Value := [.string x.name, .string x.label, .int .i64 x.prio, .bool x.confirm]
def cellsLQ : List XApp → List Value
  | [] => []
  | x :: r => cellsAQ x ++ cellsLQ r
theorem cellsLQ_snoc (l : List XApp) (x : XApp) : cellsLQ (l ++ [x]) = cellsLQ l ++ cellsAQ x := by
  induction l with
  | nil => simp [cellsLQ]
  | cons y r ih => simp [cellsLQ, ih]
theorem cellsLQ_at (l : List XApp) (i : Nat) (x : XApp) (h : l[i]? = some x) : (cellsLQ l)[i * 4]? = some (.string x.name) ∧ (cellsLQ l)[i * 4 + 1]? = some (.string x.label) ∧ (cellsLQ l)[i * 4 + 2]? = some (.int .i64 x.prio) ∧ (cellsLQ l)[i * 4 + 3]? = some (.bool x.confirm) := by
  induction l generalizing i with
  | nil => simp at h
  | cons y r ih =>
    cases i with
    | zero =>
      obtain rfl : y = x := by simpa using h
      exact ⟨rfl, rfl, rfl, rfl⟩
    | succ i =>
      obtain ⟨h0, h1, h2, h3⟩ := ih i (by simpa using h)
      have e : ∀ j, (cellsLQ (y :: r))[(i + 1) * 4 + j]? = (cellsLQ r)[i * 4 + j]? := fun j => by
        rw [cellsLQ, List.getElem?_append_right (by simp [cellsAQ]; omega)]
        congr 1
        simp [cellsAQ]; omega
      exact ⟨(e 0).trans h0, (e 1).trans h1, (e 2).trans h2, (e 3).trans h3⟩
theorem alloc_keepQ {w : World} {g : Nat} {o o' : Obj} (h : w.heap[g]? = some o) : (w.alloc o').heap[g]? = some o := by
  rw [((Below.refl w.heap.size w).alloc (Nat.le_refl _) o').block g (block_ltQ h)]; exact h
theorem fold_size : ∀ (l : List It) (y : XApp), (l.foldl stepR y).name.size ≤ y.name.size + wt 1 l ∧ (l.foldl stepR y).label.size ≤ y.label.size + wt 1 l ∧ ((0 ≤ y.prio ∧ y.prio < 256) → 0 ≤ (l.foldl stepR y).prio ∧ (l.foldl stepR y).prio < 256)
  | [], y => ⟨Nat.le_add_right _ _, Nat.le_add_right _ _, fun h => h⟩
  | z :: r, y => by
    have hw : wt 1 (z :: r) = 1 + z.text.size + wt 1 r := by simp [wt]
    obtain ⟨a, b, c⟩ := fold_size r (stepR y z)
    rw [List.foldl_cons, hw]
    have h1 : (stepR y z).name.size ≤ y.name.size + z.text.size ∧ (stepR y z).label.size ≤ y.label.size + z.text.size ∧ ((0 ≤ y.prio ∧ y.prio < 256) → 0 ≤ (stepR y z).prio ∧ (stepR y z).prio < 256) := by
      unfold stepR
      split
      · exact ⟨Nat.le_add_left _ _, Nat.le_add_right _ _, fun h => h⟩
      · split
        · exact ⟨Nat.le_add_right _ _, Nat.le_add_left _ _, fun h => h⟩
        · split
          · refine ⟨Nat.le_add_right _ _, Nat.le_add_right _ _, fun h => ?_⟩
            simp only
            omega
          · exact ⟨Nat.le_add_right _ _, Nat.le_add_right _ _, fun h => h⟩
    exact ⟨by omega, by omega, fun h => c (h1.2.2 h)⟩
theorem wt_one : ∀ (d : Nat) (l : List It), wt 1 l ≤ wt (d + 1) l
  | d, [] => by simp [wt]
  | d, x :: r => by
    have := wt_one d r
    simp only [wt, List.map_cons, List.sum_cons] at this ⊢
    omega
theorem appR_ok (d : Nat) (x : It) (W : World) (h : wt (d + 1) x.list ≤ 1048576) : okApp W (appR x) := by
  obtain ⟨a, b, c⟩ := fold_size x.list zeroA
  have h1 := wt_one d x.list
  obtain ⟨p, q⟩ := c ⟨by decide, by decide⟩
  have z1 : zeroA.name.size = 0 := rfl
  have z2 : zeroA.label.size = 0 := rfl
  refine ⟨?_, ?_, ?_⟩
  · show (x.list.foldl stepR zeroA).name.size ≤ maxLen
    unfold maxLen; omega
  · show (x.list.foldl stepR zeroA).label.size ≤ maxLen
    unfold maxLen; omega
  · show -9223372036854775808 ≤ (x.list.foldl stepR zeroA).prio ∧ (x.list.foldl stepR zeroA).prio ≤ 9223372036854775807
    generalize (x.list.foldl stepR zeroA).prio = z at *
    omega
/-- what is read -/
theorem reads_same (s : ByteArray) : readA appR s = readA (appP 7) s := readA_same appR_item appP_item s
end Go.Proofs.Ytamamlpicookiah
