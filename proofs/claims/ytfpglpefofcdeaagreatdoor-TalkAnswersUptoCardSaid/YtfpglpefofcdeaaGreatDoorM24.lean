/- Parse of the reference. -/
import Derived.Test.YtfpglpefofcdeaaGreatDoorM05
import Derived.WalkKit
import Derived.Test.YtfpglpefofcdeaaGreatDoorM12
import Derived.Laws.AppendOwn
import Derived.Test.YtfpglpefofcdeaaGreatDoorM19
import Derived.Test.YtfpglpefofcdeaaGreatDoorM14
import Derived.Test.YtfpglpefofcdeaaGreatDoorM13
namespace Go.Proofs.YtfpglpefofcdeaaGreatDoor
open Go.RowKit
set_option linter.unusedVariables false

set_option maxRecDepth 1000000 in
theorem rparse_any (s : ByteArray) (w : World) (hs : s.size ≤ maxLen) :
    Calls Tryz.prog 63 #[.string s] w fun e w' => ∃ ao cap, e = .returned (.tuple #[.slice ao (parsesL s).length cap, .int .i64 (parsesE s)]) ∧ IRowA w' (fun b => w.heap.size ≤ b) 8 ao (parsesL s) ∧ Below w.heap.size w w' := by
  unfold maxLen at hs
  by_cases hb : 65535 < s.size
  · have h1 : parsesL s = [] := by unfold parsesL; rw [if_pos hb]
    have h2 : parsesE s = 2 := by unfold parsesE; rw [if_pos hb]
    rw [h1, h2]
    have t1 : decide (65535 < (s.size : Int)) = true := by simp; omega
    clear h1 h2
    go_enter Tryz.func63, Tryz.ntmps63
    go_wp2
    go_ret2
    exact ⟨none, 0, rfl, IRowA.nil _ _ _ _, Below.refl _ _⟩
  · have n1 := fun w => itemsOf_any 8 (Nat.le_refl _) (s.size + 1) s w (by omega) (by omega)
    have h1 : parsesL s = (parseD 8 s).getD [] := by unfold parsesL; rw [if_neg hb]
    have h2 : parsesE s = if (parseD 8 s).isSome then 0 else 1 := by unfold parsesE; rw [if_neg hb]
    rw [h1, h2]
    have hd : (9 : Int) - ((8 : Nat) : Int) = 1 := by omega
    rw [hd] at n1
    have t1 : decide (65535 < (s.size : Int)) = false := by simp; omega
    clear h1 h2 hd
    cases hp : parseD 8 s with
    | none =>
      unfold ItemsRet at n1
      rw [hp] at n1
      have N1 := hide n1
      clear n1 hp hb
      go_enter Tryz.func63, Tryz.ntmps63
      go_wp2_with fail
      refine (unhide N1 _).mono ?_
      rintro e w2 ⟨⟨v, rs, rfl, _, _, _⟩, hb2⟩
      go_wp2
      go_ret2
      first
        | exact ⟨none, 0, rfl, IRowA.nil _ _ _ _, hb2⟩
        | exact ⟨none, ⟨0, rfl⟩, IRowA.nil _ _ _ _, hb2⟩
    | some l =>
      have HP := hide hp
      have N1 := hide n1
      clear n1 hp hb
      go_enter Tryz.func63, Tryz.ntmps63
      go_wp2_with fail
      refine (unhide N1 _).mono ?_
      rintro e w2 ⟨hret, hb2⟩
      obtain ⟨ao, cap, rfl, hcap, hrow⟩ := items_row hret (unhide HP)
      have HW := hide hrow
      clear hrow hret
      go_wp2
      go_ret2
      first
        | exact ⟨ao, cap, rfl, unhide HW, hb2⟩
        | exact ⟨ao, ⟨cap, rfl⟩, unhide HW, hb2⟩
end Go.Proofs.YtfpglpefofcdeaaGreatDoor
namespace Go.Proofs.YtfpglpefofcdeaaGreatDoor
open Go.RowKit
set_option linter.unusedVariables false

/-- what one item more says of an application -/
def stepR (y : XApp) (z : It) : XApp :=
  if z.tag = 79 then { y with name := z.text } else if z.tag = 80 then { y with label := z.text }
  else if z.tag = 135 ∧ z.text.size = 1 then { y with prio := (byteAt z.text 0 % 128 : Nat), confirm := decide (127 < byteAt z.text 0) } else y
def zeroA : XApp := ⟨⟨#[]⟩, ⟨#[]⟩, 0, false⟩
/-- the application of an item, as the reference reads it -/
def appR (x : It) : XApp := x.list.foldl stepR zeroA
theorem appR_item (x : XApp) (hs : sizedA x) (h0 : 0 ≤ x.prio) (h1 : x.prio ≤ 15) : appR (itemI x) = x := by
  obtain ⟨nm, lb, pr, cf⟩ := x
  have hb := last_byte h0 h1
  have hsz : (strOfNums [lastN ⟨nm, lb, pr, cf⟩]).size = 1 := by rw [strOfNums_size]; rfl
  have hby : byteAt (strOfNums [lastN ⟨nm, lb, pr, cf⟩]) 0 = (lastN ⟨nm, lb, pr, cf⟩).toNat := byteAt_nums 0 _ rfl hb.1 hb.2
  simp only [appR, itemI, It.list, List.foldl_cons, List.foldl_nil, stepR, It.tag, It.text, zeroA]
  simp only [if_true, Int.reduceEq, if_false, false_and, hsz, and_self, hby]
  simp only at h0 h1
  have hl : lastN ⟨nm, lb, pr, cf⟩ = pr + (if cf = true then 128 else 0) := rfl
  rw [hl]
  congr 1
  · cases cf <;> simp <;> omega
  · cases cf <;> simp <;> omega
def cellsAQ (x : XApp) : List Value := [.string x.name, .string x.label, .int .i64 x.prio, .bool x.confirm]
def cellsLQ : List XApp → List Value
  | [] => []
  | x :: r => cellsAQ x ++ cellsLQ r
theorem cellsLQ_snoc (l : List XApp) (x : XApp) : cellsLQ (l ++ [x]) = cellsLQ l ++ cellsAQ x := by
  induction l with
  | nil => simp [cellsLQ]
  | cons y r ih => simp [cellsLQ, ih]
theorem cellsLQ_at (l : List XApp) (i : Nat) (x : XApp) (h : l[i]? = some x) : (cellsLQ l)[i * 4]? = some (.string x.name) ∧ (cellsLQ l)[i * 4 + 1]? = some (.string x.label) ∧ (cellsLQ l)[i * 4 + 2]? = some (.int .i64 x.prio) ∧ (cellsLQ l)[i * 4 + 3]? = some (.bool x.confirm) := by
  induction l generalizing i with
  | nil => simp at h
  | cons y r ih =>
    cases i with
    | zero =>
      obtain rfl : y = x := by simpa using h
      exact ⟨rfl, rfl, rfl, rfl⟩
    | succ i =>
      obtain ⟨h0, h1, h2, h3⟩ := ih i (by simpa using h)
      have e : ∀ j, (cellsLQ (y :: r))[(i + 1) * 4 + j]? = (cellsLQ r)[i * 4 + j]? := fun j => by
        rw [cellsLQ, List.getElem?_append_right (by simp [cellsAQ]; omega)]
        congr 1
        simp [cellsAQ]; omega
      exact ⟨(e 0).trans h0, (e 1).trans h1, (e 2).trans h2, (e 3).trans h3⟩
theorem rowApp_own {w : World} {B : Nat} {v : Value} {l : List XApp} (h : w.ownsRow B 90 4 v l.length (cellsLQ l)) (ho : ∀ x ∈ l, okApp w x) (hm : l.length ≤ maxLen) :
    ∃ ao cap, v = .slice ao l.length cap ∧ RowApp w ao l := by
  rcases h.2 with ⟨hv, hn⟩ | ⟨g, cap, cur, hv, hg, hh, _, _, _, htake⟩
  · exact ⟨none, 0, by rw [hv, hn], .inl (List.length_eq_zero_iff.1 hn), ho, hm⟩
  · refine ⟨_, cap, hv, .inr ⟨g, 0, rfl, block_ltQ hh, fun i x hx => ?_⟩, ho, hm⟩
    obtain ⟨h0, h1, h2, h3⟩ := cellsLQ_at l i x hx
    have hi : i < l.length := by
      rcases Nat.lt_or_ge i l.length with h | h
      · exact h
      · rw [List.getElem?_eq_none h] at hx; cases hx
    rw [← htake] at h0 h1 h2 h3
    rw [List.getElem?_take_of_lt (by omega)] at h0 h1 h2 h3
    rw [Nat.zero_add]
    exact ⟨by rw [cell_of_row _ _ _ _ _ _ hh, ← h0]; simp, by rw [cell_of_row _ _ _ _ _ _ hh, ← h1]; simp, by rw [cell_of_row _ _ _ _ _ _ hh, ← h2]; simp, by rw [cell_of_row _ _ _ _ _ _ hh, ← h3]; simp⟩
theorem alloc_keepQ {w : World} {g : Nat} {o o' : Obj} (h : w.heap[g]? = some o) : (w.alloc o').heap[g]? = some o := by
  rw [((Below.refl w.heap.size w).alloc (Nat.le_refl _) o').block g (block_ltQ h)]; exact h
/-- an application's cells in a block -/
def AppAt (w : World) (g : Nat) (y : XApp) : Prop := w.heap[g]? = some (.cells #[.string y.name, .string y.label, .int .i64 y.prio, .bool y.confirm] 90 (0, 0))
theorem AppAt.name {w : World} {g : Nat} {y : XApp} (h : AppAt w g y) (t : ByteArray) : AppAt (w.setCell ⟨g, 0, none⟩ (.string t)) g { y with name := t } := by
  have := set_rowQ (j := 0) (v := .string t) h
  exact this
theorem AppAt.label {w : World} {g : Nat} {y : XApp} (h : AppAt w g y) (t : ByteArray) : AppAt (w.setCell ⟨g, 1, none⟩ (.string t)) g { y with label := t } := by
  have := set_rowQ (j := 1) (v := .string t) h
  exact this
theorem AppAt.last {w : World} {g : Nat} {y : XApp} (h : AppAt w g y) (p : Int) (c : Bool) : AppAt ((w.setCell ⟨g, 2, none⟩ (.int .i64 p)).setCell ⟨g, 3, none⟩ (.bool c)) g { y with prio := p, confirm := c } := by
  have := set_rowQ (j := 3) (v := .bool c) (set_rowQ (j := 2) (v := .int .i64 p) h)
  exact this
theorem AppAt.alloc {w : World} {g : Nat} {y : XApp} (h : AppAt w g y) (o : Obj) : AppAt (w.alloc o) g y := alloc_keepQ h
theorem fold_size : ∀ (l : List It) (y : XApp), (l.foldl stepR y).name.size ≤ y.name.size + wt 1 l ∧ (l.foldl stepR y).label.size ≤ y.label.size + wt 1 l ∧ ((0 ≤ y.prio ∧ y.prio < 256) → 0 ≤ (l.foldl stepR y).prio ∧ (l.foldl stepR y).prio < 256)
  | [], y => ⟨Nat.le_add_right _ _, Nat.le_add_right _ _, fun h => h⟩
  | z :: r, y => by
    have hw : wt 1 (z :: r) = 1 + z.text.size + wt 1 r := by simp [wt]
    obtain ⟨a, b, c⟩ := fold_size r (stepR y z)
    rw [List.foldl_cons, hw]
    have h1 : (stepR y z).name.size ≤ y.name.size + z.text.size ∧ (stepR y z).label.size ≤ y.label.size + z.text.size ∧ ((0 ≤ y.prio ∧ y.prio < 256) → 0 ≤ (stepR y z).prio ∧ (stepR y z).prio < 256) := by
      unfold stepR
      split
      · exact ⟨Nat.le_add_left _ _, Nat.le_add_right _ _, fun h => h⟩
      · split
        · exact ⟨Nat.le_add_right _ _, Nat.le_add_left _ _, fun h => h⟩
        · split
          · refine ⟨Nat.le_add_right _ _, Nat.le_add_right _ _, fun h => ?_⟩
            simp only
            omega
          · exact ⟨Nat.le_add_right _ _, Nat.le_add_right _ _, fun h => h⟩
    exact ⟨by omega, by omega, fun h => c (h1.2.2 h)⟩
theorem wt_one : ∀ (d : Nat) (l : List It), wt 1 l ≤ wt (d + 1) l
  | d, [] => by simp [wt]
  | d, x :: r => by
    have := wt_one d r
    simp only [wt, List.map_cons, List.sum_cons] at this ⊢
    omega
theorem appR_ok (d : Nat) (x : It) (W : World) (h : wt (d + 1) x.list ≤ 1048576) : okApp W (appR x) := by
  obtain ⟨a, b, c⟩ := fold_size x.list zeroA
  have h1 := wt_one d x.list
  obtain ⟨p, q⟩ := c ⟨by decide, by decide⟩
  have z1 : zeroA.name.size = 0 := rfl
  have z2 : zeroA.label.size = 0 := rfl
  refine ⟨?_, ?_, ?_⟩
  · show (x.list.foldl stepR zeroA).name.size ≤ maxLen
    unfold maxLen; omega
  · show (x.list.foldl stepR zeroA).label.size ≤ maxLen
    unfold maxLen; omega
  · show -9223372036854775808 ≤ (x.list.foldl stepR zeroA).prio ∧ (x.list.foldl stepR zeroA).prio ≤ 9223372036854775807
    generalize (x.list.foldl stepR zeroA).prio = z at *
    omega
/-- what is read -/
theorem reads_same (s : ByteArray) : readA appR s = readA (appP 7) s := readA_same appR_item appP_item s
end Go.Proofs.YtfpglpefofcdeaaGreatDoor
namespace Go.Proofs.YtfpglpefofcdeaaGreatDoor
open Go.RowKit
set_option linter.unusedVariables false

/-- the text of a tag within the one item of a list, as the reference reads it -/
def getR (t : Int) (D : List It) : ByteArray := match D with
  | [x] => if x.tag = 161 then (x.list.findSome? (hasI t)).getD ⟨#[]⟩ else ⟨#[]⟩
  | _ => ⟨#[]⟩
theorem getR_no {t : Int} {D : List It} (h : D.length ≠ 1) : getR t D = ⟨#[]⟩ := by
  match D, h with
  | [], _ => rfl
  | [x], h => exact absurd rfl h
  | x :: y :: r, _ => rfl
set_option maxRecDepth 100000 in
set_option maxHeartbeats 4000000 in
theorem rget_any (s : ByteArray) (t : Int) (w : World) (hs : s.size ≤ maxLen) :
    Calls Tryz.prog 28 #[.string s, .int .i64 161, .int .i64 t] w fun e w' => e = .returned (.string (getR t (parsesL s))) ∧ Below w.heap.size w w' := by
  have n1 := fun w => rparse_any s w hs
  have hwt := parses_wt s
  generalize parsesE s = pe at *
  generalize parsesL s = D at *
  have N1 := hide n1
  clear n1
  by_cases hl : D.length = 1
  case neg =>
    rw [getR_no hl]
    have t1 : ((D.length : Int) != 1) = true := by simp; omega
    generalize D.length = dl at *
    clear hl hwt hs
    go_enter Tryz.func28, Tryz.ntmps28
    go_wp2_with fail
    refine (unhide N1 _).mono ?_
    rintro e w1 ⟨ao, cap, rfl, _, hb1⟩
    go_wp2
    go_ret
    exact ⟨rfl, hb1⟩
  obtain ⟨x, rfl⟩ : ∃ x, D = [x] := by
    match D, hl with
    | [x], _ => exact ⟨x, rfl⟩
  have hR : getR t [x] = if x.tag = 161 then (x.list.findSome? (hasI t)).getD ⟨#[]⟩ else ⟨#[]⟩ := rfl
  have hwx : wt 7 x.list ≤ 65535 := by
    have h1 := wt_get (d := 7) (l := [x]) (i := 0) (x := x) rfl
    have h2 : wt (7 + 1) [x] ≤ 65535 := hwt
    omega
  have hxl : (x.list.length : Int) ≤ 65535 := by
    have h3 : x.list.length ≤ wt 7 x.list := wt_length (d := 6) x.list
    omega
  generalize getR t [x] = R at *
  clear hwt hs hl
  simp only [List.length_cons, List.length_nil, Nat.zero_add] at N1
  by_cases hx : x.tag = 161
  case neg =>
    rw [if_neg hx] at hR
    subst hR
    have t2 : (x.tag != 161) = true := by simpa using hx
    go_enter Tryz.func28, Tryz.ntmps28
    go_wp2_with fail
    refine (unhide N1 _).mono ?_
    rintro e w1 ⟨ao, cap, rfl, hrow, hb1⟩
    rcases IRowA.row 8 hrow with hn | ⟨b, off, rfl, hbl, hcl⟩
    · cases hn
    obtain ⟨co, cc, c0, c1, c2, _⟩ := hcl 0 x rfl
    simp only [Nat.zero_mul, Nat.add_zero] at c0 c1 c2
    clear hrow hcl
    go_wp2
    go_ret
    exact ⟨rfl, hb1⟩
  rw [if_pos hx] at hR
  have t2 : (x.tag != 161) = false := by simpa using hx
  have HR := hide hR
  clear hR hx
  go_enter Tryz.func28, Tryz.ntmps28
  go_wp2_with fail
  refine (unhide N1 _).mono ?_
  rintro e w1 ⟨ao, cap, rfl, hrow, hb1⟩
  rcases IRowA.row 8 hrow with hn | ⟨b, off, rfl, hbl, hcl⟩
  · cases hn
  obtain ⟨co, cc, c0, c1, c2, _, hco, _, _⟩ := hcl 0 x rfl
  simp only [Nat.zero_mul, Nat.add_zero] at c0 c1 c2
  generalize x.tag = tg at *
  generalize x.text = tx at *
  generalize x.list = xl at *
  have HCO := hide hco; have HB1 := hide hb1
  clear hrow hcl hco hb1 N1
  go_wp2
  go_loopw [32] (fun i wr => ∃ k : Nat, k ≤ xl.length ∧ i = .int .i64 k ∧ Hid ((xl.take k).findSome? (hasI t) = none) ∧ Below w1.heap.size w1 wr) (fun i _ => xl.length - (intOf i).toNat)
  case atStart => exact ⟨0, Nat.zero_le _, rfl, hide rfl, Below.refl _ _⟩
  case round =>
    obtain ⟨k, hk, rfl, HN, hbw⟩ := hrel
    clear c0 c1 c2
    by_cases hlt : k < xl.length
    · obtain ⟨z, hz⟩ : ∃ z, xl[k]? = some z := ⟨_, List.getElem?_eq_getElem hlt⟩
      have hki : (k : Int) < (xl.length : Int) := by omega
      rcases unhide HCO with hn | ⟨b2, off2, rfl, hbl2, hcl2⟩
      · rw [hn] at hlt; simp at hlt
      obtain ⟨co2, cc2, e0, e1, e2, _⟩ := hcl2 k z hz
      have d0 := (hbw.cell (p := ⟨b2, off2 + k * 3, none⟩) hbl2).trans e0
      have d1 := (hbw.cell (p := ⟨b2, off2 + k * 3 + 1, none⟩) hbl2).trans e1
      have d2 := (hbw.cell (p := ⟨b2, off2 + k * 3 + 2, none⟩) hbl2).trans e2
      have HY1 : Hid (z.tag = t → hasI t z = some z.text) := hide (fun h => by unfold hasI; rw [if_pos h])
      have HY2 : Hid (z.tag ≠ t → hasI t z = none) := hide (fun h => by unfold hasI; rw [if_neg h])
      have HX := hide (fun (h : hasI t z = none) => find_next hz (unhide HN) h)
      have HH := hide (fun (u : ByteArray) (h : hasI t z = some u) => find_here hz (unhide HN) h)
      obtain ⟨ztg, ztx, zl⟩ := z
      simp only [It.tag, It.text, It.list] at d0 d1 d2
      have HBW := hide hbw
      clear e0 e1 e2 hcl2 hz hbw HN
      by_cases hzt : ztg = t
      · have hf : R = ztx := by rw [unhide HR, unhide HH ztx (unhide HY1 hzt)]; rfl
        have HF := hide hf
        have tz : (ztg == t) = true := by simpa using hzt
        clear hf hzt
        go_wp2
        go_ret
        exact ⟨by rw [unhide HF]; rfl, (unhide HB1).trans (((unhide HBW).alloc (unhide HBW).size _).mono (unhide HB1).size)⟩
      · have HN2 := hide (unhide HX (unhide HY2 hzt))
        have tz : (ztg == t) = false := by simpa using hzt
        clear hzt
        go_wp2
        go_roundw
        case rel => exact ⟨k + 1, by omega, by go_num, hide (unhide HN2), (unhide HBW).alloc (unhide HBW).size _⟩
        case measure => simp [intOf]; omega
    · have hf : R = ⟨#[]⟩ := by
        have := unhide HN
        rw [List.take_of_length_le (by omega)] at this
        rw [unhide HR, this]; rfl
      have HF := hide hf
      have HBW := hide hbw
      clear hf hbw
      go_wp2
      go_ret
      exact ⟨by rw [unhide HF]; rfl, (unhide HB1).trans ((unhide HBW).mono (unhide HB1).size)⟩
/-- a number of a text, as the reference reads it -/
def numR (s : ByteArray) : Int := if 7 < s.size then -1 else valN s.data.toList
theorem valN_lt7 (s : ByteArray) (h : s.size ≤ 7) : valN s.data.toList ≤ 9223372036854775807 := by
  have h1 := valN_lt s.data.toList
  have h2 : s.data.toList.length ≤ 7 := by simpa using h
  have h3 : 256 ^ s.data.toList.length ≤ 256 ^ 7 := Nat.pow_le_pow_right (by decide) h2
  have h4 : (256 : Nat) ^ 7 = 72057594037927936 := by decide
  omega
set_option maxHeartbeats 1000000 in
theorem rnum_any (s : ByteArray) (w : World) :
    Calls Tryz.prog 29 #[.string s] w fun e w' => e = .returned (.int .i64 (numR s)) ∧ w' = w := by
  by_cases h : 7 < s.size
  · have hR : numR s = -1 := by unfold numR; rw [if_pos h]
    rw [hR]
    have t1 : (7 : Int) < (s.size : Int) := by omega
    clear hR h
    go_enter Tryz.func29, Tryz.ntmps29
    go_wp2
    go_ret
    exact ⟨rfl, rfl⟩
  · have hR : numR s = valN s.data.toList := by unfold numR; rw [if_neg h]
    rw [hR]
    have n1 := fun w => value_any s w (by omega) (valN_lt7 s (by omega))
    have t1 : ¬ (7 : Int) < (s.size : Int) := by omega
    generalize valN s.data.toList = v at *
    have N1 := hide n1
    clear n1 hR h
    go_enter Tryz.func29, Tryz.ntmps29
    go_wp2_with fail
    refine (unhide N1 _).mono ?_
    rintro e w1 ⟨rfl, rfl⟩
    go_wp2
    go_ret
    exact ⟨rfl, rfl⟩
end Go.Proofs.YtfpglpefofcdeaaGreatDoor
namespace Go.Proofs.YtfpglpefofcdeaaGreatDoor
open Go.RowKit
set_option linter.unusedVariables false

/-- the deal of a text, as the reference reads it -/
def dealR (s : ByteArray) : XDeal := if s.size = 29 ∧ byteAt s 8 ≤ 127 then ⟨valN (s.extract 0 4).data.toList, valN (s.extract 4 8).data.toList, valN (s.extract 8 16).data.toList, (byteAt s 16 == 1), valN (s.extract 17 19).data.toList, valN (s.extract 19 21).data.toList, s.extract 21 s.size⟩ else zeroD
theorem byteAt_extract (s : ByteArray) (i j : Nat) (h : i < j) (hj : j ≤ s.size) : byteAt (s.extract i j) 0 = byteAt s i := by
  have h1 := byteAt_strL (s.extract i j) 0 (by rw [ByteArray.size_extract]; omega)
  have h2 := byteAt_strL s i (by omega)
  rw [strL_extract, List.getElem?_take_of_lt (by omega), List.getElem?_drop, Nat.add_zero, h2] at h1
  have := Option.some.inj h1
  omega
theorem valN_size {s : ByteArray} {k : Nat} (h : s.size ≤ k) (hk : k ≤ 7) : valN s.data.toList ≤ 9223372036854775807 := valN_lt7 s (by omega)
theorem eight_ok {s : ByteArray} (h : s.size = 29) (hb : byteAt s 8 ≤ 127) : valN (s.extract 8 16).data.toList ≤ 9223372036854775807 := by
  have h8 : (s.extract 8 16).size = 8 := by rw [ByteArray.size_extract]; omega
  have h1 := valN_eight (s.extract 8 16) h8
  have h2 := get_byte (s.extract 8 16) 0 (by omega)
  rw [byteAt_extract s 8 16 (by decide) (by omega)] at h2
  rcases Nat.lt_or_ge 9223372036854775807 (valN (s.extract 8 16).data.toList) with h3 | h3
  · have := h1.1 h3
    omega
  · exact h3
end Go.Proofs.YtfpglpefofcdeaaGreatDoor
namespace Go.Proofs.YtfpglpefofcdeaaGreatDoor
open Go.RowKit
set_option linter.unusedVariables false

/-- how a length is written, whatever it is -/
def lenR (n : Nat) : List Int := if n < 128 then [(n : Int)] else if n < 256 then [129, (n : Int)] else 130 :: bigL n 2
theorem lenR_length (n : Nat) : (lenR n).length = lenLen n := by unfold lenR lenLen; split <;> (try split) <;> rfl
theorem lenR_small {n : Nat} (h : n < 65536) : lenR n = lenL n := by
  unfold lenR lenL
  split
  · rfl
  · split
    · rfl
    · simp only [bigL, Nat.pow_one, Nat.pow_zero, Nat.div_one]
      have e1 : ((n / 256 % 256 : Nat) : Int) = (n : Int) / 256 := by omega
      have e2 : ((n % 256 : Nat) : Int) = (n : Int) % 256 := by omega
      rw [e1, e2]
def szS (s : ByteArray) : ByteArray := strOfNums (lenR s.size) ++ s
def itS (t : Int) (s : ByteArray) : ByteArray := strOfNums [t] ++ szS s
theorem bytes1T (x : Int) (h0 : 0 ≤ x ∧ x < 256) (b cap : Nat) (w : World) (c0 : w.cell? ⟨b, 0, none⟩ = some (.int .i64 x)) :
    Calls Tryz.prog 19 #[.slice (some ⟨b, 0, none⟩) 1 cap] w fun e w' => e = .returned (.string (strOfNums [x])) ∧ Below w.heap.size w w' := by
  have h := bytes_one x b 0 cap w (World.block_lt_of_cell? w _ c0) c0
  rw [show lowByte x = x from by unfold lowByte; omega] at h
  exact h
set_option maxHeartbeats 2000000 in
theorem rsized_any (s : ByteArray) (w : World) (hs : s.size ≤ 9000000) :
    Calls Tryz.prog 55 #[.string s] w fun e w' => e = .returned (.string (szS s)) ∧ Below w.heap.size w w' := by
  have hsi : (s.size : Int) ≤ 9000000 := by omega
  by_cases h1 : s.size < 128
  · have e : szS s = strOfNums [(s.size : Int)] ++ s := by unfold szS lenR; rw [if_pos h1]
    rw [e]
    have t1 : (s.size : Int) < 128 := by omega
    have n1 := fun b cap w c0 => bytes1T (s.size : Int) (by omega) b cap w c0
    have ha := fun w' => run_string_add_sum (P := Tryz.prog) w' (strOfNums [(s.size : Int)]) s (by rw [strOfNums_size]; simp; omega)
    generalize strOfNums [(s.size : Int)] = a at *
    have N1 := hide n1
    clear n1 e h1
    go_enter Tryz.func55, Tryz.ntmps55
    go_wp2_with fail
    refine (unhide N1 _ _ _ (new_cellQ rfl rfl)).mono ?_
    rintro e w1 ⟨rfl, hb1⟩
    have HB := hide (ext_callQ ((Below.refl w.heap.size w).alloc (Nat.le_refl _) _) hb1)
    clear hb1
    go_wp2
    go_ret
    exact ⟨rfl, unhide HB⟩
  by_cases h2 : s.size < 256
  · have e : szS s = strOfNums [129, (s.size : Int)] ++ s := by unfold szS lenR; rw [if_neg h1, if_pos h2]
    rw [e]
    have t1 : ¬ (s.size : Int) < 128 := by omega
    have t2 : (s.size : Int) < 256 := by omega
    have n1 := fun b cap w c0 c1 => bytesP2 129 (s.size : Int) (by omega) (by omega) b cap w c0 c1
    have ha := fun w' => run_string_add_sum (P := Tryz.prog) w' (strOfNums [129, (s.size : Int)]) s (by rw [strOfNums_size]; simp; omega)
    generalize strOfNums [129, (s.size : Int)] = a at *
    have N1 := hide n1
    clear n1 e h1 h2
    go_enter Tryz.func55, Tryz.ntmps55
    go_wp2_with fail
    refine (unhide N1 _ _ _ (new_cellQ rfl rfl) (new_cellQ rfl rfl)).mono ?_
    rintro e w1 ⟨rfl, hb1⟩
    have HB := hide (ext_callQ ((Below.refl w.heap.size w).alloc (Nat.le_refl _) _) hb1)
    clear hb1
    go_wp2
    go_ret
    exact ⟨rfl, unhide HB⟩
  · have e : szS s = strOfNums [130] ++ strOfNums (bigL s.size 2) ++ s := by
      unfold szS lenR
      rw [if_neg h1, if_neg h2, strOfNums_append]
      rfl
    rw [e]
    have t1 : ¬ (s.size : Int) < 128 := by omega
    have t2 : ¬ (s.size : Int) < 256 := by omega
    have n1 := fun b cap w c0 => bytes1T 130 (by decide) b cap w c0
    have n2 := fun w => big_any s.size 2 w (by decide) (by omega)
    have z1 : (strOfNums [130]).size = 1 := by rw [strOfNums_size]; rfl
    have z2 : (strOfNums (bigL s.size 2)).size = 2 := by rw [strOfNums_size, bigL_length]
    have ha := fun w' => run_string_add_sum (P := Tryz.prog) w' (strOfNums [130]) (strOfNums (bigL s.size 2)) (by omega)
    have hb := fun w' => run_string_add_sum (P := Tryz.prog) w' (strOfNums [130] ++ strOfNums (bigL s.size 2)) s (by rw [ByteArray.size_append]; omega)
    generalize strOfNums [130] = a at *
    generalize strOfNums (bigL s.size 2) = b at *
    have N1 := hide n1; have N2 := hide n2
    clear n1 n2 e h1 h2 z1 z2
    go_enter Tryz.func55, Tryz.ntmps55
    go_wp2_with fail
    refine (unhide N1 _ _ _ (new_cellQ rfl rfl)).mono ?_
    rintro e w1 ⟨rfl, hb1⟩
    have HB := hide (ext_callQ ((Below.refl w.heap.size w).alloc (Nat.le_refl _) _) hb1)
    clear hb1
    go_wp2_with fail
    refine (unhide N2 _).mono ?_
    rintro e w2 ⟨rfl, hb2⟩
    have HB2 := hide (ext_callQ (unhide HB) hb2)
    clear hb2
    go_wp2
    go_ret
    exact ⟨rfl, unhide HB2⟩
theorem szS_size (s : ByteArray) : (szS s).size = lenLen s.size + s.size := by unfold szS; rw [ByteArray.size_append, strOfNums_size, lenR_length]
theorem itS_size (t : Int) (s : ByteArray) : (itS t s).size = 1 + (lenLen s.size + s.size) := by unfold itS; rw [ByteArray.size_append, strOfNums_size, szS_size]; rfl
set_option maxHeartbeats 2000000 in
theorem ritem_any (t : Int) (s : ByteArray) (w : World) (ht : 0 ≤ t ∧ t < 256) (hs : s.size ≤ 9000000) :
    Calls Tryz.prog 18 #[.int .i64 t, .string s] w fun e w' => e = .returned (.string (itS t s)) ∧ Below w.heap.size w w' := by
  have e : itS t s = strOfNums [t] ++ szS s := rfl
  rw [e]
  have n1 := fun b cap w c0 => bytes1T t ht b cap w c0
  have n2 := fun w => rsized_any s w hs
  have z1 : (strOfNums [t]).size = 1 := by rw [strOfNums_size]; rfl
  have z2 := szS_size s
  have z3 := lenLen_le s.size
  have ha := fun w' => run_string_add_sum (P := Tryz.prog) w' (strOfNums [t]) (szS s) (by omega)
  generalize strOfNums [t] = a at *
  generalize szS s = b at *
  have N1 := hide n1; have N2 := hide n2
  clear n1 n2 e z1 z2 z3 ht hs
  go_enter Tryz.func18, Tryz.ntmps18
  go_wp2_with fail
  refine (unhide N1 _ _ _ (new_cellQ rfl rfl)).mono ?_
  rintro e w1 ⟨rfl, hb1⟩
  have HB := hide (ext_callQ ((Below.refl w.heap.size w).alloc (Nat.le_refl _) _) hb1)
  clear hb1
  go_wp2_with fail
  refine (unhide N2 _).mono ?_
  rintro e w2 ⟨rfl, hb2⟩
  have HB2 := hide (ext_callQ (unhide HB) hb2)
  clear hb2
  go_wp2
  go_ret
  exact ⟨rfl, unhide HB2⟩
/-- what outer answers -/
def outE (t : Int) (s : ByteArray) : Int := if 65535 < (itS t s).size then 2 else 0
def outS (t : Int) (s : ByteArray) : ByteArray := if 65535 < (itS t s).size then ⟨#[]⟩ else itS t s
set_option maxHeartbeats 2000000 in
theorem router_any (t : Int) (s : ByteArray) (w : World) (ht : 0 ≤ t ∧ t < 256) (hs : s.size ≤ 9000000) :
    Calls Tryz.prog 24 #[.int .i64 t, .string s] w fun e w' => e = .returned (.tuple #[.string (outS t s), .int .i64 (outE t s)]) ∧ Below w.heap.size w w' := by
  have n1 := fun w => ritem_any t s w ht hs
  have hz := itS_size t s
  have hS : outS t s = if 65535 < (itS t s).size then ⟨#[]⟩ else itS t s := rfl
  have hE : outE t s = if 65535 < (itS t s).size then 2 else 0 := rfl
  generalize itS t s = a at *
  generalize outS t s = oS at *
  generalize outE t s = oE at *
  have N1 := hide n1
  clear n1 ht
  by_cases h : 65535 < a.size
  · rw [if_pos h] at hS hE
    subst hS hE
    have t1 : (65535 : Int) < (a.size : Int) := by omega
    clear h hz hs
    go_enter Tryz.func24, Tryz.ntmps24
    go_wp2_with fail
    refine (unhide N1 _).mono ?_
    rintro e w1 ⟨rfl, hb1⟩
    go_wp2
    go_ret2
    exact ⟨rfl, hb1⟩
  · rw [if_neg h] at hS hE
    subst hS hE
    have t1 : ¬ (65535 : Int) < (oS.size : Int) := by omega
    have t2 : ¬ (65535 : Int) < (s.size : Int) := by omega
    clear h hz hs
    go_enter Tryz.func24, Tryz.ntmps24
    go_wp2_with fail
    refine (unhide N1 _).mono ?_
    rintro e w1 ⟨rfl, hb1⟩
    go_wp2
    go_ret2
    exact ⟨rfl, hb1⟩
theorem tRamount_any (n : Int) (w : World) :
    Calls Tryz.prog 77 #[.int .i64 n] w fun e w' => e = .returned (.bool (inT n 0 999999999999)) ∧ w' = w := by
  by_cases h1 : 0 ≤ n
  · by_cases h2 : n ≤ 999999999999
    · have HD : Hid (inT n 0 999999999999 = true) := hide (decide_eq_true ⟨h1, h2⟩)
      generalize inT n 0 999999999999 = r at *
      go_enter Tryz.func77, Tryz.ntmps77
      go_wp2
      go_ret
      exact ⟨ret_boolQ (unhide HD).symm, rfl⟩
    · have HD : Hid (inT n 0 999999999999 = false) := hide (decide_eq_false (fun h => h2 h.2))
      generalize inT n 0 999999999999 = r at *
      go_enter Tryz.func77, Tryz.ntmps77
      go_wp2
      go_ret
      exact ⟨ret_boolQ (unhide HD).symm, rfl⟩
  · have HD : Hid (inT n 0 999999999999 = false) := hide (decide_eq_false (fun h => h1 h.1))
    generalize inT n 0 999999999999 = r at *
    go_enter Tryz.func77, Tryz.ntmps77
    go_wp2
    go_ret
    exact ⟨ret_boolQ (unhide HD).symm, rfl⟩
theorem rbits_any (n : Int) (w : World) :
    Calls Tryz.prog 42 #[.int .i64 n] w fun e w' => e = .returned (.bool (inT n 0 4095)) ∧ w' = w := by
  by_cases h1 : 0 ≤ n
  · by_cases h2 : n ≤ 4095
    · have HD : Hid (inT n 0 4095 = true) := hide (decide_eq_true ⟨h1, h2⟩)
      have h3 : n < 4096 := by omega
      generalize inT n 0 4095 = r at *
      go_enter Tryz.func42, Tryz.ntmps42
      go_wp2
      go_ret
      exact ⟨ret_boolQ (unhide HD).symm, rfl⟩
    · have HD : Hid (inT n 0 4095 = false) := hide (decide_eq_false (fun h => h2 h.2))
      have h3 : ¬ n < 4096 := by omega
      generalize inT n 0 4095 = r at *
      go_enter Tryz.func42, Tryz.ntmps42
      go_wp2
      go_ret
      exact ⟨ret_boolQ (unhide HD).symm, rfl⟩
  · have HD : Hid (inT n 0 4095 = false) := hide (decide_eq_false (fun h => h1 h.1))
    generalize inT n 0 4095 = r at *
    go_enter Tryz.func42, Tryz.ntmps42
    go_wp2
    go_ret
    exact ⟨ret_boolQ (unhide HD).symm, rfl⟩
theorem dealE_out {d : XDeal} (h : ¬ ((0 ≤ d.amount ∧ d.amount ≤ 999999999999) ∧ (0 ≤ d.shop ∧ d.shop ≤ 4294967295) ∧ (0 ≤ d.trace ∧ d.trace ≤ 4294967295) ∧ (0 ≤ d.day ∧ d.day ≤ 65535) ∧ (0 ≤ d.bits ∧ d.bits ≤ 4095))) : dealE d = 3 := by
  unfold dealE
  cases h1 : inT d.amount 0 999999999999 with
  | false => rfl
  | true =>
  cases h2 : inT d.shop 0 4294967295 with
  | false => rfl
  | true =>
  cases h3 : inT d.trace 0 4294967295 with
  | false => rfl
  | true =>
  cases h4 : inT d.day 0 65535 with
  | false => rfl
  | true =>
  cases h5 : inT d.bits 0 4095 with
  | false => rfl
  | true => exact absurd ⟨inT_true.1 h1, inT_true.1 h2, inT_true.1 h3, inT_true.1 h4, inT_true.1 h5⟩ h
theorem dealE_all {d : XDeal} (h1 : 0 ≤ d.amount ∧ d.amount ≤ 999999999999) (h2 : 0 ≤ d.shop ∧ d.shop ≤ 4294967295) (h3 : 0 ≤ d.trace ∧ d.trace ≤ 4294967295) (h4 : 0 ≤ d.day ∧ d.day ≤ 65535) (h5 : 0 ≤ d.bits ∧ d.bits ≤ 4095) : dealE d = if d.nonce.size = 8 then 0 else 1 := by
  unfold dealE
  rw [inT_true.2 h1, inT_true.2 h2, inT_true.2 h3, inT_true.2 h4, inT_true.2 h5]
  rfl
end Go.Proofs.YtfpglpefofcdeaaGreatDoor
