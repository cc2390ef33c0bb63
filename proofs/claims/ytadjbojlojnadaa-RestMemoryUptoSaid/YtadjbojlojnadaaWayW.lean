/- CheckWays of both; which way applies, which goes well. -/
import Derived.Test.YtadjbojlojnadaaWayP
namespace Go.Proofs.Ytadjbojlojnadaa
open Go.RowKit
set_option linter.unusedVariables false

theorem waysE_long {v : XWays} (h : 20 < v.list.length) : waysE v = 2 := by rw [waysE, if_pos h]
theorem waysE_ok {v : XWays} (h : v.list.length ≤ 20) (hx : 0 ≤ v.x ∧ v.x ≤ 999999999999) (hy : 0 ≤ v.y ∧ v.y ≤ 999999999999) (hl : v.list.any (fun x => !inBw x) = false) : waysE v = 0 := by
  rw [waysE, if_neg (by omega), if_pos ⟨⟨hx, hy⟩, hl⟩]
theorem waysE_no {v : XWays} (h : v.list.length ≤ 20) (hn : ¬ (((0 ≤ v.x ∧ v.x ≤ 999999999999) ∧ (0 ≤ v.y ∧ v.y ≤ 999999999999)) ∧ v.list.any (fun x => !inBw x) = false)) : waysE v = 3 := by
  rw [waysE, if_neg (by omega), if_neg hn]
theorem waysE_zero {v : XWays} (h : waysE v = 0) : v.list.length ≤ 20 ∧ ((0 ≤ v.x ∧ v.x ≤ 999999999999) ∧ (0 ≤ v.y ∧ v.y ≤ 999999999999)) ∧ v.list.any (fun x => !inBw x) = false := by
  unfold waysE at h
  split at h
  · cases h
  · split at h
    · rename_i h1 h2; exact ⟨by omega, h2⟩
    · cases h

set_option maxHeartbeats 2000000 in
theorem checkWays_any (v : XWays) (w : World) (hr : RowWay w v.listo v.list) :
    Calls Try.prog 9 #[valWays v] w fun e w' => e = .returned (.int .i64 (waysE v)) ∧ Below w.heap.size w w' := by
  have n1 := fun w => isAmount_any v.x w
  have n2 := fun w => isAmount_any v.y w
  have n3 := fun w' (hb : Below w.heap.size w w') => containsF_any v.list v.listo v.listc w' (hr.below hb)
  have hbx := fun o : Obj => (Below.refl w.heap.size w).alloc (Nat.le_refl _) o
  have N3 := hide (fun o : Obj => n3 _ (hbx o))
  have HB := hide hbx
  have el := @waysE_long v
  have eo := @waysE_ok v
  have en := @waysE_no v
  clear hr n3 hbx
  unfold valWays
  generalize waysE v = E at *
  by_cases hl : 20 < v.list.length
  · have HE := hide (el hl)
    clear n1 n2 el eo en
    go_enter Try.func9, Try.ntmps9
    go_wp2
    go_ret
    exact ⟨ret_int (unhide HE).symm, unhide HB _⟩
  · clear el
    have hl' : v.list.length ≤ 20 := by omega
    have eo' := eo hl'
    have en' := en hl'
    clear eo en
    by_cases hx : 0 ≤ v.x ∧ v.x ≤ 999999999999
    · rw [decide_eq_true hx] at n1
      by_cases hy : 0 ≤ v.y ∧ v.y ≤ 999999999999
      · rw [decide_eq_true hy] at n2
        have eo2 := eo' hx hy
        have en2 : ¬ v.list.any (fun x => !inBw x) = false → E = 3 := fun h => en' (fun hh => h hh.2)
        clear eo' en' hx hy
        generalize v.list.any (fun x => !inBw x) = q at *
        have N1 := hide n1; have N2 := hide n2
        have HE : Hid (E = bif q then 3 else 0) := hide (by cases q with
          | true => exact en2 (by simp)
          | false => exact eo2 rfl)
        clear n1 n2 eo2 en2
        cases q <;>
        · go_enter Try.func9, Try.ntmps9
          go_wp2_with fail
          refine (unhide N1 _).mono ?_
          rintro e w1 ⟨rfl, hw1⟩
          subst hw1
          go_wp2_with fail
          refine (unhide N2 _).mono ?_
          rintro e w1 ⟨rfl, hw1⟩
          subst hw1
          go_wp2_with fail
          refine (unhide N3 _).mono ?_
          rintro e w1 ⟨rfl, hb1⟩
          go_wp2
          go_ret
          exact ⟨ret_int (by rw [unhide HE]; rfl), (unhide HB _).trans (hb1.mono (by simp))⟩
      · rw [decide_eq_false hy] at n2
        have HE := hide (en' (fun hh => hy hh.1.2))
        have N1 := hide n1; have N2 := hide n2
        clear n1 n2 eo' en' hx hy
        go_enter Try.func9, Try.ntmps9
        go_wp2_with fail
        refine (unhide N1 _).mono ?_
        rintro e w1 ⟨rfl, hw1⟩
        subst hw1
        go_wp2_with fail
        refine (unhide N2 _).mono ?_
        rintro e w1 ⟨rfl, hw1⟩
        subst hw1
        go_wp2
        go_ret
        exact ⟨ret_int (unhide HE).symm, unhide HB _⟩
    · rw [decide_eq_false hx] at n1
      have HE := hide (en' (fun hh => hx hh.1.1))
      have N1 := hide n1
      clear n1 n2 eo' en' hx
      go_enter Try.func9, Try.ntmps9
      go_wp2_with fail
      refine (unhide N1 _).mono ?_
      rintro e w1 ⟨rfl, hw1⟩
      subst hw1
      go_wp2
      go_ret
      exact ⟨ret_int (unhide HE).symm, unhide HB _⟩

/-- does a way apply? -/
def appB (x : XWay) (v : XWays) (s : XScene) : Bool :=
  if x.when = 1 then s.cash else if x.when = 2 then !s.cash else if x.when = 3 then inInts x.code s.able else
  if x.when = 4 then decide (s.amount < v.x) else if x.when = 5 then decide (v.x < s.amount) else if x.when = 6 then decide (s.amount < v.y) else if x.when = 7 then decide (v.y < s.amount) else true
/-- does a way that is gone go well? -/
def wellB (code : Int) (s : XScene) : Bool := if code = 5 then true else if code = 0 ∨ 5 < code then false else (inInts code s.able && inInts code s.well)

/-- the scene in a block of its own -/
def ScAt (w : World) (g : Nat) (s : XScene) : Prop := w.heap[g]? = some (.cells #[.int .i64 s.amount, .bool s.cash, .slice s.ableo s.able.length s.ablec, .slice s.wello s.well.length s.wellc] 27)
def WsAt (w : World) (g : Nat) (v : XWays) : Prop := w.heap[g]? = some (.cells #[.int .i64 v.x, .int .i64 v.y, .slice v.listo v.list.length v.listc] 24)
theorem block_ltW {w : World} {g : Nat} {o : Obj} (h : w.heap[g]? = some o) : g < w.heap.size := by
  rcases Nat.lt_or_ge g w.heap.size with h1 | h1
  · exact h1
  · rw [Array.getElem?_eq_none h1] at h
    cases h
theorem ScAt.below {w w' : World} {g : Nat} {s : XScene} (h : ScAt w g s) (hb : Below w.heap.size w w') : ScAt w' g s := (hb.block g (block_ltW h)).trans h
theorem WsAt.below {w w' : World} {g : Nat} {v : XWays} (h : WsAt w g v) (hb : Below w.heap.size w w') : WsAt w' g v := (hb.block g (block_ltW h)).trans h
theorem ScAt.cells {w : World} {g : Nat} {s : XScene} (h : ScAt w g s) : w.cell? ⟨g, 0, none⟩ = some (.int .i64 s.amount) ∧ w.cell? ⟨g, 1, none⟩ = some (.bool s.cash) ∧ w.cell? ⟨g, 2, none⟩ = some (.slice s.ableo s.able.length s.ablec) ∧ w.cell? ⟨g, 3, none⟩ = some (.slice s.wello s.well.length s.wellc) :=
  ⟨cell_of_row _ _ _ _ _ _ h, cell_of_row _ _ _ _ _ _ h, cell_of_row _ _ _ _ _ _ h, cell_of_row _ _ _ _ _ _ h⟩
theorem WsAt.cells {w : World} {g : Nat} {v : XWays} (h : WsAt w g v) : w.cell? ⟨g, 0, none⟩ = some (.int .i64 v.x) ∧ w.cell? ⟨g, 1, none⟩ = some (.int .i64 v.y) ∧ w.cell? ⟨g, 2, none⟩ = some (.slice v.listo v.list.length v.listc) :=
  ⟨cell_of_row _ _ _ _ _ _ h, cell_of_row _ _ _ _ _ _ h, cell_of_row _ _ _ _ _ _ h⟩

/-- the literal that asks what a shop is able to do -/
theorem able_any (code : Int) (s : XScene) (g : Nat) (w : World) (hs : ScAt w g s) (hr : Rowint w s.ableo s.able) :
    Calls Try.prog 21 #[.int .i64 code, .pointer (some ⟨g, 0, none⟩)] w fun e w' => e = .returned (.bool (inInts code s.able)) ∧ w' = w := by
  have N1 := hide (containsI_any code s.able s.ableo s.ablec w hr)
  have c2 := hs.cells.2.2.1
  clear hr hs
  go_enter Try.func21, Try.ntmps21
  go_wp2_with fail
  refine (unhide N1).mono ?_
  rintro e w1 ⟨rfl, rfl⟩
  go_wp2
  go_ret
  exact ⟨rfl, rfl⟩
/-- the literal that asks which way would go well -/
theorem well_any (code : Int) (s : XScene) (g ga : Nat) (w : World) (hs : ScAt w g s) (hr : Rowint w s.ableo s.able) (hr2 : Rowint w s.wello s.well) (ha : w.cell? ⟨ga, 0, none⟩ = some (.func (.func 21) #[] #[.pointer (some ⟨g, 0, none⟩)])) :
    Calls Try.prog 23 #[.int .i64 code, .pointer (some ⟨ga, 0, none⟩), .pointer (some ⟨g, 0, none⟩)] w fun e w' => e = .returned (.bool (inInts code s.able && inInts code s.well)) ∧ w' = w := by
  have n1 := able_any code s g w hs hr
  have n2 := containsI_any code s.well s.wello s.wellc w hr2
  have c3 := hs.cells.2.2.2
  clear hr hr2 hs
  generalize inInts code s.able = q1 at *
  generalize inInts code s.well = q2 at *
  have N1 := hide n1; have N2 := hide n2
  clear n1 n2
  cases q1 <;>
  · go_enter Try.func23, Try.ntmps23
    go_wp2_with (first | (go_at_call 21; refine (unhide N1).mono ?_; rintro e w1 ⟨rfl, hw1⟩; subst hw1) | (go_at_call 22; refine (unhide N2).mono ?_; rintro e w1 ⟨rfl, hw1⟩; subst hw1))
    go_ret
    exact ⟨rfl, rfl⟩
set_option maxHeartbeats 1000000 in
theorem goesWell_any (code : Int) (s : XScene) (g ga : Nat) (w : World) (hs : ScAt w g s) (hr : Rowint w s.ableo s.able) (hr2 : Rowint w s.wello s.well) (ha : w.cell? ⟨ga, 0, none⟩ = some (.func (.func 21) #[] #[.pointer (some ⟨g, 0, none⟩)])) :
    Calls Try.prog 25 #[.int .i64 code, .func (.func 23) #[] #[.pointer (some ⟨ga, 0, none⟩), .pointer (some ⟨g, 0, none⟩)]] w fun e w' => e = .returned (.bool (wellB code s)) ∧ w' = w := by
  have N1 := hide (well_any code s g ga w hs hr hr2 ha)
  clear hs hr hr2 ha
  by_cases h5 : code = 5
  · have HE : Hid (wellB code s = true) := hide (by rw [wellB, if_pos h5])
    go_enter Try.func25, Try.ntmps25
    go_wp2
    go_ret
    exact ⟨ret_bool (unhide HE).symm, rfl⟩
  · by_cases h0 : code = 0
    · have HE : Hid (wellB code s = false) := hide (by rw [wellB, if_neg h5, if_pos (.inl h0)])
      clear h5
      go_enter Try.func25, Try.ntmps25
      go_wp2
      go_ret
      exact ⟨ret_bool (unhide HE).symm, rfl⟩
    · by_cases h6 : 5 < code
      · have HE : Hid (wellB code s = false) := hide (by rw [wellB, if_neg h5, if_pos (.inr h6)])
        go_enter Try.func25, Try.ntmps25
        go_wp2
        go_ret
        exact ⟨ret_bool (unhide HE).symm, rfl⟩
      · have HE : Hid (wellB code s = (inInts code s.able && inInts code s.well)) := hide (by rw [wellB, if_neg h5, if_neg (by omega)])
        go_enter Try.func25, Try.ntmps25
        go_wp2_with fail
        refine (unhide N1).mono ?_
        rintro e w1 ⟨rfl, rfl⟩
        go_wp2
        go_ret
        exact ⟨ret_bool (unhide HE).symm, rfl⟩

set_option maxHeartbeats 2000000 in
theorem applies_any (x : XWay) (v : XWays) (s : XScene) (g : Nat) (w : World) (hs : ScAt w g s) (hr : Rowint w s.ableo s.able) :
    Calls Try.prog 24 #[valWay x, valWays v, valScene s, .func (.func 21) #[] #[.pointer (some ⟨g, 0, none⟩)]] w fun e w' => e = .returned (.bool (appB x v s)) ∧ Below w.heap.size w w' := by
  have hbx : ∀ o1 o2 o3 : Obj, Below w.heap.size w (((w.alloc o1).alloc o2).alloc o3) := fun o1 o2 o3 => (((Below.refl _ _).alloc (Nat.le_refl _) _).alloc (by simp) _).alloc (by simp; omega) _
  have n1 := fun o1 o2 o3 => able_any x.code s g (((w.alloc o1).alloc o2).alloc o3) (hs.below (hbx o1 o2 o3)) (hr.below (hbx o1 o2 o3))
  have N1 := hide n1
  have HB := hide hbx
  clear n1 hbx hs hr
  obtain ⟨code, when, next⟩ := x
  simp only at N1
  unfold valWay valWays valScene
  simp only
  have hcase : when = 1 ∨ when = 2 ∨ when = 3 ∨ when = 4 ∨ when = 5 ∨ when = 6 ∨ when = 7 ∨ (when ≠ 1 ∧ when ≠ 2 ∧ when ≠ 3 ∧ when ≠ 4 ∧ when ≠ 5 ∧ when ≠ 6 ∧ when ≠ 7) := by omega
  rcases hcase with rfl | rfl | rfl | rfl | rfl | rfl | rfl | ⟨h1, h2, h3, h4, h5, h6, h7⟩
  case inr.inr.inl =>
    rw [show appB ⟨code, 3, next⟩ v s = inInts code s.able from rfl]
    generalize inInts code s.able = q at *
    go_enter Try.func24, Try.ntmps24
    go_wp2_with fail
    refine (unhide N1 _ _ _).mono ?_
    rintro e w1 ⟨rfl, rfl⟩
    go_wp2
    go_ret
    exact ⟨rfl, unhide HB _ _ _⟩
  case inr.inr.inr.inr.inr.inr.inr =>
    have HA : Hid (appB ⟨code, when, next⟩ v s = true) := hide (by unfold appB; simp only; rw [if_neg h1, if_neg h2, if_neg h3, if_neg h4, if_neg h5, if_neg h6, if_neg h7])
    go_enter Try.func24, Try.ntmps24
    go_wp2
    go_ret
    exact ⟨ret_bool (unhide HA).symm, unhide HB _ _ _⟩
  all_goals
    go_enter Try.func24, Try.ntmps24
    go_wp2
    go_ret
    exact ⟨ret_bool rfl, unhide HB _ _ _⟩
end Go.Proofs.Ytadjbojlojnadaa
