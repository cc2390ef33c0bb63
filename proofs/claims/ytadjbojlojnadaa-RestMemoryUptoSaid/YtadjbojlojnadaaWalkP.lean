/- Walk of the program. -/
import Derived.Test.YtadjbojlojnadaaWayW
namespace Go.Proofs.Ytadjbojlojnadaa
open Go.RowKit
set_option linter.unusedVariables false

/-- the bits that are found of ways: an unknown one, none that goes well -/
def wBits (u n : Bool) : Int := (bif u then 2 else 0) + (bif n then 1 else 0)
/-- the way through the ways: from which one on, the last that was gone, whether one was unknown -/
def walkL (v : XWays) (s : XScene) : List XWay → Int → Bool → Int × Bool × Int
  | [], last, u => (last, false, wBits u true)
  | x :: r, last, u =>
    bif appB x v s then
      (bif wellB x.code s then (x.code, true, wBits (u || decide (5 < x.code)) false)
       else bif x.next then walkL v s r x.code (u || decide (5 < x.code)) else (x.code, false, wBits (u || decide (5 < x.code)) true))
    else walkL v s r last u
/-- what is wrong -/
def walkE (v : XWays) (s : XScene) : Int := if waysE v = 0 then (if 0 ≤ s.amount ∧ s.amount ≤ 999999999999 then 0 else 3) else waysE v
def walkA (v : XWays) (s : XScene) : Int × Bool × Int := if walkE v s = 0 then walkL v s v.list (-1) false else (0, false, 0)
def valWalked (a : Int × Bool × Int) : Value := .agg #[.int .i64 a.1, .bool a.2.1, .int .i64 a.2.2]

theorem wBits_or2 (u : Bool) : bits .or .i64 (wBits u false) 2 = wBits true false := by cases u <;> decide
theorem wBits_or1 (u : Bool) : bits .or .i64 (wBits u false) 1 = wBits u true := by cases u <;> decide

/-- three new blocks -/
def wboxes (v : XWays) (s : XScene) (w : World) : World :=
  (((w.alloc (Obj.cells #[.int .i64 v.x, .int .i64 v.y, .slice v.listo v.list.length v.listc] 24)).alloc
    (Obj.cells #[.int .i64 s.amount, .bool s.cash, .slice s.ableo s.able.length s.ablec, .slice s.wello s.well.length s.wellc] 27)).alloc
    (Obj.cells #[.int .i64 0, .bool false, .int .i64 0] 38))
def KAt (w : World) (g : Nat) (a : Int × Bool × Int) : Prop := w.heap[g]? = some (.cells #[.int .i64 a.1, .bool a.2.1, .int .i64 a.2.2] 38)
theorem KAt.below {w w' : World} {g : Nat} {a : Int × Bool × Int} (h : KAt w g a) (hb : Below w.heap.size w w') : KAt w' g a := (hb.block g (block_ltW h)).trans h
theorem KAt.cells {w : World} {g : Nat} {a : Int × Bool × Int} (h : KAt w g a) : w.cell? ⟨g, 0, none⟩ = some (.int .i64 a.1) ∧ w.cell? ⟨g, 1, none⟩ = some (.bool a.2.1) ∧ w.cell? ⟨g, 2, none⟩ = some (.int .i64 a.2.2) :=
  ⟨cell_of_row _ _ _ _ _ _ h, cell_of_row _ _ _ _ _ _ h, cell_of_row _ _ _ _ _ _ h⟩
theorem heap_at (w : World) (o : Obj) (n : Nat) (h : n = w.heap.size) : (w.alloc o).heap[n]? = some o := by
  subst h
  show (w.heap.push o)[w.heap.size]? = some o
  simp
theorem heap_past (w : World) (o : Obj) (n : Nat) (h : n < w.heap.size) : (w.alloc o).heap[n]? = w.heap[n]? := by
  show (w.heap.push o)[n]? = _
  rw [Array.getElem?_push, if_neg (by omega)]
theorem wboxes_at (v : XWays) (s : XScene) (w : World) : WsAt (wboxes v s w) w.heap.size v ∧ ScAt (wboxes v s w) (w.heap.size + 1) s ∧ KAt (wboxes v s w) (w.heap.size + 1 + 1) (0, false, 0) := by
  unfold WsAt ScAt KAt wboxes
  refine ⟨?_, ?_, ?_⟩
  · rw [heap_past _ _ _ (by simp; omega), heap_past _ _ _ (by simp), heap_at _ _ _ rfl]
  · rw [heap_past _ _ _ (by simp), heap_at _ _ _ (by simp)]
  · rw [heap_at _ _ _ (by simp)]
theorem below_wboxes (v : XWays) (s : XScene) (w : World) : Below w.heap.size w (wboxes v s w) :=
  (((Below.refl _ _).alloc (Nat.le_refl _) _).alloc (by simp) _).alloc (by simp; omega) _
theorem size_wboxes (v : XWays) (s : XScene) (w : World) : (wboxes v s w).heap.size = w.heap.size + 3 := by simp [wboxes]

theorem KAt.write {w : World} {g : Nat} {a b : Int × Bool × Int} (h : KAt w g a) : KAt (((w.setCell ⟨g, 0, none⟩ (.int .i64 b.1)).setCell ⟨g, 1, none⟩ (.bool b.2.1)).setCell ⟨g, 2, none⟩ (.int .i64 b.2.2)) g b := by
  unfold KAt at *
  simp [World.setCell, Array.getElem?_modify, h]
theorem KAt.thaw {w : World} {g : Nat} {a : Int × Bool × Int} (h : KAt w g a) (j : Nat) : w.frozen? ⟨g, j, none⟩ = false := frozen_of_row w g j _ _ h

set_option maxHeartbeats 4000000 in
theorem walk_no (v : XWays) (s : XScene) (w : World) (hr : RowWay w v.listo v.list) (h : walkE v s ≠ 0) :
    Calls Try.prog 7 #[valWays v, valScene s] w fun e w' => e = .returned (.tuple #[valWalked (0, false, 0), .int .i64 (walkE v s)]) ∧ Below w.heap.size w w' := by
  have n1 := fun w' (hb : Below w.heap.size w w') => checkWays_any v w' (hr.below hb)
  have n2 := fun w' => isAmount_any s.amount w'
  have hbx := below_wboxes v s w
  have hat := wboxes_at v s w
  have hsz := size_wboxes v s w
  unfold valWays valScene valWalked at *
  clear hr
  by_cases h1 : waysE v = 0
  · have hna : ¬ (0 ≤ s.amount ∧ s.amount ≤ 999999999999) := fun ha => h (by rw [walkE, if_pos h1, if_pos ha])
    have e : walkE v s = 3 := by rw [walkE, if_pos h1, if_neg hna]
    rw [e]
    rw [h1] at n1
    rw [decide_eq_false hna] at n2
    have N1 := hide (n1 _ hbx); have N2 := hide n2
    clear n1 n2 h1 e h hna
    go_enter Try.func7, Try.ntmps7
    go_wp2_with fail
    refine (unhide N1).mono ?_
    rintro e w1 ⟨rfl, hb1⟩
    have c1 := (hat.2.1.below hb1).cells.1
    have hk := hat.2.2.below hb1
    obtain ⟨k0, k1, k2⟩ := hk.cells
    have t0 := hk.thaw 0; have t1 := hk.thaw 1; have t2 := hk.thaw 2
    have hb2 := hbx.trans (hb1.mono hbx.size)
    have HK := hide hk
    clear hb1 hat hk
    go_wp2_with (go_at_call 20; refine (unhide N2 _).mono ?_; rintro e w2 ⟨rfl, hw2⟩; subst hw2)
    obtain ⟨z0, z1, z2⟩ := ((unhide HK).write (b := (0, false, 0))).cells
    exact bodyPost_ret (v := .tuple #[.agg #[.int .i64 0, .bool false, .int .i64 0], .int .i64 3]) (by simp [results, Try.results7, go_sem, z0, z1, z2]) rfl ⟨rfl, ((hb2.setCell (by show _ ≤ w.heap.size + 1 + 1; omega) _).setCell (by show _ ≤ w.heap.size + 1 + 1; omega) _).setCell (by show _ ≤ w.heap.size + 1 + 1; omega) _⟩
  · have e : walkE v s = waysE v := by rw [walkE, if_neg h1]
    rw [e]
    have hne : (waysE v != 0) = true := by simpa using h1
    generalize waysE v = we at *
    have N1 := hide (n1 _ hbx)
    clear n1 n2 h1 e h
    go_enter Try.func7, Try.ntmps7
    go_wp2_with fail
    refine (unhide N1).mono ?_
    rintro e w1 ⟨rfl, hb1⟩
    have hk := hat.2.2.below hb1
    obtain ⟨k0, k1, k2⟩ := hk.cells
    have t0 := hk.thaw 0; have t1 := hk.thaw 1; have t2 := hk.thaw 2
    have hb2 := hbx.trans (hb1.mono hbx.size)
    have HK := hide hk
    clear hb1 hat hk
    go_wp2_with fail
    obtain ⟨z0, z1, z2⟩ := ((unhide HK).write (b := (0, false, 0))).cells
    exact bodyPost_ret (v := .tuple #[.agg #[.int .i64 0, .bool false, .int .i64 0], .int .i64 we]) (by simp [results, Try.results7, go_sem, z0, z1, z2]) rfl ⟨rfl, ((hb2.setCell (by show _ ≤ w.heap.size + 1 + 1; omega) _).setCell (by show _ ≤ w.heap.size + 1 + 1; omega) _).setCell (by show _ ≤ w.heap.size + 1 + 1; omega) _⟩

end Go.Proofs.Ytadjbojlojnadaa
