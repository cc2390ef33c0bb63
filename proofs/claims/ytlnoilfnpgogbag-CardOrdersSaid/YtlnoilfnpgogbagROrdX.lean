/- Orders of the reference. -/
import Derived.Test.YtlnoilfnpgogbagOrdY
import Derived.Test.YtlnoilfnpgogbagROrd
import Derived.Test.YtlnoilfnpgogbagMillRef2
namespace Go.Proofs.Ytlnoilfnpgogbag
open Go.RowKit Go.Shelf
set_option linter.unusedVariables false

def ers : List Int := [4, 3, 1]
/-- none of the orders has one of the errors -/
def NoneE (l : List XOrder) (e : Int) : Prop := ∀ x ∈ l, orderE x ≠ e
theorem orderE_kind (x : XOrder) : orderE x = 4 ↔ okindB x = true := by
  unfold orderE
  cases okindB x <;> cases orangeB x <;> cases oformB x <;> simp
theorem orderE_range (x : XOrder) (h : orderE x ≠ 4) : orderE x = 3 ↔ orangeB x = true := by
  unfold orderE at *
  revert h
  cases okindB x <;> cases orangeB x <;> cases oformB x <;> simp
theorem orderE_form (x : XOrder) (h : orderE x ≠ 4) (h' : orderE x ≠ 3) : orderE x = 1 ↔ oformB x = true := by
  unfold orderE at *
  revert h h'
  cases okindB x <;> cases orangeB x <;> cases oformB x <;> simp
theorem any_no {l : List XOrder} {p : XOrder → Bool} (h : ∀ x ∈ l, p x = false) : l.any p = false := by
  rw [List.any_eq_false]
  intro x hx
  rw [h x hx]
  simp
theorem any_yes {l : List XOrder} {p : XOrder → Bool} {x : XOrder} (hx : x ∈ l) (h : p x = true) : l.any p = true := List.any_eq_true.2 ⟨x, hx, h⟩
/-- the first error of the row that one of the orders has -/
theorem ordersE_first {key : ByteArray} {number : Int} {l : List XOrder} (hk : key.size = 16) (hn : 1 ≤ number ∧ number ≤ 65535) (h8 : l.length ≤ 8) (j : Nat) (e : Int) (he : ers[j]? = some e)
    (hno : ∀ i e', i < j → ers[i]? = some e' → NoneE l e') (x : XOrder) (hx : x ∈ l) (hxe : orderE x = e) : ordersE key number l = e := by
  unfold ordersE
  rw [if_neg (by omega), inB_true.2 hn]
  simp only [Bool.not_true, cond_false]
  rw [if_neg (by omega)]
  match j, he with
  | 0, he =>
    obtain rfl : 4 = e := by simpa [ers] using he
    rw [any_yes hx ((orderE_kind x).1 hxe)]
    rfl
  | 1, he =>
    obtain rfl : 3 = e := by simpa [ers] using he
    have h4 : NoneE l 4 := hno 0 4 (by decide) rfl
    rw [any_no fun y hy => by have := mt (orderE_kind y).2 (h4 y hy); simpa using this, any_yes hx ((orderE_range x (h4 x hx)).1 hxe)]
    rfl
  | 2, he =>
    obtain rfl : 1 = e := by simpa [ers] using he
    have h4 : NoneE l 4 := hno 0 4 (by decide) rfl
    have h3 : NoneE l 3 := hno 1 3 (by decide) rfl
    rw [any_no fun y hy => by have := mt (orderE_kind y).2 (h4 y hy); simpa using this, any_no fun y hy => by have := mt (orderE_range y (h4 y hy)).2 (h3 y hy); simpa using this, any_yes hx ((orderE_form x (h4 x hx) (h3 x hx)).1 hxe)]
    rfl
  | n + 3, he => simp [ers] at he
theorem ordersE_none {key : ByteArray} {number : Int} {l : List XOrder} (hk : key.size = 16) (hn : 1 ≤ number ∧ number ≤ 65535) (h8 : l.length ≤ 8)
    (hno : ∀ i e', i < 3 → ers[i]? = some e' → NoneE l e') : ordersE key number l = 0 := by
  unfold ordersE
  rw [if_neg (by omega), inB_true.2 hn]
  simp only [Bool.not_true, cond_false]
  rw [if_neg (by omega)]
  have h4 : NoneE l 4 := hno 0 4 (by decide) rfl
  have h3 : NoneE l 3 := hno 1 3 (by decide) rfl
  have h1 : NoneE l 1 := hno 2 1 (by decide) rfl
  rw [any_no fun y hy => by have := mt (orderE_kind y).2 (h4 y hy); simpa using this, any_no fun y hy => by have := mt (orderE_range y (h4 y hy)).2 (h3 y hy); simpa using this, any_no fun y hy => by have := mt (orderE_form y (h4 y hy) (h3 y hy)).2 (h1 y hy); simpa using this]
  rfl
theorem twoS_big (n : Nat) (h : n ≤ 65535) : twoS n = strOfNums (bigL n 2) := by
  have e1 : lowByte ((n : Int) / 256) = ((n / 256 ^ 1 % 256 : Nat) : Int) := by unfold lowByte; omega
  have e0 : lowByte (n : Int) = ((n / 256 ^ 0 % 256 : Nat) : Int) := by unfold lowByte; omega
  rw [twoS, e1, e0]
  rfl
theorem numS_big (n : Nat) (h : n ≤ 999999999999) : numS n 8 = strOfNums (bigL n 8) := by
  have : numOk (n : Int) 8 := (numOk_nat n 8 (by decide) (by decide)).2 (by omega)
  rw [numS_yes this]
  rfl
theorem ordT_take (l : List XOrder) (k : Nat) (x : XOrder) (h : l[k]? = some x) : ordT (l.take (k + 1)) = ordT (l.take k) ++ ordS x := by
  apply ByteArray.ext
  apply Array.toList_inj.1
  rw [ByteArray.data_append, Array.toList_append]
  simp only [ordT]
  rw [ordL_take l k x h]
theorem ers_cell (w w' : World) (e : TypeId) (j : Nat) (x : Int) (h : ers[j]? = some x) (hb : Below (w.alloc (.cells #[.int .i64 4, .int .i64 3, .int .i64 1] e)).heap.size (w.alloc (.cells #[.int .i64 4, .int .i64 3, .int .i64 1] e)) w') :
    w'.cell? ⟨w.heap.size, j, none⟩ = some (.int .i64 x) := by
  refine (hb.cell (p := ⟨w.heap.size, j, none⟩) (by simp)).trans ?_
  rw [cell_of_row _ _ j _ e _ (heap_alloc_new w _)]
  match j, h with
  | 0, h => obtain rfl : 4 = x := by simpa [ers] using h
            rfl
  | 1, h => obtain rfl : 3 = x := by simpa [ers] using h
            rfl
  | 2, h => obtain rfl : 1 = x := by simpa [ers] using h
            rfl
  | n + 3, h => simp [ers] at h
theorem orders_zero_text {key : ByteArray} {number : Int} {l : List XOrder} (h : ordersE key number l = 0) : ordersV key number l = twoS number ++ hideS (okeyS key number) zeros8 (ordT l) ++ sealS (okeyS key number) (twoS number ++ ordT l) := by
  rw [ordersV, if_pos h]
  rfl
end Go.Proofs.Ytlnoilfnpgogbag
