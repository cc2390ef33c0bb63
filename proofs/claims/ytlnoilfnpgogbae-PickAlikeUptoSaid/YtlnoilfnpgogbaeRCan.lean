/- Candidates of the reference. -/
import Derived.Test.YtlnoilfnpgogbaePCan
import Derived.Test.YtlnoilfnpgogbaeRApps
import Derived.BigQuiet
import Derived.WalkSmall
namespace Go.Proofs.Ytlnoilfnpgogbae
open Go.RowKit
set_option linter.unusedVariables false

def pB (nm : List UInt8) (x : XKnown) : Bool := (x.name.data.toList == nm) || (x.part && (decide (x.name.data.toList.length ≤ nm.length) && (nm.take x.name.data.toList.length == x.name.data.toList)))
theorem bothB_any (sh : List XKnown) (nm : List UInt8) : bothB sh nm = sh.any (pB nm) := rfl
theorem passes_snoc (S : List XApp) (lo n : Nat) : passes S lo (n + 1) = passes S lo n ++ S.filter (fun a => decide (rankOf a = ((lo + n : Nat) : Int))) := by
  induction n generalizing lo with
  | zero => simp [passes]
  | succ n ih =>
    conv => lhs; unfold passes
    rw [ih (lo + 1)]
    conv => rhs; unfold passes
    rw [List.append_assoc, show lo + 1 + n = lo + (n + 1) by omega]
/-- what has been gathered in the pass of rank r, behind k applications -/
def gath (l : List XApp) (sh : List XKnown) (r k : Nat) : List XApp := passes (candF l sh) 1 (r - 1) ++ (candF (l.take k) sh).filter (fun a => decide (rankOf a = (r : Int)))
theorem gath_zero (l : List XApp) (sh : List XKnown) (r : Nat) : gath l sh r 0 = passes (candF l sh) 1 (r - 1) := by simp [gath, candF]
theorem gath_end (l : List XApp) (sh : List XKnown) (r : Nat) (hr : 1 ≤ r) : gath l sh r l.length = gath l sh (r + 1) 0 := by
  rw [gath_zero, gath, List.take_length]
  obtain ⟨n, rfl⟩ : ∃ n, r = n + 1 := ⟨r - 1, by omega⟩
  simp only [Nat.add_sub_cancel]
  rw [passes_snoc, show 1 + n = n + 1 by omega]
theorem gath_step (l : List XApp) (sh : List XKnown) (r k : Nat) (x : XApp) (h : l[k]? = some x) : gath l sh r (k + 1) = gath l sh r k ++ (bif bothB sh x.name.data.toList && decide (rankOf x = (r : Int)) then [x] else []) := by
  unfold gath
  rw [candF_take l sh k x h, List.filter_append, List.append_assoc]
  congr 2
  cases bothB sh x.name.data.toList
  · simp
  · by_cases hr : rankOf x = (r : Int) <;> simp [hr]
theorem passes_length (S : List XApp) (lo n : Nat) : (passes S lo n).length ≤ n * S.length := by
  induction n generalizing lo with
  | zero => simp [passes]
  | succ n ih =>
    unfold passes
    have := ih (lo + 1)
    have := List.length_filter_le (fun a => decide (rankOf a = (lo : Int))) S
    rw [List.length_append, Nat.succ_mul]
    omega
theorem gath_length (l : List XApp) (sh : List XKnown) (r k : Nat) (hr : r ≤ 16) (h20 : l.length ≤ 20) : (gath l sh r k).length ≤ 340 := by
  unfold gath
  have h1 := passes_length (candF l sh) 1 (r - 1)
  have h2 := candF_length l sh
  have h3 := List.length_filter_le (fun a => decide (rankOf a = (r : Int))) (candF (l.take k) sh)
  have h4 := candF_length (l.take k) sh
  have h5 : (l.take k).length ≤ l.length := by rw [List.length_take]; omega
  have h6 : (r - 1) * (candF l sh).length ≤ 15 * 20 := Nat.mul_le_mul (by omega) (by omega)
  rw [List.length_append]
  omega
theorem rank_mod (x : XApp) (hx : 0 ≤ x.prio ∧ x.prio ≤ 15) (r : Nat) (h1 : 1 ≤ r) (h16 : r ≤ 16) : (x.prio == ((r % 16 : Nat) : Int)) = decide (rankOf x = (r : Int)) := by
  unfold rankOf
  rw [Bool.eq_iff_iff]
  simp only [beq_iff_eq, decide_eq_true_eq]
  split <;> omega
theorem pB_eq {nm : ByteArray} {x : XKnown} (h : x.name = nm) : pB nm.data.toList x = true := by unfold pB; simp [h]
theorem text_eq {a b : ByteArray} (h : a = b) : (a.toList == b.toList) = true := by rw [h]; simp
theorem text_ne {a b : ByteArray} (h : ¬ a = b) : (a.toList == b.toList) = false := by
  rw [beq_eq_false_iff_ne, Lib.toList_data, Lib.toList_data]
  exact fun e => h (ByteArray.ext (Array.toList_inj.1 e))
theorem list_ne {a b : ByteArray} (h : ¬ a = b) : (a.data.toList == b.data.toList) = false := by
  rw [beq_eq_false_iff_ne]
  exact fun e => h (ByteArray.ext (Array.toList_inj.1 e))
theorem list_size (a : ByteArray) : a.data.toList.length = a.size := by simp
theorem pB_nopart {nm : ByteArray} {x : XKnown} (h : ¬ x.name = nm) (hp : x.part = false) : pB nm.data.toList x = false := by
  unfold pB
  rw [list_ne h, hp]
  rfl
theorem pB_long {nm : ByteArray} {x : XKnown} (h : ¬ x.name = nm) (hl : ¬ x.name.size ≤ nm.size) : pB nm.data.toList x = false := by
  unfold pB
  rw [list_ne h, list_size, list_size, decide_eq_false hl]
  cases x.part <;> rfl
theorem pB_short {nm : ByteArray} {x : XKnown} (h : ¬ x.name = nm) (hp : x.part = true) (hl : x.name.size ≤ nm.size) : pB nm.data.toList x = ((nm.extract 0 x.name.size).toList == x.name.toList) := by
  unfold pB
  rw [list_ne h, hp, list_size, list_size, decide_eq_true hl, Lib.toList_data, Lib.toList_data, extract_take nm x.name.size hl]
  rfl
theorem knownE_yes {sh : List XKnown} (h50 : ¬ 50 < sh.length) (h : sh.any knoB = true) : knownE sh = 1 := by rw [knownE, if_neg h50, h]; rfl
theorem knownE_no {sh : List XKnown} (h50 : ¬ 50 < sh.length) (h : sh.any knoB = false) : knownE sh = 0 := by rw [knownE, if_neg h50, h]; rfl
end Go.Proofs.Ytlnoilfnpgogbae
