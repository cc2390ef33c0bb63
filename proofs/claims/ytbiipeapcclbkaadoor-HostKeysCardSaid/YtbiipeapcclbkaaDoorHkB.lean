/- The document's HostPlan. -/
import Derived.Test.YtbiipeapcclbkaaDoorHkA
namespace Go.Proofs.YtbiipeapcclbkaaDoor
open Go.RowKit
set_option linter.unusedVariables false

abbrev KV := Int × ByteArray
/-- numbers and texts in memory -/
def KRow (W : World) (ao : Option Addr) (l : List KV) : Prop := l = [] ∨ ∃ b off, ao = some ⟨b, off, none⟩ ∧ b < W.heap.size ∧ ∀ (i : Nat) (p : KV), l[i]? = some p → W.cell? ⟨b, off + i * 2, none⟩ = some (.int .i64 p.1) ∧ W.cell? ⟨b, off + i * 2 + 1, none⟩ = some (.string p.2)
theorem KRow.below {w w' : World} {pa : Option Addr} {l : List KV} {B : Nat} (h : KRow w pa l) (hb : Below B w w') (hB : w.heap.size ≤ B) : KRow w' pa l := by
  rcases h with h | ⟨b, off, e, hlt, hc⟩
  · exact .inl h
  · exact .inr ⟨b, off, e, Nat.lt_of_lt_of_le hlt hb.size, fun i p hi => ⟨(hb.cell (p := ⟨b, off + i * 2, none⟩) (Nat.lt_of_lt_of_le hlt hB)).trans (hc i p hi).1, (hb.cell (p := ⟨b, off + i * 2 + 1, none⟩) (Nat.lt_of_lt_of_le hlt hB)).trans (hc i p hi).2⟩⟩
def keyBad (l : List KV) : Bool := l.any fun p => decide (p.2.size ≠ 16)
def farV (hi : Int) (l : List KV) : Bool := l.any fun p => decide (p.1 < 0) || decide (hi < p.1)
def hasV (l : List KV) (v : Int) : Bool := l.any fun p => decide (p.1 = v)
def dupV (l : List KV) : Nat → Bool
  | 0 => false
  | q + 1 => dupV l q || match l[q]? with | some p => hasV (l.take q) p.1 | none => false
def planE (ms ls : List KV) : Int :=
  if ms = [] then 1 else if keyBad ms = true ∨ keyBad ls = true then 1 else if (farV 255 ms || farV 4294967295 ls) = true then 3 else if (dupV ms ms.length || dupV ls ls.length) = true then 6 else if 50 < ms.length ∨ 50 < ls.length then 2 else 0
theorem any_take {α : Type} (f : α → Bool) (l : List α) (q : Nat) (p : α) (h : l[q]? = some p) : (l.take (q + 1)).any f = ((l.take q).any f || f p) := by
  rw [List.take_add_one, h, List.any_append]; simp
theorem keyBad_of {l : List KV} {q : Nat} {p : KV} (h : l[q]? = some p) (hp : p.2.size ≠ 16) : keyBad l = true := by
  unfold keyBad
  rw [List.any_eq_true]
  exact ⟨p, List.mem_of_getElem? h, decide_eq_true hp⟩
end Go.Proofs.YtbiipeapcclbkaaDoor
