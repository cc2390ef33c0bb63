/- Applications, and what a shop knows, that are handed in, opened. -/
import Derived.Test.YtamamlpicookiahSh0
namespace Go.Proofs.Ytamamlpicookiah
open Go.ChangeShapes Go.WideShapes Go.ChangeAt Go.RowKit Go.Deep
set_option linter.unusedVariables false
set_option maxRecDepth 100000

structure XApp where
  name : ByteArray
  label : ByteArray
  prio : Int
  confirm : Bool
deriving Inhabited
def valApp (x : XApp) : Value := .agg #[.string x.name, .string x.label, .int .i64 x.prio, .bool x.confirm]
def okApp (W : World) (x : XApp) : Prop := x.name.size ≤ maxLen ∧ x.label.size ≤ maxLen ∧ (-9223372036854775808 ≤ x.prio ∧ x.prio ≤ 9223372036854775807)
theorem okApp.below {W W' : World} {x : XApp} (h : okApp W x) (hb : Below W.heap.size W W') : okApp W' x := by
  obtain ⟨h0, h1, h2⟩ := h
  exact ⟨h0, h1, h2⟩
def RowApp (W : World) (ao : Option Addr) (l : List XApp) : Prop :=
  (l = [] ∨ ∃ b off, ao = some ⟨b, off, none⟩ ∧ b < W.heap.size ∧ ∀ i x, l[i]? = some x → W.cell? ⟨b, off + i * 4, none⟩ = some (.string x.name) ∧ W.cell? ⟨b, off + i * 4 + 1, none⟩ = some (.string x.label) ∧ W.cell? ⟨b, off + i * 4 + 2, none⟩ = some (.int .i64 x.prio) ∧ W.cell? ⟨b, off + i * 4 + 3, none⟩ = some (.bool x.confirm)) ∧ (∀ x ∈ l, okApp W x) ∧ l.length ≤ maxLen
theorem RowApp.below {W W' : World} {ao : Option Addr} {l : List XApp} (h : RowApp W ao l) (hb : Below W.heap.size W W') : RowApp W' ao l := by
  obtain ⟨h, ho, hm⟩ := h
  refine ⟨?_, fun x hx => (ho x hx).below hb, hm⟩
  rcases h with h | ⟨b, off, e, hlt, hc⟩
  · exact .inl h
  · refine .inr ⟨b, off, e, Nat.lt_of_lt_of_le hlt hb.size, fun i s hi => ?_⟩
    obtain ⟨c0, c1, c2, c3⟩ := hc i s hi
    exact ⟨(hb.cell (p := ⟨b, off + i * 4, none⟩) hlt).trans c0, (hb.cell (p := ⟨b, off + i * 4 + 1, none⟩) hlt).trans c1, (hb.cell (p := ⟨b, off + i * 4 + 2, none⟩) hlt).trans c2, (hb.cell (p := ⟨b, off + i * 4 + 3, none⟩) hlt).trans c3⟩
structure XKnown where
  name : ByteArray
  part : Bool
deriving Inhabited
def valKnown (x : XKnown) : Value := .agg #[.string x.name, .bool x.part]
def okKnown (W : World) (x : XKnown) : Prop := x.name.size ≤ maxLen
theorem okKnown.below {W W' : World} {x : XKnown} (h : okKnown W x) (hb : Below W.heap.size W W') : okKnown W' x := by
  exact h
def RowKnown (W : World) (ao : Option Addr) (l : List XKnown) : Prop :=
  (l = [] ∨ ∃ b off, ao = some ⟨b, off, none⟩ ∧ b < W.heap.size ∧ ∀ i x, l[i]? = some x → W.cell? ⟨b, off + i * 2, none⟩ = some (.string x.name) ∧ W.cell? ⟨b, off + i * 2 + 1, none⟩ = some (.bool x.part)) ∧ (∀ x ∈ l, okKnown W x) ∧ l.length ≤ maxLen
theorem RowKnown.below {W W' : World} {ao : Option Addr} {l : List XKnown} (h : RowKnown W ao l) (hb : Below W.heap.size W W') : RowKnown W' ao l := by
  obtain ⟨h, ho, hm⟩ := h
  refine ⟨?_, fun x hx => (ho x hx).below hb, hm⟩
  rcases h with h | ⟨b, off, e, hlt, hc⟩
  · exact .inl h
  · refine .inr ⟨b, off, e, Nat.lt_of_lt_of_le hlt hb.size, fun i s hi => ?_⟩
    obtain ⟨c0, c1⟩ := hc i s hi
    exact ⟨(hb.cell (p := ⟨b, off + i * 2, none⟩) hlt).trans c0, (hb.cell (p := ⟨b, off + i * 2 + 1, none⟩) hlt).trans c1⟩
end Go.Proofs.Ytamamlpicookiah
