/- Print of the program. -/
import Derived.Test.YtajkbkljonejnaaGreatDoorM36
import Derived.Test.YtajkbkljonejnaaGreatDoorM35
import Derived.Test.YtajkbkljonejnaaGreatDoorM02
import Derived.Test.YtajkbkljonejnaaGreatDoorM00
import Derived.Maps.OwnSet
import Derived.Maps.OwnOps
import Derived.Maps.Views
import Derived.StringKeys
import Derived.Deep.RegionWith
import Derived.Lib.Strings
import Derived.Deep.RegionHeld3
import Derived.Deep.DeepCutAuto
import Derived.Test.YtajkbkljonejnaaGreatDoorM14
import Derived.Laws.StructEq
import Derived.Deep.QuietTactic
import Derived.BigQuiet
import Derived.Deep.CutBlock
import Derived.Lib.SmallJoins
namespace Go.Proofs.YtajkbkljonejnaaGreatDoor
open Go.RowKit
set_option linter.unusedVariables false
end Go.Proofs.YtajkbkljonejnaaGreatDoor
namespace Go.Proofs.YtajkbkljonejnaaGreatDoor
open Go.RowKit
set_option linter.unusedVariables false
/-! ### The other way -/
end Go.Proofs.YtajkbkljonejnaaGreatDoor
namespace Go.Proofs.YtajkbkljonejnaaGreatDoor
open Go.ChangeShapes Go.WideShapes Go.ChangeAt Go.RowKit Go.Deep
set_option linter.unusedVariables false
set_option maxRecDepth 100000
structure XApp where
  name : ByteArray
  label : ByteArray
  prio : Int
  confirm : Bool
deriving Inhabited
def okApp (W : World) (x : XApp) : Prop := x.name.size ≤ maxLen ∧ x.label.size ≤ maxLen ∧ (-9223372036854775808 ≤ x.prio ∧ x.prio ≤ 9223372036854775807)
theorem okApp.below {W W' : World} {x : XApp} (h : okApp W x) (hb : Below W.heap.size W W') : okApp W' x := by
  obtain ⟨h0, h1, h2⟩ := h
  exact ⟨h0, h1, h2⟩
def RowApp (W : World) (ao : Option Addr) (l : List XApp) : Prop :=
  (l = [] ∨ ∃ b off, ao = some ⟨b, off, none⟩ ∧ b < W.heap.size ∧ ∀ i x, l[i]? = some x → W.cell? ⟨b, off + i * 4, none⟩ = some (.string x.name) ∧ W.cell? ⟨b, off + i * 4 + 1, none⟩ = some (.string x.label) ∧ W.cell? ⟨b, off + i * 4 + 2, none⟩ = some (.int .i64 x.prio) ∧ W.cell? ⟨b, off + i * 4 + 3, none⟩ = some (.bool x.confirm)) ∧ (∀ x ∈ l, okApp W x) ∧ l.length ≤ maxLen
theorem RowApp.below {W W' : World} {ao : Option Addr} {l : List XApp} (h : RowApp W ao l) (hb : Below W.heap.size W W') : RowApp W' ao l := by
  obtain ⟨h, ho, hm⟩ := h
  refine ⟨?_, fun x hx => (ho x hx).below hb, hm⟩
  rcases h with h | ⟨b, off, e, hlt, hc⟩
  · exact .inl h
  · refine .inr ⟨b, off, e, Nat.lt_of_lt_of_le hlt hb.size, fun i s hi => ?_⟩
    obtain ⟨c0, c1, c2, c3⟩ := hc i s hi
    exact ⟨(hb.cell (p := ⟨b, off + i * 4, none⟩) hlt).trans c0, (hb.cell (p := ⟨b, off + i * 4 + 1, none⟩) hlt).trans c1, (hb.cell (p := ⟨b, off + i * 4 + 2, none⟩) hlt).trans c2, (hb.cell (p := ⟨b, off + i * 4 + 3, none⟩) hlt).trans c3⟩
structure XKnown where
  name : ByteArray
  part : Bool
deriving Inhabited
def okKnown (W : World) (x : XKnown) : Prop := x.name.size ≤ maxLen
theorem okKnown.below {W W' : World} {x : XKnown} (h : okKnown W x) (hb : Below W.heap.size W W') : okKnown W' x := by
  exact h
def RowKnown (W : World) (ao : Option Addr) (l : List XKnown) : Prop :=
  (l = [] ∨ ∃ b off, ao = some ⟨b, off, none⟩ ∧ b < W.heap.size ∧ ∀ i x, l[i]? = some x → W.cell? ⟨b, off + i * 2, none⟩ = some (.string x.name) ∧ W.cell? ⟨b, off + i * 2 + 1, none⟩ = some (.bool x.part)) ∧ (∀ x ∈ l, okKnown W x) ∧ l.length ≤ maxLen
theorem RowKnown.below {W W' : World} {ao : Option Addr} {l : List XKnown} (h : RowKnown W ao l) (hb : Below W.heap.size W W') : RowKnown W' ao l := by
  obtain ⟨h, ho, hm⟩ := h
  refine ⟨?_, fun x hx => (ho x hx).below hb, hm⟩
  rcases h with h | ⟨b, off, e, hlt, hc⟩
  · exact .inl h
  · refine .inr ⟨b, off, e, Nat.lt_of_lt_of_le hlt hb.size, fun i s hi => ?_⟩
    obtain ⟨c0, c1⟩ := hc i s hi
    exact ⟨(hb.cell (p := ⟨b, off + i * 2, none⟩) hlt).trans c0, (hb.cell (p := ⟨b, off + i * 2 + 1, none⟩) hlt).trans c1⟩
end Go.Proofs.YtajkbkljonejnaaGreatDoor
namespace Go.Proofs.YtajkbkljonejnaaGreatDoor
open Go.RowKit Go.WideMaps Go.Maps
set_option linter.unusedVariables false
end Go.Proofs.YtajkbkljonejnaaGreatDoor
namespace Go.Proofs.YtajkbkljonejnaaGreatDoor
open Go.RowKit
set_option linter.unusedVariables false
end Go.Proofs.YtajkbkljonejnaaGreatDoor
namespace Go.Proofs.YtajkbkljonejnaaGreatDoor
open Go.RowKit
set_option linter.unusedVariables false
def Deep : Nat → List It → Prop
  | 0, l => l = []
  | d + 1, l => ∀ x ∈ l, Deep d x.list
end Go.Proofs.YtajkbkljonejnaaGreatDoor
namespace Go.Proofs.YtajkbkljonejnaaGreatDoor
open Go.RowKit
set_option linter.unusedVariables false
end Go.Proofs.YtajkbkljonejnaaGreatDoor
namespace Go.Proofs.YtajkbkljonejnaaGreatDoor
open Go.RowKit
set_option linter.unusedVariables false
end Go.Proofs.YtajkbkljonejnaaGreatDoor
namespace Go.Proofs.YtajkbkljonejnaaGreatDoor
open Go.RowKit
set_option linter.unusedVariables false
def inT (n a b : Int) : Bool := decide (a ≤ n ∧ n ≤ b)
theorem inT_true {n a b : Int} : inT n a b = true ↔ a ≤ n ∧ n ≤ b := by unfold inT; simp
theorem inT_false {n a b : Int} (h : ¬ (a ≤ n ∧ n ≤ b)) : inT n a b = false := decide_eq_false h
theorem ret_boolQ {a b : Bool} (h : a = b) : Ending.returned (.bool a) = .returned (.bool b) := by rw [h]
instance : DecidableEq XDeal := fun a b => by
  obtain ⟨a1, a2, a3, a4, a5, a6, a7⟩ := a
  obtain ⟨b1, b2, b3, b4, b5, b6, b7⟩ := b
  exact decidable_of_iff (a1 = b1 ∧ a2 = b2 ∧ a3 = b3 ∧ a4 = b4 ∧ a5 = b5 ∧ a6 = b6 ∧ a7 = b7) (by simp)
instance : DecidableEq XCommand := fun a b => by
  obtain ⟨a1, a2, a3, a4, a5, a6, a7, a8⟩ := a
  obtain ⟨b1, b2, b3, b4, b5, b6, b7, b8⟩ := b
  exact decidable_of_iff (a1 = b1 ∧ a2 = b2 ∧ a3 = b3 ∧ a4 = b4 ∧ a5 = b5 ∧ a6 = b6 ∧ a7 = b7 ∧ a8 = b8) (by simp)
end Go.Proofs.YtajkbkljonejnaaGreatDoor
namespace Go.Proofs.YtajkbkljonejnaaGreatDoor
open Go.RowKit
set_option linter.unusedVariables false
end Go.Proofs.YtajkbkljonejnaaGreatDoor
namespace Go.Proofs.YtajkbkljonejnaaGreatDoor
open Go.RowKit
set_option linter.unusedVariables false
end Go.Proofs.YtajkbkljonejnaaGreatDoor
