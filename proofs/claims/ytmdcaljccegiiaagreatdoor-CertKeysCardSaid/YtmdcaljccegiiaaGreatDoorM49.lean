/- Rows of plain things that are handed in, opened. -/
import Derived.Test.YtmdcaljccegiiaaGreatDoorProg
import Derived.WalkKit
import Derived.ProofKit
import Derived.OpenShut
import Derived.ShutString
import Derived.ChangeOld
import Derived.Below
import Derived.Deep.Slices
import Derived.Test.YtmdcaljccegiiaaGreatDoorRows
namespace Go.Proofs.YtmdcaljccegiiaaGreatDoor
open Go.ChangeShapes Go.WideShapes Go.ChangeAt Go.RowKit Go.Deep
set_option linter.unusedVariables false

theorem cellsOfInt : Tryz.prog.cellsOf 3 = 1 := by kernel_rfl
theorem cellsOfBool : Tryz.prog.cellsOf 4 = 1 := by kernel_rfl
theorem cellsOfString : Tryz.prog.cellsOf 9 = 1 := by kernel_rfl
theorem cell_ltR {w : World} {a : Addr} {v : Value} (h : w.cell? a = some v) : a.block < w.heap.size := by
  rcases Nat.lt_or_ge a.block w.heap.size with h1 | h1
  · exact h1
  · unfold World.cell? at h
    rw [Array.getElem?_eq_none h1] at h
    cases h
end Go.Proofs.YtmdcaljccegiiaaGreatDoor
namespace Go.Proofs.YtmdcaljccegiiaaGreatDoor
open Go.ChangeShapes Go.WideShapes Go.ChangeAt Go.RowKit Go.Deep
set_option linter.unusedVariables false
set_option maxRecDepth 100000

structure XKeyBody where
  owner : ByteArray
  till : Int
  modulus : ByteArray
deriving Inhabited
def valKeyBody (x : XKeyBody) : Value := .agg #[.string x.owner, .int .i64 x.till, .string x.modulus]
def okKeyBody (W : World) (x : XKeyBody) : Prop := x.owner.size ≤ maxLen ∧ (-9223372036854775808 ≤ x.till ∧ x.till ≤ 9223372036854775807) ∧ x.modulus.size ≤ maxLen
theorem cellsOfKeyBody : Tryz.prog.cellsOf 23 = 3 := by kernel_rfl
theorem okKeyBody.below {W W' : World} {x : XKeyBody} (h : okKeyBody W x) (hb : Below W.heap.size W W') : okKeyBody W' x := by
  obtain ⟨h0, h1, h2⟩ := h
  exact ⟨h0, h1, h2⟩
theorem opencKeyBody {H : Type} {enc : TypeId × Value → H} {W : World} {k : Nat} {cs : List Value} {y : DataW H × List MemPlace}
    (h : DataW.trod enc Tryz.prog W 0 (fun _ => true) true k 23 cs = some y) :
    ∃ x : XKeyBody, cs = [.string x.owner, .int .i64 x.till, .string x.modulus] ∧ okKeyBody W x := by
  obtain ⟨xs, k', _, _, hsz, hlen, hq⟩ := DataW.trod_struct Tryz.underlying23 h
  rw [cellsOfKeyBody] at hsz
  match cs, hsz with
  | [c0, c1, c2], _ =>
    match xs, hlen with
    | [y0, y1, y2], _ =>
      have h0 : DataW.trod enc Tryz.prog W 0 (fun _ => true) true k' 9 [c0] = some y0 := by simpa [cellsOfBool, cellsOfInt, cellsOfString] using hq 0 _ rfl
      obtain ⟨z0, e0, g0, w0⟩ := DataW.trod_string Tryz.underlying9 h0
      have h1 : DataW.trod enc Tryz.prog W 0 (fun _ => true) true k' 3 [c1] = some y1 := by simpa [cellsOfBool, cellsOfInt, cellsOfString] using hq 1 _ rfl
      obtain ⟨z1, e1, g1, w1⟩ := DataW.trod_int Tryz.underlying3 h1
      have h2 : DataW.trod enc Tryz.prog W 0 (fun _ => true) true k' 9 [c2] = some y2 := by simpa [cellsOfBool, cellsOfInt, cellsOfString] using hq 2 _ rfl
      obtain ⟨z2, e2, g2, w2⟩ := DataW.trod_string Tryz.underlying9 h2
      simp at e0 e1 e2
      subst e0
      subst e1
      subst e2
      exact ⟨⟨z0, z1, z2⟩, rfl, ⟨w0, bounds_i64 w1, w2⟩⟩
theorem openKeyBody {H : Type} {enc : TypeId × Value → H} {W : World} {b0 : Nat} {r : Reach} {v : Value} {d : DataW H} {p : List MemPlace}
    (hv : Value.okWide Tryz.prog W r b0 23 v) (h : DataW.Trod enc Tryz.prog W 0 (fun _ => true) true 23 v d p) : ∃ x : XKeyBody, v = valKeyBody x ∧ okKeyBody W x := by
  obtain ⟨cs, rfl, hsz⟩ := okWide_struct Tryz.underlying23 hv
  obtain ⟨fuel, hf⟩ := h
  obtain ⟨x, hx, ho⟩ := opencKeyBody hf
  obtain ⟨l⟩ := cs
  simp only [Value.cells] at hx
  subst hx
  exact ⟨x, rfl, ho⟩
structure XSecret where
  p : ByteArray
  q : ByteArray
deriving Inhabited
def valSecret (x : XSecret) : Value := .agg #[.string x.p, .string x.q]
def okSecret (W : World) (x : XSecret) : Prop := x.p.size ≤ maxLen ∧ x.q.size ≤ maxLen
theorem cellsOfSecret : Tryz.prog.cellsOf 25 = 2 := by kernel_rfl
theorem okSecret.below {W W' : World} {x : XSecret} (h : okSecret W x) (hb : Below W.heap.size W W') : okSecret W' x := by
  obtain ⟨h0, h1⟩ := h
  exact ⟨h0, h1⟩
theorem opencSecret {H : Type} {enc : TypeId × Value → H} {W : World} {k : Nat} {cs : List Value} {y : DataW H × List MemPlace}
    (h : DataW.trod enc Tryz.prog W 0 (fun _ => true) true k 25 cs = some y) :
    ∃ x : XSecret, cs = [.string x.p, .string x.q] ∧ okSecret W x := by
  obtain ⟨xs, k', _, _, hsz, hlen, hq⟩ := DataW.trod_struct Tryz.underlying25 h
  rw [cellsOfSecret] at hsz
  match cs, hsz with
  | [c0, c1], _ =>
    match xs, hlen with
    | [y0, y1], _ =>
      have h0 : DataW.trod enc Tryz.prog W 0 (fun _ => true) true k' 9 [c0] = some y0 := by simpa [cellsOfBool, cellsOfInt, cellsOfString] using hq 0 _ rfl
      obtain ⟨z0, e0, g0, w0⟩ := DataW.trod_string Tryz.underlying9 h0
      have h1 : DataW.trod enc Tryz.prog W 0 (fun _ => true) true k' 9 [c1] = some y1 := by simpa [cellsOfBool, cellsOfInt, cellsOfString] using hq 1 _ rfl
      obtain ⟨z1, e1, g1, w1⟩ := DataW.trod_string Tryz.underlying9 h1
      simp at e0 e1
      subst e0
      subst e1
      exact ⟨⟨z0, z1⟩, rfl, ⟨w0, w1⟩⟩
theorem openSecret {H : Type} {enc : TypeId × Value → H} {W : World} {b0 : Nat} {r : Reach} {v : Value} {d : DataW H} {p : List MemPlace}
    (hv : Value.okWide Tryz.prog W r b0 25 v) (h : DataW.Trod enc Tryz.prog W 0 (fun _ => true) true 25 v d p) : ∃ x : XSecret, v = valSecret x ∧ okSecret W x := by
  obtain ⟨cs, rfl, hsz⟩ := okWide_struct Tryz.underlying25 hv
  obtain ⟨fuel, hf⟩ := h
  obtain ⟨x, hx, ho⟩ := opencSecret hf
  obtain ⟨l⟩ := cs
  simp only [Value.cells] at hx
  subst hx
  exact ⟨x, rfl, ho⟩
end Go.Proofs.YtmdcaljccegiiaaGreatDoor
