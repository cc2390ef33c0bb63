/- Rows of plain things that are handed in, opened. -/
import Derived.Test.YtckkhpegimkefaaGreatDoorProg
import Derived.WalkKit
import Derived.ProofKit
import Derived.OpenShut
import Derived.ShutString
import Derived.ChangeOld
import Derived.Below
import Derived.Deep.Slices
import Derived.Test.YtckkhpegimkefaaGreatDoorRows
import Derived.Test.YtckkhpegimkefaaGreatDoorCards
import Derived.Test.YtckkhpegimkefaaGreatDoorTie
import Derived.Test.YtckkhpegimkefaaGreatDoorM43
import Derived.LaidMore
import Derived.Stop.Joined
import Derived.SevenTiedAt
import Derived.WideWitness
import Derived.Deep.DeepHandedRow
import Derived.Lib.LaidU8
import Derived.Lib.SmallJoins
namespace Go.Proofs.YtckkhpegimkefaaGreatDoor
open Go.ChangeShapes Go.WideShapes Go.ChangeAt Go.RowKit Go.Deep
set_option linter.unusedVariables false

theorem cellsOfInt : Tryz.prog.cellsOf 3 = 1 := by kernel_rfl
theorem cellsOfBool : Tryz.prog.cellsOf 4 = 1 := by kernel_rfl
theorem cellsOfString : Tryz.prog.cellsOf 9 = 1 := by kernel_rfl
theorem cell_ltR {w : World} {a : Addr} {v : Value} (h : w.cell? a = some v) : a.block < w.heap.size := by
  rcases Nat.lt_or_ge a.block w.heap.size with h1 | h1
  · exact h1
  · unfold World.cell? at h
    rw [Array.getElem?_eq_none h1] at h
    cases h
end Go.Proofs.YtckkhpegimkefaaGreatDoor
namespace Go.Proofs.YtckkhpegimkefaaGreatDoor
open Go.ChangeShapes Go.WideShapes Go.ChangeAt Go.RowKit Go.Deep
set_option linter.unusedVariables false
set_option maxRecDepth 100000

structure XTills where
  a : Int
  b : Int
deriving Inhabited
def valTills (x : XTills) : Value := .agg #[.int .i64 x.a, .int .i64 x.b]
def okTills (W : World) (x : XTills) : Prop := (-9223372036854775808 ≤ x.a ∧ x.a ≤ 9223372036854775807) ∧ (-9223372036854775808 ≤ x.b ∧ x.b ≤ 9223372036854775807)
def bulkTills (x : XTills) : Nat := 0
theorem cellsOfTills : Tryz.prog.cellsOf 22 = 2 := by kernel_rfl
theorem okTills.below {W W' : World} {x : XTills} (h : okTills W x) (hb : Below W.heap.size W W') : okTills W' x := h
theorem opencbTills {H : Type} {enc : TypeId × Value → H} {W : World} {k : Nat} {cs : List Value} {y : DataW H × List MemPlace}
    (h : DataW.trod enc Tryz.prog W 0 (fun _ => true) true k 22 cs = some y) : ∃ x : XTills, cs = [.int .i64 x.a, .int .i64 x.b] ∧ okTills W x ∧ bulkTills x ≤ Rows.uptoBulk y.1 := by
  obtain ⟨xs, k', _, _, hsz, hlen, hq⟩ := DataW.trod_array Tryz.underlying22 h
  rw [cellsOfTills] at hsz
  match cs, hsz with
  | [c0, c1], _ =>
    match xs, hlen with
    | [y0, y1], _ =>
      have h0 : DataW.trod enc Tryz.prog W 0 (fun _ => true) true k' 3 [c0] = some y0 := by simpa [cellsOfInt] using hq 0 (by decide)
      have h1 : DataW.trod enc Tryz.prog W 0 (fun _ => true) true k' 3 [c1] = some y1 := by simpa [cellsOfInt] using hq 1 (by decide)
      obtain ⟨z0, e0, g0, w0⟩ := DataW.trod_int Tryz.underlying3 h0
      obtain ⟨z1, e1, g1, w1⟩ := DataW.trod_int Tryz.underlying3 h1
      simp at e0 e1
      subst e0
      subst e1
      exact ⟨⟨z0, z1⟩, rfl, ⟨bounds_i64 w0, bounds_i64 w1⟩, Nat.zero_le _⟩
theorem opencTills {H : Type} {enc : TypeId × Value → H} {W : World} {k : Nat} {cs : List Value} {y : DataW H × List MemPlace}
    (h : DataW.trod enc Tryz.prog W 0 (fun _ => true) true k 22 cs = some y) : ∃ x : XTills, cs = [.int .i64 x.a, .int .i64 x.b] ∧ okTills W x := by
  obtain ⟨x, h1, h2, _⟩ := opencbTills h
  exact ⟨x, h1, h2⟩
structure XLinks where
  root : Int
  issuer : Int
  card : Int
  pre : ByteArray
  id : ByteArray
  tills : XTills
  data : ByteArray
  spoil : Int
deriving Inhabited
def valLinks (x : XLinks) : Value := .agg #[.int .i64 x.root, .int .i64 x.issuer, .int .i64 x.card, .string x.pre, .string x.id, .int .i64 x.tills.a, .int .i64 x.tills.b, .string x.data, .int .i64 x.spoil]
def okLinks (W : World) (x : XLinks) : Prop := (-9223372036854775808 ≤ x.root ∧ x.root ≤ 9223372036854775807) ∧ (-9223372036854775808 ≤ x.issuer ∧ x.issuer ≤ 9223372036854775807) ∧ (-9223372036854775808 ≤ x.card ∧ x.card ≤ 9223372036854775807) ∧ x.pre.size ≤ maxLen ∧ x.id.size ≤ maxLen ∧ okTills W x.tills ∧ x.data.size ≤ maxLen ∧ (-9223372036854775808 ≤ x.spoil ∧ x.spoil ≤ 9223372036854775807)
theorem cellsOfLinks : Tryz.prog.cellsOf 24 = 9 := by kernel_rfl
theorem okLinks.below {W W' : World} {x : XLinks} (h : okLinks W x) (hb : Below W.heap.size W W') : okLinks W' x := by
  obtain ⟨h0, h1, h2, h3, h4, h5, h6, h7⟩ := h
  exact ⟨h0, h1, h2, h3, h4, h5.below hb, h6, h7⟩
theorem opencLinks {H : Type} {enc : TypeId × Value → H} {W : World} {k : Nat} {cs : List Value} {y : DataW H × List MemPlace}
    (h : DataW.trod enc Tryz.prog W 0 (fun _ => true) true k 24 cs = some y) :
    ∃ x : XLinks, cs = [.int .i64 x.root, .int .i64 x.issuer, .int .i64 x.card, .string x.pre, .string x.id, .int .i64 x.tills.a, .int .i64 x.tills.b, .string x.data, .int .i64 x.spoil] ∧ okLinks W x := by
  obtain ⟨xs, k', _, _, hsz, hlen, hq⟩ := DataW.trod_struct Tryz.underlying24 h
  rw [cellsOfLinks] at hsz
  match cs, hsz with
  | [c0, c1, c2, c3, c4, c5, c6, c7, c8], _ =>
    match xs, hlen with
    | [y0, y1, y2, y3, y4, y5, y6, y7], _ =>
      have h0 : DataW.trod enc Tryz.prog W 0 (fun _ => true) true k' 3 [c0] = some y0 := by simpa [cellsOfBool, cellsOfInt, cellsOfString, cellsOfTills] using hq 0 _ rfl
      obtain ⟨z0, e0, g0, w0⟩ := DataW.trod_int Tryz.underlying3 h0
      have h1 : DataW.trod enc Tryz.prog W 0 (fun _ => true) true k' 3 [c1] = some y1 := by simpa [cellsOfBool, cellsOfInt, cellsOfString, cellsOfTills] using hq 1 _ rfl
      obtain ⟨z1, e1, g1, w1⟩ := DataW.trod_int Tryz.underlying3 h1
      have h2 : DataW.trod enc Tryz.prog W 0 (fun _ => true) true k' 3 [c2] = some y2 := by simpa [cellsOfBool, cellsOfInt, cellsOfString, cellsOfTills] using hq 2 _ rfl
      obtain ⟨z2, e2, g2, w2⟩ := DataW.trod_int Tryz.underlying3 h2
      have h3 : DataW.trod enc Tryz.prog W 0 (fun _ => true) true k' 9 [c3] = some y3 := by simpa [cellsOfBool, cellsOfInt, cellsOfString, cellsOfTills] using hq 3 _ rfl
      obtain ⟨z3, e3, g3, w3⟩ := DataW.trod_string Tryz.underlying9 h3
      have h4 : DataW.trod enc Tryz.prog W 0 (fun _ => true) true k' 9 [c4] = some y4 := by simpa [cellsOfBool, cellsOfInt, cellsOfString, cellsOfTills] using hq 4 _ rfl
      obtain ⟨z4, e4, g4, w4⟩ := DataW.trod_string Tryz.underlying9 h4
      have h5 : DataW.trod enc Tryz.prog W 0 (fun _ => true) true k' 22 [c5, c6] = some y5 := by simpa [cellsOfBool, cellsOfInt, cellsOfString, cellsOfTills] using hq 5 _ rfl
      obtain ⟨z5, e5, w5⟩ := opencTills h5
      have h6 : DataW.trod enc Tryz.prog W 0 (fun _ => true) true k' 9 [c7] = some y6 := by simpa [cellsOfBool, cellsOfInt, cellsOfString, cellsOfTills] using hq 6 _ rfl
      obtain ⟨z6, e6, g6, w6⟩ := DataW.trod_string Tryz.underlying9 h6
      have h7 : DataW.trod enc Tryz.prog W 0 (fun _ => true) true k' 3 [c8] = some y7 := by simpa [cellsOfBool, cellsOfInt, cellsOfString, cellsOfTills] using hq 7 _ rfl
      obtain ⟨z7, e7, g7, w7⟩ := DataW.trod_int Tryz.underlying3 h7
      simp at e0 e1 e2 e3 e4 e5 e6 e7
      subst e0
      subst e1
      subst e2
      subst e3
      subst e4
      obtain ⟨rfl, rfl⟩ := e5
      subst e6
      subst e7
      exact ⟨⟨z0, z1, z2, z3, z4, z5, z6, z7⟩, rfl, ⟨bounds_i64 w0, bounds_i64 w1, bounds_i64 w2, w3, w4, w5, w6, bounds_i64 w7⟩⟩
theorem openLinks {H : Type} {enc : TypeId × Value → H} {W : World} {b0 : Nat} {r : Reach} {v : Value} {d : DataW H} {p : List MemPlace}
    (hv : Value.okWide Tryz.prog W r b0 24 v) (h : DataW.Trod enc Tryz.prog W 0 (fun _ => true) true 24 v d p) : ∃ x : XLinks, v = valLinks x ∧ okLinks W x := by
  obtain ⟨cs, rfl, hsz⟩ := okWide_struct Tryz.underlying24 hv
  obtain ⟨fuel, hf⟩ := h
  obtain ⟨x, hx, ho⟩ := opencLinks hf
  obtain ⟨l⟩ := cs
  simp only [Value.cells] at hx
  subst hx
  exact ⟨x, rfl, ho⟩
def bulkLinks (x : XLinks) : Nat := x.pre.size + x.id.size + bulkTills x.tills + x.data.size
theorem opencbLinks {H : Type} {enc : TypeId × Value → H} {W : World} {k : Nat} {cs : List Value} {y : DataW H × List MemPlace}
    (h : DataW.trod enc Tryz.prog W 0 (fun _ => true) true k 24 cs = some y) :
    ∃ x : XLinks, cs = [.int .i64 x.root, .int .i64 x.issuer, .int .i64 x.card, .string x.pre, .string x.id, .int .i64 x.tills.a, .int .i64 x.tills.b, .string x.data, .int .i64 x.spoil] ∧ okLinks W x ∧ bulkLinks x ≤ Rows.uptoBulk y.1 := by
  obtain ⟨xs, k', _, hagg, hsz, hlen, hq⟩ := DataW.trod_struct Tryz.underlying24 h
  rw [cellsOfLinks] at hsz
  match cs, hsz with
  | [c0, c1, c2, c3, c4, c5, c6, c7, c8], _ =>
    match xs, hlen, hagg with
    | [y0, y1, y2, y3, y4, y5, y6, y7], _, hagg =>
      have hbk := congrArg Rows.uptoBulk (Prod.ext_iff.1 hagg).1
      have h0 : DataW.trod enc Tryz.prog W 0 (fun _ => true) true k' 3 [c0] = some y0 := by simpa [cellsOfBool, cellsOfInt, cellsOfString, cellsOfTills] using hq 0 _ rfl
      obtain ⟨z0, e0, g0, w0⟩ := DataW.trod_int Tryz.underlying3 h0
      subst g0
      have h1 : DataW.trod enc Tryz.prog W 0 (fun _ => true) true k' 3 [c1] = some y1 := by simpa [cellsOfBool, cellsOfInt, cellsOfString, cellsOfTills] using hq 1 _ rfl
      obtain ⟨z1, e1, g1, w1⟩ := DataW.trod_int Tryz.underlying3 h1
      subst g1
      have h2 : DataW.trod enc Tryz.prog W 0 (fun _ => true) true k' 3 [c2] = some y2 := by simpa [cellsOfBool, cellsOfInt, cellsOfString, cellsOfTills] using hq 2 _ rfl
      obtain ⟨z2, e2, g2, w2⟩ := DataW.trod_int Tryz.underlying3 h2
      subst g2
      have h3 : DataW.trod enc Tryz.prog W 0 (fun _ => true) true k' 9 [c3] = some y3 := by simpa [cellsOfBool, cellsOfInt, cellsOfString, cellsOfTills] using hq 3 _ rfl
      obtain ⟨z3, e3, g3, w3⟩ := DataW.trod_string Tryz.underlying9 h3
      have l3 : z3.data.toList.length = z3.size := by simp
      subst g3
      have h4 : DataW.trod enc Tryz.prog W 0 (fun _ => true) true k' 9 [c4] = some y4 := by simpa [cellsOfBool, cellsOfInt, cellsOfString, cellsOfTills] using hq 4 _ rfl
      obtain ⟨z4, e4, g4, w4⟩ := DataW.trod_string Tryz.underlying9 h4
      have l4 : z4.data.toList.length = z4.size := by simp
      subst g4
      have h5 : DataW.trod enc Tryz.prog W 0 (fun _ => true) true k' 22 [c5, c6] = some y5 := by simpa [cellsOfBool, cellsOfInt, cellsOfString, cellsOfTills] using hq 5 _ rfl
      obtain ⟨z5, e5, w5, b5⟩ := opencbTills h5
      have h6 : DataW.trod enc Tryz.prog W 0 (fun _ => true) true k' 9 [c7] = some y6 := by simpa [cellsOfBool, cellsOfInt, cellsOfString, cellsOfTills] using hq 6 _ rfl
      obtain ⟨z6, e6, g6, w6⟩ := DataW.trod_string Tryz.underlying9 h6
      have l6 : z6.data.toList.length = z6.size := by simp
      subst g6
      have h7 : DataW.trod enc Tryz.prog W 0 (fun _ => true) true k' 3 [c8] = some y7 := by simpa [cellsOfBool, cellsOfInt, cellsOfString, cellsOfTills] using hq 7 _ rfl
      obtain ⟨z7, e7, g7, w7⟩ := DataW.trod_int Tryz.underlying3 h7
      subst g7
      simp at e0 e1 e2 e3 e4 e5 e6 e7
      subst e0
      subst e1
      subst e2
      subst e3
      subst e4
      obtain ⟨rfl, rfl⟩ := e5
      subst e6
      subst e7
      refine ⟨⟨z0, z1, z2, z3, z4, z5, z6, z7⟩, rfl, ⟨bounds_i64 w0, bounds_i64 w1, bounds_i64 w2, w3, w4, w5, w6, bounds_i64 w7⟩, ?_⟩
      simp only [List.map_cons, List.map_nil, Rows.uptoBulk, Rows.uptoBulkAll] at hbk
      rw [hbk]
      unfold bulkLinks
      dsimp only
      omega
theorem openbLinks {H : Type} {enc : TypeId × Value → H} {W : World} {b0 : Nat} {r : Reach} {v : Value} {d : DataW H} {p : List MemPlace}
    (hv : Value.okWide Tryz.prog W r b0 24 v) (h : DataW.Trod enc Tryz.prog W 0 (fun _ => true) true 24 v d p) : ∃ x : XLinks, v = valLinks x ∧ okLinks W x ∧ bulkLinks x ≤ Rows.uptoBulk d := by
  obtain ⟨cs, rfl, hsz⟩ := okWide_struct Tryz.underlying24 hv
  obtain ⟨fuel, hf⟩ := h
  obtain ⟨x, hx, ho, hb⟩ := opencbLinks hf
  obtain ⟨l⟩ := cs
  simp only [Value.cells] at hx
  subst hx
  exact ⟨x, rfl, ho, hb⟩
end Go.Proofs.YtckkhpegimkefaaGreatDoor
namespace Go.Proofs.YtckkhpegimkefaaGreatDoor
open Go.ChangeShapes Go.WideShapes Go.ChangeAt Go.RowKit Go.Joins
open Go.ChangeMaps (open_string shut_string)
set_option linter.unusedVariables false
set_option maxRecDepth 100000

def primeD (i : Nat) : DataW Unit := .agg [.lit (.string (hexT (2 * i)).data.toList), .lit (.string (hexT (2 * i + 1)).data.toList)]
theorem primes_same : (Rows.laid_pursehouse_pursehouselaw_primes : DataW Unit) = .agg ((List.range 6).map primeD) := by kernel_rfl
theorem cellsStrR : Tryz.prog.cellsOf 9 = 1 := by kernel_rfl
theorem cellsTwoR : Tryz.prog.cellsOf 55 = 2 := by kernel_rfl
theorem str_cell {w : World} {fuel : Nat} {cs : List Value} {l : List UInt8} {p : List MemPlace}
    (h : DataW.trod (fun _ => ()) Tryz.prog w 0 (fun _ => true) false fuel 9 cs = some (.lit (.string l), p)) : cs = [.string ⟨l.toArray⟩] := by
  obtain ⟨s, e, g, _⟩ := DataW.trod_string Tryz.underlying9 h
  subst e
  simp at g
  rw [g.1]
theorem primes_of_reads {w : World} (h : Lib.VarReads Tryz.prog w "pursehouse/pursehouselaw.primes" (.agg ((List.range 6).map primeD))) : PairTab w := by
  obtain ⟨g, t, cs, fuel, p, hg, hty, hvar, hd⟩ := h
  obtain rfl := Option.some.inj ((show Tryz.prog.globalNamed "pursehouse/pursehouselaw.primes" = some 0 by kernel_rfl).symm.trans hg)
  obtain rfl := Option.some.inj ((show (Tryz.prog.globals[0]?).map (·.type) = some 56 by kernel_rfl).symm.trans hty)
  have key : ∀ i, i < 6 → ∀ k, k < 2 → w.cell? ⟨0, 2 * i + k, none⟩ = some (.string (hexT (2 * i + k))) := by
    intro i hi k hk
    obtain ⟨fuel', d, q, hdi, he⟩ := Lib.array_elem Tryz.underlying56 hd i hi
    rw [List.getElem?_map, List.getElem?_range (by omega), Option.map_some, Option.some.injEq] at hdi
    subst hdi
    rw [cellsTwoR] at he
    obtain ⟨fuel2, d2, q2, hd2, he2⟩ := Lib.array_elem Tryz.underlying55 he k hk
    rw [cellsStrR] at he2
    have hc : k = 0 ∨ k = 1 := by omega
    rcases hc with rfl | rfl
    · obtain rfl : d2 = .lit (.string (hexT (2 * i)).data.toList) := by simpa using hd2.symm
      have e0 := congrArg (·[0]?) (str_cell he2)
      simp only [List.getElem?_take, List.getElem?_drop] at e0
      rw [World.var?_cell hg hvar (2 * i + 0), ← Array.getElem?_toList]
      simpa [Nat.mul_comm] using e0
    · obtain rfl : d2 = .lit (.string (hexT (2 * i + 1)).data.toList) := by simpa using hd2.symm
      have e0 := congrArg (·[0]?) (str_cell he2)
      simp only [List.getElem?_take, List.getElem?_drop] at e0
      rw [World.var?_cell hg hvar (2 * i + 1), ← Array.getElem?_toList]
      simpa [Nat.mul_comm] using e0
  intro j hj
  have := key (j / 2) (by omega) (j % 2) (by omega)
  rw [show 2 * (j / 2) + j % 2 = j by omega] at this
  exact this
/-- a world for the witness: the three tables hold what their initialisers lay -/
noncomputable def laidWorldOf (os : Os) : World :=
  let w0 := World.holding Tryz.prog os ⟨#[], #[], []⟩
  let put (h : Array Obj) (g : Nat) (cs : Array Value) : Array Obj := h.modify g fun
    | .cells _ t frozen => .cells cs t frozen
    | o => o
  let h1 := put w0.heap 0 ((List.range 12).map fun j => Value.string (hexT j)).toArray
  let h2 := put h1 4 (Lib.firstTab.map fun z => Value.int .u8 z).toArray
  let h3 := put h2 5 ((List.range 16).flatMap fun i => [Value.int .u8 (Lib.accLo i), Value.int .u8 (Lib.accHi i)]).toArray
  { w0 with heap := h3 }
end Go.Proofs.YtckkhpegimkefaaGreatDoor
