/- Commands and deals that are handed in, opened. -/
import Derived.Test.YtamamlpicookiahSh0
import Derived.Test.YtamamlpicookiahRows
import Derived.Test.YtamamlpicookiahPK
import Derived.Laws.StructEq
import Derived.Test.YtamamlpicookiahNumAll
import Derived.Test.YtamamlpicookiahQB
import Derived.Test.YtamamlpicookiahRP
namespace Go.Proofs.Ytamamlpicookiah
open Go.ChangeShapes Go.WideShapes Go.ChangeAt Go.RowKit Go.Deep
set_option linter.unusedVariables false
set_option maxRecDepth 100000

structure XDeal where
  shop : Int
  trace : Int
  amount : Int
  cash : Bool
  day : Int
  bits : Int
  nonce : ByteArray
deriving Inhabited
def valDeal (x : XDeal) : Value := .agg #[.int .i64 x.shop, .int .i64 x.trace, .int .i64 x.amount, .bool x.cash, .int .i64 x.day, .int .i64 x.bits, .string x.nonce]
def okDeal (W : World) (x : XDeal) : Prop := (-9223372036854775808 ≤ x.shop ∧ x.shop ≤ 9223372036854775807) ∧ (-9223372036854775808 ≤ x.trace ∧ x.trace ≤ 9223372036854775807) ∧ (-9223372036854775808 ≤ x.amount ∧ x.amount ≤ 9223372036854775807) ∧ (-9223372036854775808 ≤ x.day ∧ x.day ≤ 9223372036854775807) ∧ (-9223372036854775808 ≤ x.bits ∧ x.bits ≤ 9223372036854775807) ∧ x.nonce.size ≤ maxLen
theorem cellsOfDeal : Try.prog.cellsOf 23 = 7 := by kernel_rfl
theorem okDeal.below {W W' : World} {x : XDeal} (h : okDeal W x) (hb : Below W.heap.size W W') : okDeal W' x := by
  obtain ⟨h0, h1, h2, h3, h4, h5⟩ := h
  exact ⟨h0, h1, h2, h3, h4, h5⟩
theorem opencDeal {H : Type} {enc : TypeId × Value → H} {W : World} {k : Nat} {cs : List Value} {y : DataW H × List MemPlace}
    (h : DataW.trod enc Try.prog W 0 (fun _ => true) true k 23 cs = some y) :
    ∃ x : XDeal, cs = [.int .i64 x.shop, .int .i64 x.trace, .int .i64 x.amount, .bool x.cash, .int .i64 x.day, .int .i64 x.bits, .string x.nonce] ∧ okDeal W x := by
  obtain ⟨xs, k', _, _, hsz, hlen, hq⟩ := DataW.trod_struct Try.underlying23 h
  rw [cellsOfDeal] at hsz
  match cs, hsz with
  | [c0, c1, c2, c3, c4, c5, c6], _ =>
    match xs, hlen with
    | [y0, y1, y2, y3, y4, y5, y6], _ =>
      have h0 : DataW.trod enc Try.prog W 0 (fun _ => true) true k' 3 [c0] = some y0 := by simpa [cellsOfBool, cellsOfInt, cellsOfString] using hq 0 _ rfl
      obtain ⟨z0, e0, g0, w0⟩ := DataW.trod_int Try.underlying3 h0
      have h1 : DataW.trod enc Try.prog W 0 (fun _ => true) true k' 3 [c1] = some y1 := by simpa [cellsOfBool, cellsOfInt, cellsOfString] using hq 1 _ rfl
      obtain ⟨z1, e1, g1, w1⟩ := DataW.trod_int Try.underlying3 h1
      have h2 : DataW.trod enc Try.prog W 0 (fun _ => true) true k' 3 [c2] = some y2 := by simpa [cellsOfBool, cellsOfInt, cellsOfString] using hq 2 _ rfl
      obtain ⟨z2, e2, g2, w2⟩ := DataW.trod_int Try.underlying3 h2
      have h3 : DataW.trod enc Try.prog W 0 (fun _ => true) true k' 4 [c3] = some y3 := by simpa [cellsOfBool, cellsOfInt, cellsOfString] using hq 3 _ rfl
      obtain ⟨z3, e3, g3⟩ := DataW.trod_bool Try.underlying4 h3
      have h4 : DataW.trod enc Try.prog W 0 (fun _ => true) true k' 3 [c4] = some y4 := by simpa [cellsOfBool, cellsOfInt, cellsOfString] using hq 4 _ rfl
      obtain ⟨z4, e4, g4, w4⟩ := DataW.trod_int Try.underlying3 h4
      have h5 : DataW.trod enc Try.prog W 0 (fun _ => true) true k' 3 [c5] = some y5 := by simpa [cellsOfBool, cellsOfInt, cellsOfString] using hq 5 _ rfl
      obtain ⟨z5, e5, g5, w5⟩ := DataW.trod_int Try.underlying3 h5
      have h6 : DataW.trod enc Try.prog W 0 (fun _ => true) true k' 9 [c6] = some y6 := by simpa [cellsOfBool, cellsOfInt, cellsOfString] using hq 6 _ rfl
      obtain ⟨z6, e6, g6, w6⟩ := DataW.trod_string Try.underlying9 h6
      simp at e0 e1 e2 e3 e4 e5 e6
      subst e0
      subst e1
      subst e2
      subst e3
      subst e4
      subst e5
      subst e6
      exact ⟨⟨z0, z1, z2, z3, z4, z5, z6⟩, rfl, ⟨bounds_i64 w0, bounds_i64 w1, bounds_i64 w2, bounds_i64 w4, bounds_i64 w5, w6⟩⟩
theorem openDeal {H : Type} {enc : TypeId × Value → H} {W : World} {b0 : Nat} {r : Reach} {v : Value} {d : DataW H} {p : List MemPlace}
    (hv : Value.okWide Try.prog W r b0 23 v) (h : DataW.Trod enc Try.prog W 0 (fun _ => true) true 23 v d p) : ∃ x : XDeal, v = valDeal x ∧ okDeal W x := by
  obtain ⟨cs, rfl, hsz⟩ := okWide_struct Try.underlying23 hv
  obtain ⟨fuel, hf⟩ := h
  obtain ⟨x, hx, ho⟩ := opencDeal hf
  obtain ⟨l⟩ := cs
  simp only [Value.cells] at hx
  subst hx
  exact ⟨x, rfl, ho⟩
def bulkDeal (x : XDeal) : Nat := x.nonce.size
theorem opencbDeal {H : Type} {enc : TypeId × Value → H} {W : World} {k : Nat} {cs : List Value} {y : DataW H × List MemPlace}
    (h : DataW.trod enc Try.prog W 0 (fun _ => true) true k 23 cs = some y) :
    ∃ x : XDeal, cs = [.int .i64 x.shop, .int .i64 x.trace, .int .i64 x.amount, .bool x.cash, .int .i64 x.day, .int .i64 x.bits, .string x.nonce] ∧ okDeal W x ∧ bulkDeal x ≤ Rows.uptoBulk y.1 := by
  obtain ⟨xs, k', _, hagg, hsz, hlen, hq⟩ := DataW.trod_struct Try.underlying23 h
  rw [cellsOfDeal] at hsz
  match cs, hsz with
  | [c0, c1, c2, c3, c4, c5, c6], _ =>
    match xs, hlen, hagg with
    | [y0, y1, y2, y3, y4, y5, y6], _, hagg =>
      have hbk := congrArg Rows.uptoBulk (Prod.ext_iff.1 hagg).1
      have h0 : DataW.trod enc Try.prog W 0 (fun _ => true) true k' 3 [c0] = some y0 := by simpa [cellsOfBool, cellsOfInt, cellsOfString] using hq 0 _ rfl
      obtain ⟨z0, e0, g0, w0⟩ := DataW.trod_int Try.underlying3 h0
      subst g0
      have h1 : DataW.trod enc Try.prog W 0 (fun _ => true) true k' 3 [c1] = some y1 := by simpa [cellsOfBool, cellsOfInt, cellsOfString] using hq 1 _ rfl
      obtain ⟨z1, e1, g1, w1⟩ := DataW.trod_int Try.underlying3 h1
      subst g1
      have h2 : DataW.trod enc Try.prog W 0 (fun _ => true) true k' 3 [c2] = some y2 := by simpa [cellsOfBool, cellsOfInt, cellsOfString] using hq 2 _ rfl
      obtain ⟨z2, e2, g2, w2⟩ := DataW.trod_int Try.underlying3 h2
      subst g2
      have h3 : DataW.trod enc Try.prog W 0 (fun _ => true) true k' 4 [c3] = some y3 := by simpa [cellsOfBool, cellsOfInt, cellsOfString] using hq 3 _ rfl
      obtain ⟨z3, e3, g3⟩ := DataW.trod_bool Try.underlying4 h3
      subst g3
      have h4 : DataW.trod enc Try.prog W 0 (fun _ => true) true k' 3 [c4] = some y4 := by simpa [cellsOfBool, cellsOfInt, cellsOfString] using hq 4 _ rfl
      obtain ⟨z4, e4, g4, w4⟩ := DataW.trod_int Try.underlying3 h4
      subst g4
      have h5 : DataW.trod enc Try.prog W 0 (fun _ => true) true k' 3 [c5] = some y5 := by simpa [cellsOfBool, cellsOfInt, cellsOfString] using hq 5 _ rfl
      obtain ⟨z5, e5, g5, w5⟩ := DataW.trod_int Try.underlying3 h5
      subst g5
      have h6 : DataW.trod enc Try.prog W 0 (fun _ => true) true k' 9 [c6] = some y6 := by simpa [cellsOfBool, cellsOfInt, cellsOfString] using hq 6 _ rfl
      obtain ⟨z6, e6, g6, w6⟩ := DataW.trod_string Try.underlying9 h6
      have l6 : z6.data.toList.length = z6.size := by simp
      subst g6
      simp at e0 e1 e2 e3 e4 e5 e6
      subst e0
      subst e1
      subst e2
      subst e3
      subst e4
      subst e5
      subst e6
      refine ⟨⟨z0, z1, z2, z3, z4, z5, z6⟩, rfl, ⟨bounds_i64 w0, bounds_i64 w1, bounds_i64 w2, bounds_i64 w4, bounds_i64 w5, w6⟩, ?_⟩
      simp only [List.map_cons, List.map_nil, Rows.uptoBulk, Rows.uptoBulkAll] at hbk
      rw [hbk]
      unfold bulkDeal
      dsimp only
      omega
theorem openbDeal {H : Type} {enc : TypeId × Value → H} {W : World} {b0 : Nat} {r : Reach} {v : Value} {d : DataW H} {p : List MemPlace}
    (hv : Value.okWide Try.prog W r b0 23 v) (h : DataW.Trod enc Try.prog W 0 (fun _ => true) true 23 v d p) : ∃ x : XDeal, v = valDeal x ∧ okDeal W x ∧ bulkDeal x ≤ Rows.uptoBulk d := by
  obtain ⟨cs, rfl, hsz⟩ := okWide_struct Try.underlying23 hv
  obtain ⟨fuel, hf⟩ := h
  obtain ⟨x, hx, ho, hb⟩ := opencbDeal hf
  obtain ⟨l⟩ := cs
  simp only [Value.cells] at hx
  subst hx
  exact ⟨x, rfl, ho, hb⟩
structure XCommand where
  dO : Int
  name : ByteArray
  digits : ByteArray
  want : Int
  deal : XDeal
  extra : ByteArray
  answer : ByteArray
  orders : ByteArray
deriving Inhabited
def valCommand (x : XCommand) : Value := .agg #[.int .i64 x.dO, .string x.name, .string x.digits, .int .i64 x.want, .int .i64 x.deal.shop, .int .i64 x.deal.trace, .int .i64 x.deal.amount, .bool x.deal.cash, .int .i64 x.deal.day, .int .i64 x.deal.bits, .string x.deal.nonce, .string x.extra, .string x.answer, .string x.orders]
def okCommand (W : World) (x : XCommand) : Prop := (-9223372036854775808 ≤ x.dO ∧ x.dO ≤ 9223372036854775807) ∧ x.name.size ≤ maxLen ∧ x.digits.size ≤ maxLen ∧ (-9223372036854775808 ≤ x.want ∧ x.want ≤ 9223372036854775807) ∧ okDeal W x.deal ∧ x.extra.size ≤ maxLen ∧ x.answer.size ≤ maxLen ∧ x.orders.size ≤ maxLen
theorem cellsOfCommand : Try.prog.cellsOf 25 = 14 := by kernel_rfl
theorem okCommand.below {W W' : World} {x : XCommand} (h : okCommand W x) (hb : Below W.heap.size W W') : okCommand W' x := by
  obtain ⟨h0, h1, h2, h3, h4, h5, h6, h7⟩ := h
  exact ⟨h0, h1, h2, h3, h4.below hb, h5, h6, h7⟩
theorem opencCommand {H : Type} {enc : TypeId × Value → H} {W : World} {k : Nat} {cs : List Value} {y : DataW H × List MemPlace}
    (h : DataW.trod enc Try.prog W 0 (fun _ => true) true k 25 cs = some y) :
    ∃ x : XCommand, cs = [.int .i64 x.dO, .string x.name, .string x.digits, .int .i64 x.want, .int .i64 x.deal.shop, .int .i64 x.deal.trace, .int .i64 x.deal.amount, .bool x.deal.cash, .int .i64 x.deal.day, .int .i64 x.deal.bits, .string x.deal.nonce, .string x.extra, .string x.answer, .string x.orders] ∧ okCommand W x := by
  obtain ⟨xs, k', _, _, hsz, hlen, hq⟩ := DataW.trod_struct Try.underlying25 h
  rw [cellsOfCommand] at hsz
  match cs, hsz with
  | [c0, c1, c2, c3, c4, c5, c6, c7, c8, c9, c10, c11, c12, c13], _ =>
    match xs, hlen with
    | [y0, y1, y2, y3, y4, y5, y6, y7], _ =>
      have h0 : DataW.trod enc Try.prog W 0 (fun _ => true) true k' 3 [c0] = some y0 := by simpa [cellsOfBool, cellsOfDeal, cellsOfInt, cellsOfString] using hq 0 _ rfl
      obtain ⟨z0, e0, g0, w0⟩ := DataW.trod_int Try.underlying3 h0
      have h1 : DataW.trod enc Try.prog W 0 (fun _ => true) true k' 9 [c1] = some y1 := by simpa [cellsOfBool, cellsOfDeal, cellsOfInt, cellsOfString] using hq 1 _ rfl
      obtain ⟨z1, e1, g1, w1⟩ := DataW.trod_string Try.underlying9 h1
      have h2 : DataW.trod enc Try.prog W 0 (fun _ => true) true k' 9 [c2] = some y2 := by simpa [cellsOfBool, cellsOfDeal, cellsOfInt, cellsOfString] using hq 2 _ rfl
      obtain ⟨z2, e2, g2, w2⟩ := DataW.trod_string Try.underlying9 h2
      have h3 : DataW.trod enc Try.prog W 0 (fun _ => true) true k' 3 [c3] = some y3 := by simpa [cellsOfBool, cellsOfDeal, cellsOfInt, cellsOfString] using hq 3 _ rfl
      obtain ⟨z3, e3, g3, w3⟩ := DataW.trod_int Try.underlying3 h3
      have h4 : DataW.trod enc Try.prog W 0 (fun _ => true) true k' 23 [c4, c5, c6, c7, c8, c9, c10] = some y4 := by simpa [cellsOfBool, cellsOfDeal, cellsOfInt, cellsOfString] using hq 4 _ rfl
      obtain ⟨z4, e4, w4⟩ := opencDeal h4
      have h5 : DataW.trod enc Try.prog W 0 (fun _ => true) true k' 9 [c11] = some y5 := by simpa [cellsOfBool, cellsOfDeal, cellsOfInt, cellsOfString] using hq 5 _ rfl
      obtain ⟨z5, e5, g5, w5⟩ := DataW.trod_string Try.underlying9 h5
      have h6 : DataW.trod enc Try.prog W 0 (fun _ => true) true k' 9 [c12] = some y6 := by simpa [cellsOfBool, cellsOfDeal, cellsOfInt, cellsOfString] using hq 6 _ rfl
      obtain ⟨z6, e6, g6, w6⟩ := DataW.trod_string Try.underlying9 h6
      have h7 : DataW.trod enc Try.prog W 0 (fun _ => true) true k' 9 [c13] = some y7 := by simpa [cellsOfBool, cellsOfDeal, cellsOfInt, cellsOfString] using hq 7 _ rfl
      obtain ⟨z7, e7, g7, w7⟩ := DataW.trod_string Try.underlying9 h7
      simp at e0 e1 e2 e3 e4 e5 e6 e7
      subst e0
      subst e1
      subst e2
      subst e3
      obtain ⟨rfl, rfl, rfl, rfl, rfl, rfl, rfl⟩ := e4
      subst e5
      subst e6
      subst e7
      exact ⟨⟨z0, z1, z2, z3, z4, z5, z6, z7⟩, rfl, ⟨bounds_i64 w0, w1, w2, bounds_i64 w3, w4, w5, w6, w7⟩⟩
theorem openCommand {H : Type} {enc : TypeId × Value → H} {W : World} {b0 : Nat} {r : Reach} {v : Value} {d : DataW H} {p : List MemPlace}
    (hv : Value.okWide Try.prog W r b0 25 v) (h : DataW.Trod enc Try.prog W 0 (fun _ => true) true 25 v d p) : ∃ x : XCommand, v = valCommand x ∧ okCommand W x := by
  obtain ⟨cs, rfl, hsz⟩ := okWide_struct Try.underlying25 hv
  obtain ⟨fuel, hf⟩ := h
  obtain ⟨x, hx, ho⟩ := opencCommand hf
  obtain ⟨l⟩ := cs
  simp only [Value.cells] at hx
  subst hx
  exact ⟨x, rfl, ho⟩
def bulkCommand (x : XCommand) : Nat := x.name.size + x.digits.size + bulkDeal x.deal + x.extra.size + x.answer.size + x.orders.size
theorem opencbCommand {H : Type} {enc : TypeId × Value → H} {W : World} {k : Nat} {cs : List Value} {y : DataW H × List MemPlace}
    (h : DataW.trod enc Try.prog W 0 (fun _ => true) true k 25 cs = some y) :
    ∃ x : XCommand, cs = [.int .i64 x.dO, .string x.name, .string x.digits, .int .i64 x.want, .int .i64 x.deal.shop, .int .i64 x.deal.trace, .int .i64 x.deal.amount, .bool x.deal.cash, .int .i64 x.deal.day, .int .i64 x.deal.bits, .string x.deal.nonce, .string x.extra, .string x.answer, .string x.orders] ∧ okCommand W x ∧ bulkCommand x ≤ Rows.uptoBulk y.1 := by
  obtain ⟨xs, k', _, hagg, hsz, hlen, hq⟩ := DataW.trod_struct Try.underlying25 h
  rw [cellsOfCommand] at hsz
  match cs, hsz with
  | [c0, c1, c2, c3, c4, c5, c6, c7, c8, c9, c10, c11, c12, c13], _ =>
    match xs, hlen, hagg with
    | [y0, y1, y2, y3, y4, y5, y6, y7], _, hagg =>
      have hbk := congrArg Rows.uptoBulk (Prod.ext_iff.1 hagg).1
      have h0 : DataW.trod enc Try.prog W 0 (fun _ => true) true k' 3 [c0] = some y0 := by simpa [cellsOfBool, cellsOfDeal, cellsOfInt, cellsOfString] using hq 0 _ rfl
      obtain ⟨z0, e0, g0, w0⟩ := DataW.trod_int Try.underlying3 h0
      subst g0
      have h1 : DataW.trod enc Try.prog W 0 (fun _ => true) true k' 9 [c1] = some y1 := by simpa [cellsOfBool, cellsOfDeal, cellsOfInt, cellsOfString] using hq 1 _ rfl
      obtain ⟨z1, e1, g1, w1⟩ := DataW.trod_string Try.underlying9 h1
      have l1 : z1.data.toList.length = z1.size := by simp
      subst g1
      have h2 : DataW.trod enc Try.prog W 0 (fun _ => true) true k' 9 [c2] = some y2 := by simpa [cellsOfBool, cellsOfDeal, cellsOfInt, cellsOfString] using hq 2 _ rfl
      obtain ⟨z2, e2, g2, w2⟩ := DataW.trod_string Try.underlying9 h2
      have l2 : z2.data.toList.length = z2.size := by simp
      subst g2
      have h3 : DataW.trod enc Try.prog W 0 (fun _ => true) true k' 3 [c3] = some y3 := by simpa [cellsOfBool, cellsOfDeal, cellsOfInt, cellsOfString] using hq 3 _ rfl
      obtain ⟨z3, e3, g3, w3⟩ := DataW.trod_int Try.underlying3 h3
      subst g3
      have h4 : DataW.trod enc Try.prog W 0 (fun _ => true) true k' 23 [c4, c5, c6, c7, c8, c9, c10] = some y4 := by simpa [cellsOfBool, cellsOfDeal, cellsOfInt, cellsOfString] using hq 4 _ rfl
      obtain ⟨z4, e4, w4, b4⟩ := opencbDeal h4
      have h5 : DataW.trod enc Try.prog W 0 (fun _ => true) true k' 9 [c11] = some y5 := by simpa [cellsOfBool, cellsOfDeal, cellsOfInt, cellsOfString] using hq 5 _ rfl
      obtain ⟨z5, e5, g5, w5⟩ := DataW.trod_string Try.underlying9 h5
      have l5 : z5.data.toList.length = z5.size := by simp
      subst g5
      have h6 : DataW.trod enc Try.prog W 0 (fun _ => true) true k' 9 [c12] = some y6 := by simpa [cellsOfBool, cellsOfDeal, cellsOfInt, cellsOfString] using hq 6 _ rfl
      obtain ⟨z6, e6, g6, w6⟩ := DataW.trod_string Try.underlying9 h6
      have l6 : z6.data.toList.length = z6.size := by simp
      subst g6
      have h7 : DataW.trod enc Try.prog W 0 (fun _ => true) true k' 9 [c13] = some y7 := by simpa [cellsOfBool, cellsOfDeal, cellsOfInt, cellsOfString] using hq 7 _ rfl
      obtain ⟨z7, e7, g7, w7⟩ := DataW.trod_string Try.underlying9 h7
      have l7 : z7.data.toList.length = z7.size := by simp
      subst g7
      simp at e0 e1 e2 e3 e4 e5 e6 e7
      subst e0
      subst e1
      subst e2
      subst e3
      obtain ⟨rfl, rfl, rfl, rfl, rfl, rfl, rfl⟩ := e4
      subst e5
      subst e6
      subst e7
      refine ⟨⟨z0, z1, z2, z3, z4, z5, z6, z7⟩, rfl, ⟨bounds_i64 w0, w1, w2, bounds_i64 w3, w4, w5, w6, w7⟩, ?_⟩
      simp only [List.map_cons, List.map_nil, Rows.uptoBulk, Rows.uptoBulkAll] at hbk
      rw [hbk]
      unfold bulkCommand
      dsimp only
      omega
theorem openbCommand {H : Type} {enc : TypeId × Value → H} {W : World} {b0 : Nat} {r : Reach} {v : Value} {d : DataW H} {p : List MemPlace}
    (hv : Value.okWide Try.prog W r b0 25 v) (h : DataW.Trod enc Try.prog W 0 (fun _ => true) true 25 v d p) : ∃ x : XCommand, v = valCommand x ∧ okCommand W x ∧ bulkCommand x ≤ Rows.uptoBulk d := by
  obtain ⟨cs, rfl, hsz⟩ := okWide_struct Try.underlying25 hv
  obtain ⟨fuel, hf⟩ := h
  obtain ⟨x, hx, ho, hb⟩ := opencbCommand hf
  obtain ⟨l⟩ := cs
  simp only [Value.cells] at hx
  subst hx
  exact ⟨x, rfl, ho, hb⟩
end Go.Proofs.Ytamamlpicookiah
namespace Go.Proofs.Ytamamlpicookiah
open Go.RowKit
set_option linter.unusedVariables false

def inT (n a b : Int) : Bool := decide (a ≤ n ∧ n ≤ b)
theorem inT_true {n a b : Int} : inT n a b = true ↔ a ≤ n ∧ n ≤ b := by unfold inT; simp
theorem inT_false {n a b : Int} (h : ¬ (a ≤ n ∧ n ≤ b)) : inT n a b = false := decide_eq_false h
theorem ret_boolQ {a b : Bool} (h : a = b) : Ending.returned (.bool a) = .returned (.bool b) := by rw [h]
theorem twithin_any (n a b : Int) (w : World) :
    Calls Try.prog 25 #[.int .i64 n, .int .i64 a, .int .i64 b] w fun e w' => e = .returned (.bool (inT n a b)) ∧ w' = w := by
  by_cases h1 : a ≤ n
  · by_cases h2 : n ≤ b
    · have HD : Hid (inT n a b = true) := hide (decide_eq_true ⟨h1, h2⟩)
      generalize inT n a b = r at *
      go_enter Try.func25, Try.ntmps25
      go_wp2
      go_ret
      exact ⟨ret_boolQ (unhide HD).symm, rfl⟩
    · have HD : Hid (inT n a b = false) := hide (decide_eq_false (fun h => h2 h.2))
      generalize inT n a b = r at *
      go_enter Try.func25, Try.ntmps25
      go_wp2
      go_ret
      exact ⟨ret_boolQ (unhide HD).symm, rfl⟩
  · have HD : Hid (inT n a b = false) := hide (decide_eq_false (fun h => h1 h.1))
    generalize inT n a b = r at *
    go_enter Try.func25, Try.ntmps25
    go_wp2
    go_ret
    exact ⟨ret_boolQ (unhide HD).symm, rfl⟩
theorem isDo_any (n : Int) (w : World) :
    Calls Try.prog 8 #[.int .i64 n] w fun e w' => e = .returned (.bool (inT n 1 7)) ∧ w' = w := by
  have N1 := hide (fun w => twithin_any n 1 7 w)
  generalize inT n 1 7 = b at *
  go_enter Try.func8, Try.ntmps8
  go_wp2_with fail
  refine (unhide N1 _).mono ?_
  rintro e w1 ⟨rfl, rfl⟩
  go_wp2
  go_ret
  exact ⟨rfl, rfl⟩
def zeroD : XDeal := ⟨0, 0, 0, false, 0, 0, ⟨#[]⟩⟩
/-- a command with nothing but what belongs to it -/
def ownC (c : XCommand) : XCommand :=
  if c.dO = 2 then ⟨c.dO, c.name, ⟨#[]⟩, 0, zeroD, ⟨#[]⟩, ⟨#[]⟩, ⟨#[]⟩⟩
  else if c.dO = 4 then ⟨c.dO, ⟨#[]⟩, c.digits, 0, zeroD, ⟨#[]⟩, ⟨#[]⟩, ⟨#[]⟩⟩
  else if c.dO = 5 then ⟨c.dO, ⟨#[]⟩, ⟨#[]⟩, c.want, c.deal, c.extra, ⟨#[]⟩, ⟨#[]⟩⟩
  else if c.dO = 6 then ⟨c.dO, ⟨#[]⟩, ⟨#[]⟩, c.want, zeroD, ⟨#[]⟩, c.answer, ⟨#[]⟩⟩
  else if c.dO = 7 then ⟨c.dO, ⟨#[]⟩, ⟨#[]⟩, 0, zeroD, ⟨#[]⟩, ⟨#[]⟩, c.orders⟩
  else ⟨c.dO, ⟨#[]⟩, ⟨#[]⟩, 0, zeroD, ⟨#[]⟩, ⟨#[]⟩, ⟨#[]⟩⟩
set_option maxRecDepth 100000 in
set_option maxHeartbeats 2000000 in
theorem own_any (c : XCommand) (w : World) :
    Calls Try.prog 9 #[valCommand c] w fun e w' => e = .returned (valCommand (ownC c)) ∧ Below w.heap.size w w' := by
  obtain ⟨dO, nm, dg, wt, ⟨sh, tr, am, ca, dy, bt, no⟩, ex, an, od⟩ := c
  have HB := hide (fun o o' => ((Below.refl w.heap.size w).alloc (Nat.le_refl _) o).alloc (by simp) o')
  obtain ⟨R, hR⟩ : ∃ R, R = ownC ⟨dO, nm, dg, wt, ⟨sh, tr, am, ca, dy, bt, no⟩, ex, an, od⟩ := ⟨_, rfl⟩
  rw [← hR]
  unfold ownC zeroD at hR
  simp only at hR
  unfold valCommand
  simp only
  by_cases h2 : dO = 2
  · rw [if_pos h2] at hR
    subst h2
    subst hR
    simp only
    go_enter Try.func9, Try.ntmps9
    go_wp2
    exact bodyPost_ret (v := .agg #[.int .i64 2, .string nm, .string ⟨#[]⟩, .int .i64 0, .int .i64 0, .int .i64 0, .int .i64 0, .bool false, .int .i64 0, .int .i64 0, .string ⟨#[]⟩, .string ⟨#[]⟩, .string ⟨#[]⟩, .string ⟨#[]⟩]) (by simp [results, Try.results9, go_sem]) rfl ⟨rfl, unhide HB _ _⟩
  rw [if_neg h2] at hR
  have t2 : (dO == 2) = false := by simpa using h2
  clear h2
  by_cases h4 : dO = 4
  · rw [if_pos h4] at hR
    subst h4
    subst hR
    simp only
    go_enter Try.func9, Try.ntmps9
    go_wp2
    exact bodyPost_ret (v := .agg #[.int .i64 4, .string ⟨#[]⟩, .string dg, .int .i64 0, .int .i64 0, .int .i64 0, .int .i64 0, .bool false, .int .i64 0, .int .i64 0, .string ⟨#[]⟩, .string ⟨#[]⟩, .string ⟨#[]⟩, .string ⟨#[]⟩]) (by simp [results, Try.results9, go_sem]) rfl ⟨rfl, unhide HB _ _⟩
  rw [if_neg h4] at hR
  have t4 : (dO == 4) = false := by simpa using h4
  clear h4
  by_cases h5 : dO = 5
  · rw [if_pos h5] at hR
    subst h5
    subst hR
    simp only
    go_enter Try.func9, Try.ntmps9
    go_wp2
    exact bodyPost_ret (v := .agg #[.int .i64 5, .string ⟨#[]⟩, .string ⟨#[]⟩, .int .i64 wt, .int .i64 sh, .int .i64 tr, .int .i64 am, .bool ca, .int .i64 dy, .int .i64 bt, .string no, .string ex, .string ⟨#[]⟩, .string ⟨#[]⟩]) (by simp [results, Try.results9, go_sem]) rfl ⟨rfl, unhide HB _ _⟩
  rw [if_neg h5] at hR
  have t5 : (dO == 5) = false := by simpa using h5
  clear h5
  by_cases h6 : dO = 6
  · rw [if_pos h6] at hR
    subst h6
    subst hR
    simp only
    go_enter Try.func9, Try.ntmps9
    go_wp2
    exact bodyPost_ret (v := .agg #[.int .i64 6, .string ⟨#[]⟩, .string ⟨#[]⟩, .int .i64 wt, .int .i64 0, .int .i64 0, .int .i64 0, .bool false, .int .i64 0, .int .i64 0, .string ⟨#[]⟩, .string ⟨#[]⟩, .string an, .string ⟨#[]⟩]) (by simp [results, Try.results9, go_sem]) rfl ⟨rfl, unhide HB _ _⟩
  rw [if_neg h6] at hR
  have t6 : (dO == 6) = false := by simpa using h6
  clear h6
  by_cases h7 : dO = 7
  · rw [if_pos h7] at hR
    subst h7
    subst hR
    simp only
    go_enter Try.func9, Try.ntmps9
    go_wp2
    exact bodyPost_ret (v := .agg #[.int .i64 7, .string ⟨#[]⟩, .string ⟨#[]⟩, .int .i64 0, .int .i64 0, .int .i64 0, .int .i64 0, .bool false, .int .i64 0, .int .i64 0, .string ⟨#[]⟩, .string ⟨#[]⟩, .string ⟨#[]⟩, .string od]) (by simp [results, Try.results9, go_sem]) rfl ⟨rfl, unhide HB _ _⟩
  rw [if_neg h7] at hR
  have t7 : (dO == 7) = false := by simpa using h7
  clear h7
  subst hR
  simp only
  go_enter Try.func9, Try.ntmps9
  go_wp2
  exact bodyPost_ret (v := .agg #[.int .i64 dO, .string ⟨#[]⟩, .string ⟨#[]⟩, .int .i64 0, .int .i64 0, .int .i64 0, .int .i64 0, .bool false, .int .i64 0, .int .i64 0, .string ⟨#[]⟩, .string ⟨#[]⟩, .string ⟨#[]⟩, .string ⟨#[]⟩]) (by simp [results, Try.results9, go_sem]) rfl ⟨rfl, unhide HB _ _⟩
theorem toList_injQ {x y : ByteArray} (h : x.toList = y.toList) : x = y := by
  rw [Lib.toList_data, Lib.toList_data] at h
  apply ByteArray.ext
  exact Array.toList_inj.1 h
instance : DecidableEq XDeal := fun a b => by
  obtain ⟨a1, a2, a3, a4, a5, a6, a7⟩ := a
  obtain ⟨b1, b2, b3, b4, b5, b6, b7⟩ := b
  exact decidable_of_iff (a1 = b1 ∧ a2 = b2 ∧ a3 = b3 ∧ a4 = b4 ∧ a5 = b5 ∧ a6 = b6 ∧ a7 = b7) (by simp)
instance : DecidableEq XCommand := fun a b => by
  obtain ⟨a1, a2, a3, a4, a5, a6, a7, a8⟩ := a
  obtain ⟨b1, b2, b3, b4, b5, b6, b7, b8⟩ := b
  exact decidable_of_iff (a1 = b1 ∧ a2 = b2 ∧ a3 = b3 ∧ a4 = b4 ∧ a5 = b5 ∧ a6 = b6 ∧ a7 = b7 ∧ a8 = b8) (by simp)
set_option maxHeartbeats 2000000 in
theorem neq_command (a b : XCommand) (w : World) : (binOp .neq 25 (valCommand a) (valCommand b)).run Try.prog w = .ok (.bool (!decide (a = b))) w := by
  unfold valCommand
  go_simp
  by_cases h : a = b
  · subst h; simp
  · rw [decide_eq_false h]
    obtain ⟨a1, a2, a3, a4, ⟨d1, d2, d3, d4, d5, d6, d7⟩, a6, a7, a8⟩ := a
    obtain ⟨b1, b2, b3, b4, ⟨e1, e2, e3, e4, e5, e6, e7⟩, b6, b7, b8⟩ := b
    simp only
    by_cases g0 : a1 = b1
    case neg => first | (rw [if_neg g0]; done) | (rw [if_neg g0]; rfl)
    rw [if_pos g0]
    by_cases g1 : a2.toList = b2.toList
    case neg => first | (rw [if_neg g1]; done) | (rw [if_neg g1]; rfl)
    rw [if_pos g1]
    by_cases g2 : a3.toList = b3.toList
    case neg => first | (rw [if_neg g2]; done) | (rw [if_neg g2]; rfl)
    rw [if_pos g2]
    by_cases g3 : a4 = b4
    case neg => first | (rw [if_neg g3]; done) | (rw [if_neg g3]; rfl)
    rw [if_pos g3]
    by_cases g4 : d1 = e1
    case neg => first | (rw [if_neg g4]; done) | (rw [if_neg g4]; rfl)
    rw [if_pos g4]
    by_cases g5 : d2 = e2
    case neg => first | (rw [if_neg g5]; done) | (rw [if_neg g5]; rfl)
    rw [if_pos g5]
    by_cases g6 : d3 = e3
    case neg => first | (rw [if_neg g6]; done) | (rw [if_neg g6]; rfl)
    rw [if_pos g6]
    by_cases g7 : d4 = e4
    case neg => first | (rw [if_neg g7]; done) | (rw [if_neg g7]; rfl)
    rw [if_pos g7]
    by_cases g8 : d5 = e5
    case neg => first | (rw [if_neg g8]; done) | (rw [if_neg g8]; rfl)
    rw [if_pos g8]
    by_cases g9 : d6 = e6
    case neg => first | (rw [if_neg g9]; done) | (rw [if_neg g9]; rfl)
    rw [if_pos g9]
    by_cases g10 : d7.toList = e7.toList
    case neg => first | (rw [if_neg g10]; done) | (rw [if_neg g10]; rfl)
    rw [if_pos g10]
    by_cases g11 : a6.toList = b6.toList
    case neg => first | (rw [if_neg g11]; done) | (rw [if_neg g11]; rfl)
    rw [if_pos g11]
    by_cases g12 : a7.toList = b7.toList
    case neg => first | (rw [if_neg g12]; done) | (rw [if_neg g12]; rfl)
    rw [if_pos g12]
    by_cases g13 : a8.toList = b8.toList
    case neg => first | (rw [if_neg g13]; done) | (rw [if_neg g13]; rfl)
    rw [if_pos g13]
    exact absurd (by rw [g0, toList_injQ g1, toList_injQ g2, g3, g4, g5, g6, g7, g8, g9, toList_injQ g10, toList_injQ g11, toList_injQ g12, toList_injQ g13]) h
set_option maxHeartbeats 2000000 in
theorem eql_command (a b : XCommand) (w : World) : (binOp .eql 25 (valCommand a) (valCommand b)).run Try.prog w = .ok (.bool (decide (a = b))) w := by
  unfold valCommand
  go_simp
  by_cases h : a = b
  · subst h; simp
  · rw [decide_eq_false h]
    obtain ⟨a1, a2, a3, a4, ⟨d1, d2, d3, d4, d5, d6, d7⟩, a6, a7, a8⟩ := a
    obtain ⟨b1, b2, b3, b4, ⟨e1, e2, e3, e4, e5, e6, e7⟩, b6, b7, b8⟩ := b
    simp only
    by_cases g0 : a1 = b1
    case neg => first | (rw [if_neg g0]; done) | (rw [if_neg g0]; rfl)
    rw [if_pos g0]
    by_cases g1 : a2.toList = b2.toList
    case neg => first | (rw [if_neg g1]; done) | (rw [if_neg g1]; rfl)
    rw [if_pos g1]
    by_cases g2 : a3.toList = b3.toList
    case neg => first | (rw [if_neg g2]; done) | (rw [if_neg g2]; rfl)
    rw [if_pos g2]
    by_cases g3 : a4 = b4
    case neg => first | (rw [if_neg g3]; done) | (rw [if_neg g3]; rfl)
    rw [if_pos g3]
    by_cases g4 : d1 = e1
    case neg => first | (rw [if_neg g4]; done) | (rw [if_neg g4]; rfl)
    rw [if_pos g4]
    by_cases g5 : d2 = e2
    case neg => first | (rw [if_neg g5]; done) | (rw [if_neg g5]; rfl)
    rw [if_pos g5]
    by_cases g6 : d3 = e3
    case neg => first | (rw [if_neg g6]; done) | (rw [if_neg g6]; rfl)
    rw [if_pos g6]
    by_cases g7 : d4 = e4
    case neg => first | (rw [if_neg g7]; done) | (rw [if_neg g7]; rfl)
    rw [if_pos g7]
    by_cases g8 : d5 = e5
    case neg => first | (rw [if_neg g8]; done) | (rw [if_neg g8]; rfl)
    rw [if_pos g8]
    by_cases g9 : d6 = e6
    case neg => first | (rw [if_neg g9]; done) | (rw [if_neg g9]; rfl)
    rw [if_pos g9]
    by_cases g10 : d7.toList = e7.toList
    case neg => first | (rw [if_neg g10]; done) | (rw [if_neg g10]; rfl)
    rw [if_pos g10]
    by_cases g11 : a6.toList = b6.toList
    case neg => first | (rw [if_neg g11]; done) | (rw [if_neg g11]; rfl)
    rw [if_pos g11]
    by_cases g12 : a7.toList = b7.toList
    case neg => first | (rw [if_neg g12]; done) | (rw [if_neg g12]; rfl)
    rw [if_pos g12]
    by_cases g13 : a8.toList = b8.toList
    case neg => first | (rw [if_neg g13]; done) | (rw [if_neg g13]; rfl)
    rw [if_pos g13]
    exact absurd (by rw [g0, toList_injQ g1, toList_injQ g2, g3, g4, g5, g6, g7, g8, g9, toList_injQ g10, toList_injQ g11, toList_injQ g12, toList_injQ g13]) h
end Go.Proofs.Ytamamlpicookiah
namespace Go.Proofs.Ytamamlpicookiah
open Go.RowKit
set_option linter.unusedVariables false

theorem cwithin_any (n a b : Int) (w : World) :
    Calls Try.prog 43 #[.int .i64 n, .int .i64 a, .int .i64 b] w fun e w' => e = .returned (.bool (inT n a b)) ∧ w' = w := by
  by_cases h1 : a ≤ n
  · by_cases h2 : n ≤ b
    · have HD : Hid (inT n a b = true) := hide (decide_eq_true ⟨h1, h2⟩)
      generalize inT n a b = r at *
      go_enter Try.func43, Try.ntmps43
      go_wp2
      go_ret
      exact ⟨ret_boolQ (unhide HD).symm, rfl⟩
    · have HD : Hid (inT n a b = false) := hide (decide_eq_false (fun h => h2 h.2))
      generalize inT n a b = r at *
      go_enter Try.func43, Try.ntmps43
      go_wp2
      go_ret
      exact ⟨ret_boolQ (unhide HD).symm, rfl⟩
  · have HD : Hid (inT n a b = false) := hide (decide_eq_false (fun h => h1 h.1))
    generalize inT n a b = r at *
    go_enter Try.func43, Try.ntmps43
    go_wp2
    go_ret
    exact ⟨ret_boolQ (unhide HD).symm, rfl⟩
theorem isAmount_any (n : Int) (w : World) :
    Calls Try.prog 42 #[.int .i64 n] w fun e w' => e = .returned (.bool (inT n 0 999999999999)) ∧ w' = w := by
  have N1 := hide (fun w => cwithin_any n 0 999999999999 w)
  generalize inT n 0 999999999999 = b at *
  go_enter Try.func42, Try.ntmps42
  go_wp2_with fail
  refine (unhide N1 _).mono ?_
  rintro e w1 ⟨rfl, rfl⟩
  go_wp2
  go_ret
  exact ⟨rfl, rfl⟩
/-- what is wrong with a deal -/
def dealE (d : XDeal) : Int :=
  bif inT d.amount 0 999999999999 && (inT d.shop 0 4294967295 && inT d.trace 0 4294967295) then bif inT d.day 0 65535 && inT d.bits 0 4095 then if d.nonce.size = 8 then 0 else 1 else 3 else 3
theorem ret_intT {a b : Int} (h : a = b) : Ending.returned (.int .i64 a) = .returned (.int .i64 b) := by rw [h]
set_option maxRecDepth 100000 in
set_option maxHeartbeats 2000000 in
theorem checkDeal_any (d : XDeal) (w : World) :
    Calls Try.prog 27 #[valDeal d] w fun e w' => e = .returned (.int .i64 (dealE d)) ∧ Below w.heap.size w w' := by
  obtain ⟨sh, tr, am, ca, dy, bt, no⟩ := d
  unfold valDeal
  simp only
  obtain ⟨R, hR⟩ : ∃ R, R = dealE ⟨sh, tr, am, ca, dy, bt, no⟩ := ⟨_, rfl⟩
  rw [← hR]
  unfold dealE at hR
  simp only at hR
  have n1 := fun w => isAmount_any am w
  have n2 := fun w => cwithin_any sh 0 4294967295 w
  have n3 := fun w => cwithin_any tr 0 4294967295 w
  have n4 := fun w => cwithin_any dy 0 65535 w
  have n5 := fun w => cwithin_any bt 0 4095 w
  generalize inT am 0 999999999999 = b1 at *
  generalize inT sh 0 4294967295 = b2 at *
  generalize inT tr 0 4294967295 = b3 at *
  generalize inT dy 0 65535 = b4 at *
  generalize inT bt 0 4095 = b5 at *
  have HB := hide ((Below.refl w.heap.size w).alloc (Nat.le_refl _) (.cells #[.int .i64 sh, .int .i64 tr, .int .i64 am, .bool ca, .int .i64 dy, .int .i64 bt, .string no] 23))
  have N1 := hide n1; have N2 := hide n2; have N3 := hide n3; have N4 := hide n4; have N5 := hide n5
  clear n1 n2 n3 n4 n5
  cases b1 with
  | false =>
    obtain rfl : R = 3 := hR
    go_enter Try.func27, Try.ntmps27
    go_wp2_with fail
    refine (unhide N1 _).mono ?_
    rintro e w1 ⟨rfl, rfl⟩
    go_wp2
    go_ret
    exact ⟨rfl, unhide HB⟩
  | true =>
  cases b2 with
  | false =>
    obtain rfl : R = 3 := hR
    go_enter Try.func27, Try.ntmps27
    go_wp2_with fail
    refine (unhide N1 _).mono ?_
    rintro e w1 ⟨rfl, rfl⟩
    go_wp2_with fail
    refine (unhide N2 _).mono ?_
    rintro e w1 ⟨rfl, rfl⟩
    go_wp2
    go_ret
    exact ⟨rfl, unhide HB⟩
  | true =>
  cases b3 with
  | false =>
    obtain rfl : R = 3 := hR
    go_enter Try.func27, Try.ntmps27
    go_wp2_with fail
    refine (unhide N1 _).mono ?_
    rintro e w1 ⟨rfl, rfl⟩
    go_wp2_with fail
    refine (unhide N2 _).mono ?_
    rintro e w1 ⟨rfl, rfl⟩
    go_wp2_with fail
    refine (unhide N3 _).mono ?_
    rintro e w1 ⟨rfl, rfl⟩
    go_wp2
    go_ret
    exact ⟨rfl, unhide HB⟩
  | true =>
  cases b4 with
  | false =>
    obtain rfl : R = 3 := hR
    go_enter Try.func27, Try.ntmps27
    go_wp2_with fail
    refine (unhide N1 _).mono ?_
    rintro e w1 ⟨rfl, rfl⟩
    go_wp2_with fail
    refine (unhide N2 _).mono ?_
    rintro e w1 ⟨rfl, rfl⟩
    go_wp2_with fail
    refine (unhide N3 _).mono ?_
    rintro e w1 ⟨rfl, rfl⟩
    go_wp2_with fail
    refine (unhide N4 _).mono ?_
    rintro e w1 ⟨rfl, rfl⟩
    go_wp2
    go_ret
    exact ⟨rfl, unhide HB⟩
  | true =>
  cases b5 with
  | false =>
    obtain rfl : R = 3 := hR
    go_enter Try.func27, Try.ntmps27
    go_wp2_with fail
    refine (unhide N1 _).mono ?_
    rintro e w1 ⟨rfl, rfl⟩
    go_wp2_with fail
    refine (unhide N2 _).mono ?_
    rintro e w1 ⟨rfl, rfl⟩
    go_wp2_with fail
    refine (unhide N3 _).mono ?_
    rintro e w1 ⟨rfl, rfl⟩
    go_wp2_with fail
    refine (unhide N4 _).mono ?_
    rintro e w1 ⟨rfl, rfl⟩
    go_wp2_with fail
    refine (unhide N5 _).mono ?_
    rintro e w1 ⟨rfl, rfl⟩
    go_wp2
    go_ret
    exact ⟨rfl, unhide HB⟩
  | true =>
    have hR2 : R = if no.size = 8 then 0 else 1 := hR
    by_cases h8 : no.size = 8
    · rw [if_pos h8] at hR2
      subst hR2
      have t8 : ((no.size : Int) != 8) = false := by simp; omega
      clear h8 hR
      go_enter Try.func27, Try.ntmps27
      go_wp2_with fail
      refine (unhide N1 _).mono ?_
      rintro e w1 ⟨rfl, rfl⟩
      go_wp2_with fail
      refine (unhide N2 _).mono ?_
      rintro e w1 ⟨rfl, rfl⟩
      go_wp2_with fail
      refine (unhide N3 _).mono ?_
      rintro e w1 ⟨rfl, rfl⟩
      go_wp2_with fail
      refine (unhide N4 _).mono ?_
      rintro e w1 ⟨rfl, rfl⟩
      go_wp2_with fail
      refine (unhide N5 _).mono ?_
      rintro e w1 ⟨rfl, rfl⟩
      go_wp2
      go_ret
      exact ⟨rfl, unhide HB⟩
    · rw [if_neg h8] at hR2
      subst hR2
      have t8 : ((no.size : Int) != 8) = true := by simp; omega
      clear h8 hR
      go_enter Try.func27, Try.ntmps27
      go_wp2_with fail
      refine (unhide N1 _).mono ?_
      rintro e w1 ⟨rfl, rfl⟩
      go_wp2_with fail
      refine (unhide N2 _).mono ?_
      rintro e w1 ⟨rfl, rfl⟩
      go_wp2_with fail
      refine (unhide N3 _).mono ?_
      rintro e w1 ⟨rfl, rfl⟩
      go_wp2_with fail
      refine (unhide N4 _).mono ?_
      rintro e w1 ⟨rfl, rfl⟩
      go_wp2_with fail
      refine (unhide N5 _).mono ?_
      rintro e w1 ⟨rfl, rfl⟩
      go_wp2
      go_ret
      exact ⟨rfl, unhide HB⟩
end Go.Proofs.Ytamamlpicookiah
namespace Go.Proofs.Ytamamlpicookiah
open Go.RowKit
set_option linter.unusedVariables false

def oneT (n : Int) : ByteArray := strOfNums [lowByte n]
def twoT (n : Int) : ByteArray := strOfNums [lowByte (n / 256), lowByte n]
theorem one_byteT (w : World) (x : Int) :
    (convert 63 9 (.slice (some ⟨w.heap.size, 0, none⟩) 1 1)).run Try.prog (w.alloc (.cells #[.int .u8 x] 5)) = .ok (.string (strOfNums [x])) (w.alloc (.cells #[.int .u8 x] 5)) :=
  one_byteP _ w x rfl
theorem two_bytesT (w : World) (x y : Int) :
    (convert 63 9 (.slice (some ⟨w.heap.size, 0, none⟩) 2 2)).run Try.prog (w.alloc (.cells #[.int .u8 x, .int .u8 y] 5)) = .ok (.string (strOfNums [x, y])) (w.alloc (.cells #[.int .u8 x, .int .u8 y] 5)) :=
  run_convert_bytes_arg (P := Try.prog) _ 63 5 Try.underlying63 Try.underlying5 w.heap.size 0 2 2 [x, y] rfl (fun i hi => by
    have h2 : i = 0 ∨ i = 1 := by omega
    rcases h2 with rfl | rfl <;> simp) 9 Try.underlying9
theorem tone_any (n : Int) (w : World) :
    Calls Try.prog 29 #[.int .i64 n] w fun e w' => e = .returned (.string (oneT n)) ∧ Below w.heap.size w w' := by
  have hcv := one_byteT
  have HB := hide (fun o : Obj => (Below.refl w.heap.size w).alloc (Nat.le_refl _) o)
  go_enter Try.func29, Try.ntmps29
  go_wp2
  go_ret
  exact ⟨rfl, unhide HB _⟩
theorem ttwo_any (n : Int) (w : World) :
    Calls Try.prog 31 #[.int .i64 n] w fun e w' => e = .returned (.string (twoT n)) ∧ Below w.heap.size w w' := by
  have hcv := two_bytesT
  have HB := hide (fun o : Obj => (Below.refl w.heap.size w).alloc (Nat.le_refl _) o)
  go_enter Try.func31, Try.ntmps31
  go_wp2
  go_ret
  exact ⟨rfl, unhide HB _⟩
def flagT (b : Bool) : Int := bif b then 1 else 0
theorem flag_any (b : Bool) (w : World) :
    Calls Try.prog 30 #[.bool b] w fun e w' => e = .returned (.int .i64 (flagT b)) ∧ Below w.heap.size w w' := by
  cases b <;>
  · go_enter Try.func30, Try.ntmps30
    go_wp2
    go_ret
    exact ⟨rfl, Below.refl _ _⟩
theorem cnumber_any (n k : Int) (w : World) (hn : n ≤ 9223372036854775807) :
    Calls Try.prog 28 #[.int .i64 n, .int .i64 k] w fun e w' => e = .returned (.string (numS n k)) ∧ Below w.heap.size w w' := by
  have N1 := hide (fun w => number_all n k w hn)
  generalize numS n k = s at *
  generalize numE n k = ne at *
  go_enter Try.func28, Try.ntmps28
  go_wp2_with fail
  refine (unhide N1 _).mono ?_
  rintro e w1 ⟨rfl, hb1⟩
  go_wp2
  go_ret
  exact ⟨rfl, hb1⟩
/-- how a deal is written -/
def dealT (d : XDeal) : ByteArray := numS d.shop 4 ++ numS d.trace 4 ++ numS d.amount 8 ++ oneT (flagT d.cash) ++ twoT d.day ++ twoT d.bits ++ d.nonce
def dealS (d : XDeal) : ByteArray := if dealE d = 0 then dealT d else ⟨#[]⟩
theorem oneT_size (n : Int) : (oneT n).size = 1 := by rw [oneT, strOfNums_size]; rfl
theorem twoT_size (n : Int) : (twoT n).size = 2 := by rw [twoT, strOfNums_size]; rfl
theorem deal_in {d : XDeal} (h : dealE d = 0) : (0 ≤ d.amount ∧ d.amount ≤ 999999999999) ∧ (0 ≤ d.shop ∧ d.shop ≤ 4294967295) ∧ (0 ≤ d.trace ∧ d.trace ≤ 4294967295) ∧ (0 ≤ d.day ∧ d.day ≤ 65535) ∧ (0 ≤ d.bits ∧ d.bits ≤ 4095) ∧ d.nonce.size = 8 := by
  unfold dealE at h
  cases h1 : inT d.amount 0 999999999999 with
  | false => rw [h1] at h; cases h
  | true =>
  cases h2 : inT d.shop 0 4294967295 with
  | false => rw [h1, h2] at h; cases h
  | true =>
  cases h3 : inT d.trace 0 4294967295 with
  | false => rw [h1, h2, h3] at h; cases h
  | true =>
  cases h4 : inT d.day 0 65535 with
  | false => rw [h1, h2, h3, h4] at h; cases h
  | true =>
  cases h5 : inT d.bits 0 4095 with
  | false => rw [h1, h2, h3, h4, h5] at h; cases h
  | true =>
    rw [h1, h2, h3, h4, h5] at h
    by_cases h8 : d.nonce.size = 8
    · exact ⟨inT_true.1 h1, inT_true.1 h2, inT_true.1 h3, inT_true.1 h4, inT_true.1 h5, h8⟩
    · have h' : (if d.nonce.size = 8 then (0 : Int) else 1) = 0 := h
      rw [if_neg h8] at h'; cases h'
set_option maxRecDepth 100000 in
set_option maxHeartbeats 4000000 in
theorem dealText_any (d : XDeal) (w : World) (hok : okDeal w d) :
    Calls Try.prog 12 #[valDeal d] w fun e w' => e = .returned (.tuple #[.string (dealS d), .int .i64 (dealE d)]) ∧ Below w.heap.size w w' := by
  have n1 := fun w => checkDeal_any d w
  by_cases he : dealE d = 0
  case neg =>
    have HS : Hid (dealS d = ⟨#[]⟩) := hide (by rw [dealS, if_neg he])
    have t1 : (dealE d != 0) = true := by simpa using he
    generalize dealE d = de at *
    generalize dealS d = ds at *
    obtain ⟨sh, tr, am, ca, dy, bt, no⟩ := d
    unfold valDeal at *
    simp only at n1 ⊢
    have HB := hide ((Below.refl w.heap.size w).alloc (Nat.le_refl _) (.cells #[.int .i64 sh, .int .i64 tr, .int .i64 am, .bool ca, .int .i64 dy, .int .i64 bt, .string no] 23))
    have N1 := hide n1
    clear n1 he hok
    go_enter Try.func12, Try.ntmps12
    go_wp2_with fail
    refine (unhide N1 _).mono ?_
    rintro e w1 ⟨rfl, hb1⟩
    have HB1 := hide ((unhide HB).trans (hb1.mono (by simp)))
    clear hb1
    go_wp2
    go_ret2
    exact ⟨ret_pairQ (unhide HS).symm rfl, unhide HB1⟩
  have HS : Hid (dealS d = dealT d) := hide (by rw [dealS, if_pos he])
  obtain ⟨k1, k2, k3, k4, k5, k6⟩ := deal_in he
  rw [he] at n1 ⊢
  have HT : Hid (dealT d = numS d.shop 4 ++ numS d.trace 4 ++ numS d.amount 8 ++ oneT (flagT d.cash) ++ twoT d.day ++ twoT d.bits ++ d.nonce) := hide rfl
  generalize dealT d = dt at *
  generalize dealS d = ds at *
  obtain ⟨sh, tr, am, ca, dy, bt, no⟩ := d
  unfold valDeal at *
  simp only at *
  have n2 := fun w => cnumber_any sh 4 w (by omega)
  have n3 := fun w => cnumber_any tr 4 w (by omega)
  have n4 := fun w => cnumber_any am 8 w (by omega)
  have n5 := fun w => flag_any ca w
  have n6 := fun w => tone_any (flagT ca) w
  have n7 := fun w => ttwo_any dy w
  have n8 := fun w => ttwo_any bt w
  have z2 := numS_size sh 4; have z3 := numS_size tr 4; have z4 := numS_size am 8
  have z6 := oneT_size (flagT ca); have z7 := twoT_size dy; have z8 := twoT_size bt
  generalize numS sh 4 = a2 at *
  generalize numS tr 4 = a3 at *
  generalize numS am 8 = a4 at *
  generalize oneT (flagT ca) = a6 at *
  generalize flagT ca = fl at *
  generalize twoT dy = a7 at *
  generalize twoT bt = a8 at *
  have ha1 := fun w' => run_string_add_sum (P := Try.prog) w' a2 a3 (by omega)
  have ha2 := fun w' => run_string_add_sum (P := Try.prog) w' (a2 ++ a3) a4 (by simp only [ByteArray.size_append]; omega)
  have ha3 := fun w' => run_string_add_sum (P := Try.prog) w' (a2 ++ a3 ++ a4) a6 (by simp only [ByteArray.size_append]; omega)
  have ha4 := fun w' => run_string_add_sum (P := Try.prog) w' (a2 ++ a3 ++ a4 ++ a6) a7 (by simp only [ByteArray.size_append]; omega)
  have ha5 := fun w' => run_string_add_sum (P := Try.prog) w' (a2 ++ a3 ++ a4 ++ a6 ++ a7) a8 (by simp only [ByteArray.size_append]; omega)
  have ha6 := fun w' => run_string_add_sum (P := Try.prog) w' (a2 ++ a3 ++ a4 ++ a6 ++ a7 ++ a8) no (by simp only [ByteArray.size_append]; omega)
  have HB := hide ((Below.refl w.heap.size w).alloc (Nat.le_refl _) (.cells #[.int .i64 sh, .int .i64 tr, .int .i64 am, .bool ca, .int .i64 dy, .int .i64 bt, .string no] 23))
  have HBK := hide (heap_alloc_new w (.cells #[.int .i64 sh, .int .i64 tr, .int .i64 am, .bool ca, .int .i64 dy, .int .i64 bt, .string no] 23))
  have N1 := hide n1; have N2 := hide n2; have N3 := hide n3; have N4 := hide n4; have N5 := hide n5; have N6 := hide n6; have N7 := hide n7; have N8 := hide n8
  clear n1 n2 n3 n4 n5 n6 n7 n8 he k1 k2 k3 k4 k5 k6 z2 z3 z4 z6 z7 z8 hok
  go_enter Try.func12, Try.ntmps12
  go_wp2_with fail
  refine (unhide N1 _).mono ?_
  rintro e wa ⟨rfl, hb1⟩
  have hk := (hb1.block _ (block_ltQ (unhide HBK))).trans (unhide HBK)
  have HB1 := hide ((unhide HB).trans (hb1.mono (by simp)))
  have C : ∀ (w2 : World) (j : Nat), Below wa.heap.size wa w2 → w2.cell? ⟨w.heap.size, j, none⟩ = (#[.int .i64 sh, .int .i64 tr, .int .i64 am, .bool ca, .int .i64 dy, .int .i64 bt, .string no] : Array Value)[j]? := fun w2 j hb => by
    rw [cell_of_row _ _ j _ _ _ ((hb.block _ (block_ltQ hk)).trans hk)]
  have C0 := hide (fun (w2 : World) (hb : Below wa.heap.size wa w2) => (C w2 0 hb : w2.cell? ⟨w.heap.size, 0, none⟩ = some (.int .i64 sh)))
  have C1 := hide (fun (w2 : World) (hb : Below wa.heap.size wa w2) => (C w2 1 hb : w2.cell? ⟨w.heap.size, 1, none⟩ = some (.int .i64 tr)))
  have C2 := hide (fun (w2 : World) (hb : Below wa.heap.size wa w2) => (C w2 2 hb : w2.cell? ⟨w.heap.size, 2, none⟩ = some (.int .i64 am)))
  have C3 := hide (fun (w2 : World) (hb : Below wa.heap.size wa w2) => (C w2 3 hb : w2.cell? ⟨w.heap.size, 3, none⟩ = some (.bool ca)))
  have C4 := hide (fun (w2 : World) (hb : Below wa.heap.size wa w2) => (C w2 4 hb : w2.cell? ⟨w.heap.size, 4, none⟩ = some (.int .i64 dy)))
  have C5 := hide (fun (w2 : World) (hb : Below wa.heap.size wa w2) => (C w2 5 hb : w2.cell? ⟨w.heap.size, 5, none⟩ = some (.int .i64 bt)))
  have C6 := hide (fun (w2 : World) (hb : Below wa.heap.size wa w2) => (C w2 6 hb : w2.cell? ⟨w.heap.size, 6, none⟩ = some (.string no)))
  clear hb1 hk C HB HBK
  go_wp2_with fail
  refine wp_region_below wa (Below.refl _ _) (by kernel_rfl) (by kernel_rfl) ?_
  repeat (
    refine Quietly.step (fun K hK => ?_)
    go_simp
    first
      | (refine hK _ ?_; clear hK K)
      | (apply Exists.intro
         refine ⟨fun w1 hw1 => ?_, hK _ ?_⟩
         (first | rfl | (rw [unhide C0 w1 hw1]; exact ⟨rfl, rfl⟩) | (rw [unhide C1 w1 hw1]; exact ⟨rfl, rfl⟩) | (rw [unhide C2 w1 hw1]; exact ⟨rfl, rfl⟩) | (rw [unhide C3 w1 hw1]; exact ⟨rfl, rfl⟩) | (rw [unhide C4 w1 hw1]; exact ⟨rfl, rfl⟩) | (rw [unhide C5 w1 hw1]; exact ⟨rfl, rfl⟩) | (rw [unhide C6 w1 hw1]; exact ⟨rfl, rfl⟩) | (go_at_call_of 28 (Value.int .i64 sh); exact calls_below hw1 (unhide N2 _)) | (go_at_call_of 28 (Value.int .i64 tr); exact calls_below hw1 (unhide N3 _)) | (go_at_call_of 28 (Value.int .i64 am); exact calls_below hw1 (unhide N4 _)) | (go_at_call 30; exact calls_below hw1 (unhide N5 _)) | (go_at_call 29; exact calls_below hw1 (unhide N6 _)) | (go_at_call_of 31 (Value.int .i64 dy); exact calls_below hw1 (unhide N7 _)) | (go_at_call_of 31 (Value.int .i64 bt); exact calls_below hw1 (unhide N8 _)))
         clear hK K))
  refine Quietly.nil ?_
  intro w2 hw2
  go_wp2
  go_ret2
  exact ⟨ret_pairQ (by rw [unhide HS, unhide HT]) rfl, (unhide HB1).trans (hw2.mono (unhide HB1).size)⟩
end Go.Proofs.Ytamamlpicookiah
