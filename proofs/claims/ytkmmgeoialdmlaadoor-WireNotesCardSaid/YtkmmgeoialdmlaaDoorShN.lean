/- Notes that are handed in, opened. -/
import Derived.Test.YtkmmgeoialdmlaaDoorSh0
import Derived.Test.YtkmmgeoialdmlaaDoorRows
namespace Go.Proofs.YtkmmgeoialdmlaaDoor
open Go.ChangeShapes Go.WideShapes Go.ChangeAt Go.RowKit Go.Deep
set_option linter.unusedVariables false
set_option maxRecDepth 100000

structure XDeal where
  shop : Int
  trace : Int
  amount : Int
  cash : Bool
  day : Int
  bits : Int
  nonce : ByteArray
deriving Inhabited
def valDeal (x : XDeal) : Value := .agg #[.int .i64 x.shop, .int .i64 x.trace, .int .i64 x.amount, .bool x.cash, .int .i64 x.day, .int .i64 x.bits, .string x.nonce]
def okDeal (W : World) (x : XDeal) : Prop := (-9223372036854775808 ≤ x.shop ∧ x.shop ≤ 9223372036854775807) ∧ (-9223372036854775808 ≤ x.trace ∧ x.trace ≤ 9223372036854775807) ∧ (-9223372036854775808 ≤ x.amount ∧ x.amount ≤ 9223372036854775807) ∧ (-9223372036854775808 ≤ x.day ∧ x.day ≤ 9223372036854775807) ∧ (-9223372036854775808 ≤ x.bits ∧ x.bits ≤ 9223372036854775807) ∧ x.nonce.size ≤ maxLen
theorem cellsOfDeal : Tryd.prog.cellsOf 33 = 7 := by kernel_rfl
theorem okDeal.below {W W' : World} {x : XDeal} (h : okDeal W x) (hb : Below W.heap.size W W') : okDeal W' x := by
  obtain ⟨h0, h1, h2, h3, h4, h5⟩ := h
  exact ⟨h0, h1, h2, h3, h4, h5⟩
theorem opencDeal {H : Type} {enc : TypeId × Value → H} {W : World} {k : Nat} {cs : List Value} {y : DataW H × List MemPlace}
    (h : DataW.trod enc Tryd.prog W 0 (fun _ => true) true k 33 cs = some y) :
    ∃ x : XDeal, cs = [.int .i64 x.shop, .int .i64 x.trace, .int .i64 x.amount, .bool x.cash, .int .i64 x.day, .int .i64 x.bits, .string x.nonce] ∧ okDeal W x := by
  obtain ⟨xs, k', _, _, hsz, hlen, hq⟩ := DataW.trod_struct Tryd.underlying33 h
  rw [cellsOfDeal] at hsz
  match cs, hsz with
  | [c0, c1, c2, c3, c4, c5, c6], _ =>
    match xs, hlen with
    | [y0, y1, y2, y3, y4, y5, y6], _ =>
      have h0 : DataW.trod enc Tryd.prog W 0 (fun _ => true) true k' 3 [c0] = some y0 := by simpa [cellsOfBool, cellsOfInt, cellsOfString] using hq 0 _ rfl
      obtain ⟨z0, e0, g0, w0⟩ := DataW.trod_int Tryd.underlying3 h0
      have h1 : DataW.trod enc Tryd.prog W 0 (fun _ => true) true k' 3 [c1] = some y1 := by simpa [cellsOfBool, cellsOfInt, cellsOfString] using hq 1 _ rfl
      obtain ⟨z1, e1, g1, w1⟩ := DataW.trod_int Tryd.underlying3 h1
      have h2 : DataW.trod enc Tryd.prog W 0 (fun _ => true) true k' 3 [c2] = some y2 := by simpa [cellsOfBool, cellsOfInt, cellsOfString] using hq 2 _ rfl
      obtain ⟨z2, e2, g2, w2⟩ := DataW.trod_int Tryd.underlying3 h2
      have h3 : DataW.trod enc Tryd.prog W 0 (fun _ => true) true k' 4 [c3] = some y3 := by simpa [cellsOfBool, cellsOfInt, cellsOfString] using hq 3 _ rfl
      obtain ⟨z3, e3, g3⟩ := DataW.trod_bool Tryd.underlying4 h3
      have h4 : DataW.trod enc Tryd.prog W 0 (fun _ => true) true k' 3 [c4] = some y4 := by simpa [cellsOfBool, cellsOfInt, cellsOfString] using hq 4 _ rfl
      obtain ⟨z4, e4, g4, w4⟩ := DataW.trod_int Tryd.underlying3 h4
      have h5 : DataW.trod enc Tryd.prog W 0 (fun _ => true) true k' 3 [c5] = some y5 := by simpa [cellsOfBool, cellsOfInt, cellsOfString] using hq 5 _ rfl
      obtain ⟨z5, e5, g5, w5⟩ := DataW.trod_int Tryd.underlying3 h5
      have h6 : DataW.trod enc Tryd.prog W 0 (fun _ => true) true k' 9 [c6] = some y6 := by simpa [cellsOfBool, cellsOfInt, cellsOfString] using hq 6 _ rfl
      obtain ⟨z6, e6, g6, w6⟩ := DataW.trod_string Tryd.underlying9 h6
      simp at e0 e1 e2 e3 e4 e5 e6
      subst e0
      subst e1
      subst e2
      subst e3
      subst e4
      subst e5
      subst e6
      exact ⟨⟨z0, z1, z2, z3, z4, z5, z6⟩, rfl, ⟨bounds_i64 w0, bounds_i64 w1, bounds_i64 w2, bounds_i64 w4, bounds_i64 w5, w6⟩⟩
theorem openDeal {H : Type} {enc : TypeId × Value → H} {W : World} {b0 : Nat} {r : Reach} {v : Value} {d : DataW H} {p : List MemPlace}
    (hv : Value.okWide Tryd.prog W r b0 33 v) (h : DataW.Trod enc Tryd.prog W 0 (fun _ => true) true 33 v d p) : ∃ x : XDeal, v = valDeal x ∧ okDeal W x := by
  obtain ⟨cs, rfl, hsz⟩ := okWide_struct Tryd.underlying33 hv
  obtain ⟨fuel, hf⟩ := h
  obtain ⟨x, hx, ho⟩ := opencDeal hf
  obtain ⟨l⟩ := cs
  simp only [Value.cells] at hx
  subst hx
  exact ⟨x, rfl, ho⟩
structure XNote where
  kind : Int
  count : Int
  reply : Int
  code : Int
  iD : ByteArray
  extra : ByteArray
  sealT : ByteArray
  answer : ByteArray
  orders : ByteArray
  digits : ByteArray
  deal : XDeal
deriving Inhabited
def valNote (x : XNote) : Value := .agg #[.int .i64 x.kind, .int .i64 x.count, .int .i64 x.reply, .int .i64 x.code, .string x.iD, .string x.extra, .string x.sealT, .string x.answer, .string x.orders, .string x.digits, .int .i64 x.deal.shop, .int .i64 x.deal.trace, .int .i64 x.deal.amount, .bool x.deal.cash, .int .i64 x.deal.day, .int .i64 x.deal.bits, .string x.deal.nonce]
def okNote (W : World) (x : XNote) : Prop := (-9223372036854775808 ≤ x.kind ∧ x.kind ≤ 9223372036854775807) ∧ (-9223372036854775808 ≤ x.count ∧ x.count ≤ 9223372036854775807) ∧ (-9223372036854775808 ≤ x.reply ∧ x.reply ≤ 9223372036854775807) ∧ (-9223372036854775808 ≤ x.code ∧ x.code ≤ 9223372036854775807) ∧ x.iD.size ≤ maxLen ∧ x.extra.size ≤ maxLen ∧ x.sealT.size ≤ maxLen ∧ x.answer.size ≤ maxLen ∧ x.orders.size ≤ maxLen ∧ x.digits.size ≤ maxLen ∧ okDeal W x.deal
theorem cellsOfNote : Tryd.prog.cellsOf 35 = 17 := by kernel_rfl
theorem okNote.below {W W' : World} {x : XNote} (h : okNote W x) (hb : Below W.heap.size W W') : okNote W' x := by
  obtain ⟨h0, h1, h2, h3, h4, h5, h6, h7, h8, h9, h10⟩ := h
  exact ⟨h0, h1, h2, h3, h4, h5, h6, h7, h8, h9, h10.below hb⟩
theorem opencNote {H : Type} {enc : TypeId × Value → H} {W : World} {k : Nat} {cs : List Value} {y : DataW H × List MemPlace}
    (h : DataW.trod enc Tryd.prog W 0 (fun _ => true) true k 35 cs = some y) :
    ∃ x : XNote, cs = [.int .i64 x.kind, .int .i64 x.count, .int .i64 x.reply, .int .i64 x.code, .string x.iD, .string x.extra, .string x.sealT, .string x.answer, .string x.orders, .string x.digits, .int .i64 x.deal.shop, .int .i64 x.deal.trace, .int .i64 x.deal.amount, .bool x.deal.cash, .int .i64 x.deal.day, .int .i64 x.deal.bits, .string x.deal.nonce] ∧ okNote W x := by
  obtain ⟨xs, k', _, _, hsz, hlen, hq⟩ := DataW.trod_struct Tryd.underlying35 h
  rw [cellsOfNote] at hsz
  match cs, hsz with
  | [c0, c1, c2, c3, c4, c5, c6, c7, c8, c9, c10, c11, c12, c13, c14, c15, c16], _ =>
    match xs, hlen with
    | [y0, y1, y2, y3, y4, y5, y6, y7, y8, y9, y10], _ =>
      have h0 : DataW.trod enc Tryd.prog W 0 (fun _ => true) true k' 3 [c0] = some y0 := by simpa [cellsOfBool, cellsOfDeal, cellsOfInt, cellsOfString] using hq 0 _ rfl
      obtain ⟨z0, e0, g0, w0⟩ := DataW.trod_int Tryd.underlying3 h0
      have h1 : DataW.trod enc Tryd.prog W 0 (fun _ => true) true k' 3 [c1] = some y1 := by simpa [cellsOfBool, cellsOfDeal, cellsOfInt, cellsOfString] using hq 1 _ rfl
      obtain ⟨z1, e1, g1, w1⟩ := DataW.trod_int Tryd.underlying3 h1
      have h2 : DataW.trod enc Tryd.prog W 0 (fun _ => true) true k' 3 [c2] = some y2 := by simpa [cellsOfBool, cellsOfDeal, cellsOfInt, cellsOfString] using hq 2 _ rfl
      obtain ⟨z2, e2, g2, w2⟩ := DataW.trod_int Tryd.underlying3 h2
      have h3 : DataW.trod enc Tryd.prog W 0 (fun _ => true) true k' 3 [c3] = some y3 := by simpa [cellsOfBool, cellsOfDeal, cellsOfInt, cellsOfString] using hq 3 _ rfl
      obtain ⟨z3, e3, g3, w3⟩ := DataW.trod_int Tryd.underlying3 h3
      have h4 : DataW.trod enc Tryd.prog W 0 (fun _ => true) true k' 9 [c4] = some y4 := by simpa [cellsOfBool, cellsOfDeal, cellsOfInt, cellsOfString] using hq 4 _ rfl
      obtain ⟨z4, e4, g4, w4⟩ := DataW.trod_string Tryd.underlying9 h4
      have h5 : DataW.trod enc Tryd.prog W 0 (fun _ => true) true k' 9 [c5] = some y5 := by simpa [cellsOfBool, cellsOfDeal, cellsOfInt, cellsOfString] using hq 5 _ rfl
      obtain ⟨z5, e5, g5, w5⟩ := DataW.trod_string Tryd.underlying9 h5
      have h6 : DataW.trod enc Tryd.prog W 0 (fun _ => true) true k' 9 [c6] = some y6 := by simpa [cellsOfBool, cellsOfDeal, cellsOfInt, cellsOfString] using hq 6 _ rfl
      obtain ⟨z6, e6, g6, w6⟩ := DataW.trod_string Tryd.underlying9 h6
      have h7 : DataW.trod enc Tryd.prog W 0 (fun _ => true) true k' 9 [c7] = some y7 := by simpa [cellsOfBool, cellsOfDeal, cellsOfInt, cellsOfString] using hq 7 _ rfl
      obtain ⟨z7, e7, g7, w7⟩ := DataW.trod_string Tryd.underlying9 h7
      have h8 : DataW.trod enc Tryd.prog W 0 (fun _ => true) true k' 9 [c8] = some y8 := by simpa [cellsOfBool, cellsOfDeal, cellsOfInt, cellsOfString] using hq 8 _ rfl
      obtain ⟨z8, e8, g8, w8⟩ := DataW.trod_string Tryd.underlying9 h8
      have h9 : DataW.trod enc Tryd.prog W 0 (fun _ => true) true k' 9 [c9] = some y9 := by simpa [cellsOfBool, cellsOfDeal, cellsOfInt, cellsOfString] using hq 9 _ rfl
      obtain ⟨z9, e9, g9, w9⟩ := DataW.trod_string Tryd.underlying9 h9
      have h10 : DataW.trod enc Tryd.prog W 0 (fun _ => true) true k' 33 [c10, c11, c12, c13, c14, c15, c16] = some y10 := by simpa [cellsOfBool, cellsOfDeal, cellsOfInt, cellsOfString] using hq 10 _ rfl
      obtain ⟨z10, e10, w10⟩ := opencDeal h10
      simp at e0 e1 e2 e3 e4 e5 e6 e7 e8 e9 e10
      subst e0
      subst e1
      subst e2
      subst e3
      subst e4
      subst e5
      subst e6
      subst e7
      subst e8
      subst e9
      obtain ⟨rfl, rfl, rfl, rfl, rfl, rfl, rfl⟩ := e10
      exact ⟨⟨z0, z1, z2, z3, z4, z5, z6, z7, z8, z9, z10⟩, rfl, ⟨bounds_i64 w0, bounds_i64 w1, bounds_i64 w2, bounds_i64 w3, w4, w5, w6, w7, w8, w9, w10⟩⟩
theorem openNote {H : Type} {enc : TypeId × Value → H} {W : World} {b0 : Nat} {r : Reach} {v : Value} {d : DataW H} {p : List MemPlace}
    (hv : Value.okWide Tryd.prog W r b0 35 v) (h : DataW.Trod enc Tryd.prog W 0 (fun _ => true) true 35 v d p) : ∃ x : XNote, v = valNote x ∧ okNote W x := by
  obtain ⟨cs, rfl, hsz⟩ := okWide_struct Tryd.underlying35 hv
  obtain ⟨fuel, hf⟩ := h
  obtain ⟨x, hx, ho⟩ := opencNote hf
  obtain ⟨l⟩ := cs
  simp only [Value.cells] at hx
  subst hx
  exact ⟨x, rfl, ho⟩
end Go.Proofs.YtkmmgeoialdmlaaDoor
