/- A card's plan that is handed in, opened. -/
import Derived.Test.YtolicaaifhfhcaaM00
import Derived.Test.YtolicaaifhfhcaaM04
import Derived.Deep.QuietTactic
import Derived.BigQuiet
import Derived.WalkSmall
import Derived.Test.YtolicaaifhfhcaaM02
namespace Go.Proofs.Ytolicaaifhfhcaa
open Go.ChangeShapes Go.WideShapes Go.ChangeAt Go.RowKit Go.Deep
set_option linter.unusedVariables false
set_option linter.unusedSimpArgs false
set_option maxRecDepth 100000

theorem bulk_posC {H : Type} (d : DataW H) : 1 ≤ Rows.uptoBulk d := by
  cases d with
  | lit x => cases x <;> simp [Rows.uptoBulk]
  | _ => simp [Rows.uptoBulk]
theorem bulkAll_length {H : Type} {es : List (DataW H)} : es.length ≤ Rows.uptoBulkAll es := by
  induction es with
  | nil => simp
  | cons d r ih =>
    have := bulk_posC d
    simp only [Rows.uptoBulkAll, List.length_cons]
    omega
structure XSecret where
  p : ByteArray
  q : ByteArray
deriving Inhabited
def valSecret (x : XSecret) : Value := .agg #[.string x.p, .string x.q]
def okSecret (W : World) (x : XSecret) : Prop := x.p.size ≤ maxLen ∧ x.q.size ≤ maxLen
theorem cellsOfSecret : Try.prog.cellsOf 23 = 2 := by kernel_rfl
theorem okSecret.below {W W' : World} {x : XSecret} (h : okSecret W x) (hb : Below W.heap.size W W') : okSecret W' x := by
  obtain ⟨h0, h1⟩ := h
  exact ⟨h0, h1⟩
theorem opencSecret {H : Type} {enc : TypeId × Value → H} {W : World} {k : Nat} {cs : List Value} {y : DataW H × List MemPlace}
    (h : DataW.trod enc Try.prog W 0 (fun _ => true) true k 23 cs = some y) :
    ∃ x : XSecret, cs = [.string x.p, .string x.q] ∧ okSecret W x := by
  obtain ⟨xs, k', _, _, hsz, hlen, hq⟩ := DataW.trod_struct Try.underlying23 h
  rw [cellsOfSecret] at hsz
  match cs, hsz with
  | [c0, c1], _ =>
    match xs, hlen with
    | [y0, y1], _ =>
      have h0 : DataW.trod enc Try.prog W 0 (fun _ => true) true k' 9 [c0] = some y0 := by simpa [cellsOfBool, cellsOfInt, cellsOfString] using hq 0 _ rfl
      obtain ⟨z0, e0, g0, w0⟩ := DataW.trod_string Try.underlying9 h0
      have h1 : DataW.trod enc Try.prog W 0 (fun _ => true) true k' 9 [c1] = some y1 := by simpa [cellsOfBool, cellsOfInt, cellsOfString] using hq 1 _ rfl
      obtain ⟨z1, e1, g1, w1⟩ := DataW.trod_string Try.underlying9 h1
      simp at e0 e1
      subst e0
      subst e1
      exact ⟨⟨z0, z1⟩, rfl, ⟨w0, w1⟩⟩
theorem openSecret {H : Type} {enc : TypeId × Value → H} {W : World} {b0 : Nat} {r : Reach} {v : Value} {d : DataW H} {p : List MemPlace}
    (hv : Value.okWide Try.prog W r b0 23 v) (h : DataW.Trod enc Try.prog W 0 (fun _ => true) true 23 v d p) : ∃ x : XSecret, v = valSecret x ∧ okSecret W x := by
  obtain ⟨cs, rfl, hsz⟩ := okWide_struct Try.underlying23 hv
  obtain ⟨fuel, hf⟩ := h
  obtain ⟨x, hx, ho⟩ := opencSecret hf
  obtain ⟨l⟩ := cs
  simp only [Value.cells] at hx
  subst hx
  exact ⟨x, rfl, ho⟩
def bulkSecret (x : XSecret) : Nat := x.p.size + x.q.size
theorem opencbSecret {H : Type} {enc : TypeId × Value → H} {W : World} {k : Nat} {cs : List Value} {y : DataW H × List MemPlace}
    (h : DataW.trod enc Try.prog W 0 (fun _ => true) true k 23 cs = some y) :
    ∃ x : XSecret, cs = [.string x.p, .string x.q] ∧ okSecret W x ∧ bulkSecret x ≤ Rows.uptoBulk y.1 := by
  obtain ⟨xs, k', _, hagg, hsz, hlen, hq⟩ := DataW.trod_struct Try.underlying23 h
  rw [cellsOfSecret] at hsz
  match cs, hsz with
  | [c0, c1], _ =>
    match xs, hlen, hagg with
    | [y0, y1], _, hagg =>
      have hbk := congrArg Rows.uptoBulk (Prod.ext_iff.1 hagg).1
      have h0 : DataW.trod enc Try.prog W 0 (fun _ => true) true k' 9 [c0] = some y0 := by simpa [cellsOfBool, cellsOfInt, cellsOfString] using hq 0 _ rfl
      obtain ⟨z0, e0, g0, w0⟩ := DataW.trod_string Try.underlying9 h0
      have l0 : z0.data.toList.length = z0.size := by simp
      subst g0
      have h1 : DataW.trod enc Try.prog W 0 (fun _ => true) true k' 9 [c1] = some y1 := by simpa [cellsOfBool, cellsOfInt, cellsOfString] using hq 1 _ rfl
      obtain ⟨z1, e1, g1, w1⟩ := DataW.trod_string Try.underlying9 h1
      have l1 : z1.data.toList.length = z1.size := by simp
      subst g1
      simp at e0 e1
      subst e0
      subst e1
      refine ⟨⟨z0, z1⟩, rfl, ⟨w0, w1⟩, ?_⟩
      simp only [List.map_cons, List.map_nil, Rows.uptoBulk, Rows.uptoBulkAll] at hbk
      rw [hbk]
      unfold bulkSecret
      dsimp only
      omega
theorem openbSecret {H : Type} {enc : TypeId × Value → H} {W : World} {b0 : Nat} {r : Reach} {v : Value} {d : DataW H} {p : List MemPlace}
    (hv : Value.okWide Try.prog W r b0 23 v) (h : DataW.Trod enc Try.prog W 0 (fun _ => true) true 23 v d p) : ∃ x : XSecret, v = valSecret x ∧ okSecret W x ∧ bulkSecret x ≤ Rows.uptoBulk d := by
  obtain ⟨cs, rfl, hsz⟩ := okWide_struct Try.underlying23 hv
  obtain ⟨fuel, hf⟩ := h
  obtain ⟨x, hx, ho, hb⟩ := opencbSecret hf
  obtain ⟨l⟩ := cs
  simp only [Value.cells] at hx
  subst hx
  exact ⟨x, rfl, ho, hb⟩
structure XField where
  tag : Int
  len : Int
deriving Inhabited
def valField (x : XField) : Value := .agg #[.int .i64 x.tag, .int .i64 x.len]
def okField (W : World) (x : XField) : Prop := (-9223372036854775808 ≤ x.tag ∧ x.tag ≤ 9223372036854775807) ∧ (-9223372036854775808 ≤ x.len ∧ x.len ≤ 9223372036854775807)
theorem cellsOfField : Try.prog.cellsOf 59 = 2 := by kernel_rfl
theorem okField.below {W W' : World} {x : XField} (h : okField W x) (hb : Below W.heap.size W W') : okField W' x := by
  obtain ⟨h0, h1⟩ := h
  exact ⟨h0, h1⟩
theorem opencField {H : Type} {enc : TypeId × Value → H} {W : World} {k : Nat} {cs : List Value} {y : DataW H × List MemPlace}
    (h : DataW.trod enc Try.prog W 0 (fun _ => true) true k 59 cs = some y) :
    ∃ x : XField, cs = [.int .i64 x.tag, .int .i64 x.len] ∧ okField W x := by
  obtain ⟨xs, k', _, _, hsz, hlen, hq⟩ := DataW.trod_struct Try.underlying59 h
  rw [cellsOfField] at hsz
  match cs, hsz with
  | [c0, c1], _ =>
    match xs, hlen with
    | [y0, y1], _ =>
      have h0 : DataW.trod enc Try.prog W 0 (fun _ => true) true k' 3 [c0] = some y0 := by simpa [cellsOfBool, cellsOfInt, cellsOfString] using hq 0 _ rfl
      obtain ⟨z0, e0, g0, w0⟩ := DataW.trod_int Try.underlying3 h0
      have h1 : DataW.trod enc Try.prog W 0 (fun _ => true) true k' 3 [c1] = some y1 := by simpa [cellsOfBool, cellsOfInt, cellsOfString] using hq 1 _ rfl
      obtain ⟨z1, e1, g1, w1⟩ := DataW.trod_int Try.underlying3 h1
      simp at e0 e1
      subst e0
      subst e1
      exact ⟨⟨z0, z1⟩, rfl, ⟨bounds_i64 w0, bounds_i64 w1⟩⟩
theorem openField {H : Type} {enc : TypeId × Value → H} {W : World} {b0 : Nat} {r : Reach} {v : Value} {d : DataW H} {p : List MemPlace}
    (hv : Value.okWide Try.prog W r b0 59 v) (h : DataW.Trod enc Try.prog W 0 (fun _ => true) true 59 v d p) : ∃ x : XField, v = valField x ∧ okField W x := by
  obtain ⟨cs, rfl, hsz⟩ := okWide_struct Try.underlying59 hv
  obtain ⟨fuel, hf⟩ := h
  obtain ⟨x, hx, ho⟩ := opencField hf
  obtain ⟨l⟩ := cs
  simp only [Value.cells] at hx
  subst hx
  exact ⟨x, rfl, ho⟩
def RowField (W : World) (ao : Option Addr) (l : List XField) : Prop :=
  (l = [] ∨ ∃ b off, ao = some ⟨b, off, none⟩ ∧ b < W.heap.size ∧ ∀ i x, l[i]? = some x → W.cell? ⟨b, off + i * 2, none⟩ = some (.int .i64 x.tag) ∧ W.cell? ⟨b, off + i * 2 + 1, none⟩ = some (.int .i64 x.len)) ∧ (∀ x ∈ l, okField W x) ∧ l.length ≤ maxLen
theorem RowField.below {W W' : World} {ao : Option Addr} {l : List XField} (h : RowField W ao l) (hb : Below W.heap.size W W') : RowField W' ao l := by
  obtain ⟨h, ho, hm⟩ := h
  refine ⟨?_, fun x hx => (ho x hx).below hb, hm⟩
  rcases h with h | ⟨b, off, e, hlt, hc⟩
  · exact .inl h
  · refine .inr ⟨b, off, e, Nat.lt_of_lt_of_le hlt hb.size, fun i s hi => ?_⟩
    obtain ⟨c0, c1⟩ := hc i s hi
    exact ⟨(hb.cell (p := ⟨b, off + i * 2, none⟩) hlt).trans c0, (hb.cell (p := ⟨b, off + i * 2 + 1, none⟩) hlt).trans c1⟩
theorem cellsOfSlField : Try.prog.cellsOf 24 = 1 := by kernel_rfl
theorem openrField {H : Type} {enc : TypeId × Value → H} {W : World} {k : Nat} {cs : List Value} {y : DataW H × List MemPlace}
    (h : DataW.trod enc Try.prog W 0 (fun _ => true) true k 24 cs = some y) :
    ∃ (ao : Option Addr) (l : List XField) (cap : Nat), cs = [.slice ao l.length cap] ∧ RowField W ao l ∧ l.length ≤ cap ∧ (l = [] ∨ ∃ es ss, y.1 = .slice es ss ∧ es.length = l.length) := by
  rcases open_slice Try.underlying24 h with ⟨rfl, rfl⟩ | ⟨a, len, cap, mm, nn, D, Pl, rfl, _, hl, hm, hmm, hx, hel⟩
  · exact ⟨none, [], 0, rfl, ⟨.inl rfl, by simp, by simp⟩, Nat.le_refl _, .inl rfl⟩
  · simp only [if_true] at hmm
    rw [cellsOfField] at hel
    obtain ⟨F, hF⟩ := choose_lt (α := XField) (n := mm) (p := fun i x => (W.cell? ((a.add (i * 2)).add 0) = some (.int .i64 x.tag) ∧ W.cell? ((a.add (i * 2)).add 1) = some (.int .i64 x.len)) ∧ okField W x) (fun i hi => by
      obtain ⟨cs', h1, h2⟩ := hel i hi
      obtain ⟨x, rfl, hok⟩ := opencField h2
      obtain ⟨_, _, hc⟩ := World.cells?_some h1
      exact ⟨x, ⟨hc 0 (by omega), hc 1 (by omega)⟩, hok⟩)
    refine ⟨some a, (List.range len).map F, cap, by simp, ⟨?_, ?_, by rw [List.length_map, List.length_range]; omega⟩, by rw [List.length_map, List.length_range]; exact hl, .inr ⟨_, _, by rw [hx], by simp⟩⟩
    · by_cases hl0 : len = 0
      · subst hl0; exact .inl rfl
      · obtain ⟨b, off, spot⟩ := a
        have hc0 := (hF 0 (by omega)).1.1
        have hspot : spot = none := by simpa [Addr.add] using World.cell?_spot hc0
        subst hspot
        refine .inr ⟨b, off, rfl, by simpa [Addr.add] using cell_ltR hc0, fun i x hi => ?_⟩
        have hi' : i < len := by
          rcases Nat.lt_or_ge i len with h | h
          · exact h
          · rw [List.getElem?_eq_none (by simpa using h)] at hi; cases hi
        rw [List.getElem?_map, List.getElem?_range hi'] at hi
        obtain rfl : F i = x := by simpa using hi
        have := (hF i (by omega)).1
        simp only [WideShapes.add_plain, Nat.add_zero] at this
        exact this
    · intro x hx
      obtain ⟨i, hi, rfl⟩ := List.mem_map.1 hx
      exact (hF i (by have : i < len := by simpa using hi
                      omega)).2
theorem openRField {H : Type} {enc : TypeId × Value → H} {W : World} {b0 : Nat} {r : Reach} {v : Value} {d : DataW H} {p : List MemPlace}
    (hv : Value.okWide Try.prog W r b0 24 v) (h : DataW.Trod enc Try.prog W 0 (fun _ => true) true 24 v d p) : ∃ (ao : Option Addr) (l : List XField) (cap : Nat), v = .slice ao l.length cap ∧ RowField W ao l ∧ (l = [] ∨ ∃ es ss, d = .slice es ss ∧ es.length = l.length) := by
  obtain ⟨a0, len, cap, rfl⟩ := okWide_slice Try.underlying24 hv
  obtain ⟨fuel, hf⟩ := h
  obtain ⟨ao, l, cap', hx, hr, _, hd⟩ := openrField hf
  simp [Value.cells] at hx
  obtain ⟨rfl, rfl, rfl⟩ := hx
  exact ⟨_, l, _, rfl, hr, hd⟩
structure XPlan where
  id : ByteArray
  pin : ByteArray
  key : ByteArray
  purse : Int
  one : Int
  runs : Int
  tries : Int
  version : Int
  secret : XSecret
  rowo : Option Addr
  row : List XField
  rowc : Nat
deriving Inhabited
def valPlan (x : XPlan) : Value := .agg #[.string x.id, .string x.pin, .string x.key, .int .i64 x.purse, .int .i64 x.one, .int .i64 x.runs, .int .i64 x.tries, .int .i64 x.version, .string x.secret.p, .string x.secret.q, .slice x.rowo x.row.length x.rowc]
def okPlan (W : World) (x : XPlan) : Prop := x.id.size ≤ maxLen ∧ x.pin.size ≤ maxLen ∧ x.key.size ≤ maxLen ∧ (-9223372036854775808 ≤ x.purse ∧ x.purse ≤ 9223372036854775807) ∧ (-9223372036854775808 ≤ x.one ∧ x.one ≤ 9223372036854775807) ∧ (-9223372036854775808 ≤ x.runs ∧ x.runs ≤ 9223372036854775807) ∧ (-9223372036854775808 ≤ x.tries ∧ x.tries ≤ 9223372036854775807) ∧ (-9223372036854775808 ≤ x.version ∧ x.version ≤ 9223372036854775807) ∧ okSecret W x.secret ∧ RowField W x.rowo x.row
theorem cellsOfPlan : Try.prog.cellsOf 26 = 11 := by kernel_rfl
theorem okPlan.below {W W' : World} {x : XPlan} (h : okPlan W x) (hb : Below W.heap.size W W') : okPlan W' x := by
  obtain ⟨h0, h1, h2, h3, h4, h5, h6, h7, h8, h9⟩ := h
  exact ⟨h0, h1, h2, h3, h4, h5, h6, h7, h8.below hb, h9.below hb⟩
theorem opencPlan {H : Type} {enc : TypeId × Value → H} {W : World} {k : Nat} {cs : List Value} {y : DataW H × List MemPlace}
    (h : DataW.trod enc Try.prog W 0 (fun _ => true) true k 26 cs = some y) :
    ∃ x : XPlan, cs = [.string x.id, .string x.pin, .string x.key, .int .i64 x.purse, .int .i64 x.one, .int .i64 x.runs, .int .i64 x.tries, .int .i64 x.version, .string x.secret.p, .string x.secret.q, .slice x.rowo x.row.length x.rowc] ∧ okPlan W x := by
  obtain ⟨xs, k', _, _, hsz, hlen, hq⟩ := DataW.trod_struct Try.underlying26 h
  rw [cellsOfPlan] at hsz
  match cs, hsz with
  | [c0, c1, c2, c3, c4, c5, c6, c7, c8, c9, c10], _ =>
    match xs, hlen with
    | [y0, y1, y2, y3, y4, y5, y6, y7, y8, y9], _ =>
      have h0 : DataW.trod enc Try.prog W 0 (fun _ => true) true k' 9 [c0] = some y0 := by simpa [cellsOfBool, cellsOfInt, cellsOfSecret, cellsOfSlField, cellsOfString] using hq 0 _ rfl
      obtain ⟨z0, e0, g0, w0⟩ := DataW.trod_string Try.underlying9 h0
      have h1 : DataW.trod enc Try.prog W 0 (fun _ => true) true k' 9 [c1] = some y1 := by simpa [cellsOfBool, cellsOfInt, cellsOfSecret, cellsOfSlField, cellsOfString] using hq 1 _ rfl
      obtain ⟨z1, e1, g1, w1⟩ := DataW.trod_string Try.underlying9 h1
      have h2 : DataW.trod enc Try.prog W 0 (fun _ => true) true k' 9 [c2] = some y2 := by simpa [cellsOfBool, cellsOfInt, cellsOfSecret, cellsOfSlField, cellsOfString] using hq 2 _ rfl
      obtain ⟨z2, e2, g2, w2⟩ := DataW.trod_string Try.underlying9 h2
      have h3 : DataW.trod enc Try.prog W 0 (fun _ => true) true k' 3 [c3] = some y3 := by simpa [cellsOfBool, cellsOfInt, cellsOfSecret, cellsOfSlField, cellsOfString] using hq 3 _ rfl
      obtain ⟨z3, e3, g3, w3⟩ := DataW.trod_int Try.underlying3 h3
      have h4 : DataW.trod enc Try.prog W 0 (fun _ => true) true k' 3 [c4] = some y4 := by simpa [cellsOfBool, cellsOfInt, cellsOfSecret, cellsOfSlField, cellsOfString] using hq 4 _ rfl
      obtain ⟨z4, e4, g4, w4⟩ := DataW.trod_int Try.underlying3 h4
      have h5 : DataW.trod enc Try.prog W 0 (fun _ => true) true k' 3 [c5] = some y5 := by simpa [cellsOfBool, cellsOfInt, cellsOfSecret, cellsOfSlField, cellsOfString] using hq 5 _ rfl
      obtain ⟨z5, e5, g5, w5⟩ := DataW.trod_int Try.underlying3 h5
      have h6 : DataW.trod enc Try.prog W 0 (fun _ => true) true k' 3 [c6] = some y6 := by simpa [cellsOfBool, cellsOfInt, cellsOfSecret, cellsOfSlField, cellsOfString] using hq 6 _ rfl
      obtain ⟨z6, e6, g6, w6⟩ := DataW.trod_int Try.underlying3 h6
      have h7 : DataW.trod enc Try.prog W 0 (fun _ => true) true k' 3 [c7] = some y7 := by simpa [cellsOfBool, cellsOfInt, cellsOfSecret, cellsOfSlField, cellsOfString] using hq 7 _ rfl
      obtain ⟨z7, e7, g7, w7⟩ := DataW.trod_int Try.underlying3 h7
      have h8 : DataW.trod enc Try.prog W 0 (fun _ => true) true k' 23 [c8, c9] = some y8 := by simpa [cellsOfBool, cellsOfInt, cellsOfSecret, cellsOfSlField, cellsOfString] using hq 8 _ rfl
      obtain ⟨z8, e8, w8⟩ := opencSecret h8
      have h9 : DataW.trod enc Try.prog W 0 (fun _ => true) true k' 24 [c10] = some y9 := by simpa [cellsOfBool, cellsOfInt, cellsOfSecret, cellsOfSlField, cellsOfString] using hq 9 _ rfl
      obtain ⟨zo9, z9, zc9, e9, w9, wc9, _⟩ := openrField h9
      simp at e0 e1 e2 e3 e4 e5 e6 e7 e8 e9
      subst e0
      subst e1
      subst e2
      subst e3
      subst e4
      subst e5
      subst e6
      subst e7
      obtain ⟨rfl, rfl⟩ := e8
      subst e9
      exact ⟨⟨z0, z1, z2, z3, z4, z5, z6, z7, z8, zo9, z9, zc9⟩, rfl, ⟨w0, w1, w2, bounds_i64 w3, bounds_i64 w4, bounds_i64 w5, bounds_i64 w6, bounds_i64 w7, w8, w9⟩⟩
theorem openPlan {H : Type} {enc : TypeId × Value → H} {W : World} {b0 : Nat} {r : Reach} {v : Value} {d : DataW H} {p : List MemPlace}
    (hv : Value.okWide Try.prog W r b0 26 v) (h : DataW.Trod enc Try.prog W 0 (fun _ => true) true 26 v d p) : ∃ x : XPlan, v = valPlan x ∧ okPlan W x := by
  obtain ⟨cs, rfl, hsz⟩ := okWide_struct Try.underlying26 hv
  obtain ⟨fuel, hf⟩ := h
  obtain ⟨x, hx, ho⟩ := opencPlan hf
  obtain ⟨l⟩ := cs
  simp only [Value.cells] at hx
  subst hx
  exact ⟨x, rfl, ho⟩
def bulkPlan (x : XPlan) : Nat := x.id.size + x.pin.size + x.key.size + bulkSecret x.secret + x.row.length
theorem opencbPlan {H : Type} {enc : TypeId × Value → H} {W : World} {k : Nat} {cs : List Value} {y : DataW H × List MemPlace}
    (h : DataW.trod enc Try.prog W 0 (fun _ => true) true k 26 cs = some y) :
    ∃ x : XPlan, cs = [.string x.id, .string x.pin, .string x.key, .int .i64 x.purse, .int .i64 x.one, .int .i64 x.runs, .int .i64 x.tries, .int .i64 x.version, .string x.secret.p, .string x.secret.q, .slice x.rowo x.row.length x.rowc] ∧ okPlan W x ∧ bulkPlan x ≤ Rows.uptoBulk y.1 := by
  obtain ⟨xs, k', _, hagg, hsz, hlen, hq⟩ := DataW.trod_struct Try.underlying26 h
  rw [cellsOfPlan] at hsz
  match cs, hsz with
  | [c0, c1, c2, c3, c4, c5, c6, c7, c8, c9, c10], _ =>
    match xs, hlen, hagg with
    | [y0, y1, y2, y3, y4, y5, y6, y7, y8, y9], _, hagg =>
      have hbk := congrArg Rows.uptoBulk (Prod.ext_iff.1 hagg).1
      have h0 : DataW.trod enc Try.prog W 0 (fun _ => true) true k' 9 [c0] = some y0 := by simpa [cellsOfBool, cellsOfInt, cellsOfSecret, cellsOfSlField, cellsOfString] using hq 0 _ rfl
      obtain ⟨z0, e0, g0, w0⟩ := DataW.trod_string Try.underlying9 h0
      have l0 : z0.data.toList.length = z0.size := by simp
      subst g0
      have h1 : DataW.trod enc Try.prog W 0 (fun _ => true) true k' 9 [c1] = some y1 := by simpa [cellsOfBool, cellsOfInt, cellsOfSecret, cellsOfSlField, cellsOfString] using hq 1 _ rfl
      obtain ⟨z1, e1, g1, w1⟩ := DataW.trod_string Try.underlying9 h1
      have l1 : z1.data.toList.length = z1.size := by simp
      subst g1
      have h2 : DataW.trod enc Try.prog W 0 (fun _ => true) true k' 9 [c2] = some y2 := by simpa [cellsOfBool, cellsOfInt, cellsOfSecret, cellsOfSlField, cellsOfString] using hq 2 _ rfl
      obtain ⟨z2, e2, g2, w2⟩ := DataW.trod_string Try.underlying9 h2
      have l2 : z2.data.toList.length = z2.size := by simp
      subst g2
      have h3 : DataW.trod enc Try.prog W 0 (fun _ => true) true k' 3 [c3] = some y3 := by simpa [cellsOfBool, cellsOfInt, cellsOfSecret, cellsOfSlField, cellsOfString] using hq 3 _ rfl
      obtain ⟨z3, e3, g3, w3⟩ := DataW.trod_int Try.underlying3 h3
      subst g3
      have h4 : DataW.trod enc Try.prog W 0 (fun _ => true) true k' 3 [c4] = some y4 := by simpa [cellsOfBool, cellsOfInt, cellsOfSecret, cellsOfSlField, cellsOfString] using hq 4 _ rfl
      obtain ⟨z4, e4, g4, w4⟩ := DataW.trod_int Try.underlying3 h4
      subst g4
      have h5 : DataW.trod enc Try.prog W 0 (fun _ => true) true k' 3 [c5] = some y5 := by simpa [cellsOfBool, cellsOfInt, cellsOfSecret, cellsOfSlField, cellsOfString] using hq 5 _ rfl
      obtain ⟨z5, e5, g5, w5⟩ := DataW.trod_int Try.underlying3 h5
      subst g5
      have h6 : DataW.trod enc Try.prog W 0 (fun _ => true) true k' 3 [c6] = some y6 := by simpa [cellsOfBool, cellsOfInt, cellsOfSecret, cellsOfSlField, cellsOfString] using hq 6 _ rfl
      obtain ⟨z6, e6, g6, w6⟩ := DataW.trod_int Try.underlying3 h6
      subst g6
      have h7 : DataW.trod enc Try.prog W 0 (fun _ => true) true k' 3 [c7] = some y7 := by simpa [cellsOfBool, cellsOfInt, cellsOfSecret, cellsOfSlField, cellsOfString] using hq 7 _ rfl
      obtain ⟨z7, e7, g7, w7⟩ := DataW.trod_int Try.underlying3 h7
      subst g7
      have h8 : DataW.trod enc Try.prog W 0 (fun _ => true) true k' 23 [c8, c9] = some y8 := by simpa [cellsOfBool, cellsOfInt, cellsOfSecret, cellsOfSlField, cellsOfString] using hq 8 _ rfl
      obtain ⟨z8, e8, w8, b8⟩ := opencbSecret h8
      have h9 : DataW.trod enc Try.prog W 0 (fun _ => true) true k' 24 [c10] = some y9 := by simpa [cellsOfBool, cellsOfInt, cellsOfSecret, cellsOfSlField, cellsOfString] using hq 9 _ rfl
      obtain ⟨zo9, z9, zc9, e9, w9, wc9, hl9⟩ := openrField h9
      have b9 : z9.length ≤ Rows.uptoBulk y9.1 := by
        rcases hl9 with hd | ⟨es, ss, hd, hes⟩
        · rw [hd]; simp
        · rw [hd]
          simp only [Rows.uptoBulk]
          have := bulkAll_length (es := es)
          omega
      simp at e0 e1 e2 e3 e4 e5 e6 e7 e8 e9
      subst e0
      subst e1
      subst e2
      subst e3
      subst e4
      subst e5
      subst e6
      subst e7
      obtain ⟨rfl, rfl⟩ := e8
      subst e9
      refine ⟨⟨z0, z1, z2, z3, z4, z5, z6, z7, z8, zo9, z9, zc9⟩, rfl, ⟨w0, w1, w2, bounds_i64 w3, bounds_i64 w4, bounds_i64 w5, bounds_i64 w6, bounds_i64 w7, w8, w9⟩, ?_⟩
      simp only [List.map_cons, List.map_nil, Rows.uptoBulk, Rows.uptoBulkAll] at hbk
      rw [hbk]
      unfold bulkPlan
      dsimp only
      omega
theorem openbPlan {H : Type} {enc : TypeId × Value → H} {W : World} {b0 : Nat} {r : Reach} {v : Value} {d : DataW H} {p : List MemPlace}
    (hv : Value.okWide Try.prog W r b0 26 v) (h : DataW.Trod enc Try.prog W 0 (fun _ => true) true 26 v d p) : ∃ x : XPlan, v = valPlan x ∧ okPlan W x ∧ bulkPlan x ≤ Rows.uptoBulk d := by
  obtain ⟨cs, rfl, hsz⟩ := okWide_struct Try.underlying26 hv
  obtain ⟨fuel, hf⟩ := h
  obtain ⟨x, hx, ho, hb⟩ := opencbPlan hf
  obtain ⟨l⟩ := cs
  simp only [Value.cells] at hx
  subst hx
  exact ⟨x, rfl, ho, hb⟩
def pairC (x : XField) : Int × Int := (x.tag, x.len)
theorem frow_fieldC {W : World} {ao : Option Addr} {l : List XField} (h : RowField W ao l) : FRow W ao (l.map pairC) := by
  obtain ⟨h, _, _⟩ := h
  rcases h with rfl | ⟨b, off, e, hlt, hc⟩
  · exact .inl rfl
  · refine .inr ⟨b, off, e, hlt, fun i hi => ?_⟩
    rw [List.length_map] at hi
    have hx : l[i]? = some l[i] := List.getElem?_eq_getElem hi
    obtain ⟨c0, c1⟩ := hc i _ hx
    have e2 : (l.map pairC).getD i (0, 0) = pairC l[i] := by
      rw [List.getD_eq_getElem?_getD, List.getElem?_map, hx]; rfl
    rw [e2]
    exact ⟨c0, c1⟩
end Go.Proofs.Ytolicaaifhfhcaa
namespace Go.Proofs.Ytolicaaifhfhcaa
open Go.RowKit
set_option linter.unusedVariables false

/-- 2^32 -/
def B32 : Nat := 4294967296
theorem B32_pos : 0 < B32 := by unfold B32; decide
theorem B32_two : 2 ≤ B32 := by unfold B32; decide
/-- the number of a list of words, the low one first -/
def natV : List Nat → Nat
  | [] => 0
  | x :: r => x + B32 * natV r
def okV (l : List Nat) : Prop := ∀ x ∈ l, x < B32
theorem okV_nil : okV [] := fun x hx => by cases hx
theorem okV_get {l : List Nat} (h : okV l) {i x : Nat} (hi : l[i]? = some x) : x < B32 := h x (List.mem_of_getElem? hi)
theorem okV_cons {x : Nat} {l : List Nat} (h : okV (x :: l)) : x < B32 ∧ okV l := ⟨h x (by simp), fun y hy => h y (by simp [hy])⟩
theorem okV_append {a b : List Nat} (ha : okV a) (hb : okV b) : okV (a ++ b) := fun x hx => by
  rcases List.mem_append.1 hx with h | h
  · exact ha x h
  · exact hb x h
theorem okV_take {a : List Nat} (h : okV a) (n : Nat) : okV (a.take n) := fun x hx => h x (List.mem_of_mem_take hx)
theorem okV_set {a : List Nat} (h : okV a) (i x : Nat) (hx : x < B32) : okV (a.set i x) := fun y hy => by
  rcases List.mem_or_eq_of_mem_set hy with h1 | h1
  · exact h y h1
  · rw [h1]; exact hx
theorem okV_zeros (n : Nat) : okV (List.replicate n 0) := fun x hx => by
  rw [(List.mem_replicate.1 hx).2]; exact B32_pos
theorem natV_append (a b : List Nat) : natV (a ++ b) = natV a + B32 ^ a.length * natV b := by
  induction a with
  | nil => simp [natV]
  | cons x r ih =>
    simp only [List.cons_append, natV, List.length_cons, Nat.pow_succ, ih]
    grind
theorem natV_lt {l : List Nat} (h : okV l) : natV l < B32 ^ l.length := by
  induction l with
  | nil => simp [natV]
  | cons x r ih =>
    obtain ⟨hx, hr'⟩ := okV_cons h
    have hr := ih hr'
    simp only [natV, List.length_cons, Nat.pow_succ]
    have h2 : B32 * (natV r + 1) ≤ B32 * B32 ^ r.length := Nat.mul_le_mul_left _ hr
    have h3 : B32 * (natV r + 1) = B32 * natV r + B32 := by rw [Nat.mul_add, Nat.mul_one]
    have h4 : B32 ^ r.length * B32 = B32 * B32 ^ r.length := Nat.mul_comm _ _
    omega
theorem natV_zeros (n : Nat) : natV (List.replicate n 0) = 0 := by
  induction n with
  | zero => rfl
  | succ n ih => simp [List.replicate_succ, natV, ih]
theorem natV_take_succ (l : List Nat) (i x : Nat) (h : l[i]? = some x) : natV (l.take (i + 1)) = natV (l.take i) + x * B32 ^ i := by
  have hi : i < l.length := (List.getElem?_eq_some_iff.1 h).1
  rw [List.take_add_one, h, natV_append, List.length_take, Nat.min_eq_left (by omega)]
  simp [natV, Nat.mul_comm]
/-- the words of a number, without a nought at the end -/
def dig (n : Nat) : List Nat := if h : n = 0 then [] else n % B32 :: dig (n / B32)
termination_by n
decreasing_by exact Nat.div_lt_self (by omega) B32_two
theorem dig_zero : dig 0 = [] := by rw [dig]; simp
theorem dig_pos {n : Nat} (h : n ≠ 0) : dig n = n % B32 :: dig (n / B32) := by rw [dig]; simp [h]
theorem natV_dig (n : Nat) : natV (dig n) = n := by
  induction n using Nat.strongRecOn with
  | _ n ih =>
    by_cases h : n = 0
    · subst h; rw [dig_zero]; rfl
    · rw [dig_pos h, natV, ih _ (Nat.div_lt_self (by omega) B32_two)]
      have := Nat.div_add_mod n B32
      omega
theorem okV_dig (n : Nat) : okV (dig n) := by
  induction n using Nat.strongRecOn with
  | _ n ih =>
    by_cases h : n = 0
    · subst h; rw [dig_zero]; exact okV_nil
    · rw [dig_pos h]
      intro x hx
      rcases List.mem_cons.1 hx with rfl | hx
      · exact Nat.mod_lt _ B32_pos
      · exact ih _ (Nat.div_lt_self (by omega) B32_two) x hx
theorem natV_cons_div {x : Nat} {r : List Nat} (hx : x < B32) : (x + B32 * natV r) / B32 = natV r ∧ (x + B32 * natV r) % B32 = x := by
  constructor
  · rw [Nat.add_mul_div_left _ _ B32_pos, Nat.div_eq_of_lt hx, Nat.zero_add]
  · rw [Nat.add_mul_mod_self_left, Nat.mod_eq_of_lt hx]
/-- a list without a nought at its end is the number's own -/
theorem dig_of {l : List Nat} (h : okV l) (hl : ∀ x, l.getLast? = some x → x ≠ 0) : dig (natV l) = l := by
  induction l with
  | nil => exact dig_zero
  | cons x r ih =>
    obtain ⟨hx, hr⟩ := okV_cons h
    obtain ⟨e1, e2⟩ := natV_cons_div (r := r) hx
    have hr0 : r = [] ∨ natV r ≠ 0 := by
      rcases Decidable.em (r = []) with h0 | h0
      · exact .inl h0
      · right
        have := ih hr (fun y hy => hl y (by rw [List.getLast?_cons, hy]; rfl))
        intro hz
        rw [hz, dig_zero] at this
        exact h0 this.symm
    have hne : natV (x :: r) ≠ 0 := by
      rcases hr0 with rfl | h0
      · have := hl x rfl
        simp only [natV]; omega
      · simp only [natV]
        have := Nat.mul_pos B32_pos (Nat.pos_of_ne_zero h0)
        omega
    rw [dig_pos hne]
    simp only [natV] at *
    rw [e1, e2]
    congr 1
    rcases hr0 with rfl | h0
    · exact dig_zero
    · exact ih hr (fun y hy => hl y (by rw [List.getLast?_cons, hy]; rfl))
/-- noughts at the end change nothing: the number's own words are the first ones -/
theorem dig_take {l : List Nat} (h : okV l) (n : Nat) (hn : n ≤ l.length) (hz : ∀ i x, n ≤ i → l[i]? = some x → x = 0) (hl : n = 0 ∨ ∃ x, l[n - 1]? = some x ∧ x ≠ 0) : dig (natV l) = l.take n := by
  have e : l = l.take n ++ l.drop n := (List.take_append_drop n l).symm
  have hd : l.drop n = List.replicate (l.length - n) 0 := by
    rw [← List.length_drop]
    apply List.eq_replicate_of_mem
    intro x hx
    obtain ⟨i, hi⟩ := List.getElem?_of_mem hx
    rw [List.getElem?_drop] at hi
    exact hz _ x (by omega) hi
  have hv : natV l = natV (l.take n) := by
    conv => lhs; rw [e]
    rw [natV_append, hd, natV_zeros, Nat.mul_zero, Nat.add_zero]
  rw [hv]
  refine dig_of (okV_take h n) (fun x hx => ?_)
  rcases hl with rfl | ⟨y, hy, hy0⟩
  · simp at hx
  · rw [List.getLast?_eq_getElem?, List.length_take, Nat.min_eq_left hn] at hx
    have hn0 : n - 1 < n := by
      rcases Nat.eq_zero_or_pos n with h0 | h0
      · subst h0; simp at hx
      · omega
    rw [List.getElem?_take_of_lt hn0, hy] at hx
    obtain rfl : y = x := by simpa using hx
    exact hy0
theorem dig_len (k : Nat) : ∀ n, n < B32 ^ k → (dig n).length ≤ k := by
  induction k with
  | zero =>
    intro n h
    obtain rfl : n = 0 := by simpa using h
    rw [dig_zero]; simp
  | succ k ih =>
    intro n h
    by_cases h0 : n = 0
    · subst h0; rw [dig_zero]; simp
    · rw [dig_pos h0, List.length_cons]
      have := ih (n / B32) (Nat.div_lt_of_lt_mul (by rw [Nat.mul_comm, ← Nat.pow_succ]; exact h))
      omega
theorem dig_length (l : List Nat) (h : okV l) : (dig (natV l)).length ≤ l.length := dig_len _ _ (natV_lt h)
theorem lt_dig (n : Nat) : n < B32 ^ (dig n).length := by
  have := natV_lt (okV_dig n)
  rwa [natV_dig] at this
theorem dig_last {n : Nat} (h : n ≠ 0) : ∃ x, (dig n).getLast? = some x ∧ x ≠ 0 := by
  induction n using Nat.strongRecOn with
  | _ n ih =>
    rw [dig_pos h]
    by_cases h0 : n / B32 = 0
    · rw [h0, dig_zero]
      refine ⟨n % B32, rfl, fun e => h ?_⟩
      have := Nat.div_add_mod n B32
      rw [h0, e] at this
      omega
    · obtain ⟨x, hx, hx0⟩ := ih _ (Nat.div_lt_self (by omega) B32_two) h0
      exact ⟨x, by rw [List.getLast?_cons, hx]; rfl, hx0⟩
end Go.Proofs.Ytolicaaifhfhcaa
namespace Go.Proofs.Ytolicaaifhfhcaa
open Go.RowKit
set_option linter.unusedVariables false

/-- words that lie in a row, to be read -/
def WRow (w : World) (ao : Option Addr) (ws : List Nat) : Prop := ws = [] ∨ ∃ g off, ao = some ⟨g, off, none⟩ ∧ g < w.heap.size ∧ ∀ i x, ws[i]? = some x → w.cell? ⟨g, off + i, none⟩ = some (.int .u32 (x : Nat))
theorem WRow.below {w w' : World} {ao : Option Addr} {ws : List Nat} (h : WRow w ao ws) (hb : Below w.heap.size w w') : WRow w' ao ws := by
  rcases h with h | ⟨g, off, e, hlt, hc⟩
  · exact .inl h
  · exact .inr ⟨g, off, e, Nat.lt_of_lt_of_le hlt hb.size, fun i x hi => (hb.cell (p := ⟨g, off + i, none⟩) hlt).trans (hc i x hi)⟩
theorem WRow.take {w : World} {ao : Option Addr} {ws : List Nat} (h : WRow w ao ws) (n : Nat) : WRow w ao (ws.take n) := by
  rcases h with rfl | ⟨g, off, e, hlt, hc⟩
  · exact .inl (by simp)
  · refine .inr ⟨g, off, e, hlt, fun i x hi => hc i x ?_⟩
    have hin : i < n := by
      have := (List.getElem?_eq_some_iff.1 hi).1
      rw [List.length_take] at this
      omega
    rwa [List.getElem?_take_of_lt hin] at hi
/-- a whole block of words -/
def VCells (row : List Nat) : Array Value := (row.map fun x : Nat => Value.int .u32 (x : Int)).toArray
def VRow (w : World) (g : Nat) (row : List Nat) : Prop := w.heap[g]? = some (.cells (VCells row) 79 (0, 0))
theorem VRow.cell {w : World} {g : Nat} {row : List Nat} (h : VRow w g row) (i x : Nat) (hi : row[i]? = some x) : w.cell? ⟨g, i, none⟩ = some (.int .u32 (x : Nat)) := by
  rw [cell_of_row _ _ i _ _ _ h]
  simp [VCells, hi]
theorem VRow.frozen {w : World} {g : Nat} {row : List Nat} (h : VRow w g row) (i : Nat) : w.frozen? ⟨g, i, none⟩ = false := frozen_of_row _ _ i _ _ h
theorem VRow.lt {w : World} {g : Nat} {row : List Nat} (h : VRow w g row) : g < w.heap.size := by
  rcases Nat.lt_or_ge g w.heap.size with h' | h'
  · exact h'
  · unfold VRow at h
    rw [Array.getElem?_eq_none h'] at h; cases h
theorem VRow.set {w : World} {g : Nat} {row : List Nat} (h : VRow w g row) (i x : Nat) : VRow (w.setCell ⟨g, i, none⟩ (.int .u32 (x : Nat))) g (row.set i x) := by
  unfold VRow at *
  have : (w.setCell ⟨g, i, none⟩ (.int .u32 (x : Nat))).heap[g]? = some (.cells ((VCells row).setIfInBounds i (.int .u32 (x : Nat))) 79 (0, 0)) := by
    simp [World.setCell, Array.getElem?_modify, h]
  rw [this]
  congr 2
  unfold VCells
  rw [List.setIfInBounds_toArray, List.map_set]
theorem VRow.wrow {w : World} {g : Nat} {row : List Nat} (h : VRow w g row) : WRow w (some ⟨g, 0, none⟩) row :=
  .inr ⟨g, 0, rfl, h.lt, fun i x hi => by rw [Nat.zero_add]; exact h.cell i x hi⟩
theorem VRow.below {w w' : World} {g : Nat} {row : List Nat} (h : VRow w g row) (hb : Below w.heap.size w w') : VRow w' g row := by
  have hg := h.lt
  unfold VRow at *
  rw [hb.block g hg, h]

set_option maxHeartbeats 1000000 in
theorem trim_any (ws : List Nat) (g off cap : Nat) (w : World) (hr : WRow w (some ⟨g, off, none⟩) ws) (hok : okV ws) (hl : (ws.length : Int) ≤ 1000000) (hcap : (ws.length : Int) ≤ (cap : Int)) (hc2 : (cap : Int) ≤ 1000000) :
    Calls Try.prog 78 #[.slice (some ⟨g, off, none⟩) ws.length cap] w fun e w' => e = .returned (.slice (some ⟨g, off, none⟩) (dig (natV ws)).length cap) ∧ w' = w := by
  have HR := hide hr; have HOK := hide hok
  clear hr hok
  go_enter Try.func78, Try.ntmps78
  go_wp2
  go_loopw [3] (fun n wr => ∃ k : Nat, k ≤ ws.length ∧ n = .int .i64 k ∧ Hid (∀ i x, k ≤ i → ws[i]? = some x → x = 0) ∧ wr = w) (fun n _ => (intOf n).toNat)
  case atStart => exact ⟨ws.length, Nat.le_refl _, rfl, hide (fun i x hi hx => by rw [List.getElem?_eq_none hi] at hx; cases hx), rfl⟩
  case round =>
    obtain ⟨k, hk, rfl, HZ, rfl⟩ := hrel
    have fin : (k = 0 ∨ ∃ x, ws[k - 1]? = some x ∧ x ≠ 0) → (dig (natV ws)).length = k := fun h => by
      rw [dig_take (unhide HOK) k hk (unhide HZ) h, List.length_take]
      omega
    have HFIN := hide fin
    clear fin
    have hkc : (k : Int) ≤ (cap : Int) := by omega
    cases k with
    | zero =>
      have HE := hide (unhide HFIN (.inl rfl))
      clear HFIN
      go_wp2
      go_ret
      exact ⟨by rw [unhide HE]; rfl, rfl⟩
    | succ j =>
      obtain ⟨x, hx⟩ : ∃ x, ws[j]? = some x := ⟨_, List.getElem?_eq_getElem (by omega)⟩
      rcases (unhide HR) with hnil | ⟨g', off', he, hb, hc⟩
      · rw [hnil] at hx; simp at hx
      obtain ⟨rfl, rfl⟩ : g = g' ∧ off = off' := by simpa using he
      have c0 := hc j x hx
      have hji : (j : Int) < (ws.length : Int) := by omega
      have hw1 : IntKind.i64.wrap (((j + 1 : Nat) : Int) - 1) = (j : Int) := by rw [IntKind.wrap_i64]; omega
      have hgt : decide (0 < ((j + 1 : Nat) : Int)) = true := decide_eq_true (by omega)
      by_cases hx0 : x = 0
      · subst hx0
        have HZ2 : Hid (∀ i x, j ≤ i → ws[i]? = some x → x = 0) := hide (fun i x hi hxi => by
          rcases Nat.lt_or_ge i (j + 1) with h | h
          · obtain rfl : i = j := by omega
            rw [hx] at hxi
            simpa using hxi.symm
          · exact unhide HZ i x h hxi)
        clear hx hc he
        go_wp2
        go_roundw
        case rel => exact ⟨j, by omega, by go_num, HZ2, by first | rfl | trivial⟩
        case measure => simp [intOf]; try omega
      · have HE := hide (unhide HFIN (.inr ⟨x, hx, hx0⟩))
        have hxI : ((x : Int) == 0) = false := by simp; omega
        clear hx hc he hx0 HFIN
        go_wp2
        go_ret
        exact ⟨by rw [unhide HE]; rfl, rfl⟩
theorem trim_nil (w : World) :
    Calls Try.prog 78 #[.slice none 0 0] w fun e w' => e = .returned (.slice none 0 0) ∧ w' = w := by
  go_enter Try.func78, Try.ntmps78
  go_wp2
  go_loopw [3] (fun n wr => n = .int .i64 0 ∧ wr = w) (fun n _ => 0)
  case atStart => exact ⟨rfl, rfl⟩
  case round =>
    obtain ⟨rfl, rfl⟩ := hrel
    go_wp2
    go_ret
    exact ⟨rfl, rfl⟩
end Go.Proofs.Ytolicaaifhfhcaa
namespace Go.Proofs.Ytolicaaifhfhcaa
open Go.RowKit
set_option linter.unusedVariables false

/-- the row behind j rounds: zeros, then the low j bytes -/
def rowAt (n k j : Nat) : List Int := List.replicate (k - j) 0 ++ bigL n j
theorem rowAt_length (n k j : Nat) (h : j ≤ k) : (rowAt n k j).length = k := by simp [rowAt, bigL_length]; omega
theorem rowAt_set (n k j : Nat) (h : j < k) : (rowAt n k j).set (k - 1 - j) ((n / 256 ^ j % 256 : Nat) : Int) = rowAt n k (j + 1) := by
  unfold rowAt
  rw [show k - j = (k - (j + 1)) + 1 by omega, List.replicate_succ', List.append_assoc, show k - 1 - j = (List.replicate (k - (j + 1)) (0 : Int)).length + 0 by simp; omega, List.set_append_right _ _ (by omega)]
  simp [bigL]
theorem made_row (k : Nat) (n : Nat) : (madeCells #[Value.int .u8 0] k).toList = (rowAt n k 0).map (Value.int .u8) := by
  have e : rowAt n k 0 = List.replicate k 0 := by simp [rowAt, bigL]
  rw [e, List.map_replicate]
  apply List.ext_getElem
  · simp [madeCells]
  · intro i h1 h2
    simp [madeCells, Nat.mod_one]
theorem pow_256 (n j : Nat) : ((n : Int) / 2 ^ (8 * j)) = ((n / 256 ^ j : Nat) : Int) := by
  rw [Int.pow_mul]
  simp

set_option maxHeartbeats 1000000 in
theorem number_any (n k : Nat) (w : World) (h1 : 1 ≤ k) (h8 : k ≤ 8) (hn2 : n ≤ 9223372036854775807) (hf : n < 256 ^ k) :
    Calls Try.prog 32 #[.int .i64 n, .int .i64 k] w fun e w' => e = .returned (.tuple #[.string (strOfNums (bigL n k)), .int .i64 0]) ∧ Below w.heap.size w w' := by
  obtain ⟨i0, hi, hz0, hz1, hz2⟩ := info_parts infoByte
  have ht : ((n : Int) / 2 ^ (8 * k) != 0) = false := by rw [pow_256, Nat.div_eq_of_lt hf]; rfl
  have hk1 : decide ((k : Int) < 1) = false := by simp; omega
  have hk8 : decide ((8 : Int) < (k : Int)) = false := by simp; omega
  have hn0 : decide ((n : Int) < 0) = false := by simp
  clear hf
  go_enter Try.func32, Try.ntmps32
  go_wp2_with (at_make; refine wpList_make_full _ rfl _ _ 55 rfl w.heap.size 5 i0 (.int .u8 0) 1 Try.underlying55 hi hz0 hz1 .i64 .i64 _ _ k rfl rfl rfl rfl (by rw [hz2]; omega) (by unfold maxLen; omega) (Nat.le_refl _) ?_)
  intro w1 hown hgrow
  rw [made_row k n] at hown
  have hb : Below w.heap.size w w1 := (Below.refl _ _).grown hgrow (Nat.le_refl _) (fun q hq => by cases hq)
  clear hgrow hi hz0 hz1 hz2 hk1 hk8 hn0 ht
  go_wp2
  go_loopw [28] (fun i wr => ∃ j : Nat, j ≤ k ∧ i = .int .i64 j ∧ wr.ownsRow w.heap.size 5 1 (.slice (some ⟨w.heap.size, 0, none⟩) k k) k ((rowAt n k j).map (Value.int .u8)) ∧ Below w.heap.size w wr)
    (fun i _ => k - (intOf i).toNat)
  case atStart => exact ⟨0, Nat.zero_le _, rfl, hown, hb⟩
  case round =>
    obtain ⟨j, hj, rfl, hown, hnx⟩ := hrel
    by_cases hlt : j < k
    · have hfz := hown.frozenAt (k - 1 - j)
      have hca : wr.cell? ⟨w.heap.size, k - 1 - j, none⟩ = some (.int .u8 ((rowAt n k j).getD (k - 1 - j) 0)) := by
        rw [hown.cellAt (k - 1 - j) (by omega)]
        simp [List.getElem?_eq_getElem (show k - 1 - j < (rowAt n k j).length by rw [rowAt_length _ _ _ hj]; omega)]
      go_wp2
      go_roundw
      case rel =>
        refine ⟨j + 1, by omega, by go_num, ?_, hnx.setCell (Nat.le_refl _) _⟩
        have hs := (hown.stored (k - 1 - j) (.int .u8 ((n : Int) / 2 ^ (8 * j) % 256))).1
        rw [← rowAt_set n k j hlt, List.map_set]
        have e : ((n : Int) / 2 ^ (8 * j) % 256) = ((n / 256 ^ j % 256 : Nat) : Int) := by rw [pow_256]; rfl
        rw [e] at hs ⊢
        exact hs
      case measure => simp [intOf]; omega
    · have hkl : j = k := by omega
      subst hkl
      rcases owned_cells hown with ⟨hv, hn⟩ | ⟨g, cap', hv, _, hcl⟩
      · simp at hv
      · simp only [Value.slice.injEq, Option.some.injEq, Addr.mk.injEq, and_true, true_and] at hv
        obtain ⟨hg, hcap⟩ := hv
        subst hg hcap
        have hcv := run_convert_bytes_arg (P := Try.prog) wr 55 5 Try.underlying55 Try.underlying5 w.heap.size 0 j j _ (by rw [rowAt_length _ _ _ hj]) hcl 9 Try.underlying9
        rw [show rowAt n j j = bigL n j by simp [rowAt]] at hcv
        clear hown hcl
        go_wp2
        go_ret2
        exact ⟨rfl, hnx⟩

theorem number_no1 (n k : Int) (w : World) (h : k < 1 ∨ 8 < k) :
    Calls Try.prog 32 #[.int .i64 n, .int .i64 k] w fun e w' => e = .returned (.tuple #[.string ⟨#[]⟩, .int .i64 3]) ∧ w' = w := by
  rcases h with h | h
  · have hk1 : decide (k < 1) = true := by simp; omega
    go_enter Try.func32, Try.ntmps32
    go_wp2
    go_ret2
    exact ⟨rfl, rfl⟩
  · have hk1 : decide (k < 1) = false := by simp; omega
    have hk8 : decide (8 < k) = true := by simp; omega
    go_enter Try.func32, Try.ntmps32
    go_wp2
    go_ret2
    exact ⟨rfl, rfl⟩
theorem number_no2 (n k : Int) (w : World) (h1 : 1 ≤ k) (h8 : k ≤ 8) (h : n < 0) :
    Calls Try.prog 32 #[.int .i64 n, .int .i64 k] w fun e w' => e = .returned (.tuple #[.string ⟨#[]⟩, .int .i64 3]) ∧ w' = w := by
  have hk1 : decide (k < 1) = false := by simp; omega
  have hk8 : decide (8 < k) = false := by simp; omega
  have hn0 : decide (n < 0) = true := by simp; omega
  go_enter Try.func32, Try.ntmps32
  go_wp2
  go_ret2
  exact ⟨rfl, rfl⟩
theorem number_no3 (n k : Nat) (w : World) (h1 : 1 ≤ k) (h8 : k ≤ 8) (hn2 : n ≤ 9223372036854775807) (hf : 256 ^ k ≤ n) :
    Calls Try.prog 32 #[.int .i64 n, .int .i64 k] w fun e w' => e = .returned (.tuple #[.string ⟨#[]⟩, .int .i64 3]) ∧ w' = w := by
  have hp := Nat.div_pos hf (Nat.pow_pos (by omega))
  have ht : ((n : Int) / 2 ^ (8 * k) != 0) = true := by rw [pow_256, bne_iff_ne]; omega
  have hk1 : decide ((k : Int) < 1) = false := by simp; omega
  have hk8 : decide ((8 : Int) < (k : Int)) = false := by simp; omega
  have hn0 : decide ((n : Int) < 0) = false := by simp
  clear hf
  go_enter Try.func32, Try.ntmps32
  go_wp2
  go_ret2
  exact ⟨rfl, rfl⟩


theorem wraps_u64 (n : Int) (h₀ : 0 ≤ n) (h₁ : n < 2 ^ 64) : IntKind.u64.wrap n = n := by
  simp [IntKind.wrap, IntKind.bits, IntKind.signed]
  omega
theorem or_u64 (m b : Nat) (hb : b < 256) (h : (m : Int) * 256 + b ≤ 18446744073709551615) : bits .or .u64 ((m : Int) * 256) b = ((m * 256 + b : Nat) : Int) := by
  rw [bits_join .u64 64 (by decide) wraps_u64 8 _ _ (by omega) (by omega) (by omega) (by omega) (by omega) (by omega)]
  omega
theorem valN_lt8 (l : List UInt8) (h : l.length ≤ 8) : valN l ≤ 18446744073709551615 := by
  have h1 := valN_lt l
  have h2 : 256 ^ l.length ≤ 256 ^ 8 := Nat.pow_le_pow_right (by omega) h
  omega

/-- what is answered of a number that was read -/
def readOf (m : Nat) : Value := if 9223372036854775807 < m then .tuple #[.int .i64 0, .int .i64 3] else .tuple #[.int .i64 m, .int .i64 0]
theorem readOf_big {m : Nat} (h : 9223372036854775807 < m) : readOf m = .tuple #[.int .i64 0, .int .i64 3] := by rw [readOf, if_pos h]
theorem readOf_small {m : Nat} (h : ¬ 9223372036854775807 < m) : readOf m = .tuple #[.int .i64 m, .int .i64 0] := by rw [readOf, if_neg h]

theorem valN_cons (b : UInt8) (l : List UInt8) : valN (b :: l) = b.toNat * 256 ^ l.length + valN l := by
  have h : ∀ (l : List UInt8) (a : Nat), l.foldl (fun n b => n * 256 + b.toNat) a = a * 256 ^ l.length + l.foldl (fun n b => n * 256 + b.toNat) 0 := by
    intro l
    induction l with
    | nil => intro a; simp
    | cons b l ih =>
      intro a
      rw [List.foldl_cons, List.foldl_cons, List.length_cons, ih (a * 256 + b.toNat), ih (0 * 256 + b.toNat), Nat.pow_succ, Nat.add_mul]
      rw [show a * 256 * 256 ^ l.length = a * (256 ^ l.length * 256) by rw [Nat.mul_assoc, Nat.mul_comm 256], Nat.zero_mul, Nat.zero_add, Nat.add_assoc]
  show (b :: l).foldl _ 0 = _
  rw [List.foldl_cons, h]
  simp [valN]
theorem valN_eight (s : ByteArray) (h8 : s.size = 8) : 9223372036854775807 < valN s.data.toList ↔ 128 ≤ (s[0]'(by omega)).toNat := by
  match hl : s.data.toList with
  | [] => have : s.data.toList.length = 8 := by simpa using h8
          rw [hl] at this; simp at this
  | b :: l =>
    have hlen : s.data.toList.length = 8 := by simpa using h8
    have hb : s[0]'(by omega) = b := by
      have : s.data.toList[0]'(by omega) = b := by simp [hl]
      rw [← this]; rfl
    rw [hb, valN_cons]
    have hl7 : l.length = 7 := by rw [hl] at hlen; simpa using hlen
    have h1 := valN_lt l
    rw [hl7] at h1 ⊢
    omega


end Go.Proofs.Ytolicaaifhfhcaa
namespace Go.Proofs.Ytolicaaifhfhcaa
open Go.RowKit
set_option linter.unusedVariables false

theorem infoU32 : (Try.prog.info? 79).map (fun i => (i.zero, i.size, i.bytes)) = some (some (.int .u32 0), 1, 4) := by kernel_rfl
theorem info_partsV {P : Program} {t : TypeId} {z : Value} {s b : Nat} (h : (P.info? t).map (fun i => (i.zero, i.size, i.bytes)) = some (some z, s, b)) : ∃ i, P.info? t = some i ∧ i.zero = some z ∧ i.size = s ∧ i.bytes = b := by
  cases hi : P.info? t with
  | none => rw [hi] at h; cases h
  | some i => rw [hi] at h; simp at h; exact ⟨i, rfl, h.1, h.2.1, h.2.2⟩
theorem own_wholeV {w : World} {base g n : Nat} {e : TypeId} {xs : List Value} (h : w.ownsRow base e 1 (.slice (some ⟨g, 0, none⟩) n n) n xs) : w.heap[g]? = some (.cells xs.toArray e (0, 0)) := by
  rcases h.2 with ⟨h1, h2⟩ | ⟨g', cap, cur, h1, hB, hh, hle, hm, hsz, htk⟩
  · simp at h1
  · simp only [Value.slice.injEq, Option.some.injEq, Addr.mk.injEq, and_true, true_and] at h1
    obtain ⟨rfl, rfl⟩ := h1
    rw [hh]
    congr 2
    have : cur.toList = xs := by
      rw [← htk, List.take_of_length_le (by simp; omega)]
    rw [← this]
theorem made_wordsV (n : Nat) : (madeCells #[Value.int .u32 0] n).toList = (List.replicate n 0).map fun x : Nat => Value.int .u32 (x : Int) := by
  rw [List.map_replicate]
  apply List.ext_getElem
  · simp [madeCells]
  · intro i h1 h2
    simp [madeCells, Nat.mod_one]
theorem made_vrow {w w1 : World} {base n : Nat} (h : w1.ownsRow base 79 1 (.slice (some ⟨w.heap.size, 0, none⟩) n n) n (madeCells #[Value.int .u32 0] n).toList) : VRow w1 w.heap.size (List.replicate n 0) := by
  have := own_wholeV h
  rw [made_wordsV] at this
  exact this
/-- a number that lies in memory -/
def BigV (w : World) (v : Value) (n : Nat) : Prop := ∃ ao cap, v = .slice ao (dig n).length cap ∧ WRow w ao (dig n)
theorem BigV.below {w w' : World} {v : Value} {n : Nat} (h : BigV w v n) (hb : Below w.heap.size w w') : BigV w' v n := by
  obtain ⟨ao, cap, hv, hr⟩ := h
  exact ⟨ao, cap, hv, hr.below hb⟩
theorem dig_prefix {l : List Nat} (h : okV l) : dig (natV l) = l.take (dig (natV l)).length := by
  suffices hs : ∀ (m : Nat) (l : List Nat), l.length = m → okV l → dig (natV l) = l.take (dig (natV l)).length from hs _ l rfl h
  intro m
  induction m with
  | zero =>
    intro l hl _
    obtain rfl := List.length_eq_zero_iff.1 hl
    simp [natV, dig_zero]
  | succ m ih =>
    intro l hl hok
    cases l with
    | nil => simp at hl
    | cons x r =>
      obtain ⟨hx, hr⟩ := okV_cons hok
      obtain ⟨e1, e2⟩ := natV_cons_div (r := r) hx
      by_cases h0 : natV (x :: r) = 0
      · rw [h0, dig_zero]; simp
      · rw [dig_pos h0]
        simp only [natV] at e1 e2 ⊢
        rw [e1, e2, List.length_cons, List.take_succ_cons, ← ih r (by simpa using hl) hr]
theorem wrow_dig {w : World} {ao : Option Addr} {l : List Nat} (h : WRow w ao l) (hok : okV l) : WRow w ao (dig (natV l)) := by
  rw [dig_prefix hok]
  exact h.take _
set_option maxHeartbeats 1000000 in
theorem words_any (x : Nat) (hx : (x : Int) < 18446744073709551616) (w : World) :
    Calls Try.prog 77 #[.int .u64 x] w fun e w' => (∃ v, e = .returned v ∧ BigV w' v x) ∧ Below w.heap.size w w' := by
  obtain ⟨lo, hlo⟩ : ∃ lo, lo = x % 4294967296 := ⟨_, rfl⟩
  obtain ⟨hi, hhi⟩ : ∃ hi, hi = x / 4294967296 := ⟨_, rfl⟩
  have hB : B32 = 4294967296 := rfl
  have hv : natV [lo, hi] = x := by
    show lo + 4294967296 * (hi + 4294967296 * 0) = x
    omega
  have hok : okV [lo, hi] := by
    intro y hy
    simp at hy
    rcases hy with rfl | rfl
    · show y < 4294967296
      omega
    · show y < 4294967296
      omega
  have hV : VRow (w.alloc (.cells #[.int .u32 lo, .int .u32 hi] 79)) w.heap.size [lo, hi] := heap_alloc_new w _
  have n1 := trim_any [lo, hi] w.heap.size 0 2 _ hV.wrow hok (by simp) (by simp) (by simp)
  have hbe := (Below.refl w.heap.size w).alloc (Nat.le_refl _) (.cells #[.int .u32 lo, .int .u32 hi] 79)
  have hwd := wrow_dig hV.wrow hok
  rw [hv] at n1 hwd
  have w1' : (x : Int) % 4294967296 = (lo : Int) := by omega
  have w2' : (x : Int) / 4294967296 = (hi : Int) := by omega
  have w3' : (hi : Int) % 4294967296 = (hi : Int) := by omega
  have N1 := hide n1; have HBE := hide hbe; have HWD := hide hwd
  clear n1 hbe hwd hV hok hv hlo hhi hB
  go_enter Try.func77, Try.ntmps77
  go_wp2_with fail
  refine (unhide N1).mono ?_
  rintro e w1 ⟨rfl, rfl⟩
  go_wp2
  go_ret
  exact ⟨⟨_, rfl, _, _, rfl, unhide HWD⟩, unhide HBE⟩
theorem okV_snoc {R : List Nat} {r : Nat} (h : okV R) (hr : r < B32) : okV (R ++ [r]) := okV_append h (fun y hy => by
  obtain rfl : y = r := by simpa using hy
  exact hr)
theorem add_step {R xs ys : List Nat} {cn k av bv r c' : Nat} (hRv : natV R + cn * B32 ^ k = natV (xs.take k) + natV (ys.take k)) (hRl : R.length = k) (ha : xs[k]? = some av) (hb : ys[k]? = some bv ∨ (bv = 0 ∧ ys.length ≤ k)) (hs : cn + av + bv = r + c' * B32) :
    natV (R ++ [r]) + c' * B32 ^ (k + 1) = natV (xs.take (k + 1)) + natV (ys.take (k + 1)) := by
  rw [natV_append, hRl, natV_take_succ xs k av ha]
  have hbt : natV (ys.take (k + 1)) = natV (ys.take k) + bv * B32 ^ k := by
    rcases hb with hb | ⟨rfl, hl⟩
    · exact natV_take_succ ys k bv hb
    · rw [List.take_of_length_le (by omega), List.take_of_length_le (by omega)]; simp
  rw [hbt, Nat.pow_succ]
  simp only [natV, Nat.mul_zero, Nat.add_zero]
  grind
set_option maxHeartbeats 8000000 in
set_option maxRecDepth 100000 in
theorem add_rows (xs ys : List Nat) (ao bo : Option Addr) (ca cb : Nat) (w : World) (ha : WRow w ao xs) (hb : WRow w bo ys) (oka : okV xs) (okb : okV ys) (hla : (xs.length : Int) ≤ 10000) (hlb : (ys.length : Int) ≤ 10000) :
    Calls Try.prog 75 #[.slice ao xs.length ca, .slice bo ys.length cb] w fun e w' => (∃ v, e = .returned v ∧ BigV w' v (natV xs + natV ys)) ∧ Below w.heap.size w w' := by
  have HA := hide ha; have HB := hide hb
  clear ha hb
  by_cases hle : ys.length ≤ xs.length
  · have hleI : ¬ (xs.length : Int) < (ys.length : Int) := by omega
    obtain ⟨i0, hi, hz0, hz1, hz2⟩ := info_partsV infoU32
    go_enter Try.func75, Try.ntmps75
    go_wp2_with (at_make; refine wpList_make_full _ rfl _ _ 66 rfl w.heap.size 79 i0 (.int .u32 0) 1 Try.underlying66 hi hz0 hz1 .i64 .i64 _ _ (xs.length + 1) rfl rfl (by simp) (by simp) (by rw [hz2]; omega) (by unfold maxLen; omega) (Nat.le_refl _) ?_)
    intro w1 hown hgrow
    have hU := made_vrow hown
    have hb : Below w.heap.size w w1 := (Below.refl _ _).grown hgrow (Nat.le_refl _) (fun q hq => by cases hq)
    clear hown hgrow hi hz0 hz1 hz2
    go_wp2
    go_loopw [6, 7] (fun c i wr => ∃ (k cn : Nat) (R : List Nat), k ≤ xs.length ∧ i = .int .i64 k ∧ c = .int .u64 cn ∧ cn ≤ 1 ∧ VRow wr w.heap.size (R ++ List.replicate (xs.length + 1 - k) 0) ∧ R.length = k ∧ okV R ∧ natV R + cn * B32 ^ k = natV (xs.take k) + natV (ys.take k) ∧ Below w.heap.size w wr) (fun _ i _ => xs.length - (intOf i).toNat)
    case atStart => exact ⟨0, 0, [], Nat.zero_le _, rfl, rfl, by omega, hU, rfl, okV_nil, by simp [natV], hb⟩
    case round =>
      clear hU hb
      obtain ⟨k, cn, R, hk, rfl, rfl, hcn, hU, hRl, hRok, hRv, hbel⟩ := hrel
      by_cases hlt : k < xs.length
      · obtain ⟨av, hav⟩ : ∃ x, xs[k]? = some x := ⟨_, List.getElem?_eq_getElem hlt⟩
        have havb : av < 4294967296 := okV_get oka hav
        rcases (unhide HA) with hnil | ⟨ga, oa, rfl, hga, hca⟩
        · rw [hnil] at hlt; simp at hlt
        have d0 : wr.cell? ⟨ga, oa + k, none⟩ = some (.int .u32 (av : Nat)) := (hbel.cell (p := ⟨ga, oa + k, none⟩) hga).trans (hca k av hav)
        have hrep : List.replicate (xs.length + 1 - k) 0 = 0 :: List.replicate (xs.length + 1 - (k + 1)) 0 := by
          rw [show xs.length + 1 - k = (xs.length + 1 - (k + 1)) + 1 by omega]; rfl
        rw [hrep] at hU
        have hfr := hU.frozen k
        have hcell := hU.cell k 0 (by rw [List.getElem?_append_right (by omega)]; simp [hRl])
        have hset : ∀ x : Nat, (R ++ 0 :: List.replicate (xs.length + 1 - (k + 1)) 0).set k x = (R ++ [x]) ++ List.replicate (xs.length + 1 - (k + 1)) 0 := fun x => by
          rw [List.set_append_right _ _ (by omega)]
          simp [hRl]
        have hkA : (k : Int) < (xs.length : Int) := by omega
        by_cases hltb : k < ys.length
        · obtain ⟨bv, hbv⟩ : ∃ x, ys[k]? = some x := ⟨_, List.getElem?_eq_getElem hltb⟩
          have hbvb : bv < 4294967296 := okV_get okb hbv
          rcases (unhide HB) with hnil | ⟨gb, ob, rfl, hgb, hcb⟩
          · rw [hnil] at hltb; simp at hltb
          have d1 : wr.cell? ⟨gb, ob + k, none⟩ = some (.int .u32 (bv : Nat)) := (hbel.cell (p := ⟨gb, ob + k, none⟩) hgb).trans (hcb k bv hbv)
          have hkB : (k : Int) < (ys.length : Int) := by omega
          obtain ⟨s1, hs1⟩ : ∃ s, s = cn + av := ⟨_, rfl⟩
          obtain ⟨s2, hs2⟩ : ∃ s, s = s1 + bv := ⟨_, rfl⟩
          obtain ⟨r, hr⟩ : ∃ r, r = s2 % 4294967296 := ⟨_, rfl⟩
          obtain ⟨c', hc'⟩ : ∃ r, r = s2 / 4294967296 := ⟨_, rfl⟩
          have hsum := add_step hRv hRl hav (.inl hbv) (show cn + av + bv = r + c' * 4294967296 by omega)
          have wa' : IntKind.u64.wrap (av : Int) = (av : Int) := wraps_u64 _ (by omega) (by omega)
          have w1' : IntKind.u64.wrap ((cn : Int) + (av : Int)) = (s1 : Int) := by rw [wraps_u64 _ (by omega) (by omega)]; omega
          have wb' : IntKind.u64.wrap (bv : Int) = (bv : Int) := wraps_u64 _ (by omega) (by omega)
          have w2' : IntKind.u64.wrap ((s1 : Int) + (bv : Int)) = (s2 : Int) := by rw [wraps_u64 _ (by omega) (by omega)]; omega
          have w3' : (s2 : Int) % 4294967296 = (r : Int) := by omega
          have w4' : (s2 : Int) / 4294967296 = (c' : Int) := by omega
          have hc1 : c' ≤ 1 := by omega
          have hrb : r < B32 := by show r < 4294967296; omega
          have HV := hide (hU.set k r); have HBE := hide (hbel.setCell (p := ⟨w.heap.size, k, none⟩) (Nat.le_refl _) (.int .u32 (r : Nat)))
          have HSET := hide (hset r); have HSUM := hide hsum; have HRO := hide (okV_snoc hRok hrb)
          clear hca hcb hav hbv havb hbvb hs1 hs2 hr hc' hsum hU hbel hset hrep hRv hrb
          go_wp2
          go_roundw
          case rel => exact ⟨k + 1, c', R ++ [r], by omega, by go_num, rfl, hc1, by rw [← unhide HSET]; exact unhide HV, by simp [hRl], unhide HRO, unhide HSUM, unhide HBE⟩
          case measure => simp [intOf]; omega
        · obtain ⟨s1, hs1⟩ : ∃ s, s = cn + av := ⟨_, rfl⟩
          obtain ⟨r, hr⟩ : ∃ r, r = s1 % 4294967296 := ⟨_, rfl⟩
          obtain ⟨c', hc'⟩ : ∃ r, r = s1 / 4294967296 := ⟨_, rfl⟩
          have hsum := add_step hRv hRl hav (.inr ⟨rfl, by omega⟩) (show cn + av + 0 = r + c' * 4294967296 by omega)
          have wa' : IntKind.u64.wrap (av : Int) = (av : Int) := wraps_u64 _ (by omega) (by omega)
          have w1' : IntKind.u64.wrap ((cn : Int) + (av : Int)) = (s1 : Int) := by rw [wraps_u64 _ (by omega) (by omega)]; omega
          have w3' : (s1 : Int) % 4294967296 = (r : Int) := by omega
          have w4' : (s1 : Int) / 4294967296 = (c' : Int) := by omega
          have hkB : ¬ (k : Int) < (ys.length : Int) := by omega
          have hc1 : c' ≤ 1 := by omega
          have hrb : r < B32 := by show r < 4294967296; omega
          have HV := hide (hU.set k r); have HBE := hide (hbel.setCell (p := ⟨w.heap.size, k, none⟩) (Nat.le_refl _) (.int .u32 (r : Nat)))
          have HSET := hide (hset r); have HSUM := hide hsum; have HRO := hide (okV_snoc hRok hrb)
          clear hca hav havb hs1 hr hc' hsum hU hbel hset hrep hRv hrb
          go_wp2
          go_roundw
          case rel => exact ⟨k + 1, c', R ++ [r], by omega, by go_num, rfl, hc1, by rw [← unhide HSET]; exact unhide HV, by simp [hRl], unhide HRO, unhide HSUM, unhide HBE⟩
          case measure => simp [intOf]; omega
      · obtain rfl : k = xs.length := by omega
        rw [List.take_length, List.take_of_length_le (by omega)] at hRv
        rw [show xs.length + 1 - xs.length = 1 by omega] at hU
        have hU2 : VRow wr w.heap.size (R ++ [0]) := hU
        have hfr := hU2.frozen xs.length
        have hcell := hU2.cell xs.length 0 (by rw [List.getElem?_append_right (by omega)]; simp [hRl])
        have hset : (R ++ [0]).set xs.length cn = R ++ [cn] := by
          rw [List.set_append_right _ _ (by omega)]
          simp [hRl]
        have hUs := hU2.set xs.length cn
        rw [hset] at hUs
        have hok2 := okV_snoc hRok (show cn < B32 by show cn < 4294967296; omega)
        have hnv : natV (R ++ [cn]) = natV xs + natV ys := by
          rw [natV_append, hRl, ← hRv]
          simp only [natV, Nat.mul_zero, Nat.add_zero]
          grind
        have hll : (R ++ [cn]).length = xs.length + 1 := by simp [hRl]
        have n1 := trim_any (R ++ [cn]) w.heap.size 0 (xs.length + 1) _ hUs.wrow hok2 (by rw [hll]; omega) (by rw [hll]; omega) (by omega)
        rw [hnv, hll] at n1
        have hwd := wrow_dig hUs.wrow hok2
        rw [hnv] at hwd
        have hbe := hbel.setCell (p := ⟨w.heap.size, xs.length, none⟩) (Nat.le_refl _) (.int .u32 (cn : Nat))
        have wc : (cn : Int) % 4294967296 = (cn : Int) := by omega
        have N1 := hide n1; have HWD := hide hwd; have HBE := hide hbe
        clear n1 hwd hbe hU hU2 hUs hset hok2 hnv hRv hbel hll
        go_wp2_with fail
        refine (unhide N1).mono ?_
        rintro e w2 ⟨rfl, rfl⟩
        go_wp2
        go_ret
        exact ⟨⟨_, rfl, _, _, rfl, unhide HWD⟩, unhide HBE⟩
  · have hleI : (xs.length : Int) < (ys.length : Int) := by omega
    rw [Nat.add_comm (natV xs) (natV ys)]
    obtain ⟨i0, hi, hz0, hz1, hz2⟩ := info_partsV infoU32
    go_enter Try.func75, Try.ntmps75
    go_wp2_with (at_make; refine wpList_make_full _ rfl _ _ 66 rfl w.heap.size 79 i0 (.int .u32 0) 1 Try.underlying66 hi hz0 hz1 .i64 .i64 _ _ (ys.length + 1) rfl rfl (by simp) (by simp) (by rw [hz2]; omega) (by unfold maxLen; omega) (Nat.le_refl _) ?_)
    intro w1 hown hgrow
    have hU := made_vrow hown
    have hb : Below w.heap.size w w1 := (Below.refl _ _).grown hgrow (Nat.le_refl _) (fun q hq => by cases hq)
    clear hown hgrow hi hz0 hz1 hz2
    go_wp2
    go_loopw [6, 7] (fun c i wr => ∃ (k cn : Nat) (R : List Nat), k ≤ ys.length ∧ i = .int .i64 k ∧ c = .int .u64 cn ∧ cn ≤ 1 ∧ VRow wr w.heap.size (R ++ List.replicate (ys.length + 1 - k) 0) ∧ R.length = k ∧ okV R ∧ natV R + cn * B32 ^ k = natV (ys.take k) + natV (xs.take k) ∧ Below w.heap.size w wr) (fun _ i _ => ys.length - (intOf i).toNat)
    case atStart => exact ⟨0, 0, [], Nat.zero_le _, rfl, rfl, by omega, hU, rfl, okV_nil, by simp [natV], hb⟩
    case round =>
      clear hU hb
      obtain ⟨k, cn, R, hk, rfl, rfl, hcn, hU, hRl, hRok, hRv, hbel⟩ := hrel
      by_cases hlt : k < ys.length
      · obtain ⟨av, hav⟩ : ∃ x, ys[k]? = some x := ⟨_, List.getElem?_eq_getElem hlt⟩
        have havb : av < 4294967296 := okV_get okb hav
        rcases (unhide HB) with hnil | ⟨ga, oa, rfl, hga, hca⟩
        · rw [hnil] at hlt; simp at hlt
        have d0 : wr.cell? ⟨ga, oa + k, none⟩ = some (.int .u32 (av : Nat)) := (hbel.cell (p := ⟨ga, oa + k, none⟩) hga).trans (hca k av hav)
        have hrep : List.replicate (ys.length + 1 - k) 0 = 0 :: List.replicate (ys.length + 1 - (k + 1)) 0 := by
          rw [show ys.length + 1 - k = (ys.length + 1 - (k + 1)) + 1 by omega]; rfl
        rw [hrep] at hU
        have hfr := hU.frozen k
        have hcell := hU.cell k 0 (by rw [List.getElem?_append_right (by omega)]; simp [hRl])
        have hset : ∀ x : Nat, (R ++ 0 :: List.replicate (ys.length + 1 - (k + 1)) 0).set k x = (R ++ [x]) ++ List.replicate (ys.length + 1 - (k + 1)) 0 := fun x => by
          rw [List.set_append_right _ _ (by omega)]
          simp [hRl]
        have hkA : (k : Int) < (ys.length : Int) := by omega
        by_cases hltb : k < xs.length
        · obtain ⟨bv, hbv⟩ : ∃ x, xs[k]? = some x := ⟨_, List.getElem?_eq_getElem hltb⟩
          have hbvb : bv < 4294967296 := okV_get oka hbv
          rcases (unhide HA) with hnil | ⟨gb, ob, rfl, hgb, hcb⟩
          · rw [hnil] at hltb; simp at hltb
          have d1 : wr.cell? ⟨gb, ob + k, none⟩ = some (.int .u32 (bv : Nat)) := (hbel.cell (p := ⟨gb, ob + k, none⟩) hgb).trans (hcb k bv hbv)
          have hkB : (k : Int) < (xs.length : Int) := by omega
          obtain ⟨s1, hs1⟩ : ∃ s, s = cn + av := ⟨_, rfl⟩
          obtain ⟨s2, hs2⟩ : ∃ s, s = s1 + bv := ⟨_, rfl⟩
          obtain ⟨r, hr⟩ : ∃ r, r = s2 % 4294967296 := ⟨_, rfl⟩
          obtain ⟨c', hc'⟩ : ∃ r, r = s2 / 4294967296 := ⟨_, rfl⟩
          have hsum := add_step hRv hRl hav (.inl hbv) (show cn + av + bv = r + c' * 4294967296 by omega)
          have wa' : IntKind.u64.wrap (av : Int) = (av : Int) := wraps_u64 _ (by omega) (by omega)
          have w1' : IntKind.u64.wrap ((cn : Int) + (av : Int)) = (s1 : Int) := by rw [wraps_u64 _ (by omega) (by omega)]; omega
          have wb' : IntKind.u64.wrap (bv : Int) = (bv : Int) := wraps_u64 _ (by omega) (by omega)
          have w2' : IntKind.u64.wrap ((s1 : Int) + (bv : Int)) = (s2 : Int) := by rw [wraps_u64 _ (by omega) (by omega)]; omega
          have w3' : (s2 : Int) % 4294967296 = (r : Int) := by omega
          have w4' : (s2 : Int) / 4294967296 = (c' : Int) := by omega
          have hc1 : c' ≤ 1 := by omega
          have hrb : r < B32 := by show r < 4294967296; omega
          have HV := hide (hU.set k r); have HBE := hide (hbel.setCell (p := ⟨w.heap.size, k, none⟩) (Nat.le_refl _) (.int .u32 (r : Nat)))
          have HSET := hide (hset r); have HSUM := hide hsum; have HRO := hide (okV_snoc hRok hrb)
          clear hca hcb hav hbv havb hbvb hs1 hs2 hr hc' hsum hU hbel hset hrep hRv hrb
          go_wp2
          go_roundw
          case rel => exact ⟨k + 1, c', R ++ [r], by omega, by go_num, rfl, hc1, by rw [← unhide HSET]; exact unhide HV, by simp [hRl], unhide HRO, unhide HSUM, unhide HBE⟩
          case measure => simp [intOf]; omega
        · obtain ⟨s1, hs1⟩ : ∃ s, s = cn + av := ⟨_, rfl⟩
          obtain ⟨r, hr⟩ : ∃ r, r = s1 % 4294967296 := ⟨_, rfl⟩
          obtain ⟨c', hc'⟩ : ∃ r, r = s1 / 4294967296 := ⟨_, rfl⟩
          have hsum := add_step hRv hRl hav (.inr ⟨rfl, by omega⟩) (show cn + av + 0 = r + c' * 4294967296 by omega)
          have wa' : IntKind.u64.wrap (av : Int) = (av : Int) := wraps_u64 _ (by omega) (by omega)
          have w1' : IntKind.u64.wrap ((cn : Int) + (av : Int)) = (s1 : Int) := by rw [wraps_u64 _ (by omega) (by omega)]; omega
          have w3' : (s1 : Int) % 4294967296 = (r : Int) := by omega
          have w4' : (s1 : Int) / 4294967296 = (c' : Int) := by omega
          have hkB : ¬ (k : Int) < (xs.length : Int) := by omega
          have hc1 : c' ≤ 1 := by omega
          have hrb : r < B32 := by show r < 4294967296; omega
          have HV := hide (hU.set k r); have HBE := hide (hbel.setCell (p := ⟨w.heap.size, k, none⟩) (Nat.le_refl _) (.int .u32 (r : Nat)))
          have HSET := hide (hset r); have HSUM := hide hsum; have HRO := hide (okV_snoc hRok hrb)
          clear hca hav havb hs1 hr hc' hsum hU hbel hset hrep hRv hrb
          go_wp2
          go_roundw
          case rel => exact ⟨k + 1, c', R ++ [r], by omega, by go_num, rfl, hc1, by rw [← unhide HSET]; exact unhide HV, by simp [hRl], unhide HRO, unhide HSUM, unhide HBE⟩
          case measure => simp [intOf]; omega
      · obtain rfl : k = ys.length := by omega
        rw [List.take_length, List.take_of_length_le (by omega)] at hRv
        rw [show ys.length + 1 - ys.length = 1 by omega] at hU
        have hU2 : VRow wr w.heap.size (R ++ [0]) := hU
        have hfr := hU2.frozen ys.length
        have hcell := hU2.cell ys.length 0 (by rw [List.getElem?_append_right (by omega)]; simp [hRl])
        have hset : (R ++ [0]).set ys.length cn = R ++ [cn] := by
          rw [List.set_append_right _ _ (by omega)]
          simp [hRl]
        have hUs := hU2.set ys.length cn
        rw [hset] at hUs
        have hok2 := okV_snoc hRok (show cn < B32 by show cn < 4294967296; omega)
        have hnv : natV (R ++ [cn]) = natV ys + natV xs := by
          rw [natV_append, hRl, ← hRv]
          simp only [natV, Nat.mul_zero, Nat.add_zero]
          grind
        have hll : (R ++ [cn]).length = ys.length + 1 := by simp [hRl]
        have n1 := trim_any (R ++ [cn]) w.heap.size 0 (ys.length + 1) _ hUs.wrow hok2 (by rw [hll]; omega) (by rw [hll]; omega) (by omega)
        rw [hnv, hll] at n1
        have hwd := wrow_dig hUs.wrow hok2
        rw [hnv] at hwd
        have hbe := hbel.setCell (p := ⟨w.heap.size, ys.length, none⟩) (Nat.le_refl _) (.int .u32 (cn : Nat))
        have wc : (cn : Int) % 4294967296 = (cn : Int) := by omega
        have N1 := hide n1; have HWD := hide hwd; have HBE := hide hbe
        clear n1 hwd hbe hU hU2 hUs hset hok2 hnv hRv hbel hll
        go_wp2_with fail
        refine (unhide N1).mono ?_
        rintro e w2 ⟨rfl, rfl⟩
        go_wp2
        go_ret
        exact ⟨⟨_, rfl, _, _, rfl, unhide HWD⟩, unhide HBE⟩
theorem add_any (a b : Nat) (va vb : Value) (w : World) (ha : BigV w va a) (hb : BigV w vb b) (hla : a < B32 ^ 10000) (hlb : b < B32 ^ 10000) :
    Calls Try.prog 75 #[va, vb] w fun e w' => (∃ v, e = .returned v ∧ BigV w' v (a + b)) ∧ Below w.heap.size w w' := by
  obtain ⟨ao, ca, rfl, hra⟩ := ha
  obtain ⟨bo, cb, rfl, hrb⟩ := hb
  have h1 := dig_len 10000 a hla
  have h2 := dig_len 10000 b hlb
  have := add_rows (dig a) (dig b) ao bo ca cb w hra hrb (okV_dig a) (okV_dig b) (by omega) (by omega)
  rw [natV_dig, natV_dig] at this
  exact this
end Go.Proofs.Ytolicaaifhfhcaa
