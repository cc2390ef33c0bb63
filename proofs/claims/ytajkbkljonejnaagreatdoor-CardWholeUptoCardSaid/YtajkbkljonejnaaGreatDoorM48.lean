/- A card's plan that is handed in, opened. -/
import Derived.Test.YtajkbkljonejnaaGreatDoorM14
import Derived.Test.YtajkbkljonejnaaGreatDoorM34
namespace Go.Proofs.YtajkbkljonejnaaGreatDoor
open Go.ChangeShapes Go.WideShapes Go.ChangeAt Go.RowKit Go.Deep
set_option linter.unusedVariables false
set_option linter.unusedSimpArgs false
set_option maxRecDepth 100000
theorem bulk_posC {H : Type} (d : DataW H) : 1 ≤ Rows.uptoBulk d := by
  cases d with
  | lit x => cases x <;> simp [Rows.uptoBulk]
  | _ => simp [Rows.uptoBulk]
theorem bulkAll_length {H : Type} {es : List (DataW H)} : es.length ≤ Rows.uptoBulkAll es := by
  induction es with
  | nil => simp
  | cons d r ih =>
    have := bulk_posC d
    simp only [Rows.uptoBulkAll, List.length_cons]
    omega
structure XSecret where
  p : ByteArray
  q : ByteArray
deriving Inhabited
def okSecret (W : World) (x : XSecret) : Prop := x.p.size ≤ maxLen ∧ x.q.size ≤ maxLen
theorem cellsOfSecret : Tryz.prog.cellsOf 23 = 2 := by kernel_rfl
theorem okSecret.below {W W' : World} {x : XSecret} (h : okSecret W x) (hb : Below W.heap.size W W') : okSecret W' x := by
  obtain ⟨h0, h1⟩ := h
  exact ⟨h0, h1⟩
def bulkSecret (x : XSecret) : Nat := x.p.size + x.q.size
theorem opencbSecret {H : Type} {enc : TypeId × Value → H} {W : World} {k : Nat} {cs : List Value} {y : DataW H × List MemPlace}
    (h : DataW.trod enc Tryz.prog W 0 (fun _ => true) true k 23 cs = some y) :
    ∃ x : XSecret, cs = [.string x.p, .string x.q] ∧ okSecret W x ∧ bulkSecret x ≤ Rows.uptoBulk y.1 := by
  obtain ⟨xs, k', _, hagg, hsz, hlen, hq⟩ := DataW.trod_struct Tryz.underlying23 h
  rw [cellsOfSecret] at hsz
  match cs, hsz with
  | [c0, c1], _ =>
    match xs, hlen, hagg with
    | [y0, y1], _, hagg =>
      have hbk := congrArg Rows.uptoBulk (Prod.ext_iff.1 hagg).1
      have h0 : DataW.trod enc Tryz.prog W 0 (fun _ => true) true k' 9 [c0] = some y0 := by simpa [cellsOfBool, cellsOfInt, cellsOfString] using hq 0 _ rfl
      obtain ⟨z0, e0, g0, w0⟩ := DataW.trod_string Tryz.underlying9 h0
      have l0 : z0.data.toList.length = z0.size := by simp
      subst g0
      have h1 : DataW.trod enc Tryz.prog W 0 (fun _ => true) true k' 9 [c1] = some y1 := by simpa [cellsOfBool, cellsOfInt, cellsOfString] using hq 1 _ rfl
      obtain ⟨z1, e1, g1, w1⟩ := DataW.trod_string Tryz.underlying9 h1
      have l1 : z1.data.toList.length = z1.size := by simp
      subst g1
      simp at e0 e1
      subst e0
      subst e1
      refine ⟨⟨z0, z1⟩, rfl, ⟨w0, w1⟩, ?_⟩
      simp only [List.map_cons, List.map_nil, Rows.uptoBulk, Rows.uptoBulkAll] at hbk
      rw [hbk]
      unfold bulkSecret
      dsimp only
      omega
structure XField where
  tag : Int
  len : Int
deriving Inhabited
def okField (W : World) (x : XField) : Prop := (-9223372036854775808 ≤ x.tag ∧ x.tag ≤ 9223372036854775807) ∧ (-9223372036854775808 ≤ x.len ∧ x.len ≤ 9223372036854775807)
theorem cellsOfField : Tryz.prog.cellsOf 72 = 2 := by kernel_rfl
theorem okField.below {W W' : World} {x : XField} (h : okField W x) (hb : Below W.heap.size W W') : okField W' x := by
  obtain ⟨h0, h1⟩ := h
  exact ⟨h0, h1⟩
theorem opencField {H : Type} {enc : TypeId × Value → H} {W : World} {k : Nat} {cs : List Value} {y : DataW H × List MemPlace}
    (h : DataW.trod enc Tryz.prog W 0 (fun _ => true) true k 72 cs = some y) :
    ∃ x : XField, cs = [.int .i64 x.tag, .int .i64 x.len] ∧ okField W x := by
  obtain ⟨xs, k', _, _, hsz, hlen, hq⟩ := DataW.trod_struct Tryz.underlying72 h
  rw [cellsOfField] at hsz
  match cs, hsz with
  | [c0, c1], _ =>
    match xs, hlen with
    | [y0, y1], _ =>
      have h0 : DataW.trod enc Tryz.prog W 0 (fun _ => true) true k' 3 [c0] = some y0 := by simpa [cellsOfBool, cellsOfInt, cellsOfString] using hq 0 _ rfl
      obtain ⟨z0, e0, g0, w0⟩ := DataW.trod_int Tryz.underlying3 h0
      have h1 : DataW.trod enc Tryz.prog W 0 (fun _ => true) true k' 3 [c1] = some y1 := by simpa [cellsOfBool, cellsOfInt, cellsOfString] using hq 1 _ rfl
      obtain ⟨z1, e1, g1, w1⟩ := DataW.trod_int Tryz.underlying3 h1
      simp at e0 e1
      subst e0
      subst e1
      exact ⟨⟨z0, z1⟩, rfl, ⟨bounds_i64 w0, bounds_i64 w1⟩⟩
def RowField (W : World) (ao : Option Addr) (l : List XField) : Prop :=
  (l = [] ∨ ∃ b off, ao = some ⟨b, off, none⟩ ∧ b < W.heap.size ∧ ∀ i x, l[i]? = some x → W.cell? ⟨b, off + i * 2, none⟩ = some (.int .i64 x.tag) ∧ W.cell? ⟨b, off + i * 2 + 1, none⟩ = some (.int .i64 x.len)) ∧ (∀ x ∈ l, okField W x) ∧ l.length ≤ maxLen
theorem RowField.below {W W' : World} {ao : Option Addr} {l : List XField} (h : RowField W ao l) (hb : Below W.heap.size W W') : RowField W' ao l := by
  obtain ⟨h, ho, hm⟩ := h
  refine ⟨?_, fun x hx => (ho x hx).below hb, hm⟩
  rcases h with h | ⟨b, off, e, hlt, hc⟩
  · exact .inl h
  · refine .inr ⟨b, off, e, Nat.lt_of_lt_of_le hlt hb.size, fun i s hi => ?_⟩
    obtain ⟨c0, c1⟩ := hc i s hi
    exact ⟨(hb.cell (p := ⟨b, off + i * 2, none⟩) hlt).trans c0, (hb.cell (p := ⟨b, off + i * 2 + 1, none⟩) hlt).trans c1⟩
theorem cellsOfSlField : Tryz.prog.cellsOf 24 = 1 := by kernel_rfl
theorem openrField {H : Type} {enc : TypeId × Value → H} {W : World} {k : Nat} {cs : List Value} {y : DataW H × List MemPlace}
    (h : DataW.trod enc Tryz.prog W 0 (fun _ => true) true k 24 cs = some y) :
    ∃ (ao : Option Addr) (l : List XField) (cap : Nat), cs = [.slice ao l.length cap] ∧ RowField W ao l ∧ l.length ≤ cap ∧ (l = [] ∨ ∃ es ss, y.1 = .slice es ss ∧ es.length = l.length) := by
  rcases open_slice Tryz.underlying24 h with ⟨rfl, rfl⟩ | ⟨a, len, cap, mm, nn, D, Pl, rfl, _, hl, hm, hmm, hx, hel⟩
  · exact ⟨none, [], 0, rfl, ⟨.inl rfl, by simp, by simp⟩, Nat.le_refl _, .inl rfl⟩
  · simp only [if_true] at hmm
    rw [cellsOfField] at hel
    obtain ⟨F, hF⟩ := choose_lt (α := XField) (n := mm) (p := fun i x => (W.cell? ((a.add (i * 2)).add 0) = some (.int .i64 x.tag) ∧ W.cell? ((a.add (i * 2)).add 1) = some (.int .i64 x.len)) ∧ okField W x) (fun i hi => by
      obtain ⟨cs', h1, h2⟩ := hel i hi
      obtain ⟨x, rfl, hok⟩ := opencField h2
      obtain ⟨_, _, hc⟩ := World.cells?_some h1
      exact ⟨x, ⟨hc 0 (by omega), hc 1 (by omega)⟩, hok⟩)
    refine ⟨some a, (List.range len).map F, cap, by simp, ⟨?_, ?_, by rw [List.length_map, List.length_range]; omega⟩, by rw [List.length_map, List.length_range]; exact hl, .inr ⟨_, _, by rw [hx], by simp⟩⟩
    · by_cases hl0 : len = 0
      · subst hl0; exact .inl rfl
      · obtain ⟨b, off, spot⟩ := a
        have hc0 := (hF 0 (by omega)).1.1
        have hspot : spot = none := by simpa [Addr.add] using World.cell?_spot hc0
        subst hspot
        refine .inr ⟨b, off, rfl, by simpa [Addr.add] using cell_ltR hc0, fun i x hi => ?_⟩
        have hi' : i < len := by
          rcases Nat.lt_or_ge i len with h | h
          · exact h
          · rw [List.getElem?_eq_none (by simpa using h)] at hi; cases hi
        rw [List.getElem?_map, List.getElem?_range hi'] at hi
        obtain rfl : F i = x := by simpa using hi
        have := (hF i (by omega)).1
        simp only [WideShapes.add_plain, Nat.add_zero] at this
        exact this
    · intro x hx
      obtain ⟨i, hi, rfl⟩ := List.mem_map.1 hx
      exact (hF i (by have : i < len := by simpa using hi
                      omega)).2
structure XPlan where
  id : ByteArray
  pin : ByteArray
  key : ByteArray
  purse : Int
  one : Int
  runs : Int
  tries : Int
  version : Int
  secret : XSecret
  rowo : Option Addr
  row : List XField
  rowc : Nat
deriving Inhabited
def valPlan (x : XPlan) : Value := .agg #[.string x.id, .string x.pin, .string x.key, .int .i64 x.purse, .int .i64 x.one, .int .i64 x.runs, .int .i64 x.tries, .int .i64 x.version, .string x.secret.p, .string x.secret.q, .slice x.rowo x.row.length x.rowc]
def okPlan (W : World) (x : XPlan) : Prop := x.id.size ≤ maxLen ∧ x.pin.size ≤ maxLen ∧ x.key.size ≤ maxLen ∧ (-9223372036854775808 ≤ x.purse ∧ x.purse ≤ 9223372036854775807) ∧ (-9223372036854775808 ≤ x.one ∧ x.one ≤ 9223372036854775807) ∧ (-9223372036854775808 ≤ x.runs ∧ x.runs ≤ 9223372036854775807) ∧ (-9223372036854775808 ≤ x.tries ∧ x.tries ≤ 9223372036854775807) ∧ (-9223372036854775808 ≤ x.version ∧ x.version ≤ 9223372036854775807) ∧ okSecret W x.secret ∧ RowField W x.rowo x.row
theorem cellsOfPlan : Tryz.prog.cellsOf 26 = 11 := by kernel_rfl
theorem okPlan.below {W W' : World} {x : XPlan} (h : okPlan W x) (hb : Below W.heap.size W W') : okPlan W' x := by
  obtain ⟨h0, h1, h2, h3, h4, h5, h6, h7, h8, h9⟩ := h
  exact ⟨h0, h1, h2, h3, h4, h5, h6, h7, h8.below hb, h9.below hb⟩
def bulkPlan (x : XPlan) : Nat := x.id.size + x.pin.size + x.key.size + bulkSecret x.secret + x.row.length
theorem opencbPlan {H : Type} {enc : TypeId × Value → H} {W : World} {k : Nat} {cs : List Value} {y : DataW H × List MemPlace}
    (h : DataW.trod enc Tryz.prog W 0 (fun _ => true) true k 26 cs = some y) :
    ∃ x : XPlan, cs = [.string x.id, .string x.pin, .string x.key, .int .i64 x.purse, .int .i64 x.one, .int .i64 x.runs, .int .i64 x.tries, .int .i64 x.version, .string x.secret.p, .string x.secret.q, .slice x.rowo x.row.length x.rowc] ∧ okPlan W x ∧ bulkPlan x ≤ Rows.uptoBulk y.1 := by
  obtain ⟨xs, k', _, hagg, hsz, hlen, hq⟩ := DataW.trod_struct Tryz.underlying26 h
  rw [cellsOfPlan] at hsz
  match cs, hsz with
  | [c0, c1, c2, c3, c4, c5, c6, c7, c8, c9, c10], _ =>
    match xs, hlen, hagg with
    | [y0, y1, y2, y3, y4, y5, y6, y7, y8, y9], _, hagg =>
      have hbk := congrArg Rows.uptoBulk (Prod.ext_iff.1 hagg).1
      have h0 : DataW.trod enc Tryz.prog W 0 (fun _ => true) true k' 9 [c0] = some y0 := by simpa [cellsOfBool, cellsOfInt, cellsOfSecret, cellsOfSlField, cellsOfString] using hq 0 _ rfl
      obtain ⟨z0, e0, g0, w0⟩ := DataW.trod_string Tryz.underlying9 h0
      have l0 : z0.data.toList.length = z0.size := by simp
      subst g0
      have h1 : DataW.trod enc Tryz.prog W 0 (fun _ => true) true k' 9 [c1] = some y1 := by simpa [cellsOfBool, cellsOfInt, cellsOfSecret, cellsOfSlField, cellsOfString] using hq 1 _ rfl
      obtain ⟨z1, e1, g1, w1⟩ := DataW.trod_string Tryz.underlying9 h1
      have l1 : z1.data.toList.length = z1.size := by simp
      subst g1
      have h2 : DataW.trod enc Tryz.prog W 0 (fun _ => true) true k' 9 [c2] = some y2 := by simpa [cellsOfBool, cellsOfInt, cellsOfSecret, cellsOfSlField, cellsOfString] using hq 2 _ rfl
      obtain ⟨z2, e2, g2, w2⟩ := DataW.trod_string Tryz.underlying9 h2
      have l2 : z2.data.toList.length = z2.size := by simp
      subst g2
      have h3 : DataW.trod enc Tryz.prog W 0 (fun _ => true) true k' 3 [c3] = some y3 := by simpa [cellsOfBool, cellsOfInt, cellsOfSecret, cellsOfSlField, cellsOfString] using hq 3 _ rfl
      obtain ⟨z3, e3, g3, w3⟩ := DataW.trod_int Tryz.underlying3 h3
      subst g3
      have h4 : DataW.trod enc Tryz.prog W 0 (fun _ => true) true k' 3 [c4] = some y4 := by simpa [cellsOfBool, cellsOfInt, cellsOfSecret, cellsOfSlField, cellsOfString] using hq 4 _ rfl
      obtain ⟨z4, e4, g4, w4⟩ := DataW.trod_int Tryz.underlying3 h4
      subst g4
      have h5 : DataW.trod enc Tryz.prog W 0 (fun _ => true) true k' 3 [c5] = some y5 := by simpa [cellsOfBool, cellsOfInt, cellsOfSecret, cellsOfSlField, cellsOfString] using hq 5 _ rfl
      obtain ⟨z5, e5, g5, w5⟩ := DataW.trod_int Tryz.underlying3 h5
      subst g5
      have h6 : DataW.trod enc Tryz.prog W 0 (fun _ => true) true k' 3 [c6] = some y6 := by simpa [cellsOfBool, cellsOfInt, cellsOfSecret, cellsOfSlField, cellsOfString] using hq 6 _ rfl
      obtain ⟨z6, e6, g6, w6⟩ := DataW.trod_int Tryz.underlying3 h6
      subst g6
      have h7 : DataW.trod enc Tryz.prog W 0 (fun _ => true) true k' 3 [c7] = some y7 := by simpa [cellsOfBool, cellsOfInt, cellsOfSecret, cellsOfSlField, cellsOfString] using hq 7 _ rfl
      obtain ⟨z7, e7, g7, w7⟩ := DataW.trod_int Tryz.underlying3 h7
      subst g7
      have h8 : DataW.trod enc Tryz.prog W 0 (fun _ => true) true k' 23 [c8, c9] = some y8 := by simpa [cellsOfBool, cellsOfInt, cellsOfSecret, cellsOfSlField, cellsOfString] using hq 8 _ rfl
      obtain ⟨z8, e8, w8, b8⟩ := opencbSecret h8
      have h9 : DataW.trod enc Tryz.prog W 0 (fun _ => true) true k' 24 [c10] = some y9 := by simpa [cellsOfBool, cellsOfInt, cellsOfSecret, cellsOfSlField, cellsOfString] using hq 9 _ rfl
      obtain ⟨zo9, z9, zc9, e9, w9, wc9, hl9⟩ := openrField h9
      have b9 : z9.length ≤ Rows.uptoBulk y9.1 := by
        rcases hl9 with hd | ⟨es, ss, hd, hes⟩
        · rw [hd]; simp
        · rw [hd]
          simp only [Rows.uptoBulk]
          have := bulkAll_length (es := es)
          omega
      simp at e0 e1 e2 e3 e4 e5 e6 e7 e8 e9
      subst e0
      subst e1
      subst e2
      subst e3
      subst e4
      subst e5
      subst e6
      subst e7
      obtain ⟨rfl, rfl⟩ := e8
      subst e9
      refine ⟨⟨z0, z1, z2, z3, z4, z5, z6, z7, z8, zo9, z9, zc9⟩, rfl, ⟨w0, w1, w2, bounds_i64 w3, bounds_i64 w4, bounds_i64 w5, bounds_i64 w6, bounds_i64 w7, w8, w9⟩, ?_⟩
      simp only [List.map_cons, List.map_nil, Rows.uptoBulk, Rows.uptoBulkAll] at hbk
      rw [hbk]
      unfold bulkPlan
      dsimp only
      omega
theorem openbPlan {H : Type} {enc : TypeId × Value → H} {W : World} {b0 : Nat} {r : Reach} {v : Value} {d : DataW H} {p : List MemPlace}
    (hv : Value.okWide Tryz.prog W r b0 26 v) (h : DataW.Trod enc Tryz.prog W 0 (fun _ => true) true 26 v d p) : ∃ x : XPlan, v = valPlan x ∧ okPlan W x ∧ bulkPlan x ≤ Rows.uptoBulk d := by
  obtain ⟨cs, rfl, hsz⟩ := okWide_struct Tryz.underlying26 hv
  obtain ⟨fuel, hf⟩ := h
  obtain ⟨x, hx, ho, hb⟩ := opencbPlan hf
  obtain ⟨l⟩ := cs
  simp only [Value.cells] at hx
  subst hx
  exact ⟨x, rfl, ho, hb⟩
def pairC (x : XField) : Int × Int := (x.tag, x.len)
theorem frow_fieldC {W : World} {ao : Option Addr} {l : List XField} (h : RowField W ao l) : FRow W ao (l.map pairC) := by
  obtain ⟨h, _, _⟩ := h
  rcases h with rfl | ⟨b, off, e, hlt, hc⟩
  · exact .inl rfl
  · refine .inr ⟨b, off, e, hlt, fun i hi => ?_⟩
    rw [List.length_map] at hi
    have hx : l[i]? = some l[i] := List.getElem?_eq_getElem hi
    obtain ⟨c0, c1⟩ := hc i _ hx
    have e2 : (l.map pairC).getD i (0, 0) = pairC l[i] := by
      rw [List.getD_eq_getElem?_getD, List.getElem?_map, hx]; rfl
    rw [e2]
    exact ⟨c0, c1⟩
end Go.Proofs.YtajkbkljonejnaaGreatDoor
