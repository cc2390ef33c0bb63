/- Applications, and what a shop knows, that are handed in, opened. -/
import Derived.Test.YtfpglpefofcdeaaDoorM00
import Derived.Test.YtfpglpefofcdeaaDoorRows
namespace Go.Proofs.YtfpglpefofcdeaaDoor
open Go.ChangeShapes Go.WideShapes Go.ChangeAt Go.RowKit Go.Deep
set_option linter.unusedVariables false
set_option maxRecDepth 100000

structure XApp where
  name : ByteArray
  label : ByteArray
  prio : Int
  confirm : Bool
deriving Inhabited
def valApp (x : XApp) : Value := .agg #[.string x.name, .string x.label, .int .i64 x.prio, .bool x.confirm]
def okApp (W : World) (x : XApp) : Prop := x.name.size ≤ maxLen ∧ x.label.size ≤ maxLen ∧ (-9223372036854775808 ≤ x.prio ∧ x.prio ≤ 9223372036854775807)
theorem cellsOfApp : Tryd.prog.cellsOf 169 = 4 := by kernel_rfl
theorem okApp.below {W W' : World} {x : XApp} (h : okApp W x) (hb : Below W.heap.size W W') : okApp W' x := by
  obtain ⟨h0, h1, h2⟩ := h
  exact ⟨h0, h1, h2⟩
theorem opencApp {H : Type} {enc : TypeId × Value → H} {W : World} {k : Nat} {cs : List Value} {y : DataW H × List MemPlace}
    (h : DataW.trod enc Tryd.prog W 0 (fun _ => true) true k 169 cs = some y) :
    ∃ x : XApp, cs = [.string x.name, .string x.label, .int .i64 x.prio, .bool x.confirm] ∧ okApp W x := by
  obtain ⟨xs, k', _, _, hsz, hlen, hq⟩ := DataW.trod_struct Tryd.underlying169 h
  rw [cellsOfApp] at hsz
  match cs, hsz with
  | [c0, c1, c2, c3], _ =>
    match xs, hlen with
    | [y0, y1, y2, y3], _ =>
      have h0 : DataW.trod enc Tryd.prog W 0 (fun _ => true) true k' 9 [c0] = some y0 := by simpa [cellsOfBool, cellsOfInt, cellsOfString] using hq 0 _ rfl
      obtain ⟨z0, e0, g0, w0⟩ := DataW.trod_string Tryd.underlying9 h0
      have h1 : DataW.trod enc Tryd.prog W 0 (fun _ => true) true k' 9 [c1] = some y1 := by simpa [cellsOfBool, cellsOfInt, cellsOfString] using hq 1 _ rfl
      obtain ⟨z1, e1, g1, w1⟩ := DataW.trod_string Tryd.underlying9 h1
      have h2 : DataW.trod enc Tryd.prog W 0 (fun _ => true) true k' 3 [c2] = some y2 := by simpa [cellsOfBool, cellsOfInt, cellsOfString] using hq 2 _ rfl
      obtain ⟨z2, e2, g2, w2⟩ := DataW.trod_int Tryd.underlying3 h2
      have h3 : DataW.trod enc Tryd.prog W 0 (fun _ => true) true k' 4 [c3] = some y3 := by simpa [cellsOfBool, cellsOfInt, cellsOfString] using hq 3 _ rfl
      obtain ⟨z3, e3, g3⟩ := DataW.trod_bool Tryd.underlying4 h3
      simp at e0 e1 e2 e3
      subst e0
      subst e1
      subst e2
      subst e3
      exact ⟨⟨z0, z1, z2, z3⟩, rfl, ⟨w0, w1, bounds_i64 w2⟩⟩
theorem openApp {H : Type} {enc : TypeId × Value → H} {W : World} {b0 : Nat} {r : Reach} {v : Value} {d : DataW H} {p : List MemPlace}
    (hv : Value.okWide Tryd.prog W r b0 169 v) (h : DataW.Trod enc Tryd.prog W 0 (fun _ => true) true 169 v d p) : ∃ x : XApp, v = valApp x ∧ okApp W x := by
  obtain ⟨cs, rfl, hsz⟩ := okWide_struct Tryd.underlying169 hv
  obtain ⟨fuel, hf⟩ := h
  obtain ⟨x, hx, ho⟩ := opencApp hf
  obtain ⟨l⟩ := cs
  simp only [Value.cells] at hx
  subst hx
  exact ⟨x, rfl, ho⟩
def RowApp (W : World) (ao : Option Addr) (l : List XApp) : Prop :=
  (l = [] ∨ ∃ b off, ao = some ⟨b, off, none⟩ ∧ b < W.heap.size ∧ ∀ i x, l[i]? = some x → W.cell? ⟨b, off + i * 4, none⟩ = some (.string x.name) ∧ W.cell? ⟨b, off + i * 4 + 1, none⟩ = some (.string x.label) ∧ W.cell? ⟨b, off + i * 4 + 2, none⟩ = some (.int .i64 x.prio) ∧ W.cell? ⟨b, off + i * 4 + 3, none⟩ = some (.bool x.confirm)) ∧ (∀ x ∈ l, okApp W x) ∧ l.length ≤ maxLen
theorem RowApp.below {W W' : World} {ao : Option Addr} {l : List XApp} (h : RowApp W ao l) (hb : Below W.heap.size W W') : RowApp W' ao l := by
  obtain ⟨h, ho, hm⟩ := h
  refine ⟨?_, fun x hx => (ho x hx).below hb, hm⟩
  rcases h with h | ⟨b, off, e, hlt, hc⟩
  · exact .inl h
  · refine .inr ⟨b, off, e, Nat.lt_of_lt_of_le hlt hb.size, fun i s hi => ?_⟩
    obtain ⟨c0, c1, c2, c3⟩ := hc i s hi
    exact ⟨(hb.cell (p := ⟨b, off + i * 4, none⟩) hlt).trans c0, (hb.cell (p := ⟨b, off + i * 4 + 1, none⟩) hlt).trans c1, (hb.cell (p := ⟨b, off + i * 4 + 2, none⟩) hlt).trans c2, (hb.cell (p := ⟨b, off + i * 4 + 3, none⟩) hlt).trans c3⟩
theorem cellsOfSlApp : Tryd.prog.cellsOf 49 = 1 := by kernel_rfl
theorem openrApp {H : Type} {enc : TypeId × Value → H} {W : World} {k : Nat} {cs : List Value} {y : DataW H × List MemPlace}
    (h : DataW.trod enc Tryd.prog W 0 (fun _ => true) true k 49 cs = some y) :
    ∃ (ao : Option Addr) (l : List XApp) (cap : Nat), cs = [.slice ao l.length cap] ∧ RowApp W ao l ∧ l.length ≤ cap ∧ (l = [] ∨ ∃ es ss, y.1 = .slice es ss ∧ es.length = l.length) := by
  rcases open_slice Tryd.underlying49 h with ⟨rfl, rfl⟩ | ⟨a, len, cap, mm, nn, D, Pl, rfl, _, hl, hm, hmm, hx, hel⟩
  · exact ⟨none, [], 0, rfl, ⟨.inl rfl, by simp, by simp⟩, Nat.le_refl _, .inl rfl⟩
  · simp only [if_true] at hmm
    rw [cellsOfApp] at hel
    obtain ⟨F, hF⟩ := choose_lt (α := XApp) (n := mm) (p := fun i x => (W.cell? ((a.add (i * 4)).add 0) = some (.string x.name) ∧ W.cell? ((a.add (i * 4)).add 1) = some (.string x.label) ∧ W.cell? ((a.add (i * 4)).add 2) = some (.int .i64 x.prio) ∧ W.cell? ((a.add (i * 4)).add 3) = some (.bool x.confirm)) ∧ okApp W x) (fun i hi => by
      obtain ⟨cs', h1, h2⟩ := hel i hi
      obtain ⟨x, rfl, hok⟩ := opencApp h2
      obtain ⟨_, _, hc⟩ := World.cells?_some h1
      exact ⟨x, ⟨hc 0 (by omega), hc 1 (by omega), hc 2 (by omega), hc 3 (by omega)⟩, hok⟩)
    refine ⟨some a, (List.range len).map F, cap, by simp, ⟨?_, ?_, by rw [List.length_map, List.length_range]; omega⟩, by rw [List.length_map, List.length_range]; exact hl, .inr ⟨_, _, by rw [hx], by simp⟩⟩
    · by_cases hl0 : len = 0
      · subst hl0; exact .inl rfl
      · obtain ⟨b, off, spot⟩ := a
        have hc0 := (hF 0 (by omega)).1.1
        have hspot : spot = none := by simpa [Addr.add] using World.cell?_spot hc0
        subst hspot
        refine .inr ⟨b, off, rfl, by simpa [Addr.add] using cell_ltR hc0, fun i x hi => ?_⟩
        have hi' : i < len := by
          rcases Nat.lt_or_ge i len with h | h
          · exact h
          · rw [List.getElem?_eq_none (by simpa using h)] at hi; cases hi
        rw [List.getElem?_map, List.getElem?_range hi'] at hi
        obtain rfl : F i = x := by simpa using hi
        have := (hF i (by omega)).1
        simp only [WideShapes.add_plain, Nat.add_zero] at this
        exact this
    · intro x hx
      obtain ⟨i, hi, rfl⟩ := List.mem_map.1 hx
      exact (hF i (by have : i < len := by simpa using hi
                      omega)).2
theorem openRApp {H : Type} {enc : TypeId × Value → H} {W : World} {b0 : Nat} {r : Reach} {v : Value} {d : DataW H} {p : List MemPlace}
    (hv : Value.okWide Tryd.prog W r b0 49 v) (h : DataW.Trod enc Tryd.prog W 0 (fun _ => true) true 49 v d p) : ∃ (ao : Option Addr) (l : List XApp) (cap : Nat), v = .slice ao l.length cap ∧ RowApp W ao l ∧ (l = [] ∨ ∃ es ss, d = .slice es ss ∧ es.length = l.length) := by
  obtain ⟨a0, len, cap, rfl⟩ := okWide_slice Tryd.underlying49 hv
  obtain ⟨fuel, hf⟩ := h
  obtain ⟨ao, l, cap', hx, hr, _, hd⟩ := openrApp hf
  simp [Value.cells] at hx
  obtain ⟨rfl, rfl, rfl⟩ := hx
  exact ⟨_, l, _, rfl, hr, hd⟩
structure XKnown where
  name : ByteArray
  part : Bool
deriving Inhabited
def valKnown (x : XKnown) : Value := .agg #[.string x.name, .bool x.part]
def okKnown (W : World) (x : XKnown) : Prop := x.name.size ≤ maxLen
theorem cellsOfKnown : Tryd.prog.cellsOf 65 = 2 := by kernel_rfl
theorem okKnown.below {W W' : World} {x : XKnown} (h : okKnown W x) (hb : Below W.heap.size W W') : okKnown W' x := by
  exact h
theorem opencKnown {H : Type} {enc : TypeId × Value → H} {W : World} {k : Nat} {cs : List Value} {y : DataW H × List MemPlace}
    (h : DataW.trod enc Tryd.prog W 0 (fun _ => true) true k 65 cs = some y) :
    ∃ x : XKnown, cs = [.string x.name, .bool x.part] ∧ okKnown W x := by
  obtain ⟨xs, k', _, _, hsz, hlen, hq⟩ := DataW.trod_struct Tryd.underlying65 h
  rw [cellsOfKnown] at hsz
  match cs, hsz with
  | [c0, c1], _ =>
    match xs, hlen with
    | [y0, y1], _ =>
      have h0 : DataW.trod enc Tryd.prog W 0 (fun _ => true) true k' 9 [c0] = some y0 := by simpa [cellsOfBool, cellsOfInt, cellsOfString] using hq 0 _ rfl
      obtain ⟨z0, e0, g0, w0⟩ := DataW.trod_string Tryd.underlying9 h0
      have h1 : DataW.trod enc Tryd.prog W 0 (fun _ => true) true k' 4 [c1] = some y1 := by simpa [cellsOfBool, cellsOfInt, cellsOfString] using hq 1 _ rfl
      obtain ⟨z1, e1, g1⟩ := DataW.trod_bool Tryd.underlying4 h1
      simp at e0 e1
      subst e0
      subst e1
      exact ⟨⟨z0, z1⟩, rfl, w0⟩
theorem openKnown {H : Type} {enc : TypeId × Value → H} {W : World} {b0 : Nat} {r : Reach} {v : Value} {d : DataW H} {p : List MemPlace}
    (hv : Value.okWide Tryd.prog W r b0 65 v) (h : DataW.Trod enc Tryd.prog W 0 (fun _ => true) true 65 v d p) : ∃ x : XKnown, v = valKnown x ∧ okKnown W x := by
  obtain ⟨cs, rfl, hsz⟩ := okWide_struct Tryd.underlying65 hv
  obtain ⟨fuel, hf⟩ := h
  obtain ⟨x, hx, ho⟩ := opencKnown hf
  obtain ⟨l⟩ := cs
  simp only [Value.cells] at hx
  subst hx
  exact ⟨x, rfl, ho⟩
def RowKnown (W : World) (ao : Option Addr) (l : List XKnown) : Prop :=
  (l = [] ∨ ∃ b off, ao = some ⟨b, off, none⟩ ∧ b < W.heap.size ∧ ∀ i x, l[i]? = some x → W.cell? ⟨b, off + i * 2, none⟩ = some (.string x.name) ∧ W.cell? ⟨b, off + i * 2 + 1, none⟩ = some (.bool x.part)) ∧ (∀ x ∈ l, okKnown W x) ∧ l.length ≤ maxLen
theorem RowKnown.below {W W' : World} {ao : Option Addr} {l : List XKnown} (h : RowKnown W ao l) (hb : Below W.heap.size W W') : RowKnown W' ao l := by
  obtain ⟨h, ho, hm⟩ := h
  refine ⟨?_, fun x hx => (ho x hx).below hb, hm⟩
  rcases h with h | ⟨b, off, e, hlt, hc⟩
  · exact .inl h
  · refine .inr ⟨b, off, e, Nat.lt_of_lt_of_le hlt hb.size, fun i s hi => ?_⟩
    obtain ⟨c0, c1⟩ := hc i s hi
    exact ⟨(hb.cell (p := ⟨b, off + i * 2, none⟩) hlt).trans c0, (hb.cell (p := ⟨b, off + i * 2 + 1, none⟩) hlt).trans c1⟩
theorem cellsOfSlKnown : Tryd.prog.cellsOf 22 = 1 := by kernel_rfl
theorem openrKnown {H : Type} {enc : TypeId × Value → H} {W : World} {k : Nat} {cs : List Value} {y : DataW H × List MemPlace}
    (h : DataW.trod enc Tryd.prog W 0 (fun _ => true) true k 22 cs = some y) :
    ∃ (ao : Option Addr) (l : List XKnown) (cap : Nat), cs = [.slice ao l.length cap] ∧ RowKnown W ao l ∧ l.length ≤ cap ∧ (l = [] ∨ ∃ es ss, y.1 = .slice es ss ∧ es.length = l.length) := by
  rcases open_slice Tryd.underlying22 h with ⟨rfl, rfl⟩ | ⟨a, len, cap, mm, nn, D, Pl, rfl, _, hl, hm, hmm, hx, hel⟩
  · exact ⟨none, [], 0, rfl, ⟨.inl rfl, by simp, by simp⟩, Nat.le_refl _, .inl rfl⟩
  · simp only [if_true] at hmm
    rw [cellsOfKnown] at hel
    obtain ⟨F, hF⟩ := choose_lt (α := XKnown) (n := mm) (p := fun i x => (W.cell? ((a.add (i * 2)).add 0) = some (.string x.name) ∧ W.cell? ((a.add (i * 2)).add 1) = some (.bool x.part)) ∧ okKnown W x) (fun i hi => by
      obtain ⟨cs', h1, h2⟩ := hel i hi
      obtain ⟨x, rfl, hok⟩ := opencKnown h2
      obtain ⟨_, _, hc⟩ := World.cells?_some h1
      exact ⟨x, ⟨hc 0 (by omega), hc 1 (by omega)⟩, hok⟩)
    refine ⟨some a, (List.range len).map F, cap, by simp, ⟨?_, ?_, by rw [List.length_map, List.length_range]; omega⟩, by rw [List.length_map, List.length_range]; exact hl, .inr ⟨_, _, by rw [hx], by simp⟩⟩
    · by_cases hl0 : len = 0
      · subst hl0; exact .inl rfl
      · obtain ⟨b, off, spot⟩ := a
        have hc0 := (hF 0 (by omega)).1.1
        have hspot : spot = none := by simpa [Addr.add] using World.cell?_spot hc0
        subst hspot
        refine .inr ⟨b, off, rfl, by simpa [Addr.add] using cell_ltR hc0, fun i x hi => ?_⟩
        have hi' : i < len := by
          rcases Nat.lt_or_ge i len with h | h
          · exact h
          · rw [List.getElem?_eq_none (by simpa using h)] at hi; cases hi
        rw [List.getElem?_map, List.getElem?_range hi'] at hi
        obtain rfl : F i = x := by simpa using hi
        have := (hF i (by omega)).1
        simp only [WideShapes.add_plain, Nat.add_zero] at this
        exact this
    · intro x hx
      obtain ⟨i, hi, rfl⟩ := List.mem_map.1 hx
      exact (hF i (by have : i < len := by simpa using hi
                      omega)).2
theorem openRKnown {H : Type} {enc : TypeId × Value → H} {W : World} {b0 : Nat} {r : Reach} {v : Value} {d : DataW H} {p : List MemPlace}
    (hv : Value.okWide Tryd.prog W r b0 22 v) (h : DataW.Trod enc Tryd.prog W 0 (fun _ => true) true 22 v d p) : ∃ (ao : Option Addr) (l : List XKnown) (cap : Nat), v = .slice ao l.length cap ∧ RowKnown W ao l ∧ (l = [] ∨ ∃ es ss, d = .slice es ss ∧ es.length = l.length) := by
  obtain ⟨a0, len, cap, rfl⟩ := okWide_slice Tryd.underlying22 hv
  obtain ⟨fuel, hf⟩ := h
  obtain ⟨ao, l, cap', hx, hr, _, hd⟩ := openrKnown hf
  simp [Value.cells] at hx
  obtain ⟨rfl, rfl, rfl⟩ := hx
  exact ⟨_, l, _, rfl, hr, hd⟩
end Go.Proofs.YtfpglpefofcdeaaDoor
namespace Go.Proofs.YtfpglpefofcdeaaDoor
open Go.ChangeShapes Go.WideShapes Go.ChangeAt Go.RowKit Go.Deep
set_option linter.unusedVariables false
set_option maxRecDepth 100000

structure XDeal where
  shop : Int
  trace : Int
  amount : Int
  cash : Bool
  day : Int
  bits : Int
  nonce : ByteArray
deriving Inhabited
def valDeal (x : XDeal) : Value := .agg #[.int .i64 x.shop, .int .i64 x.trace, .int .i64 x.amount, .bool x.cash, .int .i64 x.day, .int .i64 x.bits, .string x.nonce]
def okDeal (W : World) (x : XDeal) : Prop := (-9223372036854775808 ≤ x.shop ∧ x.shop ≤ 9223372036854775807) ∧ (-9223372036854775808 ≤ x.trace ∧ x.trace ≤ 9223372036854775807) ∧ (-9223372036854775808 ≤ x.amount ∧ x.amount ≤ 9223372036854775807) ∧ (-9223372036854775808 ≤ x.day ∧ x.day ≤ 9223372036854775807) ∧ (-9223372036854775808 ≤ x.bits ∧ x.bits ≤ 9223372036854775807) ∧ x.nonce.size ≤ maxLen
theorem cellsOfDeal : Tryd.prog.cellsOf 40 = 7 := by kernel_rfl
theorem okDeal.below {W W' : World} {x : XDeal} (h : okDeal W x) (hb : Below W.heap.size W W') : okDeal W' x := by
  obtain ⟨h0, h1, h2, h3, h4, h5⟩ := h
  exact ⟨h0, h1, h2, h3, h4, h5⟩
theorem opencDeal {H : Type} {enc : TypeId × Value → H} {W : World} {k : Nat} {cs : List Value} {y : DataW H × List MemPlace}
    (h : DataW.trod enc Tryd.prog W 0 (fun _ => true) true k 40 cs = some y) :
    ∃ x : XDeal, cs = [.int .i64 x.shop, .int .i64 x.trace, .int .i64 x.amount, .bool x.cash, .int .i64 x.day, .int .i64 x.bits, .string x.nonce] ∧ okDeal W x := by
  obtain ⟨xs, k', _, _, hsz, hlen, hq⟩ := DataW.trod_struct Tryd.underlying40 h
  rw [cellsOfDeal] at hsz
  match cs, hsz with
  | [c0, c1, c2, c3, c4, c5, c6], _ =>
    match xs, hlen with
    | [y0, y1, y2, y3, y4, y5, y6], _ =>
      have h0 : DataW.trod enc Tryd.prog W 0 (fun _ => true) true k' 3 [c0] = some y0 := by simpa [cellsOfBool, cellsOfInt, cellsOfString] using hq 0 _ rfl
      obtain ⟨z0, e0, g0, w0⟩ := DataW.trod_int Tryd.underlying3 h0
      have h1 : DataW.trod enc Tryd.prog W 0 (fun _ => true) true k' 3 [c1] = some y1 := by simpa [cellsOfBool, cellsOfInt, cellsOfString] using hq 1 _ rfl
      obtain ⟨z1, e1, g1, w1⟩ := DataW.trod_int Tryd.underlying3 h1
      have h2 : DataW.trod enc Tryd.prog W 0 (fun _ => true) true k' 3 [c2] = some y2 := by simpa [cellsOfBool, cellsOfInt, cellsOfString] using hq 2 _ rfl
      obtain ⟨z2, e2, g2, w2⟩ := DataW.trod_int Tryd.underlying3 h2
      have h3 : DataW.trod enc Tryd.prog W 0 (fun _ => true) true k' 4 [c3] = some y3 := by simpa [cellsOfBool, cellsOfInt, cellsOfString] using hq 3 _ rfl
      obtain ⟨z3, e3, g3⟩ := DataW.trod_bool Tryd.underlying4 h3
      have h4 : DataW.trod enc Tryd.prog W 0 (fun _ => true) true k' 3 [c4] = some y4 := by simpa [cellsOfBool, cellsOfInt, cellsOfString] using hq 4 _ rfl
      obtain ⟨z4, e4, g4, w4⟩ := DataW.trod_int Tryd.underlying3 h4
      have h5 : DataW.trod enc Tryd.prog W 0 (fun _ => true) true k' 3 [c5] = some y5 := by simpa [cellsOfBool, cellsOfInt, cellsOfString] using hq 5 _ rfl
      obtain ⟨z5, e5, g5, w5⟩ := DataW.trod_int Tryd.underlying3 h5
      have h6 : DataW.trod enc Tryd.prog W 0 (fun _ => true) true k' 9 [c6] = some y6 := by simpa [cellsOfBool, cellsOfInt, cellsOfString] using hq 6 _ rfl
      obtain ⟨z6, e6, g6, w6⟩ := DataW.trod_string Tryd.underlying9 h6
      simp at e0 e1 e2 e3 e4 e5 e6
      subst e0
      subst e1
      subst e2
      subst e3
      subst e4
      subst e5
      subst e6
      exact ⟨⟨z0, z1, z2, z3, z4, z5, z6⟩, rfl, ⟨bounds_i64 w0, bounds_i64 w1, bounds_i64 w2, bounds_i64 w4, bounds_i64 w5, w6⟩⟩
theorem openDeal {H : Type} {enc : TypeId × Value → H} {W : World} {b0 : Nat} {r : Reach} {v : Value} {d : DataW H} {p : List MemPlace}
    (hv : Value.okWide Tryd.prog W r b0 40 v) (h : DataW.Trod enc Tryd.prog W 0 (fun _ => true) true 40 v d p) : ∃ x : XDeal, v = valDeal x ∧ okDeal W x := by
  obtain ⟨cs, rfl, hsz⟩ := okWide_struct Tryd.underlying40 hv
  obtain ⟨fuel, hf⟩ := h
  obtain ⟨x, hx, ho⟩ := opencDeal hf
  obtain ⟨l⟩ := cs
  simp only [Value.cells] at hx
  subst hx
  exact ⟨x, rfl, ho⟩
def bulkDeal (x : XDeal) : Nat := x.nonce.size
theorem opencbDeal {H : Type} {enc : TypeId × Value → H} {W : World} {k : Nat} {cs : List Value} {y : DataW H × List MemPlace}
    (h : DataW.trod enc Tryd.prog W 0 (fun _ => true) true k 40 cs = some y) :
    ∃ x : XDeal, cs = [.int .i64 x.shop, .int .i64 x.trace, .int .i64 x.amount, .bool x.cash, .int .i64 x.day, .int .i64 x.bits, .string x.nonce] ∧ okDeal W x ∧ bulkDeal x ≤ Rows.uptoBulk y.1 := by
  obtain ⟨xs, k', _, hagg, hsz, hlen, hq⟩ := DataW.trod_struct Tryd.underlying40 h
  rw [cellsOfDeal] at hsz
  match cs, hsz with
  | [c0, c1, c2, c3, c4, c5, c6], _ =>
    match xs, hlen, hagg with
    | [y0, y1, y2, y3, y4, y5, y6], _, hagg =>
      have hbk := congrArg Rows.uptoBulk (Prod.ext_iff.1 hagg).1
      have h0 : DataW.trod enc Tryd.prog W 0 (fun _ => true) true k' 3 [c0] = some y0 := by simpa [cellsOfBool, cellsOfInt, cellsOfString] using hq 0 _ rfl
      obtain ⟨z0, e0, g0, w0⟩ := DataW.trod_int Tryd.underlying3 h0
      subst g0
      have h1 : DataW.trod enc Tryd.prog W 0 (fun _ => true) true k' 3 [c1] = some y1 := by simpa [cellsOfBool, cellsOfInt, cellsOfString] using hq 1 _ rfl
      obtain ⟨z1, e1, g1, w1⟩ := DataW.trod_int Tryd.underlying3 h1
      subst g1
      have h2 : DataW.trod enc Tryd.prog W 0 (fun _ => true) true k' 3 [c2] = some y2 := by simpa [cellsOfBool, cellsOfInt, cellsOfString] using hq 2 _ rfl
      obtain ⟨z2, e2, g2, w2⟩ := DataW.trod_int Tryd.underlying3 h2
      subst g2
      have h3 : DataW.trod enc Tryd.prog W 0 (fun _ => true) true k' 4 [c3] = some y3 := by simpa [cellsOfBool, cellsOfInt, cellsOfString] using hq 3 _ rfl
      obtain ⟨z3, e3, g3⟩ := DataW.trod_bool Tryd.underlying4 h3
      subst g3
      have h4 : DataW.trod enc Tryd.prog W 0 (fun _ => true) true k' 3 [c4] = some y4 := by simpa [cellsOfBool, cellsOfInt, cellsOfString] using hq 4 _ rfl
      obtain ⟨z4, e4, g4, w4⟩ := DataW.trod_int Tryd.underlying3 h4
      subst g4
      have h5 : DataW.trod enc Tryd.prog W 0 (fun _ => true) true k' 3 [c5] = some y5 := by simpa [cellsOfBool, cellsOfInt, cellsOfString] using hq 5 _ rfl
      obtain ⟨z5, e5, g5, w5⟩ := DataW.trod_int Tryd.underlying3 h5
      subst g5
      have h6 : DataW.trod enc Tryd.prog W 0 (fun _ => true) true k' 9 [c6] = some y6 := by simpa [cellsOfBool, cellsOfInt, cellsOfString] using hq 6 _ rfl
      obtain ⟨z6, e6, g6, w6⟩ := DataW.trod_string Tryd.underlying9 h6
      have l6 : z6.data.toList.length = z6.size := by simp
      subst g6
      simp at e0 e1 e2 e3 e4 e5 e6
      subst e0
      subst e1
      subst e2
      subst e3
      subst e4
      subst e5
      subst e6
      refine ⟨⟨z0, z1, z2, z3, z4, z5, z6⟩, rfl, ⟨bounds_i64 w0, bounds_i64 w1, bounds_i64 w2, bounds_i64 w4, bounds_i64 w5, w6⟩, ?_⟩
      simp only [List.map_cons, List.map_nil, Rows.uptoBulk, Rows.uptoBulkAll] at hbk
      rw [hbk]
      unfold bulkDeal
      dsimp only
      omega
theorem openbDeal {H : Type} {enc : TypeId × Value → H} {W : World} {b0 : Nat} {r : Reach} {v : Value} {d : DataW H} {p : List MemPlace}
    (hv : Value.okWide Tryd.prog W r b0 40 v) (h : DataW.Trod enc Tryd.prog W 0 (fun _ => true) true 40 v d p) : ∃ x : XDeal, v = valDeal x ∧ okDeal W x ∧ bulkDeal x ≤ Rows.uptoBulk d := by
  obtain ⟨cs, rfl, hsz⟩ := okWide_struct Tryd.underlying40 hv
  obtain ⟨fuel, hf⟩ := h
  obtain ⟨x, hx, ho, hb⟩ := opencbDeal hf
  obtain ⟨l⟩ := cs
  simp only [Value.cells] at hx
  subst hx
  exact ⟨x, rfl, ho, hb⟩
structure XCommand where
  dO : Int
  name : ByteArray
  digits : ByteArray
  want : Int
  deal : XDeal
  extra : ByteArray
  answer : ByteArray
  orders : ByteArray
deriving Inhabited
def valCommand (x : XCommand) : Value := .agg #[.int .i64 x.dO, .string x.name, .string x.digits, .int .i64 x.want, .int .i64 x.deal.shop, .int .i64 x.deal.trace, .int .i64 x.deal.amount, .bool x.deal.cash, .int .i64 x.deal.day, .int .i64 x.deal.bits, .string x.deal.nonce, .string x.extra, .string x.answer, .string x.orders]
def okCommand (W : World) (x : XCommand) : Prop := (-9223372036854775808 ≤ x.dO ∧ x.dO ≤ 9223372036854775807) ∧ x.name.size ≤ maxLen ∧ x.digits.size ≤ maxLen ∧ (-9223372036854775808 ≤ x.want ∧ x.want ≤ 9223372036854775807) ∧ okDeal W x.deal ∧ x.extra.size ≤ maxLen ∧ x.answer.size ≤ maxLen ∧ x.orders.size ≤ maxLen
theorem cellsOfCommand : Tryd.prog.cellsOf 80 = 14 := by kernel_rfl
theorem okCommand.below {W W' : World} {x : XCommand} (h : okCommand W x) (hb : Below W.heap.size W W') : okCommand W' x := by
  obtain ⟨h0, h1, h2, h3, h4, h5, h6, h7⟩ := h
  exact ⟨h0, h1, h2, h3, h4.below hb, h5, h6, h7⟩
theorem opencCommand {H : Type} {enc : TypeId × Value → H} {W : World} {k : Nat} {cs : List Value} {y : DataW H × List MemPlace}
    (h : DataW.trod enc Tryd.prog W 0 (fun _ => true) true k 80 cs = some y) :
    ∃ x : XCommand, cs = [.int .i64 x.dO, .string x.name, .string x.digits, .int .i64 x.want, .int .i64 x.deal.shop, .int .i64 x.deal.trace, .int .i64 x.deal.amount, .bool x.deal.cash, .int .i64 x.deal.day, .int .i64 x.deal.bits, .string x.deal.nonce, .string x.extra, .string x.answer, .string x.orders] ∧ okCommand W x := by
  obtain ⟨xs, k', _, _, hsz, hlen, hq⟩ := DataW.trod_struct Tryd.underlying80 h
  rw [cellsOfCommand] at hsz
  match cs, hsz with
  | [c0, c1, c2, c3, c4, c5, c6, c7, c8, c9, c10, c11, c12, c13], _ =>
    match xs, hlen with
    | [y0, y1, y2, y3, y4, y5, y6, y7], _ =>
      have h0 : DataW.trod enc Tryd.prog W 0 (fun _ => true) true k' 3 [c0] = some y0 := by simpa [cellsOfBool, cellsOfDeal, cellsOfInt, cellsOfString] using hq 0 _ rfl
      obtain ⟨z0, e0, g0, w0⟩ := DataW.trod_int Tryd.underlying3 h0
      have h1 : DataW.trod enc Tryd.prog W 0 (fun _ => true) true k' 9 [c1] = some y1 := by simpa [cellsOfBool, cellsOfDeal, cellsOfInt, cellsOfString] using hq 1 _ rfl
      obtain ⟨z1, e1, g1, w1⟩ := DataW.trod_string Tryd.underlying9 h1
      have h2 : DataW.trod enc Tryd.prog W 0 (fun _ => true) true k' 9 [c2] = some y2 := by simpa [cellsOfBool, cellsOfDeal, cellsOfInt, cellsOfString] using hq 2 _ rfl
      obtain ⟨z2, e2, g2, w2⟩ := DataW.trod_string Tryd.underlying9 h2
      have h3 : DataW.trod enc Tryd.prog W 0 (fun _ => true) true k' 3 [c3] = some y3 := by simpa [cellsOfBool, cellsOfDeal, cellsOfInt, cellsOfString] using hq 3 _ rfl
      obtain ⟨z3, e3, g3, w3⟩ := DataW.trod_int Tryd.underlying3 h3
      have h4 : DataW.trod enc Tryd.prog W 0 (fun _ => true) true k' 40 [c4, c5, c6, c7, c8, c9, c10] = some y4 := by simpa [cellsOfBool, cellsOfDeal, cellsOfInt, cellsOfString] using hq 4 _ rfl
      obtain ⟨z4, e4, w4⟩ := opencDeal h4
      have h5 : DataW.trod enc Tryd.prog W 0 (fun _ => true) true k' 9 [c11] = some y5 := by simpa [cellsOfBool, cellsOfDeal, cellsOfInt, cellsOfString] using hq 5 _ rfl
      obtain ⟨z5, e5, g5, w5⟩ := DataW.trod_string Tryd.underlying9 h5
      have h6 : DataW.trod enc Tryd.prog W 0 (fun _ => true) true k' 9 [c12] = some y6 := by simpa [cellsOfBool, cellsOfDeal, cellsOfInt, cellsOfString] using hq 6 _ rfl
      obtain ⟨z6, e6, g6, w6⟩ := DataW.trod_string Tryd.underlying9 h6
      have h7 : DataW.trod enc Tryd.prog W 0 (fun _ => true) true k' 9 [c13] = some y7 := by simpa [cellsOfBool, cellsOfDeal, cellsOfInt, cellsOfString] using hq 7 _ rfl
      obtain ⟨z7, e7, g7, w7⟩ := DataW.trod_string Tryd.underlying9 h7
      simp at e0 e1 e2 e3 e4 e5 e6 e7
      subst e0
      subst e1
      subst e2
      subst e3
      obtain ⟨rfl, rfl, rfl, rfl, rfl, rfl, rfl⟩ := e4
      subst e5
      subst e6
      subst e7
      exact ⟨⟨z0, z1, z2, z3, z4, z5, z6, z7⟩, rfl, ⟨bounds_i64 w0, w1, w2, bounds_i64 w3, w4, w5, w6, w7⟩⟩
theorem openCommand {H : Type} {enc : TypeId × Value → H} {W : World} {b0 : Nat} {r : Reach} {v : Value} {d : DataW H} {p : List MemPlace}
    (hv : Value.okWide Tryd.prog W r b0 80 v) (h : DataW.Trod enc Tryd.prog W 0 (fun _ => true) true 80 v d p) : ∃ x : XCommand, v = valCommand x ∧ okCommand W x := by
  obtain ⟨cs, rfl, hsz⟩ := okWide_struct Tryd.underlying80 hv
  obtain ⟨fuel, hf⟩ := h
  obtain ⟨x, hx, ho⟩ := opencCommand hf
  obtain ⟨l⟩ := cs
  simp only [Value.cells] at hx
  subst hx
  exact ⟨x, rfl, ho⟩
def bulkCommand (x : XCommand) : Nat := x.name.size + x.digits.size + bulkDeal x.deal + x.extra.size + x.answer.size + x.orders.size
theorem opencbCommand {H : Type} {enc : TypeId × Value → H} {W : World} {k : Nat} {cs : List Value} {y : DataW H × List MemPlace}
    (h : DataW.trod enc Tryd.prog W 0 (fun _ => true) true k 80 cs = some y) :
    ∃ x : XCommand, cs = [.int .i64 x.dO, .string x.name, .string x.digits, .int .i64 x.want, .int .i64 x.deal.shop, .int .i64 x.deal.trace, .int .i64 x.deal.amount, .bool x.deal.cash, .int .i64 x.deal.day, .int .i64 x.deal.bits, .string x.deal.nonce, .string x.extra, .string x.answer, .string x.orders] ∧ okCommand W x ∧ bulkCommand x ≤ Rows.uptoBulk y.1 := by
  obtain ⟨xs, k', _, hagg, hsz, hlen, hq⟩ := DataW.trod_struct Tryd.underlying80 h
  rw [cellsOfCommand] at hsz
  match cs, hsz with
  | [c0, c1, c2, c3, c4, c5, c6, c7, c8, c9, c10, c11, c12, c13], _ =>
    match xs, hlen, hagg with
    | [y0, y1, y2, y3, y4, y5, y6, y7], _, hagg =>
      have hbk := congrArg Rows.uptoBulk (Prod.ext_iff.1 hagg).1
      have h0 : DataW.trod enc Tryd.prog W 0 (fun _ => true) true k' 3 [c0] = some y0 := by simpa [cellsOfBool, cellsOfDeal, cellsOfInt, cellsOfString] using hq 0 _ rfl
      obtain ⟨z0, e0, g0, w0⟩ := DataW.trod_int Tryd.underlying3 h0
      subst g0
      have h1 : DataW.trod enc Tryd.prog W 0 (fun _ => true) true k' 9 [c1] = some y1 := by simpa [cellsOfBool, cellsOfDeal, cellsOfInt, cellsOfString] using hq 1 _ rfl
      obtain ⟨z1, e1, g1, w1⟩ := DataW.trod_string Tryd.underlying9 h1
      have l1 : z1.data.toList.length = z1.size := by simp
      subst g1
      have h2 : DataW.trod enc Tryd.prog W 0 (fun _ => true) true k' 9 [c2] = some y2 := by simpa [cellsOfBool, cellsOfDeal, cellsOfInt, cellsOfString] using hq 2 _ rfl
      obtain ⟨z2, e2, g2, w2⟩ := DataW.trod_string Tryd.underlying9 h2
      have l2 : z2.data.toList.length = z2.size := by simp
      subst g2
      have h3 : DataW.trod enc Tryd.prog W 0 (fun _ => true) true k' 3 [c3] = some y3 := by simpa [cellsOfBool, cellsOfDeal, cellsOfInt, cellsOfString] using hq 3 _ rfl
      obtain ⟨z3, e3, g3, w3⟩ := DataW.trod_int Tryd.underlying3 h3
      subst g3
      have h4 : DataW.trod enc Tryd.prog W 0 (fun _ => true) true k' 40 [c4, c5, c6, c7, c8, c9, c10] = some y4 := by simpa [cellsOfBool, cellsOfDeal, cellsOfInt, cellsOfString] using hq 4 _ rfl
      obtain ⟨z4, e4, w4, b4⟩ := opencbDeal h4
      have h5 : DataW.trod enc Tryd.prog W 0 (fun _ => true) true k' 9 [c11] = some y5 := by simpa [cellsOfBool, cellsOfDeal, cellsOfInt, cellsOfString] using hq 5 _ rfl
      obtain ⟨z5, e5, g5, w5⟩ := DataW.trod_string Tryd.underlying9 h5
      have l5 : z5.data.toList.length = z5.size := by simp
      subst g5
      have h6 : DataW.trod enc Tryd.prog W 0 (fun _ => true) true k' 9 [c12] = some y6 := by simpa [cellsOfBool, cellsOfDeal, cellsOfInt, cellsOfString] using hq 6 _ rfl
      obtain ⟨z6, e6, g6, w6⟩ := DataW.trod_string Tryd.underlying9 h6
      have l6 : z6.data.toList.length = z6.size := by simp
      subst g6
      have h7 : DataW.trod enc Tryd.prog W 0 (fun _ => true) true k' 9 [c13] = some y7 := by simpa [cellsOfBool, cellsOfDeal, cellsOfInt, cellsOfString] using hq 7 _ rfl
      obtain ⟨z7, e7, g7, w7⟩ := DataW.trod_string Tryd.underlying9 h7
      have l7 : z7.data.toList.length = z7.size := by simp
      subst g7
      simp at e0 e1 e2 e3 e4 e5 e6 e7
      subst e0
      subst e1
      subst e2
      subst e3
      obtain ⟨rfl, rfl, rfl, rfl, rfl, rfl, rfl⟩ := e4
      subst e5
      subst e6
      subst e7
      refine ⟨⟨z0, z1, z2, z3, z4, z5, z6, z7⟩, rfl, ⟨bounds_i64 w0, w1, w2, bounds_i64 w3, w4, w5, w6, w7⟩, ?_⟩
      simp only [List.map_cons, List.map_nil, Rows.uptoBulk, Rows.uptoBulkAll] at hbk
      rw [hbk]
      unfold bulkCommand
      dsimp only
      omega
theorem openbCommand {H : Type} {enc : TypeId × Value → H} {W : World} {b0 : Nat} {r : Reach} {v : Value} {d : DataW H} {p : List MemPlace}
    (hv : Value.okWide Tryd.prog W r b0 80 v) (h : DataW.Trod enc Tryd.prog W 0 (fun _ => true) true 80 v d p) : ∃ x : XCommand, v = valCommand x ∧ okCommand W x ∧ bulkCommand x ≤ Rows.uptoBulk d := by
  obtain ⟨cs, rfl, hsz⟩ := okWide_struct Tryd.underlying80 hv
  obtain ⟨fuel, hf⟩ := h
  obtain ⟨x, hx, ho, hb⟩ := opencbCommand hf
  obtain ⟨l⟩ := cs
  simp only [Value.cells] at hx
  subst hx
  exact ⟨x, rfl, ho, hb⟩
end Go.Proofs.YtfpglpefofcdeaaDoor
