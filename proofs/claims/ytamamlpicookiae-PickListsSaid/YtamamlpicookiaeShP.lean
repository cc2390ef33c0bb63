/- Applications, and what a shop knows, that are handed in, opened. -/
import Derived.Test.YtamamlpicookiaeSh0
namespace Go.Proofs.Ytamamlpicookiae
open Go.ChangeShapes Go.WideShapes Go.ChangeAt Go.RowKit Go.Deep
set_option linter.unusedVariables false
set_option maxRecDepth 100000

structure XApp where
  name : ByteArray
  label : ByteArray
  prio : Int
  confirm : Bool
deriving Inhabited
def valApp (x : XApp) : Value := .agg #[.string x.name, .string x.label, .int .i64 x.prio, .bool x.confirm]
def okApp (W : World) (x : XApp) : Prop := x.name.size ≤ maxLen ∧ x.label.size ≤ maxLen ∧ (-9223372036854775808 ≤ x.prio ∧ x.prio ≤ 9223372036854775807)
theorem cellsOfApp : Try.prog.cellsOf 31 = 4 := by kernel_rfl
theorem okApp.below {W W' : World} {x : XApp} (h : okApp W x) (hb : Below W.heap.size W W') : okApp W' x := by
  obtain ⟨h0, h1, h2⟩ := h
  exact ⟨h0, h1, h2⟩
theorem opencApp {H : Type} {enc : TypeId × Value → H} {W : World} {k : Nat} {cs : List Value} {y : DataW H × List MemPlace}
    (h : DataW.trod enc Try.prog W 0 (fun _ => true) true k 31 cs = some y) :
    ∃ x : XApp, cs = [.string x.name, .string x.label, .int .i64 x.prio, .bool x.confirm] ∧ okApp W x := by
  obtain ⟨xs, k', _, _, hsz, hlen, hq⟩ := DataW.trod_struct Try.underlying31 h
  rw [cellsOfApp] at hsz
  match cs, hsz with
  | [c0, c1, c2, c3], _ =>
    match xs, hlen with
    | [y0, y1, y2, y3], _ =>
      have h0 : DataW.trod enc Try.prog W 0 (fun _ => true) true k' 9 [c0] = some y0 := by simpa [cellsOfBool, cellsOfInt, cellsOfString] using hq 0 _ rfl
      obtain ⟨z0, e0, g0, w0⟩ := DataW.trod_string Try.underlying9 h0
      have h1 : DataW.trod enc Try.prog W 0 (fun _ => true) true k' 9 [c1] = some y1 := by simpa [cellsOfBool, cellsOfInt, cellsOfString] using hq 1 _ rfl
      obtain ⟨z1, e1, g1, w1⟩ := DataW.trod_string Try.underlying9 h1
      have h2 : DataW.trod enc Try.prog W 0 (fun _ => true) true k' 3 [c2] = some y2 := by simpa [cellsOfBool, cellsOfInt, cellsOfString] using hq 2 _ rfl
      obtain ⟨z2, e2, g2, w2⟩ := DataW.trod_int Try.underlying3 h2
      have h3 : DataW.trod enc Try.prog W 0 (fun _ => true) true k' 4 [c3] = some y3 := by simpa [cellsOfBool, cellsOfInt, cellsOfString] using hq 3 _ rfl
      obtain ⟨z3, e3, g3⟩ := DataW.trod_bool Try.underlying4 h3
      simp at e0 e1 e2 e3
      subst e0
      subst e1
      subst e2
      subst e3
      exact ⟨⟨z0, z1, z2, z3⟩, rfl, ⟨w0, w1, bounds_i64 w2⟩⟩
theorem openApp {H : Type} {enc : TypeId × Value → H} {W : World} {b0 : Nat} {r : Reach} {v : Value} {d : DataW H} {p : List MemPlace}
    (hv : Value.okWide Try.prog W r b0 31 v) (h : DataW.Trod enc Try.prog W 0 (fun _ => true) true 31 v d p) : ∃ x : XApp, v = valApp x ∧ okApp W x := by
  obtain ⟨cs, rfl, hsz⟩ := okWide_struct Try.underlying31 hv
  obtain ⟨fuel, hf⟩ := h
  obtain ⟨x, hx, ho⟩ := opencApp hf
  obtain ⟨l⟩ := cs
  simp only [Value.cells] at hx
  subst hx
  exact ⟨x, rfl, ho⟩
def RowApp (W : World) (ao : Option Addr) (l : List XApp) : Prop :=
  (l = [] ∨ ∃ b off, ao = some ⟨b, off, none⟩ ∧ b < W.heap.size ∧ ∀ i x, l[i]? = some x → W.cell? ⟨b, off + i * 4, none⟩ = some (.string x.name) ∧ W.cell? ⟨b, off + i * 4 + 1, none⟩ = some (.string x.label) ∧ W.cell? ⟨b, off + i * 4 + 2, none⟩ = some (.int .i64 x.prio) ∧ W.cell? ⟨b, off + i * 4 + 3, none⟩ = some (.bool x.confirm)) ∧ (∀ x ∈ l, okApp W x) ∧ l.length ≤ maxLen
theorem RowApp.below {W W' : World} {ao : Option Addr} {l : List XApp} (h : RowApp W ao l) (hb : Below W.heap.size W W') : RowApp W' ao l := by
  obtain ⟨h, ho, hm⟩ := h
  refine ⟨?_, fun x hx => (ho x hx).below hb, hm⟩
  rcases h with h | ⟨b, off, e, hlt, hc⟩
  · exact .inl h
  · refine .inr ⟨b, off, e, Nat.lt_of_lt_of_le hlt hb.size, fun i s hi => ?_⟩
    obtain ⟨c0, c1, c2, c3⟩ := hc i s hi
    exact ⟨(hb.cell (p := ⟨b, off + i * 4, none⟩) hlt).trans c0, (hb.cell (p := ⟨b, off + i * 4 + 1, none⟩) hlt).trans c1, (hb.cell (p := ⟨b, off + i * 4 + 2, none⟩) hlt).trans c2, (hb.cell (p := ⟨b, off + i * 4 + 3, none⟩) hlt).trans c3⟩
theorem cellsOfSlApp : Try.prog.cellsOf 22 = 1 := by kernel_rfl
theorem openrApp {H : Type} {enc : TypeId × Value → H} {W : World} {k : Nat} {cs : List Value} {y : DataW H × List MemPlace}
    (h : DataW.trod enc Try.prog W 0 (fun _ => true) true k 22 cs = some y) :
    ∃ (ao : Option Addr) (l : List XApp) (cap : Nat), cs = [.slice ao l.length cap] ∧ RowApp W ao l ∧ (l = [] ∨ ∃ es ss, y.1 = .slice es ss ∧ es.length = l.length) := by
  rcases open_slice Try.underlying22 h with ⟨rfl, rfl⟩ | ⟨a, len, cap, mm, nn, D, Pl, rfl, _, hl, hm, hmm, hx, hel⟩
  · exact ⟨none, [], 0, rfl, ⟨.inl rfl, by simp, by simp⟩, .inl rfl⟩
  · simp only [if_true] at hmm
    rw [cellsOfApp] at hel
    obtain ⟨F, hF⟩ := choose_lt (α := XApp) (n := mm) (p := fun i x => (W.cell? ((a.add (i * 4)).add 0) = some (.string x.name) ∧ W.cell? ((a.add (i * 4)).add 1) = some (.string x.label) ∧ W.cell? ((a.add (i * 4)).add 2) = some (.int .i64 x.prio) ∧ W.cell? ((a.add (i * 4)).add 3) = some (.bool x.confirm)) ∧ okApp W x) (fun i hi => by
      obtain ⟨cs', h1, h2⟩ := hel i hi
      obtain ⟨x, rfl, hok⟩ := opencApp h2
      obtain ⟨_, _, hc⟩ := World.cells?_some h1
      exact ⟨x, ⟨hc 0 (by omega), hc 1 (by omega), hc 2 (by omega), hc 3 (by omega)⟩, hok⟩)
    refine ⟨some a, (List.range len).map F, cap, by simp, ⟨?_, ?_, by rw [List.length_map, List.length_range]; omega⟩, .inr ⟨_, _, by rw [hx], by simp⟩⟩
    · by_cases hl0 : len = 0
      · subst hl0; exact .inl rfl
      · obtain ⟨b, off, spot⟩ := a
        have hc0 := (hF 0 (by omega)).1.1
        have hspot : spot = none := by simpa [Addr.add] using World.cell?_spot hc0
        subst hspot
        refine .inr ⟨b, off, rfl, by simpa [Addr.add] using cell_ltR hc0, fun i x hi => ?_⟩
        have hi' : i < len := by
          rcases Nat.lt_or_ge i len with h | h
          · exact h
          · rw [List.getElem?_eq_none (by simpa using h)] at hi; cases hi
        rw [List.getElem?_map, List.getElem?_range hi'] at hi
        obtain rfl : F i = x := by simpa using hi
        have := (hF i (by omega)).1
        simp only [WideShapes.add_plain, Nat.add_zero] at this
        exact this
    · intro x hx
      obtain ⟨i, hi, rfl⟩ := List.mem_map.1 hx
      exact (hF i (by have : i < len := by simpa using hi
                      omega)).2
theorem openRApp {H : Type} {enc : TypeId × Value → H} {W : World} {b0 : Nat} {r : Reach} {v : Value} {d : DataW H} {p : List MemPlace}
    (hv : Value.okWide Try.prog W r b0 22 v) (h : DataW.Trod enc Try.prog W 0 (fun _ => true) true 22 v d p) : ∃ (ao : Option Addr) (l : List XApp) (cap : Nat), v = .slice ao l.length cap ∧ RowApp W ao l ∧ (l = [] ∨ ∃ es ss, d = .slice es ss ∧ es.length = l.length) := by
  obtain ⟨a0, len, cap, rfl⟩ := okWide_slice Try.underlying22 hv
  obtain ⟨fuel, hf⟩ := h
  obtain ⟨ao, l, cap', hx, hr, hd⟩ := openrApp hf
  simp [Value.cells] at hx
  obtain ⟨rfl, rfl, rfl⟩ := hx
  exact ⟨_, l, _, rfl, hr, hd⟩
structure XKnown where
  name : ByteArray
  part : Bool
deriving Inhabited
def valKnown (x : XKnown) : Value := .agg #[.string x.name, .bool x.part]
def okKnown (W : World) (x : XKnown) : Prop := x.name.size ≤ maxLen
theorem cellsOfKnown : Try.prog.cellsOf 37 = 2 := by kernel_rfl
theorem okKnown.below {W W' : World} {x : XKnown} (h : okKnown W x) (hb : Below W.heap.size W W') : okKnown W' x := by
  exact h
theorem opencKnown {H : Type} {enc : TypeId × Value → H} {W : World} {k : Nat} {cs : List Value} {y : DataW H × List MemPlace}
    (h : DataW.trod enc Try.prog W 0 (fun _ => true) true k 37 cs = some y) :
    ∃ x : XKnown, cs = [.string x.name, .bool x.part] ∧ okKnown W x := by
  obtain ⟨xs, k', _, _, hsz, hlen, hq⟩ := DataW.trod_struct Try.underlying37 h
  rw [cellsOfKnown] at hsz
  match cs, hsz with
  | [c0, c1], _ =>
    match xs, hlen with
    | [y0, y1], _ =>
      have h0 : DataW.trod enc Try.prog W 0 (fun _ => true) true k' 9 [c0] = some y0 := by simpa [cellsOfBool, cellsOfInt, cellsOfString] using hq 0 _ rfl
      obtain ⟨z0, e0, g0, w0⟩ := DataW.trod_string Try.underlying9 h0
      have h1 : DataW.trod enc Try.prog W 0 (fun _ => true) true k' 4 [c1] = some y1 := by simpa [cellsOfBool, cellsOfInt, cellsOfString] using hq 1 _ rfl
      obtain ⟨z1, e1, g1⟩ := DataW.trod_bool Try.underlying4 h1
      simp at e0 e1
      subst e0
      subst e1
      exact ⟨⟨z0, z1⟩, rfl, w0⟩
theorem openKnown {H : Type} {enc : TypeId × Value → H} {W : World} {b0 : Nat} {r : Reach} {v : Value} {d : DataW H} {p : List MemPlace}
    (hv : Value.okWide Try.prog W r b0 37 v) (h : DataW.Trod enc Try.prog W 0 (fun _ => true) true 37 v d p) : ∃ x : XKnown, v = valKnown x ∧ okKnown W x := by
  obtain ⟨cs, rfl, hsz⟩ := okWide_struct Try.underlying37 hv
  obtain ⟨fuel, hf⟩ := h
  obtain ⟨x, hx, ho⟩ := opencKnown hf
  obtain ⟨l⟩ := cs
  simp only [Value.cells] at hx
  subst hx
  exact ⟨x, rfl, ho⟩
def RowKnown (W : World) (ao : Option Addr) (l : List XKnown) : Prop :=
  (l = [] ∨ ∃ b off, ao = some ⟨b, off, none⟩ ∧ b < W.heap.size ∧ ∀ i x, l[i]? = some x → W.cell? ⟨b, off + i * 2, none⟩ = some (.string x.name) ∧ W.cell? ⟨b, off + i * 2 + 1, none⟩ = some (.bool x.part)) ∧ (∀ x ∈ l, okKnown W x) ∧ l.length ≤ maxLen
theorem RowKnown.below {W W' : World} {ao : Option Addr} {l : List XKnown} (h : RowKnown W ao l) (hb : Below W.heap.size W W') : RowKnown W' ao l := by
  obtain ⟨h, ho, hm⟩ := h
  refine ⟨?_, fun x hx => (ho x hx).below hb, hm⟩
  rcases h with h | ⟨b, off, e, hlt, hc⟩
  · exact .inl h
  · refine .inr ⟨b, off, e, Nat.lt_of_lt_of_le hlt hb.size, fun i s hi => ?_⟩
    obtain ⟨c0, c1⟩ := hc i s hi
    exact ⟨(hb.cell (p := ⟨b, off + i * 2, none⟩) hlt).trans c0, (hb.cell (p := ⟨b, off + i * 2 + 1, none⟩) hlt).trans c1⟩
theorem cellsOfSlKnown : Try.prog.cellsOf 33 = 1 := by kernel_rfl
theorem openrKnown {H : Type} {enc : TypeId × Value → H} {W : World} {k : Nat} {cs : List Value} {y : DataW H × List MemPlace}
    (h : DataW.trod enc Try.prog W 0 (fun _ => true) true k 33 cs = some y) :
    ∃ (ao : Option Addr) (l : List XKnown) (cap : Nat), cs = [.slice ao l.length cap] ∧ RowKnown W ao l ∧ (l = [] ∨ ∃ es ss, y.1 = .slice es ss ∧ es.length = l.length) := by
  rcases open_slice Try.underlying33 h with ⟨rfl, rfl⟩ | ⟨a, len, cap, mm, nn, D, Pl, rfl, _, hl, hm, hmm, hx, hel⟩
  · exact ⟨none, [], 0, rfl, ⟨.inl rfl, by simp, by simp⟩, .inl rfl⟩
  · simp only [if_true] at hmm
    rw [cellsOfKnown] at hel
    obtain ⟨F, hF⟩ := choose_lt (α := XKnown) (n := mm) (p := fun i x => (W.cell? ((a.add (i * 2)).add 0) = some (.string x.name) ∧ W.cell? ((a.add (i * 2)).add 1) = some (.bool x.part)) ∧ okKnown W x) (fun i hi => by
      obtain ⟨cs', h1, h2⟩ := hel i hi
      obtain ⟨x, rfl, hok⟩ := opencKnown h2
      obtain ⟨_, _, hc⟩ := World.cells?_some h1
      exact ⟨x, ⟨hc 0 (by omega), hc 1 (by omega)⟩, hok⟩)
    refine ⟨some a, (List.range len).map F, cap, by simp, ⟨?_, ?_, by rw [List.length_map, List.length_range]; omega⟩, .inr ⟨_, _, by rw [hx], by simp⟩⟩
    · by_cases hl0 : len = 0
      · subst hl0; exact .inl rfl
      · obtain ⟨b, off, spot⟩ := a
        have hc0 := (hF 0 (by omega)).1.1
        have hspot : spot = none := by simpa [Addr.add] using World.cell?_spot hc0
        subst hspot
        refine .inr ⟨b, off, rfl, by simpa [Addr.add] using cell_ltR hc0, fun i x hi => ?_⟩
        have hi' : i < len := by
          rcases Nat.lt_or_ge i len with h | h
          · exact h
          · rw [List.getElem?_eq_none (by simpa using h)] at hi; cases hi
        rw [List.getElem?_map, List.getElem?_range hi'] at hi
        obtain rfl : F i = x := by simpa using hi
        have := (hF i (by omega)).1
        simp only [WideShapes.add_plain, Nat.add_zero] at this
        exact this
    · intro x hx
      obtain ⟨i, hi, rfl⟩ := List.mem_map.1 hx
      exact (hF i (by have : i < len := by simpa using hi
                      omega)).2
theorem openRKnown {H : Type} {enc : TypeId × Value → H} {W : World} {b0 : Nat} {r : Reach} {v : Value} {d : DataW H} {p : List MemPlace}
    (hv : Value.okWide Try.prog W r b0 33 v) (h : DataW.Trod enc Try.prog W 0 (fun _ => true) true 33 v d p) : ∃ (ao : Option Addr) (l : List XKnown) (cap : Nat), v = .slice ao l.length cap ∧ RowKnown W ao l ∧ (l = [] ∨ ∃ es ss, d = .slice es ss ∧ es.length = l.length) := by
  obtain ⟨a0, len, cap, rfl⟩ := okWide_slice Try.underlying33 hv
  obtain ⟨fuel, hf⟩ := h
  obtain ⟨ao, l, cap', hx, hr, hd⟩ := openrKnown hf
  simp [Value.cells] at hx
  obtain ⟨rfl, rfl, rfl⟩ := hx
  exact ⟨_, l, _, rfl, hr, hd⟩
end Go.Proofs.Ytamamlpicookiae
