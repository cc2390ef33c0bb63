/- Orders that are handed in, opened. -/
import Derived.Test.YtlnoilfnpgogbagSh0
namespace Go.Proofs.Ytlnoilfnpgogbag
open Go.ChangeShapes Go.WideShapes Go.ChangeAt Go.RowKit Go.Deep
set_option linter.unusedVariables false
set_option maxRecDepth 100000

structure XOrder where
  what : Int
  n : Int
  text : ByteArray
deriving Inhabited
def valOrder (x : XOrder) : Value := .agg #[.int .i64 x.what, .int .i64 x.n, .string x.text]
def okOrder (W : World) (x : XOrder) : Prop := (-9223372036854775808 ≤ x.what ∧ x.what ≤ 9223372036854775807) ∧ (-9223372036854775808 ≤ x.n ∧ x.n ≤ 9223372036854775807) ∧ x.text.size ≤ maxLen
theorem cellsOfOrder : Try.prog.cellsOf 71 = 3 := by kernel_rfl
theorem okOrder.below {W W' : World} {x : XOrder} (h : okOrder W x) (hb : Below W.heap.size W W') : okOrder W' x := by
  obtain ⟨h0, h1, h2⟩ := h
  exact ⟨h0, h1, h2⟩
theorem opencOrder {H : Type} {enc : TypeId × Value → H} {W : World} {k : Nat} {cs : List Value} {y : DataW H × List MemPlace}
    (h : DataW.trod enc Try.prog W 0 (fun _ => true) true k 71 cs = some y) :
    ∃ x : XOrder, cs = [.int .i64 x.what, .int .i64 x.n, .string x.text] ∧ okOrder W x := by
  obtain ⟨xs, k', _, _, hsz, hlen, hq⟩ := DataW.trod_struct Try.underlying71 h
  rw [cellsOfOrder] at hsz
  match cs, hsz with
  | [c0, c1, c2], _ =>
    match xs, hlen with
    | [y0, y1, y2], _ =>
      have h0 : DataW.trod enc Try.prog W 0 (fun _ => true) true k' 3 [c0] = some y0 := by simpa [cellsOfInt, cellsOfBool, cellsOfString] using hq 0 _ rfl
      obtain ⟨z0, e0, _, w0⟩ := DataW.trod_int Try.underlying3 h0
      have h1 : DataW.trod enc Try.prog W 0 (fun _ => true) true k' 3 [c1] = some y1 := by simpa [cellsOfInt, cellsOfBool, cellsOfString] using hq 1 _ rfl
      obtain ⟨z1, e1, _, w1⟩ := DataW.trod_int Try.underlying3 h1
      have h2 : DataW.trod enc Try.prog W 0 (fun _ => true) true k' 9 [c2] = some y2 := by simpa [cellsOfInt, cellsOfBool, cellsOfString] using hq 2 _ rfl
      obtain ⟨z2, e2, _, w2⟩ := DataW.trod_string Try.underlying9 h2
      simp at e0 e1 e2
      subst e0 e1 e2
      exact ⟨⟨z0, z1, z2⟩, rfl, ⟨bounds_i64 w0, bounds_i64 w1, w2⟩⟩
theorem openOrder {H : Type} {enc : TypeId × Value → H} {W : World} {b0 : Nat} {r : Reach} {v : Value} {d : DataW H} {p : List MemPlace}
    (hv : Value.okWide Try.prog W r b0 71 v) (h : DataW.Trod enc Try.prog W 0 (fun _ => true) true 71 v d p) : ∃ x : XOrder, v = valOrder x ∧ okOrder W x := by
  obtain ⟨cs, rfl, hsz⟩ := okWide_struct Try.underlying71 hv
  obtain ⟨fuel, hf⟩ := h
  obtain ⟨x, hx, ho⟩ := opencOrder hf
  obtain ⟨l⟩ := cs
  simp only [Value.cells] at hx
  subst hx
  exact ⟨x, rfl, ho⟩
def RowOrder (W : World) (ao : Option Addr) (l : List XOrder) : Prop :=
  (l = [] ∨ ∃ b off, ao = some ⟨b, off, none⟩ ∧ b < W.heap.size ∧ ∀ i x, l[i]? = some x → W.cell? ⟨b, off + i * 3, none⟩ = some (.int .i64 x.what) ∧ W.cell? ⟨b, off + i * 3 + 1, none⟩ = some (.int .i64 x.n) ∧ W.cell? ⟨b, off + i * 3 + 2, none⟩ = some (.string x.text)) ∧ (∀ x ∈ l, okOrder W x) ∧ l.length ≤ maxLen
theorem RowOrder.below {W W' : World} {ao : Option Addr} {l : List XOrder} (h : RowOrder W ao l) (hb : Below W.heap.size W W') : RowOrder W' ao l := by
  obtain ⟨h, ho, hm⟩ := h
  refine ⟨?_, fun x hx => (ho x hx).below hb, hm⟩
  rcases h with h | ⟨b, off, e, hlt, hc⟩
  · exact .inl h
  · refine .inr ⟨b, off, e, Nat.lt_of_lt_of_le hlt hb.size, fun i s hi => ?_⟩
    obtain ⟨c0, c1, c2⟩ := hc i s hi
    exact ⟨(hb.cell (p := ⟨b, off + i * 3, none⟩) hlt).trans c0, (hb.cell (p := ⟨b, off + i * 3 + 1, none⟩) hlt).trans c1, (hb.cell (p := ⟨b, off + i * 3 + 2, none⟩) hlt).trans c2⟩
theorem cellsOfSlOrder : Try.prog.cellsOf 42 = 1 := by kernel_rfl
theorem openrOrder {H : Type} {enc : TypeId × Value → H} {W : World} {k : Nat} {cs : List Value} {y : DataW H × List MemPlace}
    (h : DataW.trod enc Try.prog W 0 (fun _ => true) true k 42 cs = some y) :
    ∃ (ao : Option Addr) (l : List XOrder) (cap : Nat), cs = [.slice ao l.length cap] ∧ RowOrder W ao l ∧ (l = [] ∨ ∃ es ss, y.1 = .slice es ss ∧ es.length = l.length) := by
  rcases open_slice Try.underlying42 h with ⟨rfl, rfl⟩ | ⟨a, len, cap, mm, nn, D, Pl, rfl, _, hl, hm, hmm, hx, hel⟩
  · exact ⟨none, [], 0, rfl, ⟨.inl rfl, by simp, by simp⟩, .inl rfl⟩
  · simp only [if_true] at hmm
    rw [cellsOfOrder] at hel
    obtain ⟨F, hF⟩ := choose_lt (α := XOrder) (n := mm) (p := fun i x => (W.cell? ((a.add (i * 3)).add 0) = some (.int .i64 x.what) ∧ W.cell? ((a.add (i * 3)).add 1) = some (.int .i64 x.n) ∧ W.cell? ((a.add (i * 3)).add 2) = some (.string x.text)) ∧ okOrder W x) (fun i hi => by
      obtain ⟨cs', h1, h2⟩ := hel i hi
      obtain ⟨x, rfl, hok⟩ := opencOrder h2
      obtain ⟨_, _, hc⟩ := World.cells?_some h1
      exact ⟨x, ⟨hc 0 (by omega), hc 1 (by omega), hc 2 (by omega)⟩, hok⟩)
    refine ⟨some a, (List.range len).map F, cap, by simp, ⟨?_, ?_, by rw [List.length_map, List.length_range]; omega⟩, .inr ⟨_, _, by rw [hx], by simp⟩⟩
    · by_cases hl0 : len = 0
      · subst hl0; exact .inl rfl
      · obtain ⟨b, off, spot⟩ := a
        have hc0 := (hF 0 (by omega)).1.1
        have hspot : spot = none := by simpa [Addr.add] using World.cell?_spot hc0
        subst hspot
        refine .inr ⟨b, off, rfl, by simpa [Addr.add] using cell_ltR hc0, fun i x hi => ?_⟩
        have hi' : i < len := by
          rcases Nat.lt_or_ge i len with h | h
          · exact h
          · rw [List.getElem?_eq_none (by simpa using h)] at hi; cases hi
        rw [List.getElem?_map, List.getElem?_range hi'] at hi
        obtain rfl : F i = x := by simpa using hi
        have := (hF i (by omega)).1
        simp only [WideShapes.add_plain, Nat.add_zero] at this
        exact this
    · intro x hx
      obtain ⟨i, hi, rfl⟩ := List.mem_map.1 hx
      exact (hF i (by have : i < len := by simpa using hi
                      omega)).2
theorem openROrder {H : Type} {enc : TypeId × Value → H} {W : World} {b0 : Nat} {r : Reach} {v : Value} {d : DataW H} {p : List MemPlace}
    (hv : Value.okWide Try.prog W r b0 42 v) (h : DataW.Trod enc Try.prog W 0 (fun _ => true) true 42 v d p) : ∃ (ao : Option Addr) (l : List XOrder) (cap : Nat), v = .slice ao l.length cap ∧ RowOrder W ao l ∧ (l = [] ∨ ∃ es ss, d = .slice es ss ∧ es.length = l.length) := by
  obtain ⟨a0, len, cap, rfl⟩ := okWide_slice Try.underlying42 hv
  obtain ⟨fuel, hf⟩ := h
  obtain ⟨ao, l, cap', hx, hr, hd⟩ := openrOrder hf
  simp [Value.cells] at hx
  obtain ⟨rfl, rfl, rfl⟩ := hx
  exact ⟨_, l, _, rfl, hr, hd⟩
end Go.Proofs.Ytlnoilfnpgogbag
