/- Rows of plain things that are handed in, opened. -/
import Derived.Test.YtfpglpefofcdeaaDoorProg
import Derived.WalkKit
import Derived.ProofKit
import Derived.OpenShut
import Derived.ShutString
import Derived.ChangeOld
import Derived.Below
import Derived.Deep.Slices
namespace Go.Proofs.YtfpglpefofcdeaaDoor
open Go.ChangeShapes Go.WideShapes Go.ChangeAt Go.RowKit Go.Deep
set_option linter.unusedVariables false

theorem cellsOfInt : Tryd.prog.cellsOf 3 = 1 := by kernel_rfl
theorem cellsOfBool : Tryd.prog.cellsOf 4 = 1 := by kernel_rfl
theorem cellsOfString : Tryd.prog.cellsOf 9 = 1 := by kernel_rfl
theorem cell_ltR {w : World} {a : Addr} {v : Value} (h : w.cell? a = some v) : a.block < w.heap.size := by
  rcases Nat.lt_or_ge a.block w.heap.size with h1 | h1
  · exact h1
  · unfold World.cell? at h
    rw [Array.getElem?_eq_none h1] at h
    cases h
end Go.Proofs.YtfpglpefofcdeaaDoor
namespace Go.Proofs.YtfpglpefofcdeaaDoor
open Go.ChangeShapes Go.WideShapes Go.ChangeAt Go.RowKit Go.Deep
set_option linter.unusedVariables false
set_option maxRecDepth 100000

def Rowint (W : World) (ao : Option Addr) (l : List Int) : Prop :=
  (l = [] ∨ ∃ b off, ao = some ⟨b, off, none⟩ ∧ b < W.heap.size ∧ ∀ i x, l[i]? = some x → W.cell? ⟨b, off + i, none⟩ = some (.int .i64 x)) ∧ (∀ x ∈ l, (-9223372036854775808 ≤ x ∧ x ≤ 9223372036854775807)) ∧ l.length ≤ maxLen
theorem Rowint.below {W W' : World} {ao : Option Addr} {l : List Int} (h : Rowint W ao l) (hb : Below W.heap.size W W') : Rowint W' ao l := by
  obtain ⟨h, ho, hm⟩ := h
  refine ⟨?_, ho, hm⟩
  rcases h with h | ⟨b, off, e, hlt, hc⟩
  · exact .inl h
  · exact .inr ⟨b, off, e, Nat.lt_of_lt_of_le hlt hb.size, fun i s hi => (hb.cell (p := ⟨b, off + i, none⟩) hlt).trans (hc i s hi)⟩
theorem cellsOfSlint : Tryd.prog.cellsOf 28 = 1 := by kernel_rfl
theorem opencint {H : Type} {enc : TypeId × Value → H} {W : World} {k : Nat} {cs : List Value} {y : DataW H × List MemPlace}
    (h : DataW.trod enc Tryd.prog W 0 (fun _ => true) true k 3 cs = some y) : ∃ x : Int, cs = [.int .i64 x] ∧ (-9223372036854775808 ≤ x ∧ x ≤ 9223372036854775807) := by
  obtain ⟨z, e, _, w⟩ := DataW.trod_int Tryd.underlying3 h
  exact ⟨z, e, bounds_i64 w⟩
theorem openrint {H : Type} {enc : TypeId × Value → H} {W : World} {k : Nat} {cs : List Value} {y : DataW H × List MemPlace}
    (h : DataW.trod enc Tryd.prog W 0 (fun _ => true) true k 28 cs = some y) :
    ∃ (ao : Option Addr) (l : List Int) (cap : Nat), cs = [.slice ao l.length cap] ∧ Rowint W ao l ∧ l.length ≤ cap ∧ (l = [] ∨ ∃ es ss, y.1 = .slice es ss ∧ es.length = l.length) := by
  rcases open_slice Tryd.underlying28 h with ⟨rfl, rfl⟩ | ⟨a, len, cap, mm, nn, D, Pl, rfl, _, hl, hm, hmm, hx, hel⟩
  · exact ⟨none, [], 0, rfl, ⟨.inl rfl, by simp, by simp⟩, Nat.le_refl _, .inl rfl⟩
  · simp only [if_true] at hmm
    rw [cellsOfInt] at hel
    obtain ⟨F, hF⟩ := choose_lt (α := Int) (n := mm) (p := fun i x => (W.cell? ((a.add (i * 1)).add 0) = some (.int .i64 x)) ∧ (-9223372036854775808 ≤ x ∧ x ≤ 9223372036854775807)) (fun i hi => by
      obtain ⟨cs', h1, h2⟩ := hel i hi
      obtain ⟨x, rfl, hok⟩ := opencint h2
      obtain ⟨_, _, hc⟩ := World.cells?_some h1
      exact ⟨x, hc 0 (by omega), hok⟩)
    refine ⟨some a, (List.range len).map F, cap, by simp, ⟨?_, ?_, by rw [List.length_map, List.length_range]; omega⟩, by rw [List.length_map, List.length_range]; exact hl, .inr ⟨_, _, by rw [hx], by simp⟩⟩
    · by_cases hl0 : len = 0
      · subst hl0; exact .inl rfl
      · obtain ⟨b, off, spot⟩ := a
        have hc0 := (hF 0 (by omega)).1
        have hspot : spot = none := by simpa [Addr.add] using World.cell?_spot hc0
        subst hspot
        refine .inr ⟨b, off, rfl, by simpa [Addr.add] using cell_ltR hc0, fun i x hi => ?_⟩
        have hi' : i < len := by
          rcases Nat.lt_or_ge i len with h | h
          · exact h
          · rw [List.getElem?_eq_none (by simpa using h)] at hi; cases hi
        rw [List.getElem?_map, List.getElem?_range hi'] at hi
        obtain rfl : F i = x := by simpa using hi
        have := (hF i (by omega)).1
        simp only [WideShapes.add_plain, Nat.mul_one, Nat.add_zero] at this
        exact this
    · intro x hx
      obtain ⟨i, hi, rfl⟩ := List.mem_map.1 hx
      exact (hF i (by have : i < len := by simpa using hi
                      omega)).2
theorem openRint {H : Type} {enc : TypeId × Value → H} {W : World} {b0 : Nat} {r : Reach} {v : Value} {d : DataW H} {p : List MemPlace}
    (hv : Value.okWide Tryd.prog W r b0 28 v) (h : DataW.Trod enc Tryd.prog W 0 (fun _ => true) true 28 v d p) : ∃ (ao : Option Addr) (l : List Int) (cap : Nat), v = .slice ao l.length cap ∧ Rowint W ao l ∧ (l = [] ∨ ∃ es ss, d = .slice es ss ∧ es.length = l.length) := by
  obtain ⟨a0, len, cap, rfl⟩ := okWide_slice Tryd.underlying28 hv
  obtain ⟨fuel, hf⟩ := h
  obtain ⟨ao, l, cap', hx, hr, _, hd⟩ := openrint hf
  simp [Value.cells] at hx
  obtain ⟨rfl, rfl, rfl⟩ := hx
  exact ⟨_, l, _, rfl, hr, hd⟩
def Rowstring (W : World) (ao : Option Addr) (l : List ByteArray) : Prop :=
  (l = [] ∨ ∃ b off, ao = some ⟨b, off, none⟩ ∧ b < W.heap.size ∧ ∀ i x, l[i]? = some x → W.cell? ⟨b, off + i, none⟩ = some (.string x)) ∧ (∀ x ∈ l, x.size ≤ maxLen) ∧ l.length ≤ maxLen
theorem Rowstring.below {W W' : World} {ao : Option Addr} {l : List ByteArray} (h : Rowstring W ao l) (hb : Below W.heap.size W W') : Rowstring W' ao l := by
  obtain ⟨h, ho, hm⟩ := h
  refine ⟨?_, ho, hm⟩
  rcases h with h | ⟨b, off, e, hlt, hc⟩
  · exact .inl h
  · exact .inr ⟨b, off, e, Nat.lt_of_lt_of_le hlt hb.size, fun i s hi => (hb.cell (p := ⟨b, off + i, none⟩) hlt).trans (hc i s hi)⟩
theorem cellsOfSlstring : Tryd.prog.cellsOf 23 = 1 := by kernel_rfl
theorem opencstring {H : Type} {enc : TypeId × Value → H} {W : World} {k : Nat} {cs : List Value} {y : DataW H × List MemPlace}
    (h : DataW.trod enc Tryd.prog W 0 (fun _ => true) true k 9 cs = some y) : ∃ x : ByteArray, cs = [.string x] ∧ x.size ≤ maxLen := by
  obtain ⟨z, e, _, w⟩ := DataW.trod_string Tryd.underlying9 h
  exact ⟨z, e, w⟩
theorem openrstring {H : Type} {enc : TypeId × Value → H} {W : World} {k : Nat} {cs : List Value} {y : DataW H × List MemPlace}
    (h : DataW.trod enc Tryd.prog W 0 (fun _ => true) true k 23 cs = some y) :
    ∃ (ao : Option Addr) (l : List ByteArray) (cap : Nat), cs = [.slice ao l.length cap] ∧ Rowstring W ao l ∧ l.length ≤ cap ∧ (l = [] ∨ ∃ es ss, y.1 = .slice es ss ∧ es.length = l.length) := by
  rcases open_slice Tryd.underlying23 h with ⟨rfl, rfl⟩ | ⟨a, len, cap, mm, nn, D, Pl, rfl, _, hl, hm, hmm, hx, hel⟩
  · exact ⟨none, [], 0, rfl, ⟨.inl rfl, by simp, by simp⟩, Nat.le_refl _, .inl rfl⟩
  · simp only [if_true] at hmm
    rw [cellsOfString] at hel
    obtain ⟨F, hF⟩ := choose_lt (α := ByteArray) (n := mm) (p := fun i x => (W.cell? ((a.add (i * 1)).add 0) = some (.string x)) ∧ x.size ≤ maxLen) (fun i hi => by
      obtain ⟨cs', h1, h2⟩ := hel i hi
      obtain ⟨x, rfl, hok⟩ := opencstring h2
      obtain ⟨_, _, hc⟩ := World.cells?_some h1
      exact ⟨x, hc 0 (by omega), hok⟩)
    refine ⟨some a, (List.range len).map F, cap, by simp, ⟨?_, ?_, by rw [List.length_map, List.length_range]; omega⟩, by rw [List.length_map, List.length_range]; exact hl, .inr ⟨_, _, by rw [hx], by simp⟩⟩
    · by_cases hl0 : len = 0
      · subst hl0; exact .inl rfl
      · obtain ⟨b, off, spot⟩ := a
        have hc0 := (hF 0 (by omega)).1
        have hspot : spot = none := by simpa [Addr.add] using World.cell?_spot hc0
        subst hspot
        refine .inr ⟨b, off, rfl, by simpa [Addr.add] using cell_ltR hc0, fun i x hi => ?_⟩
        have hi' : i < len := by
          rcases Nat.lt_or_ge i len with h | h
          · exact h
          · rw [List.getElem?_eq_none (by simpa using h)] at hi; cases hi
        rw [List.getElem?_map, List.getElem?_range hi'] at hi
        obtain rfl : F i = x := by simpa using hi
        have := (hF i (by omega)).1
        simp only [WideShapes.add_plain, Nat.mul_one, Nat.add_zero] at this
        exact this
    · intro x hx
      obtain ⟨i, hi, rfl⟩ := List.mem_map.1 hx
      exact (hF i (by have : i < len := by simpa using hi
                      omega)).2
theorem openRstring {H : Type} {enc : TypeId × Value → H} {W : World} {b0 : Nat} {r : Reach} {v : Value} {d : DataW H} {p : List MemPlace}
    (hv : Value.okWide Tryd.prog W r b0 23 v) (h : DataW.Trod enc Tryd.prog W 0 (fun _ => true) true 23 v d p) : ∃ (ao : Option Addr) (l : List ByteArray) (cap : Nat), v = .slice ao l.length cap ∧ Rowstring W ao l ∧ (l = [] ∨ ∃ es ss, d = .slice es ss ∧ es.length = l.length) := by
  obtain ⟨a0, len, cap, rfl⟩ := okWide_slice Tryd.underlying23 hv
  obtain ⟨fuel, hf⟩ := h
  obtain ⟨ao, l, cap', hx, hr, _, hd⟩ := openrstring hf
  simp [Value.cells] at hx
  obtain ⟨rfl, rfl, rfl⟩ := hx
  exact ⟨_, l, _, rfl, hr, hd⟩
structure XWay where
  code : Int
  when : Int
  next : Bool
deriving Inhabited
def valWay (x : XWay) : Value := .agg #[.int .i64 x.code, .int .i64 x.when, .bool x.next]
def okWay (W : World) (x : XWay) : Prop := (-9223372036854775808 ≤ x.code ∧ x.code ≤ 9223372036854775807) ∧ (-9223372036854775808 ≤ x.when ∧ x.when ≤ 9223372036854775807)
theorem cellsOfWay : Tryd.prog.cellsOf 171 = 3 := by kernel_rfl
theorem okWay.below {W W' : World} {x : XWay} (h : okWay W x) (hb : Below W.heap.size W W') : okWay W' x := by
  obtain ⟨h0, h1⟩ := h
  exact ⟨h0, h1⟩
theorem opencWay {H : Type} {enc : TypeId × Value → H} {W : World} {k : Nat} {cs : List Value} {y : DataW H × List MemPlace}
    (h : DataW.trod enc Tryd.prog W 0 (fun _ => true) true k 171 cs = some y) :
    ∃ x : XWay, cs = [.int .i64 x.code, .int .i64 x.when, .bool x.next] ∧ okWay W x := by
  obtain ⟨xs, k', _, _, hsz, hlen, hq⟩ := DataW.trod_struct Tryd.underlying171 h
  rw [cellsOfWay] at hsz
  match cs, hsz with
  | [c0, c1, c2], _ =>
    match xs, hlen with
    | [y0, y1, y2], _ =>
      have h0 : DataW.trod enc Tryd.prog W 0 (fun _ => true) true k' 3 [c0] = some y0 := by simpa [cellsOfBool, cellsOfInt, cellsOfString] using hq 0 _ rfl
      obtain ⟨z0, e0, g0, w0⟩ := DataW.trod_int Tryd.underlying3 h0
      have h1 : DataW.trod enc Tryd.prog W 0 (fun _ => true) true k' 3 [c1] = some y1 := by simpa [cellsOfBool, cellsOfInt, cellsOfString] using hq 1 _ rfl
      obtain ⟨z1, e1, g1, w1⟩ := DataW.trod_int Tryd.underlying3 h1
      have h2 : DataW.trod enc Tryd.prog W 0 (fun _ => true) true k' 4 [c2] = some y2 := by simpa [cellsOfBool, cellsOfInt, cellsOfString] using hq 2 _ rfl
      obtain ⟨z2, e2, g2⟩ := DataW.trod_bool Tryd.underlying4 h2
      simp at e0 e1 e2
      subst e0
      subst e1
      subst e2
      exact ⟨⟨z0, z1, z2⟩, rfl, ⟨bounds_i64 w0, bounds_i64 w1⟩⟩
theorem openWay {H : Type} {enc : TypeId × Value → H} {W : World} {b0 : Nat} {r : Reach} {v : Value} {d : DataW H} {p : List MemPlace}
    (hv : Value.okWide Tryd.prog W r b0 171 v) (h : DataW.Trod enc Tryd.prog W 0 (fun _ => true) true 171 v d p) : ∃ x : XWay, v = valWay x ∧ okWay W x := by
  obtain ⟨cs, rfl, hsz⟩ := okWide_struct Tryd.underlying171 hv
  obtain ⟨fuel, hf⟩ := h
  obtain ⟨x, hx, ho⟩ := opencWay hf
  obtain ⟨l⟩ := cs
  simp only [Value.cells] at hx
  subst hx
  exact ⟨x, rfl, ho⟩
def RowWay (W : World) (ao : Option Addr) (l : List XWay) : Prop :=
  (l = [] ∨ ∃ b off, ao = some ⟨b, off, none⟩ ∧ b < W.heap.size ∧ ∀ i x, l[i]? = some x → W.cell? ⟨b, off + i * 3, none⟩ = some (.int .i64 x.code) ∧ W.cell? ⟨b, off + i * 3 + 1, none⟩ = some (.int .i64 x.when) ∧ W.cell? ⟨b, off + i * 3 + 2, none⟩ = some (.bool x.next)) ∧ (∀ x ∈ l, okWay W x) ∧ l.length ≤ maxLen
theorem RowWay.below {W W' : World} {ao : Option Addr} {l : List XWay} (h : RowWay W ao l) (hb : Below W.heap.size W W') : RowWay W' ao l := by
  obtain ⟨h, ho, hm⟩ := h
  refine ⟨?_, fun x hx => (ho x hx).below hb, hm⟩
  rcases h with h | ⟨b, off, e, hlt, hc⟩
  · exact .inl h
  · refine .inr ⟨b, off, e, Nat.lt_of_lt_of_le hlt hb.size, fun i s hi => ?_⟩
    obtain ⟨c0, c1, c2⟩ := hc i s hi
    exact ⟨(hb.cell (p := ⟨b, off + i * 3, none⟩) hlt).trans c0, (hb.cell (p := ⟨b, off + i * 3 + 1, none⟩) hlt).trans c1, (hb.cell (p := ⟨b, off + i * 3 + 2, none⟩) hlt).trans c2⟩
theorem cellsOfSlWay : Tryd.prog.cellsOf 52 = 1 := by kernel_rfl
theorem openrWay {H : Type} {enc : TypeId × Value → H} {W : World} {k : Nat} {cs : List Value} {y : DataW H × List MemPlace}
    (h : DataW.trod enc Tryd.prog W 0 (fun _ => true) true k 52 cs = some y) :
    ∃ (ao : Option Addr) (l : List XWay) (cap : Nat), cs = [.slice ao l.length cap] ∧ RowWay W ao l ∧ l.length ≤ cap ∧ (l = [] ∨ ∃ es ss, y.1 = .slice es ss ∧ es.length = l.length) := by
  rcases open_slice Tryd.underlying52 h with ⟨rfl, rfl⟩ | ⟨a, len, cap, mm, nn, D, Pl, rfl, _, hl, hm, hmm, hx, hel⟩
  · exact ⟨none, [], 0, rfl, ⟨.inl rfl, by simp, by simp⟩, Nat.le_refl _, .inl rfl⟩
  · simp only [if_true] at hmm
    rw [cellsOfWay] at hel
    obtain ⟨F, hF⟩ := choose_lt (α := XWay) (n := mm) (p := fun i x => (W.cell? ((a.add (i * 3)).add 0) = some (.int .i64 x.code) ∧ W.cell? ((a.add (i * 3)).add 1) = some (.int .i64 x.when) ∧ W.cell? ((a.add (i * 3)).add 2) = some (.bool x.next)) ∧ okWay W x) (fun i hi => by
      obtain ⟨cs', h1, h2⟩ := hel i hi
      obtain ⟨x, rfl, hok⟩ := opencWay h2
      obtain ⟨_, _, hc⟩ := World.cells?_some h1
      exact ⟨x, ⟨hc 0 (by omega), hc 1 (by omega), hc 2 (by omega)⟩, hok⟩)
    refine ⟨some a, (List.range len).map F, cap, by simp, ⟨?_, ?_, by rw [List.length_map, List.length_range]; omega⟩, by rw [List.length_map, List.length_range]; exact hl, .inr ⟨_, _, by rw [hx], by simp⟩⟩
    · by_cases hl0 : len = 0
      · subst hl0; exact .inl rfl
      · obtain ⟨b, off, spot⟩ := a
        have hc0 := (hF 0 (by omega)).1.1
        have hspot : spot = none := by simpa [Addr.add] using World.cell?_spot hc0
        subst hspot
        refine .inr ⟨b, off, rfl, by simpa [Addr.add] using cell_ltR hc0, fun i x hi => ?_⟩
        have hi' : i < len := by
          rcases Nat.lt_or_ge i len with h | h
          · exact h
          · rw [List.getElem?_eq_none (by simpa using h)] at hi; cases hi
        rw [List.getElem?_map, List.getElem?_range hi'] at hi
        obtain rfl : F i = x := by simpa using hi
        have := (hF i (by omega)).1
        simp only [WideShapes.add_plain, Nat.add_zero] at this
        exact this
    · intro x hx
      obtain ⟨i, hi, rfl⟩ := List.mem_map.1 hx
      exact (hF i (by have : i < len := by simpa using hi
                      omega)).2
theorem openRWay {H : Type} {enc : TypeId × Value → H} {W : World} {b0 : Nat} {r : Reach} {v : Value} {d : DataW H} {p : List MemPlace}
    (hv : Value.okWide Tryd.prog W r b0 52 v) (h : DataW.Trod enc Tryd.prog W 0 (fun _ => true) true 52 v d p) : ∃ (ao : Option Addr) (l : List XWay) (cap : Nat), v = .slice ao l.length cap ∧ RowWay W ao l ∧ (l = [] ∨ ∃ es ss, d = .slice es ss ∧ es.length = l.length) := by
  obtain ⟨a0, len, cap, rfl⟩ := okWide_slice Tryd.underlying52 hv
  obtain ⟨fuel, hf⟩ := h
  obtain ⟨ao, l, cap', hx, hr, _, hd⟩ := openrWay hf
  simp [Value.cells] at hx
  obtain ⟨rfl, rfl, rfl⟩ := hx
  exact ⟨_, l, _, rfl, hr, hd⟩
structure XWays where
  x : Int
  y : Int
  listo : Option Addr
  list : List XWay
  listc : Nat
deriving Inhabited
def valWays (x : XWays) : Value := .agg #[.int .i64 x.x, .int .i64 x.y, .slice x.listo x.list.length x.listc]
def okWays (W : World) (x : XWays) : Prop := (-9223372036854775808 ≤ x.x ∧ x.x ≤ 9223372036854775807) ∧ (-9223372036854775808 ≤ x.y ∧ x.y ≤ 9223372036854775807) ∧ RowWay W x.listo x.list
theorem cellsOfWays : Tryd.prog.cellsOf 54 = 3 := by kernel_rfl
theorem okWays.below {W W' : World} {x : XWays} (h : okWays W x) (hb : Below W.heap.size W W') : okWays W' x := by
  obtain ⟨h0, h1, h2⟩ := h
  exact ⟨h0, h1, h2.below hb⟩
theorem opencWays {H : Type} {enc : TypeId × Value → H} {W : World} {k : Nat} {cs : List Value} {y : DataW H × List MemPlace}
    (h : DataW.trod enc Tryd.prog W 0 (fun _ => true) true k 54 cs = some y) :
    ∃ x : XWays, cs = [.int .i64 x.x, .int .i64 x.y, .slice x.listo x.list.length x.listc] ∧ okWays W x := by
  obtain ⟨xs, k', _, _, hsz, hlen, hq⟩ := DataW.trod_struct Tryd.underlying54 h
  rw [cellsOfWays] at hsz
  match cs, hsz with
  | [c0, c1, c2], _ =>
    match xs, hlen with
    | [y0, y1, y2], _ =>
      have h0 : DataW.trod enc Tryd.prog W 0 (fun _ => true) true k' 3 [c0] = some y0 := by simpa [cellsOfBool, cellsOfInt, cellsOfSlWay, cellsOfString] using hq 0 _ rfl
      obtain ⟨z0, e0, g0, w0⟩ := DataW.trod_int Tryd.underlying3 h0
      have h1 : DataW.trod enc Tryd.prog W 0 (fun _ => true) true k' 3 [c1] = some y1 := by simpa [cellsOfBool, cellsOfInt, cellsOfSlWay, cellsOfString] using hq 1 _ rfl
      obtain ⟨z1, e1, g1, w1⟩ := DataW.trod_int Tryd.underlying3 h1
      have h2 : DataW.trod enc Tryd.prog W 0 (fun _ => true) true k' 52 [c2] = some y2 := by simpa [cellsOfBool, cellsOfInt, cellsOfSlWay, cellsOfString] using hq 2 _ rfl
      obtain ⟨zo2, z2, zc2, e2, w2, wc2, _⟩ := openrWay h2
      simp at e0 e1 e2
      subst e0
      subst e1
      subst e2
      exact ⟨⟨z0, z1, zo2, z2, zc2⟩, rfl, ⟨bounds_i64 w0, bounds_i64 w1, w2⟩⟩
theorem openWays {H : Type} {enc : TypeId × Value → H} {W : World} {b0 : Nat} {r : Reach} {v : Value} {d : DataW H} {p : List MemPlace}
    (hv : Value.okWide Tryd.prog W r b0 54 v) (h : DataW.Trod enc Tryd.prog W 0 (fun _ => true) true 54 v d p) : ∃ x : XWays, v = valWays x ∧ okWays W x := by
  obtain ⟨cs, rfl, hsz⟩ := okWide_struct Tryd.underlying54 hv
  obtain ⟨fuel, hf⟩ := h
  obtain ⟨x, hx, ho⟩ := opencWays hf
  obtain ⟨l⟩ := cs
  simp only [Value.cells] at hx
  subst hx
  exact ⟨x, rfl, ho⟩
structure XScene where
  amount : Int
  cash : Bool
  ableo : Option Addr
  able : List Int
  ablec : Nat
  wello : Option Addr
  well : List Int
  wellc : Nat
deriving Inhabited
def valScene (x : XScene) : Value := .agg #[.int .i64 x.amount, .bool x.cash, .slice x.ableo x.able.length x.ablec, .slice x.wello x.well.length x.wellc]
def okScene (W : World) (x : XScene) : Prop := (-9223372036854775808 ≤ x.amount ∧ x.amount ≤ 9223372036854775807) ∧ Rowint W x.ableo x.able ∧ Rowint W x.wello x.well
theorem okScene.below {W W' : World} {x : XScene} (h : okScene W x) (hb : Below W.heap.size W W') : okScene W' x := by
  obtain ⟨h0, h1, h2⟩ := h
  exact ⟨h0, h1.below hb, h2.below hb⟩
structure XRisk where
  floor : Int
  frm : Int
  share : Int
  most : Int
  lower : Int
  upper : Int
  blacko : Option Addr
  black : List ByteArray
  blackc : Nat
deriving Inhabited
def valRisk (x : XRisk) : Value := .agg #[.int .i64 x.floor, .int .i64 x.frm, .int .i64 x.share, .int .i64 x.most, .int .i64 x.lower, .int .i64 x.upper, .slice x.blacko x.black.length x.blackc]
def okRisk (W : World) (x : XRisk) : Prop := (-9223372036854775808 ≤ x.floor ∧ x.floor ≤ 9223372036854775807) ∧ (-9223372036854775808 ≤ x.frm ∧ x.frm ≤ 9223372036854775807) ∧ (-9223372036854775808 ≤ x.share ∧ x.share ≤ 9223372036854775807) ∧ (-9223372036854775808 ≤ x.most ∧ x.most ≤ 9223372036854775807) ∧ (-9223372036854775808 ≤ x.lower ∧ x.lower ≤ 9223372036854775807) ∧ (-9223372036854775808 ≤ x.upper ∧ x.upper ≤ 9223372036854775807) ∧ Rowstring W x.blacko x.black
theorem cellsOfRisk : Tryd.prog.cellsOf 25 = 7 := by kernel_rfl
theorem okRisk.below {W W' : World} {x : XRisk} (h : okRisk W x) (hb : Below W.heap.size W W') : okRisk W' x := by
  obtain ⟨h0, h1, h2, h3, h4, h5, h6⟩ := h
  exact ⟨h0, h1, h2, h3, h4, h5, h6.below hb⟩
theorem opencRisk {H : Type} {enc : TypeId × Value → H} {W : World} {k : Nat} {cs : List Value} {y : DataW H × List MemPlace}
    (h : DataW.trod enc Tryd.prog W 0 (fun _ => true) true k 25 cs = some y) :
    ∃ x : XRisk, cs = [.int .i64 x.floor, .int .i64 x.frm, .int .i64 x.share, .int .i64 x.most, .int .i64 x.lower, .int .i64 x.upper, .slice x.blacko x.black.length x.blackc] ∧ okRisk W x := by
  obtain ⟨xs, k', _, _, hsz, hlen, hq⟩ := DataW.trod_struct Tryd.underlying25 h
  rw [cellsOfRisk] at hsz
  match cs, hsz with
  | [c0, c1, c2, c3, c4, c5, c6], _ =>
    match xs, hlen with
    | [y0, y1, y2, y3, y4, y5, y6], _ =>
      have h0 : DataW.trod enc Tryd.prog W 0 (fun _ => true) true k' 3 [c0] = some y0 := by simpa [cellsOfBool, cellsOfInt, cellsOfSlstring, cellsOfString] using hq 0 _ rfl
      obtain ⟨z0, e0, g0, w0⟩ := DataW.trod_int Tryd.underlying3 h0
      have h1 : DataW.trod enc Tryd.prog W 0 (fun _ => true) true k' 3 [c1] = some y1 := by simpa [cellsOfBool, cellsOfInt, cellsOfSlstring, cellsOfString] using hq 1 _ rfl
      obtain ⟨z1, e1, g1, w1⟩ := DataW.trod_int Tryd.underlying3 h1
      have h2 : DataW.trod enc Tryd.prog W 0 (fun _ => true) true k' 3 [c2] = some y2 := by simpa [cellsOfBool, cellsOfInt, cellsOfSlstring, cellsOfString] using hq 2 _ rfl
      obtain ⟨z2, e2, g2, w2⟩ := DataW.trod_int Tryd.underlying3 h2
      have h3 : DataW.trod enc Tryd.prog W 0 (fun _ => true) true k' 3 [c3] = some y3 := by simpa [cellsOfBool, cellsOfInt, cellsOfSlstring, cellsOfString] using hq 3 _ rfl
      obtain ⟨z3, e3, g3, w3⟩ := DataW.trod_int Tryd.underlying3 h3
      have h4 : DataW.trod enc Tryd.prog W 0 (fun _ => true) true k' 3 [c4] = some y4 := by simpa [cellsOfBool, cellsOfInt, cellsOfSlstring, cellsOfString] using hq 4 _ rfl
      obtain ⟨z4, e4, g4, w4⟩ := DataW.trod_int Tryd.underlying3 h4
      have h5 : DataW.trod enc Tryd.prog W 0 (fun _ => true) true k' 3 [c5] = some y5 := by simpa [cellsOfBool, cellsOfInt, cellsOfSlstring, cellsOfString] using hq 5 _ rfl
      obtain ⟨z5, e5, g5, w5⟩ := DataW.trod_int Tryd.underlying3 h5
      have h6 : DataW.trod enc Tryd.prog W 0 (fun _ => true) true k' 23 [c6] = some y6 := by simpa [cellsOfBool, cellsOfInt, cellsOfSlstring, cellsOfString] using hq 6 _ rfl
      obtain ⟨zo6, z6, zc6, e6, w6, wc6, _⟩ := openrstring h6
      simp at e0 e1 e2 e3 e4 e5 e6
      subst e0
      subst e1
      subst e2
      subst e3
      subst e4
      subst e5
      subst e6
      exact ⟨⟨z0, z1, z2, z3, z4, z5, zo6, z6, zc6⟩, rfl, ⟨bounds_i64 w0, bounds_i64 w1, bounds_i64 w2, bounds_i64 w3, bounds_i64 w4, bounds_i64 w5, w6⟩⟩
theorem openRisk {H : Type} {enc : TypeId × Value → H} {W : World} {b0 : Nat} {r : Reach} {v : Value} {d : DataW H} {p : List MemPlace}
    (hv : Value.okWide Tryd.prog W r b0 25 v) (h : DataW.Trod enc Tryd.prog W 0 (fun _ => true) true 25 v d p) : ∃ x : XRisk, v = valRisk x ∧ okRisk W x := by
  obtain ⟨cs, rfl, hsz⟩ := okWide_struct Tryd.underlying25 hv
  obtain ⟨fuel, hf⟩ := h
  obtain ⟨x, hx, ho⟩ := opencRisk hf
  obtain ⟨l⟩ := cs
  simp only [Value.cells] at hx
  subst hx
  exact ⟨x, rfl, ho⟩
structure XSeen where
  id : ByteArray
  amount : Int
  other : Int
  count : Int
  last : Int
  draw : Int
deriving Inhabited
def valSeen (x : XSeen) : Value := .agg #[.string x.id, .int .i64 x.amount, .int .i64 x.other, .int .i64 x.count, .int .i64 x.last, .int .i64 x.draw]
def okSeen (W : World) (x : XSeen) : Prop := x.id.size ≤ maxLen ∧ (-9223372036854775808 ≤ x.amount ∧ x.amount ≤ 9223372036854775807) ∧ (-9223372036854775808 ≤ x.other ∧ x.other ≤ 9223372036854775807) ∧ (-9223372036854775808 ≤ x.count ∧ x.count ≤ 9223372036854775807) ∧ (-9223372036854775808 ≤ x.last ∧ x.last ≤ 9223372036854775807) ∧ (-9223372036854775808 ≤ x.draw ∧ x.draw ≤ 9223372036854775807)
theorem okSeen.below {W W' : World} {x : XSeen} (h : okSeen W x) (hb : Below W.heap.size W W') : okSeen W' x := by
  obtain ⟨h0, h1, h2, h3, h4, h5⟩ := h
  exact ⟨h0, h1, h2, h3, h4, h5⟩
end Go.Proofs.YtfpglpefofcdeaaDoor
