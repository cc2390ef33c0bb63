/- Days, steps that are handed in, opened. -/
import Derived.Test.YtdameincehiieaaSh0
import Derived.Test.YtdameincehiieaaRows
namespace Go.Proofs.Ytdameincehiieaa
open Go.ChangeShapes Go.WideShapes Go.ChangeAt Go.RowKit Go.Deep
set_option linter.unusedVariables false
set_option maxRecDepth 100000

structure XDays where
  di : Int
  an : Int
  ins : Int
  fee : Int
deriving Inhabited
def valDays (x : XDays) : Value := .agg #[.int .i64 x.di, .int .i64 x.an, .int .i64 x.ins, .int .i64 x.fee]
def okDays (W : World) (x : XDays) : Prop := (-9223372036854775808 ≤ x.di ∧ x.di ≤ 9223372036854775807) ∧ (-9223372036854775808 ≤ x.an ∧ x.an ≤ 9223372036854775807) ∧ (-9223372036854775808 ≤ x.ins ∧ x.ins ≤ 9223372036854775807) ∧ (-9223372036854775808 ≤ x.fee ∧ x.fee ≤ 9223372036854775807)
theorem cellsOfDays : Try.prog.cellsOf 23 = 4 := by kernel_rfl
theorem okDays.below {W W' : World} {x : XDays} (h : okDays W x) (hb : Below W.heap.size W W') : okDays W' x := by
  obtain ⟨h0, h1, h2, h3⟩ := h
  exact ⟨h0, h1, h2, h3⟩
theorem opencDays {H : Type} {enc : TypeId × Value → H} {W : World} {k : Nat} {cs : List Value} {y : DataW H × List MemPlace}
    (h : DataW.trod enc Try.prog W 0 (fun _ => true) true k 23 cs = some y) :
    ∃ x : XDays, cs = [.int .i64 x.di, .int .i64 x.an, .int .i64 x.ins, .int .i64 x.fee] ∧ okDays W x := by
  obtain ⟨xs, k', _, _, hsz, hlen, hq⟩ := DataW.trod_struct Try.underlying23 h
  rw [cellsOfDays] at hsz
  match cs, hsz with
  | [c0, c1, c2, c3], _ =>
    match xs, hlen with
    | [y0, y1, y2, y3], _ =>
      have h0 : DataW.trod enc Try.prog W 0 (fun _ => true) true k' 3 [c0] = some y0 := by simpa [cellsOfBool, cellsOfInt, cellsOfString] using hq 0 _ rfl
      obtain ⟨z0, e0, g0, w0⟩ := DataW.trod_int Try.underlying3 h0
      have h1 : DataW.trod enc Try.prog W 0 (fun _ => true) true k' 3 [c1] = some y1 := by simpa [cellsOfBool, cellsOfInt, cellsOfString] using hq 1 _ rfl
      obtain ⟨z1, e1, g1, w1⟩ := DataW.trod_int Try.underlying3 h1
      have h2 : DataW.trod enc Try.prog W 0 (fun _ => true) true k' 3 [c2] = some y2 := by simpa [cellsOfBool, cellsOfInt, cellsOfString] using hq 2 _ rfl
      obtain ⟨z2, e2, g2, w2⟩ := DataW.trod_int Try.underlying3 h2
      have h3 : DataW.trod enc Try.prog W 0 (fun _ => true) true k' 3 [c3] = some y3 := by simpa [cellsOfBool, cellsOfInt, cellsOfString] using hq 3 _ rfl
      obtain ⟨z3, e3, g3, w3⟩ := DataW.trod_int Try.underlying3 h3
      simp at e0 e1 e2 e3
      subst e0
      subst e1
      subst e2
      subst e3
      exact ⟨⟨z0, z1, z2, z3⟩, rfl, ⟨bounds_i64 w0, bounds_i64 w1, bounds_i64 w2, bounds_i64 w3⟩⟩
theorem openDays {H : Type} {enc : TypeId × Value → H} {W : World} {b0 : Nat} {r : Reach} {v : Value} {d : DataW H} {p : List MemPlace}
    (hv : Value.okWide Try.prog W r b0 23 v) (h : DataW.Trod enc Try.prog W 0 (fun _ => true) true 23 v d p) : ∃ x : XDays, v = valDays x ∧ okDays W x := by
  obtain ⟨cs, rfl, hsz⟩ := okWide_struct Try.underlying23 hv
  obtain ⟨fuel, hf⟩ := h
  obtain ⟨x, hx, ho⟩ := opencDays hf
  obtain ⟨l⟩ := cs
  simp only [Value.cells] at hx
  subst hx
  exact ⟨x, rfl, ho⟩
structure XPosted where
  frm : Int
  dst : Int
  shop : Int
  trace : Int
  amt : Int
  day : Int
deriving Inhabited
def valPosted (x : XPosted) : Value := .agg #[.int .i64 x.frm, .int .i64 x.dst, .int .i64 x.shop, .int .i64 x.trace, .int .i64 x.amt, .int .i64 x.day]
def okPosted (W : World) (x : XPosted) : Prop := (-9223372036854775808 ≤ x.frm ∧ x.frm ≤ 9223372036854775807) ∧ (-9223372036854775808 ≤ x.dst ∧ x.dst ≤ 9223372036854775807) ∧ (-9223372036854775808 ≤ x.shop ∧ x.shop ≤ 9223372036854775807) ∧ (-9223372036854775808 ≤ x.trace ∧ x.trace ≤ 9223372036854775807) ∧ (-9223372036854775808 ≤ x.amt ∧ x.amt ≤ 9223372036854775807) ∧ (-9223372036854775808 ≤ x.day ∧ x.day ≤ 9223372036854775807)
theorem cellsOfPosted : Try.prog.cellsOf 36 = 6 := by kernel_rfl
theorem okPosted.below {W W' : World} {x : XPosted} (h : okPosted W x) (hb : Below W.heap.size W W') : okPosted W' x := by
  obtain ⟨h0, h1, h2, h3, h4, h5⟩ := h
  exact ⟨h0, h1, h2, h3, h4, h5⟩
theorem opencPosted {H : Type} {enc : TypeId × Value → H} {W : World} {k : Nat} {cs : List Value} {y : DataW H × List MemPlace}
    (h : DataW.trod enc Try.prog W 0 (fun _ => true) true k 36 cs = some y) :
    ∃ x : XPosted, cs = [.int .i64 x.frm, .int .i64 x.dst, .int .i64 x.shop, .int .i64 x.trace, .int .i64 x.amt, .int .i64 x.day] ∧ okPosted W x := by
  obtain ⟨xs, k', _, _, hsz, hlen, hq⟩ := DataW.trod_struct Try.underlying36 h
  rw [cellsOfPosted] at hsz
  match cs, hsz with
  | [c0, c1, c2, c3, c4, c5], _ =>
    match xs, hlen with
    | [y0, y1, y2, y3, y4, y5], _ =>
      have h0 : DataW.trod enc Try.prog W 0 (fun _ => true) true k' 3 [c0] = some y0 := by simpa [cellsOfBool, cellsOfInt, cellsOfString] using hq 0 _ rfl
      obtain ⟨z0, e0, g0, w0⟩ := DataW.trod_int Try.underlying3 h0
      have h1 : DataW.trod enc Try.prog W 0 (fun _ => true) true k' 3 [c1] = some y1 := by simpa [cellsOfBool, cellsOfInt, cellsOfString] using hq 1 _ rfl
      obtain ⟨z1, e1, g1, w1⟩ := DataW.trod_int Try.underlying3 h1
      have h2 : DataW.trod enc Try.prog W 0 (fun _ => true) true k' 3 [c2] = some y2 := by simpa [cellsOfBool, cellsOfInt, cellsOfString] using hq 2 _ rfl
      obtain ⟨z2, e2, g2, w2⟩ := DataW.trod_int Try.underlying3 h2
      have h3 : DataW.trod enc Try.prog W 0 (fun _ => true) true k' 3 [c3] = some y3 := by simpa [cellsOfBool, cellsOfInt, cellsOfString] using hq 3 _ rfl
      obtain ⟨z3, e3, g3, w3⟩ := DataW.trod_int Try.underlying3 h3
      have h4 : DataW.trod enc Try.prog W 0 (fun _ => true) true k' 3 [c4] = some y4 := by simpa [cellsOfBool, cellsOfInt, cellsOfString] using hq 4 _ rfl
      obtain ⟨z4, e4, g4, w4⟩ := DataW.trod_int Try.underlying3 h4
      have h5 : DataW.trod enc Try.prog W 0 (fun _ => true) true k' 3 [c5] = some y5 := by simpa [cellsOfBool, cellsOfInt, cellsOfString] using hq 5 _ rfl
      obtain ⟨z5, e5, g5, w5⟩ := DataW.trod_int Try.underlying3 h5
      simp at e0 e1 e2 e3 e4 e5
      subst e0
      subst e1
      subst e2
      subst e3
      subst e4
      subst e5
      exact ⟨⟨z0, z1, z2, z3, z4, z5⟩, rfl, ⟨bounds_i64 w0, bounds_i64 w1, bounds_i64 w2, bounds_i64 w3, bounds_i64 w4, bounds_i64 w5⟩⟩
theorem openPosted {H : Type} {enc : TypeId × Value → H} {W : World} {b0 : Nat} {r : Reach} {v : Value} {d : DataW H} {p : List MemPlace}
    (hv : Value.okWide Try.prog W r b0 36 v) (h : DataW.Trod enc Try.prog W 0 (fun _ => true) true 36 v d p) : ∃ x : XPosted, v = valPosted x ∧ okPosted W x := by
  obtain ⟨cs, rfl, hsz⟩ := okWide_struct Try.underlying36 hv
  obtain ⟨fuel, hf⟩ := h
  obtain ⟨x, hx, ho⟩ := opencPosted hf
  obtain ⟨l⟩ := cs
  simp only [Value.cells] at hx
  subst hx
  exact ⟨x, rfl, ho⟩
structure XStep where
  dO : Int
  shop : Int
  trace : Int
  amount : Int
  day : Int
  forShop : Bool
  posted : XPosted
deriving Inhabited
def valStep (x : XStep) : Value := .agg #[.int .i64 x.dO, .int .i64 x.shop, .int .i64 x.trace, .int .i64 x.amount, .int .i64 x.day, .bool x.forShop, .int .i64 x.posted.frm, .int .i64 x.posted.dst, .int .i64 x.posted.shop, .int .i64 x.posted.trace, .int .i64 x.posted.amt, .int .i64 x.posted.day]
def okStep (W : World) (x : XStep) : Prop := (-9223372036854775808 ≤ x.dO ∧ x.dO ≤ 9223372036854775807) ∧ (-9223372036854775808 ≤ x.shop ∧ x.shop ≤ 9223372036854775807) ∧ (-9223372036854775808 ≤ x.trace ∧ x.trace ≤ 9223372036854775807) ∧ (-9223372036854775808 ≤ x.amount ∧ x.amount ≤ 9223372036854775807) ∧ (-9223372036854775808 ≤ x.day ∧ x.day ≤ 9223372036854775807) ∧ okPosted W x.posted
theorem cellsOfStep : Try.prog.cellsOf 38 = 12 := by kernel_rfl
theorem okStep.below {W W' : World} {x : XStep} (h : okStep W x) (hb : Below W.heap.size W W') : okStep W' x := by
  obtain ⟨h0, h1, h2, h3, h4, h5⟩ := h
  exact ⟨h0, h1, h2, h3, h4, h5.below hb⟩
theorem opencStep {H : Type} {enc : TypeId × Value → H} {W : World} {k : Nat} {cs : List Value} {y : DataW H × List MemPlace}
    (h : DataW.trod enc Try.prog W 0 (fun _ => true) true k 38 cs = some y) :
    ∃ x : XStep, cs = [.int .i64 x.dO, .int .i64 x.shop, .int .i64 x.trace, .int .i64 x.amount, .int .i64 x.day, .bool x.forShop, .int .i64 x.posted.frm, .int .i64 x.posted.dst, .int .i64 x.posted.shop, .int .i64 x.posted.trace, .int .i64 x.posted.amt, .int .i64 x.posted.day] ∧ okStep W x := by
  obtain ⟨xs, k', _, _, hsz, hlen, hq⟩ := DataW.trod_struct Try.underlying38 h
  rw [cellsOfStep] at hsz
  match cs, hsz with
  | [c0, c1, c2, c3, c4, c5, c6, c7, c8, c9, c10, c11], _ =>
    match xs, hlen with
    | [y0, y1, y2, y3, y4, y5, y6], _ =>
      have h0 : DataW.trod enc Try.prog W 0 (fun _ => true) true k' 3 [c0] = some y0 := by simpa [cellsOfBool, cellsOfInt, cellsOfPosted, cellsOfString] using hq 0 _ rfl
      obtain ⟨z0, e0, g0, w0⟩ := DataW.trod_int Try.underlying3 h0
      have h1 : DataW.trod enc Try.prog W 0 (fun _ => true) true k' 3 [c1] = some y1 := by simpa [cellsOfBool, cellsOfInt, cellsOfPosted, cellsOfString] using hq 1 _ rfl
      obtain ⟨z1, e1, g1, w1⟩ := DataW.trod_int Try.underlying3 h1
      have h2 : DataW.trod enc Try.prog W 0 (fun _ => true) true k' 3 [c2] = some y2 := by simpa [cellsOfBool, cellsOfInt, cellsOfPosted, cellsOfString] using hq 2 _ rfl
      obtain ⟨z2, e2, g2, w2⟩ := DataW.trod_int Try.underlying3 h2
      have h3 : DataW.trod enc Try.prog W 0 (fun _ => true) true k' 3 [c3] = some y3 := by simpa [cellsOfBool, cellsOfInt, cellsOfPosted, cellsOfString] using hq 3 _ rfl
      obtain ⟨z3, e3, g3, w3⟩ := DataW.trod_int Try.underlying3 h3
      have h4 : DataW.trod enc Try.prog W 0 (fun _ => true) true k' 3 [c4] = some y4 := by simpa [cellsOfBool, cellsOfInt, cellsOfPosted, cellsOfString] using hq 4 _ rfl
      obtain ⟨z4, e4, g4, w4⟩ := DataW.trod_int Try.underlying3 h4
      have h5 : DataW.trod enc Try.prog W 0 (fun _ => true) true k' 4 [c5] = some y5 := by simpa [cellsOfBool, cellsOfInt, cellsOfPosted, cellsOfString] using hq 5 _ rfl
      obtain ⟨z5, e5, g5⟩ := DataW.trod_bool Try.underlying4 h5
      have h6 : DataW.trod enc Try.prog W 0 (fun _ => true) true k' 36 [c6, c7, c8, c9, c10, c11] = some y6 := by simpa [cellsOfBool, cellsOfInt, cellsOfPosted, cellsOfString] using hq 6 _ rfl
      obtain ⟨z6, e6, w6⟩ := opencPosted h6
      simp at e0 e1 e2 e3 e4 e5 e6
      subst e0
      subst e1
      subst e2
      subst e3
      subst e4
      subst e5
      obtain ⟨rfl, rfl, rfl, rfl, rfl, rfl⟩ := e6
      exact ⟨⟨z0, z1, z2, z3, z4, z5, z6⟩, rfl, ⟨bounds_i64 w0, bounds_i64 w1, bounds_i64 w2, bounds_i64 w3, bounds_i64 w4, w6⟩⟩
theorem openStep {H : Type} {enc : TypeId × Value → H} {W : World} {b0 : Nat} {r : Reach} {v : Value} {d : DataW H} {p : List MemPlace}
    (hv : Value.okWide Try.prog W r b0 38 v) (h : DataW.Trod enc Try.prog W 0 (fun _ => true) true 38 v d p) : ∃ x : XStep, v = valStep x ∧ okStep W x := by
  obtain ⟨cs, rfl, hsz⟩ := okWide_struct Try.underlying38 hv
  obtain ⟨fuel, hf⟩ := h
  obtain ⟨x, hx, ho⟩ := opencStep hf
  obtain ⟨l⟩ := cs
  simp only [Value.cells] at hx
  subst hx
  exact ⟨x, rfl, ho⟩
def RowStep (W : World) (ao : Option Addr) (l : List XStep) : Prop :=
  (l = [] ∨ ∃ b off, ao = some ⟨b, off, none⟩ ∧ b < W.heap.size ∧ ∀ i x, l[i]? = some x → W.cell? ⟨b, off + i * 12, none⟩ = some (.int .i64 x.dO) ∧ W.cell? ⟨b, off + i * 12 + 1, none⟩ = some (.int .i64 x.shop) ∧ W.cell? ⟨b, off + i * 12 + 2, none⟩ = some (.int .i64 x.trace) ∧ W.cell? ⟨b, off + i * 12 + 3, none⟩ = some (.int .i64 x.amount) ∧ W.cell? ⟨b, off + i * 12 + 4, none⟩ = some (.int .i64 x.day) ∧ W.cell? ⟨b, off + i * 12 + 5, none⟩ = some (.bool x.forShop) ∧ W.cell? ⟨b, off + i * 12 + 6, none⟩ = some (.int .i64 x.posted.frm) ∧ W.cell? ⟨b, off + i * 12 + 7, none⟩ = some (.int .i64 x.posted.dst) ∧ W.cell? ⟨b, off + i * 12 + 8, none⟩ = some (.int .i64 x.posted.shop) ∧ W.cell? ⟨b, off + i * 12 + 9, none⟩ = some (.int .i64 x.posted.trace) ∧ W.cell? ⟨b, off + i * 12 + 10, none⟩ = some (.int .i64 x.posted.amt) ∧ W.cell? ⟨b, off + i * 12 + 11, none⟩ = some (.int .i64 x.posted.day)) ∧ (∀ x ∈ l, okStep W x) ∧ l.length ≤ maxLen
theorem RowStep.below {W W' : World} {ao : Option Addr} {l : List XStep} (h : RowStep W ao l) (hb : Below W.heap.size W W') : RowStep W' ao l := by
  obtain ⟨h, ho, hm⟩ := h
  refine ⟨?_, fun x hx => (ho x hx).below hb, hm⟩
  rcases h with h | ⟨b, off, e, hlt, hc⟩
  · exact .inl h
  · refine .inr ⟨b, off, e, Nat.lt_of_lt_of_le hlt hb.size, fun i s hi => ?_⟩
    obtain ⟨c0, c1, c2, c3, c4, c5, c6, c7, c8, c9, c10, c11⟩ := hc i s hi
    exact ⟨(hb.cell (p := ⟨b, off + i * 12, none⟩) hlt).trans c0, (hb.cell (p := ⟨b, off + i * 12 + 1, none⟩) hlt).trans c1, (hb.cell (p := ⟨b, off + i * 12 + 2, none⟩) hlt).trans c2, (hb.cell (p := ⟨b, off + i * 12 + 3, none⟩) hlt).trans c3, (hb.cell (p := ⟨b, off + i * 12 + 4, none⟩) hlt).trans c4, (hb.cell (p := ⟨b, off + i * 12 + 5, none⟩) hlt).trans c5, (hb.cell (p := ⟨b, off + i * 12 + 6, none⟩) hlt).trans c6, (hb.cell (p := ⟨b, off + i * 12 + 7, none⟩) hlt).trans c7, (hb.cell (p := ⟨b, off + i * 12 + 8, none⟩) hlt).trans c8, (hb.cell (p := ⟨b, off + i * 12 + 9, none⟩) hlt).trans c9, (hb.cell (p := ⟨b, off + i * 12 + 10, none⟩) hlt).trans c10, (hb.cell (p := ⟨b, off + i * 12 + 11, none⟩) hlt).trans c11⟩
theorem cellsOfSlStep : Try.prog.cellsOf 24 = 1 := by kernel_rfl
theorem openrStep {H : Type} {enc : TypeId × Value → H} {W : World} {k : Nat} {cs : List Value} {y : DataW H × List MemPlace}
    (h : DataW.trod enc Try.prog W 0 (fun _ => true) true k 24 cs = some y) :
    ∃ (ao : Option Addr) (l : List XStep) (cap : Nat), cs = [.slice ao l.length cap] ∧ RowStep W ao l ∧ l.length ≤ cap ∧ (l = [] ∨ ∃ es ss, y.1 = .slice es ss ∧ es.length = l.length) := by
  rcases open_slice Try.underlying24 h with ⟨rfl, rfl⟩ | ⟨a, len, cap, mm, nn, D, Pl, rfl, _, hl, hm, hmm, hx, hel⟩
  · exact ⟨none, [], 0, rfl, ⟨.inl rfl, by simp, by simp⟩, Nat.le_refl _, .inl rfl⟩
  · simp only [if_true] at hmm
    rw [cellsOfStep] at hel
    obtain ⟨F, hF⟩ := choose_lt (α := XStep) (n := mm) (p := fun i x => (W.cell? ((a.add (i * 12)).add 0) = some (.int .i64 x.dO) ∧ W.cell? ((a.add (i * 12)).add 1) = some (.int .i64 x.shop) ∧ W.cell? ((a.add (i * 12)).add 2) = some (.int .i64 x.trace) ∧ W.cell? ((a.add (i * 12)).add 3) = some (.int .i64 x.amount) ∧ W.cell? ((a.add (i * 12)).add 4) = some (.int .i64 x.day) ∧ W.cell? ((a.add (i * 12)).add 5) = some (.bool x.forShop) ∧ W.cell? ((a.add (i * 12)).add 6) = some (.int .i64 x.posted.frm) ∧ W.cell? ((a.add (i * 12)).add 7) = some (.int .i64 x.posted.dst) ∧ W.cell? ((a.add (i * 12)).add 8) = some (.int .i64 x.posted.shop) ∧ W.cell? ((a.add (i * 12)).add 9) = some (.int .i64 x.posted.trace) ∧ W.cell? ((a.add (i * 12)).add 10) = some (.int .i64 x.posted.amt) ∧ W.cell? ((a.add (i * 12)).add 11) = some (.int .i64 x.posted.day)) ∧ okStep W x) (fun i hi => by
      obtain ⟨cs', h1, h2⟩ := hel i hi
      obtain ⟨x, rfl, hok⟩ := opencStep h2
      obtain ⟨_, _, hc⟩ := World.cells?_some h1
      exact ⟨x, ⟨hc 0 (by omega), hc 1 (by omega), hc 2 (by omega), hc 3 (by omega), hc 4 (by omega), hc 5 (by omega), hc 6 (by omega), hc 7 (by omega), hc 8 (by omega), hc 9 (by omega), hc 10 (by omega), hc 11 (by omega)⟩, hok⟩)
    refine ⟨some a, (List.range len).map F, cap, by simp, ⟨?_, ?_, by rw [List.length_map, List.length_range]; omega⟩, by rw [List.length_map, List.length_range]; exact hl, .inr ⟨_, _, by rw [hx], by simp⟩⟩
    · by_cases hl0 : len = 0
      · subst hl0; exact .inl rfl
      · obtain ⟨b, off, spot⟩ := a
        have hc0 := (hF 0 (by omega)).1.1
        have hspot : spot = none := by simpa [Addr.add] using World.cell?_spot hc0
        subst hspot
        refine .inr ⟨b, off, rfl, by simpa [Addr.add] using cell_ltR hc0, fun i x hi => ?_⟩
        have hi' : i < len := by
          rcases Nat.lt_or_ge i len with h | h
          · exact h
          · rw [List.getElem?_eq_none (by simpa using h)] at hi; cases hi
        rw [List.getElem?_map, List.getElem?_range hi'] at hi
        obtain rfl : F i = x := by simpa using hi
        have := (hF i (by omega)).1
        simp only [WideShapes.add_plain, Nat.add_zero] at this
        exact this
    · intro x hx
      obtain ⟨i, hi, rfl⟩ := List.mem_map.1 hx
      exact (hF i (by have : i < len := by simpa using hi
                      omega)).2
theorem openRStep {H : Type} {enc : TypeId × Value → H} {W : World} {b0 : Nat} {r : Reach} {v : Value} {d : DataW H} {p : List MemPlace}
    (hv : Value.okWide Try.prog W r b0 24 v) (h : DataW.Trod enc Try.prog W 0 (fun _ => true) true 24 v d p) : ∃ (ao : Option Addr) (l : List XStep) (cap : Nat), v = .slice ao l.length cap ∧ RowStep W ao l ∧ (l = [] ∨ ∃ es ss, d = .slice es ss ∧ es.length = l.length) := by
  obtain ⟨a0, len, cap, rfl⟩ := okWide_slice Try.underlying24 hv
  obtain ⟨fuel, hf⟩ := h
  obtain ⟨ao, l, cap', hx, hr, _, hd⟩ := openrStep hf
  simp [Value.cells] at hx
  obtain ⟨rfl, rfl, rfl⟩ := hx
  exact ⟨_, l, _, rfl, hr, hd⟩
end Go.Proofs.Ytdameincehiieaa
