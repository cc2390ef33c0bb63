/- A till's plan, and what a customer wants, that are handed in, opened. -/
import Derived.Test.YtfpglpefofcdeaaDoorM00
import Derived.Test.YtfpglpefofcdeaaDoorM01
import Derived.Test.YtfpglpefofcdeaaDoorProg
import Derived.WalkKit
import Derived.WalkSpells
import Derived.WalkLawsBesides
import Derived.Deep.QuietTactic
import Derived.Below
namespace Go.Proofs.YtfpglpefofcdeaaDoor
open Go.ChangeShapes Go.WideShapes Go.ChangeAt Go.RowKit Go.Deep
set_option linter.unusedVariables false
set_option linter.unusedSimpArgs false
set_option maxRecDepth 100000

theorem bulk_posN {H : Type} (d : DataW H) : 1 ≤ Rows.uptoBulk d := by
  cases d with
  | lit x => cases x <;> simp [Rows.uptoBulk]
  | _ => simp [Rows.uptoBulk]
theorem bulkAll_length {H : Type} {es : List (DataW H)} : es.length ≤ Rows.uptoBulkAll es := by
  induction es with
  | nil => simp
  | cons d r ih =>
    have := bulk_posN d
    simp only [Rows.uptoBulkAll, List.length_cons]
    omega


def bulkRisk (x : XRisk) : Nat := x.black.length
theorem opencbRisk {H : Type} {enc : TypeId × Value → H} {W : World} {k : Nat} {cs : List Value} {y : DataW H × List MemPlace}
    (h : DataW.trod enc Tryd.prog W 0 (fun _ => true) true k 25 cs = some y) :
    ∃ x : XRisk, cs = [.int .i64 x.floor, .int .i64 x.frm, .int .i64 x.share, .int .i64 x.most, .int .i64 x.lower, .int .i64 x.upper, .slice x.blacko x.black.length x.blackc] ∧ okRisk W x ∧ bulkRisk x ≤ Rows.uptoBulk y.1 := by
  obtain ⟨xs, k', _, hagg, hsz, hlen, hq⟩ := DataW.trod_struct Tryd.underlying25 h
  rw [cellsOfRisk] at hsz
  match cs, hsz with
  | [c0, c1, c2, c3, c4, c5, c6], _ =>
    match xs, hlen, hagg with
    | [y0, y1, y2, y3, y4, y5, y6], _, hagg =>
      have hbk := congrArg Rows.uptoBulk (Prod.ext_iff.1 hagg).1
      have h0 : DataW.trod enc Tryd.prog W 0 (fun _ => true) true k' 3 [c0] = some y0 := by simpa [cellsOfBool, cellsOfInt, cellsOfSlstring, cellsOfString] using hq 0 _ rfl
      obtain ⟨z0, e0, g0, w0⟩ := DataW.trod_int Tryd.underlying3 h0
      subst g0
      have h1 : DataW.trod enc Tryd.prog W 0 (fun _ => true) true k' 3 [c1] = some y1 := by simpa [cellsOfBool, cellsOfInt, cellsOfSlstring, cellsOfString] using hq 1 _ rfl
      obtain ⟨z1, e1, g1, w1⟩ := DataW.trod_int Tryd.underlying3 h1
      subst g1
      have h2 : DataW.trod enc Tryd.prog W 0 (fun _ => true) true k' 3 [c2] = some y2 := by simpa [cellsOfBool, cellsOfInt, cellsOfSlstring, cellsOfString] using hq 2 _ rfl
      obtain ⟨z2, e2, g2, w2⟩ := DataW.trod_int Tryd.underlying3 h2
      subst g2
      have h3 : DataW.trod enc Tryd.prog W 0 (fun _ => true) true k' 3 [c3] = some y3 := by simpa [cellsOfBool, cellsOfInt, cellsOfSlstring, cellsOfString] using hq 3 _ rfl
      obtain ⟨z3, e3, g3, w3⟩ := DataW.trod_int Tryd.underlying3 h3
      subst g3
      have h4 : DataW.trod enc Tryd.prog W 0 (fun _ => true) true k' 3 [c4] = some y4 := by simpa [cellsOfBool, cellsOfInt, cellsOfSlstring, cellsOfString] using hq 4 _ rfl
      obtain ⟨z4, e4, g4, w4⟩ := DataW.trod_int Tryd.underlying3 h4
      subst g4
      have h5 : DataW.trod enc Tryd.prog W 0 (fun _ => true) true k' 3 [c5] = some y5 := by simpa [cellsOfBool, cellsOfInt, cellsOfSlstring, cellsOfString] using hq 5 _ rfl
      obtain ⟨z5, e5, g5, w5⟩ := DataW.trod_int Tryd.underlying3 h5
      subst g5
      have h6 : DataW.trod enc Tryd.prog W 0 (fun _ => true) true k' 23 [c6] = some y6 := by simpa [cellsOfBool, cellsOfInt, cellsOfSlstring, cellsOfString] using hq 6 _ rfl
      obtain ⟨zo6, z6, zc6, e6, w6, wc6, hl6⟩ := openrstring h6
      have b6 : z6.length ≤ Rows.uptoBulk y6.1 := by
        rcases hl6 with hd | ⟨es, ss, hd, hes⟩
        · rw [hd]; simp
        · rw [hd]
          simp only [Rows.uptoBulk]
          have := bulkAll_length (es := es)
          omega
      simp at e0 e1 e2 e3 e4 e5 e6
      subst e0
      subst e1
      subst e2
      subst e3
      subst e4
      subst e5
      subst e6
      refine ⟨⟨z0, z1, z2, z3, z4, z5, zo6, z6, zc6⟩, rfl, ⟨bounds_i64 w0, bounds_i64 w1, bounds_i64 w2, bounds_i64 w3, bounds_i64 w4, bounds_i64 w5, w6⟩, ?_⟩
      simp only [List.map_cons, List.map_nil, Rows.uptoBulk, Rows.uptoBulkAll] at hbk
      rw [hbk]
      unfold bulkRisk
      dsimp only
      omega
theorem openbRisk {H : Type} {enc : TypeId × Value → H} {W : World} {b0 : Nat} {r : Reach} {v : Value} {d : DataW H} {p : List MemPlace}
    (hv : Value.okWide Tryd.prog W r b0 25 v) (h : DataW.Trod enc Tryd.prog W 0 (fun _ => true) true 25 v d p) : ∃ x : XRisk, v = valRisk x ∧ okRisk W x ∧ bulkRisk x ≤ Rows.uptoBulk d := by
  obtain ⟨cs, rfl, hsz⟩ := okWide_struct Tryd.underlying25 hv
  obtain ⟨fuel, hf⟩ := h
  obtain ⟨x, hx, ho, hb⟩ := opencbRisk hf
  obtain ⟨l⟩ := cs
  simp only [Value.cells] at hx
  subst hx
  exact ⟨x, rfl, ho, hb⟩
def Rowbool (W : World) (ao : Option Addr) (l : List Bool) : Prop :=
  (l = [] ∨ ∃ b off, ao = some ⟨b, off, none⟩ ∧ b < W.heap.size ∧ ∀ i x, l[i]? = some x → W.cell? ⟨b, off + i, none⟩ = some (.bool x)) ∧ (∀ x ∈ l, True) ∧ l.length ≤ maxLen
theorem Rowbool.below {W W' : World} {ao : Option Addr} {l : List Bool} (h : Rowbool W ao l) (hb : Below W.heap.size W W') : Rowbool W' ao l := by
  obtain ⟨h, ho, hm⟩ := h
  refine ⟨?_, ho, hm⟩
  rcases h with h | ⟨b, off, e, hlt, hc⟩
  · exact .inl h
  · exact .inr ⟨b, off, e, Nat.lt_of_lt_of_le hlt hb.size, fun i s hi => (hb.cell (p := ⟨b, off + i, none⟩) hlt).trans (hc i s hi)⟩
theorem cellsOfSlbool : Tryd.prog.cellsOf 31 = 1 := by kernel_rfl
theorem opencbool {H : Type} {enc : TypeId × Value → H} {W : World} {k : Nat} {cs : List Value} {y : DataW H × List MemPlace}
    (h : DataW.trod enc Tryd.prog W 0 (fun _ => true) true k 4 cs = some y) : ∃ x : Bool, cs = [.bool x] ∧ True := by
  obtain ⟨z, e, _⟩ := DataW.trod_bool Tryd.underlying4 h
  exact ⟨z, e, trivial⟩
theorem openrbool {H : Type} {enc : TypeId × Value → H} {W : World} {k : Nat} {cs : List Value} {y : DataW H × List MemPlace}
    (h : DataW.trod enc Tryd.prog W 0 (fun _ => true) true k 31 cs = some y) :
    ∃ (ao : Option Addr) (l : List Bool) (cap : Nat), cs = [.slice ao l.length cap] ∧ Rowbool W ao l ∧ l.length ≤ cap ∧ (l = [] ∨ ∃ es ss, y.1 = .slice es ss ∧ es.length = l.length) := by
  rcases open_slice Tryd.underlying31 h with ⟨rfl, rfl⟩ | ⟨a, len, cap, mm, nn, D, Pl, rfl, _, hl, hm, hmm, hx, hel⟩
  · exact ⟨none, [], 0, rfl, ⟨.inl rfl, by simp, by simp⟩, Nat.le_refl _, .inl rfl⟩
  · simp only [if_true] at hmm
    rw [cellsOfBool] at hel
    obtain ⟨F, hF⟩ := choose_lt (α := Bool) (n := mm) (p := fun i x => (W.cell? ((a.add (i * 1)).add 0) = some (.bool x)) ∧ True) (fun i hi => by
      obtain ⟨cs', h1, h2⟩ := hel i hi
      obtain ⟨x, rfl, hok⟩ := opencbool h2
      obtain ⟨_, _, hc⟩ := World.cells?_some h1
      exact ⟨x, hc 0 (by omega), hok⟩)
    refine ⟨some a, (List.range len).map F, cap, by simp, ⟨?_, ?_, by rw [List.length_map, List.length_range]; omega⟩, by rw [List.length_map, List.length_range]; exact hl, .inr ⟨_, _, by rw [hx], by simp⟩⟩
    · by_cases hl0 : len = 0
      · subst hl0; exact .inl rfl
      · obtain ⟨b, off, spot⟩ := a
        have hc0 := (hF 0 (by omega)).1
        have hspot : spot = none := by simpa [Addr.add] using World.cell?_spot hc0
        subst hspot
        refine .inr ⟨b, off, rfl, by simpa [Addr.add] using cell_ltR hc0, fun i x hi => ?_⟩
        have hi' : i < len := by
          rcases Nat.lt_or_ge i len with h | h
          · exact h
          · rw [List.getElem?_eq_none (by simpa using h)] at hi; cases hi
        rw [List.getElem?_map, List.getElem?_range hi'] at hi
        obtain rfl : F i = x := by simpa using hi
        have := (hF i (by omega)).1
        simp only [WideShapes.add_plain, Nat.mul_one, Nat.add_zero] at this
        exact this
    · intro x hx
      obtain ⟨i, hi, rfl⟩ := List.mem_map.1 hx
      exact (hF i (by have : i < len := by simpa using hi
                      omega)).2
theorem openRbool {H : Type} {enc : TypeId × Value → H} {W : World} {b0 : Nat} {r : Reach} {v : Value} {d : DataW H} {p : List MemPlace}
    (hv : Value.okWide Tryd.prog W r b0 31 v) (h : DataW.Trod enc Tryd.prog W 0 (fun _ => true) true 31 v d p) : ∃ (ao : Option Addr) (l : List Bool) (cap : Nat), v = .slice ao l.length cap ∧ Rowbool W ao l ∧ (l = [] ∨ ∃ es ss, d = .slice es ss ∧ es.length = l.length) := by
  obtain ⟨a0, len, cap, rfl⟩ := okWide_slice Tryd.underlying31 hv
  obtain ⟨fuel, hf⟩ := h
  obtain ⟨ao, l, cap', hx, hr, _, hd⟩ := openrbool hf
  simp [Value.cells] at hx
  obtain ⟨rfl, rfl, rfl⟩ := hx
  exact ⟨_, l, _, rfl, hr, hd⟩
structure XMasks where
  d : Int
  o : Int
  f : Int
deriving Inhabited
def valMasks (x : XMasks) : Value := .agg #[.int .i64 x.d, .int .i64 x.o, .int .i64 x.f]
def okMasks (W : World) (x : XMasks) : Prop := (-9223372036854775808 ≤ x.d ∧ x.d ≤ 9223372036854775807) ∧ (-9223372036854775808 ≤ x.o ∧ x.o ≤ 9223372036854775807) ∧ (-9223372036854775808 ≤ x.f ∧ x.f ≤ 9223372036854775807)
theorem cellsOfMasks : Tryd.prog.cellsOf 27 = 3 := by kernel_rfl
theorem okMasks.below {W W' : World} {x : XMasks} (h : okMasks W x) (hb : Below W.heap.size W W') : okMasks W' x := by
  obtain ⟨h0, h1, h2⟩ := h
  exact ⟨h0, h1, h2⟩
theorem opencMasks {H : Type} {enc : TypeId × Value → H} {W : World} {k : Nat} {cs : List Value} {y : DataW H × List MemPlace}
    (h : DataW.trod enc Tryd.prog W 0 (fun _ => true) true k 27 cs = some y) :
    ∃ x : XMasks, cs = [.int .i64 x.d, .int .i64 x.o, .int .i64 x.f] ∧ okMasks W x := by
  obtain ⟨xs, k', _, _, hsz, hlen, hq⟩ := DataW.trod_struct Tryd.underlying27 h
  rw [cellsOfMasks] at hsz
  match cs, hsz with
  | [c0, c1, c2], _ =>
    match xs, hlen with
    | [y0, y1, y2], _ =>
      have h0 : DataW.trod enc Tryd.prog W 0 (fun _ => true) true k' 3 [c0] = some y0 := by simpa [cellsOfBool, cellsOfInt, cellsOfString] using hq 0 _ rfl
      obtain ⟨z0, e0, g0, w0⟩ := DataW.trod_int Tryd.underlying3 h0
      have h1 : DataW.trod enc Tryd.prog W 0 (fun _ => true) true k' 3 [c1] = some y1 := by simpa [cellsOfBool, cellsOfInt, cellsOfString] using hq 1 _ rfl
      obtain ⟨z1, e1, g1, w1⟩ := DataW.trod_int Tryd.underlying3 h1
      have h2 : DataW.trod enc Tryd.prog W 0 (fun _ => true) true k' 3 [c2] = some y2 := by simpa [cellsOfBool, cellsOfInt, cellsOfString] using hq 2 _ rfl
      obtain ⟨z2, e2, g2, w2⟩ := DataW.trod_int Tryd.underlying3 h2
      simp at e0 e1 e2
      subst e0
      subst e1
      subst e2
      exact ⟨⟨z0, z1, z2⟩, rfl, ⟨bounds_i64 w0, bounds_i64 w1, bounds_i64 w2⟩⟩
theorem openMasks {H : Type} {enc : TypeId × Value → H} {W : World} {b0 : Nat} {r : Reach} {v : Value} {d : DataW H} {p : List MemPlace}
    (hv : Value.okWide Tryd.prog W r b0 27 v) (h : DataW.Trod enc Tryd.prog W 0 (fun _ => true) true 27 v d p) : ∃ x : XMasks, v = valMasks x ∧ okMasks W x := by
  obtain ⟨cs, rfl, hsz⟩ := okWide_struct Tryd.underlying27 hv
  obtain ⟨fuel, hf⟩ := h
  obtain ⟨x, hx, ho⟩ := opencMasks hf
  obtain ⟨l⟩ := cs
  simp only [Value.cells] at hx
  subst hx
  exact ⟨x, rfl, ho⟩
def bulkMasks (x : XMasks) : Nat := 0
theorem opencbMasks {H : Type} {enc : TypeId × Value → H} {W : World} {k : Nat} {cs : List Value} {y : DataW H × List MemPlace}
    (h : DataW.trod enc Tryd.prog W 0 (fun _ => true) true k 27 cs = some y) :
    ∃ x : XMasks, cs = [.int .i64 x.d, .int .i64 x.o, .int .i64 x.f] ∧ okMasks W x ∧ bulkMasks x ≤ Rows.uptoBulk y.1 := by
  obtain ⟨xs, k', _, hagg, hsz, hlen, hq⟩ := DataW.trod_struct Tryd.underlying27 h
  rw [cellsOfMasks] at hsz
  match cs, hsz with
  | [c0, c1, c2], _ =>
    match xs, hlen, hagg with
    | [y0, y1, y2], _, hagg =>
      have hbk := congrArg Rows.uptoBulk (Prod.ext_iff.1 hagg).1
      have h0 : DataW.trod enc Tryd.prog W 0 (fun _ => true) true k' 3 [c0] = some y0 := by simpa [cellsOfBool, cellsOfInt, cellsOfString] using hq 0 _ rfl
      obtain ⟨z0, e0, g0, w0⟩ := DataW.trod_int Tryd.underlying3 h0
      subst g0
      have h1 : DataW.trod enc Tryd.prog W 0 (fun _ => true) true k' 3 [c1] = some y1 := by simpa [cellsOfBool, cellsOfInt, cellsOfString] using hq 1 _ rfl
      obtain ⟨z1, e1, g1, w1⟩ := DataW.trod_int Tryd.underlying3 h1
      subst g1
      have h2 : DataW.trod enc Tryd.prog W 0 (fun _ => true) true k' 3 [c2] = some y2 := by simpa [cellsOfBool, cellsOfInt, cellsOfString] using hq 2 _ rfl
      obtain ⟨z2, e2, g2, w2⟩ := DataW.trod_int Tryd.underlying3 h2
      subst g2
      simp at e0 e1 e2
      subst e0
      subst e1
      subst e2
      refine ⟨⟨z0, z1, z2⟩, rfl, ⟨bounds_i64 w0, bounds_i64 w1, bounds_i64 w2⟩, ?_⟩
      simp only [List.map_cons, List.map_nil, Rows.uptoBulk, Rows.uptoBulkAll] at hbk
      rw [hbk]
      exact Nat.zero_le _
theorem openbMasks {H : Type} {enc : TypeId × Value → H} {W : World} {b0 : Nat} {r : Reach} {v : Value} {d : DataW H} {p : List MemPlace}
    (hv : Value.okWide Tryd.prog W r b0 27 v) (h : DataW.Trod enc Tryd.prog W 0 (fun _ => true) true 27 v d p) : ∃ x : XMasks, v = valMasks x ∧ okMasks W x ∧ bulkMasks x ≤ Rows.uptoBulk d := by
  obtain ⟨cs, rfl, hsz⟩ := okWide_struct Tryd.underlying27 hv
  obtain ⟨fuel, hf⟩ := h
  obtain ⟨x, hx, ho, hb⟩ := opencbMasks hf
  obtain ⟨l⟩ := cs
  simp only [Value.cells] at hx
  subst hx
  exact ⟨x, rfl, ho, hb⟩
structure XTillPlan where
  root : ByteArray
  knowno : Option Addr
  known : List XKnown
  knownc : Nat
  risk : XRisk
  masks : XMasks
  ableo : Option Addr
  able : List Int
  ablec : Nat
  shop : Int
  name : ByteArray
deriving Inhabited
def valTillPlan (x : XTillPlan) : Value := .agg #[.string x.root, .slice x.knowno x.known.length x.knownc, .int .i64 x.risk.floor, .int .i64 x.risk.frm, .int .i64 x.risk.share, .int .i64 x.risk.most, .int .i64 x.risk.lower, .int .i64 x.risk.upper, .slice x.risk.blacko x.risk.black.length x.risk.blackc, .int .i64 x.masks.d, .int .i64 x.masks.o, .int .i64 x.masks.f, .slice x.ableo x.able.length x.ablec, .int .i64 x.shop, .string x.name]
def okTillPlan (W : World) (x : XTillPlan) : Prop := x.root.size ≤ maxLen ∧ RowKnown W x.knowno x.known ∧ okRisk W x.risk ∧ okMasks W x.masks ∧ Rowint W x.ableo x.able ∧ (-9223372036854775808 ≤ x.shop ∧ x.shop ≤ 9223372036854775807) ∧ x.name.size ≤ maxLen
theorem cellsOfTillPlan : Tryd.prog.cellsOf 30 = 15 := by kernel_rfl
theorem okTillPlan.below {W W' : World} {x : XTillPlan} (h : okTillPlan W x) (hb : Below W.heap.size W W') : okTillPlan W' x := by
  obtain ⟨h0, h1, h2, h3, h4, h5, h6⟩ := h
  exact ⟨h0, h1.below hb, h2.below hb, h3.below hb, h4.below hb, h5, h6⟩
theorem opencTillPlan {H : Type} {enc : TypeId × Value → H} {W : World} {k : Nat} {cs : List Value} {y : DataW H × List MemPlace}
    (h : DataW.trod enc Tryd.prog W 0 (fun _ => true) true k 30 cs = some y) :
    ∃ x : XTillPlan, cs = [.string x.root, .slice x.knowno x.known.length x.knownc, .int .i64 x.risk.floor, .int .i64 x.risk.frm, .int .i64 x.risk.share, .int .i64 x.risk.most, .int .i64 x.risk.lower, .int .i64 x.risk.upper, .slice x.risk.blacko x.risk.black.length x.risk.blackc, .int .i64 x.masks.d, .int .i64 x.masks.o, .int .i64 x.masks.f, .slice x.ableo x.able.length x.ablec, .int .i64 x.shop, .string x.name] ∧ okTillPlan W x := by
  obtain ⟨xs, k', _, _, hsz, hlen, hq⟩ := DataW.trod_struct Tryd.underlying30 h
  rw [cellsOfTillPlan] at hsz
  match cs, hsz with
  | [c0, c1, c2, c3, c4, c5, c6, c7, c8, c9, c10, c11, c12, c13, c14], _ =>
    match xs, hlen with
    | [y0, y1, y2, y3, y4, y5, y6], _ =>
      have h0 : DataW.trod enc Tryd.prog W 0 (fun _ => true) true k' 9 [c0] = some y0 := by simpa [cellsOfBool, cellsOfInt, cellsOfMasks, cellsOfRisk, cellsOfSlKnown, cellsOfSlint, cellsOfString] using hq 0 _ rfl
      obtain ⟨z0, e0, g0, w0⟩ := DataW.trod_string Tryd.underlying9 h0
      have h1 : DataW.trod enc Tryd.prog W 0 (fun _ => true) true k' 22 [c1] = some y1 := by simpa [cellsOfBool, cellsOfInt, cellsOfMasks, cellsOfRisk, cellsOfSlKnown, cellsOfSlint, cellsOfString] using hq 1 _ rfl
      obtain ⟨zo1, z1, zc1, e1, w1, wc1, _⟩ := openrKnown h1
      have h2 : DataW.trod enc Tryd.prog W 0 (fun _ => true) true k' 25 [c2, c3, c4, c5, c6, c7, c8] = some y2 := by simpa [cellsOfBool, cellsOfInt, cellsOfMasks, cellsOfRisk, cellsOfSlKnown, cellsOfSlint, cellsOfString] using hq 2 _ rfl
      obtain ⟨z2, e2, w2⟩ := opencRisk h2
      have h3 : DataW.trod enc Tryd.prog W 0 (fun _ => true) true k' 27 [c9, c10, c11] = some y3 := by simpa [cellsOfBool, cellsOfInt, cellsOfMasks, cellsOfRisk, cellsOfSlKnown, cellsOfSlint, cellsOfString] using hq 3 _ rfl
      obtain ⟨z3, e3, w3⟩ := opencMasks h3
      have h4 : DataW.trod enc Tryd.prog W 0 (fun _ => true) true k' 28 [c12] = some y4 := by simpa [cellsOfBool, cellsOfInt, cellsOfMasks, cellsOfRisk, cellsOfSlKnown, cellsOfSlint, cellsOfString] using hq 4 _ rfl
      obtain ⟨zo4, z4, zc4, e4, w4, wc4, _⟩ := openrint h4
      have h5 : DataW.trod enc Tryd.prog W 0 (fun _ => true) true k' 3 [c13] = some y5 := by simpa [cellsOfBool, cellsOfInt, cellsOfMasks, cellsOfRisk, cellsOfSlKnown, cellsOfSlint, cellsOfString] using hq 5 _ rfl
      obtain ⟨z5, e5, g5, w5⟩ := DataW.trod_int Tryd.underlying3 h5
      have h6 : DataW.trod enc Tryd.prog W 0 (fun _ => true) true k' 9 [c14] = some y6 := by simpa [cellsOfBool, cellsOfInt, cellsOfMasks, cellsOfRisk, cellsOfSlKnown, cellsOfSlint, cellsOfString] using hq 6 _ rfl
      obtain ⟨z6, e6, g6, w6⟩ := DataW.trod_string Tryd.underlying9 h6
      simp at e0 e1 e2 e3 e4 e5 e6
      subst e0
      subst e1
      obtain ⟨rfl, rfl, rfl, rfl, rfl, rfl, rfl⟩ := e2
      obtain ⟨rfl, rfl, rfl⟩ := e3
      subst e4
      subst e5
      subst e6
      exact ⟨⟨z0, zo1, z1, zc1, z2, z3, zo4, z4, zc4, z5, z6⟩, rfl, ⟨w0, w1, w2, w3, w4, bounds_i64 w5, w6⟩⟩
theorem openTillPlan {H : Type} {enc : TypeId × Value → H} {W : World} {b0 : Nat} {r : Reach} {v : Value} {d : DataW H} {p : List MemPlace}
    (hv : Value.okWide Tryd.prog W r b0 30 v) (h : DataW.Trod enc Tryd.prog W 0 (fun _ => true) true 30 v d p) : ∃ x : XTillPlan, v = valTillPlan x ∧ okTillPlan W x := by
  obtain ⟨cs, rfl, hsz⟩ := okWide_struct Tryd.underlying30 hv
  obtain ⟨fuel, hf⟩ := h
  obtain ⟨x, hx, ho⟩ := opencTillPlan hf
  obtain ⟨l⟩ := cs
  simp only [Value.cells] at hx
  subst hx
  exact ⟨x, rfl, ho⟩
def bulkTillPlan (x : XTillPlan) : Nat := x.root.size + x.known.length + bulkRisk x.risk + bulkMasks x.masks + x.able.length + x.name.size
theorem opencbTillPlan {H : Type} {enc : TypeId × Value → H} {W : World} {k : Nat} {cs : List Value} {y : DataW H × List MemPlace}
    (h : DataW.trod enc Tryd.prog W 0 (fun _ => true) true k 30 cs = some y) :
    ∃ x : XTillPlan, cs = [.string x.root, .slice x.knowno x.known.length x.knownc, .int .i64 x.risk.floor, .int .i64 x.risk.frm, .int .i64 x.risk.share, .int .i64 x.risk.most, .int .i64 x.risk.lower, .int .i64 x.risk.upper, .slice x.risk.blacko x.risk.black.length x.risk.blackc, .int .i64 x.masks.d, .int .i64 x.masks.o, .int .i64 x.masks.f, .slice x.ableo x.able.length x.ablec, .int .i64 x.shop, .string x.name] ∧ okTillPlan W x ∧ bulkTillPlan x ≤ Rows.uptoBulk y.1 := by
  obtain ⟨xs, k', _, hagg, hsz, hlen, hq⟩ := DataW.trod_struct Tryd.underlying30 h
  rw [cellsOfTillPlan] at hsz
  match cs, hsz with
  | [c0, c1, c2, c3, c4, c5, c6, c7, c8, c9, c10, c11, c12, c13, c14], _ =>
    match xs, hlen, hagg with
    | [y0, y1, y2, y3, y4, y5, y6], _, hagg =>
      have hbk := congrArg Rows.uptoBulk (Prod.ext_iff.1 hagg).1
      have h0 : DataW.trod enc Tryd.prog W 0 (fun _ => true) true k' 9 [c0] = some y0 := by simpa [cellsOfBool, cellsOfInt, cellsOfMasks, cellsOfRisk, cellsOfSlKnown, cellsOfSlint, cellsOfString] using hq 0 _ rfl
      obtain ⟨z0, e0, g0, w0⟩ := DataW.trod_string Tryd.underlying9 h0
      have l0 : z0.data.toList.length = z0.size := by simp
      subst g0
      have h1 : DataW.trod enc Tryd.prog W 0 (fun _ => true) true k' 22 [c1] = some y1 := by simpa [cellsOfBool, cellsOfInt, cellsOfMasks, cellsOfRisk, cellsOfSlKnown, cellsOfSlint, cellsOfString] using hq 1 _ rfl
      obtain ⟨zo1, z1, zc1, e1, w1, wc1, hl1⟩ := openrKnown h1
      have b1 : z1.length ≤ Rows.uptoBulk y1.1 := by
        rcases hl1 with hd | ⟨es, ss, hd, hes⟩
        · rw [hd]; simp
        · rw [hd]
          simp only [Rows.uptoBulk]
          have := bulkAll_length (es := es)
          omega
      have h2 : DataW.trod enc Tryd.prog W 0 (fun _ => true) true k' 25 [c2, c3, c4, c5, c6, c7, c8] = some y2 := by simpa [cellsOfBool, cellsOfInt, cellsOfMasks, cellsOfRisk, cellsOfSlKnown, cellsOfSlint, cellsOfString] using hq 2 _ rfl
      obtain ⟨z2, e2, w2, b2⟩ := opencbRisk h2
      have h3 : DataW.trod enc Tryd.prog W 0 (fun _ => true) true k' 27 [c9, c10, c11] = some y3 := by simpa [cellsOfBool, cellsOfInt, cellsOfMasks, cellsOfRisk, cellsOfSlKnown, cellsOfSlint, cellsOfString] using hq 3 _ rfl
      obtain ⟨z3, e3, w3, b3⟩ := opencbMasks h3
      have h4 : DataW.trod enc Tryd.prog W 0 (fun _ => true) true k' 28 [c12] = some y4 := by simpa [cellsOfBool, cellsOfInt, cellsOfMasks, cellsOfRisk, cellsOfSlKnown, cellsOfSlint, cellsOfString] using hq 4 _ rfl
      obtain ⟨zo4, z4, zc4, e4, w4, wc4, hl4⟩ := openrint h4
      have b4 : z4.length ≤ Rows.uptoBulk y4.1 := by
        rcases hl4 with hd | ⟨es, ss, hd, hes⟩
        · rw [hd]; simp
        · rw [hd]
          simp only [Rows.uptoBulk]
          have := bulkAll_length (es := es)
          omega
      have h5 : DataW.trod enc Tryd.prog W 0 (fun _ => true) true k' 3 [c13] = some y5 := by simpa [cellsOfBool, cellsOfInt, cellsOfMasks, cellsOfRisk, cellsOfSlKnown, cellsOfSlint, cellsOfString] using hq 5 _ rfl
      obtain ⟨z5, e5, g5, w5⟩ := DataW.trod_int Tryd.underlying3 h5
      subst g5
      have h6 : DataW.trod enc Tryd.prog W 0 (fun _ => true) true k' 9 [c14] = some y6 := by simpa [cellsOfBool, cellsOfInt, cellsOfMasks, cellsOfRisk, cellsOfSlKnown, cellsOfSlint, cellsOfString] using hq 6 _ rfl
      obtain ⟨z6, e6, g6, w6⟩ := DataW.trod_string Tryd.underlying9 h6
      have l6 : z6.data.toList.length = z6.size := by simp
      subst g6
      simp at e0 e1 e2 e3 e4 e5 e6
      subst e0
      subst e1
      obtain ⟨rfl, rfl, rfl, rfl, rfl, rfl, rfl⟩ := e2
      obtain ⟨rfl, rfl, rfl⟩ := e3
      subst e4
      subst e5
      subst e6
      refine ⟨⟨z0, zo1, z1, zc1, z2, z3, zo4, z4, zc4, z5, z6⟩, rfl, ⟨w0, w1, w2, w3, w4, bounds_i64 w5, w6⟩, ?_⟩
      simp only [List.map_cons, List.map_nil, Rows.uptoBulk, Rows.uptoBulkAll] at hbk
      rw [hbk]
      unfold bulkTillPlan
      dsimp only
      omega
theorem openbTillPlan {H : Type} {enc : TypeId × Value → H} {W : World} {b0 : Nat} {r : Reach} {v : Value} {d : DataW H} {p : List MemPlace}
    (hv : Value.okWide Tryd.prog W r b0 30 v) (h : DataW.Trod enc Tryd.prog W 0 (fun _ => true) true 30 v d p) : ∃ x : XTillPlan, v = valTillPlan x ∧ okTillPlan W x ∧ bulkTillPlan x ≤ Rows.uptoBulk d := by
  obtain ⟨cs, rfl, hsz⟩ := okWide_struct Tryd.underlying30 hv
  obtain ⟨fuel, hf⟩ := h
  obtain ⟨x, hx, ho, hb⟩ := opencbTillPlan hf
  obtain ⟨l⟩ := cs
  simp only [Value.cells] at hx
  subst hx
  exact ⟨x, rfl, ho, hb⟩
structure XBuy where
  amount : Int
  other : Int
  day : Int
  month : Int
  trace : Int
  draw : Int
  cash : Bool
  signed : Bool
  mute : Bool
  digits : ByteArray
  nonce : ByteArray
  confirmo : Option Addr
  confirm : List Bool
  confirmc : Nat
deriving Inhabited
def valBuy (x : XBuy) : Value := .agg #[.int .i64 x.amount, .int .i64 x.other, .int .i64 x.day, .int .i64 x.month, .int .i64 x.trace, .int .i64 x.draw, .bool x.cash, .bool x.signed, .bool x.mute, .string x.digits, .string x.nonce, .slice x.confirmo x.confirm.length x.confirmc]
def okBuy (W : World) (x : XBuy) : Prop := (-9223372036854775808 ≤ x.amount ∧ x.amount ≤ 9223372036854775807) ∧ (-9223372036854775808 ≤ x.other ∧ x.other ≤ 9223372036854775807) ∧ (-9223372036854775808 ≤ x.day ∧ x.day ≤ 9223372036854775807) ∧ (-9223372036854775808 ≤ x.month ∧ x.month ≤ 9223372036854775807) ∧ (-9223372036854775808 ≤ x.trace ∧ x.trace ≤ 9223372036854775807) ∧ (-9223372036854775808 ≤ x.draw ∧ x.draw ≤ 9223372036854775807) ∧ x.digits.size ≤ maxLen ∧ x.nonce.size ≤ maxLen ∧ Rowbool W x.confirmo x.confirm
theorem cellsOfBuy : Tryd.prog.cellsOf 33 = 12 := by kernel_rfl
theorem okBuy.below {W W' : World} {x : XBuy} (h : okBuy W x) (hb : Below W.heap.size W W') : okBuy W' x := by
  obtain ⟨h0, h1, h2, h3, h4, h5, h6, h7, h8⟩ := h
  exact ⟨h0, h1, h2, h3, h4, h5, h6, h7, h8.below hb⟩
theorem opencBuy {H : Type} {enc : TypeId × Value → H} {W : World} {k : Nat} {cs : List Value} {y : DataW H × List MemPlace}
    (h : DataW.trod enc Tryd.prog W 0 (fun _ => true) true k 33 cs = some y) :
    ∃ x : XBuy, cs = [.int .i64 x.amount, .int .i64 x.other, .int .i64 x.day, .int .i64 x.month, .int .i64 x.trace, .int .i64 x.draw, .bool x.cash, .bool x.signed, .bool x.mute, .string x.digits, .string x.nonce, .slice x.confirmo x.confirm.length x.confirmc] ∧ okBuy W x := by
  obtain ⟨xs, k', _, _, hsz, hlen, hq⟩ := DataW.trod_struct Tryd.underlying33 h
  rw [cellsOfBuy] at hsz
  match cs, hsz with
  | [c0, c1, c2, c3, c4, c5, c6, c7, c8, c9, c10, c11], _ =>
    match xs, hlen with
    | [y0, y1, y2, y3, y4, y5, y6, y7, y8, y9, y10, y11], _ =>
      have h0 : DataW.trod enc Tryd.prog W 0 (fun _ => true) true k' 3 [c0] = some y0 := by simpa [cellsOfBool, cellsOfInt, cellsOfSlbool, cellsOfString] using hq 0 _ rfl
      obtain ⟨z0, e0, g0, w0⟩ := DataW.trod_int Tryd.underlying3 h0
      have h1 : DataW.trod enc Tryd.prog W 0 (fun _ => true) true k' 3 [c1] = some y1 := by simpa [cellsOfBool, cellsOfInt, cellsOfSlbool, cellsOfString] using hq 1 _ rfl
      obtain ⟨z1, e1, g1, w1⟩ := DataW.trod_int Tryd.underlying3 h1
      have h2 : DataW.trod enc Tryd.prog W 0 (fun _ => true) true k' 3 [c2] = some y2 := by simpa [cellsOfBool, cellsOfInt, cellsOfSlbool, cellsOfString] using hq 2 _ rfl
      obtain ⟨z2, e2, g2, w2⟩ := DataW.trod_int Tryd.underlying3 h2
      have h3 : DataW.trod enc Tryd.prog W 0 (fun _ => true) true k' 3 [c3] = some y3 := by simpa [cellsOfBool, cellsOfInt, cellsOfSlbool, cellsOfString] using hq 3 _ rfl
      obtain ⟨z3, e3, g3, w3⟩ := DataW.trod_int Tryd.underlying3 h3
      have h4 : DataW.trod enc Tryd.prog W 0 (fun _ => true) true k' 3 [c4] = some y4 := by simpa [cellsOfBool, cellsOfInt, cellsOfSlbool, cellsOfString] using hq 4 _ rfl
      obtain ⟨z4, e4, g4, w4⟩ := DataW.trod_int Tryd.underlying3 h4
      have h5 : DataW.trod enc Tryd.prog W 0 (fun _ => true) true k' 3 [c5] = some y5 := by simpa [cellsOfBool, cellsOfInt, cellsOfSlbool, cellsOfString] using hq 5 _ rfl
      obtain ⟨z5, e5, g5, w5⟩ := DataW.trod_int Tryd.underlying3 h5
      have h6 : DataW.trod enc Tryd.prog W 0 (fun _ => true) true k' 4 [c6] = some y6 := by simpa [cellsOfBool, cellsOfInt, cellsOfSlbool, cellsOfString] using hq 6 _ rfl
      obtain ⟨z6, e6, g6⟩ := DataW.trod_bool Tryd.underlying4 h6
      have h7 : DataW.trod enc Tryd.prog W 0 (fun _ => true) true k' 4 [c7] = some y7 := by simpa [cellsOfBool, cellsOfInt, cellsOfSlbool, cellsOfString] using hq 7 _ rfl
      obtain ⟨z7, e7, g7⟩ := DataW.trod_bool Tryd.underlying4 h7
      have h8 : DataW.trod enc Tryd.prog W 0 (fun _ => true) true k' 4 [c8] = some y8 := by simpa [cellsOfBool, cellsOfInt, cellsOfSlbool, cellsOfString] using hq 8 _ rfl
      obtain ⟨z8, e8, g8⟩ := DataW.trod_bool Tryd.underlying4 h8
      have h9 : DataW.trod enc Tryd.prog W 0 (fun _ => true) true k' 9 [c9] = some y9 := by simpa [cellsOfBool, cellsOfInt, cellsOfSlbool, cellsOfString] using hq 9 _ rfl
      obtain ⟨z9, e9, g9, w9⟩ := DataW.trod_string Tryd.underlying9 h9
      have h10 : DataW.trod enc Tryd.prog W 0 (fun _ => true) true k' 9 [c10] = some y10 := by simpa [cellsOfBool, cellsOfInt, cellsOfSlbool, cellsOfString] using hq 10 _ rfl
      obtain ⟨z10, e10, g10, w10⟩ := DataW.trod_string Tryd.underlying9 h10
      have h11 : DataW.trod enc Tryd.prog W 0 (fun _ => true) true k' 31 [c11] = some y11 := by simpa [cellsOfBool, cellsOfInt, cellsOfSlbool, cellsOfString] using hq 11 _ rfl
      obtain ⟨zo11, z11, zc11, e11, w11, wc11, _⟩ := openrbool h11
      simp at e0 e1 e2 e3 e4 e5 e6 e7 e8 e9 e10 e11
      subst e0
      subst e1
      subst e2
      subst e3
      subst e4
      subst e5
      subst e6
      subst e7
      subst e8
      subst e9
      subst e10
      subst e11
      exact ⟨⟨z0, z1, z2, z3, z4, z5, z6, z7, z8, z9, z10, zo11, z11, zc11⟩, rfl, ⟨bounds_i64 w0, bounds_i64 w1, bounds_i64 w2, bounds_i64 w3, bounds_i64 w4, bounds_i64 w5, w9, w10, w11⟩⟩
theorem openBuy {H : Type} {enc : TypeId × Value → H} {W : World} {b0 : Nat} {r : Reach} {v : Value} {d : DataW H} {p : List MemPlace}
    (hv : Value.okWide Tryd.prog W r b0 33 v) (h : DataW.Trod enc Tryd.prog W 0 (fun _ => true) true 33 v d p) : ∃ x : XBuy, v = valBuy x ∧ okBuy W x := by
  obtain ⟨cs, rfl, hsz⟩ := okWide_struct Tryd.underlying33 hv
  obtain ⟨fuel, hf⟩ := h
  obtain ⟨x, hx, ho⟩ := opencBuy hf
  obtain ⟨l⟩ := cs
  simp only [Value.cells] at hx
  subst hx
  exact ⟨x, rfl, ho⟩
def bulkBuy (x : XBuy) : Nat := x.digits.size + x.nonce.size + x.confirm.length
theorem opencbBuy {H : Type} {enc : TypeId × Value → H} {W : World} {k : Nat} {cs : List Value} {y : DataW H × List MemPlace}
    (h : DataW.trod enc Tryd.prog W 0 (fun _ => true) true k 33 cs = some y) :
    ∃ x : XBuy, cs = [.int .i64 x.amount, .int .i64 x.other, .int .i64 x.day, .int .i64 x.month, .int .i64 x.trace, .int .i64 x.draw, .bool x.cash, .bool x.signed, .bool x.mute, .string x.digits, .string x.nonce, .slice x.confirmo x.confirm.length x.confirmc] ∧ okBuy W x ∧ bulkBuy x ≤ Rows.uptoBulk y.1 := by
  obtain ⟨xs, k', _, hagg, hsz, hlen, hq⟩ := DataW.trod_struct Tryd.underlying33 h
  rw [cellsOfBuy] at hsz
  match cs, hsz with
  | [c0, c1, c2, c3, c4, c5, c6, c7, c8, c9, c10, c11], _ =>
    match xs, hlen, hagg with
    | [y0, y1, y2, y3, y4, y5, y6, y7, y8, y9, y10, y11], _, hagg =>
      have hbk := congrArg Rows.uptoBulk (Prod.ext_iff.1 hagg).1
      have h0 : DataW.trod enc Tryd.prog W 0 (fun _ => true) true k' 3 [c0] = some y0 := by simpa [cellsOfBool, cellsOfInt, cellsOfSlbool, cellsOfString] using hq 0 _ rfl
      obtain ⟨z0, e0, g0, w0⟩ := DataW.trod_int Tryd.underlying3 h0
      subst g0
      have h1 : DataW.trod enc Tryd.prog W 0 (fun _ => true) true k' 3 [c1] = some y1 := by simpa [cellsOfBool, cellsOfInt, cellsOfSlbool, cellsOfString] using hq 1 _ rfl
      obtain ⟨z1, e1, g1, w1⟩ := DataW.trod_int Tryd.underlying3 h1
      subst g1
      have h2 : DataW.trod enc Tryd.prog W 0 (fun _ => true) true k' 3 [c2] = some y2 := by simpa [cellsOfBool, cellsOfInt, cellsOfSlbool, cellsOfString] using hq 2 _ rfl
      obtain ⟨z2, e2, g2, w2⟩ := DataW.trod_int Tryd.underlying3 h2
      subst g2
      have h3 : DataW.trod enc Tryd.prog W 0 (fun _ => true) true k' 3 [c3] = some y3 := by simpa [cellsOfBool, cellsOfInt, cellsOfSlbool, cellsOfString] using hq 3 _ rfl
      obtain ⟨z3, e3, g3, w3⟩ := DataW.trod_int Tryd.underlying3 h3
      subst g3
      have h4 : DataW.trod enc Tryd.prog W 0 (fun _ => true) true k' 3 [c4] = some y4 := by simpa [cellsOfBool, cellsOfInt, cellsOfSlbool, cellsOfString] using hq 4 _ rfl
      obtain ⟨z4, e4, g4, w4⟩ := DataW.trod_int Tryd.underlying3 h4
      subst g4
      have h5 : DataW.trod enc Tryd.prog W 0 (fun _ => true) true k' 3 [c5] = some y5 := by simpa [cellsOfBool, cellsOfInt, cellsOfSlbool, cellsOfString] using hq 5 _ rfl
      obtain ⟨z5, e5, g5, w5⟩ := DataW.trod_int Tryd.underlying3 h5
      subst g5
      have h6 : DataW.trod enc Tryd.prog W 0 (fun _ => true) true k' 4 [c6] = some y6 := by simpa [cellsOfBool, cellsOfInt, cellsOfSlbool, cellsOfString] using hq 6 _ rfl
      obtain ⟨z6, e6, g6⟩ := DataW.trod_bool Tryd.underlying4 h6
      subst g6
      have h7 : DataW.trod enc Tryd.prog W 0 (fun _ => true) true k' 4 [c7] = some y7 := by simpa [cellsOfBool, cellsOfInt, cellsOfSlbool, cellsOfString] using hq 7 _ rfl
      obtain ⟨z7, e7, g7⟩ := DataW.trod_bool Tryd.underlying4 h7
      subst g7
      have h8 : DataW.trod enc Tryd.prog W 0 (fun _ => true) true k' 4 [c8] = some y8 := by simpa [cellsOfBool, cellsOfInt, cellsOfSlbool, cellsOfString] using hq 8 _ rfl
      obtain ⟨z8, e8, g8⟩ := DataW.trod_bool Tryd.underlying4 h8
      subst g8
      have h9 : DataW.trod enc Tryd.prog W 0 (fun _ => true) true k' 9 [c9] = some y9 := by simpa [cellsOfBool, cellsOfInt, cellsOfSlbool, cellsOfString] using hq 9 _ rfl
      obtain ⟨z9, e9, g9, w9⟩ := DataW.trod_string Tryd.underlying9 h9
      have l9 : z9.data.toList.length = z9.size := by simp
      subst g9
      have h10 : DataW.trod enc Tryd.prog W 0 (fun _ => true) true k' 9 [c10] = some y10 := by simpa [cellsOfBool, cellsOfInt, cellsOfSlbool, cellsOfString] using hq 10 _ rfl
      obtain ⟨z10, e10, g10, w10⟩ := DataW.trod_string Tryd.underlying9 h10
      have l10 : z10.data.toList.length = z10.size := by simp
      subst g10
      have h11 : DataW.trod enc Tryd.prog W 0 (fun _ => true) true k' 31 [c11] = some y11 := by simpa [cellsOfBool, cellsOfInt, cellsOfSlbool, cellsOfString] using hq 11 _ rfl
      obtain ⟨zo11, z11, zc11, e11, w11, wc11, hl11⟩ := openrbool h11
      have b11 : z11.length ≤ Rows.uptoBulk y11.1 := by
        rcases hl11 with hd | ⟨es, ss, hd, hes⟩
        · rw [hd]; simp
        · rw [hd]
          simp only [Rows.uptoBulk]
          have := bulkAll_length (es := es)
          omega
      simp at e0 e1 e2 e3 e4 e5 e6 e7 e8 e9 e10 e11
      subst e0
      subst e1
      subst e2
      subst e3
      subst e4
      subst e5
      subst e6
      subst e7
      subst e8
      subst e9
      subst e10
      subst e11
      refine ⟨⟨z0, z1, z2, z3, z4, z5, z6, z7, z8, z9, z10, zo11, z11, zc11⟩, rfl, ⟨bounds_i64 w0, bounds_i64 w1, bounds_i64 w2, bounds_i64 w3, bounds_i64 w4, bounds_i64 w5, w9, w10, w11⟩, ?_⟩
      simp only [List.map_cons, List.map_nil, Rows.uptoBulk, Rows.uptoBulkAll] at hbk
      rw [hbk]
      unfold bulkBuy
      dsimp only
      omega
theorem openbBuy {H : Type} {enc : TypeId × Value → H} {W : World} {b0 : Nat} {r : Reach} {v : Value} {d : DataW H} {p : List MemPlace}
    (hv : Value.okWide Tryd.prog W r b0 33 v) (h : DataW.Trod enc Tryd.prog W 0 (fun _ => true) true 33 v d p) : ∃ x : XBuy, v = valBuy x ∧ okBuy W x ∧ bulkBuy x ≤ Rows.uptoBulk d := by
  obtain ⟨cs, rfl, hsz⟩ := okWide_struct Tryd.underlying33 hv
  obtain ⟨fuel, hf⟩ := h
  obtain ⟨x, hx, ho, hb⟩ := opencbBuy hf
  obtain ⟨l⟩ := cs
  simp only [Value.cells] at hx
  subst hx
  exact ⟨x, rfl, ho, hb⟩
end Go.Proofs.YtfpglpefofcdeaaDoor
namespace Go.Proofs.YtfpglpefofcdeaaDoor
open Go.RowKit

theorem hide {p : Prop} (h : p) : Hid p := h
theorem unhide {p : Prop} (h : Hid p) : p := h
theorem wraps_i64 (n : Int) (h₀ : 0 ≤ n) (h₁ : n < 2 ^ 63) : IntKind.i64.wrap n = n := by rw [IntKind.wrap_i64]; omega
theorem ret_bool {a b : Bool} (h : a = b) : Ending.returned (.bool a) = .returned (.bool b) := by rw [h]
theorem ret_int {k : IntKind} {a b : Int} (h : a = b) : Ending.returned (.int k a) = .returned (.int k b) := by rw [h]
end Go.Proofs.YtfpglpefofcdeaaDoor
namespace Go.Proofs.YtfpglpefofcdeaaDoor
open Go.RowKit
set_option linter.unusedVariables false

/-- the walk in the order of the text, shut: so that nothing lays it open but a step -/
structure Quietly (P : Program) (ops : Array Oper) (C : World → Prop) (Q : Act → Prop) (l : List Oper) (a : Act) : Prop where
  out : wpQuiet P ops C Q l a
theorem Quietly.nil {P : Program} {ops : Array Oper} {C : World → Prop} {Q : Act → Prop} {a : Act} (h : Q a) : Quietly P ops C Q [] a := ⟨h⟩
theorem Quietly.step {P : Program} {ops : Array Oper} {C : World → Prop} {Q : Act → Prop} {a : Act} {o : Oper} {rest : List Oper}
    (h : ∀ K : Act → Prop, (∀ a, Quietly P ops C Q rest a → K a) → if Region.wanted o (yielded ops a.tmps) then o.quiet P a C K else K (a.put o.dst undef)) : Quietly P ops C Q (o :: rest) a :=
  ⟨wpQuiet_step fun K hK => h K fun a ha => hK a ha.out⟩
theorem wp_region_below {P : Program} {id : Nat} {Q : Exit → Act → World → Prop} {a : Act} {w : World} {l : List Oper} (w0 : World) (hb : Below w0.heap.size w0 w)
    (hm : P.follows .mixedOrders = true) (hB : Region.lexB .any l.toArray = true)
    (h : Quietly P l.toArray (fun w' => Below w0.heap.size w0 w') (fun a' => ∀ w', Below w0.heap.size w0 w' → Q .normal a' w') l a) : (Code.region id l.toArray true).wp P Q a w :=
  wp_region_quiet (C := fun w' => Below w0.heap.size w0 w') hm hB hb.drew (by simpa using h.out)
theorem calls_below {P : Program} {f : FuncId} {args : Array Value} {w0 w : World} {v : Value} (hb : Below w0.heap.size w0 w)
    (h : Calls P f args w fun e w' => e = .returned v ∧ Below w.heap.size w w') : Calls P f args w fun e w' => e = .returned v ∧ Below w0.heap.size w0 w' :=
  h.mono fun _ _ ⟨he, hk⟩ => ⟨he, hb.trans (hk.mono hb.size)⟩
theorem calls_same {P : Program} {f : FuncId} {args : Array Value} {w0 w : World} {v : Value} (hb : Below w0.heap.size w0 w)
    (h : Calls P f args w fun e w' => e = .returned v ∧ w' = w) : Calls P f args w fun e w' => e = .returned v ∧ Below w0.heap.size w0 w' :=
  h.mono fun _ _ ⟨he, hk⟩ => ⟨he, hk ▸ hb⟩
/-- Below, once more behind -/
theorem below_more {a b c : World} {B : Nat} (h : Below B a b) (hB : B ≤ b.heap.size) (k : Below b.heap.size b c) : Below B a c := h.trans (k.mono hB)
end Go.Proofs.YtfpglpefofcdeaaDoor
