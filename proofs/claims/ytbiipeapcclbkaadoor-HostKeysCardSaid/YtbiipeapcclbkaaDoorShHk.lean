/- A host's plan, an account, opened. -/
import Derived.Test.YtbiipeapcclbkaaDoorSh0
import Derived.Test.YtbiipeapcclbkaaDoorRows
namespace Go.Proofs.YtbiipeapcclbkaaDoor
open Go.ChangeShapes Go.WideShapes Go.ChangeAt Go.RowKit Go.Deep
set_option linter.unusedVariables false
set_option maxRecDepth 100000

structure XMst where
  version : Int
  key : ByteArray
deriving Inhabited
def valMst (x : XMst) : Value := .agg #[.int .i64 x.version, .string x.key]
def okMst (W : World) (x : XMst) : Prop := (-9223372036854775808 ≤ x.version ∧ x.version ≤ 9223372036854775807) ∧ x.key.size ≤ maxLen
theorem cellsOfMst : Tryd.prog.cellsOf 52 = 2 := by kernel_rfl
theorem okMst.below {W W' : World} {x : XMst} (h : okMst W x) (hb : Below W.heap.size W W') : okMst W' x := by
  obtain ⟨h0, h1⟩ := h
  exact ⟨h0, h1⟩
theorem opencMst {H : Type} {enc : TypeId × Value → H} {W : World} {k : Nat} {cs : List Value} {y : DataW H × List MemPlace}
    (h : DataW.trod enc Tryd.prog W 0 (fun _ => true) true k 52 cs = some y) :
    ∃ x : XMst, cs = [.int .i64 x.version, .string x.key] ∧ okMst W x := by
  obtain ⟨xs, k', _, _, hsz, hlen, hq⟩ := DataW.trod_struct Tryd.underlying52 h
  rw [cellsOfMst] at hsz
  match cs, hsz with
  | [c0, c1], _ =>
    match xs, hlen with
    | [y0, y1], _ =>
      have h0 : DataW.trod enc Tryd.prog W 0 (fun _ => true) true k' 3 [c0] = some y0 := by simpa [cellsOfBool, cellsOfInt, cellsOfString] using hq 0 _ rfl
      obtain ⟨z0, e0, g0, w0⟩ := DataW.trod_int Tryd.underlying3 h0
      have h1 : DataW.trod enc Tryd.prog W 0 (fun _ => true) true k' 9 [c1] = some y1 := by simpa [cellsOfBool, cellsOfInt, cellsOfString] using hq 1 _ rfl
      obtain ⟨z1, e1, g1, w1⟩ := DataW.trod_string Tryd.underlying9 h1
      simp at e0 e1
      subst e0
      subst e1
      exact ⟨⟨z0, z1⟩, rfl, ⟨bounds_i64 w0, w1⟩⟩
theorem openMst {H : Type} {enc : TypeId × Value → H} {W : World} {b0 : Nat} {r : Reach} {v : Value} {d : DataW H} {p : List MemPlace}
    (hv : Value.okWide Tryd.prog W r b0 52 v) (h : DataW.Trod enc Tryd.prog W 0 (fun _ => true) true 52 v d p) : ∃ x : XMst, v = valMst x ∧ okMst W x := by
  obtain ⟨cs, rfl, hsz⟩ := okWide_struct Tryd.underlying52 hv
  obtain ⟨fuel, hf⟩ := h
  obtain ⟨x, hx, ho⟩ := opencMst hf
  obtain ⟨l⟩ := cs
  simp only [Value.cells] at hx
  subst hx
  exact ⟨x, rfl, ho⟩
def RowMst (W : World) (ao : Option Addr) (l : List XMst) : Prop :=
  (l = [] ∨ ∃ b off, ao = some ⟨b, off, none⟩ ∧ b < W.heap.size ∧ ∀ i x, l[i]? = some x → W.cell? ⟨b, off + i * 2, none⟩ = some (.int .i64 x.version) ∧ W.cell? ⟨b, off + i * 2 + 1, none⟩ = some (.string x.key)) ∧ (∀ x ∈ l, okMst W x) ∧ l.length ≤ maxLen
theorem RowMst.below {W W' : World} {ao : Option Addr} {l : List XMst} (h : RowMst W ao l) (hb : Below W.heap.size W W') : RowMst W' ao l := by
  obtain ⟨h, ho, hm⟩ := h
  refine ⟨?_, fun x hx => (ho x hx).below hb, hm⟩
  rcases h with h | ⟨b, off, e, hlt, hc⟩
  · exact .inl h
  · refine .inr ⟨b, off, e, Nat.lt_of_lt_of_le hlt hb.size, fun i s hi => ?_⟩
    obtain ⟨c0, c1⟩ := hc i s hi
    exact ⟨(hb.cell (p := ⟨b, off + i * 2, none⟩) hlt).trans c0, (hb.cell (p := ⟨b, off + i * 2 + 1, none⟩) hlt).trans c1⟩
theorem cellsOfSlMst : Tryd.prog.cellsOf 22 = 1 := by kernel_rfl
theorem openrMst {H : Type} {enc : TypeId × Value → H} {W : World} {k : Nat} {cs : List Value} {y : DataW H × List MemPlace}
    (h : DataW.trod enc Tryd.prog W 0 (fun _ => true) true k 22 cs = some y) :
    ∃ (ao : Option Addr) (l : List XMst) (cap : Nat), cs = [.slice ao l.length cap] ∧ RowMst W ao l ∧ l.length ≤ cap ∧ (l = [] ∨ ∃ es ss, y.1 = .slice es ss ∧ es.length = l.length) := by
  rcases open_slice Tryd.underlying22 h with ⟨rfl, rfl⟩ | ⟨a, len, cap, mm, nn, D, Pl, rfl, _, hl, hm, hmm, hx, hel⟩
  · exact ⟨none, [], 0, rfl, ⟨.inl rfl, by simp, by simp⟩, Nat.le_refl _, .inl rfl⟩
  · simp only [if_true] at hmm
    rw [cellsOfMst] at hel
    obtain ⟨F, hF⟩ := choose_lt (α := XMst) (n := mm) (p := fun i x => (W.cell? ((a.add (i * 2)).add 0) = some (.int .i64 x.version) ∧ W.cell? ((a.add (i * 2)).add 1) = some (.string x.key)) ∧ okMst W x) (fun i hi => by
      obtain ⟨cs', h1, h2⟩ := hel i hi
      obtain ⟨x, rfl, hok⟩ := opencMst h2
      obtain ⟨_, _, hc⟩ := World.cells?_some h1
      exact ⟨x, ⟨hc 0 (by omega), hc 1 (by omega)⟩, hok⟩)
    refine ⟨some a, (List.range len).map F, cap, by simp, ⟨?_, ?_, by rw [List.length_map, List.length_range]; omega⟩, by rw [List.length_map, List.length_range]; exact hl, .inr ⟨_, _, by rw [hx], by simp⟩⟩
    · by_cases hl0 : len = 0
      · subst hl0; exact .inl rfl
      · obtain ⟨b, off, spot⟩ := a
        have hc0 := (hF 0 (by omega)).1.1
        have hspot : spot = none := by simpa [Addr.add] using World.cell?_spot hc0
        subst hspot
        refine .inr ⟨b, off, rfl, by simpa [Addr.add] using cell_ltR hc0, fun i x hi => ?_⟩
        have hi' : i < len := by
          rcases Nat.lt_or_ge i len with h | h
          · exact h
          · rw [List.getElem?_eq_none (by simpa using h)] at hi; cases hi
        rw [List.getElem?_map, List.getElem?_range hi'] at hi
        obtain rfl : F i = x := by simpa using hi
        have := (hF i (by omega)).1
        simp only [WideShapes.add_plain, Nat.add_zero] at this
        exact this
    · intro x hx
      obtain ⟨i, hi, rfl⟩ := List.mem_map.1 hx
      exact (hF i (by have : i < len := by simpa using hi
                      omega)).2
theorem openRMst {H : Type} {enc : TypeId × Value → H} {W : World} {b0 : Nat} {r : Reach} {v : Value} {d : DataW H} {p : List MemPlace}
    (hv : Value.okWide Tryd.prog W r b0 22 v) (h : DataW.Trod enc Tryd.prog W 0 (fun _ => true) true 22 v d p) : ∃ (ao : Option Addr) (l : List XMst) (cap : Nat), v = .slice ao l.length cap ∧ RowMst W ao l ∧ (l = [] ∨ ∃ es ss, d = .slice es ss ∧ es.length = l.length) := by
  obtain ⟨a0, len, cap, rfl⟩ := okWide_slice Tryd.underlying22 hv
  obtain ⟨fuel, hf⟩ := h
  obtain ⟨ao, l, cap', hx, hr, _, hd⟩ := openrMst hf
  simp [Value.cells] at hx
  obtain ⟨rfl, rfl, rfl⟩ := hx
  exact ⟨_, l, _, rfl, hr, hd⟩
structure XLnk where
  shop : Int
  key : ByteArray
deriving Inhabited
def valLnk (x : XLnk) : Value := .agg #[.int .i64 x.shop, .string x.key]
def okLnk (W : World) (x : XLnk) : Prop := (-9223372036854775808 ≤ x.shop ∧ x.shop ≤ 9223372036854775807) ∧ x.key.size ≤ maxLen
theorem cellsOfLnk : Tryd.prog.cellsOf 54 = 2 := by kernel_rfl
theorem okLnk.below {W W' : World} {x : XLnk} (h : okLnk W x) (hb : Below W.heap.size W W') : okLnk W' x := by
  obtain ⟨h0, h1⟩ := h
  exact ⟨h0, h1⟩
theorem opencLnk {H : Type} {enc : TypeId × Value → H} {W : World} {k : Nat} {cs : List Value} {y : DataW H × List MemPlace}
    (h : DataW.trod enc Tryd.prog W 0 (fun _ => true) true k 54 cs = some y) :
    ∃ x : XLnk, cs = [.int .i64 x.shop, .string x.key] ∧ okLnk W x := by
  obtain ⟨xs, k', _, _, hsz, hlen, hq⟩ := DataW.trod_struct Tryd.underlying54 h
  rw [cellsOfLnk] at hsz
  match cs, hsz with
  | [c0, c1], _ =>
    match xs, hlen with
    | [y0, y1], _ =>
      have h0 : DataW.trod enc Tryd.prog W 0 (fun _ => true) true k' 3 [c0] = some y0 := by simpa [cellsOfBool, cellsOfInt, cellsOfString] using hq 0 _ rfl
      obtain ⟨z0, e0, g0, w0⟩ := DataW.trod_int Tryd.underlying3 h0
      have h1 : DataW.trod enc Tryd.prog W 0 (fun _ => true) true k' 9 [c1] = some y1 := by simpa [cellsOfBool, cellsOfInt, cellsOfString] using hq 1 _ rfl
      obtain ⟨z1, e1, g1, w1⟩ := DataW.trod_string Tryd.underlying9 h1
      simp at e0 e1
      subst e0
      subst e1
      exact ⟨⟨z0, z1⟩, rfl, ⟨bounds_i64 w0, w1⟩⟩
theorem openLnk {H : Type} {enc : TypeId × Value → H} {W : World} {b0 : Nat} {r : Reach} {v : Value} {d : DataW H} {p : List MemPlace}
    (hv : Value.okWide Tryd.prog W r b0 54 v) (h : DataW.Trod enc Tryd.prog W 0 (fun _ => true) true 54 v d p) : ∃ x : XLnk, v = valLnk x ∧ okLnk W x := by
  obtain ⟨cs, rfl, hsz⟩ := okWide_struct Tryd.underlying54 hv
  obtain ⟨fuel, hf⟩ := h
  obtain ⟨x, hx, ho⟩ := opencLnk hf
  obtain ⟨l⟩ := cs
  simp only [Value.cells] at hx
  subst hx
  exact ⟨x, rfl, ho⟩
def RowLnk (W : World) (ao : Option Addr) (l : List XLnk) : Prop :=
  (l = [] ∨ ∃ b off, ao = some ⟨b, off, none⟩ ∧ b < W.heap.size ∧ ∀ i x, l[i]? = some x → W.cell? ⟨b, off + i * 2, none⟩ = some (.int .i64 x.shop) ∧ W.cell? ⟨b, off + i * 2 + 1, none⟩ = some (.string x.key)) ∧ (∀ x ∈ l, okLnk W x) ∧ l.length ≤ maxLen
theorem RowLnk.below {W W' : World} {ao : Option Addr} {l : List XLnk} (h : RowLnk W ao l) (hb : Below W.heap.size W W') : RowLnk W' ao l := by
  obtain ⟨h, ho, hm⟩ := h
  refine ⟨?_, fun x hx => (ho x hx).below hb, hm⟩
  rcases h with h | ⟨b, off, e, hlt, hc⟩
  · exact .inl h
  · refine .inr ⟨b, off, e, Nat.lt_of_lt_of_le hlt hb.size, fun i s hi => ?_⟩
    obtain ⟨c0, c1⟩ := hc i s hi
    exact ⟨(hb.cell (p := ⟨b, off + i * 2, none⟩) hlt).trans c0, (hb.cell (p := ⟨b, off + i * 2 + 1, none⟩) hlt).trans c1⟩
theorem cellsOfSlLnk : Tryd.prog.cellsOf 23 = 1 := by kernel_rfl
theorem openrLnk {H : Type} {enc : TypeId × Value → H} {W : World} {k : Nat} {cs : List Value} {y : DataW H × List MemPlace}
    (h : DataW.trod enc Tryd.prog W 0 (fun _ => true) true k 23 cs = some y) :
    ∃ (ao : Option Addr) (l : List XLnk) (cap : Nat), cs = [.slice ao l.length cap] ∧ RowLnk W ao l ∧ l.length ≤ cap ∧ (l = [] ∨ ∃ es ss, y.1 = .slice es ss ∧ es.length = l.length) := by
  rcases open_slice Tryd.underlying23 h with ⟨rfl, rfl⟩ | ⟨a, len, cap, mm, nn, D, Pl, rfl, _, hl, hm, hmm, hx, hel⟩
  · exact ⟨none, [], 0, rfl, ⟨.inl rfl, by simp, by simp⟩, Nat.le_refl _, .inl rfl⟩
  · simp only [if_true] at hmm
    rw [cellsOfLnk] at hel
    obtain ⟨F, hF⟩ := choose_lt (α := XLnk) (n := mm) (p := fun i x => (W.cell? ((a.add (i * 2)).add 0) = some (.int .i64 x.shop) ∧ W.cell? ((a.add (i * 2)).add 1) = some (.string x.key)) ∧ okLnk W x) (fun i hi => by
      obtain ⟨cs', h1, h2⟩ := hel i hi
      obtain ⟨x, rfl, hok⟩ := opencLnk h2
      obtain ⟨_, _, hc⟩ := World.cells?_some h1
      exact ⟨x, ⟨hc 0 (by omega), hc 1 (by omega)⟩, hok⟩)
    refine ⟨some a, (List.range len).map F, cap, by simp, ⟨?_, ?_, by rw [List.length_map, List.length_range]; omega⟩, by rw [List.length_map, List.length_range]; exact hl, .inr ⟨_, _, by rw [hx], by simp⟩⟩
    · by_cases hl0 : len = 0
      · subst hl0; exact .inl rfl
      · obtain ⟨b, off, spot⟩ := a
        have hc0 := (hF 0 (by omega)).1.1
        have hspot : spot = none := by simpa [Addr.add] using World.cell?_spot hc0
        subst hspot
        refine .inr ⟨b, off, rfl, by simpa [Addr.add] using cell_ltR hc0, fun i x hi => ?_⟩
        have hi' : i < len := by
          rcases Nat.lt_or_ge i len with h | h
          · exact h
          · rw [List.getElem?_eq_none (by simpa using h)] at hi; cases hi
        rw [List.getElem?_map, List.getElem?_range hi'] at hi
        obtain rfl : F i = x := by simpa using hi
        have := (hF i (by omega)).1
        simp only [WideShapes.add_plain, Nat.add_zero] at this
        exact this
    · intro x hx
      obtain ⟨i, hi, rfl⟩ := List.mem_map.1 hx
      exact (hF i (by have : i < len := by simpa using hi
                      omega)).2
theorem openRLnk {H : Type} {enc : TypeId × Value → H} {W : World} {b0 : Nat} {r : Reach} {v : Value} {d : DataW H} {p : List MemPlace}
    (hv : Value.okWide Tryd.prog W r b0 23 v) (h : DataW.Trod enc Tryd.prog W 0 (fun _ => true) true 23 v d p) : ∃ (ao : Option Addr) (l : List XLnk) (cap : Nat), v = .slice ao l.length cap ∧ RowLnk W ao l ∧ (l = [] ∨ ∃ es ss, d = .slice es ss ∧ es.length = l.length) := by
  obtain ⟨a0, len, cap, rfl⟩ := okWide_slice Tryd.underlying23 hv
  obtain ⟨fuel, hf⟩ := h
  obtain ⟨ao, l, cap', hx, hr, _, hd⟩ := openrLnk hf
  simp [Value.cells] at hx
  obtain ⟨rfl, rfl, rfl⟩ := hx
  exact ⟨_, l, _, rfl, hr, hd⟩
structure XHostPlan where
  masterso : Option Addr
  masters : List XMst
  mastersc : Nat
  linkso : Option Addr
  links : List XLnk
  linksc : Nat
deriving Inhabited
def valHostPlan (x : XHostPlan) : Value := .agg #[.slice x.masterso x.masters.length x.mastersc, .slice x.linkso x.links.length x.linksc]
def okHostPlan (W : World) (x : XHostPlan) : Prop := RowMst W x.masterso x.masters ∧ x.masters.length ≤ x.mastersc ∧ RowLnk W x.linkso x.links ∧ x.links.length ≤ x.linksc
theorem cellsOfHostPlan : Tryd.prog.cellsOf 25 = 2 := by kernel_rfl
theorem okHostPlan.below {W W' : World} {x : XHostPlan} (h : okHostPlan W x) (hb : Below W.heap.size W W') : okHostPlan W' x := by
  obtain ⟨h0, h1, h2, h3⟩ := h
  exact ⟨h0.below hb, h1, h2.below hb, h3⟩
theorem opencHostPlan {H : Type} {enc : TypeId × Value → H} {W : World} {k : Nat} {cs : List Value} {y : DataW H × List MemPlace}
    (h : DataW.trod enc Tryd.prog W 0 (fun _ => true) true k 25 cs = some y) :
    ∃ x : XHostPlan, cs = [.slice x.masterso x.masters.length x.mastersc, .slice x.linkso x.links.length x.linksc] ∧ okHostPlan W x := by
  obtain ⟨xs, k', _, _, hsz, hlen, hq⟩ := DataW.trod_struct Tryd.underlying25 h
  rw [cellsOfHostPlan] at hsz
  match cs, hsz with
  | [c0, c1], _ =>
    match xs, hlen with
    | [y0, y1], _ =>
      have h0 : DataW.trod enc Tryd.prog W 0 (fun _ => true) true k' 22 [c0] = some y0 := by simpa [cellsOfBool, cellsOfInt, cellsOfSlLnk, cellsOfSlMst, cellsOfString] using hq 0 _ rfl
      obtain ⟨zo0, z0, zc0, e0, w0, wc0, _⟩ := openrMst h0
      have h1 : DataW.trod enc Tryd.prog W 0 (fun _ => true) true k' 23 [c1] = some y1 := by simpa [cellsOfBool, cellsOfInt, cellsOfSlLnk, cellsOfSlMst, cellsOfString] using hq 1 _ rfl
      obtain ⟨zo1, z1, zc1, e1, w1, wc1, _⟩ := openrLnk h1
      simp at e0 e1
      subst e0
      subst e1
      exact ⟨⟨zo0, z0, zc0, zo1, z1, zc1⟩, rfl, ⟨w0, wc0, w1, wc1⟩⟩
theorem openHostPlan {H : Type} {enc : TypeId × Value → H} {W : World} {b0 : Nat} {r : Reach} {v : Value} {d : DataW H} {p : List MemPlace}
    (hv : Value.okWide Tryd.prog W r b0 25 v) (h : DataW.Trod enc Tryd.prog W 0 (fun _ => true) true 25 v d p) : ∃ x : XHostPlan, v = valHostPlan x ∧ okHostPlan W x := by
  obtain ⟨cs, rfl, hsz⟩ := okWide_struct Tryd.underlying25 hv
  obtain ⟨fuel, hf⟩ := h
  obtain ⟨x, hx, ho⟩ := opencHostPlan hf
  obtain ⟨l⟩ := cs
  simp only [Value.cells] at hx
  subst hx
  exact ⟨x, rfl, ho⟩
structure XAccount where
  id : ByteArray
  pin : ByteArray
  balance : Int
  most : Int
  version : Int
deriving Inhabited
def valAccount (x : XAccount) : Value := .agg #[.string x.id, .string x.pin, .int .i64 x.balance, .int .i64 x.most, .int .i64 x.version]
def okAccount (W : World) (x : XAccount) : Prop := x.id.size ≤ maxLen ∧ x.pin.size ≤ maxLen ∧ (-9223372036854775808 ≤ x.balance ∧ x.balance ≤ 9223372036854775807) ∧ (-9223372036854775808 ≤ x.most ∧ x.most ≤ 9223372036854775807) ∧ (-9223372036854775808 ≤ x.version ∧ x.version ≤ 9223372036854775807)
theorem cellsOfAccount : Tryd.prog.cellsOf 27 = 5 := by kernel_rfl
theorem okAccount.below {W W' : World} {x : XAccount} (h : okAccount W x) (hb : Below W.heap.size W W') : okAccount W' x := by
  obtain ⟨h0, h1, h2, h3, h4⟩ := h
  exact ⟨h0, h1, h2, h3, h4⟩
theorem opencAccount {H : Type} {enc : TypeId × Value → H} {W : World} {k : Nat} {cs : List Value} {y : DataW H × List MemPlace}
    (h : DataW.trod enc Tryd.prog W 0 (fun _ => true) true k 27 cs = some y) :
    ∃ x : XAccount, cs = [.string x.id, .string x.pin, .int .i64 x.balance, .int .i64 x.most, .int .i64 x.version] ∧ okAccount W x := by
  obtain ⟨xs, k', _, _, hsz, hlen, hq⟩ := DataW.trod_struct Tryd.underlying27 h
  rw [cellsOfAccount] at hsz
  match cs, hsz with
  | [c0, c1, c2, c3, c4], _ =>
    match xs, hlen with
    | [y0, y1, y2, y3, y4], _ =>
      have h0 : DataW.trod enc Tryd.prog W 0 (fun _ => true) true k' 9 [c0] = some y0 := by simpa [cellsOfBool, cellsOfInt, cellsOfString] using hq 0 _ rfl
      obtain ⟨z0, e0, g0, w0⟩ := DataW.trod_string Tryd.underlying9 h0
      have h1 : DataW.trod enc Tryd.prog W 0 (fun _ => true) true k' 9 [c1] = some y1 := by simpa [cellsOfBool, cellsOfInt, cellsOfString] using hq 1 _ rfl
      obtain ⟨z1, e1, g1, w1⟩ := DataW.trod_string Tryd.underlying9 h1
      have h2 : DataW.trod enc Tryd.prog W 0 (fun _ => true) true k' 3 [c2] = some y2 := by simpa [cellsOfBool, cellsOfInt, cellsOfString] using hq 2 _ rfl
      obtain ⟨z2, e2, g2, w2⟩ := DataW.trod_int Tryd.underlying3 h2
      have h3 : DataW.trod enc Tryd.prog W 0 (fun _ => true) true k' 3 [c3] = some y3 := by simpa [cellsOfBool, cellsOfInt, cellsOfString] using hq 3 _ rfl
      obtain ⟨z3, e3, g3, w3⟩ := DataW.trod_int Tryd.underlying3 h3
      have h4 : DataW.trod enc Tryd.prog W 0 (fun _ => true) true k' 3 [c4] = some y4 := by simpa [cellsOfBool, cellsOfInt, cellsOfString] using hq 4 _ rfl
      obtain ⟨z4, e4, g4, w4⟩ := DataW.trod_int Tryd.underlying3 h4
      simp at e0 e1 e2 e3 e4
      subst e0
      subst e1
      subst e2
      subst e3
      subst e4
      exact ⟨⟨z0, z1, z2, z3, z4⟩, rfl, ⟨w0, w1, bounds_i64 w2, bounds_i64 w3, bounds_i64 w4⟩⟩
theorem openAccount {H : Type} {enc : TypeId × Value → H} {W : World} {b0 : Nat} {r : Reach} {v : Value} {d : DataW H} {p : List MemPlace}
    (hv : Value.okWide Tryd.prog W r b0 27 v) (h : DataW.Trod enc Tryd.prog W 0 (fun _ => true) true 27 v d p) : ∃ x : XAccount, v = valAccount x ∧ okAccount W x := by
  obtain ⟨cs, rfl, hsz⟩ := okWide_struct Tryd.underlying27 hv
  obtain ⟨fuel, hf⟩ := h
  obtain ⟨x, hx, ho⟩ := opencAccount hf
  obtain ⟨l⟩ := cs
  simp only [Value.cells] at hx
  subst hx
  exact ⟨x, rfl, ho⟩
end Go.Proofs.YtbiipeapcclbkaaDoor
