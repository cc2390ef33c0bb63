/- Answers that are handed in, opened. -/
import Derived.Test.YtfpglpefofcdeaaGreatDoorM01
import Derived.Test.YtfpglpefofcdeaaGreatDoorM25
import Derived.Test.YtfpglpefofcdeaaGreatDoorM27
import Derived.Test.YtfpglpefofcdeaaGreatDoorM28
import Derived.Deep.DeepCutAuto
namespace Go.Proofs.YtfpglpefofcdeaaGreatDoor
open Go.ChangeShapes Go.WideShapes Go.ChangeAt Go.RowKit Go.Deep
set_option linter.unusedVariables false
set_option linter.unusedSimpArgs false
set_option maxRecDepth 100000

theorem cellsOfErrno : Tryz.prog.cellsOf 22 = 1 := by kernel_rfl
theorem bulk_posT {H : Type} (d : DataW H) : 1 ≤ Rows.uptoBulk d := by
  cases d with
  | lit x => cases x <;> simp [Rows.uptoBulk]
  | _ => simp [Rows.uptoBulk]
theorem bulkAll_length {H : Type} {es : List (DataW H)} : es.length ≤ Rows.uptoBulkAll es := by
  induction es with
  | nil => simp
  | cons d r ih =>
    have := bulk_posT d
    simp only [Rows.uptoBulkAll, List.length_cons]
    omega



def bulkWays (x : XWays) : Nat := x.list.length
theorem opencbWays {H : Type} {enc : TypeId × Value → H} {W : World} {k : Nat} {cs : List Value} {y : DataW H × List MemPlace}
    (h : DataW.trod enc Tryz.prog W 0 (fun _ => true) true k 28 cs = some y) :
    ∃ x : XWays, cs = [.int .i64 x.x, .int .i64 x.y, .slice x.listo x.list.length x.listc] ∧ okWays W x ∧ bulkWays x ≤ Rows.uptoBulk y.1 := by
  obtain ⟨xs, k', _, hagg, hsz, hlen, hq⟩ := DataW.trod_struct Tryz.underlying28 h
  rw [cellsOfWays] at hsz
  match cs, hsz with
  | [c0, c1, c2], _ =>
    match xs, hlen, hagg with
    | [y0, y1, y2], _, hagg =>
      have hbk := congrArg Rows.uptoBulk (Prod.ext_iff.1 hagg).1
      have h0 : DataW.trod enc Tryz.prog W 0 (fun _ => true) true k' 3 [c0] = some y0 := by simpa [cellsOfBool, cellsOfInt, cellsOfSlWay, cellsOfString] using hq 0 _ rfl
      obtain ⟨z0, e0, g0, w0⟩ := DataW.trod_int Tryz.underlying3 h0
      subst g0
      have h1 : DataW.trod enc Tryz.prog W 0 (fun _ => true) true k' 3 [c1] = some y1 := by simpa [cellsOfBool, cellsOfInt, cellsOfSlWay, cellsOfString] using hq 1 _ rfl
      obtain ⟨z1, e1, g1, w1⟩ := DataW.trod_int Tryz.underlying3 h1
      subst g1
      have h2 : DataW.trod enc Tryz.prog W 0 (fun _ => true) true k' 26 [c2] = some y2 := by simpa [cellsOfBool, cellsOfInt, cellsOfSlWay, cellsOfString] using hq 2 _ rfl
      obtain ⟨zo2, z2, zc2, e2, w2, wc2, hl2⟩ := openrWay h2
      have b2 : z2.length ≤ Rows.uptoBulk y2.1 := by
        rcases hl2 with hd | ⟨es, ss, hd, hes⟩
        · rw [hd]; simp
        · rw [hd]
          simp only [Rows.uptoBulk]
          have := bulkAll_length (es := es)
          omega
      simp at e0 e1 e2
      subst e0
      subst e1
      subst e2
      refine ⟨⟨z0, z1, zo2, z2, zc2⟩, rfl, ⟨bounds_i64 w0, bounds_i64 w1, w2⟩, ?_⟩
      simp only [List.map_cons, List.map_nil, Rows.uptoBulk, Rows.uptoBulkAll] at hbk
      rw [hbk]
      unfold bulkWays
      dsimp only
      omega
theorem openbWays {H : Type} {enc : TypeId × Value → H} {W : World} {b0 : Nat} {r : Reach} {v : Value} {d : DataW H} {p : List MemPlace}
    (hv : Value.okWide Tryz.prog W r b0 28 v) (h : DataW.Trod enc Tryz.prog W 0 (fun _ => true) true 28 v d p) : ∃ x : XWays, v = valWays x ∧ okWays W x ∧ bulkWays x ≤ Rows.uptoBulk d := by
  obtain ⟨cs, rfl, hsz⟩ := okWide_struct Tryz.underlying28 hv
  obtain ⟨fuel, hf⟩ := h
  obtain ⟨x, hx, ho, hb⟩ := opencbWays hf
  obtain ⟨l⟩ := cs
  simp only [Value.cells] at hx
  subst hx
  exact ⟨x, rfl, ho, hb⟩
structure XMasks where
  d : Int
  o : Int
  f : Int
deriving Inhabited
def valMasks (x : XMasks) : Value := .agg #[.int .i64 x.d, .int .i64 x.o, .int .i64 x.f]
def okMasks (W : World) (x : XMasks) : Prop := (-9223372036854775808 ≤ x.d ∧ x.d ≤ 9223372036854775807) ∧ (-9223372036854775808 ≤ x.o ∧ x.o ≤ 9223372036854775807) ∧ (-9223372036854775808 ≤ x.f ∧ x.f ≤ 9223372036854775807)
theorem cellsOfMasks : Tryz.prog.cellsOf 30 = 3 := by kernel_rfl
theorem okMasks.below {W W' : World} {x : XMasks} (h : okMasks W x) (hb : Below W.heap.size W W') : okMasks W' x := by
  obtain ⟨h0, h1, h2⟩ := h
  exact ⟨h0, h1, h2⟩
theorem opencMasks {H : Type} {enc : TypeId × Value → H} {W : World} {k : Nat} {cs : List Value} {y : DataW H × List MemPlace}
    (h : DataW.trod enc Tryz.prog W 0 (fun _ => true) true k 30 cs = some y) :
    ∃ x : XMasks, cs = [.int .i64 x.d, .int .i64 x.o, .int .i64 x.f] ∧ okMasks W x := by
  obtain ⟨xs, k', _, _, hsz, hlen, hq⟩ := DataW.trod_struct Tryz.underlying30 h
  rw [cellsOfMasks] at hsz
  match cs, hsz with
  | [c0, c1, c2], _ =>
    match xs, hlen with
    | [y0, y1, y2], _ =>
      have h0 : DataW.trod enc Tryz.prog W 0 (fun _ => true) true k' 3 [c0] = some y0 := by simpa [cellsOfBool, cellsOfInt, cellsOfString] using hq 0 _ rfl
      obtain ⟨z0, e0, g0, w0⟩ := DataW.trod_int Tryz.underlying3 h0
      have h1 : DataW.trod enc Tryz.prog W 0 (fun _ => true) true k' 3 [c1] = some y1 := by simpa [cellsOfBool, cellsOfInt, cellsOfString] using hq 1 _ rfl
      obtain ⟨z1, e1, g1, w1⟩ := DataW.trod_int Tryz.underlying3 h1
      have h2 : DataW.trod enc Tryz.prog W 0 (fun _ => true) true k' 3 [c2] = some y2 := by simpa [cellsOfBool, cellsOfInt, cellsOfString] using hq 2 _ rfl
      obtain ⟨z2, e2, g2, w2⟩ := DataW.trod_int Tryz.underlying3 h2
      simp at e0 e1 e2
      subst e0
      subst e1
      subst e2
      exact ⟨⟨z0, z1, z2⟩, rfl, ⟨bounds_i64 w0, bounds_i64 w1, bounds_i64 w2⟩⟩
theorem openMasks {H : Type} {enc : TypeId × Value → H} {W : World} {b0 : Nat} {r : Reach} {v : Value} {d : DataW H} {p : List MemPlace}
    (hv : Value.okWide Tryz.prog W r b0 30 v) (h : DataW.Trod enc Tryz.prog W 0 (fun _ => true) true 30 v d p) : ∃ x : XMasks, v = valMasks x ∧ okMasks W x := by
  obtain ⟨cs, rfl, hsz⟩ := okWide_struct Tryz.underlying30 hv
  obtain ⟨fuel, hf⟩ := h
  obtain ⟨x, hx, ho⟩ := opencMasks hf
  obtain ⟨l⟩ := cs
  simp only [Value.cells] at hx
  subst hx
  exact ⟨x, rfl, ho⟩
def bulkMasks (x : XMasks) : Nat := 0
theorem opencbMasks {H : Type} {enc : TypeId × Value → H} {W : World} {k : Nat} {cs : List Value} {y : DataW H × List MemPlace}
    (h : DataW.trod enc Tryz.prog W 0 (fun _ => true) true k 30 cs = some y) :
    ∃ x : XMasks, cs = [.int .i64 x.d, .int .i64 x.o, .int .i64 x.f] ∧ okMasks W x ∧ bulkMasks x ≤ Rows.uptoBulk y.1 := by
  obtain ⟨xs, k', _, hagg, hsz, hlen, hq⟩ := DataW.trod_struct Tryz.underlying30 h
  rw [cellsOfMasks] at hsz
  match cs, hsz with
  | [c0, c1, c2], _ =>
    match xs, hlen, hagg with
    | [y0, y1, y2], _, hagg =>
      have hbk := congrArg Rows.uptoBulk (Prod.ext_iff.1 hagg).1
      have h0 : DataW.trod enc Tryz.prog W 0 (fun _ => true) true k' 3 [c0] = some y0 := by simpa [cellsOfBool, cellsOfInt, cellsOfString] using hq 0 _ rfl
      obtain ⟨z0, e0, g0, w0⟩ := DataW.trod_int Tryz.underlying3 h0
      subst g0
      have h1 : DataW.trod enc Tryz.prog W 0 (fun _ => true) true k' 3 [c1] = some y1 := by simpa [cellsOfBool, cellsOfInt, cellsOfString] using hq 1 _ rfl
      obtain ⟨z1, e1, g1, w1⟩ := DataW.trod_int Tryz.underlying3 h1
      subst g1
      have h2 : DataW.trod enc Tryz.prog W 0 (fun _ => true) true k' 3 [c2] = some y2 := by simpa [cellsOfBool, cellsOfInt, cellsOfString] using hq 2 _ rfl
      obtain ⟨z2, e2, g2, w2⟩ := DataW.trod_int Tryz.underlying3 h2
      subst g2
      simp at e0 e1 e2
      subst e0
      subst e1
      subst e2
      refine ⟨⟨z0, z1, z2⟩, rfl, ⟨bounds_i64 w0, bounds_i64 w1, bounds_i64 w2⟩, ?_⟩
      simp only [List.map_cons, List.map_nil, Rows.uptoBulk, Rows.uptoBulkAll] at hbk
      rw [hbk]
      exact Nat.zero_le _
theorem openbMasks {H : Type} {enc : TypeId × Value → H} {W : World} {b0 : Nat} {r : Reach} {v : Value} {d : DataW H} {p : List MemPlace}
    (hv : Value.okWide Tryz.prog W r b0 30 v) (h : DataW.Trod enc Tryz.prog W 0 (fun _ => true) true 30 v d p) : ∃ x : XMasks, v = valMasks x ∧ okMasks W x ∧ bulkMasks x ≤ Rows.uptoBulk d := by
  obtain ⟨cs, rfl, hsz⟩ := okWide_struct Tryz.underlying30 hv
  obtain ⟨fuel, hf⟩ := h
  obtain ⟨x, hx, ho, hb⟩ := opencbMasks hf
  obtain ⟨l⟩ := cs
  simp only [Value.cells] at hx
  subst hx
  exact ⟨x, rfl, ho, hb⟩
structure XCert where
  sig : ByteArray
  rest : ByteArray
deriving Inhabited
def valCert (x : XCert) : Value := .agg #[.string x.sig, .string x.rest]
def okCert (W : World) (x : XCert) : Prop := x.sig.size ≤ maxLen ∧ x.rest.size ≤ maxLen
theorem cellsOfCert : Tryz.prog.cellsOf 25 = 2 := by kernel_rfl
theorem okCert.below {W W' : World} {x : XCert} (h : okCert W x) (hb : Below W.heap.size W W') : okCert W' x := by
  obtain ⟨h0, h1⟩ := h
  exact ⟨h0, h1⟩
theorem opencCert {H : Type} {enc : TypeId × Value → H} {W : World} {k : Nat} {cs : List Value} {y : DataW H × List MemPlace}
    (h : DataW.trod enc Tryz.prog W 0 (fun _ => true) true k 25 cs = some y) :
    ∃ x : XCert, cs = [.string x.sig, .string x.rest] ∧ okCert W x := by
  obtain ⟨xs, k', _, _, hsz, hlen, hq⟩ := DataW.trod_struct Tryz.underlying25 h
  rw [cellsOfCert] at hsz
  match cs, hsz with
  | [c0, c1], _ =>
    match xs, hlen with
    | [y0, y1], _ =>
      have h0 : DataW.trod enc Tryz.prog W 0 (fun _ => true) true k' 9 [c0] = some y0 := by simpa [cellsOfBool, cellsOfInt, cellsOfString] using hq 0 _ rfl
      obtain ⟨z0, e0, g0, w0⟩ := DataW.trod_string Tryz.underlying9 h0
      have h1 : DataW.trod enc Tryz.prog W 0 (fun _ => true) true k' 9 [c1] = some y1 := by simpa [cellsOfBool, cellsOfInt, cellsOfString] using hq 1 _ rfl
      obtain ⟨z1, e1, g1, w1⟩ := DataW.trod_string Tryz.underlying9 h1
      simp at e0 e1
      subst e0
      subst e1
      exact ⟨⟨z0, z1⟩, rfl, ⟨w0, w1⟩⟩
theorem openCert {H : Type} {enc : TypeId × Value → H} {W : World} {b0 : Nat} {r : Reach} {v : Value} {d : DataW H} {p : List MemPlace}
    (hv : Value.okWide Tryz.prog W r b0 25 v) (h : DataW.Trod enc Tryz.prog W 0 (fun _ => true) true 25 v d p) : ∃ x : XCert, v = valCert x ∧ okCert W x := by
  obtain ⟨cs, rfl, hsz⟩ := okWide_struct Tryz.underlying25 hv
  obtain ⟨fuel, hf⟩ := h
  obtain ⟨x, hx, ho⟩ := opencCert hf
  obtain ⟨l⟩ := cs
  simp only [Value.cells] at hx
  subst hx
  exact ⟨x, rfl, ho⟩
def bulkCert (x : XCert) : Nat := x.sig.size + x.rest.size
theorem opencbCert {H : Type} {enc : TypeId × Value → H} {W : World} {k : Nat} {cs : List Value} {y : DataW H × List MemPlace}
    (h : DataW.trod enc Tryz.prog W 0 (fun _ => true) true k 25 cs = some y) :
    ∃ x : XCert, cs = [.string x.sig, .string x.rest] ∧ okCert W x ∧ bulkCert x ≤ Rows.uptoBulk y.1 := by
  obtain ⟨xs, k', _, hagg, hsz, hlen, hq⟩ := DataW.trod_struct Tryz.underlying25 h
  rw [cellsOfCert] at hsz
  match cs, hsz with
  | [c0, c1], _ =>
    match xs, hlen, hagg with
    | [y0, y1], _, hagg =>
      have hbk := congrArg Rows.uptoBulk (Prod.ext_iff.1 hagg).1
      have h0 : DataW.trod enc Tryz.prog W 0 (fun _ => true) true k' 9 [c0] = some y0 := by simpa [cellsOfBool, cellsOfInt, cellsOfString] using hq 0 _ rfl
      obtain ⟨z0, e0, g0, w0⟩ := DataW.trod_string Tryz.underlying9 h0
      have l0 : z0.data.toList.length = z0.size := by simp
      subst g0
      have h1 : DataW.trod enc Tryz.prog W 0 (fun _ => true) true k' 9 [c1] = some y1 := by simpa [cellsOfBool, cellsOfInt, cellsOfString] using hq 1 _ rfl
      obtain ⟨z1, e1, g1, w1⟩ := DataW.trod_string Tryz.underlying9 h1
      have l1 : z1.data.toList.length = z1.size := by simp
      subst g1
      simp at e0 e1
      subst e0
      subst e1
      refine ⟨⟨z0, z1⟩, rfl, ⟨w0, w1⟩, ?_⟩
      simp only [List.map_cons, List.map_nil, Rows.uptoBulk, Rows.uptoBulkAll] at hbk
      rw [hbk]
      unfold bulkCert
      dsimp only
      omega
theorem openbCert {H : Type} {enc : TypeId × Value → H} {W : World} {b0 : Nat} {r : Reach} {v : Value} {d : DataW H} {p : List MemPlace}
    (hv : Value.okWide Tryz.prog W r b0 25 v) (h : DataW.Trod enc Tryz.prog W 0 (fun _ => true) true 25 v d p) : ∃ x : XCert, v = valCert x ∧ okCert W x ∧ bulkCert x ≤ Rows.uptoBulk d := by
  obtain ⟨cs, rfl, hsz⟩ := okWide_struct Tryz.underlying25 hv
  obtain ⟨fuel, hf⟩ := h
  obtain ⟨x, hx, ho, hb⟩ := opencbCert hf
  obtain ⟨l⟩ := cs
  simp only [Value.cells] at hx
  subst hx
  exact ⟨x, rfl, ho, hb⟩
structure XField where
  tag : Int
  len : Int
deriving Inhabited
def valField (x : XField) : Value := .agg #[.int .i64 x.tag, .int .i64 x.len]
def okField (W : World) (x : XField) : Prop := (-9223372036854775808 ≤ x.tag ∧ x.tag ≤ 9223372036854775807) ∧ (-9223372036854775808 ≤ x.len ∧ x.len ≤ 9223372036854775807)
theorem cellsOfField : Tryz.prog.cellsOf 121 = 2 := by kernel_rfl
theorem okField.below {W W' : World} {x : XField} (h : okField W x) (hb : Below W.heap.size W W') : okField W' x := by
  obtain ⟨h0, h1⟩ := h
  exact ⟨h0, h1⟩
theorem opencField {H : Type} {enc : TypeId × Value → H} {W : World} {k : Nat} {cs : List Value} {y : DataW H × List MemPlace}
    (h : DataW.trod enc Tryz.prog W 0 (fun _ => true) true k 121 cs = some y) :
    ∃ x : XField, cs = [.int .i64 x.tag, .int .i64 x.len] ∧ okField W x := by
  obtain ⟨xs, k', _, _, hsz, hlen, hq⟩ := DataW.trod_struct Tryz.underlying121 h
  rw [cellsOfField] at hsz
  match cs, hsz with
  | [c0, c1], _ =>
    match xs, hlen with
    | [y0, y1], _ =>
      have h0 : DataW.trod enc Tryz.prog W 0 (fun _ => true) true k' 3 [c0] = some y0 := by simpa [cellsOfBool, cellsOfInt, cellsOfString] using hq 0 _ rfl
      obtain ⟨z0, e0, g0, w0⟩ := DataW.trod_int Tryz.underlying3 h0
      have h1 : DataW.trod enc Tryz.prog W 0 (fun _ => true) true k' 3 [c1] = some y1 := by simpa [cellsOfBool, cellsOfInt, cellsOfString] using hq 1 _ rfl
      obtain ⟨z1, e1, g1, w1⟩ := DataW.trod_int Tryz.underlying3 h1
      simp at e0 e1
      subst e0
      subst e1
      exact ⟨⟨z0, z1⟩, rfl, ⟨bounds_i64 w0, bounds_i64 w1⟩⟩
theorem openField {H : Type} {enc : TypeId × Value → H} {W : World} {b0 : Nat} {r : Reach} {v : Value} {d : DataW H} {p : List MemPlace}
    (hv : Value.okWide Tryz.prog W r b0 121 v) (h : DataW.Trod enc Tryz.prog W 0 (fun _ => true) true 121 v d p) : ∃ x : XField, v = valField x ∧ okField W x := by
  obtain ⟨cs, rfl, hsz⟩ := okWide_struct Tryz.underlying121 hv
  obtain ⟨fuel, hf⟩ := h
  obtain ⟨x, hx, ho⟩ := opencField hf
  obtain ⟨l⟩ := cs
  simp only [Value.cells] at hx
  subst hx
  exact ⟨x, rfl, ho⟩
def RowField (W : World) (ao : Option Addr) (l : List XField) : Prop :=
  (l = [] ∨ ∃ b off, ao = some ⟨b, off, none⟩ ∧ b < W.heap.size ∧ ∀ i x, l[i]? = some x → W.cell? ⟨b, off + i * 2, none⟩ = some (.int .i64 x.tag) ∧ W.cell? ⟨b, off + i * 2 + 1, none⟩ = some (.int .i64 x.len)) ∧ (∀ x ∈ l, okField W x) ∧ l.length ≤ maxLen
theorem RowField.below {W W' : World} {ao : Option Addr} {l : List XField} (h : RowField W ao l) (hb : Below W.heap.size W W') : RowField W' ao l := by
  obtain ⟨h, ho, hm⟩ := h
  refine ⟨?_, fun x hx => (ho x hx).below hb, hm⟩
  rcases h with h | ⟨b, off, e, hlt, hc⟩
  · exact .inl h
  · refine .inr ⟨b, off, e, Nat.lt_of_lt_of_le hlt hb.size, fun i s hi => ?_⟩
    obtain ⟨c0, c1⟩ := hc i s hi
    exact ⟨(hb.cell (p := ⟨b, off + i * 2, none⟩) hlt).trans c0, (hb.cell (p := ⟨b, off + i * 2 + 1, none⟩) hlt).trans c1⟩
theorem cellsOfSlField : Tryz.prog.cellsOf 31 = 1 := by kernel_rfl
theorem openrField {H : Type} {enc : TypeId × Value → H} {W : World} {k : Nat} {cs : List Value} {y : DataW H × List MemPlace}
    (h : DataW.trod enc Tryz.prog W 0 (fun _ => true) true k 31 cs = some y) :
    ∃ (ao : Option Addr) (l : List XField) (cap : Nat), cs = [.slice ao l.length cap] ∧ RowField W ao l ∧ l.length ≤ cap ∧ (l = [] ∨ ∃ es ss, y.1 = .slice es ss ∧ es.length = l.length) := by
  rcases open_slice Tryz.underlying31 h with ⟨rfl, rfl⟩ | ⟨a, len, cap, mm, nn, D, Pl, rfl, _, hl, hm, hmm, hx, hel⟩
  · exact ⟨none, [], 0, rfl, ⟨.inl rfl, by simp, by simp⟩, Nat.le_refl _, .inl rfl⟩
  · simp only [if_true] at hmm
    rw [cellsOfField] at hel
    obtain ⟨F, hF⟩ := choose_lt (α := XField) (n := mm) (p := fun i x => (W.cell? ((a.add (i * 2)).add 0) = some (.int .i64 x.tag) ∧ W.cell? ((a.add (i * 2)).add 1) = some (.int .i64 x.len)) ∧ okField W x) (fun i hi => by
      obtain ⟨cs', h1, h2⟩ := hel i hi
      obtain ⟨x, rfl, hok⟩ := opencField h2
      obtain ⟨_, _, hc⟩ := World.cells?_some h1
      exact ⟨x, ⟨hc 0 (by omega), hc 1 (by omega)⟩, hok⟩)
    refine ⟨some a, (List.range len).map F, cap, by simp, ⟨?_, ?_, by rw [List.length_map, List.length_range]; omega⟩, by rw [List.length_map, List.length_range]; exact hl, .inr ⟨_, _, by rw [hx], by simp⟩⟩
    · by_cases hl0 : len = 0
      · subst hl0; exact .inl rfl
      · obtain ⟨b, off, spot⟩ := a
        have hc0 := (hF 0 (by omega)).1.1
        have hspot : spot = none := by simpa [Addr.add] using World.cell?_spot hc0
        subst hspot
        refine .inr ⟨b, off, rfl, by simpa [Addr.add] using cell_ltR hc0, fun i x hi => ?_⟩
        have hi' : i < len := by
          rcases Nat.lt_or_ge i len with h | h
          · exact h
          · rw [List.getElem?_eq_none (by simpa using h)] at hi; cases hi
        rw [List.getElem?_map, List.getElem?_range hi'] at hi
        obtain rfl : F i = x := by simpa using hi
        have := (hF i (by omega)).1
        simp only [WideShapes.add_plain, Nat.add_zero] at this
        exact this
    · intro x hx
      obtain ⟨i, hi, rfl⟩ := List.mem_map.1 hx
      exact (hF i (by have : i < len := by simpa using hi
                      omega)).2
theorem openRField {H : Type} {enc : TypeId × Value → H} {W : World} {b0 : Nat} {r : Reach} {v : Value} {d : DataW H} {p : List MemPlace}
    (hv : Value.okWide Tryz.prog W r b0 31 v) (h : DataW.Trod enc Tryz.prog W 0 (fun _ => true) true 31 v d p) : ∃ (ao : Option Addr) (l : List XField) (cap : Nat), v = .slice ao l.length cap ∧ RowField W ao l ∧ (l = [] ∨ ∃ es ss, d = .slice es ss ∧ es.length = l.length) := by
  obtain ⟨a0, len, cap, rfl⟩ := okWide_slice Tryz.underlying31 hv
  obtain ⟨fuel, hf⟩ := h
  obtain ⟨ao, l, cap', hx, hr, _, hd⟩ := openrField hf
  simp [Value.cells] at hx
  obtain ⟨rfl, rfl, rfl⟩ := hx
  exact ⟨_, l, _, rfl, hr, hd⟩
structure XFile where
  id : ByteArray
  appso : Option Addr
  apps : List XApp
  appsc : Nat
  issuer : XCert
  card : XCert
  ways : XWays
  masks : XMasks
  rowo : Option Addr
  row : List XField
  rowc : Nat
deriving Inhabited
def valFile (x : XFile) : Value := .agg #[.string x.id, .slice x.appso x.apps.length x.appsc, .string x.issuer.sig, .string x.issuer.rest, .string x.card.sig, .string x.card.rest, .int .i64 x.ways.x, .int .i64 x.ways.y, .slice x.ways.listo x.ways.list.length x.ways.listc, .int .i64 x.masks.d, .int .i64 x.masks.o, .int .i64 x.masks.f, .slice x.rowo x.row.length x.rowc]
def okFile (W : World) (x : XFile) : Prop := x.id.size ≤ maxLen ∧ RowApp W x.appso x.apps ∧ okCert W x.issuer ∧ okCert W x.card ∧ okWays W x.ways ∧ okMasks W x.masks ∧ RowField W x.rowo x.row
theorem cellsOfFile : Tryz.prog.cellsOf 33 = 13 := by kernel_rfl
theorem okFile.below {W W' : World} {x : XFile} (h : okFile W x) (hb : Below W.heap.size W W') : okFile W' x := by
  obtain ⟨h0, h1, h2, h3, h4, h5, h6⟩ := h
  exact ⟨h0, h1.below hb, h2.below hb, h3.below hb, h4.below hb, h5.below hb, h6.below hb⟩
theorem opencFile {H : Type} {enc : TypeId × Value → H} {W : World} {k : Nat} {cs : List Value} {y : DataW H × List MemPlace}
    (h : DataW.trod enc Tryz.prog W 0 (fun _ => true) true k 33 cs = some y) :
    ∃ x : XFile, cs = [.string x.id, .slice x.appso x.apps.length x.appsc, .string x.issuer.sig, .string x.issuer.rest, .string x.card.sig, .string x.card.rest, .int .i64 x.ways.x, .int .i64 x.ways.y, .slice x.ways.listo x.ways.list.length x.ways.listc, .int .i64 x.masks.d, .int .i64 x.masks.o, .int .i64 x.masks.f, .slice x.rowo x.row.length x.rowc] ∧ okFile W x := by
  obtain ⟨xs, k', _, _, hsz, hlen, hq⟩ := DataW.trod_struct Tryz.underlying33 h
  rw [cellsOfFile] at hsz
  match cs, hsz with
  | [c0, c1, c2, c3, c4, c5, c6, c7, c8, c9, c10, c11, c12], _ =>
    match xs, hlen with
    | [y0, y1, y2, y3, y4, y5, y6], _ =>
      have h0 : DataW.trod enc Tryz.prog W 0 (fun _ => true) true k' 9 [c0] = some y0 := by simpa [cellsOfBool, cellsOfCert, cellsOfInt, cellsOfMasks, cellsOfSlApp, cellsOfSlField, cellsOfString, cellsOfWays] using hq 0 _ rfl
      obtain ⟨z0, e0, g0, w0⟩ := DataW.trod_string Tryz.underlying9 h0
      have h1 : DataW.trod enc Tryz.prog W 0 (fun _ => true) true k' 23 [c1] = some y1 := by simpa [cellsOfBool, cellsOfCert, cellsOfInt, cellsOfMasks, cellsOfSlApp, cellsOfSlField, cellsOfString, cellsOfWays] using hq 1 _ rfl
      obtain ⟨zo1, z1, zc1, e1, w1, wc1, _⟩ := openrApp h1
      have h2 : DataW.trod enc Tryz.prog W 0 (fun _ => true) true k' 25 [c2, c3] = some y2 := by simpa [cellsOfBool, cellsOfCert, cellsOfInt, cellsOfMasks, cellsOfSlApp, cellsOfSlField, cellsOfString, cellsOfWays] using hq 2 _ rfl
      obtain ⟨z2, e2, w2⟩ := opencCert h2
      have h3 : DataW.trod enc Tryz.prog W 0 (fun _ => true) true k' 25 [c4, c5] = some y3 := by simpa [cellsOfBool, cellsOfCert, cellsOfInt, cellsOfMasks, cellsOfSlApp, cellsOfSlField, cellsOfString, cellsOfWays] using hq 3 _ rfl
      obtain ⟨z3, e3, w3⟩ := opencCert h3
      have h4 : DataW.trod enc Tryz.prog W 0 (fun _ => true) true k' 28 [c6, c7, c8] = some y4 := by simpa [cellsOfBool, cellsOfCert, cellsOfInt, cellsOfMasks, cellsOfSlApp, cellsOfSlField, cellsOfString, cellsOfWays] using hq 4 _ rfl
      obtain ⟨z4, e4, w4⟩ := opencWays h4
      have h5 : DataW.trod enc Tryz.prog W 0 (fun _ => true) true k' 30 [c9, c10, c11] = some y5 := by simpa [cellsOfBool, cellsOfCert, cellsOfInt, cellsOfMasks, cellsOfSlApp, cellsOfSlField, cellsOfString, cellsOfWays] using hq 5 _ rfl
      obtain ⟨z5, e5, w5⟩ := opencMasks h5
      have h6 : DataW.trod enc Tryz.prog W 0 (fun _ => true) true k' 31 [c12] = some y6 := by simpa [cellsOfBool, cellsOfCert, cellsOfInt, cellsOfMasks, cellsOfSlApp, cellsOfSlField, cellsOfString, cellsOfWays] using hq 6 _ rfl
      obtain ⟨zo6, z6, zc6, e6, w6, wc6, _⟩ := openrField h6
      simp at e0 e1 e2 e3 e4 e5 e6
      subst e0
      subst e1
      obtain ⟨rfl, rfl⟩ := e2
      obtain ⟨rfl, rfl⟩ := e3
      obtain ⟨rfl, rfl, rfl⟩ := e4
      obtain ⟨rfl, rfl, rfl⟩ := e5
      subst e6
      exact ⟨⟨z0, zo1, z1, zc1, z2, z3, z4, z5, zo6, z6, zc6⟩, rfl, ⟨w0, w1, w2, w3, w4, w5, w6⟩⟩
theorem openFile {H : Type} {enc : TypeId × Value → H} {W : World} {b0 : Nat} {r : Reach} {v : Value} {d : DataW H} {p : List MemPlace}
    (hv : Value.okWide Tryz.prog W r b0 33 v) (h : DataW.Trod enc Tryz.prog W 0 (fun _ => true) true 33 v d p) : ∃ x : XFile, v = valFile x ∧ okFile W x := by
  obtain ⟨cs, rfl, hsz⟩ := okWide_struct Tryz.underlying33 hv
  obtain ⟨fuel, hf⟩ := h
  obtain ⟨x, hx, ho⟩ := opencFile hf
  obtain ⟨l⟩ := cs
  simp only [Value.cells] at hx
  subst hx
  exact ⟨x, rfl, ho⟩
def bulkFile (x : XFile) : Nat := x.id.size + x.apps.length + bulkCert x.issuer + bulkCert x.card + bulkWays x.ways + bulkMasks x.masks + x.row.length
theorem opencbFile {H : Type} {enc : TypeId × Value → H} {W : World} {k : Nat} {cs : List Value} {y : DataW H × List MemPlace}
    (h : DataW.trod enc Tryz.prog W 0 (fun _ => true) true k 33 cs = some y) :
    ∃ x : XFile, cs = [.string x.id, .slice x.appso x.apps.length x.appsc, .string x.issuer.sig, .string x.issuer.rest, .string x.card.sig, .string x.card.rest, .int .i64 x.ways.x, .int .i64 x.ways.y, .slice x.ways.listo x.ways.list.length x.ways.listc, .int .i64 x.masks.d, .int .i64 x.masks.o, .int .i64 x.masks.f, .slice x.rowo x.row.length x.rowc] ∧ okFile W x ∧ bulkFile x ≤ Rows.uptoBulk y.1 := by
  obtain ⟨xs, k', _, hagg, hsz, hlen, hq⟩ := DataW.trod_struct Tryz.underlying33 h
  rw [cellsOfFile] at hsz
  match cs, hsz with
  | [c0, c1, c2, c3, c4, c5, c6, c7, c8, c9, c10, c11, c12], _ =>
    match xs, hlen, hagg with
    | [y0, y1, y2, y3, y4, y5, y6], _, hagg =>
      have hbk := congrArg Rows.uptoBulk (Prod.ext_iff.1 hagg).1
      have h0 : DataW.trod enc Tryz.prog W 0 (fun _ => true) true k' 9 [c0] = some y0 := by simpa [cellsOfBool, cellsOfCert, cellsOfInt, cellsOfMasks, cellsOfSlApp, cellsOfSlField, cellsOfString, cellsOfWays] using hq 0 _ rfl
      obtain ⟨z0, e0, g0, w0⟩ := DataW.trod_string Tryz.underlying9 h0
      have l0 : z0.data.toList.length = z0.size := by simp
      subst g0
      have h1 : DataW.trod enc Tryz.prog W 0 (fun _ => true) true k' 23 [c1] = some y1 := by simpa [cellsOfBool, cellsOfCert, cellsOfInt, cellsOfMasks, cellsOfSlApp, cellsOfSlField, cellsOfString, cellsOfWays] using hq 1 _ rfl
      obtain ⟨zo1, z1, zc1, e1, w1, wc1, hl1⟩ := openrApp h1
      have b1 : z1.length ≤ Rows.uptoBulk y1.1 := by
        rcases hl1 with hd | ⟨es, ss, hd, hes⟩
        · rw [hd]; simp
        · rw [hd]
          simp only [Rows.uptoBulk]
          have := bulkAll_length (es := es)
          omega
      have h2 : DataW.trod enc Tryz.prog W 0 (fun _ => true) true k' 25 [c2, c3] = some y2 := by simpa [cellsOfBool, cellsOfCert, cellsOfInt, cellsOfMasks, cellsOfSlApp, cellsOfSlField, cellsOfString, cellsOfWays] using hq 2 _ rfl
      obtain ⟨z2, e2, w2, b2⟩ := opencbCert h2
      have h3 : DataW.trod enc Tryz.prog W 0 (fun _ => true) true k' 25 [c4, c5] = some y3 := by simpa [cellsOfBool, cellsOfCert, cellsOfInt, cellsOfMasks, cellsOfSlApp, cellsOfSlField, cellsOfString, cellsOfWays] using hq 3 _ rfl
      obtain ⟨z3, e3, w3, b3⟩ := opencbCert h3
      have h4 : DataW.trod enc Tryz.prog W 0 (fun _ => true) true k' 28 [c6, c7, c8] = some y4 := by simpa [cellsOfBool, cellsOfCert, cellsOfInt, cellsOfMasks, cellsOfSlApp, cellsOfSlField, cellsOfString, cellsOfWays] using hq 4 _ rfl
      obtain ⟨z4, e4, w4, b4⟩ := opencbWays h4
      have h5 : DataW.trod enc Tryz.prog W 0 (fun _ => true) true k' 30 [c9, c10, c11] = some y5 := by simpa [cellsOfBool, cellsOfCert, cellsOfInt, cellsOfMasks, cellsOfSlApp, cellsOfSlField, cellsOfString, cellsOfWays] using hq 5 _ rfl
      obtain ⟨z5, e5, w5, b5⟩ := opencbMasks h5
      have h6 : DataW.trod enc Tryz.prog W 0 (fun _ => true) true k' 31 [c12] = some y6 := by simpa [cellsOfBool, cellsOfCert, cellsOfInt, cellsOfMasks, cellsOfSlApp, cellsOfSlField, cellsOfString, cellsOfWays] using hq 6 _ rfl
      obtain ⟨zo6, z6, zc6, e6, w6, wc6, hl6⟩ := openrField h6
      have b6 : z6.length ≤ Rows.uptoBulk y6.1 := by
        rcases hl6 with hd | ⟨es, ss, hd, hes⟩
        · rw [hd]; simp
        · rw [hd]
          simp only [Rows.uptoBulk]
          have := bulkAll_length (es := es)
          omega
      simp at e0 e1 e2 e3 e4 e5 e6
      subst e0
      subst e1
      obtain ⟨rfl, rfl⟩ := e2
      obtain ⟨rfl, rfl⟩ := e3
      obtain ⟨rfl, rfl, rfl⟩ := e4
      obtain ⟨rfl, rfl, rfl⟩ := e5
      subst e6
      refine ⟨⟨z0, zo1, z1, zc1, z2, z3, z4, z5, zo6, z6, zc6⟩, rfl, ⟨w0, w1, w2, w3, w4, w5, w6⟩, ?_⟩
      simp only [List.map_cons, List.map_nil, Rows.uptoBulk, Rows.uptoBulkAll] at hbk
      rw [hbk]
      unfold bulkFile
      dsimp only
      omega
theorem openbFile {H : Type} {enc : TypeId × Value → H} {W : World} {b0 : Nat} {r : Reach} {v : Value} {d : DataW H} {p : List MemPlace}
    (hv : Value.okWide Tryz.prog W r b0 33 v) (h : DataW.Trod enc Tryz.prog W 0 (fun _ => true) true 33 v d p) : ∃ x : XFile, v = valFile x ∧ okFile W x ∧ bulkFile x ≤ Rows.uptoBulk d := by
  obtain ⟨cs, rfl, hsz⟩ := okWide_struct Tryz.underlying33 hv
  obtain ⟨fuel, hf⟩ := h
  obtain ⟨x, hx, ho, hb⟩ := opencbFile hf
  obtain ⟨l⟩ := cs
  simp only [Value.cells] at hx
  subst hx
  exact ⟨x, rfl, ho, hb⟩
structure XReply where
  kind : Int
  count : Int
  sl : ByteArray
  bound : XCert
deriving Inhabited
def valReply (x : XReply) : Value := .agg #[.int .i64 x.kind, .int .i64 x.count, .string x.sl, .string x.bound.sig, .string x.bound.rest]
def okReply (W : World) (x : XReply) : Prop := (-9223372036854775808 ≤ x.kind ∧ x.kind ≤ 9223372036854775807) ∧ (-9223372036854775808 ≤ x.count ∧ x.count ≤ 9223372036854775807) ∧ x.sl.size ≤ maxLen ∧ okCert W x.bound
theorem cellsOfReply : Tryz.prog.cellsOf 35 = 5 := by kernel_rfl
theorem okReply.below {W W' : World} {x : XReply} (h : okReply W x) (hb : Below W.heap.size W W') : okReply W' x := by
  obtain ⟨h0, h1, h2, h3⟩ := h
  exact ⟨h0, h1, h2, h3.below hb⟩
theorem opencReply {H : Type} {enc : TypeId × Value → H} {W : World} {k : Nat} {cs : List Value} {y : DataW H × List MemPlace}
    (h : DataW.trod enc Tryz.prog W 0 (fun _ => true) true k 35 cs = some y) :
    ∃ x : XReply, cs = [.int .i64 x.kind, .int .i64 x.count, .string x.sl, .string x.bound.sig, .string x.bound.rest] ∧ okReply W x := by
  obtain ⟨xs, k', _, _, hsz, hlen, hq⟩ := DataW.trod_struct Tryz.underlying35 h
  rw [cellsOfReply] at hsz
  match cs, hsz with
  | [c0, c1, c2, c3, c4], _ =>
    match xs, hlen with
    | [y0, y1, y2, y3], _ =>
      have h0 : DataW.trod enc Tryz.prog W 0 (fun _ => true) true k' 3 [c0] = some y0 := by simpa [cellsOfBool, cellsOfCert, cellsOfInt, cellsOfString] using hq 0 _ rfl
      obtain ⟨z0, e0, g0, w0⟩ := DataW.trod_int Tryz.underlying3 h0
      have h1 : DataW.trod enc Tryz.prog W 0 (fun _ => true) true k' 3 [c1] = some y1 := by simpa [cellsOfBool, cellsOfCert, cellsOfInt, cellsOfString] using hq 1 _ rfl
      obtain ⟨z1, e1, g1, w1⟩ := DataW.trod_int Tryz.underlying3 h1
      have h2 : DataW.trod enc Tryz.prog W 0 (fun _ => true) true k' 9 [c2] = some y2 := by simpa [cellsOfBool, cellsOfCert, cellsOfInt, cellsOfString] using hq 2 _ rfl
      obtain ⟨z2, e2, g2, w2⟩ := DataW.trod_string Tryz.underlying9 h2
      have h3 : DataW.trod enc Tryz.prog W 0 (fun _ => true) true k' 25 [c3, c4] = some y3 := by simpa [cellsOfBool, cellsOfCert, cellsOfInt, cellsOfString] using hq 3 _ rfl
      obtain ⟨z3, e3, w3⟩ := opencCert h3
      simp at e0 e1 e2 e3
      subst e0
      subst e1
      subst e2
      obtain ⟨rfl, rfl⟩ := e3
      exact ⟨⟨z0, z1, z2, z3⟩, rfl, ⟨bounds_i64 w0, bounds_i64 w1, w2, w3⟩⟩
theorem openReply {H : Type} {enc : TypeId × Value → H} {W : World} {b0 : Nat} {r : Reach} {v : Value} {d : DataW H} {p : List MemPlace}
    (hv : Value.okWide Tryz.prog W r b0 35 v) (h : DataW.Trod enc Tryz.prog W 0 (fun _ => true) true 35 v d p) : ∃ x : XReply, v = valReply x ∧ okReply W x := by
  obtain ⟨cs, rfl, hsz⟩ := okWide_struct Tryz.underlying35 hv
  obtain ⟨fuel, hf⟩ := h
  obtain ⟨x, hx, ho⟩ := opencReply hf
  obtain ⟨l⟩ := cs
  simp only [Value.cells] at hx
  subst hx
  exact ⟨x, rfl, ho⟩
def bulkReply (x : XReply) : Nat := x.sl.size + bulkCert x.bound
theorem opencbReply {H : Type} {enc : TypeId × Value → H} {W : World} {k : Nat} {cs : List Value} {y : DataW H × List MemPlace}
    (h : DataW.trod enc Tryz.prog W 0 (fun _ => true) true k 35 cs = some y) :
    ∃ x : XReply, cs = [.int .i64 x.kind, .int .i64 x.count, .string x.sl, .string x.bound.sig, .string x.bound.rest] ∧ okReply W x ∧ bulkReply x ≤ Rows.uptoBulk y.1 := by
  obtain ⟨xs, k', _, hagg, hsz, hlen, hq⟩ := DataW.trod_struct Tryz.underlying35 h
  rw [cellsOfReply] at hsz
  match cs, hsz with
  | [c0, c1, c2, c3, c4], _ =>
    match xs, hlen, hagg with
    | [y0, y1, y2, y3], _, hagg =>
      have hbk := congrArg Rows.uptoBulk (Prod.ext_iff.1 hagg).1
      have h0 : DataW.trod enc Tryz.prog W 0 (fun _ => true) true k' 3 [c0] = some y0 := by simpa [cellsOfBool, cellsOfCert, cellsOfInt, cellsOfString] using hq 0 _ rfl
      obtain ⟨z0, e0, g0, w0⟩ := DataW.trod_int Tryz.underlying3 h0
      subst g0
      have h1 : DataW.trod enc Tryz.prog W 0 (fun _ => true) true k' 3 [c1] = some y1 := by simpa [cellsOfBool, cellsOfCert, cellsOfInt, cellsOfString] using hq 1 _ rfl
      obtain ⟨z1, e1, g1, w1⟩ := DataW.trod_int Tryz.underlying3 h1
      subst g1
      have h2 : DataW.trod enc Tryz.prog W 0 (fun _ => true) true k' 9 [c2] = some y2 := by simpa [cellsOfBool, cellsOfCert, cellsOfInt, cellsOfString] using hq 2 _ rfl
      obtain ⟨z2, e2, g2, w2⟩ := DataW.trod_string Tryz.underlying9 h2
      have l2 : z2.data.toList.length = z2.size := by simp
      subst g2
      have h3 : DataW.trod enc Tryz.prog W 0 (fun _ => true) true k' 25 [c3, c4] = some y3 := by simpa [cellsOfBool, cellsOfCert, cellsOfInt, cellsOfString] using hq 3 _ rfl
      obtain ⟨z3, e3, w3, b3⟩ := opencbCert h3
      simp at e0 e1 e2 e3
      subst e0
      subst e1
      subst e2
      obtain ⟨rfl, rfl⟩ := e3
      refine ⟨⟨z0, z1, z2, z3⟩, rfl, ⟨bounds_i64 w0, bounds_i64 w1, w2, w3⟩, ?_⟩
      simp only [List.map_cons, List.map_nil, Rows.uptoBulk, Rows.uptoBulkAll] at hbk
      rw [hbk]
      unfold bulkReply
      dsimp only
      omega
theorem openbReply {H : Type} {enc : TypeId × Value → H} {W : World} {b0 : Nat} {r : Reach} {v : Value} {d : DataW H} {p : List MemPlace}
    (hv : Value.okWide Tryz.prog W r b0 35 v) (h : DataW.Trod enc Tryz.prog W 0 (fun _ => true) true 35 v d p) : ∃ x : XReply, v = valReply x ∧ okReply W x ∧ bulkReply x ≤ Rows.uptoBulk d := by
  obtain ⟨cs, rfl, hsz⟩ := okWide_struct Tryz.underlying35 hv
  obtain ⟨fuel, hf⟩ := h
  obtain ⟨x, hx, ho, hb⟩ := opencbReply hf
  obtain ⟨l⟩ := cs
  simp only [Value.cells] at hx
  subst hx
  exact ⟨x, rfl, ho, hb⟩
structure XAnswer where
  er : Int
  dO : Int
  appso : Option Addr
  apps : List XApp
  appsc : Nat
  count : Int
  last : Int
  left : Int
  file : XFile
  reply : XReply
deriving Inhabited
def valAnswer (x : XAnswer) : Value := .agg #[.int .i64 x.er, .int .i64 x.dO, .slice x.appso x.apps.length x.appsc, .int .i64 x.count, .int .i64 x.last, .int .i64 x.left, .string x.file.id, .slice x.file.appso x.file.apps.length x.file.appsc, .string x.file.issuer.sig, .string x.file.issuer.rest, .string x.file.card.sig, .string x.file.card.rest, .int .i64 x.file.ways.x, .int .i64 x.file.ways.y, .slice x.file.ways.listo x.file.ways.list.length x.file.ways.listc, .int .i64 x.file.masks.d, .int .i64 x.file.masks.o, .int .i64 x.file.masks.f, .slice x.file.rowo x.file.row.length x.file.rowc, .int .i64 x.reply.kind, .int .i64 x.reply.count, .string x.reply.sl, .string x.reply.bound.sig, .string x.reply.bound.rest]
def okAnswer (W : World) (x : XAnswer) : Prop := (-9223372036854775808 ≤ x.er ∧ x.er ≤ 9223372036854775807) ∧ (-9223372036854775808 ≤ x.dO ∧ x.dO ≤ 9223372036854775807) ∧ RowApp W x.appso x.apps ∧ (-9223372036854775808 ≤ x.count ∧ x.count ≤ 9223372036854775807) ∧ (-9223372036854775808 ≤ x.last ∧ x.last ≤ 9223372036854775807) ∧ (-9223372036854775808 ≤ x.left ∧ x.left ≤ 9223372036854775807) ∧ okFile W x.file ∧ okReply W x.reply
theorem cellsOfAnswer : Tryz.prog.cellsOf 37 = 24 := by kernel_rfl
theorem okAnswer.below {W W' : World} {x : XAnswer} (h : okAnswer W x) (hb : Below W.heap.size W W') : okAnswer W' x := by
  obtain ⟨h0, h1, h2, h3, h4, h5, h6, h7⟩ := h
  exact ⟨h0, h1, h2.below hb, h3, h4, h5, h6.below hb, h7.below hb⟩
theorem opencAnswer {H : Type} {enc : TypeId × Value → H} {W : World} {k : Nat} {cs : List Value} {y : DataW H × List MemPlace}
    (h : DataW.trod enc Tryz.prog W 0 (fun _ => true) true k 37 cs = some y) :
    ∃ x : XAnswer, cs = [.int .i64 x.er, .int .i64 x.dO, .slice x.appso x.apps.length x.appsc, .int .i64 x.count, .int .i64 x.last, .int .i64 x.left, .string x.file.id, .slice x.file.appso x.file.apps.length x.file.appsc, .string x.file.issuer.sig, .string x.file.issuer.rest, .string x.file.card.sig, .string x.file.card.rest, .int .i64 x.file.ways.x, .int .i64 x.file.ways.y, .slice x.file.ways.listo x.file.ways.list.length x.file.ways.listc, .int .i64 x.file.masks.d, .int .i64 x.file.masks.o, .int .i64 x.file.masks.f, .slice x.file.rowo x.file.row.length x.file.rowc, .int .i64 x.reply.kind, .int .i64 x.reply.count, .string x.reply.sl, .string x.reply.bound.sig, .string x.reply.bound.rest] ∧ okAnswer W x := by
  obtain ⟨xs, k', _, _, hsz, hlen, hq⟩ := DataW.trod_struct Tryz.underlying37 h
  rw [cellsOfAnswer] at hsz
  match cs, hsz with
  | [c0, c1, c2, c3, c4, c5, c6, c7, c8, c9, c10, c11, c12, c13, c14, c15, c16, c17, c18, c19, c20, c21, c22, c23], _ =>
    match xs, hlen with
    | [y0, y1, y2, y3, y4, y5, y6, y7], _ =>
      have h0 : DataW.trod enc Tryz.prog W 0 (fun _ => true) true k' 22 [c0] = some y0 := by simpa [cellsOfBool, cellsOfErrno, cellsOfFile, cellsOfInt, cellsOfReply, cellsOfSlApp, cellsOfString] using hq 0 _ rfl
      obtain ⟨z0, e0, g0, w0⟩ := DataW.trod_int Tryz.underlying22 h0
      have h1 : DataW.trod enc Tryz.prog W 0 (fun _ => true) true k' 3 [c1] = some y1 := by simpa [cellsOfBool, cellsOfErrno, cellsOfFile, cellsOfInt, cellsOfReply, cellsOfSlApp, cellsOfString] using hq 1 _ rfl
      obtain ⟨z1, e1, g1, w1⟩ := DataW.trod_int Tryz.underlying3 h1
      have h2 : DataW.trod enc Tryz.prog W 0 (fun _ => true) true k' 23 [c2] = some y2 := by simpa [cellsOfBool, cellsOfErrno, cellsOfFile, cellsOfInt, cellsOfReply, cellsOfSlApp, cellsOfString] using hq 2 _ rfl
      obtain ⟨zo2, z2, zc2, e2, w2, wc2, _⟩ := openrApp h2
      have h3 : DataW.trod enc Tryz.prog W 0 (fun _ => true) true k' 3 [c3] = some y3 := by simpa [cellsOfBool, cellsOfErrno, cellsOfFile, cellsOfInt, cellsOfReply, cellsOfSlApp, cellsOfString] using hq 3 _ rfl
      obtain ⟨z3, e3, g3, w3⟩ := DataW.trod_int Tryz.underlying3 h3
      have h4 : DataW.trod enc Tryz.prog W 0 (fun _ => true) true k' 3 [c4] = some y4 := by simpa [cellsOfBool, cellsOfErrno, cellsOfFile, cellsOfInt, cellsOfReply, cellsOfSlApp, cellsOfString] using hq 4 _ rfl
      obtain ⟨z4, e4, g4, w4⟩ := DataW.trod_int Tryz.underlying3 h4
      have h5 : DataW.trod enc Tryz.prog W 0 (fun _ => true) true k' 3 [c5] = some y5 := by simpa [cellsOfBool, cellsOfErrno, cellsOfFile, cellsOfInt, cellsOfReply, cellsOfSlApp, cellsOfString] using hq 5 _ rfl
      obtain ⟨z5, e5, g5, w5⟩ := DataW.trod_int Tryz.underlying3 h5
      have h6 : DataW.trod enc Tryz.prog W 0 (fun _ => true) true k' 33 [c6, c7, c8, c9, c10, c11, c12, c13, c14, c15, c16, c17, c18] = some y6 := by simpa [cellsOfBool, cellsOfErrno, cellsOfFile, cellsOfInt, cellsOfReply, cellsOfSlApp, cellsOfString] using hq 6 _ rfl
      obtain ⟨z6, e6, w6⟩ := opencFile h6
      have h7 : DataW.trod enc Tryz.prog W 0 (fun _ => true) true k' 35 [c19, c20, c21, c22, c23] = some y7 := by simpa [cellsOfBool, cellsOfErrno, cellsOfFile, cellsOfInt, cellsOfReply, cellsOfSlApp, cellsOfString] using hq 7 _ rfl
      obtain ⟨z7, e7, w7⟩ := opencReply h7
      simp at e0 e1 e2 e3 e4 e5 e6 e7
      subst e0
      subst e1
      subst e2
      subst e3
      subst e4
      subst e5
      obtain ⟨rfl, rfl, rfl, rfl, rfl, rfl, rfl, rfl, rfl, rfl, rfl, rfl, rfl⟩ := e6
      obtain ⟨rfl, rfl, rfl, rfl, rfl⟩ := e7
      exact ⟨⟨z0, z1, zo2, z2, zc2, z3, z4, z5, z6, z7⟩, rfl, ⟨bounds_i64 w0, bounds_i64 w1, w2, bounds_i64 w3, bounds_i64 w4, bounds_i64 w5, w6, w7⟩⟩
theorem openAnswer {H : Type} {enc : TypeId × Value → H} {W : World} {b0 : Nat} {r : Reach} {v : Value} {d : DataW H} {p : List MemPlace}
    (hv : Value.okWide Tryz.prog W r b0 37 v) (h : DataW.Trod enc Tryz.prog W 0 (fun _ => true) true 37 v d p) : ∃ x : XAnswer, v = valAnswer x ∧ okAnswer W x := by
  obtain ⟨cs, rfl, hsz⟩ := okWide_struct Tryz.underlying37 hv
  obtain ⟨fuel, hf⟩ := h
  obtain ⟨x, hx, ho⟩ := opencAnswer hf
  obtain ⟨l⟩ := cs
  simp only [Value.cells] at hx
  subst hx
  exact ⟨x, rfl, ho⟩
def bulkAnswer (x : XAnswer) : Nat := x.apps.length + bulkFile x.file + bulkReply x.reply
theorem opencbAnswer {H : Type} {enc : TypeId × Value → H} {W : World} {k : Nat} {cs : List Value} {y : DataW H × List MemPlace}
    (h : DataW.trod enc Tryz.prog W 0 (fun _ => true) true k 37 cs = some y) :
    ∃ x : XAnswer, cs = [.int .i64 x.er, .int .i64 x.dO, .slice x.appso x.apps.length x.appsc, .int .i64 x.count, .int .i64 x.last, .int .i64 x.left, .string x.file.id, .slice x.file.appso x.file.apps.length x.file.appsc, .string x.file.issuer.sig, .string x.file.issuer.rest, .string x.file.card.sig, .string x.file.card.rest, .int .i64 x.file.ways.x, .int .i64 x.file.ways.y, .slice x.file.ways.listo x.file.ways.list.length x.file.ways.listc, .int .i64 x.file.masks.d, .int .i64 x.file.masks.o, .int .i64 x.file.masks.f, .slice x.file.rowo x.file.row.length x.file.rowc, .int .i64 x.reply.kind, .int .i64 x.reply.count, .string x.reply.sl, .string x.reply.bound.sig, .string x.reply.bound.rest] ∧ okAnswer W x ∧ bulkAnswer x ≤ Rows.uptoBulk y.1 := by
  obtain ⟨xs, k', _, hagg, hsz, hlen, hq⟩ := DataW.trod_struct Tryz.underlying37 h
  rw [cellsOfAnswer] at hsz
  match cs, hsz with
  | [c0, c1, c2, c3, c4, c5, c6, c7, c8, c9, c10, c11, c12, c13, c14, c15, c16, c17, c18, c19, c20, c21, c22, c23], _ =>
    match xs, hlen, hagg with
    | [y0, y1, y2, y3, y4, y5, y6, y7], _, hagg =>
      have hbk := congrArg Rows.uptoBulk (Prod.ext_iff.1 hagg).1
      have h0 : DataW.trod enc Tryz.prog W 0 (fun _ => true) true k' 22 [c0] = some y0 := by simpa [cellsOfBool, cellsOfErrno, cellsOfFile, cellsOfInt, cellsOfReply, cellsOfSlApp, cellsOfString] using hq 0 _ rfl
      obtain ⟨z0, e0, g0, w0⟩ := DataW.trod_int Tryz.underlying22 h0
      subst g0
      have h1 : DataW.trod enc Tryz.prog W 0 (fun _ => true) true k' 3 [c1] = some y1 := by simpa [cellsOfBool, cellsOfErrno, cellsOfFile, cellsOfInt, cellsOfReply, cellsOfSlApp, cellsOfString] using hq 1 _ rfl
      obtain ⟨z1, e1, g1, w1⟩ := DataW.trod_int Tryz.underlying3 h1
      subst g1
      have h2 : DataW.trod enc Tryz.prog W 0 (fun _ => true) true k' 23 [c2] = some y2 := by simpa [cellsOfBool, cellsOfErrno, cellsOfFile, cellsOfInt, cellsOfReply, cellsOfSlApp, cellsOfString] using hq 2 _ rfl
      obtain ⟨zo2, z2, zc2, e2, w2, wc2, hl2⟩ := openrApp h2
      have b2 : z2.length ≤ Rows.uptoBulk y2.1 := by
        rcases hl2 with hd | ⟨es, ss, hd, hes⟩
        · rw [hd]; simp
        · rw [hd]
          simp only [Rows.uptoBulk]
          have := bulkAll_length (es := es)
          omega
      have h3 : DataW.trod enc Tryz.prog W 0 (fun _ => true) true k' 3 [c3] = some y3 := by simpa [cellsOfBool, cellsOfErrno, cellsOfFile, cellsOfInt, cellsOfReply, cellsOfSlApp, cellsOfString] using hq 3 _ rfl
      obtain ⟨z3, e3, g3, w3⟩ := DataW.trod_int Tryz.underlying3 h3
      subst g3
      have h4 : DataW.trod enc Tryz.prog W 0 (fun _ => true) true k' 3 [c4] = some y4 := by simpa [cellsOfBool, cellsOfErrno, cellsOfFile, cellsOfInt, cellsOfReply, cellsOfSlApp, cellsOfString] using hq 4 _ rfl
      obtain ⟨z4, e4, g4, w4⟩ := DataW.trod_int Tryz.underlying3 h4
      subst g4
      have h5 : DataW.trod enc Tryz.prog W 0 (fun _ => true) true k' 3 [c5] = some y5 := by simpa [cellsOfBool, cellsOfErrno, cellsOfFile, cellsOfInt, cellsOfReply, cellsOfSlApp, cellsOfString] using hq 5 _ rfl
      obtain ⟨z5, e5, g5, w5⟩ := DataW.trod_int Tryz.underlying3 h5
      subst g5
      have h6 : DataW.trod enc Tryz.prog W 0 (fun _ => true) true k' 33 [c6, c7, c8, c9, c10, c11, c12, c13, c14, c15, c16, c17, c18] = some y6 := by simpa [cellsOfBool, cellsOfErrno, cellsOfFile, cellsOfInt, cellsOfReply, cellsOfSlApp, cellsOfString] using hq 6 _ rfl
      obtain ⟨z6, e6, w6, b6⟩ := opencbFile h6
      have h7 : DataW.trod enc Tryz.prog W 0 (fun _ => true) true k' 35 [c19, c20, c21, c22, c23] = some y7 := by simpa [cellsOfBool, cellsOfErrno, cellsOfFile, cellsOfInt, cellsOfReply, cellsOfSlApp, cellsOfString] using hq 7 _ rfl
      obtain ⟨z7, e7, w7, b7⟩ := opencbReply h7
      simp at e0 e1 e2 e3 e4 e5 e6 e7
      subst e0
      subst e1
      subst e2
      subst e3
      subst e4
      subst e5
      obtain ⟨rfl, rfl, rfl, rfl, rfl, rfl, rfl, rfl, rfl, rfl, rfl, rfl, rfl⟩ := e6
      obtain ⟨rfl, rfl, rfl, rfl, rfl⟩ := e7
      refine ⟨⟨z0, z1, zo2, z2, zc2, z3, z4, z5, z6, z7⟩, rfl, ⟨bounds_i64 w0, bounds_i64 w1, w2, bounds_i64 w3, bounds_i64 w4, bounds_i64 w5, w6, w7⟩, ?_⟩
      simp only [List.map_cons, List.map_nil, Rows.uptoBulk, Rows.uptoBulkAll] at hbk
      rw [hbk]
      unfold bulkAnswer
      dsimp only
      omega
theorem openbAnswer {H : Type} {enc : TypeId × Value → H} {W : World} {b0 : Nat} {r : Reach} {v : Value} {d : DataW H} {p : List MemPlace}
    (hv : Value.okWide Tryz.prog W r b0 37 v) (h : DataW.Trod enc Tryz.prog W 0 (fun _ => true) true 37 v d p) : ∃ x : XAnswer, v = valAnswer x ∧ okAnswer W x ∧ bulkAnswer x ≤ Rows.uptoBulk d := by
  obtain ⟨cs, rfl, hsz⟩ := okWide_struct Tryz.underlying37 hv
  obtain ⟨fuel, hf⟩ := h
  obtain ⟨x, hx, ho, hb⟩ := opencbAnswer hf
  obtain ⟨l⟩ := cs
  simp only [Value.cells] at hx
  subst hx
  exact ⟨x, rfl, ho, hb⟩
def pairF (x : XField) : Int × Int := (x.tag, x.len)
def flOf (x : XFile) : Fl := ⟨x.id, x.appso, x.apps, x.appsc, x.issuer.sig, x.issuer.rest, x.card.sig, x.card.rest, x.ways, x.masks.d, x.masks.o, x.masks.f, x.rowo, x.row.map pairF, x.rowc⟩
def anOf (x : XAnswer) : An := ⟨x.er, x.dO, x.appso, x.apps, x.appsc, x.count, x.last, x.left, flOf x.file, x.reply.kind, x.reply.count, x.reply.sl, x.reply.bound.sig, x.reply.bound.rest⟩
theorem valAn (x : XAnswer) : valAnswer x = .agg (anC (anOf x)) := by
  have e : (x.file.row.map pairF).length = x.file.row.length := List.length_map ..
  show _ = Value.agg #[.int .i64 x.er, .int .i64 x.dO, .slice x.appso x.apps.length x.appsc, .int .i64 x.count, .int .i64 x.last, .int .i64 x.left, .string x.file.id, .slice x.file.appso x.file.apps.length x.file.appsc, .string x.file.issuer.sig, .string x.file.issuer.rest, .string x.file.card.sig, .string x.file.card.rest, .int .i64 x.file.ways.x, .int .i64 x.file.ways.y, .slice x.file.ways.listo x.file.ways.list.length x.file.ways.listc, .int .i64 x.file.masks.d, .int .i64 x.file.masks.o, .int .i64 x.file.masks.f, .slice x.file.rowo (x.file.row.map pairF).length x.file.rowc, .int .i64 x.reply.kind, .int .i64 x.reply.count, .string x.reply.sl, .string x.reply.bound.sig, .string x.reply.bound.rest]
  rw [e]; rfl
theorem frow_field {W : World} {ao : Option Addr} {l : List XField} (h : RowField W ao l) : FRow W ao (l.map pairF) := by
  obtain ⟨h, _, _⟩ := h
  rcases h with rfl | ⟨b, off, e, hlt, hc⟩
  · exact .inl rfl
  · refine .inr ⟨b, off, e, hlt, fun i hi => ?_⟩
    rw [List.length_map] at hi
    have hx : l[i]? = some l[i] := List.getElem?_eq_getElem hi
    obtain ⟨c0, c1⟩ := hc i _ hx
    have e2 : (l.map pairF).getD i (0, 0) = pairF l[i] := by
      rw [List.getD_eq_getElem?_getD, List.getElem?_map, hx]; rfl
    rw [e2]
    exact ⟨c0, c1⟩
theorem okAn {W : World} {x : XAnswer} (h : okAnswer W x) (hb : bulkAnswer x ≤ 1048576) : AnOK W (anOf x) ∧ anZ (anOf x) ≤ 1048576 := by
  obtain ⟨h1, h2, h3, h4, h5, h6, ⟨f1, f2, ⟨f3, f4⟩, ⟨f5, f6⟩, ⟨f7, f8, f9⟩, ⟨f10, f11, f12⟩, f13⟩, ⟨r1, r2, r3, r4⟩⟩ := h
  have hbb : x.apps.length + (x.file.id.size + x.file.apps.length + (x.file.issuer.sig.size + x.file.issuer.rest.size) + (x.file.card.sig.size + x.file.card.rest.size) + x.file.ways.list.length + 0 + x.file.row.length) + (x.reply.sl.size + (x.reply.bound.sig.size + x.reply.bound.rest.size)) ≤ 1048576 := hb
  refine ⟨⟨h3, ⟨f1, f2, f9, frow_field f13, fun f hf => ?_, ?_, f10.2, f11.2, f12.2⟩, h1.2, h2.2, h4.2, h5.2, h6.2, r1.2, r2.2⟩, ?_⟩
  · obtain ⟨y, hy, rfl⟩ := List.mem_map.1 (show f ∈ x.file.row.map pairF from hf)
    exact (f13.2.1 y hy).1.2
  · show ((x.file.row.map pairF).length : Int) ≤ 9000000000000
    rw [List.length_map]; omega
  · show x.file.issuer.sig.size + x.file.issuer.rest.size + x.file.card.sig.size + x.file.card.rest.size + x.reply.sl.size + x.reply.bound.sig.size + x.reply.bound.rest.size ≤ 1048576
    omega
end Go.Proofs.YtfpglpefofcdeaaGreatDoor
namespace Go.Proofs.YtfpglpefofcdeaaGreatDoor
open Go.RowKit
set_option linter.unusedVariables false
set_option linter.unusedSimpArgs false
set_option maxRecDepth 100000

/-- a command's cells -/
def cmdC (c : XCommand) : List Value := [.int .i64 c.dO, .string c.name, .string c.digits, .int .i64 c.want, .int .i64 c.deal.shop, .int .i64 c.deal.trace, .int .i64 c.deal.amount, .bool c.deal.cash, .int .i64 c.deal.day, .int .i64 c.deal.bits, .string c.deal.nonce, .string c.extra, .string c.answer, .string c.orders]
theorem cmdC_val (c : XCommand) : valCommand c = .agg (cmdC c).toArray := rfl
theorem cmdC_one (c : XCommand) : (cmdC c).toArray.all (·.oneCell') = true := by simp [cmdC, Value.oneCell']
theorem infoCmd : (Tryz.prog.info? 48).map (·.size) = some 14 := by kernel_rfl
/-- a struct's cells, unread -/
structure CellsT (L : List Value) (n : Nat) : Prop where
  len : L.length = n
  one : L.toArray.all (·.oneCell') = true
theorem CellsT.size {L : List Value} {n : Nat} (h : CellsT L n) : L.toArray.size = n := by rw [List.size_toArray]; exact h.len
theorem CellsT.info {L : List Value} {n : Nat} {P : Program} {t : TypeId} (h : CellsT L n) (hi : (P.info? t).map (·.size) = some n) : (P.info? t).map (·.size) = some L.length := by rw [h.len]; exact hi
theorem CellsT.info2 {L : List Value} {n : Nat} {P : Program} {t : TypeId} (h : CellsT L n) (hi : (P.info? t).map (·.size) = some n) : (P.info? t).map (·.size) = some L.toArray.size := by rw [h.size]; exact hi
theorem cmdC_cells (c : XCommand) : CellsT (cmdC c) 14 := ⟨rfl, cmdC_one c⟩
theorem anC_cells (a : An) : CellsT (anC a).toList 24 := ⟨rfl, anC_one a⟩
theorem anC_list (a : An) : Value.agg (anC a) = .agg (anC a).toList.toArray := rfl
theorem parsesE_le {s : ByteArray} (h : parsesE s = 0) : s.size ≤ 65535 := by
  unfold parsesE at h
  split at h
  · cases h
  · omega
theorem readC_back {c : XCommand} (h : commandE c = 0) (hw : c.want ≤ 9223372036854775807) : readCL comF (commandS c) = c ∧ readCE comF (commandS c) = 0 ∧ (commandS c).size ≤ maxLen := by
  have e := (com_back h hw).1
  have hp := (cmd_parts h).2.2.2.1
  have hz := parsesE_le hp
  unfold readCL readCE readC
  rw [e, if_pos ⟨h, rfl⟩]
  exact ⟨rfl, rfl, by unfold maxLen; omega⟩
theorem readC_cases (s : ByteArray) : (readCE comF s = 1 ∧ readCL comF s = zeroC) ∨ (readCE comF s = 0 ∧ commandE (readCL comF s) = 0 ∧ commandS (readCL comF s) = s) := by
  unfold readCE readCL readC
  by_cases h : commandE (comF s) = 0 ∧ commandS (comF s) = s
  · rw [if_pos h]; exact .inr ⟨rfl, h.1, h.2⟩
  · rw [if_neg h]; exact .inl ⟨rfl, rfl⟩
theorem readCL_ok (s : ByteArray) (W : World) : okCommand W (readCL comF s) ∧ bulkCommand (readCL comF s) ≤ 0x100000 := by
  have h0 : okCommand W zeroC ∧ bulkCommand zeroC ≤ 0x100000 :=
    ⟨⟨⟨by decide, by decide⟩, Nat.zero_le _, Nat.zero_le _, ⟨by decide, by decide⟩, ⟨⟨by decide, by decide⟩, ⟨by decide, by decide⟩, ⟨by decide, by decide⟩, ⟨by decide, by decide⟩, ⟨by decide, by decide⟩, Nat.zero_le _⟩, Nat.zero_le _, Nat.zero_le _, Nat.zero_le _⟩, by decide⟩
  have hF : okCommand W (comF s) ∧ bulkCommand (comF s) ≤ 0x100000 := by
    unfold comF
    split
    · exact comP_ok (parsesL s) W (parses_wt s)
    · exact h0
  unfold readCL readC
  split
  · exact hF
  · exact h0
theorem readW_cases (s : ByteArray) : (readWE s = 1 ∧ readWL s = anNil) ∨ (readWE s = 0 ∧ answerE (readWL s) = 0 ∧ answerS (readWL s) = s) := by
  cases h : readW s with
  | false => exact .inl ⟨(readW_no h).2, (readW_no h).1⟩
  | true =>
    obtain ⟨h1, h2⟩ := readW_yes h
    unfold readW at h
    obtain ⟨_, h3, h4⟩ := of_decide_eq_true h
    rw [h1, h2]
    exact .inr ⟨rfl, h3, h4⟩
theorem readWL_z (s : ByteArray) : anZ (readWL s) ≤ 1048576 := by
  unfold readWL
  cases readW s with
  | false => exact Nat.zero_le _
  | true => exact anP_z _ (parses_wt s)
theorem answer_size {a : An} (h : answerE a = 0) : (answerS a).size ≤ maxLen := by
  have := parsesE_le (ans_parts h).2.2.1
  unfold maxLen; omega
theorem cmd_neq (c : XCommand) (wx : World) : (binOp .neq 48 (.agg (cmdC c).toArray) (.agg (cmdC c).toArray)).run Tryz.prog wx = .ok (.bool false) wx := by
  rw [← cmdC_val, neq_command]; simp
theorem cmd_eql (c : XCommand) (wx : World) : (binOp .eql 48 (.agg (cmdC c).toArray) (.agg (cmdC c).toArray)).run Tryz.prog wx = .ok (.bool true) wx := by
  rw [← cmdC_val, eql_command]; simp
theorem cmd_guard (op : BinOp) (x y : Operand) (c d : XCommand) (wx : World) : (eqGuard op 48 x y (.agg (cmdC c).toArray) (.agg (cmdC d).toArray)).run Tryz.prog wx = .ok () wx := guard_lit op x y c d _ _ rfl rfl wx
end Go.Proofs.YtfpglpefofcdeaaGreatDoor
