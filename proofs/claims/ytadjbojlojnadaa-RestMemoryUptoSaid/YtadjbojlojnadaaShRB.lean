/- Ways, scenes, risks that are handed in, opened, with how much they hold. -/
import Derived.Test.YtadjbojlojnadaaShR
import Derived.Test.YtadjbojlojnadaaRows
namespace Go.Proofs.Ytadjbojlojnadaa
open Go.ChangeShapes Go.WideShapes Go.ChangeAt Go.RowKit Go.Deep
set_option linter.unusedVariables false
set_option maxRecDepth 100000

theorem bulk_posR {H : Type} (d : DataW H) : 1 ≤ Rows.uptoBulk d := by
  cases d with
  | lit x => cases x <;> simp [Rows.uptoBulk]
  | _ => simp [Rows.uptoBulk]
theorem bulkAll_length {H : Type} {es : List (DataW H)} : es.length ≤ Rows.uptoBulkAll es := by
  induction es with
  | nil => simp
  | cons d r ih =>
    have := bulk_posR d
    simp only [Rows.uptoBulkAll, List.length_cons]
    omega


def bulkWays (x : XWays) : Nat := x.list.length
theorem opencbWays {H : Type} {enc : TypeId × Value → H} {W : World} {k : Nat} {cs : List Value} {y : DataW H × List MemPlace}
    (h : DataW.trod enc Try.prog W 0 (fun _ => true) true k 24 cs = some y) :
    ∃ x : XWays, cs = [.int .i64 x.x, .int .i64 x.y, .slice x.listo x.list.length x.listc] ∧ okWays W x ∧ bulkWays x ≤ Rows.uptoBulk y.1 := by
  obtain ⟨xs, k', _, hagg, hsz, hlen, hq⟩ := DataW.trod_struct Try.underlying24 h
  rw [cellsOfWays] at hsz
  match cs, hsz with
  | [c0, c1, c2], _ =>
    match xs, hlen, hagg with
    | [y0, y1, y2], _, hagg =>
      have hbk := congrArg Rows.uptoBulk (Prod.ext_iff.1 hagg).1
      have h0 : DataW.trod enc Try.prog W 0 (fun _ => true) true k' 3 [c0] = some y0 := by simpa [cellsOfBool, cellsOfInt, cellsOfSlWay, cellsOfString] using hq 0 _ rfl
      obtain ⟨z0, e0, g0, w0⟩ := DataW.trod_int Try.underlying3 h0
      subst g0
      have h1 : DataW.trod enc Try.prog W 0 (fun _ => true) true k' 3 [c1] = some y1 := by simpa [cellsOfBool, cellsOfInt, cellsOfSlWay, cellsOfString] using hq 1 _ rfl
      obtain ⟨z1, e1, g1, w1⟩ := DataW.trod_int Try.underlying3 h1
      subst g1
      have h2 : DataW.trod enc Try.prog W 0 (fun _ => true) true k' 22 [c2] = some y2 := by simpa [cellsOfBool, cellsOfInt, cellsOfSlWay, cellsOfString] using hq 2 _ rfl
      obtain ⟨zo2, z2, zc2, e2, w2, hl2⟩ := openrWay h2
      have b2 : z2.length ≤ Rows.uptoBulk y2.1 := by
        rcases hl2 with hd | ⟨es, ss, hd, hes⟩
        · rw [hd]; simp
        · rw [hd]
          simp only [Rows.uptoBulk]
          have := bulkAll_length (es := es)
          omega
      simp at e0 e1 e2
      subst e0
      subst e1
      subst e2
      refine ⟨⟨z0, z1, zo2, z2, zc2⟩, rfl, ⟨bounds_i64 w0, bounds_i64 w1, w2⟩, ?_⟩
      simp only [List.map_cons, List.map_nil, Rows.uptoBulk, Rows.uptoBulkAll] at hbk
      rw [hbk]
      unfold bulkWays
      dsimp only
      omega
theorem openbWays {H : Type} {enc : TypeId × Value → H} {W : World} {b0 : Nat} {r : Reach} {v : Value} {d : DataW H} {p : List MemPlace}
    (hv : Value.okWide Try.prog W r b0 24 v) (h : DataW.Trod enc Try.prog W 0 (fun _ => true) true 24 v d p) : ∃ x : XWays, v = valWays x ∧ okWays W x ∧ bulkWays x ≤ Rows.uptoBulk d := by
  obtain ⟨cs, rfl, hsz⟩ := okWide_struct Try.underlying24 hv
  obtain ⟨fuel, hf⟩ := h
  obtain ⟨x, hx, ho, hb⟩ := opencbWays hf
  obtain ⟨l⟩ := cs
  simp only [Value.cells] at hx
  subst hx
  exact ⟨x, rfl, ho, hb⟩

def bulkScene (x : XScene) : Nat := x.able.length + x.well.length
theorem opencbScene {H : Type} {enc : TypeId × Value → H} {W : World} {k : Nat} {cs : List Value} {y : DataW H × List MemPlace}
    (h : DataW.trod enc Try.prog W 0 (fun _ => true) true k 27 cs = some y) :
    ∃ x : XScene, cs = [.int .i64 x.amount, .bool x.cash, .slice x.ableo x.able.length x.ablec, .slice x.wello x.well.length x.wellc] ∧ okScene W x ∧ bulkScene x ≤ Rows.uptoBulk y.1 := by
  obtain ⟨xs, k', _, hagg, hsz, hlen, hq⟩ := DataW.trod_struct Try.underlying27 h
  rw [cellsOfScene] at hsz
  match cs, hsz with
  | [c0, c1, c2, c3], _ =>
    match xs, hlen, hagg with
    | [y0, y1, y2, y3], _, hagg =>
      have hbk := congrArg Rows.uptoBulk (Prod.ext_iff.1 hagg).1
      have h0 : DataW.trod enc Try.prog W 0 (fun _ => true) true k' 3 [c0] = some y0 := by simpa [cellsOfBool, cellsOfInt, cellsOfSlint, cellsOfString] using hq 0 _ rfl
      obtain ⟨z0, e0, g0, w0⟩ := DataW.trod_int Try.underlying3 h0
      subst g0
      have h1 : DataW.trod enc Try.prog W 0 (fun _ => true) true k' 4 [c1] = some y1 := by simpa [cellsOfBool, cellsOfInt, cellsOfSlint, cellsOfString] using hq 1 _ rfl
      obtain ⟨z1, e1, g1⟩ := DataW.trod_bool Try.underlying4 h1
      subst g1
      have h2 : DataW.trod enc Try.prog W 0 (fun _ => true) true k' 25 [c2] = some y2 := by simpa [cellsOfBool, cellsOfInt, cellsOfSlint, cellsOfString] using hq 2 _ rfl
      obtain ⟨zo2, z2, zc2, e2, w2, hl2⟩ := openrint h2
      have b2 : z2.length ≤ Rows.uptoBulk y2.1 := by
        rcases hl2 with hd | ⟨es, ss, hd, hes⟩
        · rw [hd]; simp
        · rw [hd]
          simp only [Rows.uptoBulk]
          have := bulkAll_length (es := es)
          omega
      have h3 : DataW.trod enc Try.prog W 0 (fun _ => true) true k' 25 [c3] = some y3 := by simpa [cellsOfBool, cellsOfInt, cellsOfSlint, cellsOfString] using hq 3 _ rfl
      obtain ⟨zo3, z3, zc3, e3, w3, hl3⟩ := openrint h3
      have b3 : z3.length ≤ Rows.uptoBulk y3.1 := by
        rcases hl3 with hd | ⟨es, ss, hd, hes⟩
        · rw [hd]; simp
        · rw [hd]
          simp only [Rows.uptoBulk]
          have := bulkAll_length (es := es)
          omega
      simp at e0 e1 e2 e3
      subst e0
      subst e1
      subst e2
      subst e3
      refine ⟨⟨z0, z1, zo2, z2, zc2, zo3, z3, zc3⟩, rfl, ⟨bounds_i64 w0, w2, w3⟩, ?_⟩
      simp only [List.map_cons, List.map_nil, Rows.uptoBulk, Rows.uptoBulkAll] at hbk
      rw [hbk]
      unfold bulkScene
      dsimp only
      omega
theorem openbScene {H : Type} {enc : TypeId × Value → H} {W : World} {b0 : Nat} {r : Reach} {v : Value} {d : DataW H} {p : List MemPlace}
    (hv : Value.okWide Try.prog W r b0 27 v) (h : DataW.Trod enc Try.prog W 0 (fun _ => true) true 27 v d p) : ∃ x : XScene, v = valScene x ∧ okScene W x ∧ bulkScene x ≤ Rows.uptoBulk d := by
  obtain ⟨cs, rfl, hsz⟩ := okWide_struct Try.underlying27 hv
  obtain ⟨fuel, hf⟩ := h
  obtain ⟨x, hx, ho, hb⟩ := opencbScene hf
  obtain ⟨l⟩ := cs
  simp only [Value.cells] at hx
  subst hx
  exact ⟨x, rfl, ho, hb⟩

def bulkRisk (x : XRisk) : Nat := x.black.length
theorem opencbRisk {H : Type} {enc : TypeId × Value → H} {W : World} {k : Nat} {cs : List Value} {y : DataW H × List MemPlace}
    (h : DataW.trod enc Try.prog W 0 (fun _ => true) true k 30 cs = some y) :
    ∃ x : XRisk, cs = [.int .i64 x.floor, .int .i64 x.frm, .int .i64 x.share, .int .i64 x.most, .int .i64 x.lower, .int .i64 x.upper, .slice x.blacko x.black.length x.blackc] ∧ okRisk W x ∧ bulkRisk x ≤ Rows.uptoBulk y.1 := by
  obtain ⟨xs, k', _, hagg, hsz, hlen, hq⟩ := DataW.trod_struct Try.underlying30 h
  rw [cellsOfRisk] at hsz
  match cs, hsz with
  | [c0, c1, c2, c3, c4, c5, c6], _ =>
    match xs, hlen, hagg with
    | [y0, y1, y2, y3, y4, y5, y6], _, hagg =>
      have hbk := congrArg Rows.uptoBulk (Prod.ext_iff.1 hagg).1
      have h0 : DataW.trod enc Try.prog W 0 (fun _ => true) true k' 3 [c0] = some y0 := by simpa [cellsOfBool, cellsOfInt, cellsOfSlstring, cellsOfString] using hq 0 _ rfl
      obtain ⟨z0, e0, g0, w0⟩ := DataW.trod_int Try.underlying3 h0
      subst g0
      have h1 : DataW.trod enc Try.prog W 0 (fun _ => true) true k' 3 [c1] = some y1 := by simpa [cellsOfBool, cellsOfInt, cellsOfSlstring, cellsOfString] using hq 1 _ rfl
      obtain ⟨z1, e1, g1, w1⟩ := DataW.trod_int Try.underlying3 h1
      subst g1
      have h2 : DataW.trod enc Try.prog W 0 (fun _ => true) true k' 3 [c2] = some y2 := by simpa [cellsOfBool, cellsOfInt, cellsOfSlstring, cellsOfString] using hq 2 _ rfl
      obtain ⟨z2, e2, g2, w2⟩ := DataW.trod_int Try.underlying3 h2
      subst g2
      have h3 : DataW.trod enc Try.prog W 0 (fun _ => true) true k' 3 [c3] = some y3 := by simpa [cellsOfBool, cellsOfInt, cellsOfSlstring, cellsOfString] using hq 3 _ rfl
      obtain ⟨z3, e3, g3, w3⟩ := DataW.trod_int Try.underlying3 h3
      subst g3
      have h4 : DataW.trod enc Try.prog W 0 (fun _ => true) true k' 3 [c4] = some y4 := by simpa [cellsOfBool, cellsOfInt, cellsOfSlstring, cellsOfString] using hq 4 _ rfl
      obtain ⟨z4, e4, g4, w4⟩ := DataW.trod_int Try.underlying3 h4
      subst g4
      have h5 : DataW.trod enc Try.prog W 0 (fun _ => true) true k' 3 [c5] = some y5 := by simpa [cellsOfBool, cellsOfInt, cellsOfSlstring, cellsOfString] using hq 5 _ rfl
      obtain ⟨z5, e5, g5, w5⟩ := DataW.trod_int Try.underlying3 h5
      subst g5
      have h6 : DataW.trod enc Try.prog W 0 (fun _ => true) true k' 28 [c6] = some y6 := by simpa [cellsOfBool, cellsOfInt, cellsOfSlstring, cellsOfString] using hq 6 _ rfl
      obtain ⟨zo6, z6, zc6, e6, w6, hl6⟩ := openrstring h6
      have b6 : z6.length ≤ Rows.uptoBulk y6.1 := by
        rcases hl6 with hd | ⟨es, ss, hd, hes⟩
        · rw [hd]; simp
        · rw [hd]
          simp only [Rows.uptoBulk]
          have := bulkAll_length (es := es)
          omega
      simp at e0 e1 e2 e3 e4 e5 e6
      subst e0
      subst e1
      subst e2
      subst e3
      subst e4
      subst e5
      subst e6
      refine ⟨⟨z0, z1, z2, z3, z4, z5, zo6, z6, zc6⟩, rfl, ⟨bounds_i64 w0, bounds_i64 w1, bounds_i64 w2, bounds_i64 w3, bounds_i64 w4, bounds_i64 w5, w6⟩, ?_⟩
      simp only [List.map_cons, List.map_nil, Rows.uptoBulk, Rows.uptoBulkAll] at hbk
      rw [hbk]
      unfold bulkRisk
      dsimp only
      omega
theorem openbRisk {H : Type} {enc : TypeId × Value → H} {W : World} {b0 : Nat} {r : Reach} {v : Value} {d : DataW H} {p : List MemPlace}
    (hv : Value.okWide Try.prog W r b0 30 v) (h : DataW.Trod enc Try.prog W 0 (fun _ => true) true 30 v d p) : ∃ x : XRisk, v = valRisk x ∧ okRisk W x ∧ bulkRisk x ≤ Rows.uptoBulk d := by
  obtain ⟨cs, rfl, hsz⟩ := okWide_struct Try.underlying30 hv
  obtain ⟨fuel, hf⟩ := h
  obtain ⟨x, hx, ho, hb⟩ := opencbRisk hf
  obtain ⟨l⟩ := cs
  simp only [Value.cells] at hx
  subst hx
  exact ⟨x, rfl, ho, hb⟩
end Go.Proofs.Ytadjbojlojnadaa
