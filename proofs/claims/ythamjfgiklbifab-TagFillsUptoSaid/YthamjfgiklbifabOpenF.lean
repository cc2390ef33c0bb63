/- A row of fields that is handed in, opened. -/
import Derived.Test.YthamjfgiklbifabFieldsW
import Derived.ProofKit
import Derived.OpenShut
import Derived.Deep.Slices
namespace Go.Proofs.Ythamjfgiklbifab
open Go.ChangeShapes Go.WideShapes Go.ChangeAt Go.RowKit Go.Deep
set_option linter.unusedVariables false

theorem cellsField : Try.prog.cellsOf 40 = 2 := by kernel_rfl
theorem cellsInt : Try.prog.cellsOf 3 = 1 := by kernel_rfl
theorem bytesField : Try.prog.bytesOf 40 = 16 := by kernel_rfl
theorem laidOutP : laidOutB Try.prog = true := by kernel_rfl

theorem cell_lt {w : World} {a : Addr} {v : Value} (h : w.cell? a = some v) : a.block < w.heap.size := by
  rcases Nat.lt_or_ge a.block w.heap.size with h1 | h1
  · exact h1
  · unfold World.cell? at h
    rw [Array.getElem?_eq_none h1] at h
    cases h

theorem open_field {H : Type} {enc : TypeId × Value → H} {W : World} {base : Nat} {spare : Nat → Bool} {held : Bool} {k : Nat} {cs : List Value} {y : DataW H × List MemPlace}
    (h : DataW.trod enc Try.prog W base spare held k 40 cs = some y) :
    ∃ t n : Int, cs = [.int .i64 t, .int .i64 n] ∧ (Lit.int .i64 t).wf = true ∧ (Lit.int .i64 n).wf = true := by
  obtain ⟨xs, k', _, _, hsz, hlen, hq⟩ := DataW.trod_struct Try.underlying40 h
  rw [cellsField] at hsz
  match cs, hsz with
  | [c0, c1], _ =>
    match xs, hlen with
    | [y0, y1], _ =>
      have h0 : DataW.trod enc Try.prog W base spare held k' 3 [c0] = some y0 := by simpa [cellsInt] using hq 0 _ rfl
      have h1 : DataW.trod enc Try.prog W base spare held k' 3 [c1] = some y1 := by simpa [cellsInt] using hq 1 _ rfl
      obtain ⟨t, e0, _, w0⟩ := DataW.trod_int Try.underlying3 h0
      obtain ⟨n, e1, _, w1⟩ := DataW.trod_int Try.underlying3 h1
      simp at e0 e1
      subst e0 e1
      exact ⟨t, n, rfl, w0, w1⟩

theorem open_fields {H : Type} {enc : TypeId × Value → H} {W : World} {held : Bool} {ao : Option Addr} {len cap : Nat} {d : DataW H} {p : List MemPlace}
    (h : DataW.Trod enc Try.prog W 0 (fun _ => true) held 34 (.slice ao len cap) d p) :
    ∃ fs : List (Int × Int), fs.length = len ∧ FRow W ao fs ∧ (∀ f ∈ fs, (Lit.int .i64 f.1).wf = true ∧ (Lit.int .i64 f.2).wf = true) ∧ (len = 0 ∨ ∃ es ss, d = .slice es ss ∧ es.length = len) := by
  obtain ⟨fuel, hf⟩ := h
  rcases open_slice Try.underlying34 hf with ⟨hcs, hx⟩ | ⟨a, len', cap', m, n, D, Pl, hcs, _, hl, hm, hmm, hx, hel⟩
  · simp [Value.cells] at hcs
    obtain ⟨rfl, rfl, rfl⟩ := hcs
    exact ⟨[], rfl, .inl rfl, by simp, .inl rfl⟩
  · simp [Value.cells] at hcs
    obtain ⟨rfl, rfl, rfl⟩ := hcs
    simp only [if_true] at hmm
    rw [cellsField] at hel
    obtain ⟨F, hF⟩ := choose_lt (α := Int × Int) (n := m) (p := fun i f => W.cell? (a.add (i * 2)) = some (.int .i64 f.1) ∧ W.cell? ((a.add (i * 2)).add 1) = some (.int .i64 f.2) ∧ (Lit.int .i64 f.1).wf = true ∧ (Lit.int .i64 f.2).wf = true) (fun i hi => by
      obtain ⟨cs', h1, h2⟩ := hel i hi
      obtain ⟨t, n, rfl, w0, w1⟩ := open_field h2
      obtain ⟨_, _, hc⟩ := World.cells?_some h1
      have c0 := hc 0 (by omega)
      have c1 := hc 1 (by omega)
      refine ⟨(t, n), ?_, c1, w0, w1⟩
      simpa [Addr.add] using c0)
    simp only [Prod.mk.injEq] at hx
    refine ⟨(List.range len).map F, by simp, ?_, ?_, .inr ⟨_, _, hx.1, by simp⟩⟩
    · by_cases hl0 : len = 0
      · subst hl0; exact .inl rfl
      · obtain ⟨b, off, spot⟩ := a
        have hc0 := (hF 0 (by omega)).1
        have hspot : spot = none := by simpa [Addr.add] using World.cell?_spot hc0
        subst hspot
        refine .inr ⟨b, off, rfl, by simpa [Addr.add] using cell_lt hc0, fun i hi => ?_⟩
        have hi' : i < len := by simpa using hi
        have := hF i (by omega)
        rw [WideShapes.add_plain, WideShapes.add_plain] at this
        have e : ((List.range len).map F).getD i (0, 0) = F i := by
          rw [List.getD_eq_getElem?_getD, List.getElem?_map, List.getElem?_range hi']; rfl
        rw [e]
        exact ⟨this.1, this.2.1⟩
    · intro f hf
      obtain ⟨i, hi, rfl⟩ := List.mem_map.1 hf
      have := hF i (by have : i < len := by simpa using hi
                       omega)
      exact this.2.2
end Go.Proofs.Ythamjfgiklbifab
