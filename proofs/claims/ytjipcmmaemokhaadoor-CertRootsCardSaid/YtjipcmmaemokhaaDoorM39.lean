/- Division word by word: behind what was taken away. (Made by wip/drafts/genKn.py.) -/
import Derived.Test.YtjipcmmaemokhaaDoorM38
import Derived.Deep.CutBlock
namespace Go.Proofs.YtjipcmmaemokhaaDoor
open Go.RowKit
set_option linter.unusedVariables false
set_option linter.unusedSimpArgs false
set_option maxRecDepth 1000000

/-- two blocks alone have changed -/
structure KTwo (B g h : Nat) (w w' : World) : Prop where
  b : Below B w w'
  o : ∀ k, k ≠ g → k ≠ h → w'.heap[k]? = w.heap[k]?
  z : w'.heap.size = w.heap.size
theorem KTwo.refl (B g h : Nat) (w : World) : KTwo B g h w w := ⟨Below.refl _ _, fun _ _ _ => rfl, rfl⟩
theorem KTwo.drew {B g h : Nat} {w w' : World} (k : KTwo B g h w w') : KTwo B g h w w'.drew := ⟨⟨k.b.1, k.b.2, k.b.3, k.b.4, k.b.5⟩, k.o, k.z⟩
theorem KTwo.set1 {B g h : Nat} {w w' : World} (k : KTwo B g h w w') (hB : B ≤ g) (i : Nat) (v : Value) : KTwo B g h w (w'.setCell ⟨g, i, none⟩ v) := ⟨k.b.setCell (p := ⟨g, i, none⟩) hB v, fun q h1 h2 => by rw [← k.o q h1 h2]; simp [World.setCell, Array.getElem?_modify, Ne.symm h1], by rw [← k.z]; simp⟩
theorem KTwo.set2 {B g h : Nat} {w w' : World} (k : KTwo B g h w w') (hB : B ≤ h) (i : Nat) (v : Value) : KTwo B g h w (w'.setCell ⟨h, i, none⟩ v) := ⟨k.b.setCell (p := ⟨h, i, none⟩) hB v, fun q h1 h2 => by rw [← k.o q h1 h2]; simp [World.setCell, Array.getElem?_modify, Ne.symm h2], by rw [← k.z]; simp⟩
theorem KTwo.trans {B g h : Nat} {w w' w'' : World} (k : KTwo B g h w w') (l : KTwo B g h w' w'') : KTwo B g h w w'' := ⟨k.b.trans l.b, fun q h1 h2 => (l.o q h1 h2).trans (k.o q h1 h2), l.z.trans k.z⟩
theorem KTwo.one {B g h : Nat} {w w' w'' : World} (k : KTwo B g h w w') (hB : B ≤ g) (l : KOnly g w' w'') : KTwo B g h w w'' := ⟨k.b.trans (l.b.mono hB), fun q h1 h2 => (l.o q h1).trans (k.o q h1 h2), l.z.trans k.z⟩
theorem VRow.only {g q : Nat} {w w' : World} {row : List Nat} (h : VRow w q row) (k : KOnly g w w') (hq : q ≠ g) : VRow w' q row := by
  unfold VRow at *; rw [k.o q hq]; exact h
theorem VRow.setO {g q i : Nat} {w : World} {row : List Nat} {v : Value} (h : VRow w q row) (hq : q ≠ g) : VRow (w.setCell ⟨g, i, none⟩ v) q row := by
  unfold VRow at *; rw [← h]; simp [World.setCell, Array.getElem?_modify, Ne.symm hq]
theorem WRow.two {B g h gv ov : Nat} {w w' : World} {vs : List Nat} (r : WRow w (some ⟨gv, ov, none⟩) vs) (k : KTwo B g h w w') (hg : gv ≠ g) (hh : gv ≠ h) : WRow w' (some ⟨gv, ov, none⟩) vs := by
  rcases r with r | ⟨g', off, e, hlt, hc⟩
  · exact .inl r
  · refine .inr ⟨g', off, e, by rw [k.z]; exact hlt, fun i x hi => ?_⟩
    have e2 : gv = g' := by simp at e; exact e.1
    have := hc i x hi
    unfold World.cell? at *
    rw [k.o g' (by rw [← e2]; exact hg) (by rw [← e2]; exact hh)]
    exact this
theorem right_nums {un c d g : Nat} (hu : un < 4294967296) (h : un = c + d) (hg : g < 4294967296) : ∃ s1 : Nat, IntKind.u64.wrap (un : Int) = (un : Int) ∧ IntKind.u64.wrap ((un : Int) - (c : Int)) = (s1 : Int) ∧ IntKind.u64.wrap ((s1 : Int) - (d : Int)) = 0 ∧ (g : Int) % 4294967296 = (g : Int) := by
  refine ⟨un - c, wraps_u64 _ (by omega) (by omega), ?_, ?_, by omega⟩
  · rw [wraps_u64 _ (by omega) (by omega)]; omega
  · rw [wraps_u64 _ (by omega) (by omega)]; omega
theorem back_nums {un c d g : Nat} (hu : un < 4294967296) (h : un + 1 = c + d) (hd : d ≤ 1) (hg : g < 4294967296) (hg1 : 1 ≤ g) : ∃ s1 g1 : Nat, g1 = g - 1 ∧ IntKind.u64.wrap (un : Int) = (un : Int) ∧ IntKind.u64.wrap ((un : Int) - (c : Int)) = (s1 : Int) ∧ IntKind.u64.wrap ((s1 : Int) - (d : Int)) = 18446744073709551615 ∧ IntKind.u64.wrap ((g : Int) - 1) = (g1 : Int) ∧ (g1 : Int) % 4294967296 = (g1 : Int) := by
  rcases (show d = 0 ∨ d = 1 by omega) with e | e
  · subst e
    refine ⟨18446744073709551615, g - 1, rfl, wraps_u64 _ (by omega) (by omega), ?_, wraps_u64 _ (by omega) (by omega), ?_, by omega⟩
    · rw [wrap_u64_mod]; omega
    · rw [wraps_u64 _ (by omega) (by omega)]; omega
  · subst e
    refine ⟨0, g - 1, rfl, wraps_u64 _ (by omega) (by omega), ?_, ?_, ?_, by omega⟩
    · rw [wrap_u64_mod]; omega
    · rw [wrap_u64_mod]; decide
    · rw [wraps_u64 _ (by omega) (by omega)]; omega
theorem j_nums {j n lu lq z p : Nat} (hp : p = j + n) (hl : ((j + n : Nat) : Int) ≤ 100000) (hlu : lu = j + n + 1 + z) (hq : j < lq) : IntKind.i64.wrap ((j : Int) + (n : Int)) = (p : Int) ∧ wrap64 ((j : Int) + (n : Int)) = (p : Int) ∧ (p : Int) < (lu : Int) ∧ (j : Int) < (lq : Int) := by
  have h1 : IntKind.i64.wrap ((j : Int) + (n : Int)) = (p : Int) := by rw [IntKind.wrap_i64]; omega
  exact ⟨h1, by rw [← h1, IntKind.wrap_i64]; unfold wrap64; omega, by omega, by omega⟩
theorem natV_pos_lt {vs : List Nat} {n : Nat} (h : okV vs) (hl : vs.length = n) : natV vs < B32 ^ n := by rw [← hl]; exact natV_lt h
end Go.Proofs.YtjipcmmaemokhaaDoor
namespace Go.Proofs.YtjipcmmaemokhaaDoor
open Go.RowKit
set_option linter.unusedVariables false
set_option linter.unusedSimpArgs false
set_option maxRecDepth 1000000

theorem take_nums {g v u c d : Nat} (hg : g < 4294967296) (hv : v < 4294967296) (hu : u < 4294967296) (hc : c < 4294967296) (hd : d ≤ 1) : ∃ gn c1 low c' t0 t r d' : Nat, c + g * v = low + c' * B32 ∧ r + low + d = u + d' * B32 ∧ IntKind.u64.wrap (v : Int) = (v : Int) ∧ IntKind.u64.wrap ((g : Int) * (v : Int)) = (gn : Int) ∧ IntKind.u64.wrap ((c : Int) + (gn : Int)) = (c1 : Int) ∧ IntKind.u64.wrap (u : Int) = (u : Int) ∧ (c1 : Int) % 4294967296 = (low : Int) ∧ IntKind.u64.wrap (low : Int) = (low : Int) ∧ IntKind.u64.wrap ((u : Int) - (low : Int)) = (t0 : Int) ∧ IntKind.u64.wrap ((t0 : Int) - (d : Int)) = (t : Int) ∧ (t : Int) % 4294967296 = (r : Int) ∧ (t : Int) / 9223372036854775808 = (d' : Int) ∧ (c1 : Int) / 4294967296 = (c' : Int) ∧ c' < 4294967296 ∧ d' ≤ 1 ∧ r < B32 := by
  have hgv : g * v ≤ 4294967295 * 4294967295 := Nat.mul_le_mul (by omega) (by omega)
  obtain ⟨gn, hgn⟩ : ∃ gn, gn = g * v := ⟨_, rfl⟩
  rw [← hgn] at hgv
  obtain ⟨t0, ht0, w0⟩ := u64_nat ((u : Int) - (((c + gn) % 4294967296 : Nat) : Int))
  obtain ⟨t, ht, wt⟩ := u64_nat ((t0 : Int) - (d : Int))
  refine ⟨gn, c + gn, (c + gn) % 4294967296, (c + gn) / 4294967296, t0, t, t % 4294967296, t / 9223372036854775808, ?_, ?_, wraps_u64 _ (by omega) (by omega), ?_, ?_, wraps_u64 _ (by omega) (by omega), by omega, wraps_u64 _ (by omega) (by omega), w0, wt, by omega, by omega, by omega, by omega, by omega, ?_⟩
  · rw [← hgn]; show c + gn = _ + _ * 4294967296; omega
  · show _ = u + _ * 4294967296; omega
  · rw [show (g : Int) * (v : Int) = (gn : Int) by rw [hgn]; exact (Int.natCast_mul _ _).symm]
    exact wraps_u64 _ (by omega) (by omega)
  · rw [wraps_u64 _ (by omega) (by omega)]; omega
  · show _ < 4294967296; omega
end Go.Proofs.YtjipcmmaemokhaaDoor
