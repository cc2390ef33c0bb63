/- cutLength of the program: the length at the beginning of a text. -/
import Derived.Test.YtfpglpefofcdeaaDoorM15
import Derived.Test.YtfpglpefofcdeaaDoorM06
import Derived.Test.YtfpglpefofcdeaaDoorM02
import Derived.Test.YtfpglpefofcdeaaDoorRows
import Derived.ProofKit
import Derived.OpenShut
import Derived.Deep.Slices
namespace Go.Proofs.YtfpglpefofcdeaaDoor
open Go.RowKit
set_option linter.unusedVariables false

/-- a length, and in how many bytes: of z bytes, the first three of them -/
def lenN (z x y t : Nat) : Option (Nat × Nat) :=
  if z = 0 then none else if x < 128 then some (x, 1)
  else if x = 129 ∧ 2 ≤ z then (if 128 ≤ y then some (y, 2) else none)
  else if x = 130 ∧ 3 ≤ z then (if 256 ≤ y * 256 + t then some (y * 256 + t, 3) else none) else none
def lenAt (s : ByteArray) : Option (Nat × Nat) := lenN s.size (byteAt s 0) (byteAt s 1) (byteAt s 2)
theorem lenN_spec {z x y t n k : Nat} (h : lenN z x y t = some (n, k)) : 1 ≤ k ∧ k ≤ z ∧ k ≤ 3 := by
  unfold lenN at h
  repeat' split at h
  all_goals first | (cases h; omega) | cases h
theorem lenAt_lt {s : ByteArray} {n k : Nat} (h : lenAt s = some (n, k)) : n < 65536 ∧ 1 ≤ k ∧ k ≤ s.size ∧ k ≤ 3 := by
  have h1 := byteAt_lt s 0
  have h2 := byteAt_lt s 1
  have h3 := byteAt_lt s 2
  have h4 := lenN_spec h
  refine ⟨?_, h4⟩
  unfold lenAt lenN at h
  repeat' split at h
  all_goals first | (cases h; omega) | cases h

def lenRet (r : Option (Nat × Nat)) (s : ByteArray) (e : Ending) : Prop :=
  match r with
  | some (n, k) => e = .returned (.tuple #[.int .i64 n, .string (s.extract k s.size), .bool true])
  | none => ∃ (m : Nat) (r : ByteArray), m < 65536 ∧ e = .returned (.tuple #[.int .i64 m, .string r, .bool false])

theorem len_ret {s : ByteArray} {n k : Nat} {a : Int} (h : a = (n : Int)) : Ending.returned (.tuple #[.int .i64 a, .string (s.extract k s.size), .bool true]) = .returned (.tuple #[.int .i64 n, .string (s.extract k s.size), .bool true]) := by rw [h]
theorem len_not {r : ByteArray} {m : Nat} {a : Int} (h : a = (m : Int)) : Ending.returned (.tuple #[.int .i64 a, .string r, .bool false]) = .returned (.tuple #[.int .i64 m, .string r, .bool false]) := by rw [h]

end Go.Proofs.YtfpglpefofcdeaaDoor
namespace Go.Proofs.YtfpglpefofcdeaaDoor
end Go.Proofs.YtfpglpefofcdeaaDoor
namespace Go.Proofs.YtfpglpefofcdeaaDoor
open Go.ChangeShapes Go.WideShapes Go.ChangeAt Go.RowKit Go.Deep
set_option linter.unusedVariables false

inductive It where
  | mk (tag : Int) (text : ByteArray) (list : List It)
def It.tag : It → Int | .mk t _ _ => t
def It.text : It → ByteArray | .mk _ s _ => s
def It.list : It → List It | .mk _ _ l => l
instance : Inhabited It := ⟨.mk 0 ⟨#[]⟩ []⟩

/-- item number i of a list at this place; R: of its own list -/
def IAt (W : World) (R : Option Addr → List It → Prop) (b off i : Nat) (x : It) : Prop :=
  ∃ co cc, W.cell? ⟨b, off + i * 3, none⟩ = some (.int .i64 x.tag) ∧ W.cell? ⟨b, off + i * 3 + 1, none⟩ = some (.string x.text) ∧
    W.cell? ⟨b, off + i * 3 + 2, none⟩ = some (.slice co x.list.length cc) ∧ x.list.length ≤ cc ∧ R co x.list ∧ x.tag ≤ 9223372036854775807 ∧ x.text.size ≤ maxLen
/-- a list of items that lies in memory, at most d deep -/
def IRow (W : World) : Nat → Option Addr → List It → Prop
  | 0, _, l => l = []
  | d + 1, ao, l => l = [] ∨ ∃ b off, ao = some ⟨b, off, none⟩ ∧ b < W.heap.size ∧ ∀ i x, l[i]? = some x → IAt W (IRow W d) b off i x
/-- how much a list holds -/
def wt : Nat → List It → Nat
  | 0, _ => 0
  | d + 1, l => (l.map fun x => 1 + x.text.size + wt d x.list).sum

theorem IRow.below {W W' : World} (hb : Below W.heap.size W W') : ∀ (d : Nat) {ao : Option Addr} {l : List It}, IRow W d ao l → IRow W' d ao l
  | 0, _, _, h => h
  | d + 1, _, _, h => by
    rcases h with h | ⟨b, off, rfl, hlt, hc⟩
    · exact .inl h
    · refine .inr ⟨b, off, rfl, Nat.lt_of_lt_of_le hlt hb.size, fun i x hx => ?_⟩
      obtain ⟨co, cc, h1, h2, h3, h4, h5, h6⟩ := hc i x hx
      exact ⟨co, cc, (hb.cell (p := ⟨b, off + i * 3, none⟩) hlt).trans h1, (hb.cell (p := ⟨b, off + i * 3 + 1, none⟩) hlt).trans h2, (hb.cell (p := ⟨b, off + i * 3 + 2, none⟩) hlt).trans h3, h4, IRow.below hb d h5, h6⟩

theorem sum_get {f : It → Nat} : ∀ {l : List It} {i : Nat} {x : It}, l[i]? = some x → f x ≤ (l.map f).sum
  | [], i, x, h => by simp at h
  | y :: r, 0, x, h => by simp at h; subst h; simp
  | y :: r, i + 1, x, h => by
    have := sum_get (f := f) (l := r) (i := i) (x := x) (by simpa using h)
    simp only [List.map_cons, List.sum_cons]
    omega
theorem wt_get {d : Nat} {l : List It} {i : Nat} {x : It} (h : l[i]? = some x) : 1 + x.text.size + wt d x.list ≤ wt (d + 1) l := sum_get (f := fun x => 1 + x.text.size + wt d x.list) h
theorem wt_length {d : Nat} : ∀ l : List It, l.length ≤ wt (d + 1) l
  | [] => by simp
  | x :: r => by
    have := wt_length (d := d) r
    simp only [wt, List.map_cons, List.sum_cons, List.length_cons] at this ⊢
    omega
theorem IRow.length_le {W : World} {d : Nat} {ao : Option Addr} {l : List It} (h : IRow W d ao l) : l.length ≤ wt d l := by
  cases d with
  | zero => rw [show l = [] from h]; exact Nat.zero_le _
  | succ d => exact wt_length l
theorem wt_nil (d : Nat) : wt d [] = 0 := by cases d <;> rfl
theorem IRow.nil (W : World) (d : Nat) (ao : Option Addr) : IRow W d ao [] := by
  cases d with
  | zero => rfl
  | succ d => exact .inl rfl

theorem cellsItem : Tryd.prog.cellsOf 123 = 3 := by kernel_rfl
theorem cellsIntI : Tryd.prog.cellsOf 3 = 1 := by kernel_rfl
theorem cellsStrI : Tryd.prog.cellsOf 9 = 1 := by kernel_rfl
theorem cellsItems : Tryd.prog.cellsOf 101 = 1 := by kernel_rfl
theorem bytesItem : Tryd.prog.bytesOf 123 = 48 := by kernel_rfl

theorem cell_ltI {w : World} {a : Addr} {v : Value} (h : w.cell? a = some v) : a.block < w.heap.size := by
  rcases Nat.lt_or_ge a.block w.heap.size with h1 | h1
  · exact h1
  · unfold World.cell? at h
    rw [Array.getElem?_eq_none h1] at h
    cases h

theorem bulk_pos {H : Type} (d : DataW H) : 1 ≤ Rows.uptoBulk d := by
  cases d with
  | lit l => cases l <;> simp [Rows.uptoBulk]
  | nil => simp [Rows.uptoBulk]
  | ptr d => simp [Rows.uptoBulk]
  | slice elems spare => simp [Rows.uptoBulk]
  | agg parts => simp [Rows.uptoBulk]
  | iface t d => simp [Rows.uptoBulk]
  | map entries => simp [Rows.uptoBulk]
  | held h => simp [Rows.uptoBulk]
theorem bulk_sum {H : Type} : ∀ l : List (DataW H), Rows.uptoBulkAll l = (l.map Rows.uptoBulk).sum
  | [] => by simp [Rows.uptoBulkAll]
  | x :: r => by simp [Rows.uptoBulkAll, bulk_sum r]
theorem bulk_mem {H : Type} {d : DataW H} {l : List (DataW H)} (h : d ∈ l) : Rows.uptoBulk d ≤ Rows.uptoBulkAll l := by
  induction l with
  | nil => cases h
  | cons x r ih =>
    simp only [Rows.uptoBulkAll]
    cases List.mem_cons.1 h with
    | inl e => subst e; omega
    | inr e => have := ih e; omega
theorem sum_le_sum {α : Type} (f g : α → Nat) : ∀ l : List α, (∀ x ∈ l, f x ≤ g x) → (l.map f).sum ≤ (l.map g).sum
  | [], _ => by simp
  | x :: r, h => by
    have := sum_le_sum f g r (fun y hy => h y (List.mem_cons_of_mem _ hy))
    have h1 := h x (List.mem_cons_self ..)
    simp only [List.map_cons, List.sum_cons]
    omega

set_option maxRecDepth 100000 in
set_option maxHeartbeats 1000000 in
/-- a list of items that was read, opened -/
theorem open_items {H : Type} {enc : TypeId × Value → H} {W : World} {held : Bool} : ∀ (N fuel : Nat) {cs : List Value} {y : DataW H × List MemPlace},
    DataW.trod enc Tryd.prog W 0 (fun _ => true) held fuel 101 cs = some y → Rows.uptoBulk y.1 ≤ N →
    ∃ (ao : Option Addr) (cap : Nat) (l : List It), cs = [.slice ao l.length cap] ∧ l.length ≤ cap ∧ IRow W N ao l ∧ wt N l + 1 ≤ Rows.uptoBulk y.1
  | 0, fuel, cs, y, h, hN => by have := bulk_pos y.1; omega
  | N + 1, fuel, cs, y, h, hN => by
    rcases open_slice Tryd.underlying101 h with ⟨rfl, rfl⟩ | ⟨a, len, cap, m, n, D, Pl, rfl, _, hl, hm, hmm, rfl, hel⟩
    · exact ⟨none, 0, [], rfl, Nat.le_refl _, .inl rfl, by simp [wt, Rows.uptoBulk]⟩
    · simp only [if_true] at hmm
      rw [cellsItem] at hel
      simp only [Rows.uptoBulk] at hN ⊢
      have hDi : ∀ i, i < len → Rows.uptoBulk (D i) ≤ Rows.uptoBulkAll ((List.range len).map D) := fun i hi => bulk_mem (List.mem_map.2 ⟨i, by simpa using hi, rfl⟩)
      obtain ⟨F, hF⟩ := choose_lt (α := It) (n := len) (p := fun i x => (∃ co cc, W.cell? (a.add (i * 3)) = some (.int .i64 x.tag) ∧ W.cell? ((a.add (i * 3)).add 1) = some (.string x.text) ∧ W.cell? ((a.add (i * 3)).add 2) = some (.slice co x.list.length cc) ∧ x.list.length ≤ cc ∧ IRow W N co x.list ∧ x.tag ≤ 9223372036854775807 ∧ x.text.size ≤ maxLen) ∧ 1 + x.text.size + wt N x.list ≤ Rows.uptoBulk (D i)) (fun i hi => by
        obtain ⟨cs', h1, h2⟩ := hel i (by omega)
        obtain ⟨xs, k', _, hagg, hsz, hlen, hq⟩ := DataW.trod_struct Tryd.underlying123 h2
        rw [cellsItem] at hsz
        obtain ⟨_, _, hc⟩ := World.cells?_some h1
        match cs', hsz, hc with
        | [c0, c1, c2], _, hc =>
          match xs, hlen, hagg with
          | [y0, y1, y2], _, hagg =>
            have g0 : DataW.trod enc Tryd.prog W 0 (fun _ => true) held k' 3 [c0] = some y0 := by simpa [cellsIntI] using hq 0 _ rfl
            have g1 : DataW.trod enc Tryd.prog W 0 (fun _ => true) held k' 9 [c1] = some y1 := by simpa [cellsStrI] using hq 1 _ rfl
            have g2 : DataW.trod enc Tryd.prog W 0 (fun _ => true) held k' 101 [c2] = some y2 := by simpa [cellsItems] using hq 2 _ rfl
            obtain ⟨t, e0, rfl, w0⟩ := DataW.trod_int Tryd.underlying3 g0
            obtain ⟨s, e1, rfl, w1⟩ := DataW.trod_string Tryd.underlying9 g1
            have hb : Rows.uptoBulk (D i) = s.size + Rows.uptoBulk y2.1 + 3 := by
              have hD : D i = _ := (Prod.ext_iff.1 hagg).1
              rw [hD]
              simp only [List.map_cons, List.map_nil, Rows.uptoBulk, Rows.uptoBulkAll]
              have : s.data.toList.length = s.size := by simp
              omega
            have hi2 := hDi i hi
            obtain ⟨co, cc, l, e2, hlc, hr, hw⟩ := open_items N k' g2 (by omega)
            simp at e0 e1 e2
            subst e0 e1 e2
            have c0 := hc 0 (by omega)
            have c1 := hc 1 (by omega)
            have c2 := hc 2 (by omega)
            refine ⟨.mk t s l, ⟨co, cc, by simpa [Addr.add, It.tag] using c0, c1, c2, hlc, hr, (bounds_i64 w0).2, w1⟩, ?_⟩
            simp only [It.text, It.list]
            omega)
      refine ⟨some a, cap, (List.range len).map F, by simp, by simpa using hl, ?_, ?_⟩
      · by_cases hl0 : len = 0
        · subst hl0; exact .inl rfl
        · obtain ⟨b, off, spot⟩ := a
          obtain ⟨⟨co, cc, hc0, _⟩, _⟩ := hF 0 (by omega)
          have hspot : spot = none := by simpa [Addr.add] using World.cell?_spot hc0
          subst hspot
          refine .inr ⟨b, off, rfl, by simpa [Addr.add] using cell_ltI hc0, fun i x hx => ?_⟩
          have hi' : i < len := by
            rcases Nat.lt_or_ge i len with h | h
            · exact h
            · rw [List.getElem?_eq_none (by simpa using h)] at hx; cases hx
          rw [List.getElem?_map, List.getElem?_range hi'] at hx
          simp at hx
          subst hx
          obtain ⟨⟨co, cc, k0, k1, k2, k3⟩, _⟩ := hF i hi'
          rw [WideShapes.add_plain] at k0 k1 k2
          rw [WideShapes.add_plain] at k1 k2
          exact ⟨co, cc, k0, k1, k2, k3⟩
      · have e1 : wt (N + 1) ((List.range len).map F) = ((List.range len).map fun i => 1 + (F i).text.size + wt N (F i).list).sum := by simp only [wt, List.map_map]; rfl
        have e2 : Rows.uptoBulkAll ((List.range len).map D) = ((List.range len).map fun i => Rows.uptoBulk (D i)).sum := by rw [bulk_sum, List.map_map]; rfl
        have := sum_le_sum (fun i => 1 + (F i).text.size + wt N (F i).list) (fun i => Rows.uptoBulk (D i)) (List.range len) (fun i hi => (hF i (by simpa using hi)).2)
        omega
end Go.Proofs.YtfpglpefofcdeaaDoor
