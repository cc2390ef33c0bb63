/- plain of the reference. -/
import Derived.Test.YtolicaaifhfhcaaM31
import Derived.Test.YtolicaaifhfhcaaM04
import Derived.Laws.AppendOwn
import Derived.Laws.AppendOwnNone
import Derived.Deep.RegionWith
import Derived.Deep.CutBlock
import Derived.Deep.RegionHeld3
import Derived.Deep.DeepCutAuto
import Derived.Deep.AppendLies
namespace Go.Proofs.Ytolicaaifhfhcaa
open Go.RowKit
set_option linter.unusedVariables false

/-- all items that are not made of others -/
def plainD : Nat → List It → List It
  | 0, _ => []
  | d + 1, l => l.flatMap fun x => if madeV x.tag = true then plainD d x.list else [x]
theorem plain_len : ∀ (d : Nat) (l : List It), (plainD d l).length ≤ wt d l
  | 0, l => by simp [plainD]
  | d + 1, l => by
    induction l with
    | nil => simp [plainD]
    | cons x r ih =>
      have h := plain_len d x.list
      simp only [plainD, wt, List.flatMap_cons, List.map_cons, List.sum_cons, List.length_append] at ih ⊢
      split
      · omega
      · simp only [List.length_cons, List.length_nil]; omega

/-- an item as it lies: its own list's head beside it -/
structure Raw where
  tag : Int
  text : ByteArray
  co : Option Addr
  n : Nat
  cc : Nat
def Raw.cells (r : Raw) : List Value := [.int .i64 r.tag, .string r.text, .slice r.co r.n r.cc]
def cellsR (rs : List Raw) : List Value := rs.flatMap Raw.cells
theorem cellsR_append (a b : List Raw) : cellsR (a ++ b) = cellsR a ++ cellsR b := by simp [cellsR]
theorem cellsR_one (rs : List Raw) : ∀ u ∈ cellsR rs, u.oneCell' = true := by
  intro u hu
  obtain ⟨r, _, hr⟩ := List.mem_flatMap.1 hu
  simp only [Raw.cells, List.mem_cons, List.not_mem_nil, or_false] at hr
  rcases hr with rfl | rfl | rfl <;> rfl
theorem cellsR_length (rs : List Raw) : (cellsR rs).length = rs.length * 3 := by
  induction rs with
  | nil => rfl
  | cons r rs ih =>
    have e : cellsR (r :: rs) = r.cells ++ cellsR rs := by simp [cellsR]
    rw [e, List.length_append, ih, List.length_cons]
    simp only [Raw.cells, List.length_cons, List.length_nil]
    omega
/-- the rows hold these items' tags and texts -/
def Holds (rs : List Raw) (l : List It) : Prop := rs.map (fun r => (r.tag, r.text)) = l.map (fun x => (x.tag, x.text))

theorem ownsRow_kept {w w' : World} {base : Nat} {e : TypeId} {size : Nat} {v : Value} {n : Nat} {xs : List Value} (h : w.ownsRow base e size v n xs) (hb : Below w.heap.size w w') : w'.ownsRow base e size v n xs := by
  refine ⟨h.1, ?_⟩
  rcases h.2 with h0 | ⟨g, cap, cur, e1, e2, e3, e4⟩
  · exact .inl h0
  · refine .inr ⟨g, cap, cur, e1, e2, ?_, e4⟩
    have hg : g < w.heap.size := by
      rcases Nat.lt_or_ge g w.heap.size with h | h
      · exact h
      · rw [Array.getElem?_eq_none h] at e3; cases e3
    rw [hb.block g hg]; exact e3
theorem plain_take {d : Nat} {l : List It} {k : Nat} {x : It} (hx : l[k]? = some x) : plainD (d + 1) (l.take (k + 1)) = plainD (d + 1) (l.take k) ++ (if madeV x.tag = true then plainD d x.list else [x]) := by
  have hk : k < l.length := by
    rcases Nat.lt_or_ge k l.length with h | h
    · exact h
    · rw [List.getElem?_eq_none h] at hx; cases hx
  rw [List.getElem?_eq_getElem hk] at hx
  rw [List.take_succ_eq_append_getElem hk, Option.some.inj hx]
  simp [plainD]
theorem holds_append {a b : List Raw} {l m : List It} (h1 : Holds a l) (h2 : Holds b m) : Holds (a ++ b) (l ++ m) := by
  unfold Holds at *
  rw [List.map_append, List.map_append, h1, h2]
theorem holds_length {a : List Raw} {l : List It} (h : Holds a l) : a.length = l.length := by
  have := congrArg List.length h
  simpa using this
theorem wt_take {d : Nat} (l : List It) (k : Nat) : wt (d + 1) (l.take k) ≤ wt (d + 1) l := by
  conv => rhs; rw [← List.take_append_drop k l]
  simp only [wt, List.map_append, List.sum_append]
  omega

end Go.Proofs.Ytolicaaifhfhcaa
namespace Go.Proofs.Ytolicaaifhfhcaa
open Go.RowKit
set_option linter.unusedVariables false

def hasR (n : Int) (r : Raw) : Option ByteArray := if r.tag = n then some r.text else none
def hasI (n : Int) (x : It) : Option ByteArray := if x.tag = n then some x.text else none
theorem find_plain (n : Int) : ∀ (d : Nat) (l : List It), findD n d l = (plainD d l).findSome? (hasI n)
  | 0, l => by simp [findD, plainD]
  | d + 1, l => by
    induction l with
    | nil => rfl
    | cons x r ih =>
      have hd := find_plain n d x.list
      simp only [findD, plainD, List.findSome?_cons, List.flatMap_cons, List.findSome?_append] at ih ⊢
      rw [← ih]
      by_cases hm : madeV x.tag = true
      · rw [if_pos hm, ← hd]
        simp only [stepF, if_pos hm]
        cases findD n d x.list <;> rfl
      · rw [if_neg hm]
        simp only [stepF, if_neg hm, List.findSome?_cons, List.findSome?_nil, hasI]
        split <;> simp_all
theorem find_holds (n : Int) : ∀ (rs : List Raw) (l : List It), Holds rs l → rs.findSome? (hasR n) = l.findSome? (hasI n)
  | [], [], _ => rfl
  | [], x :: l, h => by simp [Holds] at h
  | r :: rs, [], h => by simp [Holds] at h
  | r :: rs, x :: l, h => by
    simp only [Holds, List.map_cons, List.cons.injEq, Prod.mk.injEq] at h
    have := find_holds n rs l h.2
    simp only [List.findSome?_cons, this, hasR, hasI, h.1.1, h.1.2]
theorem cellsR_get : ∀ (rs : List Raw) (i : Nat) (r : Raw), rs[i]? = some r → (cellsR rs)[i * 3]? = some (.int .i64 r.tag) ∧ (cellsR rs)[i * 3 + 1]? = some (.string r.text) ∧ (cellsR rs)[i * 3 + 2]? = some (.slice r.co r.n r.cc)
  | [], i, r, h => by simp at h
  | q :: rs, 0, r, h => by simp at h; subst h; simp [cellsR, Raw.cells]
  | q :: rs, i + 1, r, h => by
    have := cellsR_get rs i r (by simpa using h)
    have e : cellsR (q :: rs) = .int .i64 q.tag :: .string q.text :: .slice q.co q.n q.cc :: cellsR rs := by simp [cellsR, Raw.cells]
    rw [e, show (i + 1) * 3 = i * 3 + 1 + 1 + 1 by omega]
    simpa using this
/-- rows of items as they lie -/
def RRow (W : World) (ao : Option Addr) (rs : List Raw) : Prop :=
  rs = [] ∨ ∃ b, ao = some ⟨b, 0, none⟩ ∧ b < W.heap.size ∧ ∀ i r, rs[i]? = some r → W.cell? ⟨b, 0 + i * 3, none⟩ = some (.int .i64 r.tag) ∧ W.cell? ⟨b, 0 + i * 3 + 1, none⟩ = some (.string r.text) ∧ W.cell? ⟨b, 0 + i * 3 + 2, none⟩ = some (.slice r.co r.n r.cc)
theorem rrow_of_owns {w : World} {base : Nat} {v : Value} {rs : List Raw} {e : TypeId} (h : w.ownsRow base e 3 v rs.length (cellsR rs)) : ∃ ao cap, v = .slice ao rs.length cap ∧ RRow w ao rs := by
  rcases h.2 with ⟨h1, h2⟩ | ⟨g, cap, cur, h1, h2, h3, h4, h5, h6, h7⟩
  · exact ⟨none, 0, by rw [h1, h2], .inl (List.length_eq_zero_iff.1 h2)⟩
  · refine ⟨_, cap, h1, .inr ⟨g, rfl, (h.lt g (by rw [h1]; rfl)).2, fun i r hr => ?_⟩⟩
    have hc := cellsR_get rs i r hr
    have hk := h.cells (g := g) (by rw [h1]; rfl)
    have ea : ∀ k, (⟨g, 0, none⟩ : Addr).add k = ⟨g, 0 + k, none⟩ := fun k => by unfold Addr.add; split <;> simp_all
    have k1 := hk _ _ hc.1
    have k2 := hk _ _ hc.2.1
    have k3 := hk _ _ hc.2.2
    rw [ea] at k1 k2 k3
    exact ⟨k1, k2, k3⟩
theorem findR_next {f : Raw → Option ByteArray} {l : List Raw} {k : Nat} {x : Raw} (hx : l[k]? = some x) (h : (l.take k).findSome? f = none) (hf : f x = none) : (l.take (k + 1)).findSome? f = none := by
  have hk : k < l.length := by
    rcases Nat.lt_or_ge k l.length with h | h
    · exact h
    · rw [List.getElem?_eq_none h] at hx; cases hx
  rw [List.getElem?_eq_getElem hk] at hx
  rw [List.take_succ_eq_append_getElem hk, List.findSome?_append, h, Option.some.inj hx]
  simp [hf]
theorem findR_here {f : Raw → Option ByteArray} {l : List Raw} {k : Nat} {x : Raw} {t : ByteArray} (hx : l[k]? = some x) (h : (l.take k).findSome? f = none) (hf : f x = some t) : l.findSome? f = some t := by
  have hk : k < l.length := by
    rcases Nat.lt_or_ge k l.length with h | h
    · exact h
    · rw [List.getElem?_eq_none h] at hx; cases hx
  rw [List.getElem?_eq_getElem hk] at hx
  conv => lhs; rw [← List.take_append_drop (k + 1) l]
  rw [List.findSome?_append, List.take_succ_eq_append_getElem hk, List.findSome?_append, h, Option.some.inj hx]
  simp [hf]


end Go.Proofs.Ytolicaaifhfhcaa
namespace Go.Proofs.Ytolicaaifhfhcaa
open Go.RowKit
set_option linter.unusedVariables false

/-- rows as they lie, and the items that they are -/
def RHold (W : World) (A : Nat → Prop) (d : Nat) (rs : List Raw) (acc : List It) : Prop :=
  rs.length = acc.length ∧ ∀ (i : Nat) (r : Raw) (x : It), rs[i]? = some r → acc[i]? = some x → r.tag = x.tag ∧ r.text = x.text ∧ r.n = x.list.length ∧ r.n ≤ r.cc ∧ IRowA W A d r.co x.list ∧ x.tag ≤ 9223372036854775807 ∧ x.text.size ≤ maxLen
theorem RHold.kept {W W' : World} {A A' : Nat → Prop} (hs : W.heap.size ≤ W'.heap.size) (hk : ∀ b, b < W.heap.size → A b → W'.heap[b]? = W.heap[b]? ∧ A' b) {d : Nat} {rs : List Raw} {acc : List It} (h : RHold W A d rs acc) : RHold W' A' d rs acc :=
  ⟨h.1, fun i r x hr hx => by
    obtain ⟨h1, h2, h3, h4, h5, h6⟩ := h.2 i r x hr hx
    exact ⟨h1, h2, h3, h4, IRowA.kept hs hk d h5, h6⟩⟩
theorem RHold.snoc {W : World} {A : Nat → Prop} {d : Nat} {rs : List Raw} {acc : List It} (h : RHold W A d rs acc) {r : Raw} {x : It} (h1 : r.tag = x.tag) (h2 : r.text = x.text) (h3 : r.n = x.list.length) (h4 : r.n ≤ r.cc) (h5 : IRowA W A d r.co x.list) (h6 : x.tag ≤ 9223372036854775807) (h7 : x.text.size ≤ maxLen) : RHold W A d (rs ++ [r]) (acc ++ [x]) := by
  refine ⟨by simp [h.1], fun i r' x' hr hx => ?_⟩
  rcases Nat.lt_trichotomy i rs.length with hi | hi | hi
  · rw [List.getElem?_append_left hi] at hr
    rw [List.getElem?_append_left (by rw [← h.1]; exact hi)] at hx
    exact h.2 i r' x' hr hx
  · rw [List.getElem?_append_right (by omega), hi, Nat.sub_self] at hr
    rw [List.getElem?_append_right (by rw [← h.1]; omega), hi, ← h.1, Nat.sub_self] at hx
    simp at hr hx
    subst hr hx
    exact ⟨h1, h2, h3, h4, h5, h6, h7⟩
  · rw [List.getElem?_eq_none (by simp; omega)] at hr
    cases hr
theorem irow_of_raw {W : World} {base d : Nat} {v : Value} {rs : List Raw} {acc : List It} {e : TypeId} {A : Nat → Prop} (hA : ∀ b, A b → base ≤ b) (h : W.ownsRow base e 3 v rs.length (cellsR rs)) (hr : RHold W A d rs acc) :
    ∃ ao cap, v = .slice ao acc.length cap ∧ acc.length ≤ cap ∧ IRowA W (fun b => base ≤ b) (d + 1) ao acc := by
  rcases h.2 with ⟨h1, h2⟩ | ⟨g, cap, cur, h1, h2, h3, h4, h5, h6, h7⟩
  · have : acc = [] := List.length_eq_zero_iff.1 (hr.1 ▸ h2)
    subst this
    exact ⟨none, 0, h1, Nat.le_refl _, .inl rfl⟩
  · refine ⟨some ⟨g, 0, none⟩, cap, by rw [h1, hr.1], by rw [← hr.1]; exact h4, .inr ⟨g, 0, rfl, (h.lt g (by rw [h1]; rfl)).2, h2, fun i x hx => ?_⟩⟩
    have hi : i < rs.length := by
      rw [hr.1]
      rcases Nat.lt_or_ge i acc.length with h | h
      · exact h
      · rw [List.getElem?_eq_none h] at hx; cases hx
    obtain ⟨k1, k2, k3, k4, k5, k6, k7⟩ := hr.2 i rs[i] x (List.getElem?_eq_getElem hi) hx
    have hc := cellsR_get rs i rs[i] (List.getElem?_eq_getElem hi)
    have hk := h.cells (g := g) (by rw [h1]; rfl)
    have ea : ∀ k, (⟨g, 0, none⟩ : Addr).add k = ⟨g, 0 + k, none⟩ := fun k => by unfold Addr.add; split <;> simp_all
    have c1 := hk _ _ hc.1
    have c2 := hk _ _ hc.2.1
    have c3 := hk _ _ hc.2.2
    rw [ea] at c1 c2 c3
    rw [k1] at c1
    rw [k2] at c2
    rw [k3] at c3 k4
    exact ⟨rs[i].co, rs[i].cc, c1, c2, c3, k4, IRowA.mono (fun b _ hb => hA b hb) d k5, k6, k7⟩

theorem item_ok {P : ByteArray → Option (List It)} {s : ByteArray} {x : It} {r : ByteArray} (h : itemAt P s = some (x, r)) : 0 ≤ x.tag ∧ x.tag < 16777216 ∧ x.text.size ≤ s.size := by
  have hm := valN_take3 s (tagSz s.data.toList) (tagSz_le s.data.toList).2
  have ht : tagAt s = valN (s.data.toList.take (tagSz s.data.toList)) := rfl
  rw [← ht] at hm
  unfold itemAt at h
  split at h
  · cases h
  · split at h
    · cases h
    · split at h
      · cases h
      · rename_i n k hl
        split at h
        · cases h
        · split at h
          · cases hp : P ((behind (behind s (tagSz s.data.toList)) k).extract 0 n) with
            | none => rw [hp] at h; cases h
            | some l =>
              rw [hp] at h
              have := (Prod.ext_iff.1 (Option.some.inj h)).1
              simp only at this
              rw [← this]
              exact ⟨by simp [It.tag], by simp only [It.tag]; omega, Nat.zero_le _⟩
          · have := (Prod.ext_iff.1 (Option.some.inj h)).1
            simp only at this
            rw [← this]
            refine ⟨by simp [It.tag], by simp only [It.tag]; omega, ?_⟩
            simp only [It.text]
            rw [ByteArray.size_extract, behind_size, behind_size]
            omega

/-- where the reading stands -/
def PAt (P : ByteArray → Option (List It)) (s : ByteArray) (acc : List It) (s' : ByteArray) : Prop := listP P s.size s = (listP P (s.size - acc.length) s').map (acc ++ ·)
theorem empty_of {s : ByteArray} (h : s.size = 0) : s.toList.isEmpty = true := by
  rw [Lib.toList_data]
  have : s.data.toList.length = 0 := by simpa using h
  rw [List.length_eq_zero_iff.1 this]; rfl
theorem full_of {s : ByteArray} (h : s.size ≠ 0) : s.toList.isEmpty = false := by
  rw [Lib.toList_data]
  cases hq : s.data.toList with
  | nil => have : s.data.toList.length = s.size := by simp
           rw [hq] at this; simp at this; omega
  | cons a b => rfl
def strLenI : Value → Nat | .string s => s.size | _ => 0
theorem listP_step {P : ByteArray → Option (List It)} {f : Nat} {s : ByteArray} (hz : s.size ≠ 0) : listP P (f + 1) s = match itemAt P s with | none => none | some (x, r) => (listP P f r).map (x :: ·) := by
  rw [listP, if_neg hz]
  rfl
theorem three_new2 (w : World) (o : Obj) (x y z : Value) (e : TypeId) : ∀ j u, [x, y, z][j]? = some u → ((w.alloc o).alloc (.cells #[x, y, z] e)).cell? ((⟨w.heap.size + 1, 0, none⟩ : Addr).add j) = some u := by
  have := three_new (w.alloc o) x y z e
  rw [show (w.alloc o).heap.size = w.heap.size + 1 by simp] at this
  exact this
theorem listP_empty (P : ByteArray → Option (List It)) (f : Nat) {s : ByteArray} (h : s.size = 0) : listP P f s = some [] := by cases f <;> simp [listP, h]

end Go.Proofs.Ytolicaaifhfhcaa
