/- Find of the reference, and the law's walk. -/
import Derived.Test.YtamamlpicookiahRPlain
namespace Go.Proofs.Ytamamlpicookiah
open Go.RowKit
set_option linter.unusedVariables false

def hasR (n : Int) (r : Raw) : Option ByteArray := if r.tag = n then some r.text else none
def hasI (n : Int) (x : It) : Option ByteArray := if x.tag = n then some x.text else none
theorem find_plain (n : Int) : ∀ (d : Nat) (l : List It), findD n d l = (plainD d l).findSome? (hasI n)
  | 0, l => by simp [findD, plainD]
  | d + 1, l => by
    induction l with
    | nil => rfl
    | cons x r ih =>
      have hd := find_plain n d x.list
      simp only [findD, plainD, List.findSome?_cons, List.flatMap_cons, List.findSome?_append] at ih ⊢
      rw [← ih]
      by_cases hm : madeV x.tag = true
      · rw [if_pos hm, ← hd]
        simp only [stepF, if_pos hm]
        cases findD n d x.list <;> rfl
      · rw [if_neg hm]
        simp only [stepF, if_neg hm, List.findSome?_cons, List.findSome?_nil, hasI]
        split <;> simp_all
theorem find_holds (n : Int) : ∀ (rs : List Raw) (l : List It), Holds rs l → rs.findSome? (hasR n) = l.findSome? (hasI n)
  | [], [], _ => rfl
  | [], x :: l, h => by simp [Holds] at h
  | r :: rs, [], h => by simp [Holds] at h
  | r :: rs, x :: l, h => by
    simp only [Holds, List.map_cons, List.cons.injEq, Prod.mk.injEq] at h
    have := find_holds n rs l h.2
    simp only [List.findSome?_cons, this, hasR, hasI, h.1.1, h.1.2]
theorem cellsR_get : ∀ (rs : List Raw) (i : Nat) (r : Raw), rs[i]? = some r → (cellsR rs)[i * 3]? = some (.int .i64 r.tag) ∧ (cellsR rs)[i * 3 + 1]? = some (.string r.text) ∧ (cellsR rs)[i * 3 + 2]? = some (.slice r.co r.n r.cc)
  | [], i, r, h => by simp at h
  | q :: rs, 0, r, h => by simp at h; subst h; simp [cellsR, Raw.cells]
  | q :: rs, i + 1, r, h => by
    have := cellsR_get rs i r (by simpa using h)
    have e : cellsR (q :: rs) = .int .i64 q.tag :: .string q.text :: .slice q.co q.n q.cc :: cellsR rs := by simp [cellsR, Raw.cells]
    rw [e, show (i + 1) * 3 = i * 3 + 1 + 1 + 1 by omega]
    simpa using this
/-- rows of items as they lie -/
def RRow (W : World) (ao : Option Addr) (rs : List Raw) : Prop :=
  rs = [] ∨ ∃ b, ao = some ⟨b, 0, none⟩ ∧ b < W.heap.size ∧ ∀ i r, rs[i]? = some r → W.cell? ⟨b, 0 + i * 3, none⟩ = some (.int .i64 r.tag) ∧ W.cell? ⟨b, 0 + i * 3 + 1, none⟩ = some (.string r.text) ∧ W.cell? ⟨b, 0 + i * 3 + 2, none⟩ = some (.slice r.co r.n r.cc)
theorem rrow_of_owns {w : World} {base : Nat} {v : Value} {rs : List Raw} {e : TypeId} (h : w.ownsRow base e 3 v rs.length (cellsR rs)) : ∃ ao cap, v = .slice ao rs.length cap ∧ RRow w ao rs := by
  rcases h.2 with ⟨h1, h2⟩ | ⟨g, cap, cur, h1, h2, h3, h4, h5, h6, h7⟩
  · exact ⟨none, 0, by rw [h1, h2], .inl (List.length_eq_zero_iff.1 h2)⟩
  · refine ⟨_, cap, h1, .inr ⟨g, rfl, (h.lt g (by rw [h1]; rfl)).2, fun i r hr => ?_⟩⟩
    have hc := cellsR_get rs i r hr
    have hk := h.cells (g := g) (by rw [h1]; rfl)
    have ea : ∀ k, (⟨g, 0, none⟩ : Addr).add k = ⟨g, 0 + k, none⟩ := fun k => by unfold Addr.add; split <;> simp_all
    have k1 := hk _ _ hc.1
    have k2 := hk _ _ hc.2.1
    have k3 := hk _ _ hc.2.2
    rw [ea] at k1 k2 k3
    exact ⟨k1, k2, k3⟩
theorem findR_next {f : Raw → Option ByteArray} {l : List Raw} {k : Nat} {x : Raw} (hx : l[k]? = some x) (h : (l.take k).findSome? f = none) (hf : f x = none) : (l.take (k + 1)).findSome? f = none := by
  have hk : k < l.length := by
    rcases Nat.lt_or_ge k l.length with h | h
    · exact h
    · rw [List.getElem?_eq_none h] at hx; cases hx
  rw [List.getElem?_eq_getElem hk] at hx
  rw [List.take_succ_eq_append_getElem hk, List.findSome?_append, h, Option.some.inj hx]
  simp [hf]
theorem findR_here {f : Raw → Option ByteArray} {l : List Raw} {k : Nat} {x : Raw} {t : ByteArray} (hx : l[k]? = some x) (h : (l.take k).findSome? f = none) (hf : f x = some t) : l.findSome? f = some t := by
  have hk : k < l.length := by
    rcases Nat.lt_or_ge k l.length with h | h
    · exact h
    · rw [List.getElem?_eq_none h] at hx; cases hx
  rw [List.getElem?_eq_getElem hk] at hx
  conv => lhs; rw [← List.take_append_drop (k + 1) l]
  rw [List.findSome?_append, List.take_succ_eq_append_getElem hk, List.findSome?_append, h, Option.some.inj hx]
  simp [hf]


end Go.Proofs.Ytamamlpicookiah
