/- Rows of things that the library's sort has sorted. -/
import Derived.Test.YtdameincehiieaaRow0
import Derived.Shelf.SlSortCmp.WholeK
namespace Go.Proofs.Ytdameincehiieaa
open Go.RowKit Go.Sort
set_option linter.unusedVariables false

section
variable {α : Type} [Inhabited α] {w : World} {base : Nat} {e : TypeId} {m : Nat} {c : α → List Value} {l : List α}
theorem flat_at (hc : ∀ x, (c x).length = m) (d : Array α) (t : Nat) (ht : t < d.size * m) : (rowC c d.toList)[t]? = some (flatK c m d)[t]! := by
  have m0 : 0 < m := by rcases Nat.eq_zero_or_pos m with h | h; · subst h; simp at ht
                        · exact h
  have hi : t / m < d.size := (Nat.div_lt_iff_lt_mul m0).2 ht
  have hx : d.toList[t / m]? = some d[t / m]! := by rw [Array.getElem?_toList, Array.getElem?_eq_getElem hi, getElem!_pos d _ hi]
  have h := rowC_at hc d.toList (t / m) (t % m) _ hx (Nat.mod_lt _ m0)
  rw [Nat.div_add_mod'] at h
  rw [h, get_flatK _ _ _ _ ht]
  have hl : t % m < (c d[t / m]!).length := by rw [hc]; exact Nat.mod_lt _ m0
  rw [List.getElem?_eq_getElem hl, getElem!_pos (c d[t / m]!) (t % m) hl]
theorem holdsK_own (hc : ∀ x, (c x).length = m) {g cap : Nat} (h : OwnR w base e m c (.slice (some ⟨g, 0, none⟩) l.length cap) l) : HoldsK c m w g 0 l.toArray := by
  intro j hj
  have hj' : j < l.length * m := by simpa using hj
  refine ⟨?_, ?_⟩
  · rw [Nat.zero_add, World.ownsRow.cellAt h _ hj']
    exact flat_at hc l.toArray j (by simpa using hj')
  · exact OwnR.frozen h rfl _
theorem take_flat (hc : ∀ x, (c x).length = m) (d : Array α) (cur : Array Value) (h : d.size * m ≤ cur.size) : (putCells id 0 (flatK c m d) cur).toList.take (d.size * m) = rowC c d.toList := by
  apply List.ext_getElem?
  intro j
  by_cases hj : j < d.size * m
  · rw [List.getElem?_take_of_lt hj, Array.getElem?_toList, flat_at hc d j hj]
    have hjc : j < cur.size := by omega
    simp [putCells, hj, hjc]
  · rw [List.getElem?_take_eq_none (by omega), List.getElem?_eq_none (by rw [rowC_length hc]; simpa using hj)]
theorem heap_sortedK {g n : Nat} {os : Array Obj} {cur : Array Value} {fr : Nat × Nat} (F : Array Value) (hb : w.heap[g]? = some (.cells cur e fr)) :
    (grow (putRow id (Sort.ahead w n) g 0 F) os).heap[g]? = some (.cells (putCells id 0 F cur) e fr) := by
  have hg : g < w.heap.size := (Array.getElem?_eq_some_iff.1 hb).1
  rw [heap_grow_old _ _ (by simpa using hg)]
  simp [putRow, mapBlock, Sort.ahead, Array.getElem?_modify, hb, onCells]
theorem own_sortedK (hc : ∀ x, (c x).length = m) {g cap n : Nat} {os : Array Obj} (h : OwnR w base e m c (.slice (some ⟨g, 0, none⟩) l.length cap) l) (d : Array α) (hd : d.size = l.length) :
    OwnR (sortWorldK c m w g 0 n d os) base e m c (.slice (some ⟨g, 0, none⟩) d.size cap) d.toList := by
  rcases h.2 with ⟨h0, _⟩ | ⟨g', cap', cur, e1, e2, e3, e4, e5, e6, e7⟩
  · cases h0
  · injection e1 with e1 e1' e1''
    injection e1 with e1
    injection e1 with e1
    subst e1 e1''
    have hlen : d.toList.length = d.size := by simp
    refine ⟨by rw [rowC_length hc], .inr ⟨g, cap, _, by rw [hlen], e2, heap_sortedK (flatK c m d) e3, by rw [hlen, hd]; exact e4, e5, by simp [putCells, e6], ?_⟩⟩
    rw [hlen]
    exact take_flat hc d cur (by rw [e6, hd]; exact Nat.mul_le_mul_right m e4)
theorem grown_sortedK {g n : Nat} {os : Array Obj} (d : Array α) : w.grownBy (sortWorldK c m w g 0 n d os) (some g) := by
  refine ⟨rfl, rfl, rfl, by simp [sortWorldK, putRowK], fun k hk hne => ?_⟩
  unfold sortWorldK putRowK
  rw [heap_grow_old _ _ (by simpa using hk)]
  have : g ≠ k := fun e => hne (by rw [e])
  simp [putRow, mapBlock, Sort.ahead, Array.getElem?_modify, this]
end
/-- what the sort's documentation says, as lists -/
theorem permIn_list {α : Type} [Inhabited α] {d d' : Array α} (h : PermIn 0 d.size d d') : d'.toList.Perm d.toList := by
  obtain ⟨h1, h2, h3⟩ := h
  rw [show d.extract 0 d.size = d by simp, show d'.extract 0 d.size = d' by rw [← h1]; simp] at h3
  exact h3
theorem sortedIn_list {α : Type} [Inhabited α] {lt : α → α → Bool} {d' : Array α} {n : Nat} (hn : d'.size = n) (h : SortedIn lt 0 n d') : d'.toList.Pairwise (fun x y => lt y x = false) := by
  rw [List.pairwise_iff_getElem]
  intro i j hi hj hij
  have hi' : i < d'.size := by simpa using hi
  have hj' : j < d'.size := by simpa using hj
  have := h i j (Nat.zero_le _) hij (by omega)
  rw [getElem!_pos d' i hi', getElem!_pos d' j hj'] at this
  simpa using this
end Go.Proofs.Ytdameincehiieaa
