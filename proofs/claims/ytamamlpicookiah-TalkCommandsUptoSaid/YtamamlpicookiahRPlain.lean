/- plain of the reference. -/
import Derived.Test.YtamamlpicookiahFind
import Derived.Test.YtamamlpicookiahFields
import Derived.Laws.AppendOwn
import Derived.Laws.AppendOwnNone
import Derived.Deep.RegionWith
import Derived.Deep.CutBlock
import Derived.Deep.RegionHeld3
import Derived.Deep.DeepCutAuto
namespace Go.Proofs.Ytamamlpicookiah
open Go.RowKit
set_option linter.unusedVariables false

/-- all items that are not made of others -/
def plainD : Nat → List It → List It
  | 0, _ => []
  | d + 1, l => l.flatMap fun x => if madeV x.tag = true then plainD d x.list else [x]
theorem plain_len : ∀ (d : Nat) (l : List It), (plainD d l).length ≤ wt d l
  | 0, l => by simp [plainD]
  | d + 1, l => by
    induction l with
    | nil => simp [plainD]
    | cons x r ih =>
      have h := plain_len d x.list
      simp only [plainD, wt, List.flatMap_cons, List.map_cons, List.sum_cons, List.length_append] at ih ⊢
      split
      · omega
      · simp only [List.length_cons, List.length_nil]; omega

/-- an item as it lies: its own list's head beside it -/
structure Raw where
  tag : Int
  text : ByteArray
  co : Option Addr
  n : Nat
  cc : Nat
def Raw.cells (r : Raw) : List Value := [.int .i64 r.tag, .string r.text, .slice r.co r.n r.cc]
def cellsR (rs : List Raw) : List Value := rs.flatMap Raw.cells
theorem cellsR_append (a b : List Raw) : cellsR (a ++ b) = cellsR a ++ cellsR b := by simp [cellsR]
theorem cellsR_one (rs : List Raw) : ∀ u ∈ cellsR rs, u.oneCell' = true := by
  intro u hu
  obtain ⟨r, _, hr⟩ := List.mem_flatMap.1 hu
  simp only [Raw.cells, List.mem_cons, List.not_mem_nil, or_false] at hr
  rcases hr with rfl | rfl | rfl <;> rfl
theorem cellsR_length (rs : List Raw) : (cellsR rs).length = rs.length * 3 := by
  induction rs with
  | nil => rfl
  | cons r rs ih =>
    have e : cellsR (r :: rs) = r.cells ++ cellsR rs := by simp [cellsR]
    rw [e, List.length_append, ih, List.length_cons]
    simp only [Raw.cells, List.length_cons, List.length_nil]
    omega
/-- the rows hold these items' tags and texts -/
def Holds (rs : List Raw) (l : List It) : Prop := rs.map (fun r => (r.tag, r.text)) = l.map (fun x => (x.tag, x.text))
theorem infoItem : (Try.prog.info? 56).map (fun i => (i.zero, i.size, i.bytes)) = some (some (.agg #[.int .i64 0, .string ⟨#[]⟩, .slice none 0 0]), 3, 48) := by kernel_rfl

theorem ownsRow_kept {w w' : World} {base : Nat} {e : TypeId} {size : Nat} {v : Value} {n : Nat} {xs : List Value} (h : w.ownsRow base e size v n xs) (hb : Below w.heap.size w w') : w'.ownsRow base e size v n xs := by
  refine ⟨h.1, ?_⟩
  rcases h.2 with h0 | ⟨g, cap, cur, e1, e2, e3, e4⟩
  · exact .inl h0
  · refine .inr ⟨g, cap, cur, e1, e2, ?_, e4⟩
    have hg : g < w.heap.size := by
      rcases Nat.lt_or_ge g w.heap.size with h | h
      · exact h
      · rw [Array.getElem?_eq_none h] at e3; cases e3
    rw [hb.block g hg]; exact e3
theorem plain_take {d : Nat} {l : List It} {k : Nat} {x : It} (hx : l[k]? = some x) : plainD (d + 1) (l.take (k + 1)) = plainD (d + 1) (l.take k) ++ (if madeV x.tag = true then plainD d x.list else [x]) := by
  have hk : k < l.length := by
    rcases Nat.lt_or_ge k l.length with h | h
    · exact h
    · rw [List.getElem?_eq_none h] at hx; cases hx
  rw [List.getElem?_eq_getElem hk] at hx
  rw [List.take_succ_eq_append_getElem hk, Option.some.inj hx]
  simp [plainD]
theorem holds_append {a b : List Raw} {l m : List It} (h1 : Holds a l) (h2 : Holds b m) : Holds (a ++ b) (l ++ m) := by
  unfold Holds at *
  rw [List.map_append, List.map_append, h1, h2]
theorem holds_length {a : List Raw} {l : List It} (h : Holds a l) : a.length = l.length := by
  have := congrArg List.length h
  simpa using this
theorem wt_take {d : Nat} (l : List It) (k : Nat) : wt (d + 1) (l.take k) ≤ wt (d + 1) l := by
  conv => rhs; rw [← List.take_append_drop k l]
  simp only [wt, List.map_append, List.sum_append]
  omega

end Go.Proofs.Ytamamlpicookiah
