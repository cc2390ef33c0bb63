/- Maps from numbers to bools that a call makes by itself; rows that begin a block. -/
import Derived.Test.YtbnpajijbdddiaaMapI
import Derived.Test.YtbnpajijbdddiaaRow0
namespace Go.Proofs.Ytbnpajijbdddiaa
open Go.RowKit Go.WideMaps Go.Maps
set_option linter.unusedVariables false

theorem zeroBM (w : World) : (zeroValue 4).run Try.prog w = .ok (.bool false) w := by kernel_rfl
theorem plainElem_bool_inv {H : Type} {P : Program} {e : TypeId} (he : P.underlying e = some .bool) {v : Value} {z : DataW H × List MemPlace} (h : plainElem P e v = some z) : ∃ x, v = .bool x ∧ z = (.lit (.bool x), []) := by
  unfold plainElem at h
  rw [he] at h
  cases v <;> simp at h
  exact ⟨_, rfl, h.symm⟩
/-- the map in block b (made by at most n stores): at k lies f k; false where nothing was laid -/
def BMap (w : World) (b n : Nat) (f : Int → Bool) : Prop := ∃ D : DataW Unit, w.ownsMap Try.prog 3 (plainElem Try.prog 4) b n D ∧ ∀ k : Int, D.atKey (.int .i64 k) (.lit (.bool false)) = .lit (.bool (f k))
theorem BMap.made (w : World) : BMap (w.alloc (.map #[] 0)) w.heap.size 0 (fun _ => false) := ⟨.map [], World.ownsMap_made _ _ _ _, fun k => rfl⟩
theorem BMap.alloc {w : World} {b n : Nat} {f : Int → Bool} (h : BMap w b n f) (o : Obj) : BMap (w.alloc o) b n f := by obtain ⟨D, h1, h2⟩ := h; exact ⟨D, h1.alloc o, h2⟩
theorem BMap.drewN {w : World} {b n : Nat} {f : Int → Bool} (h : BMap w b n f) (q : Nat) : BMap (w.drewN q) b n f := h
theorem BMap.lt {w : World} {b n : Nat} {f : Int → Bool} (h : BMap w b n f) : b < w.heap.size := by obtain ⟨D, h1, h2⟩ := h; exact h1.lt
theorem BMap.kept {w w' : World} {b n : Nat} {f : Int → Bool} {row : Option Nat} (h : BMap w b n f) (hg : w.grownBy w' row) (hne : some b ≠ row) : BMap w' b n f := by obtain ⟨D, h1, h2⟩ := h; exact ⟨D, h1.kept hg hne, h2⟩
theorem BMap.setCell {w : World} {b n : Nat} {f : Int → Bool} (h : BMap w b n f) {a : Addr} (ha : b ≠ a.block) (u : Value) : BMap (w.setCell a u) b n f := by obtain ⟨D, h1, h2⟩ := h; exact ⟨D, h1.setCell ha u, h2⟩
theorem BMap.congr {w : World} {b n : Nat} {f g : Int → Bool} (h : BMap w b n f) (e : ∀ k, f k = g k) : BMap w b n g := by obtain ⟨D, h1, h2⟩ := h; exact ⟨D, h1, fun k => by rw [h2 k, e k]⟩
theorem BMap.mono {w : World} {b n m : Nat} {f : Int → Bool} (h : BMap w b n f) (hm : n ≤ m) : BMap w b m f := by obtain ⟨D, h1, h2⟩ := h; exact ⟨D, h1.mono hm, h2⟩
theorem BMap.look {w : World} {b n : Nat} {f : Int → Bool} (h : BMap w b n f) (k : Int) (h1 : -9223372036854775808 ≤ k) (h2 : k ≤ 9223372036854775807) :
    (Instr.lookup 54 (.map (some b)) (.int .i64 k) false).run Try.prog w = .ok (.bool (f k)) w := by
  obtain ⟨D, ho, hD⟩ := h
  have hkey : keyOf Try.prog 3 (.int .i64 k) = some (.int .i64 k) := keyOf_int_mk Try.underlying3 (wf_i64 k h1 h2)
  obtain ⟨v, ps, hrun, hat⟩ := ho.lookup lawI Try.underlying54 (zeroBM _) (plainElem_bool Try.underlying4 false) hkey
  obtain ⟨x, rfl, hx⟩ := plainElem_bool_inv Try.underlying4 hat
  rw [hD k] at hx
  rw [hrun]
  injection hx with e
  injection e with e
  injection e with e
  rw [e]
def updB (f : Int → Bool) (k : Int) (v : Bool) : Int → Bool := fun x => if x = k then v else f x
theorem BMap.put {w w' : World} {b n : Nat} {f : Int → Bool} {D : DataW Unit} (ho : w.ownsMap Try.prog 3 (plainElem Try.prog 4) b n D) (hD : ∀ k : Int, D.atKey (.int .i64 k) (.lit (.bool false)) = .lit (.bool (f k))) (k : Int) (v : Bool)
    (h' : w'.ownsMap Try.prog 3 (plainElem Try.prog 4) b (n + 1) (D.put (.int .i64 k) (.lit (.bool v)))) : BMap w' b (n + 1) (updB f k v) := by
  refine ⟨_, h', fun x => ?_⟩
  unfold updB
  by_cases e : x = k
  · subst e; rw [if_pos rfl]; exact atKey_put_same ho.isMap (by trivial) _ _
  · rw [if_neg e, atKey_put_other (by intro h; injection h with _ h; exact e h)]; exact hD x
theorem wpList_bmap_put (w : World) {ops : Array Oper} {rest : List Oper} {o : Oper} {a : Act} {Q : Exit → Act → World → Prop}
    (hg : o.guard = none) (m x v : Operand) (hop : o.op = Op.mapUpdate 54 m x v) (b n : Nat) (f : Int → Bool) (hm : a.eval m = .map (some b)) (h : BMap w b n f) (hn : n < maxLen)
    (k : Int) (z : Bool) (hx : a.eval x = .int .i64 k) (hv : a.eval v = .bool z) (hk1 : -9223372036854775808 ≤ k) (hk2 : k ≤ 9223372036854775807)
    (hK : ∀ w', BMap w' b (n + 1) (updB f k z) → w.grownBy w' (some b) → wpList Try.prog ops Q rest (a.put o.dst undef) w') :
    wpList Try.prog ops Q (o :: rest) a w := by
  obtain ⟨D, ho, hD⟩ := h
  exact wpList_mapUpdate_own w hg m x v _ hop _ _ lawI Try.underlying54 _ b n D hm ho hn _ _ _ hx hv (keyOf_int_mk Try.underlying3 (wf_i64 k hk1 hk2)) _ [] (plainElem_bool Try.underlying4 z)
    (fun w' h1 h2 => hK w' (BMap.put ho hD k z h1) h2)

/-- the first n cells of a block, by their places -/
def PRow (w : World) (g : Nat) (e : TypeId) (n : Nat) (f : Nat → Value) : Prop := ∃ cur : Array Value, w.heap[g]? = some (.cells cur e (0, 0)) ∧ ∀ i, i < n → cur[i]? = some (f i)
section
variable {w w' : World} {g n : Nat} {e : TypeId} {f f' : Nat → Value}
theorem PRow.cell (h : PRow w g e n f) {i : Nat} (hi : i < n) : w.cell? ⟨g, i, none⟩ = some (f i) := by
  obtain ⟨cur, hh, hc⟩ := h
  unfold World.cell?; rw [hh]; simp [hc i hi]
theorem PRow.frozen (h : PRow w g e n f) (i : Nat) : w.frozen? ⟨g, i, none⟩ = false := by
  obtain ⟨cur, hh, hc⟩ := h
  simp [World.frozen?, hh]
theorem PRow.lt (h : PRow w g e n f) : g < w.heap.size := by obtain ⟨cur, hh, hc⟩ := h; exact block_ltR hh
theorem PRow.of_block (h : PRow w g e n f) (k : w'.heap[g]? = w.heap[g]?) : PRow w' g e n f := by obtain ⟨cur, hh, hc⟩ := h; exact ⟨cur, k.trans hh, hc⟩
theorem PRow.congr (h : PRow w g e n f) (k : ∀ i, i < n → f i = f' i) : PRow w g e n f' := by obtain ⟨cur, hh, hc⟩ := h; exact ⟨cur, hh, fun i hi => by rw [hc i hi, k i hi]⟩
theorem PRow.drewN (h : PRow w g e n f) (q : Nat) : PRow (w.drewN q) g e n f := h
theorem PRow.set (h : PRow w g e n f) (i : Nat) (hi : i < n) (v : Value) : PRow (w.setCell ⟨g, i, none⟩ v) g e n (fun j => if j = i then v else f j) := by
  obtain ⟨cur, hh, hc⟩ := h
  refine ⟨cur.setIfInBounds i v, by simp [World.setCell, Array.getElem?_modify, hh], fun j hj => ?_⟩
  have hsz : j < cur.size := (Array.getElem?_eq_some_iff.1 (hc j hj)).1
  by_cases k : j = i
  · subst k; simp [hsz]
  · show _ = some (if j = i then v else f j)
    rw [if_neg k, Array.getElem?_setIfInBounds_ne (by omega)]; exact hc j hj
theorem PRow.setOther (h : PRow w g e n f) {a : Addr} (ha : a.block ≠ g) (v : Value) : PRow (w.setCell a v) g e n f := h.of_block (by simp [World.setCell, Array.getElem?_modify, ha])
theorem PRow.below (h : PRow w g e n f) (hb : Below w.heap.size w w') : PRow w' g e n f := h.of_block (hb.block g h.lt)
theorem PRow.of_rowIs (h : w.rowIs g e n f) : PRow w g e n f := by obtain ⟨c, h1, h2, h3⟩ := h; exact ⟨c, h1, h3⟩
end
theorem rowC_one (l : List Int) : rowC (fun x => [Value.int .i64 x]) l = l.map (Value.int .i64) := by
  induction l with
  | nil => rfl
  | cons x r ih => simp [rowC, ih]
theorem PRow.of_own {w : World} {B g cap n : Nat} {e : TypeId} {l : List Int} (h : OwnR w B e 1 (fun x => [Value.int .i64 x]) (.slice (some ⟨g, 0, none⟩) n cap) l) : PRow w g e l.length (fun i => .int .i64 (l.getD i 0)) := by
  rcases h.2 with ⟨h1, _⟩ | ⟨g', cap', cur, hv, hg, hh, _, _, _, htake⟩
  · cases h1
  · have hgg : g = g' := by injection hv with a; injection a with a; injection a
    subst hgg
    refine ⟨cur, hh, fun i hi => ?_⟩
    have e1 : (rowC (fun x => [Value.int .i64 x]) l)[i]? = some (.int .i64 (l.getD i 0)) := by
      rw [rowC_one, List.getElem?_map, List.getElem?_eq_getElem hi]
      simp [hi]
    rw [← htake, List.getElem?_take_of_lt (by omega)] at e1
    simpa using e1
end Go.Proofs.Ytbnpajijbdddiaa
