/- itemsOf and Parse of the reference. -/
import Derived.Test.YtfpglpefofcdeaaDoorM23
namespace Go.Proofs.YtfpglpefofcdeaaDoor
open Go.RowKit
set_option linter.unusedVariables false

theorem behind_behind (s : ByteArray) (i j : Nat) (h : i + j ≤ s.size) : behind (behind s i) j = s.extract (i + j) s.size := by
  unfold behind
  rw [ByteArray.size_extract, ByteArray.extract_extract]
  congr 1
  omega
theorem behind_take (s : ByteArray) (i n : Nat) (h : i + n ≤ s.size) : (s.extract i s.size).extract 0 n = s.extract i (i + n) := by
  rw [ByteArray.extract_extract]
  congr 1
  omega

/-- an item, by its head -/
theorem item_head {P : ByteArray → Option (List It)} {s : ByteArray} : itemAt P s = match headD s with
    | none => none
    | some (t, n, k) => if s.size < k + n then none else if madeB t = true then (P (s.extract k (k + n))).map fun l => (.mk t ⟨#[]⟩ l, s.extract (k + n) s.size) else some (.mk t (s.extract k (k + n)) [], s.extract (k + n) s.size) := by
  unfold itemAt headD
  split
  · rfl
  · rename_i hz
    split
    · rfl
    · cases hl : lenAt (behind s (tagSz s.data.toList)) with
      | none => rfl
      | some nk =>
        obtain ⟨n, k⟩ := nk
        have hk := lenAt_lt hl
        rw [behind_size] at hk
        simp only
        rw [behind_size, behind_size]
        by_cases hn : s.size - tagSz s.data.toList - k < n
        · rw [if_pos hn, if_pos (by omega)]
        · have hn2 : ¬ s.size < tagSz s.data.toList + k + n := by omega
          rw [if_neg hn, if_neg hn2]
          have e1 : behind (behind s (tagSz s.data.toList)) k = s.extract (tagSz s.data.toList + k) s.size := behind_behind s _ k (by omega)
          have e2 : (s.extract (tagSz s.data.toList + k) s.size).extract 0 n = s.extract (tagSz s.data.toList + k) (tagSz s.data.toList + k + n) := behind_take s _ n (by omega)
          have e3 : behind (s.extract (tagSz s.data.toList + k) s.size) n = s.extract (tagSz s.data.toList + k + n) s.size := behind_behind s (tagSz s.data.toList + k) n (by omega)
          rw [e1, e2, e3]

/-- what itemsOf answers, called in W, in W' -/
def ItemsRet (W W' : World) (d : Nat) (s : ByteArray) (e : Ending) : Prop :=
  ∃ v rs, e = .returned (.tuple #[v, .bool (parseD d s).isSome]) ∧ W'.ownsRow W.heap.size 123 3 v rs.length (cellsR rs) ∧ rs.length ≤ s.size ∧ ∀ l, parseD d s = some l → RHold W' (fun b => W.heap.size ≤ b) (d - 1) rs l

theorem head_lt {s : ByteArray} {t n k : Nat} (h : headD s = some (t, n, k)) : t < 16777216 ∧ n < 65536 ∧ 1 ≤ k ∧ k ≤ s.size ∧ validB (t : Int) = true := by
  have hm := valN_take3 s (tagSz s.data.toList) (tagSz_le s.data.toList).2
  have h1 := (tagSz_le s.data.toList).1
  unfold headD at h
  split at h
  · cases h
  · split at h
    · cases h
    · rename_i hv
      split at h
      · cases h
      · rename_i n' k' hl
        have hk := lenAt_lt hl
        rw [behind_size] at hk
        cases h
        refine ⟨hm, hk.1, by omega, by omega, by simpa using hv⟩

/-- the fuel says nothing where it is enough -/
theorem listP_fuel (P : ByteArray → Option (List It)) : ∀ (f g : Nat) (s : ByteArray), s.size ≤ f → s.size ≤ g → listP P f s = listP P g s
  | 0, g, s, hf, hg => by rw [listP_empty P 0 (by omega), listP_empty P g (by omega)]
  | f + 1, 0, s, hf, hg => by rw [listP_empty P _ (by omega), listP_empty P 0 (by omega)]
  | f + 1, g + 1, s, hf, hg => by
    by_cases hz : s.size = 0
    · rw [listP_empty P _ hz, listP_empty P _ hz]
    · rw [listP_step hz, listP_step hz]
      cases hi : itemAt P s with
      | none => rfl
      | some xr =>
        obtain ⟨x, r⟩ := xr
        have := item_size hi
        simp only
        rw [listP_fuel P f g r (by omega) (by omega)]
theorem parse_step {d : Nat} {s : ByteArray} (hz : s.size ≠ 0) : parseD (d + 1) s = match itemAt (parseD d) s with | none => none | some (x, r) => (parseD (d + 1) r).map (x :: ·) := by
  show listP (parseD d) s.size s = _
  obtain ⟨f, hf⟩ : ∃ f, s.size = f + 1 := ⟨s.size - 1, by omega⟩
  conv => lhs; rw [hf]
  rw [listP_step hz]
  cases hi : itemAt (parseD d) s with
  | none => rfl
  | some xr =>
    obtain ⟨x, r⟩ := xr
    have := item_size hi
    simp only
    rw [listP_fuel (parseD d) f r.size r (by omega) (Nat.le_refl _)]
    rfl

theorem itemsRet_nil {W W' : World} {d : Nat} {s : ByteArray} {ok : Bool} (h : (parseD d s).isSome = ok) (hl : ∀ l, parseD d s = some l → l = []) : ItemsRet W W' d s (.returned (.tuple #[.slice none 0 0, .bool ok])) :=
  ⟨_, [], by rw [h], World.ownsRow_nil _ _ _ _, Nat.zero_le _, fun l h' => by rw [hl l h']; exact ⟨rfl, fun i r x h => by simp at h⟩⟩

theorem RHold.cons {W : World} {A : Nat → Prop} {d : Nat} {rs : List Raw} {acc : List It} (h : RHold W A d rs acc) {r : Raw} {x : It} (h1 : r.tag = x.tag) (h2 : r.text = x.text) (h3 : r.n = x.list.length) (h4 : r.n ≤ r.cc) (h5 : IRowA W A d r.co x.list) (h6 : x.tag ≤ 9223372036854775807) (h7 : x.text.size ≤ maxLen) : RHold W A d ([r] ++ rs) (x :: acc) := by
  refine ⟨by simp [h.1], fun i r' x' hr hx => ?_⟩
  cases i with
  | zero => simp at hr hx; subst hr hx; exact ⟨h1, h2, h3, h4, h5, h6, h7⟩
  | succ i => exact h.2 i r' x' (by simpa using hr) (by simpa using hx)
theorem own_lit (w : World) (base : Nat) (hb : base ≤ w.heap.size) (a b c : Value) (e : TypeId) : (w.alloc (.cells #[a, b, c] e)).ownsRow base e 3 (.slice (some ⟨w.heap.size, 0, none⟩) 1 1) 1 [a, b, c] :=
  ⟨rfl, .inr ⟨w.heap.size, 1, #[a, b, c], rfl, hb, heap_alloc_new w _, Nat.le_refl _, by unfold maxLen; omega, rfl, rfl⟩⟩
theorem items_tail {w w3 w5 w6 : World} {d : Nat} {s r : ByteArray} {x : It} {rs : List Raw} {co : Option Addr} {cc : Nat} {v : Value}
    (hps : parseD (d + 1) s = (parseD (d + 1) r).map (x :: ·)) (hrh : ∀ l, parseD (d + 1) r = some l → RHold w5 (fun b => w3.heap.size ≤ b) d rs l) (h3 : w.heap.size ≤ w3.heap.size)
    (hx : IRowA w5 (fun b => w.heap.size ≤ b) d co x.list) (hcc : x.list.length ≤ cc) (hxt : x.tag ≤ 9223372036854775807) (hxs : x.text.size ≤ maxLen)
    (hk : ∀ b, b < w5.heap.size → w6.heap[b]? = w5.heap[b]?) (hs6 : w5.heap.size ≤ w6.heap.size)
    (hown : w6.ownsRow w.heap.size 123 3 v ([Raw.mk x.tag x.text co x.list.length cc] ++ rs).length (cellsR ([Raw.mk x.tag x.text co x.list.length cc] ++ rs))) (hlen : 1 + rs.length ≤ s.size) :
    ItemsRet w w6 (d + 1) s (.returned (.tuple #[v, .bool (parseD (d + 1) r).isSome])) := by
  refine ⟨v, _, by rw [hps]; simp, hown, by simp; omega, fun l hl => ?_⟩
  rw [hps] at hl
  cases hq : parseD (d + 1) r with
  | none => rw [hq] at hl; cases hl
  | some m =>
    rw [hq] at hl
    have e : l = x :: m := (Option.some.inj hl).symm
    rw [e]
    have k1 : RHold w6 (fun b => w.heap.size ≤ b) d rs m := RHold.kept hs6 (fun b hb hA => ⟨hk b hb, Nat.le_trans h3 hA⟩) (hrh m hq)
    have k2 : IRowA w6 (fun b => w.heap.size ≤ b) d co x.list := IRowA.kept hs6 (fun b hb hA => ⟨hk b hb, hA⟩) d hx
    exact RHold.cons k1 rfl rfl rfl hcc k2 hxt hxs
theorem items_row {W W' : World} {d : Nat} {s : ByteArray} {e : Ending} {l : List It} (h : ItemsRet W W' d s e) (hl : parseD d s = some l) : ListRet W W' d (some l) e := by
  obtain ⟨v, rs, rfl, hown, _, hrh⟩ := h
  have hr := hrh l hl
  rw [hl]
  cases d with
  | zero =>
    have hn : l = [] := by
      unfold parseD at hl
      split at hl
      · cases hl; rfl
      · cases hl
    subst hn
    rcases hown.2 with ⟨h1, h2⟩ | ⟨g, cap, cur, h1, _⟩
    · exact ⟨none, 0, by rw [h1]; rfl, Nat.le_refl _, rfl⟩
    · exact ⟨_, cap, by rw [h1, hr.1]; rfl, Nat.zero_le _, rfl⟩
  | succ d =>
    obtain ⟨ao, cap, rfl, h1, h2⟩ := irow_of_raw (fun b hb => hb) hown hr
    exact ⟨ao, cap, rfl, h1, h2⟩

end Go.Proofs.YtfpglpefofcdeaaDoor
