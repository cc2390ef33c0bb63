/- appendHead of the program, onto a row of one's own; a string appended in a region that draws. -/
import Derived.Test.YtolicaaifhfhcaaM37
import Derived.Lib.AppendStr
import Derived.Deep.RegionHeld3
import Derived.Lib.ConvBytes
namespace Go.Proofs.Ytolicaaifhfhcaa
open Go.RowKit
set_option linter.unusedVariables false

/-- a length's bytes -/
def lenL (n : Nat) : List Int := if n < 128 then [(n : Int)] else if n < 256 then [129, (n : Int)] else [130, (n : Int) / 256, (n : Int) % 256]
theorem lenL_length (n : Nat) : (lenL n).length = lenLen n := by unfold lenL lenLen; split <;> (try split) <;> rfl

/-- two growths of one row, one behind the other -/
theorem grown_two {w w1 w2 : World} {row : Option Nat} {g : Nat} (h1 : w.grownBy w1 row) (o : Obj) (h2 : (w1.alloc o).grownBy w2 (some g)) (hg : row = some g ∨ w.heap.size ≤ g) : w.grownBy w2 row :=
  ⟨h2.os.trans h1.os, h2.tape.trans h1.tape, h2.output.trans h1.output, by have := h1.size; have := h2.size; simp at this; omega, fun k hk hne => by
    have hs := h1.size
    rw [h2.block k (by simp; omega) (fun e => by
      rcases hg with h | h
      · exact hne (by rw [h, ← e])
      · have := Option.some.inj e; omega), Below.heap_alloc _ _ _ (by omega)]
    exact h1.block k hk hne⟩


theorem wp_append_string {P : Program} (w : World) {o : Oper} {a : Act} {K : Act → World → Prop} {Q : Exit → Act → World → Prop} (sl x : Operand) (t u : TypeId)
    (ho : o.op = .call { callee := .builtin .append, args := #[sl, x], argTypes := #[t, u] })
    (base : Nat) (e : TypeId) (i : TypeInfo) (ht : P.underlying t = some (.slice e)) (hu : P.underlying u = some .string) (hi : P.info? e = some i) (hz : i.zero = some (.int .u8 0))
    (hsize : i.size = 1) (hby : i.bytes = 1)
    (v : Value) (n : Nat) (xs : List Value) (hs : a.eval sl = v) (hown : w.ownsRow base e 1 v n xs) (s : ByteArray) (hx : a.eval x = .string s)
    (h63 : n + s.size ≤ maxLen) (hbytes : n + s.size ≤ 140737488355328) (hbase : base ≤ w.heap.size)
    (h : ∀ v' w', w'.ownsRow base e 1 v' (n + s.size) (xs ++ Lib.strCells s) → w.grownBy w' v.ownBlock → K (a.put o.dst v') w') : o.wp P a w K Q := by
  obtain ⟨v', w', hr, h2, h3, h4⟩ := Lib.run_append_own_string (P := P) w base t u o.type e i ht hu hi hz hsize hby v n xs hown s h63 hbytes hbase
  unfold Oper.wp execOp
  simp only [ho, resolve, invoke, builtin, Sem.run_bind, Sem.run_pure, Result.andThen_ok, List.map_toArray, List.map_cons, List.map_nil, hs, hx, hr]
  exact h v' w' h2 h3
theorem step_append_string {P : Program} (w : World) {ops : Array Oper} {o : Oper} {a : Act} {K : Act → World → Prop} {Q : Exit → Act → World → Prop} {E : Prop} (hgd : o.guard = none) (sl x : Operand) (t u : TypeId)
    (ho : o.op = .call { callee := .builtin .append, args := #[sl, x], argTypes := #[t, u] })
    (base : Nat) (e : TypeId) (i : TypeInfo) (ht : P.underlying t = some (.slice e)) (hu : P.underlying u = some .string) (hi : P.info? e = some i) (hz : i.zero = some (.int .u8 0))
    (hsize : i.size = 1) (hby : i.bytes = 1)
    (v : Value) (n : Nat) (xs : List Value) (hs : a.eval sl = v) (hown : w.ownsRow base e 1 v n xs) (s : ByteArray) (hx : a.eval x = .string s)
    (h63 : n + s.size ≤ maxLen) (hbytes : n + s.size ≤ 140737488355328) (hbase : base ≤ w.heap.size)
    (h : ∀ v' w', w'.ownsRow base e 1 v' (n + s.size) (xs ++ Lib.strCells s) → w.grownBy w' v.ownBlock → K (a.put o.dst v') w') :
    if Region.wanted o (yielded ops a.tmps) = true then Oper.wp P o a w K Q else E := by
  have hw : Region.wanted o (yielded ops a.tmps) = true := by simp [Region.wanted, hgd]
  rw [if_pos hw]
  exact wp_append_string w sl x t u ho base e i ht hu hi hz hsize hby v n xs hs hown s hx h63 hbytes hbase h
end Go.Proofs.Ytolicaaifhfhcaa
namespace Go.Proofs.Ytolicaaifhfhcaa
open Go.RowKit
set_option linter.unusedVariables false

/-- a text's bytes as numbers -/
def strL (s : ByteArray) : List Int := s.data.toList.map fun u => (u.toNat : Int)
theorem strL_length (s : ByteArray) : (strL s).length = s.size := by simp [strL]
/-- an item written -/
def itemL (t : Nat) (body : List Int) : List Int := tagL t ++ (lenL body.length ++ body)
def bodyL (T : List It → List Int) (x : It) : List Int := if madeV x.tag = true then T x.list else strL x.text
def textD : Nat → List It → List Int
  | 0, _ => []
  | d + 1, l => l.flatMap fun x => itemL x.tag.toNat (bodyL (textD d) x)
theorem itemL_length (t : Nat) (b : List Int) : (itemL t b).length = tagLen t + lenLen b.length + b.length := by
  unfold itemL
  rw [List.length_append, List.length_append, lenL_length, bigL_length]
  omega
theorem fits_body {d : Nat} {x : It} {b1 b2 : Nat} (hf : fitsB x.tag x.text.size x.list.length = true) (hm : measD d x.list = some (b1, b2)) (ht : (textD d x.list).length = b1) : (bodyL (textD d) x).length = b1 + x.text.size := by
  unfold fitsB at hf
  unfold bodyL
  by_cases h : madeV x.tag = true
  · rw [if_pos h] at hf ⊢
    have : x.text.size = 0 := by simpa using hf
    omega
  · rw [if_neg h] at hf ⊢
    have hl : x.list = [] := by
      have : x.list.length = 0 := by
        cases hv : validB x.tag with
        | false => rw [hv] at hf; simp at hf
        | true => rw [hv] at hf; simpa using hf
      exact List.length_eq_zero_iff.1 this
    have : b1 = 0 := by
      rw [hl] at ht
      cases d <;> simp [textD] at ht <;> omega
    rw [strL_length, this]
    omega
theorem fold_text {d : Nat} (ih : ∀ l s p, measD d l = some (s, p) → (textD d l).length = s) : ∀ (l : List It) (s0 p0 s p : Nat), l.foldl (stepM (measD d)) (some (s0, p0)) = some (s, p) → s0 + (textD (d + 1) l).length = s
  | [], s0, p0, s, p, h => by simp at h; simp [textD, h.1]
  | x :: r, s0, p0, s, p, h => by
    rw [List.foldl_cons, step_yes] at h
    by_cases hf : fitsB x.tag x.text.size x.list.length = true
    · rw [if_pos hf] at h
      cases hm : measD d x.list with
      | none => rw [hm, Option.map_none, step_none] at h; cases h
      | some b =>
        obtain ⟨b1, b2⟩ := b
        rw [hm, Option.map_some] at h
        have h1 := fits_body hf hm (ih _ _ _ hm)
        have h2 := fold_text ih r _ _ s p h
        have e : textD (d + 1) (x :: r) = itemL x.tag.toNat (bodyL (textD d) x) ++ textD (d + 1) r := by simp [textD]
        rw [e, List.length_append, itemL_length, h1]
        simp only at h2
        omega
    · rw [if_neg hf, step_none] at h; cases h
theorem meas_text : ∀ (d : Nat) (l : List It) (s p : Nat), measD d l = some (s, p) → (textD d l).length = s
  | 0, l, s, p, h => by simp [measD] at h; simp [textD, h.1]
  | d + 1, l, s, p, h => by have := fold_text (meas_text d) l 0 0 s p h; omega
theorem fold_item {d : Nat} : ∀ (l : List It) (k : Nat) (x : It) (s0 p0 s p : Nat), l.foldl (stepM (measD d)) (some (s0, p0)) = some (s, p) → l[k]? = some x → fitsB x.tag x.text.size x.list.length = true ∧ ∃ b1 b2, measD d x.list = some (b1, b2)
  | [], k, x, s0, p0, s, p, h, hx => by simp at hx
  | y :: r, k, x, s0, p0, s, p, h, hx => by
    rw [List.foldl_cons, step_yes] at h
    by_cases hf : fitsB y.tag y.text.size y.list.length = true
    · rw [if_pos hf] at h
      cases hm : measD d y.list with
      | none => rw [hm, Option.map_none, step_none] at h; cases h
      | some b =>
        obtain ⟨b1, b2⟩ := b
        rw [hm, Option.map_some] at h
        cases k with
        | zero => simp at hx; subst hx; exact ⟨hf, b1, b2, hm⟩
        | succ k => exact fold_item r k x _ _ s p h (by simpa using hx)
    · rw [if_neg hf, step_none] at h; cases h
theorem text_take {d : Nat} {l : List It} {k : Nat} {x : It} (hx : l[k]? = some x) : textD (d + 1) (l.take (k + 1)) = textD (d + 1) (l.take k) ++ itemL x.tag.toNat (bodyL (textD d) x) := by
  have hk : k < l.length := by
    rcases Nat.lt_or_ge k l.length with h | h
    · exact h
    · rw [List.getElem?_eq_none h] at hx; cases hx
  rw [List.getElem?_eq_getElem hk] at hx
  rw [List.take_succ_eq_append_getElem hk, Option.some.inj hx]
  simp [textD]
theorem text_take_le {d : Nat} (l : List It) (k : Nat) : (textD (d + 1) (l.take k)).length ≤ (textD (d + 1) l).length := by
  have e : textD (d + 1) l = textD (d + 1) (l.take k) ++ textD (d + 1) (l.drop k) := by
    unfold textD
    rw [← List.flatMap_append, List.take_append_drop]
  rw [e, List.length_append]
  omega
theorem strCells_eq (s : ByteArray) : Lib.strCells s = (strL s).map (Value.int .u8) := by
  simp [Lib.strCells, strL]

def Bytes (l : List Int) : Prop := ∀ n ∈ l, 0 ≤ n ∧ n < 256
theorem lenL_bytes (n : Nat) (h : n < 65536) : Bytes (lenL n) := by
  unfold lenL Bytes
  intro m hm
  split at hm
  · simp at hm; omega
  · split at hm
    · simp at hm; omega
    · simp at hm; omega
theorem strL_bytes (s : ByteArray) : Bytes (strL s) := by
  intro n hn
  obtain ⟨u, _, rfl⟩ := List.mem_map.1 hn
  have := u.toNat_lt
  omega
theorem tagL_bytes (t : Nat) : Bytes (tagL t) := by
  intro n hn
  exact bigL_bytes _ _ n hn
theorem text_bytes : ∀ (d : Nat) (l : List It) (s p : Nat), measD d l = some (s, p) → s ≤ 65535 → Bytes (textD d l)
  | 0, l, s, p, _, _ => by intro n hn; simp [textD] at hn
  | d + 1, l, s, p, hm, hs => by
    intro n hn
    unfold textD at hn
    obtain ⟨x, hx, hn⟩ := List.mem_flatMap.1 hn
    obtain ⟨k, hk, rfl⟩ := List.mem_iff_getElem.1 hx
    have hxk : l[k]? = some l[k] := List.getElem?_eq_getElem hk
    obtain ⟨hf, b1, b2, hmx⟩ := fold_item l k l[k] 0 0 s p hm hxk
    have htx := meas_text d _ _ _ hmx
    have hbody := fits_body hf hmx htx
    have htl := meas_text (d + 1) l s p hm
    have hpre := text_take_le (d := d) l (k + 1)
    rw [text_take hxk, List.length_append, itemL_length, htl] at hpre
    unfold itemL at hn
    rcases List.mem_append.1 hn with h | h
    · exact tagL_bytes _ n h
    · rcases List.mem_append.1 h with h | h
      · exact lenL_bytes _ (by omega) n h
      · unfold bodyL at h
        split at h
        · exact text_bytes d _ b1 b2 hmx (by omega) n h
        · exact strL_bytes _ n h
theorem strL_nums {ns : List Int} (h : Bytes ns) : strL (strOfNums ns) = ns := by
  have e : (strOfNums ns).data.toList = ns.map fun n => UInt8.ofNat n.toNat := by simp [strOfNums]
  unfold strL
  rw [e, List.map_map]
  conv => rhs; rw [← List.map_id ns]
  refine List.map_congr_left fun n hn => ?_
  have := h n hn
  simp only [Function.comp, id, UInt8.toNat_ofNat']
  omega
theorem owns_keep {w w' : World} {base : Nat} {e : TypeId} {size : Nat} {v : Value} {n : Nat} {xs : List Value} (h : w.ownsRow base e size v n xs) (hb : Below w.heap.size w w') : w'.ownsRow base e size v n xs := by
  refine ⟨h.1, ?_⟩
  rcases h.2 with h0 | ⟨g, cap, cur, e1, e2, e3, e4⟩
  · exact .inl h0
  · refine .inr ⟨g, cap, cur, e1, e2, ?_, e4⟩
    have hg : g < w.heap.size := by
      rcases Nat.lt_or_ge g w.heap.size with h | h
      · exact h
      · rw [Array.getElem?_eq_none h] at e3; cases e3
    rw [hb.block g hg]; exact e3

theorem text_ge {d : Nat} : ∀ l : List It, l.length ≤ (textD (d + 1) l).length
  | [] => by simp
  | x :: r => by
    have := text_ge (d := d) r
    have e : textD (d + 1) (x :: r) = itemL x.tag.toNat (bodyL (textD d) x) ++ textD (d + 1) r := by simp [textD]
    have h1 := tagLen_le x.tag.toNat
    rw [e, List.length_append, itemL_length, List.length_cons]
    omega
theorem row_text {w : World} {d : Nat} {ao : Option Addr} {l : List It} (h : IRow w d ao l) : l.length ≤ (textD d l).length := by
  cases d with
  | zero => rw [show l = [] from h]; simp
  | succ d => exact text_ge l
theorem own_item {w : World} {base m t : Nat} {v : Value} {pre nx bd : List Int} {s : ByteArray} (hnx : nx = pre ++ itemL t bd) (hbd : bd = strL s) (hm : m = s.size)
    (h : w.ownsRow base 5 1 v (pre.length + tagLen t + lenLen m + s.size) (pre.map (Value.int .u8) ++ ((tagL t).map (Value.int .u8) ++ ((lenL m).map (Value.int .u8) ++ Lib.strCells s)))) : w.ownsRow base 5 1 v nx.length (nx.map (Value.int .u8)) := by
  subst hm
  have e1 : nx.length = pre.length + tagLen t + lenLen s.size + s.size := by
    rw [hnx, List.length_append, itemL_length, hbd, strL_length]; omega
  have e2 : nx.map (Value.int .u8) = pre.map (Value.int .u8) ++ ((tagL t).map (Value.int .u8) ++ ((lenL s.size).map (Value.int .u8) ++ Lib.strCells s)) := by
    rw [hnx, hbd, strCells_eq]
    unfold itemL
    rw [strL_length]
    simp
  rw [e1, e2]
  exact h

end Go.Proofs.Ytolicaaifhfhcaa
namespace Go.Proofs.Ytolicaaifhfhcaa
open Go.RowKit
set_option linter.unusedVariables false

/-- what Print answers -/
def printsE (m : Option (Nat × Nat)) : Int := match m with | none => 1 | some (s, p) => if 8 < p ∨ 65535 < s then 2 else 0
def printsS (d : Nat) (l : List It) : ByteArray := if printsE (measD d l) = 0 then strOfNums (textD d l) else ⟨#[]⟩

end Go.Proofs.Ytolicaaifhfhcaa
