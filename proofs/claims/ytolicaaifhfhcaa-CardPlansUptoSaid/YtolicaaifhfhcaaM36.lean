/- What PrintFields wrote ParseFields reads: plain. -/
import Derived.Test.YtolicaaifhfhcaaM35
import Derived.Test.YtolicaaifhfhcaaM33
namespace Go.Proofs.Ytolicaaifhfhcaa
open Go.RowKit
set_option linter.unusedVariables false

theorem strOfNums_list (xs : List Int) : (strOfNums xs).data.toList = xs.map fun n => UInt8.ofNat n.toNat := by simp [strOfNums]
theorem foldl_bigL (n : Nat) : ∀ (k a : Nat), ((bigL n k).map fun z => UInt8.ofNat z.toNat).foldl (fun m b => m * 256 + b.toNat) a = a * 256 ^ k + n % 256 ^ k
  | 0, a => by simp [bigL, Nat.mod_one]
  | k + 1, a => by
    have e : bigL n (k + 1) = ((n / 256 ^ k % 256 : Nat) : Int) :: bigL n k := rfl
    rw [e, List.map_cons, List.foldl_cons, foldl_bigL n k]
    have h8 : (UInt8.ofNat (((n / 256 ^ k % 256 : Nat) : Int)).toNat).toNat = n / 256 ^ k % 256 := by
      rw [Int.toNat_natCast]; exact UInt8.toNat_ofNat_of_lt' (Nat.mod_lt _ (by decide))
    rw [h8, Nat.pow_succ, Nat.mod_mul, Nat.add_mul]
    have : a * 256 * 256 ^ k = a * (256 ^ k * 256) := by rw [Nat.mul_assoc, Nat.mul_comm 256]
    rw [this, Nat.mul_comm (256 ^ k) (n / 256 ^ k % 256)]
    omega
theorem valN_bigL (n k : Nat) (h : n < 256 ^ k) : valN ((bigL n k).map fun z => UInt8.ofNat z.toNat) = n := by
  unfold valN; rw [foldl_bigL, Nat.mod_eq_of_lt h]; simp
theorem lt_tagLen (t : Nat) (h : t < 16777216) : t < 256 ^ tagLen t := by
  unfold tagLen; split
  · simpa using ‹_›
  · split
    · simpa using ‹_›
    · simpa using h

theorem parse_text (fs : List (Int × Int)) : ∀ n, fs.all okF = true → fs.length ≤ n → parseL n ((textL fs).map fun z => UInt8.ofNat z.toNat) = some fs := by
  induction fs with
  | nil => intro n _ _; cases n <;> simp [textL, parseL]
  | cons f fs ih =>
    intro n hok hn
    obtain ⟨m, rfl⟩ : ∃ m, n = m + 1 := ⟨n - 1, by simp at hn; omega⟩
    rw [List.all_cons, Bool.and_eq_true] at hok
    obtain ⟨hf, hr⟩ := hok
    have ih' := ih m hr (by simpa using hn)
    obtain ⟨t, ln⟩ := f
    unfold okF at hf
    simp only [Bool.and_eq_true, Bool.not_eq_true', decide_eq_true_eq] at hf
    obtain ⟨hv, hm, h0, h255⟩ := hf
    have hlt := validB_lt hv
    obtain ⟨k, rfl⟩ : ∃ k : Nat, t = (k : Int) := ⟨t.toNat, by omega⟩
    obtain ⟨y, rfl⟩ : ∃ y : Nat, ln = (y : Int) := ⟨ln.toNat, by omega⟩
    rw [Int.toNat_natCast] at hm
    have hsp : (textL (((k : Int), (y : Int)) :: fs)).map (fun z => UInt8.ofNat z.toNat) = (bigL k (tagLen k)).map (fun z => UInt8.ofNat z.toNat) ++ (UInt8.ofNat y :: (textL fs).map fun z => UInt8.ofNat z.toNat) := by
      simp [textL, tagL]
    rw [hsp]
    have hb := valN_bigL k (tagLen k) (lt_tagLen k (by omega))
    have hlen : ((bigL k (tagLen k)).map fun z => UInt8.ofNat z.toNat).length = tagLen k := by rw [List.length_map, bigL_length]
    generalize (bigL k (tagLen k)).map (fun z => UInt8.ofNat z.toNat) = bs at *
    generalize (textL fs).map (fun z => UInt8.ofNat z.toNat) = r at *
    obtain ⟨e1, e2⟩ := tag_text_back k (UInt8.ofNat y :: r) hv bs hlen hb
    have hne : bs ++ UInt8.ofNat y :: r ≠ [] := by simp
    have hfa : fieldAt (bs ++ UInt8.ofNat y :: r) = some (((k : Int), (y : Int)), r) := by
      unfold fieldAt
      rw [e1, e2, hb, if_pos ⟨by simp; omega, hv, hm⟩, ← hlen]
      have h8 : (UInt8.ofNat y).toNat = y := UInt8.toNat_ofNat_of_lt' (by show y < 256; omega)
      simp [List.getD_eq_getElem?_getD, h8]
    rw [parseL, if_neg hne, hfa]
    simp only [ih', Option.map_some]

theorem round_text (fs : List (Int × Int)) (he : fieldsE fs = 0) : parseL 100 (printS fs).data.toList = some fs := by
  unfold printS
  rw [if_pos he, strOfNums_list]
  have := fieldsE_zero he
  exact parse_text fs 100 this.1 this.2
theorem print_empty (fs : List (Int × Int)) (he : fieldsE fs ≠ 0) : printS fs = ⟨#[]⟩ ∧ 0 < fs.length := by
  refine ⟨by unfold printS; rw [if_neg he], ?_⟩
  cases fs with
  | nil => exact absurd rfl he
  | cons a b => simp
end Go.Proofs.Ytolicaaifhfhcaa
namespace Go.Proofs.Ytolicaaifhfhcaa
open Go.RowKit
set_option linter.unusedVariables false

theorem valN_inj : ∀ (n : Nat) (x y : List UInt8), x.length = n → y.length = n → valN x = valN y → x = y
  | 0, x, y, hx, hy, _ => by rw [List.length_eq_zero_iff.1 hx, List.length_eq_zero_iff.1 hy]
  | n + 1, x, y, hx, hy, h => by
    have nx : x ≠ [] := by intro e; rw [e] at hx; simp at hx
    have ny : y ≠ [] := by intro e; rw [e] at hy; simp at hy
    rw [← List.dropLast_concat_getLast nx, ← List.dropLast_concat_getLast ny] at h ⊢
    rw [valN_snoc, valN_snoc] at h
    have la := (x.getLast nx).toNat_lt
    have lb := (y.getLast ny).toNat_lt
    have e1 : valN x.dropLast = valN y.dropLast := by omega
    have e2 : x.getLast nx = y.getLast ny := UInt8.toNat_inj.1 (by omega)
    rw [valN_inj n x.dropLast y.dropLast (by simp; omega) (by simp; omega) e1, e2]
theorem extract_take (s : ByteArray) (j : Nat) : (s.extract 0 j).data.toList = s.data.toList.take j := by
  rw [ByteArray.data_extract, Array.toList_extract, List.extract_eq_take_drop]; simp
/-- the tag's own text is the text that it was read from, if that is as long -/
theorem text_same (s : ByteArray) (j : Nat) (hj : j ≤ s.size) : (strOfNums (bigL (valN (s.data.toList.take j)) (tagLen (valN (s.data.toList.take j)))) = s.extract 0 j) ↔ tagLen (valN (s.data.toList.take j)) = j := by
  constructor
  · intro h
    have := congrArg ByteArray.size h
    rw [strOfNums_size, bigL_length, ByteArray.size_extract] at this
    omega
  · intro h
    rw [h]
    apply ByteArray.ext
    apply Array.toList_inj.1
    rw [strOfNums_list, extract_take]
    have hlen : (s.data.toList.take j).length = j := by rw [List.length_take]; simp; omega
    refine valN_inj j _ _ (by rw [List.length_map, bigL_length]) hlen ?_
    have := valN_lt (s.data.toList.take j)
    rw [hlen] at this
    exact valN_bigL _ _ this

/-- no beginning of less than j bytes is a tag -/
def Tried (l : List UInt8) (j : Nat) : Prop := ∀ i, 1 ≤ i → i < j → goodB l i = false
theorem tried_next {l : List UInt8} {j : Nat} (h : Tried l j) (hg : goodB l j = false) : Tried l (j + 1) := fun i h1 h2 => by
  rcases Nat.lt_or_ge i j with h3 | h3
  · exact h i h1 h3
  · have : i = j := by omega
    rw [this]; exact hg
theorem tried_none {l : List UInt8} {j : Nat} (h : Tried l j) (hg : goodB l j = false) (he : j = 3 ∨ j = l.length) : fieldAt l = none := by
  unfold fieldAt
  split
  · rename_i hc
    have h13 := tagSz_le l
    have hgood := (good_iff l (tagSz l) h13.1 h13.2 (by omega)).2 ⟨rfl, hc.2.1⟩
    have := h (tagSz l) h13.1
    rcases Nat.lt_trichotomy (tagSz l) j with h1 | h1 | h1
    · rw [this h1] at hgood; cases hgood
    · rw [h1, hg] at hgood; cases hgood
    · omega
  · rfl
theorem good_field {l : List UInt8} {j : Nat} (h1 : 1 ≤ j) (h3 : j ≤ 3) (hl : j ≤ l.length) (hg : goodB l j = true) :
    fieldAt l = if j < l.length ∧ madeB (valN (l.take j)) = false then some (((valN (l.take j) : Int), ((l.getD j 0).toNat : Int)), l.drop (j + 1)) else none := by
  obtain ⟨e, hv⟩ := (good_iff l j h1 h3 hl).1 hg
  unfold fieldAt
  rw [← e, hv]
  simp
theorem goodB_parts {l : List UInt8} {j : Nat} (hg : goodB l j = true) : validB (valN (l.take j)) = true ∧ tagLen (valN (l.take j)) = j := by
  unfold goodB at hg; simpa using hg
theorem goodB_not {l : List UInt8} {j : Nat} (hg : goodB l j = false) : validB (valN (l.take j)) = false ∨ validB (valN (l.take j)) = true ∧ tagLen (valN (l.take j)) ≠ j := by
  unfold goodB at hg
  cases hv : validB (valN (l.take j)) with
  | false => exact .inl rfl
  | true => rw [hv] at hg; exact .inr ⟨rfl, by simpa using hg⟩
theorem ownsRow_below {w w' : World} {base : Nat} {e : TypeId} {size : Nat} {v : Value} {n : Nat} {xs : List Value} (h : w.ownsRow base e size v n xs) (hb : Below w.heap.size w w') : w'.ownsRow base e size v n xs := by
  refine ⟨h.1, ?_⟩
  rcases h.2 with h0 | ⟨g, cap, cur, e1, e2, e3, e4⟩
  · exact .inl h0
  · refine .inr ⟨g, cap, cur, e1, e2, ?_, e4⟩
    have hg : g < w.heap.size := by
      rcases Nat.lt_or_ge g w.heap.size with h | h
      · exact h
      · rw [Array.getElem?_eq_none h] at e3; cases e3
    rw [hb.block g hg]; exact e3
end Go.Proofs.Ytolicaaifhfhcaa
namespace Go.Proofs.Ytolicaaifhfhcaa
open Go.RowKit
set_option linter.unusedVariables false

/-- the tag and the length at the beginning, and how many bytes they take -/
def headD (s : ByteArray) : Option (Nat × Nat × Nat) :=
  if s.size < tagSz s.data.toList then none
  else if validB (tagAt s) = false then none
  else match lenAt (behind s (tagSz s.data.toList)) with
    | none => none
    | some (n, k) => some (tagAt s, n, tagSz s.data.toList + k)
def headV (r : Option (Nat × Nat × Nat)) : Value := match r with
  | some (t, n, k) => .tuple #[.int .i64 t, .int .i64 n, .int .i64 k]
  | none => .tuple #[.int .i64 0, .int .i64 0, .int .i64 0]
theorem head_none {s : ByteArray} {j : Nat} (h : Tried s.data.toList j) (hj : 3 < j ∨ s.size < j) : headD s = none := by
  unfold headD
  split
  · rfl
  · rename_i hz
    split
    · rfl
    · rename_i hv
      have h13 := tagSz_le s.data.toList
      have hl : s.data.toList.length = s.size := by simp
      have hg := (good_iff s.data.toList (tagSz s.data.toList) h13.1 h13.2 (by omega)).2 ⟨rfl, by simpa [tagAt] using hv⟩
      have := h (tagSz s.data.toList) h13.1 (by omega)
      rw [this] at hg
      cases hg
theorem head_some {s : ByteArray} {j : Nat} (h1 : 1 ≤ j) (h3 : j ≤ 3) (hj : j ≤ s.size) (hg : goodB s.data.toList j = true) :
    headD s = match lenAt (behind s j) with | none => none | some (n, k) => some (valN (s.data.toList.take j), n, j + k) := by
  have hl : s.data.toList.length = s.size := by simp
  obtain ⟨e, hv⟩ := (good_iff s.data.toList j h1 h3 (by omega)).1 hg
  unfold headD tagAt
  rw [← e, hv, if_neg (by omega)]
  rfl

theorem val_13 (r : ByteArray) (h : 3 ≤ r.size) : valN (r.extract 1 3).data.toList = byteAt r 1 * 256 + byteAt r 2 := by
  have e : (r.extract 1 3).data.toList = (r.data.toList.drop 1).take 2 := by
    rw [ByteArray.data_extract, Array.toList_extract, List.extract_eq_take_drop]
  have hl : r.data.toList.length = r.size := by simp
  rw [e]
  unfold byteAt
  match hq : r.data.toList, hl with
  | [], hl => simp at hl; omega
  | [a], hl => simp at hl; omega
  | [a, b], hl => simp at hl; omega
  | a :: b :: c :: l, hl =>
    simp only [List.drop_succ_cons, List.drop_zero, List.take_succ_cons, List.take_zero]
    rw [valN_two]
    rfl
theorem ret_head {t n k : Nat} {a b c : Int} (h1 : a = t) (h2 : b = n) (h3 : c = k) : Ending.returned (.tuple #[.int .i64 a, .int .i64 b, .int .i64 c]) = .returned (headV (some (t, n, k))) := by rw [h1, h2, h3]; rfl

end Go.Proofs.Ytolicaaifhfhcaa
namespace Go.Proofs.Ytolicaaifhfhcaa
open Go.RowKit
set_option linter.unusedVariables false

theorem behind_behind (s : ByteArray) (i j : Nat) (h : i + j ≤ s.size) : behind (behind s i) j = s.extract (i + j) s.size := by
  unfold behind
  rw [ByteArray.size_extract, ByteArray.extract_extract]
  congr 1
  omega
theorem behind_take (s : ByteArray) (i n : Nat) (h : i + n ≤ s.size) : (s.extract i s.size).extract 0 n = s.extract i (i + n) := by
  rw [ByteArray.extract_extract]
  congr 1
  omega

/-- an item, by its head -/
theorem item_head {P : ByteArray → Option (List It)} {s : ByteArray} : itemAt P s = match headD s with
    | none => none
    | some (t, n, k) => if s.size < k + n then none else if madeB t = true then (P (s.extract k (k + n))).map fun l => (.mk t ⟨#[]⟩ l, s.extract (k + n) s.size) else some (.mk t (s.extract k (k + n)) [], s.extract (k + n) s.size) := by
  unfold itemAt headD
  split
  · rfl
  · rename_i hz
    split
    · rfl
    · cases hl : lenAt (behind s (tagSz s.data.toList)) with
      | none => rfl
      | some nk =>
        obtain ⟨n, k⟩ := nk
        have hk := lenAt_lt hl
        rw [behind_size] at hk
        simp only
        rw [behind_size, behind_size]
        by_cases hn : s.size - tagSz s.data.toList - k < n
        · rw [if_pos hn, if_pos (by omega)]
        · have hn2 : ¬ s.size < tagSz s.data.toList + k + n := by omega
          rw [if_neg hn, if_neg hn2]
          have e1 : behind (behind s (tagSz s.data.toList)) k = s.extract (tagSz s.data.toList + k) s.size := behind_behind s _ k (by omega)
          have e2 : (s.extract (tagSz s.data.toList + k) s.size).extract 0 n = s.extract (tagSz s.data.toList + k) (tagSz s.data.toList + k + n) := behind_take s _ n (by omega)
          have e3 : behind (s.extract (tagSz s.data.toList + k) s.size) n = s.extract (tagSz s.data.toList + k + n) s.size := behind_behind s (tagSz s.data.toList + k) n (by omega)
          rw [e1, e2, e3]


theorem head_lt {s : ByteArray} {t n k : Nat} (h : headD s = some (t, n, k)) : t < 16777216 ∧ n < 65536 ∧ 1 ≤ k ∧ k ≤ s.size ∧ validB (t : Int) = true := by
  have hm := valN_take3 s (tagSz s.data.toList) (tagSz_le s.data.toList).2
  have h1 := (tagSz_le s.data.toList).1
  unfold headD at h
  split at h
  · cases h
  · split at h
    · cases h
    · rename_i hv
      split at h
      · cases h
      · rename_i n' k' hl
        have hk := lenAt_lt hl
        rw [behind_size] at hk
        cases h
        refine ⟨hm, hk.1, by omega, by omega, by simpa using hv⟩

/-- the fuel says nothing where it is enough -/
theorem listP_fuel (P : ByteArray → Option (List It)) : ∀ (f g : Nat) (s : ByteArray), s.size ≤ f → s.size ≤ g → listP P f s = listP P g s
  | 0, g, s, hf, hg => by rw [listP_empty P 0 (by omega), listP_empty P g (by omega)]
  | f + 1, 0, s, hf, hg => by rw [listP_empty P _ (by omega), listP_empty P 0 (by omega)]
  | f + 1, g + 1, s, hf, hg => by
    by_cases hz : s.size = 0
    · rw [listP_empty P _ hz, listP_empty P _ hz]
    · rw [listP_step hz, listP_step hz]
      cases hi : itemAt P s with
      | none => rfl
      | some xr =>
        obtain ⟨x, r⟩ := xr
        have := item_size hi
        simp only
        rw [listP_fuel P f g r (by omega) (by omega)]
theorem parse_step {d : Nat} {s : ByteArray} (hz : s.size ≠ 0) : parseD (d + 1) s = match itemAt (parseD d) s with | none => none | some (x, r) => (parseD (d + 1) r).map (x :: ·) := by
  show listP (parseD d) s.size s = _
  obtain ⟨f, hf⟩ : ∃ f, s.size = f + 1 := ⟨s.size - 1, by omega⟩
  conv => lhs; rw [hf]
  rw [listP_step hz]
  cases hi : itemAt (parseD d) s with
  | none => rfl
  | some xr =>
    obtain ⟨x, r⟩ := xr
    have := item_size hi
    simp only
    rw [listP_fuel (parseD d) f r.size r (by omega) (Nat.le_refl _)]
    rfl


theorem RHold.cons {W : World} {A : Nat → Prop} {d : Nat} {rs : List Raw} {acc : List It} (h : RHold W A d rs acc) {r : Raw} {x : It} (h1 : r.tag = x.tag) (h2 : r.text = x.text) (h3 : r.n = x.list.length) (h4 : r.n ≤ r.cc) (h5 : IRowA W A d r.co x.list) (h6 : x.tag ≤ 9223372036854775807) (h7 : x.text.size ≤ maxLen) : RHold W A d ([r] ++ rs) (x :: acc) := by
  refine ⟨by simp [h.1], fun i r' x' hr hx => ?_⟩
  cases i with
  | zero => simp at hr hx; subst hr hx; exact ⟨h1, h2, h3, h4, h5, h6, h7⟩
  | succ i => exact h.2 i r' x' (by simpa using hr) (by simpa using hx)
theorem own_lit (w : World) (base : Nat) (hb : base ≤ w.heap.size) (a b c : Value) (e : TypeId) : (w.alloc (.cells #[a, b, c] e)).ownsRow base e 3 (.slice (some ⟨w.heap.size, 0, none⟩) 1 1) 1 [a, b, c] :=
  ⟨rfl, .inr ⟨w.heap.size, 1, #[a, b, c], rfl, hb, heap_alloc_new w _, Nat.le_refl _, by unfold maxLen; omega, rfl, rfl⟩⟩

end Go.Proofs.Ytolicaaifhfhcaa
