/- ParseFields of the program. -/
import Derived.Test.YtajkbkljonejnaaGreatDoorM35
import Derived.Test.YtajkbkljonejnaaGreatDoorM34
import Derived.Test.YtajkbkljonejnaaGreatDoorM02
import Derived.ArgAppend
import Derived.Lib.AppendStr
import Derived.Deep.RegionHeld3
import Derived.Lib.ConvBytes
namespace Go.Proofs.YtajkbkljonejnaaGreatDoor
open Go.RowKit
set_option linter.unusedVariables false

/-- the field at the beginning, and what is behind it -/
def fieldAt (l : List UInt8) : Option ((Int × Int) × List UInt8) :=
  if tagSz l < l.length ∧ validB (valN (l.take (tagSz l))) = true ∧ madeB (valN (l.take (tagSz l))) = false then
    some (((valN (l.take (tagSz l)) : Int), ((l.getD (tagSz l) 0).toNat : Int)), l.drop (tagSz l + 1)) else none
/-- a row that is read, of at most n fields -/
def parseL : Nat → List UInt8 → Option (List (Int × Int))
  | 0, l => if l = [] then some [] else none
  | n + 1, l => if l = [] then some [] else match fieldAt l with | none => none | some (f, r) => (parseL n r).map (f :: ·)
def parsed (l : List UInt8) : List (Int × Int) := (parseL 100 l).getD []
def parseE (l : List UInt8) : Int := if (parseL 100 l).isSome then 0 else 1
def cellsF (fs : List (Int × Int)) : List Value := fs.flatMap fun f => [.int .i64 f.1, .int .i64 f.2]
theorem cellsF_snoc (fs : List (Int × Int)) (f : Int × Int) : cellsF (fs ++ [f]) = cellsF fs ++ [.int .i64 f.1, .int .i64 f.2] := by simp [cellsF]
theorem infoField : (Tryz.prog.info? 72).map (fun i => (i.zero, i.size, i.bytes)) = some (some (.agg #[.int .i64 0, .int .i64 0]), 2, 16) := by kernel_rfl
def strLen : Value → Nat | .string s => s.size | _ => 0
/-- where the reading stands -/
def ParseAt (L : List UInt8) (acc : List (Int × Int)) (l : List UInt8) : Prop := parseL 100 L = (parseL (100 - acc.length) l).map (acc ++ ·)

theorem drop_extract (s : ByteArray) (k : Nat) : (s.extract k s.size).data.toList = s.data.toList.drop k := by
  rw [ByteArray.data_extract, Array.toList_extract, List.extract_eq_take_drop]
  exact List.take_of_length_le (by simp)

theorem parse_stop (n : Nat) (l : List UInt8) (hl : l ≠ []) (h : fieldAt l = none ∨ n = 0) : parseL n l = none := by
  cases n with
  | zero => unfold parseL; rw [if_neg hl]
  | succ n =>
    rcases h with h | h
    · unfold parseL; rw [if_neg hl, h]
    · omega
theorem parseE_none {l : List UInt8} (h : parseL 100 l = none) : parseE l = 1 := by unfold parseE; rw [h]; rfl
theorem parsed_none {l : List UInt8} (h : parseL 100 l = none) : parsed l = [] := by unfold parsed; rw [h]; rfl
theorem parseE_some {l : List UInt8} {fs : List (Int × Int)} (h : parseL 100 l = some fs) : parseE l = 0 := by unfold parseE; rw [h]; rfl
theorem parsed_some {l : List UInt8} {fs : List (Int × Int)} (h : parseL 100 l = some fs) : parsed l = fs := by unfold parsed; rw [h]; rfl

theorem ownsRow_two {wr : World} {base : Nat} {e : TypeId} {size : Nat} {v : Value} {n : Nat} {xs : List Value} (h : wr.ownsRow base e size v n xs) (q : Nat) (o : Obj) : ((wr.drewN q).alloc o).ownsRow base e size v n xs :=
  World.ownsRow.alloc (w := wr.drewN q) h o
theorem two_new' (w : World) (q : Nat) (x y : Value) (e : TypeId) : ∀ j u, [x, y][j]? = some u → ((w.drewN q).alloc (.cells #[x, y] e)).cell? ((⟨w.heap.size, 0, none⟩ : Addr).add j) = some u := two_new (w.drewN q) x y e

end Go.Proofs.YtajkbkljonejnaaGreatDoor
namespace Go.Proofs.YtajkbkljonejnaaGreatDoor
open Go.RowKit
set_option linter.unusedVariables false

/-- are the first n bytes a tag? -/
def goodB (l : List UInt8) (n : Nat) : Bool := validB (valN (l.take n)) && decide (tagLen (valN (l.take n)) = n)
theorem valN_two (a b : UInt8) : valN [a, b] = a.toNat * 256 + b.toNat := by simp [valN]
theorem valN_three (a b c : UInt8) : valN [a, b, c] = (a.toNat * 256 + b.toNat) * 256 + c.toNat := by simp [valN]
theorem valN_one (a : UInt8) : valN [a] = a.toNat := by simp [valN]

theorem validB_iff (t : Nat) : validB (t : Int) = true ↔ (1 ≤ t ∧ t < 256 ∧ t % 32 ≠ 31) ∨ (256 ≤ t ∧ t < 65536 ∧ t / 256 % 32 = 31 ∧ 31 ≤ t % 256 ∧ t % 256 ≤ 127) ∨ (65536 ≤ t ∧ t < 16777216 ∧ t / 65536 % 32 = 31 ∧ 129 ≤ t / 256 % 256 ∧ t % 256 ≤ 127) := by
  unfold validB
  split
  · simp; omega
  · split
    · simp; omega
    · split
      · simp; omega
      · simp; omega
theorem tagLen_iff (t n : Nat) : tagLen t = n ↔ (t < 256 ∧ n = 1) ∨ (256 ≤ t ∧ t < 65536 ∧ n = 2) ∨ (65536 ≤ t ∧ n = 3) := by
  unfold tagLen; split
  · omega
  · split <;> omega
theorem tagSz_one (a : UInt8) (n : Nat) : n = tagSz [a] ↔ (a.toNat % 32 = 31 ∧ n = 2) ∨ (a.toNat % 32 ≠ 31 ∧ n = 1) := by
  simp only [tagSz]; split <;> omega
theorem tagSz_more (a b : UInt8) (r : List UInt8) (n : Nat) : n = tagSz (a :: b :: r) ↔ (a.toNat % 32 = 31 ∧ b.toNat < 128 ∧ n = 2) ∨ (a.toNat % 32 = 31 ∧ 128 ≤ b.toNat ∧ n = 3) ∨ (a.toNat % 32 ≠ 31 ∧ n = 1) := by
  simp only [tagSz]; split
  · split <;> omega
  · omega

theorem good_iff (l : List UInt8) (n : Nat) (h1 : 1 ≤ n) (h3 : n ≤ 3) (hl : n ≤ l.length) : goodB l n = true ↔ n = tagSz l ∧ validB (valN (l.take n)) = true := by
  unfold goodB
  rw [Bool.and_eq_true, decide_eq_true_iff, validB_iff, tagLen_iff]
  match l, hl with
  | [], hl => simp at hl; omega
  | [a], hl =>
    have : n = 1 := by simp at hl; omega
    subst this
    have la := a.toNat_lt
    rw [show [a].take 1 = [a] by rfl, valN_one, tagSz_one]
    omega
  | a :: b :: r, hl =>
    have la := a.toNat_lt
    have lb := b.toNat_lt
    rw [tagSz_more]
    have hn : n = 1 ∨ n = 2 ∨ n = 3 := by omega
    rcases hn with rfl | rfl | rfl
    · rw [show (a :: b :: r).take 1 = [a] by rfl, valN_one]; omega
    · rw [show (a :: b :: r).take 2 = [a, b] by simp, valN_two]
      generalize a.toNat = x at *
      generalize b.toNat = y at *
      have e1 : (x * 256 + y) / 256 = x := by omega
      have e2 : (x * 256 + y) % 256 = y := by omega
      rw [e1, e2]; omega
    · match r, hl with
      | [], hl => simp at hl
      | c :: r, hl =>
        have lc := c.toNat_lt
        rw [show (a :: b :: c :: r).take 3 = [a, b, c] by simp, valN_three]
        generalize a.toNat = x at *
        generalize b.toNat = y at *
        generalize c.toNat = z at *
        have e1 : ((x * 256 + y) * 256 + z) / 65536 = x := by omega
        have e2 : ((x * 256 + y) * 256 + z) % 256 = z := by omega
        have e3 : ((x * 256 + y) * 256 + z) / 256 % 256 = y := by omega
        rw [e1, e2, e3]; omega

/-- a tag's own text begins with the tag, and no more of it -/
theorem tag_text_back (t : Nat) (r : List UInt8) (hv : validB (t : Int) = true) (bs : List UInt8) (hb : bs.length = tagLen t) (hval : valN bs = t) :
    tagSz (bs ++ r) = tagLen t ∧ (bs ++ r).take (tagLen t) = bs := by
  have hk : (bs ++ r).take (tagLen t) = bs := by rw [← hb]; exact List.take_left
  have h13 := tagLen_le t
  have := (good_iff (bs ++ r) (tagLen t) h13.1 h13.2 (by simp; omega)).1 (by unfold goodB; rw [hk, hval, hv]; simp)
  exact ⟨this.1.symm, hk⟩
end Go.Proofs.YtajkbkljonejnaaGreatDoor
namespace Go.Proofs.YtajkbkljonejnaaGreatDoor
open Go.RowKit
set_option linter.unusedVariables false

theorem strOfNums_list (xs : List Int) : (strOfNums xs).data.toList = xs.map fun n => UInt8.ofNat n.toNat := by simp [strOfNums]
theorem foldl_bigL (n : Nat) : ∀ (k a : Nat), ((bigL n k).map fun z => UInt8.ofNat z.toNat).foldl (fun m b => m * 256 + b.toNat) a = a * 256 ^ k + n % 256 ^ k
  | 0, a => by simp [bigL, Nat.mod_one]
  | k + 1, a => by
    have e : bigL n (k + 1) = ((n / 256 ^ k % 256 : Nat) : Int) :: bigL n k := rfl
    rw [e, List.map_cons, List.foldl_cons, foldl_bigL n k]
    have h8 : (UInt8.ofNat (((n / 256 ^ k % 256 : Nat) : Int)).toNat).toNat = n / 256 ^ k % 256 := by
      rw [Int.toNat_natCast]; exact UInt8.toNat_ofNat_of_lt' (Nat.mod_lt _ (by decide))
    rw [h8, Nat.pow_succ, Nat.mod_mul, Nat.add_mul]
    have : a * 256 * 256 ^ k = a * (256 ^ k * 256) := by rw [Nat.mul_assoc, Nat.mul_comm 256]
    rw [this, Nat.mul_comm (256 ^ k) (n / 256 ^ k % 256)]
    omega
theorem valN_bigL (n k : Nat) (h : n < 256 ^ k) : valN ((bigL n k).map fun z => UInt8.ofNat z.toNat) = n := by
  unfold valN; rw [foldl_bigL, Nat.mod_eq_of_lt h]; simp
theorem lt_tagLen (t : Nat) (h : t < 16777216) : t < 256 ^ tagLen t := by
  unfold tagLen; split
  · simpa using ‹_›
  · split
    · simpa using ‹_›
    · simpa using h

theorem parse_text (fs : List (Int × Int)) : ∀ n, fs.all okF = true → fs.length ≤ n → parseL n ((textL fs).map fun z => UInt8.ofNat z.toNat) = some fs := by
  induction fs with
  | nil => intro n _ _; cases n <;> simp [textL, parseL]
  | cons f fs ih =>
    intro n hok hn
    obtain ⟨m, rfl⟩ : ∃ m, n = m + 1 := ⟨n - 1, by simp at hn; omega⟩
    rw [List.all_cons, Bool.and_eq_true] at hok
    obtain ⟨hf, hr⟩ := hok
    have ih' := ih m hr (by simpa using hn)
    obtain ⟨t, ln⟩ := f
    unfold okF at hf
    simp only [Bool.and_eq_true, Bool.not_eq_true', decide_eq_true_eq] at hf
    obtain ⟨hv, hm, h0, h255⟩ := hf
    have hlt := validB_lt hv
    obtain ⟨k, rfl⟩ : ∃ k : Nat, t = (k : Int) := ⟨t.toNat, by omega⟩
    obtain ⟨y, rfl⟩ : ∃ y : Nat, ln = (y : Int) := ⟨ln.toNat, by omega⟩
    rw [Int.toNat_natCast] at hm
    have hsp : (textL (((k : Int), (y : Int)) :: fs)).map (fun z => UInt8.ofNat z.toNat) = (bigL k (tagLen k)).map (fun z => UInt8.ofNat z.toNat) ++ (UInt8.ofNat y :: (textL fs).map fun z => UInt8.ofNat z.toNat) := by
      simp [textL, tagL]
    rw [hsp]
    have hb := valN_bigL k (tagLen k) (lt_tagLen k (by omega))
    have hlen : ((bigL k (tagLen k)).map fun z => UInt8.ofNat z.toNat).length = tagLen k := by rw [List.length_map, bigL_length]
    generalize (bigL k (tagLen k)).map (fun z => UInt8.ofNat z.toNat) = bs at *
    generalize (textL fs).map (fun z => UInt8.ofNat z.toNat) = r at *
    obtain ⟨e1, e2⟩ := tag_text_back k (UInt8.ofNat y :: r) hv bs hlen hb
    have hne : bs ++ UInt8.ofNat y :: r ≠ [] := by simp
    have hfa : fieldAt (bs ++ UInt8.ofNat y :: r) = some (((k : Int), (y : Int)), r) := by
      unfold fieldAt
      rw [e1, e2, hb, if_pos ⟨by simp; omega, hv, hm⟩, ← hlen]
      have h8 : (UInt8.ofNat y).toNat = y := UInt8.toNat_ofNat_of_lt' (by show y < 256; omega)
      simp [List.getD_eq_getElem?_getD, h8]
    rw [parseL, if_neg hne, hfa]
    simp only [ih', Option.map_some]

theorem round_text (fs : List (Int × Int)) (he : fieldsE fs = 0) : parseL 100 (printS fs).data.toList = some fs := by
  unfold printS
  rw [if_pos he, strOfNums_list]
  have := fieldsE_zero he
  exact parse_text fs 100 this.1 this.2
theorem print_empty (fs : List (Int × Int)) (he : fieldsE fs ≠ 0) : printS fs = ⟨#[]⟩ ∧ 0 < fs.length := by
  refine ⟨by unfold printS; rw [if_neg he], ?_⟩
  cases fs with
  | nil => exact absurd rfl he
  | cons a b => simp
end Go.Proofs.YtajkbkljonejnaaGreatDoor
namespace Go.Proofs.YtajkbkljonejnaaGreatDoor
open Go.RowKit
set_option linter.unusedVariables false

theorem valN_inj : ∀ (n : Nat) (x y : List UInt8), x.length = n → y.length = n → valN x = valN y → x = y
  | 0, x, y, hx, hy, _ => by rw [List.length_eq_zero_iff.1 hx, List.length_eq_zero_iff.1 hy]
  | n + 1, x, y, hx, hy, h => by
    have nx : x ≠ [] := by intro e; rw [e] at hx; simp at hx
    have ny : y ≠ [] := by intro e; rw [e] at hy; simp at hy
    rw [← List.dropLast_concat_getLast nx, ← List.dropLast_concat_getLast ny] at h ⊢
    rw [valN_snoc, valN_snoc] at h
    have la := (x.getLast nx).toNat_lt
    have lb := (y.getLast ny).toNat_lt
    have e1 : valN x.dropLast = valN y.dropLast := by omega
    have e2 : x.getLast nx = y.getLast ny := UInt8.toNat_inj.1 (by omega)
    rw [valN_inj n x.dropLast y.dropLast (by simp; omega) (by simp; omega) e1, e2]
theorem extract_take (s : ByteArray) (j : Nat) : (s.extract 0 j).data.toList = s.data.toList.take j := by
  rw [ByteArray.data_extract, Array.toList_extract, List.extract_eq_take_drop]; simp
/-- the tag's own text is the text that it was read from, if that is as long -/
theorem text_same (s : ByteArray) (j : Nat) (hj : j ≤ s.size) : (strOfNums (bigL (valN (s.data.toList.take j)) (tagLen (valN (s.data.toList.take j)))) = s.extract 0 j) ↔ tagLen (valN (s.data.toList.take j)) = j := by
  constructor
  · intro h
    have := congrArg ByteArray.size h
    rw [strOfNums_size, bigL_length, ByteArray.size_extract] at this
    omega
  · intro h
    rw [h]
    apply ByteArray.ext
    apply Array.toList_inj.1
    rw [strOfNums_list, extract_take]
    have hlen : (s.data.toList.take j).length = j := by rw [List.length_take]; simp; omega
    refine valN_inj j _ _ (by rw [List.length_map, bigL_length]) hlen ?_
    have := valN_lt (s.data.toList.take j)
    rw [hlen] at this
    exact valN_bigL _ _ this

/-- no beginning of less than j bytes is a tag -/
def Tried (l : List UInt8) (j : Nat) : Prop := ∀ i, 1 ≤ i → i < j → goodB l i = false
theorem tried_next {l : List UInt8} {j : Nat} (h : Tried l j) (hg : goodB l j = false) : Tried l (j + 1) := fun i h1 h2 => by
  rcases Nat.lt_or_ge i j with h3 | h3
  · exact h i h1 h3
  · have : i = j := by omega
    rw [this]; exact hg
theorem tried_none {l : List UInt8} {j : Nat} (h : Tried l j) (hg : goodB l j = false) (he : j = 3 ∨ j = l.length) : fieldAt l = none := by
  unfold fieldAt
  split
  · rename_i hc
    have h13 := tagSz_le l
    have hgood := (good_iff l (tagSz l) h13.1 h13.2 (by omega)).2 ⟨rfl, hc.2.1⟩
    have := h (tagSz l) h13.1
    rcases Nat.lt_trichotomy (tagSz l) j with h1 | h1 | h1
    · rw [this h1] at hgood; cases hgood
    · rw [h1, hg] at hgood; cases hgood
    · omega
  · rfl
theorem good_field {l : List UInt8} {j : Nat} (h1 : 1 ≤ j) (h3 : j ≤ 3) (hl : j ≤ l.length) (hg : goodB l j = true) :
    fieldAt l = if j < l.length ∧ madeB (valN (l.take j)) = false then some (((valN (l.take j) : Int), ((l.getD j 0).toNat : Int)), l.drop (j + 1)) else none := by
  obtain ⟨e, hv⟩ := (good_iff l j h1 h3 hl).1 hg
  unfold fieldAt
  rw [← e, hv]
  simp
theorem goodB_parts {l : List UInt8} {j : Nat} (hg : goodB l j = true) : validB (valN (l.take j)) = true ∧ tagLen (valN (l.take j)) = j := by
  unfold goodB at hg; simpa using hg
theorem goodB_not {l : List UInt8} {j : Nat} (hg : goodB l j = false) : validB (valN (l.take j)) = false ∨ validB (valN (l.take j)) = true ∧ tagLen (valN (l.take j)) ≠ j := by
  unfold goodB at hg
  cases hv : validB (valN (l.take j)) with
  | false => exact .inl rfl
  | true => rw [hv] at hg; exact .inr ⟨rfl, by simpa using hg⟩
theorem ownsRow_below {w w' : World} {base : Nat} {e : TypeId} {size : Nat} {v : Value} {n : Nat} {xs : List Value} (h : w.ownsRow base e size v n xs) (hb : Below w.heap.size w w') : w'.ownsRow base e size v n xs := by
  refine ⟨h.1, ?_⟩
  rcases h.2 with h0 | ⟨g, cap, cur, e1, e2, e3, e4⟩
  · exact .inl h0
  · refine .inr ⟨g, cap, cur, e1, e2, ?_, e4⟩
    have hg : g < w.heap.size := by
      rcases Nat.lt_or_ge g w.heap.size with h | h
      · exact h
      · rw [Array.getElem?_eq_none h] at e3; cases e3
    rw [hb.block g hg]; exact e3
end Go.Proofs.YtajkbkljonejnaaGreatDoor
namespace Go.Proofs.YtajkbkljonejnaaGreatDoor
open Go.RowKit
set_option linter.unusedVariables false

/-- the tag and the length at the beginning, and how many bytes they take -/
def headD (s : ByteArray) : Option (Nat × Nat × Nat) :=
  if s.size < tagSz s.data.toList then none
  else if validB (tagAt s) = false then none
  else match lenAt (behind s (tagSz s.data.toList)) with
    | none => none
    | some (n, k) => some (tagAt s, n, tagSz s.data.toList + k)
def headV (r : Option (Nat × Nat × Nat)) : Value := match r with
  | some (t, n, k) => .tuple #[.int .i64 t, .int .i64 n, .int .i64 k]
  | none => .tuple #[.int .i64 0, .int .i64 0, .int .i64 0]
theorem head_none {s : ByteArray} {j : Nat} (h : Tried s.data.toList j) (hj : 3 < j ∨ s.size < j) : headD s = none := by
  unfold headD
  split
  · rfl
  · rename_i hz
    split
    · rfl
    · rename_i hv
      have h13 := tagSz_le s.data.toList
      have hl : s.data.toList.length = s.size := by simp
      have hg := (good_iff s.data.toList (tagSz s.data.toList) h13.1 h13.2 (by omega)).2 ⟨rfl, by simpa [tagAt] using hv⟩
      have := h (tagSz s.data.toList) h13.1 (by omega)
      rw [this] at hg
      cases hg
theorem head_some {s : ByteArray} {j : Nat} (h1 : 1 ≤ j) (h3 : j ≤ 3) (hj : j ≤ s.size) (hg : goodB s.data.toList j = true) :
    headD s = match lenAt (behind s j) with | none => none | some (n, k) => some (valN (s.data.toList.take j), n, j + k) := by
  have hl : s.data.toList.length = s.size := by simp
  obtain ⟨e, hv⟩ := (good_iff s.data.toList j h1 h3 (by omega)).1 hg
  unfold headD tagAt
  rw [← e, hv, if_neg (by omega)]
  rfl

theorem val_13 (r : ByteArray) (h : 3 ≤ r.size) : valN (r.extract 1 3).data.toList = byteAt r 1 * 256 + byteAt r 2 := by
  have e : (r.extract 1 3).data.toList = (r.data.toList.drop 1).take 2 := by
    rw [ByteArray.data_extract, Array.toList_extract, List.extract_eq_take_drop]
  have hl : r.data.toList.length = r.size := by simp
  rw [e]
  unfold byteAt
  match hq : r.data.toList, hl with
  | [], hl => simp at hl; omega
  | [a], hl => simp at hl; omega
  | [a, b], hl => simp at hl; omega
  | a :: b :: c :: l, hl =>
    simp only [List.drop_succ_cons, List.drop_zero, List.take_succ_cons, List.take_zero]
    rw [valN_two]
    rfl
theorem ret_head {t n k : Nat} {a b c : Int} (h1 : a = t) (h2 : b = n) (h3 : c = k) : Ending.returned (.tuple #[.int .i64 a, .int .i64 b, .int .i64 c]) = .returned (headV (some (t, n, k))) := by rw [h1, h2, h3]; rfl

end Go.Proofs.YtajkbkljonejnaaGreatDoor
namespace Go.Proofs.YtajkbkljonejnaaGreatDoor
open Go.RowKit
set_option linter.unusedVariables false

theorem behind_behind (s : ByteArray) (i j : Nat) (h : i + j ≤ s.size) : behind (behind s i) j = s.extract (i + j) s.size := by
  unfold behind
  rw [ByteArray.size_extract, ByteArray.extract_extract]
  congr 1
  omega
theorem behind_take (s : ByteArray) (i n : Nat) (h : i + n ≤ s.size) : (s.extract i s.size).extract 0 n = s.extract i (i + n) := by
  rw [ByteArray.extract_extract]
  congr 1
  omega

/-- an item, by its head -/
theorem item_head {P : ByteArray → Option (List It)} {s : ByteArray} : itemAt P s = match headD s with
    | none => none
    | some (t, n, k) => if s.size < k + n then none else if madeB t = true then (P (s.extract k (k + n))).map fun l => (.mk t ⟨#[]⟩ l, s.extract (k + n) s.size) else some (.mk t (s.extract k (k + n)) [], s.extract (k + n) s.size) := by
  unfold itemAt headD
  split
  · rfl
  · rename_i hz
    split
    · rfl
    · cases hl : lenAt (behind s (tagSz s.data.toList)) with
      | none => rfl
      | some nk =>
        obtain ⟨n, k⟩ := nk
        have hk := lenAt_lt hl
        rw [behind_size] at hk
        simp only
        rw [behind_size, behind_size]
        by_cases hn : s.size - tagSz s.data.toList - k < n
        · rw [if_pos hn, if_pos (by omega)]
        · have hn2 : ¬ s.size < tagSz s.data.toList + k + n := by omega
          rw [if_neg hn, if_neg hn2]
          have e1 : behind (behind s (tagSz s.data.toList)) k = s.extract (tagSz s.data.toList + k) s.size := behind_behind s _ k (by omega)
          have e2 : (s.extract (tagSz s.data.toList + k) s.size).extract 0 n = s.extract (tagSz s.data.toList + k) (tagSz s.data.toList + k + n) := behind_take s _ n (by omega)
          have e3 : behind (s.extract (tagSz s.data.toList + k) s.size) n = s.extract (tagSz s.data.toList + k + n) s.size := behind_behind s (tagSz s.data.toList + k) n (by omega)
          rw [e1, e2, e3]


theorem head_lt {s : ByteArray} {t n k : Nat} (h : headD s = some (t, n, k)) : t < 16777216 ∧ n < 65536 ∧ 1 ≤ k ∧ k ≤ s.size ∧ validB (t : Int) = true := by
  have hm := valN_take3 s (tagSz s.data.toList) (tagSz_le s.data.toList).2
  have h1 := (tagSz_le s.data.toList).1
  unfold headD at h
  split at h
  · cases h
  · split at h
    · cases h
    · rename_i hv
      split at h
      · cases h
      · rename_i n' k' hl
        have hk := lenAt_lt hl
        rw [behind_size] at hk
        cases h
        refine ⟨hm, hk.1, by omega, by omega, by simpa using hv⟩

/-- the fuel says nothing where it is enough -/
theorem listP_fuel (P : ByteArray → Option (List It)) : ∀ (f g : Nat) (s : ByteArray), s.size ≤ f → s.size ≤ g → listP P f s = listP P g s
  | 0, g, s, hf, hg => by rw [listP_empty P 0 (by omega), listP_empty P g (by omega)]
  | f + 1, 0, s, hf, hg => by rw [listP_empty P _ (by omega), listP_empty P 0 (by omega)]
  | f + 1, g + 1, s, hf, hg => by
    by_cases hz : s.size = 0
    · rw [listP_empty P _ hz, listP_empty P _ hz]
    · rw [listP_step hz, listP_step hz]
      cases hi : itemAt P s with
      | none => rfl
      | some xr =>
        obtain ⟨x, r⟩ := xr
        have := item_size hi
        simp only
        rw [listP_fuel P f g r (by omega) (by omega)]
theorem parse_step {d : Nat} {s : ByteArray} (hz : s.size ≠ 0) : parseD (d + 1) s = match itemAt (parseD d) s with | none => none | some (x, r) => (parseD (d + 1) r).map (x :: ·) := by
  show listP (parseD d) s.size s = _
  obtain ⟨f, hf⟩ : ∃ f, s.size = f + 1 := ⟨s.size - 1, by omega⟩
  conv => lhs; rw [hf]
  rw [listP_step hz]
  cases hi : itemAt (parseD d) s with
  | none => rfl
  | some xr =>
    obtain ⟨x, r⟩ := xr
    have := item_size hi
    simp only
    rw [listP_fuel (parseD d) f r.size r (by omega) (Nat.le_refl _)]
    rfl


theorem RHold.cons {W : World} {A : Nat → Prop} {d : Nat} {rs : List Raw} {acc : List It} (h : RHold W A d rs acc) {r : Raw} {x : It} (h1 : r.tag = x.tag) (h2 : r.text = x.text) (h3 : r.n = x.list.length) (h4 : r.n ≤ r.cc) (h5 : IRowA W A d r.co x.list) (h6 : x.tag ≤ 9223372036854775807) (h7 : x.text.size ≤ maxLen) : RHold W A d ([r] ++ rs) (x :: acc) := by
  refine ⟨by simp [h.1], fun i r' x' hr hx => ?_⟩
  cases i with
  | zero => simp at hr hx; subst hr hx; exact ⟨h1, h2, h3, h4, h5, h6, h7⟩
  | succ i => exact h.2 i r' x' (by simpa using hr) (by simpa using hx)
theorem own_lit (w : World) (base : Nat) (hb : base ≤ w.heap.size) (a b c : Value) (e : TypeId) : (w.alloc (.cells #[a, b, c] e)).ownsRow base e 3 (.slice (some ⟨w.heap.size, 0, none⟩) 1 1) 1 [a, b, c] :=
  ⟨rfl, .inr ⟨w.heap.size, 1, #[a, b, c], rfl, hb, heap_alloc_new w _, Nat.le_refl _, by unfold maxLen; omega, rfl, rfl⟩⟩

end Go.Proofs.YtajkbkljonejnaaGreatDoor
namespace Go.Proofs.YtajkbkljonejnaaGreatDoor
open Go.RowKit
set_option linter.unusedVariables false

theorem wpList_append_room {P : Program} (w : World) {ops : Array Oper} {rest : List Oper} {o : Oper} {a : Act} {Q : Exit → Act → World → Prop} (hgd : o.guard = none) (s x : Operand) (t : TypeId)
    (ho : o.op = .call { callee := .builtin .append, args := #[s, x], argTypes := #[t, t] }) (e : TypeId) (i : TypeInfo) (ht : P.underlying t = some (.slice e)) (hi : P.info? e = some i) (h1s : i.size = 1)
    (g n cap : Nat) (hs : a.eval s = .slice (some ⟨g, 0, none⟩) n cap) (ad : Addr) (m c : Nat) (news : List Value) (hx : a.eval x = .slice (some ad) m c) (hl : news.length = m) (hnews : ∀ j u, news[j]? = some u → w.cell? (ad.add j) = some u) (h1 : ∀ u ∈ news, u.oneCell' = true)
    (hroom : n + m ≤ cap) (hc : ∀ j, j < news.length → (w.cell? ⟨g, n + j, none⟩).isSome = true) (hf : ∀ j, w.frozen? ⟨g, j, none⟩ = false)
    (h : wpList P ops Q rest (a.put o.dst (.slice (some ⟨g, 0, none⟩) (n + m) cap)) (w.setCells g n news)) : wpList P ops Q (o :: rest) a w := by
  refine wpList_plain hgd fun K hK => ?_
  have hrun := run_append_room_cells (P := P) w t o.type e i ht hi g 0 n cap ad m c news (by rw [h1s]; omega) hnews h1 hroom (by rw [h1s]; simpa using hc) (fun j _ => by rw [h1s]; exact hf _)
  rw [h1s, Nat.mul_one, Nat.zero_add] at hrun
  unfold Oper.wp
  simp [execOp, ho, resolve, invoke, builtin, hs, hx, hrun, Result.andThen]
  exact hK _ _ h

/-- all as it was but for one block, which holds as many cells, and new ones -/
structure RoomTo (g : Nat) (w w' : World) : Prop where
  os : w'.os = w.os
  tape : w'.tape = w.tape
  output : w'.output = w.output
  size : w.heap.size ≤ w'.heap.size
  block : ∀ b, b < w.heap.size → b ≠ g → w'.heap[b]? = w.heap[b]?
def Six (g : Nat) (w : World) : Prop := ∃ cs e, w.heap[g]? = some (.cells cs e (0, 0)) ∧ cs.size = 6
theorem Six.lt {g : Nat} {w : World} (h : Six g w) : g < w.heap.size := by
  obtain ⟨cs, e, h, _⟩ := h
  rcases Nat.lt_or_ge g w.heap.size with h1 | h1
  · exact h1
  · rw [Array.getElem?_eq_none h1] at h; cases h
theorem Six.cell {g : Nat} {w : World} (h : Six g w) (j : Nat) (hj : j < 6) : (w.cell? ⟨g, j, none⟩).isSome = true := by
  obtain ⟨cs, e, h, hs⟩ := h
  rw [cell_of_row w g j cs e _ h]
  simp [hs, hj]
theorem Six.free {g : Nat} {w : World} (h : Six g w) (j : Nat) : w.frozen? ⟨g, j, none⟩ = false := by
  obtain ⟨cs, e, h, hs⟩ := h
  exact frozen_of_row w g j cs e h
theorem Six.alloc {g : Nat} {w : World} (h : Six g w) (o : Obj) : Six g (w.alloc o) := by
  have hl := h.lt
  obtain ⟨cs, e, h, hs⟩ := h
  exact ⟨cs, e, by rw [Below.heap_alloc _ _ _ hl]; exact h, hs⟩
theorem Six.setCell {g : Nat} {w : World} (h : Six g w) (j : Nat) (v : Value) : Six g (w.setCell ⟨g, j, none⟩ v) := by
  obtain ⟨cs, e, h, hs⟩ := h
  exact ⟨cs.setIfInBounds j v, e, by simp [World.setCell, Array.getElem?_modify, h], by simpa using hs⟩
theorem Six.setCells {g : Nat} : ∀ (vs : List Value) (o : Nat) {w : World}, Six g w → Six g (w.setCells g o vs)
  | [], _, _, h => h
  | v :: r, o, _, h => Six.setCells r (o + 1) (h.setCell o v)
theorem RoomTo.refl (g : Nat) (w : World) : RoomTo g w w := ⟨rfl, rfl, rfl, Nat.le_refl _, fun _ _ _ => rfl⟩
theorem RoomTo.alloc {g : Nat} {w w' : World} (h : RoomTo g w w') (o : Obj) : RoomTo g w (w'.alloc o) :=
  ⟨h.os, h.tape, h.output, by have := h.size; simp; omega, fun b hb hne => (Below.heap_alloc _ _ _ (by have := h.size; omega)).trans (h.block b hb hne)⟩
theorem RoomTo.setCell {g : Nat} {w w' : World} (h : RoomTo g w w') (j : Nat) (v : Value) : RoomTo g w (w'.setCell ⟨g, j, none⟩ v) :=
  ⟨h.os, h.tape, h.output, by have := h.size; simpa using this, fun b hb hne => (Below.heap_setCell _ _ _ _ hne).trans (h.block b hb hne)⟩
theorem RoomTo.setCells {g : Nat} : ∀ (vs : List Value) (o : Nat) {w w' : World}, RoomTo g w w' → RoomTo g w (w'.setCells g o vs)
  | [], _, _, _, h => h
  | v :: r, o, _, _, h => RoomTo.setCells r (o + 1) (h.setCell o v)
theorem RoomTo.drew {g : Nat} {w w' : World} (h : RoomTo g w w') : RoomTo g w w'.drew := ⟨h.os, h.tape, h.output, h.size, h.block⟩
theorem RoomTo.trans {g : Nat} {a b c : World} (h : RoomTo g a b) (k : RoomTo g b c) : RoomTo g a c :=
  ⟨k.os.trans h.os, k.tape.trans h.tape, k.output.trans h.output, Nat.le_trans h.size k.size, fun i hi hne => (k.block i (Nat.lt_of_lt_of_le hi h.size) hne).trans (h.block i hi hne)⟩

set_option maxRecDepth 100000 in
set_option maxHeartbeats 1000000 in
theorem appendTag_room (t : Nat) (g : Nat) (w : World) (ht : t < 16777216) (h6 : Six g w) :
    Calls Tryz.prog 92 #[.slice (some ⟨g, 0, none⟩) 0 6, .int .i64 t] w fun e w' => e = .returned (.slice (some ⟨g, 0, none⟩) (tagLen t) 6) ∧ Six g w' ∧ RoomTo g w w' := by
  obtain ⟨i0, hi, hz0, hz1, hz2⟩ := info_parts infoByte
  by_cases c1 : t < 256
  · have hL : tagLen t = 1 := by unfold tagLen; rw [if_pos c1]
    rw [hL]
    clear hL
    go_enter Tryz.func92, Tryz.ntmps92
    go_wp2_with (at_builtin; refine wpList_append_room _ rfl _ _ 55 rfl 5 i0 Tryz.underlying55 hi hz1 g 0 6 rfl ⟨w.heap.size, 0, none⟩ 1 1 [.int .u8 ((t : Int))] rfl rfl (cell_one_new _ _ _) ?c2 (by omega) ?c3 ?c4 ?_)
    case c2 => intro u hu; simp at hu; subst hu; rfl
    case c3 => intro j hj; exact (h6.alloc _).cell _ (by simp at hj; omega)
    case c4 => exact (h6.alloc _).free
    go_wp2
    go_ret
    exact ⟨rfl, Six.setCells _ _ (h6.alloc _), RoomTo.setCells _ _ ((RoomTo.refl _ _).alloc _)⟩
  · by_cases c2 : t < 65536
    · have hL : tagLen t = 2 := by unfold tagLen; rw [if_neg c1, if_pos c2]
      rw [hL]
      clear hL
      go_enter Tryz.func92, Tryz.ntmps92
      go_wp2_with (at_builtin; refine wpList_append_room _ rfl _ _ 55 rfl 5 i0 Tryz.underlying55 hi hz1 g 0 6 rfl ⟨w.heap.size, 0, none⟩ 2 2 [.int .u8 ((t : Int) / 256), .int .u8 ((t : Int) % 256)] rfl rfl (two_new _ _ _ _) ?c2 (by omega) ?c3 ?c4 ?_)
      case c2 => intro u hu; simp at hu; rcases hu with rfl | rfl <;> rfl
      case c3 => intro j hj; exact (h6.alloc _).cell _ (by simp at hj; omega)
      case c4 => exact (h6.alloc _).free
      go_wp2
      go_ret
      exact ⟨rfl, Six.setCells _ _ (h6.alloc _), RoomTo.setCells _ _ ((RoomTo.refl _ _).alloc _)⟩
    · have hL : tagLen t = 3 := by unfold tagLen; rw [if_neg c1, if_neg c2]
      rw [hL]
      clear hL
      go_enter Tryz.func92, Tryz.ntmps92
      go_wp2_with (at_builtin; refine wpList_append_room _ rfl _ _ 55 rfl 5 i0 Tryz.underlying55 hi hz1 g 0 6 rfl ⟨w.heap.size, 0, none⟩ 3 3 [.int .u8 ((t : Int) / 65536), .int .u8 ((t : Int) / 256 % 256), .int .u8 ((t : Int) % 256)] rfl rfl (three_new _ _ _ _ _) ?c2 (by omega) ?c3 ?c4 ?_)
      case c2 => intro u hu; simp at hu; rcases hu with rfl | rfl | rfl <;> rfl
      case c3 => intro j hj; exact (h6.alloc _).cell _ (by simp at hj; omega)
      case c4 => exact (h6.alloc _).free
      go_wp2
      go_ret
      exact ⟨rfl, Six.setCells _ _ (h6.alloc _), RoomTo.setCells _ _ ((RoomTo.refl _ _).alloc _)⟩

/-- in how many bytes a length is written -/
def lenLen (n : Nat) : Nat := if n < 128 then 1 else if n < 256 then 2 else 3

end Go.Proofs.YtajkbkljonejnaaGreatDoor
namespace Go.Proofs.YtajkbkljonejnaaGreatDoor
open Go.RowKit
set_option linter.unusedVariables false

/-- has it a tag and, beside it, only what such a tag may have? -/
def fitsB (t : Int) (s n : Nat) : Bool := if madeV t = true then s == 0 else validB t && n == 0
theorem str_empty (s : ByteArray) : s.toList.isEmpty = (s.size == 0) := by
  rw [Lib.toList_data]
  have hl : s.data.toList.length = s.size := by simp
  cases hq : s.data.toList with
  | nil =>
    rw [hq] at hl
    have : s.size = 0 := by rw [← hl]; rfl
    rw [this]; rfl
  | cons a b =>
    rw [hq] at hl
    have : s.size ≠ 0 := by rw [← hl]; simp
    rw [beq_eq_false_iff_ne.2 this]; rfl


/-- one item more: in how many bytes, and how deep; M: of its own list -/
def stepM (M : List It → Option (Nat × Nat)) (acc : Option (Nat × Nat)) (x : It) : Option (Nat × Nat) :=
  match acc with
  | none => none
  | some (s, p) => if fitsB x.tag x.text.size x.list.length = true then (M x.list).map fun b => (s + (tagLen x.tag.toNat + lenLen (b.1 + x.text.size)) + (b.1 + x.text.size), max p (1 + b.2)) else none
def measD : Nat → List It → Option (Nat × Nat)
  | 0, _ => some (0, 0)
  | d + 1, l => l.foldl (stepM (measD d)) (some (0, 0))
theorem step_none (M : List It → Option (Nat × Nat)) (l : List It) : l.foldl (stepM M) none = none := by
  induction l with
  | nil => rfl
  | cons x r ih => rw [List.foldl_cons]; exact ih
theorem fold_take {M : List It → Option (Nat × Nat)} {l : List It} {k : Nat} {x : It} {a : Option (Nat × Nat)} (hx : l[k]? = some x) : (l.take (k + 1)).foldl (stepM M) a = stepM M ((l.take k).foldl (stepM M) a) x := by
  have hk : k < l.length := by
    rcases Nat.lt_or_ge k l.length with h | h
    · exact h
    · rw [List.getElem?_eq_none h] at hx; cases hx
  rw [List.getElem?_eq_getElem hk] at hx
  rw [List.take_succ_eq_append_getElem hk, List.foldl_append, Option.some.inj hx]
  rfl
theorem fold_stop {M : List It → Option (Nat × Nat)} {l : List It} {k : Nat} {a : Option (Nat × Nat)} (h : (l.take k).foldl (stepM M) a = none) : l.foldl (stepM M) a = none := by
  conv => lhs; rw [← List.take_append_drop k l]
  rw [List.foldl_append, h, step_none]
theorem lenLen_le (n : Nat) : 1 ≤ lenLen n ∧ lenLen n ≤ 3 := by unfold lenLen; split <;> (try split) <;> omega
theorem step_yes (M : List It → Option (Nat × Nat)) (s p : Nat) (x : It) : stepM M (some (s, p)) x = if fitsB x.tag x.text.size x.list.length = true then (M x.list).map fun b => (s + (tagLen x.tag.toNat + lenLen (b.1 + x.text.size)) + (b.1 + x.text.size), max p (1 + b.2)) else none := rfl
theorem fold_le {M : List It → Option (Nat × Nat)} {d : Nat} (hM : ∀ l s p, M l = some (s, p) → s ≤ 7 * wt d l ∧ p ≤ d) : ∀ (l : List It) (s0 p0 s p : Nat), l.foldl (stepM M) (some (s0, p0)) = some (s, p) → s ≤ s0 + 7 * wt (d + 1) l ∧ p ≤ max p0 (d + 1)
  | [], s0, p0, s, p, h => by simp at h; obtain ⟨rfl, rfl⟩ := h; omega
  | x :: r, s0, p0, s, p, h => by
    rw [List.foldl_cons, step_yes] at h
    by_cases hf : fitsB x.tag x.text.size x.list.length = true
    · rw [if_pos hf] at h
      cases hm : M x.list with
      | none => rw [hm, Option.map_none, step_none] at h; cases h
      | some b =>
        obtain ⟨b1, b2⟩ := b
        rw [hm, Option.map_some] at h
        have h1 := hM _ _ _ hm
        have h2 := fold_le hM r _ _ s p h
        have h3 := tagLen_le x.tag.toNat
        have h4 := lenLen_le (b1 + x.text.size)
        have e : wt (d + 1) (x :: r) = 1 + x.text.size + wt d x.list + wt (d + 1) r := by simp [wt]
        rw [e]
        simp only at h2
        omega
    · rw [if_neg hf, step_none] at h; cases h
theorem meas_le : ∀ (d : Nat) (l : List It) (s p : Nat), measD d l = some (s, p) → s ≤ 7 * wt d l ∧ p ≤ d
  | 0, l, s, p, h => by simp [measD] at h; obtain ⟨rfl, rfl⟩ := h; omega
  | d + 1, l, s, p, h => by
    have := fold_le (meas_le d) l 0 0 s p h
    omega
def measV (r : Option (Nat × Nat)) : Value := match r with
  | some (s, p) => .tuple #[.int .i64 s, .int .i64 p, .bool true]
  | none => .tuple #[.int .i64 0, .int .i64 0, .bool false]
theorem ret_meas {s p : Nat} {r : Option (Nat × Nat)} (h : r = some (s, p)) : Ending.returned (.tuple #[.int .i64 s, .int .i64 p, .bool true]) = .returned (measV r) := by rw [h]; rfl
theorem ret_meas_no {r : Option (Nat × Nat)} (h : r = none) : Ending.returned (.tuple #[.int .i64 0, .int .i64 0, .bool false]) = .returned (measV r) := by rw [h]; rfl

theorem wp_region_in {P : Program} {id : Nat} {Q : Exit → Act → World → Prop} {a : Act} {w : World} {l : List Oper} (C : World → Prop) (hC : C w.drew)
    (hm : P.follows .mixedOrders = true) (hB : Region.lexB .any l.toArray = true)
    (h : Quietly P l.toArray C (fun a' => ∀ w', C w' → Q .normal a' w') l a) : (Code.region id l.toArray true).wp P Q a w :=
  wp_region_quiet (C := C) hm hB hC (by simpa using h.out)
/-- worlds in which the small array is being written -/
structure RoomC (g gi : Nat) (v : Value) (w0 w : World) : Prop where
  six : Six g w
  room : RoomTo g w0 w
  cell : w.cell? ⟨gi, 0, none⟩ = some v
theorem calls_room {P : Program} {f : FuncId} {args : Array Value} {w0 w : World} {g gi : Nat} {v u : Value} (hw : RoomC g gi u w0 w) (hne : gi ≠ g) (hlt : gi < w0.heap.size)
    (h : Calls P f args w fun e w' => e = .returned v ∧ Six g w' ∧ RoomTo g w w') : Calls P f args w fun e w' => e = .returned v ∧ RoomC g gi u w0 w' :=
  h.mono fun _ w' ⟨he, h6, hr⟩ => ⟨he, h6, hw.room.trans hr, (World.cell?_of_block (w := w) (w' := w') (a := ⟨gi, 0, none⟩) (hr.block gi (Nat.lt_of_lt_of_le hlt hw.room.size) hne)).trans hw.cell⟩
theorem RoomTo.below {B g : Nat} {a w w' : World} (h : Below B a w) (hB : B ≤ w.heap.size) (hg : B ≤ g) (hr : RoomTo g w w') : Below B a w' :=
  ⟨hr.os.trans h.os, hr.tape.trans h.tape, hr.output.trans h.output, Nat.le_trans h.size hr.size, fun k hk => (hr.block k (by omega) (by omega)).trans (h.block k hk)⟩
theorem six_new (w : World) (e : TypeId) (a b c d f h : Value) : Six w.heap.size (w.alloc (.cells #[a, b, c, d, f, h] e)) := ⟨_, e, heap_alloc_new w _, rfl⟩

end Go.Proofs.YtajkbkljonejnaaGreatDoor
namespace Go.Proofs.YtajkbkljonejnaaGreatDoor
open Go.RowKit
set_option linter.unusedVariables false

/-- a length's bytes -/
def lenL (n : Nat) : List Int := if n < 128 then [(n : Int)] else if n < 256 then [129, (n : Int)] else [130, (n : Int) / 256, (n : Int) % 256]
theorem lenL_length (n : Nat) : (lenL n).length = lenLen n := by unfold lenL lenLen; split <;> (try split) <;> rfl

/-- two growths of one row, one behind the other -/
theorem grown_two {w w1 w2 : World} {row : Option Nat} {g : Nat} (h1 : w.grownBy w1 row) (o : Obj) (h2 : (w1.alloc o).grownBy w2 (some g)) (hg : row = some g ∨ w.heap.size ≤ g) : w.grownBy w2 row :=
  ⟨h2.os.trans h1.os, h2.tape.trans h1.tape, h2.output.trans h1.output, by have := h1.size; have := h2.size; simp at this; omega, fun k hk hne => by
    have hs := h1.size
    rw [h2.block k (by simp; omega) (fun e => by
      rcases hg with h | h
      · exact hne (by rw [h, ← e])
      · have := Option.some.inj e; omega), Below.heap_alloc _ _ _ (by omega)]
    exact h1.block k hk hne⟩


theorem wp_append_string {P : Program} (w : World) {o : Oper} {a : Act} {K : Act → World → Prop} {Q : Exit → Act → World → Prop} (sl x : Operand) (t u : TypeId)
    (ho : o.op = .call { callee := .builtin .append, args := #[sl, x], argTypes := #[t, u] })
    (base : Nat) (e : TypeId) (i : TypeInfo) (ht : P.underlying t = some (.slice e)) (hu : P.underlying u = some .string) (hi : P.info? e = some i) (hz : i.zero = some (.int .u8 0))
    (hsize : i.size = 1) (hby : i.bytes = 1)
    (v : Value) (n : Nat) (xs : List Value) (hs : a.eval sl = v) (hown : w.ownsRow base e 1 v n xs) (s : ByteArray) (hx : a.eval x = .string s)
    (h63 : n + s.size ≤ maxLen) (hbytes : n + s.size ≤ 140737488355328) (hbase : base ≤ w.heap.size)
    (h : ∀ v' w', w'.ownsRow base e 1 v' (n + s.size) (xs ++ Lib.strCells s) → w.grownBy w' v.ownBlock → K (a.put o.dst v') w') : o.wp P a w K Q := by
  obtain ⟨v', w', hr, h2, h3, h4⟩ := Lib.run_append_own_string (P := P) w base t u o.type e i ht hu hi hz hsize hby v n xs hown s h63 hbytes hbase
  unfold Oper.wp execOp
  simp only [ho, resolve, invoke, builtin, Sem.run_bind, Sem.run_pure, Result.andThen_ok, List.map_toArray, List.map_cons, List.map_nil, hs, hx, hr]
  exact h v' w' h2 h3
theorem step_append_string {P : Program} (w : World) {ops : Array Oper} {o : Oper} {a : Act} {K : Act → World → Prop} {Q : Exit → Act → World → Prop} {E : Prop} (hgd : o.guard = none) (sl x : Operand) (t u : TypeId)
    (ho : o.op = .call { callee := .builtin .append, args := #[sl, x], argTypes := #[t, u] })
    (base : Nat) (e : TypeId) (i : TypeInfo) (ht : P.underlying t = some (.slice e)) (hu : P.underlying u = some .string) (hi : P.info? e = some i) (hz : i.zero = some (.int .u8 0))
    (hsize : i.size = 1) (hby : i.bytes = 1)
    (v : Value) (n : Nat) (xs : List Value) (hs : a.eval sl = v) (hown : w.ownsRow base e 1 v n xs) (s : ByteArray) (hx : a.eval x = .string s)
    (h63 : n + s.size ≤ maxLen) (hbytes : n + s.size ≤ 140737488355328) (hbase : base ≤ w.heap.size)
    (h : ∀ v' w', w'.ownsRow base e 1 v' (n + s.size) (xs ++ Lib.strCells s) → w.grownBy w' v.ownBlock → K (a.put o.dst v') w') :
    if Region.wanted o (yielded ops a.tmps) = true then Oper.wp P o a w K Q else E := by
  have hw : Region.wanted o (yielded ops a.tmps) = true := by simp [Region.wanted, hgd]
  rw [if_pos hw]
  exact wp_append_string w sl x t u ho base e i ht hu hi hz hsize hby v n xs hs hown s hx h63 hbytes hbase h
end Go.Proofs.YtajkbkljonejnaaGreatDoor
namespace Go.Proofs.YtajkbkljonejnaaGreatDoor
open Go.RowKit
set_option linter.unusedVariables false

/-- a text's bytes as numbers -/
def strL (s : ByteArray) : List Int := s.data.toList.map fun u => (u.toNat : Int)
theorem strL_length (s : ByteArray) : (strL s).length = s.size := by simp [strL]
/-- an item written -/
def itemL (t : Nat) (body : List Int) : List Int := tagL t ++ (lenL body.length ++ body)
def bodyL (T : List It → List Int) (x : It) : List Int := if madeV x.tag = true then T x.list else strL x.text
def textD : Nat → List It → List Int
  | 0, _ => []
  | d + 1, l => l.flatMap fun x => itemL x.tag.toNat (bodyL (textD d) x)
theorem itemL_length (t : Nat) (b : List Int) : (itemL t b).length = tagLen t + lenLen b.length + b.length := by
  unfold itemL
  rw [List.length_append, List.length_append, lenL_length, bigL_length]
  omega
theorem fits_body {d : Nat} {x : It} {b1 b2 : Nat} (hf : fitsB x.tag x.text.size x.list.length = true) (hm : measD d x.list = some (b1, b2)) (ht : (textD d x.list).length = b1) : (bodyL (textD d) x).length = b1 + x.text.size := by
  unfold fitsB at hf
  unfold bodyL
  by_cases h : madeV x.tag = true
  · rw [if_pos h] at hf ⊢
    have : x.text.size = 0 := by simpa using hf
    omega
  · rw [if_neg h] at hf ⊢
    have hl : x.list = [] := by
      have : x.list.length = 0 := by
        cases hv : validB x.tag with
        | false => rw [hv] at hf; simp at hf
        | true => rw [hv] at hf; simpa using hf
      exact List.length_eq_zero_iff.1 this
    have : b1 = 0 := by
      rw [hl] at ht
      cases d <;> simp [textD] at ht <;> omega
    rw [strL_length, this]
    omega
theorem fold_text {d : Nat} (ih : ∀ l s p, measD d l = some (s, p) → (textD d l).length = s) : ∀ (l : List It) (s0 p0 s p : Nat), l.foldl (stepM (measD d)) (some (s0, p0)) = some (s, p) → s0 + (textD (d + 1) l).length = s
  | [], s0, p0, s, p, h => by simp at h; simp [textD, h.1]
  | x :: r, s0, p0, s, p, h => by
    rw [List.foldl_cons, step_yes] at h
    by_cases hf : fitsB x.tag x.text.size x.list.length = true
    · rw [if_pos hf] at h
      cases hm : measD d x.list with
      | none => rw [hm, Option.map_none, step_none] at h; cases h
      | some b =>
        obtain ⟨b1, b2⟩ := b
        rw [hm, Option.map_some] at h
        have h1 := fits_body hf hm (ih _ _ _ hm)
        have h2 := fold_text ih r _ _ s p h
        have e : textD (d + 1) (x :: r) = itemL x.tag.toNat (bodyL (textD d) x) ++ textD (d + 1) r := by simp [textD]
        rw [e, List.length_append, itemL_length, h1]
        simp only at h2
        omega
    · rw [if_neg hf, step_none] at h; cases h
theorem meas_text : ∀ (d : Nat) (l : List It) (s p : Nat), measD d l = some (s, p) → (textD d l).length = s
  | 0, l, s, p, h => by simp [measD] at h; simp [textD, h.1]
  | d + 1, l, s, p, h => by have := fold_text (meas_text d) l 0 0 s p h; omega
theorem fold_item {d : Nat} : ∀ (l : List It) (k : Nat) (x : It) (s0 p0 s p : Nat), l.foldl (stepM (measD d)) (some (s0, p0)) = some (s, p) → l[k]? = some x → fitsB x.tag x.text.size x.list.length = true ∧ ∃ b1 b2, measD d x.list = some (b1, b2)
  | [], k, x, s0, p0, s, p, h, hx => by simp at hx
  | y :: r, k, x, s0, p0, s, p, h, hx => by
    rw [List.foldl_cons, step_yes] at h
    by_cases hf : fitsB y.tag y.text.size y.list.length = true
    · rw [if_pos hf] at h
      cases hm : measD d y.list with
      | none => rw [hm, Option.map_none, step_none] at h; cases h
      | some b =>
        obtain ⟨b1, b2⟩ := b
        rw [hm, Option.map_some] at h
        cases k with
        | zero => simp at hx; subst hx; exact ⟨hf, b1, b2, hm⟩
        | succ k => exact fold_item r k x _ _ s p h (by simpa using hx)
    · rw [if_neg hf, step_none] at h; cases h
theorem text_take {d : Nat} {l : List It} {k : Nat} {x : It} (hx : l[k]? = some x) : textD (d + 1) (l.take (k + 1)) = textD (d + 1) (l.take k) ++ itemL x.tag.toNat (bodyL (textD d) x) := by
  have hk : k < l.length := by
    rcases Nat.lt_or_ge k l.length with h | h
    · exact h
    · rw [List.getElem?_eq_none h] at hx; cases hx
  rw [List.getElem?_eq_getElem hk] at hx
  rw [List.take_succ_eq_append_getElem hk, Option.some.inj hx]
  simp [textD]
theorem text_take_le {d : Nat} (l : List It) (k : Nat) : (textD (d + 1) (l.take k)).length ≤ (textD (d + 1) l).length := by
  have e : textD (d + 1) l = textD (d + 1) (l.take k) ++ textD (d + 1) (l.drop k) := by
    unfold textD
    rw [← List.flatMap_append, List.take_append_drop]
  rw [e, List.length_append]
  omega
theorem strCells_eq (s : ByteArray) : Lib.strCells s = (strL s).map (Value.int .u8) := by
  simp [Lib.strCells, strL]

def Bytes (l : List Int) : Prop := ∀ n ∈ l, 0 ≤ n ∧ n < 256
theorem lenL_bytes (n : Nat) (h : n < 65536) : Bytes (lenL n) := by
  unfold lenL Bytes
  intro m hm
  split at hm
  · simp at hm; omega
  · split at hm
    · simp at hm; omega
    · simp at hm; omega
theorem strL_bytes (s : ByteArray) : Bytes (strL s) := by
  intro n hn
  obtain ⟨u, _, rfl⟩ := List.mem_map.1 hn
  have := u.toNat_lt
  omega
theorem tagL_bytes (t : Nat) : Bytes (tagL t) := by
  intro n hn
  exact bigL_bytes _ _ n hn
theorem text_bytes : ∀ (d : Nat) (l : List It) (s p : Nat), measD d l = some (s, p) → s ≤ 65535 → Bytes (textD d l)
  | 0, l, s, p, _, _ => by intro n hn; simp [textD] at hn
  | d + 1, l, s, p, hm, hs => by
    intro n hn
    unfold textD at hn
    obtain ⟨x, hx, hn⟩ := List.mem_flatMap.1 hn
    obtain ⟨k, hk, rfl⟩ := List.mem_iff_getElem.1 hx
    have hxk : l[k]? = some l[k] := List.getElem?_eq_getElem hk
    obtain ⟨hf, b1, b2, hmx⟩ := fold_item l k l[k] 0 0 s p hm hxk
    have htx := meas_text d _ _ _ hmx
    have hbody := fits_body hf hmx htx
    have htl := meas_text (d + 1) l s p hm
    have hpre := text_take_le (d := d) l (k + 1)
    rw [text_take hxk, List.length_append, itemL_length, htl] at hpre
    unfold itemL at hn
    rcases List.mem_append.1 hn with h | h
    · exact tagL_bytes _ n h
    · rcases List.mem_append.1 h with h | h
      · exact lenL_bytes _ (by omega) n h
      · unfold bodyL at h
        split at h
        · exact text_bytes d _ b1 b2 hmx (by omega) n h
        · exact strL_bytes _ n h
theorem strL_nums {ns : List Int} (h : Bytes ns) : strL (strOfNums ns) = ns := by
  have e : (strOfNums ns).data.toList = ns.map fun n => UInt8.ofNat n.toNat := by simp [strOfNums]
  unfold strL
  rw [e, List.map_map]
  conv => rhs; rw [← List.map_id ns]
  refine List.map_congr_left fun n hn => ?_
  have := h n hn
  simp only [Function.comp, id, UInt8.toNat_ofNat']
  omega
theorem owns_keep {w w' : World} {base : Nat} {e : TypeId} {size : Nat} {v : Value} {n : Nat} {xs : List Value} (h : w.ownsRow base e size v n xs) (hb : Below w.heap.size w w') : w'.ownsRow base e size v n xs := by
  refine ⟨h.1, ?_⟩
  rcases h.2 with h0 | ⟨g, cap, cur, e1, e2, e3, e4⟩
  · exact .inl h0
  · refine .inr ⟨g, cap, cur, e1, e2, ?_, e4⟩
    have hg : g < w.heap.size := by
      rcases Nat.lt_or_ge g w.heap.size with h | h
      · exact h
      · rw [Array.getElem?_eq_none h] at e3; cases e3
    rw [hb.block g hg]; exact e3

theorem text_ge {d : Nat} : ∀ l : List It, l.length ≤ (textD (d + 1) l).length
  | [] => by simp
  | x :: r => by
    have := text_ge (d := d) r
    have e : textD (d + 1) (x :: r) = itemL x.tag.toNat (bodyL (textD d) x) ++ textD (d + 1) r := by simp [textD]
    have h1 := tagLen_le x.tag.toNat
    rw [e, List.length_append, itemL_length, List.length_cons]
    omega
theorem row_text {w : World} {d : Nat} {ao : Option Addr} {l : List It} (h : IRow w d ao l) : l.length ≤ (textD d l).length := by
  cases d with
  | zero => rw [show l = [] from h]; simp
  | succ d => exact text_ge l
theorem own_item {w : World} {base m t : Nat} {v : Value} {pre nx bd : List Int} {s : ByteArray} (hnx : nx = pre ++ itemL t bd) (hbd : bd = strL s) (hm : m = s.size)
    (h : w.ownsRow base 5 1 v (pre.length + tagLen t + lenLen m + s.size) (pre.map (Value.int .u8) ++ ((tagL t).map (Value.int .u8) ++ ((lenL m).map (Value.int .u8) ++ Lib.strCells s)))) : w.ownsRow base 5 1 v nx.length (nx.map (Value.int .u8)) := by
  subst hm
  have e1 : nx.length = pre.length + tagLen t + lenLen s.size + s.size := by
    rw [hnx, List.length_append, itemL_length, hbd, strL_length]; omega
  have e2 : nx.map (Value.int .u8) = pre.map (Value.int .u8) ++ ((tagL t).map (Value.int .u8) ++ ((lenL s.size).map (Value.int .u8) ++ Lib.strCells s)) := by
    rw [hnx, hbd, strCells_eq]
    unfold itemL
    rw [strL_length]
    simp
  rw [e1, e2]
  exact h

end Go.Proofs.YtajkbkljonejnaaGreatDoor
