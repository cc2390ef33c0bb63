/- same of two rows of fields: are they alike? -/
import Derived.Test.YtolicaaifhfhcaaM34
namespace Go.Proofs.Ytolicaaifhfhcaa
open Go.RowKit
set_option linter.unusedVariables false

theorem take_eq_succ (a b : List (Int × Int)) (k : Nat) (ha : k < a.length) (hb : k < b.length) (h : a.take k = b.take k) : a.take (k + 1) = b.take (k + 1) ↔ a.getD k (0, 0) = b.getD k (0, 0) := by
  have ea := List.take_succ_eq_append_getElem ha
  have eb := List.take_succ_eq_append_getElem hb
  have ga : a.getD k (0, 0) = a[k] := by simp [List.getD_eq_getElem?_getD, List.getElem?_eq_getElem ha]
  have gb : b.getD k (0, 0) = b[k] := by simp [List.getD_eq_getElem?_getD, List.getElem?_eq_getElem hb]
  rw [ea, eb, h, ga, gb]
  simp only [List.append_cancel_left_eq, List.cons.injEq, and_true]

end Go.Proofs.Ytolicaaifhfhcaa
namespace Go.Proofs.Ytolicaaifhfhcaa
open Go.RowKit
set_option linter.unusedVariables false

/-- the field at the beginning, and what is behind it -/
def fieldAt (l : List UInt8) : Option ((Int × Int) × List UInt8) :=
  if tagSz l < l.length ∧ validB (valN (l.take (tagSz l))) = true ∧ madeB (valN (l.take (tagSz l))) = false then
    some (((valN (l.take (tagSz l)) : Int), ((l.getD (tagSz l) 0).toNat : Int)), l.drop (tagSz l + 1)) else none
/-- a row that is read, of at most n fields -/
def parseL : Nat → List UInt8 → Option (List (Int × Int))
  | 0, l => if l = [] then some [] else none
  | n + 1, l => if l = [] then some [] else match fieldAt l with | none => none | some (f, r) => (parseL n r).map (f :: ·)
def parsed (l : List UInt8) : List (Int × Int) := (parseL 100 l).getD []
def parseE (l : List UInt8) : Int := if (parseL 100 l).isSome then 0 else 1
def cellsF (fs : List (Int × Int)) : List Value := fs.flatMap fun f => [.int .i64 f.1, .int .i64 f.2]
theorem cellsF_snoc (fs : List (Int × Int)) (f : Int × Int) : cellsF (fs ++ [f]) = cellsF fs ++ [.int .i64 f.1, .int .i64 f.2] := by simp [cellsF]
theorem infoField : (Try.prog.info? 59).map (fun i => (i.zero, i.size, i.bytes)) = some (some (.agg #[.int .i64 0, .int .i64 0]), 2, 16) := by kernel_rfl
def strLen : Value → Nat | .string s => s.size | _ => 0
/-- where the reading stands -/
def ParseAt (L : List UInt8) (acc : List (Int × Int)) (l : List UInt8) : Prop := parseL 100 L = (parseL (100 - acc.length) l).map (acc ++ ·)

theorem drop_extract (s : ByteArray) (k : Nat) : (s.extract k s.size).data.toList = s.data.toList.drop k := by
  rw [ByteArray.data_extract, Array.toList_extract, List.extract_eq_take_drop]
  exact List.take_of_length_le (by simp)

theorem parse_stop (n : Nat) (l : List UInt8) (hl : l ≠ []) (h : fieldAt l = none ∨ n = 0) : parseL n l = none := by
  cases n with
  | zero => unfold parseL; rw [if_neg hl]
  | succ n =>
    rcases h with h | h
    · unfold parseL; rw [if_neg hl, h]
    · omega
theorem parseE_none {l : List UInt8} (h : parseL 100 l = none) : parseE l = 1 := by unfold parseE; rw [h]; rfl
theorem parsed_none {l : List UInt8} (h : parseL 100 l = none) : parsed l = [] := by unfold parsed; rw [h]; rfl
theorem parseE_some {l : List UInt8} {fs : List (Int × Int)} (h : parseL 100 l = some fs) : parseE l = 0 := by unfold parseE; rw [h]; rfl
theorem parsed_some {l : List UInt8} {fs : List (Int × Int)} (h : parseL 100 l = some fs) : parsed l = fs := by unfold parsed; rw [h]; rfl

theorem ownsRow_two {wr : World} {base : Nat} {e : TypeId} {size : Nat} {v : Value} {n : Nat} {xs : List Value} (h : wr.ownsRow base e size v n xs) (q : Nat) (o : Obj) : ((wr.drewN q).alloc o).ownsRow base e size v n xs :=
  World.ownsRow.alloc (w := wr.drewN q) h o
theorem two_new' (w : World) (q : Nat) (x y : Value) (e : TypeId) : ∀ j u, [x, y][j]? = some u → ((w.drewN q).alloc (.cells #[x, y] e)).cell? ((⟨w.heap.size, 0, none⟩ : Addr).add j) = some u := two_new (w.drewN q) x y e

end Go.Proofs.Ytolicaaifhfhcaa
namespace Go.Proofs.Ytolicaaifhfhcaa
open Go.RowKit
set_option linter.unusedVariables false

/-- are the first n bytes a tag? -/
def goodB (l : List UInt8) (n : Nat) : Bool := validB (valN (l.take n)) && decide (tagLen (valN (l.take n)) = n)
theorem valN_two (a b : UInt8) : valN [a, b] = a.toNat * 256 + b.toNat := by simp [valN]
theorem valN_three (a b c : UInt8) : valN [a, b, c] = (a.toNat * 256 + b.toNat) * 256 + c.toNat := by simp [valN]
theorem valN_one (a : UInt8) : valN [a] = a.toNat := by simp [valN]

theorem validB_iff (t : Nat) : validB (t : Int) = true ↔ (1 ≤ t ∧ t < 256 ∧ t % 32 ≠ 31) ∨ (256 ≤ t ∧ t < 65536 ∧ t / 256 % 32 = 31 ∧ 31 ≤ t % 256 ∧ t % 256 ≤ 127) ∨ (65536 ≤ t ∧ t < 16777216 ∧ t / 65536 % 32 = 31 ∧ 129 ≤ t / 256 % 256 ∧ t % 256 ≤ 127) := by
  unfold validB
  split
  · simp; omega
  · split
    · simp; omega
    · split
      · simp; omega
      · simp; omega
theorem tagLen_iff (t n : Nat) : tagLen t = n ↔ (t < 256 ∧ n = 1) ∨ (256 ≤ t ∧ t < 65536 ∧ n = 2) ∨ (65536 ≤ t ∧ n = 3) := by
  unfold tagLen; split
  · omega
  · split <;> omega
theorem tagSz_one (a : UInt8) (n : Nat) : n = tagSz [a] ↔ (a.toNat % 32 = 31 ∧ n = 2) ∨ (a.toNat % 32 ≠ 31 ∧ n = 1) := by
  simp only [tagSz]; split <;> omega
theorem tagSz_more (a b : UInt8) (r : List UInt8) (n : Nat) : n = tagSz (a :: b :: r) ↔ (a.toNat % 32 = 31 ∧ b.toNat < 128 ∧ n = 2) ∨ (a.toNat % 32 = 31 ∧ 128 ≤ b.toNat ∧ n = 3) ∨ (a.toNat % 32 ≠ 31 ∧ n = 1) := by
  simp only [tagSz]; split
  · split <;> omega
  · omega

theorem good_iff (l : List UInt8) (n : Nat) (h1 : 1 ≤ n) (h3 : n ≤ 3) (hl : n ≤ l.length) : goodB l n = true ↔ n = tagSz l ∧ validB (valN (l.take n)) = true := by
  unfold goodB
  rw [Bool.and_eq_true, decide_eq_true_iff, validB_iff, tagLen_iff]
  match l, hl with
  | [], hl => simp at hl; omega
  | [a], hl =>
    have : n = 1 := by simp at hl; omega
    subst this
    have la := a.toNat_lt
    rw [show [a].take 1 = [a] by rfl, valN_one, tagSz_one]
    omega
  | a :: b :: r, hl =>
    have la := a.toNat_lt
    have lb := b.toNat_lt
    rw [tagSz_more]
    have hn : n = 1 ∨ n = 2 ∨ n = 3 := by omega
    rcases hn with rfl | rfl | rfl
    · rw [show (a :: b :: r).take 1 = [a] by rfl, valN_one]; omega
    · rw [show (a :: b :: r).take 2 = [a, b] by simp, valN_two]
      generalize a.toNat = x at *
      generalize b.toNat = y at *
      have e1 : (x * 256 + y) / 256 = x := by omega
      have e2 : (x * 256 + y) % 256 = y := by omega
      rw [e1, e2]; omega
    · match r, hl with
      | [], hl => simp at hl
      | c :: r, hl =>
        have lc := c.toNat_lt
        rw [show (a :: b :: c :: r).take 3 = [a, b, c] by simp, valN_three]
        generalize a.toNat = x at *
        generalize b.toNat = y at *
        generalize c.toNat = z at *
        have e1 : ((x * 256 + y) * 256 + z) / 65536 = x := by omega
        have e2 : ((x * 256 + y) * 256 + z) % 256 = z := by omega
        have e3 : ((x * 256 + y) * 256 + z) / 256 % 256 = y := by omega
        rw [e1, e2, e3]; omega

/-- a tag's own text begins with the tag, and no more of it -/
theorem tag_text_back (t : Nat) (r : List UInt8) (hv : validB (t : Int) = true) (bs : List UInt8) (hb : bs.length = tagLen t) (hval : valN bs = t) :
    tagSz (bs ++ r) = tagLen t ∧ (bs ++ r).take (tagLen t) = bs := by
  have hk : (bs ++ r).take (tagLen t) = bs := by rw [← hb]; exact List.take_left
  have h13 := tagLen_le t
  have := (good_iff (bs ++ r) (tagLen t) h13.1 h13.2 (by simp; omega)).1 (by unfold goodB; rw [hk, hval, hv]; simp)
  exact ⟨this.1.symm, hk⟩
end Go.Proofs.Ytolicaaifhfhcaa
