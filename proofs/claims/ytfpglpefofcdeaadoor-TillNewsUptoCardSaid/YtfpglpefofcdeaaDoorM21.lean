/- same of two rows of fields: are they alike? -/
import Derived.Test.YtfpglpefofcdeaaDoorM20
namespace Go.Proofs.YtfpglpefofcdeaaDoor
open Go.RowKit
set_option linter.unusedVariables false

theorem take_eq_succ (a b : List (Int × Int)) (k : Nat) (ha : k < a.length) (hb : k < b.length) (h : a.take k = b.take k) : a.take (k + 1) = b.take (k + 1) ↔ a.getD k (0, 0) = b.getD k (0, 0) := by
  have ea := List.take_succ_eq_append_getElem ha
  have eb := List.take_succ_eq_append_getElem hb
  have ga : a.getD k (0, 0) = a[k] := by simp [List.getD_eq_getElem?_getD, List.getElem?_eq_getElem ha]
  have gb : b.getD k (0, 0) = b[k] := by simp [List.getD_eq_getElem?_getD, List.getElem?_eq_getElem hb]
  rw [ea, eb, h, ga, gb]
  simp only [List.append_cancel_left_eq, List.cons.injEq, and_true]

end Go.Proofs.YtfpglpefofcdeaaDoor
namespace Go.Proofs.YtfpglpefofcdeaaDoor
open Go.RowKit
set_option linter.unusedVariables false

/-- the field at the beginning, and what is behind it -/
def fieldAt (l : List UInt8) : Option ((Int × Int) × List UInt8) :=
  if tagSz l < l.length ∧ validB (valN (l.take (tagSz l))) = true ∧ madeB (valN (l.take (tagSz l))) = false then
    some (((valN (l.take (tagSz l)) : Int), ((l.getD (tagSz l) 0).toNat : Int)), l.drop (tagSz l + 1)) else none
/-- a row that is read, of at most n fields -/
def parseL : Nat → List UInt8 → Option (List (Int × Int))
  | 0, l => if l = [] then some [] else none
  | n + 1, l => if l = [] then some [] else match fieldAt l with | none => none | some (f, r) => (parseL n r).map (f :: ·)
def parsed (l : List UInt8) : List (Int × Int) := (parseL 100 l).getD []
def parseE (l : List UInt8) : Int := if (parseL 100 l).isSome then 0 else 1
def cellsF (fs : List (Int × Int)) : List Value := fs.flatMap fun f => [.int .i64 f.1, .int .i64 f.2]
theorem cellsF_snoc (fs : List (Int × Int)) (f : Int × Int) : cellsF (fs ++ [f]) = cellsF fs ++ [.int .i64 f.1, .int .i64 f.2] := by simp [cellsF]
theorem infoField : (Tryd.prog.info? 173).map (fun i => (i.zero, i.size, i.bytes)) = some (some (.agg #[.int .i64 0, .int .i64 0]), 2, 16) := by kernel_rfl
def strLen : Value → Nat | .string s => s.size | _ => 0
/-- where the reading stands -/
def ParseAt (L : List UInt8) (acc : List (Int × Int)) (l : List UInt8) : Prop := parseL 100 L = (parseL (100 - acc.length) l).map (acc ++ ·)

theorem drop_extract (s : ByteArray) (k : Nat) : (s.extract k s.size).data.toList = s.data.toList.drop k := by
  rw [ByteArray.data_extract, Array.toList_extract, List.extract_eq_take_drop]
  exact List.take_of_length_le (by simp)

theorem parse_stop (n : Nat) (l : List UInt8) (hl : l ≠ []) (h : fieldAt l = none ∨ n = 0) : parseL n l = none := by
  cases n with
  | zero => unfold parseL; rw [if_neg hl]
  | succ n =>
    rcases h with h | h
    · unfold parseL; rw [if_neg hl, h]
    · omega
theorem parseE_none {l : List UInt8} (h : parseL 100 l = none) : parseE l = 1 := by unfold parseE; rw [h]; rfl
theorem parsed_none {l : List UInt8} (h : parseL 100 l = none) : parsed l = [] := by unfold parsed; rw [h]; rfl
theorem parseE_some {l : List UInt8} {fs : List (Int × Int)} (h : parseL 100 l = some fs) : parseE l = 0 := by unfold parseE; rw [h]; rfl
theorem parsed_some {l : List UInt8} {fs : List (Int × Int)} (h : parseL 100 l = some fs) : parsed l = fs := by unfold parsed; rw [h]; rfl

theorem ownsRow_two {wr : World} {base : Nat} {e : TypeId} {size : Nat} {v : Value} {n : Nat} {xs : List Value} (h : wr.ownsRow base e size v n xs) (q : Nat) (o : Obj) : ((wr.drewN q).alloc o).ownsRow base e size v n xs :=
  World.ownsRow.alloc (w := wr.drewN q) h o
theorem two_new' (w : World) (q : Nat) (x y : Value) (e : TypeId) : ∀ j u, [x, y][j]? = some u → ((w.drewN q).alloc (.cells #[x, y] e)).cell? ((⟨w.heap.size, 0, none⟩ : Addr).add j) = some u := two_new (w.drewN q) x y e

end Go.Proofs.YtfpglpefofcdeaaDoor
