/- Items read: plain; lists of items in memory, apart from some blocks. -/
import Derived.Test.YtamamlpicookiahCutLen
import Derived.Test.YtamamlpicookiahTree
namespace Go.Proofs.Ytamamlpicookiah
open Go.RowKit
set_option linter.unusedVariables false

/-- the tag at the beginning -/
def tagAt (s : ByteArray) : Nat := valN (s.data.toList.take (tagSz s.data.toList))
/-- what is behind the first k bytes -/
def behind (s : ByteArray) (k : Nat) : ByteArray := s.extract k s.size
theorem behind_size (s : ByteArray) (k : Nat) : (behind s k).size = s.size - k := by unfold behind; rw [ByteArray.size_extract]; omega
/-- the item at the beginning; P: how its own list is read -/
def itemAt (P : ByteArray → Option (List It)) (s : ByteArray) : Option (It × ByteArray) :=
  if s.size < tagSz s.data.toList then none
  else if validB (tagAt s) = false then none
  else match lenAt (behind s (tagSz s.data.toList)) with
    | none => none
    | some (n, k) =>
      if (behind (behind s (tagSz s.data.toList)) k).size < n then none
      else if madeB (tagAt s) = true then (P ((behind (behind s (tagSz s.data.toList)) k).extract 0 n)).map fun l => (.mk (tagAt s) ⟨#[]⟩ l, behind (behind (behind s (tagSz s.data.toList)) k) n)
      else some (.mk (tagAt s) ((behind (behind s (tagSz s.data.toList)) k).extract 0 n) [], behind (behind (behind s (tagSz s.data.toList)) k) n)
/-- items one behind the other -/
def listP (P : ByteArray → Option (List It)) : Nat → ByteArray → Option (List It)
  | 0, s => if s.size = 0 then some [] else none
  | f + 1, s => if s.size = 0 then some [] else match itemAt P s with | none => none | some (x, r) => (listP P f r).map (x :: ·)
/-- a list that may be d deep -/
def parseD : Nat → ByteArray → Option (List It)
  | 0, s => if s.size = 0 then some [] else none
  | d + 1, s => listP (parseD d) s.size s
theorem item_size {P : ByteArray → Option (List It)} {s : ByteArray} {x : It} {r : ByteArray} (h : itemAt P s = some (x, r)) : r.size < s.size := by
  have h1 := (tagSz_le s.data.toList).1
  unfold itemAt at h
  split at h
  · cases h
  · split at h
    · cases h
    · split at h
      · cases h
      · rename_i n k hl
        have hk := lenAt_lt hl
        rw [behind_size] at hk
        split at h
        · cases h
        · split at h
          · cases hp : P ((behind (behind s (tagSz s.data.toList)) k).extract 0 n) with
            | none => rw [hp] at h; cases h
            | some l =>
              rw [hp] at h
              have := (Prod.ext_iff.1 (Option.some.inj h)).2
              simp only at this
              rw [← this, behind_size, behind_size, behind_size]
              omega
          · have := (Prod.ext_iff.1 (Option.some.inj h)).2
            simp only at this
            rw [← this, behind_size, behind_size, behind_size]
            omega

/-- as IRow, and every block that it lies in is one of A -/
def IRowA (W : World) (A : Nat → Prop) : Nat → Option Addr → List It → Prop
  | 0, _, l => l = []
  | d + 1, ao, l => l = [] ∨ ∃ b off, ao = some ⟨b, off, none⟩ ∧ b < W.heap.size ∧ A b ∧ ∀ i x, l[i]? = some x → IAt W (IRowA W A d) b off i x
theorem IRowA.nil (W : World) (A : Nat → Prop) (d : Nat) (ao : Option Addr) : IRowA W A d ao [] := by
  cases d with
  | zero => rfl
  | succ d => exact .inl rfl
theorem IRowA.row {W : World} {A : Nat → Prop} : ∀ (d : Nat) {ao : Option Addr} {l : List It}, IRowA W A d ao l → IRow W d ao l
  | 0, _, _, h => h
  | d + 1, _, _, h => by
    rcases h with h | ⟨b, off, rfl, hlt, _, hc⟩
    · exact .inl h
    · refine .inr ⟨b, off, rfl, hlt, fun i x hx => ?_⟩
      obtain ⟨co, cc, h1, h2, h3, h4, h5, h6⟩ := hc i x hx
      exact ⟨co, cc, h1, h2, h3, h4, IRowA.row d h5, h6⟩
/-- kept where those blocks are kept -/
theorem IRowA.kept {W W' : World} {A A' : Nat → Prop} (hs : W.heap.size ≤ W'.heap.size) (hk : ∀ b, b < W.heap.size → A b → W'.heap[b]? = W.heap[b]? ∧ A' b) : ∀ (d : Nat) {ao : Option Addr} {l : List It}, IRowA W A d ao l → IRowA W' A' d ao l
  | 0, _, _, h => h
  | d + 1, _, _, h => by
    rcases h with h | ⟨b, off, rfl, hlt, hA, hc⟩
    · exact .inl h
    · obtain ⟨hb, hA'⟩ := hk b hlt hA
      refine .inr ⟨b, off, rfl, Nat.lt_of_lt_of_le hlt hs, hA', fun i x hx => ?_⟩
      obtain ⟨co, cc, h1, h2, h3, h4, h5, h6⟩ := hc i x hx
      exact ⟨co, cc, (World.cell?_of_block (w := W) (w' := W') (a := ⟨b, off + i * 3, none⟩) hb).trans h1, (World.cell?_of_block (w := W) (w' := W') (a := ⟨b, off + i * 3 + 1, none⟩) hb).trans h2, (World.cell?_of_block (w := W) (w' := W') (a := ⟨b, off + i * 3 + 2, none⟩) hb).trans h3, h4, IRowA.kept hs hk d h5, h6⟩
theorem IRowA.below {W W' : World} {A : Nat → Prop} (hb : Below W.heap.size W W') (d : Nat) {ao : Option Addr} {l : List It} (h : IRowA W A d ao l) : IRowA W' A d ao l :=
  IRowA.kept hb.size (fun b hlt hA => ⟨hb.block b hlt, hA⟩) d h
theorem IRowA.mono {W : World} {A A' : Nat → Prop} (hA : ∀ b, b < W.heap.size → A b → A' b) (d : Nat) {ao : Option Addr} {l : List It} (h : IRowA W A d ao l) : IRowA W A' d ao l :=
  IRowA.kept (Nat.le_refl _) (fun b hlt h => ⟨rfl, hA b hlt h⟩) d h
end Go.Proofs.Ytamamlpicookiah
