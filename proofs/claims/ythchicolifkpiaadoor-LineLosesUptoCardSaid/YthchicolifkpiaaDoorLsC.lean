/- The law's two ends and what is on its way, in memory. -/
import Derived.Test.YthchicolifkpiaaDoorLosE
import Derived.Test.YthchicolifkpiaaDoorLsB
import Derived.Deep.DeepCutAuto
import Derived.BigQuiet
namespace Go.Proofs.YthchicolifkpiaaDoor
open Go.RowKit Go.Lib
set_option linter.unusedVariables false

abbrev ptrE (b : Nat) : Value := .pointer (some ⟨b, 0, none⟩)
/-- the block of the noisy line, and what it holds; who q: whose block q is -/
structure NAt (w : World) (nb base : Nat) (e : Nat → Nat) (F : Nat → Nat → Prop) (G : Nat → List ByteArray) (x : Nat → Nd) (t : Nat → Nat) (v : Nat → Value) (U : Nat → List ByteArray) (g : Nat → Value) (D : Nat → List ByteArray) (r : Nat → Value) (R : Nat → List ByteArray) (who : Nat → Nat) : Prop where
  blk : w.heap[nb]? = some (.cells #[ptrE (e 0), ptrE (e 1), v 0, v 1, g 0, g 1, r 0, r 1] 48 (0, 0))
  lo : base ≤ nb
  hi : base ≤ w.heap.size
  pos : 0 < base
  en : ∀ i, i < 2 → EAt w (e i) base (F i) (G i) (G (1 - i)) (x i) (t i)
  wa : ∀ i, i < 2 → WinRow w base 9 (v i) (cellsT (U i))
  gi : ∀ i, i < 2 → WinRow w base 9 (g i) (cellsT (D i))
  go : ∀ i, i < 2 → WinRow w base 9 (r i) (cellsT (R i))
  w0 : who nb = 0
  wf : ∀ i, i < 2 → ∀ q, F i q → who q = 1 + i
  wv : ∀ i, i < 2 → ∀ q, (v i).ownBlock = some q → who q = 3 + i
  wg : ∀ i, i < 2 → ∀ q, (g i).ownBlock = some q → who q = 5 + i
  wr : ∀ i, i < 2 → ∀ q, (r i).ownBlock = some q → who q = 7 + i
def upd {α : Type} (f : Nat → α) (i : Nat) (a : α) : Nat → α := fun j => if j = i then a else f j
theorem upd_same {α : Type} (f : Nat → α) (i : Nat) (a : α) : upd f i a i = a := if_pos rfl
theorem upd_other {α : Type} (f : Nat → α) {i j : Nat} (a : α) (h : j ≠ i) : upd f i a j = f j := if_neg h
theorem NAt.lt {w : World} {nb base : Nat} {e : Nat → Nat} {F : Nat → Nat → Prop} {G : Nat → List ByteArray} {x : Nat → Nd} {t : Nat → Nat} {v : Nat → Value} {U : Nat → List ByteArray} {g : Nat → Value} {D : Nat → List ByteArray} {r : Nat → Value} {R : Nat → List ByteArray} {who : Nat → Nat}
    (h : NAt w nb base e F G x t v U g D r R who) : nb < w.heap.size := by
  rcases Nat.lt_or_ge nb w.heap.size with hlt | hge
  · exact hlt
  · have := h.blk; rw [Array.getElem?_eq_none hge] at this; cases this
/-- one of the two ends did something -/
theorem NAt.stepE {w w' : World} {nb base : Nat} {e : Nat → Nat} {F : Nat → Nat → Prop} {G G' : Nat → List ByteArray} {x : Nat → Nd} {t : Nat → Nat} {v : Nat → Value} {U : Nat → List ByteArray} {g : Nat → Value} {D : Nat → List ByteArray} {r : Nat → Value} {R : Nat → List ByteArray} {who : Nat → Nat}
    (h : NAt w nb base e F G x t v U g D r R who) {i : Nat} (hi : i < 2) {F' : Nat → Prop} {x' : Nd} {t' : Nat} (hs : EStep w w' (F i) F') (hE : EAt w' (e i) base F' (G' i) (G' (1 - i)) x' t') (hO : EAt w (e (1 - i)) base (F (1 - i)) (G' (1 - i)) (G' i) (x (1 - i)) (t (1 - i))) :
    NAt w' nb base e (upd F i F') G' (upd x i x') (upd t i t') v U g D r R (fun q => if q < w.heap.size then who q else 1 + i) := by
  have hk : ∀ q, q < w.heap.size → who q ≠ 1 + i → w'.heap[q]? = w.heap[q]? := fun q hq hn => hs.keep.block q hq (fun hf => hn (h.wf i hi q hf))
  have hlt := h.lt
  have hrow : ∀ {vv : Value} {xs : List Value} (c : Nat), WinRow w base 9 vv xs → (∀ q, vv.ownBlock = some q → who q = c) → c ≠ 1 + i → WinRow w' base 9 vv xs ∧ ∀ q, vv.ownBlock = some q → (if q < w.heap.size then who q else 1 + i) = c := by
    intro vv xs c hw hc hne
    refine ⟨hw.kept fun q hq => hk q (hw.lt q hq).1 (by rw [hc q hq]; exact hne), fun q hq => ?_⟩
    rw [if_pos (hw.lt q hq).1]; exact hc q hq
  refine ⟨(hk nb hlt (by rw [h.w0]; omega)).trans h.blk, h.lo, Nat.le_trans h.hi hs.keep.size, h.pos, fun j hj => ?_, fun j hj => (hrow _ (h.wa j hj) (h.wv j hj) (by omega)).1, fun j hj => (hrow _ (h.gi j hj) (h.wg j hj) (by omega)).1, fun j hj => (hrow _ (h.go j hj) (h.wr j hj) (by omega)).1,
    by rw [if_pos hlt]; exact h.w0, fun j hj q hq => ?_, fun j hj => (hrow _ (h.wa j hj) (h.wv j hj) (by omega)).2, fun j hj => (hrow _ (h.gi j hj) (h.wg j hj) (by omega)).2, fun j hj => (hrow _ (h.go j hj) (h.wr j hj) (by omega)).2⟩
  · by_cases hji : j = i
    · subst hji
      rw [upd_same, upd_same, upd_same]; exact hE
    · have hj1 : j = 1 - i := by omega
      have hi1 : 1 - j = i := by omega
      rw [upd_other _ _ hji, upd_other _ _ hji, upd_other _ _ hji, hi1]
      subst hj1
      exact hO.kept fun q hq => hk q (hO.ge q hq).2 (by rw [h.wf (1 - i) hj q hq]; omega)
  · by_cases hji : j = i
    · subst hji
      rw [upd_same] at hq
      rcases hs.new q hq with hf | hf
      · split
        · exact h.wf j hj q hf
        · rfl
      · rw [if_neg (by omega)]
    · rw [upd_other _ _ hji] at hq
      rw [if_pos ((h.en j hj).ge q hq).2]; exact h.wf j hj q hq
/-- a row of it turned -/
theorem NAt.setV {w w1 : World} {nb base : Nat} {e : Nat → Nat} {F : Nat → Nat → Prop} {G : Nat → List ByteArray} {x : Nat → Nd} {t : Nat → Nat} {v : Nat → Value} {U : Nat → List ByteArray} {g : Nat → Value} {D : Nat → List ByteArray} {r : Nat → Value} {R : Nat → List ByteArray} {who : Nat → Nat}
    (h : NAt w nb base e F G x t v U g D r R who) {i : Nat} (hi : i < 2) (hg : w.grownBy w1 (v i).ownBlock) {v' : Value} {U' : List ByteArray} (hw : WinRow w1 base 9 v' (cellsT U')) (hn : ∀ q, v'.ownBlock = some q → (v i).ownBlock = some q ∨ w.heap.size ≤ q) :
    NAt (w1.setCell ⟨nb, 2 + i, none⟩ v') nb base e F G x t (upd v i v') (upd U i U') g D r R (fun q => if q < w.heap.size then who q else 3 + i) := by
  have hlt := h.lt
  have hk1 : ∀ q, q < w.heap.size → who q ≠ 3 + i → w1.heap[q]? = w.heap[q]? := fun q hq hne => hg.block q hq (fun hf => hne (h.wv i hi q hf.symm))
  have hk : ∀ q, q < w.heap.size → who q ≠ 3 + i → q ≠ nb → (w1.setCell ⟨nb, 2 + i, none⟩ v').heap[q]? = w.heap[q]? := fun q hq hne hqn => (set_other hqn).trans (hk1 q hq hne)
  have hb1 : w1.heap[nb]? = some (.cells #[ptrE (e 0), ptrE (e 1), v 0, v 1, g 0, g 1, r 0, r 1] 48 (0, 0)) := (hk1 nb hlt (by rw [h.w0]; omega)).trans h.blk
  have hrow : ∀ {vv : Value} {xs : List Value} (c : Nat), WinRow w base 9 vv xs → (∀ q, vv.ownBlock = some q → who q = c) → c ≠ 3 + i ∧ 0 < c → WinRow (w1.setCell ⟨nb, 2 + i, none⟩ v') base 9 vv xs ∧ ∀ q, vv.ownBlock = some q → (if q < w.heap.size then who q else 3 + i) = c := by
    intro vv xs c hw hc hne
    refine ⟨hw.kept fun q hq => hk q (hw.lt q hq).1 (by rw [hc q hq]; exact hne.1) (fun e' => ?_), fun q hq => ?_⟩
    · have h1 := hc q hq
      rw [e', h.w0] at h1
      omega
    · rw [if_pos (hw.lt q hq).1]; exact hc q hq
  have hw' : WinRow (w1.setCell ⟨nb, 2 + i, none⟩ v') base 9 v' (cellsT U') := hw.kept fun q hq => set_other (fun e' => by
    rcases hn q hq with h1 | h1
    · have := h.wv i hi q h1
      rw [e', h.w0] at this
      omega
    · omega)
  have hsz : w.heap.size ≤ (w1.setCell ⟨nb, 2 + i, none⟩ v').heap.size := by have := hg.size; simpa using this
  refine ⟨?_, h.lo, Nat.le_trans h.hi hsz, h.pos, fun j hj => (h.en j hj).kept fun q hq => hk q ((h.en j hj).ge q hq).2 (by rw [h.wf j hj q hq]; omega) (fun e' => ?_), fun j hj => by
      by_cases hji : j = i
      · subst hji; rw [upd_same, upd_same]; exact hw'
      · rw [upd_other _ _ hji, upd_other _ _ hji]; exact (hrow _ (h.wa j hj) (h.wv j hj) (by omega)).1, fun j hj => (hrow _ (h.gi j hj) (h.wg j hj) (by omega)).1, fun j hj => (hrow _ (h.go j hj) (h.wr j hj) (by omega)).1,
    by rw [if_pos hlt]; exact h.w0, fun j hj q hq => ?_, fun j hj q hq => by
      by_cases hji : j = i
      · subst hji; rw [upd_same] at hq
        rcases hn q hq with hq | hq
        · rw [if_pos ((h.wa j hj).lt q hq).1]; exact h.wv j hj q hq
        · rw [if_neg (by omega)]
      · rw [upd_other _ _ hji] at hq; exact (hrow _ (h.wa j hj) (h.wv j hj) (by omega)).2 q hq, fun j hj => (hrow _ (h.gi j hj) (h.wg j hj) (by omega)).2, fun j hj => (hrow _ (h.go j hj) (h.wr j hj) (by omega)).2⟩
  · rw [setCell_eq_setRow w1 nb (2 + i) _ _ _ v' hb1, setRow_heap w1 nb _ _ _ _ hb1]
    rcases (show i = 0 ∨ i = 1 by omega) with rfl | rfl <;> rfl
  · have := h.wf j hj q hq
    rw [e', h.w0] at this
    omega
  · rw [if_pos ((h.en j hj).ge q hq).2]; exact h.wf j hj q hq
/-- a row of it turned -/
theorem NAt.setG {w w1 : World} {nb base : Nat} {e : Nat → Nat} {F : Nat → Nat → Prop} {G : Nat → List ByteArray} {x : Nat → Nd} {t : Nat → Nat} {v : Nat → Value} {U : Nat → List ByteArray} {g : Nat → Value} {D : Nat → List ByteArray} {r : Nat → Value} {R : Nat → List ByteArray} {who : Nat → Nat}
    (h : NAt w nb base e F G x t v U g D r R who) {i : Nat} (hi : i < 2) (hg : w.grownBy w1 (g i).ownBlock) {v' : Value} {U' : List ByteArray} (hw : WinRow w1 base 9 v' (cellsT U')) (hn : ∀ q, v'.ownBlock = some q → (g i).ownBlock = some q ∨ w.heap.size ≤ q) :
    NAt (w1.setCell ⟨nb, 4 + i, none⟩ v') nb base e F G x t v U (upd g i v') (upd D i U') r R (fun q => if q < w.heap.size then who q else 5 + i) := by
  have hlt := h.lt
  have hk1 : ∀ q, q < w.heap.size → who q ≠ 5 + i → w1.heap[q]? = w.heap[q]? := fun q hq hne => hg.block q hq (fun hf => hne (h.wg i hi q hf.symm))
  have hk : ∀ q, q < w.heap.size → who q ≠ 5 + i → q ≠ nb → (w1.setCell ⟨nb, 4 + i, none⟩ v').heap[q]? = w.heap[q]? := fun q hq hne hqn => (set_other hqn).trans (hk1 q hq hne)
  have hb1 : w1.heap[nb]? = some (.cells #[ptrE (e 0), ptrE (e 1), v 0, v 1, g 0, g 1, r 0, r 1] 48 (0, 0)) := (hk1 nb hlt (by rw [h.w0]; omega)).trans h.blk
  have hrow : ∀ {vv : Value} {xs : List Value} (c : Nat), WinRow w base 9 vv xs → (∀ q, vv.ownBlock = some q → who q = c) → c ≠ 5 + i ∧ 0 < c → WinRow (w1.setCell ⟨nb, 4 + i, none⟩ v') base 9 vv xs ∧ ∀ q, vv.ownBlock = some q → (if q < w.heap.size then who q else 5 + i) = c := by
    intro vv xs c hw hc hne
    refine ⟨hw.kept fun q hq => hk q (hw.lt q hq).1 (by rw [hc q hq]; exact hne.1) (fun e' => ?_), fun q hq => ?_⟩
    · have h1 := hc q hq
      rw [e', h.w0] at h1
      omega
    · rw [if_pos (hw.lt q hq).1]; exact hc q hq
  have hw' : WinRow (w1.setCell ⟨nb, 4 + i, none⟩ v') base 9 v' (cellsT U') := hw.kept fun q hq => set_other (fun e' => by
    rcases hn q hq with h1 | h1
    · have := h.wg i hi q h1
      rw [e', h.w0] at this
      omega
    · omega)
  have hsz : w.heap.size ≤ (w1.setCell ⟨nb, 4 + i, none⟩ v').heap.size := by have := hg.size; simpa using this
  refine ⟨?_, h.lo, Nat.le_trans h.hi hsz, h.pos, fun j hj => (h.en j hj).kept fun q hq => hk q ((h.en j hj).ge q hq).2 (by rw [h.wf j hj q hq]; omega) (fun e' => ?_), fun j hj => (hrow _ (h.wa j hj) (h.wv j hj) (by omega)).1, fun j hj => by
      by_cases hji : j = i
      · subst hji; rw [upd_same, upd_same]; exact hw'
      · rw [upd_other _ _ hji, upd_other _ _ hji]; exact (hrow _ (h.gi j hj) (h.wg j hj) (by omega)).1, fun j hj => (hrow _ (h.go j hj) (h.wr j hj) (by omega)).1,
    by rw [if_pos hlt]; exact h.w0, fun j hj q hq => ?_, fun j hj => (hrow _ (h.wa j hj) (h.wv j hj) (by omega)).2, fun j hj q hq => by
      by_cases hji : j = i
      · subst hji; rw [upd_same] at hq
        rcases hn q hq with hq | hq
        · rw [if_pos ((h.gi j hj).lt q hq).1]; exact h.wg j hj q hq
        · rw [if_neg (by omega)]
      · rw [upd_other _ _ hji] at hq; exact (hrow _ (h.gi j hj) (h.wg j hj) (by omega)).2 q hq, fun j hj => (hrow _ (h.go j hj) (h.wr j hj) (by omega)).2⟩
  · rw [setCell_eq_setRow w1 nb (4 + i) _ _ _ v' hb1, setRow_heap w1 nb _ _ _ _ hb1]
    rcases (show i = 0 ∨ i = 1 by omega) with rfl | rfl <;> rfl
  · have := h.wf j hj q hq
    rw [e', h.w0] at this
    omega
  · rw [if_pos ((h.en j hj).ge q hq).2]; exact h.wf j hj q hq
/-- a row of it turned -/
theorem NAt.setR {w w1 : World} {nb base : Nat} {e : Nat → Nat} {F : Nat → Nat → Prop} {G : Nat → List ByteArray} {x : Nat → Nd} {t : Nat → Nat} {v : Nat → Value} {U : Nat → List ByteArray} {g : Nat → Value} {D : Nat → List ByteArray} {r : Nat → Value} {R : Nat → List ByteArray} {who : Nat → Nat}
    (h : NAt w nb base e F G x t v U g D r R who) {i : Nat} (hi : i < 2) (hg : w.grownBy w1 (r i).ownBlock) {v' : Value} {U' : List ByteArray} (hw : WinRow w1 base 9 v' (cellsT U')) (hn : ∀ q, v'.ownBlock = some q → (r i).ownBlock = some q ∨ w.heap.size ≤ q) :
    NAt (w1.setCell ⟨nb, 6 + i, none⟩ v') nb base e F G x t v U g D (upd r i v') (upd R i U') (fun q => if q < w.heap.size then who q else 7 + i) := by
  have hlt := h.lt
  have hk1 : ∀ q, q < w.heap.size → who q ≠ 7 + i → w1.heap[q]? = w.heap[q]? := fun q hq hne => hg.block q hq (fun hf => hne (h.wr i hi q hf.symm))
  have hk : ∀ q, q < w.heap.size → who q ≠ 7 + i → q ≠ nb → (w1.setCell ⟨nb, 6 + i, none⟩ v').heap[q]? = w.heap[q]? := fun q hq hne hqn => (set_other hqn).trans (hk1 q hq hne)
  have hb1 : w1.heap[nb]? = some (.cells #[ptrE (e 0), ptrE (e 1), v 0, v 1, g 0, g 1, r 0, r 1] 48 (0, 0)) := (hk1 nb hlt (by rw [h.w0]; omega)).trans h.blk
  have hrow : ∀ {vv : Value} {xs : List Value} (c : Nat), WinRow w base 9 vv xs → (∀ q, vv.ownBlock = some q → who q = c) → c ≠ 7 + i ∧ 0 < c → WinRow (w1.setCell ⟨nb, 6 + i, none⟩ v') base 9 vv xs ∧ ∀ q, vv.ownBlock = some q → (if q < w.heap.size then who q else 7 + i) = c := by
    intro vv xs c hw hc hne
    refine ⟨hw.kept fun q hq => hk q (hw.lt q hq).1 (by rw [hc q hq]; exact hne.1) (fun e' => ?_), fun q hq => ?_⟩
    · have h1 := hc q hq
      rw [e', h.w0] at h1
      omega
    · rw [if_pos (hw.lt q hq).1]; exact hc q hq
  have hw' : WinRow (w1.setCell ⟨nb, 6 + i, none⟩ v') base 9 v' (cellsT U') := hw.kept fun q hq => set_other (fun e' => by
    rcases hn q hq with h1 | h1
    · have := h.wr i hi q h1
      rw [e', h.w0] at this
      omega
    · omega)
  have hsz : w.heap.size ≤ (w1.setCell ⟨nb, 6 + i, none⟩ v').heap.size := by have := hg.size; simpa using this
  refine ⟨?_, h.lo, Nat.le_trans h.hi hsz, h.pos, fun j hj => (h.en j hj).kept fun q hq => hk q ((h.en j hj).ge q hq).2 (by rw [h.wf j hj q hq]; omega) (fun e' => ?_), fun j hj => (hrow _ (h.wa j hj) (h.wv j hj) (by omega)).1, fun j hj => (hrow _ (h.gi j hj) (h.wg j hj) (by omega)).1, fun j hj => by
      by_cases hji : j = i
      · subst hji; rw [upd_same, upd_same]; exact hw'
      · rw [upd_other _ _ hji, upd_other _ _ hji]; exact (hrow _ (h.go j hj) (h.wr j hj) (by omega)).1,
    by rw [if_pos hlt]; exact h.w0, fun j hj q hq => ?_, fun j hj => (hrow _ (h.wa j hj) (h.wv j hj) (by omega)).2, fun j hj => (hrow _ (h.gi j hj) (h.wg j hj) (by omega)).2, fun j hj q hq => by
      by_cases hji : j = i
      · subst hji; rw [upd_same] at hq
        rcases hn q hq with hq | hq
        · rw [if_pos ((h.go j hj).lt q hq).1]; exact h.wr j hj q hq
        · rw [if_neg (by omega)]
      · rw [upd_other _ _ hji] at hq; exact (hrow _ (h.go j hj) (h.wr j hj) (by omega)).2 q hq⟩
  · rw [setCell_eq_setRow w1 nb (6 + i) _ _ _ v' hb1, setRow_heap w1 nb _ _ _ _ hb1]
    rcases (show i = 0 ∨ i = 1 by omega) with rfl | rfl <;> rfl
  · have := h.wf j hj q hq
    rw [e', h.w0] at this
    omega
  · rw [if_pos ((h.en j hj).ge q hq).2]; exact h.wf j hj q hq
/-- an end, put at its place -/
def at2 {α : Type} (a b : α) : Nat → α := fun i => if i = 0 then a else b
theorem newEnd {w : World} {b base : Nat} (h : PAt w b base [] 0 0 0 0 false ByteArray.empty false [] (.slice none 0 0) (.slice none 0 0) (.slice none 0 0)) :
    EAt w b base (fun q => q = b) [] [] ⟨0, 0, 0, 0, false⟩ 0 :=
  ⟨[], 0, 0, 0, 0, false, ByteArray.empty, false, [], _, _, _, h, ⟨out_new, in_new, rfl, rfl, rfl, rfl, rfl⟩, fun q => ⟨fun e => .inl e, fun k => by
    rcases k with k | k | k | k
    · exact k
    · cases k
    · cases k
    · cases k⟩⟩
set_option maxRecDepth 100000 in
set_option maxHeartbeats 4000000 in
theorem newNoisy_any (w : World) (h0 : 0 < w.heap.size) : Calls Tryd.prog 20 #[] w fun e w' => Below w.heap.size w w' ∧ ∃ nb e0 e1, e = .returned (ptrE nb) ∧
    NAt w' nb w.heap.size (at2 e0 e1) (fun i q => q = at2 e0 e1 i) (fun _ => []) (fun _ => ⟨0, 0, 0, 0, false⟩) (fun _ => 0) (fun _ => .slice none 0 0) (fun _ => []) (fun _ => .slice none 0 0) (fun _ => []) (fun _ => .slice none 0 0) (fun _ => []) (fun q => if q = e0 then 1 else if q = e1 then 2 else 0) := by
  have N1 := hide (pnew_any)
  go_enter Tryd.func20, Tryd.ntmps20
  go_wp2_with fail
  refine (unhide N1 _).mono ?_
  rintro e w1 ⟨rfl, hb1, hP1⟩
  go_wp2_with fail
  refine (unhide N1 _).mono ?_
  rintro e w2 ⟨rfl, hb2, hP2⟩
  have hl1 := hP1.lt
  have hl2 := hP2.lt
  have hs1 := hb1.size
  have hs2 := hb2.size
  have hb12 : Below w.heap.size w w2 := hb1.trans (hb2.mono hs1)
  have hP2' : PAt w2 w1.heap.size w.heap.size [] 0 0 0 0 false ByteArray.empty false [] (.slice none 0 0) (.slice none 0 0) (.slice none 0 0) :=
    ⟨hP2.blk, hs1, World.ownsRow_nil _ _ _ _, World.ownsRow_nil _ _ _ _, World.ownsRow_nil _ _ _ _, hP2.nt, hP2.np, hP2.ng, hP2.tp, hP2.tg, hP2.pg⟩
  have E0 := newEnd (hP1.below hb2)
  have E1 := newEnd hP2'
  have hlt2 := hP2'.lt
  have hlt1 := (hP1.below hb2).lt
  have hne : w1.heap.size ≠ w.heap.size := by have := hP1.lt; omega
  clear hP1 hP2 hP2' hb1 hb2 N1
  go_wp2
  go_ret
  refine ⟨hb12.alloc hb12.size _, w2.heap.size, w.heap.size, w1.heap.size, rfl, ⟨heap_alloc_new _ _, hb12.size, ?_, h0, fun i hi => ?_, fun i hi => .inl ⟨rfl, rfl⟩, fun i hi => .inl ⟨rfl, rfl⟩, fun i hi => .inl ⟨rfl, rfl⟩, ?_, fun i hi q hq => ?_, by simp [Value.ownBlock], by simp [Value.ownBlock], by simp [Value.ownBlock]⟩⟩
  · rw [World.size_alloc]; have := hb12.size; omega
  · rcases (show i = 0 ∨ i = 1 by omega) with rfl | rfl
    · exact E0.kept fun q hq => Below.heap_alloc w2 _ q (by rw [hq]; exact hlt1)
    · exact E1.kept fun q hq => Below.heap_alloc w2 _ q (by rw [hq]; exact hlt2)
  · rw [if_neg (by omega), if_neg (by omega)]
  · rcases (show i = 0 ∨ i = 1 by omega) with rfl | rfl
    · have hq' : q = w.heap.size := hq
      rw [if_pos hq']
    · have hq' : q = w1.heap.size := hq
      rw [if_neg (by rw [hq']; exact hne), if_pos hq']
end Go.Proofs.YthchicolifkpiaaDoor
namespace Go.Proofs.YthchicolifkpiaaDoor
open Go.RowKit
set_option linter.unusedVariables false

theorem WinRow.srow {w : World} {base : Nat} {v : Value} {l : List ByteArray} (h : WinRow w base 9 v (cellsT l)) : ∃ ao c, v = .slice ao l.length c ∧ l.length ≤ c ∧ SRow w ao l := by
  have h0 := h
  rcases h with ⟨rfl, hl⟩ | ⟨g, o, cap, cur, rfl, h1, h2, h3, _⟩
  · have : l = [] := by unfold cellsT at hl; exact List.map_eq_nil_iff.1 hl
    subst this
    exact ⟨none, 0, rfl, Nat.le_refl _, .inl rfl⟩
  · refine ⟨some ⟨g, o, none⟩, cap, by simp [cellsT], by simpa [cellsT] using h3, .inr ⟨g, o, rfl, (h0.lt g rfl).1, fun i s hs => ?_⟩⟩
    have := h0.cells.2.2 i (.string s) (by simp [cellsT, hs])
    have ha : (⟨g, o, none⟩ : Addr).add i = ⟨g, o + i, none⟩ := by unfold Addr.add; split <;> simp_all
    rwa [ha] at this
theorem eight_cells {w : World} {g : Nat} {a0 a1 a2 a3 a4 a5 a6 a7 : Value} {e : TypeId} (h : w.heap[g]? = some (.cells #[a0, a1, a2, a3, a4, a5, a6, a7] e (0, 0))) :
    (w.cell? ⟨g, 0, none⟩ = some a0 ∧ w.cell? ⟨g, 1, none⟩ = some a1 ∧ w.cell? ⟨g, 2, none⟩ = some a2 ∧ w.cell? ⟨g, 3, none⟩ = some a3 ∧ w.cell? ⟨g, 4, none⟩ = some a4 ∧ w.cell? ⟨g, 5, none⟩ = some a5 ∧ w.cell? ⟨g, 6, none⟩ = some a6 ∧ w.cell? ⟨g, 7, none⟩ = some a7) ∧
    ∀ j, w.frozen? ⟨g, j, none⟩ = false :=
  ⟨⟨(cell_of_row _ _ 0 _ _ _ h).trans rfl, (cell_of_row _ _ 1 _ _ _ h).trans rfl, (cell_of_row _ _ 2 _ _ _ h).trans rfl, (cell_of_row _ _ 3 _ _ _ h).trans rfl, (cell_of_row _ _ 4 _ _ _ h).trans rfl, (cell_of_row _ _ 5 _ _ _ h).trans rfl, (cell_of_row _ _ 6 _ _ _ h).trans rfl, (cell_of_row _ _ 7 _ _ _ h).trans rfl⟩,
    fun j => by simp [World.frozen?, h]⟩
theorem NAt.below {w w' : World} {nb base : Nat} {e : Nat → Nat} {F : Nat → Nat → Prop} {G : Nat → List ByteArray} {x : Nat → Nd} {t : Nat → Nat} {v : Nat → Value} {U : Nat → List ByteArray} {g : Nat → Value} {D : Nat → List ByteArray} {r : Nat → Value} {R : Nat → List ByteArray} {who : Nat → Nat}
    (h : NAt w nb base e F G x t v U g D r R who) (hb : Below w.heap.size w w') : NAt w' nb base e F G x t v U g D r R who :=
  ⟨(hb.block nb h.lt).trans h.blk, h.lo, Nat.le_trans h.hi hb.size, h.pos, fun i hi => (h.en i hi).kept fun q hq => hb.block q ((h.en i hi).ge q hq).2, fun i hi => (h.wa i hi).kept fun q hq => hb.block q ((h.wa i hi).lt q hq).1, fun i hi => (h.gi i hi).kept fun q hq => hb.block q ((h.gi i hi).lt q hq).1, fun i hi => (h.go i hi).kept fun q hq => hb.block q ((h.go i hi).lt q hq).1, h.w0, h.wf, h.wv, h.wg, h.wr⟩
theorem SRow.begin {w : World} {ao : Option Addr} {a b : List ByteArray} (h : SRow w ao (a ++ b)) : SRow w ao a := by
  rcases h with h | ⟨g, o, rfl, h1, h2⟩
  · exact .inl (List.append_eq_nil_iff.1 h).1
  · exact .inr ⟨g, o, rfl, h1, fun i s hs => h2 i s (by
      have hi : i < a.length := by
        rcases Nat.lt_or_ge i a.length with h | h
        · exact h
        · rw [List.getElem?_eq_none h] at hs; cases hs
      rw [List.getElem?_append_left hi]; exact hs)⟩
set_option maxRecDepth 100000 in
set_option maxHeartbeats 4000000 in
/-- one list that lies twice: nothing is left but draws -/
theorem same_one (fs : List ByteArray) (ao bo : Option Addr) (c d : Nat) (w : World) (hf : SRow w ao fs) (hg : SRow w bo fs) (hl : (fs.length : Int) ≤ 9000000000000) :
    Calls Tryd.prog 14 #[.slice ao fs.length c, .slice bo fs.length d] w fun e w' => e = .returned (.bool true) ∧ ∃ m, w' = w.drewN m := by
  have t1 : ((fs.length : Int) != (fs.length : Int)) = false := by rw [bne_eq_false_iff_eq]
  go_enter Tryd.func14, Tryd.ntmps14
  go_wp2
  go_loopw [13] (fun i wr => ∃ k : Nat, k ≤ fs.length ∧ i = .int .i64 k ∧ ∃ q, wr = w.drewN q) (fun i _ => fs.length - (intOf i).toNat)
  case atStart => exact ⟨0, Nat.zero_le _, rfl, 0, rfl⟩
  case round =>
    obtain ⟨k, hk, rfl, q, rfl⟩ := hrel
    by_cases hlt : k < fs.length
    · rcases hf with hnil | ⟨b, off, rfl, hb, hc⟩
      · rw [hnil] at hlt; simp at hlt
      rcases hg with hnil | ⟨b', off', rfl, hb', hc'⟩
      · rw [hnil] at hlt; simp at hlt
      obtain ⟨x, hx⟩ : ∃ s, fs[k]? = some s := ⟨fs[k], List.getElem?_eq_getElem hlt⟩
      have c0 := hc k x hx
      have c1 := hc' k x hx
      have hki : (k : Int) < (fs.length : Int) := by omega
      clear hc hc' hx
      go_wp2_with fail
      go_quiet (fail)
      go_wp2
      go_roundw
      case rel => exact ⟨k + 1, by omega, by go_num, _, rfl⟩
      case measure => simp [intOf]; omega
    · go_wp2
      go_ret
      exact ⟨rfl, q, rfl⟩
theorem slice_begin (ao : Option Addr) (n c j : Nat) (h : j ≤ c) (wx : World) : (Instr.slice 25 (.slice ao n c) none (some (.int .i64 (j : Int))) none).run Tryd.prog wx = .ok (.slice ao j c) wx := by
  have h' : (j : Int) ≤ (c : Int) := by omega
  cases ao with
  | none => simp [Instr.slice, go_sem, h']
  | some a => simp [Instr.slice, go_sem, h']
set_option maxRecDepth 100000 in
set_option maxHeartbeats 4000000 in
theorem right_any {w : World} {nb base : Nat} {e : Nat → Nat} {F : Nat → Nat → Prop} {G : Nat → List ByteArray} {x : Nat → Nd} {t : Nat → Nat} {v : Nat → Value} {U : Nat → List ByteArray} {g : Nat → Value} {D : Nat → List ByteArray} {r : Nat → Value} {R : Nat → List ByteArray} {who : Nat → Nat}
    (h : NAt w nb base e F G x t v U g D r R who) (h0 : ∃ b, D 1 = R 0 ++ b) (h1 : ∃ b, D 0 = R 1 ++ b) (l0 : (D 0).length ≤ 9000000000) (l1 : (D 1).length ≤ 9000000000) :
    Calls Tryd.prog 22 #[ptrE nb] w fun e w' => e = .returned (.bool true) ∧ ∃ m, w' = w.drewN m := by
  obtain ⟨b0, hD1⟩ := h0
  obtain ⟨b1, hD0⟩ := h1
  obtain ⟨ga0, gc0, hg0, hgl0, sg0⟩ := (h.gi 0 (by omega)).srow
  obtain ⟨ga1, gc1, hg1, hgl1, sg1⟩ := (h.gi 1 (by omega)).srow
  obtain ⟨ra0, rc0, hr0, hrl0, sr0⟩ := (h.go 0 (by omega)).srow
  obtain ⟨ra1, rc1, hr1, hrl1, sr1⟩ := (h.go 1 (by omega)).srow
  have hblk := h.blk
  rw [hg0, hg1, hr0, hr1] at hblk
  obtain ⟨⟨c0, c1, c2, c3, c4, c5, c6, c7⟩, hfz⟩ := eight_cells hblk
  have hlt := h.lt
  have m0 : (R 0).length ≤ (D 1).length := by rw [hD1, List.length_append]; omega
  have m1 : (R 1).length ≤ (D 0).length := by rw [hD0, List.length_append]; omega
  rw [hD1] at sg1
  rw [hD0] at sg0
  have N0 := hide (fun (q : Nat) d1 d2 => same_one (R 0) ra0 ga1 d1 d2 (w.drewN q) (by
    rcases sr0 with k | ⟨q, o, k1, k2, k3⟩
    · exact .inl k
    · exact .inr ⟨q, o, k1, k2, k3⟩) (by
    rcases sg1.begin with k | ⟨q, o, k1, k2, k3⟩
    · exact .inl k
    · exact .inr ⟨q, o, k1, k2, k3⟩) (by omega))
  have N1 := hide (fun (q : Nat) d1 d2 => same_one (R 1) ra1 ga0 d1 d2 (w.drewN q) (by
    rcases sr1 with k | ⟨q, o, k1, k2, k3⟩
    · exact .inl k
    · exact .inr ⟨q, o, k1, k2, k3⟩) (by
    rcases sg0.begin with k | ⟨q, o, k1, k2, k3⟩
    · exact .inl k
    · exact .inr ⟨q, o, k1, k2, k3⟩) (by omega))
  generalize (R 0).length = n0 at *
  generalize (R 1).length = n1 at *
  generalize (D 0).length = k0 at *
  generalize (D 1).length = k1 at *
  have HB := hide hblk
  clear hblk h sg0 sg1 sr0 sr1 hg0 hg1 hr0 hr1 hD0 hD1 hfz c0 c1 c2 c3
  go_enter Tryd.func22, Tryd.ntmps22
  go_wp2_with fail
  go_loopw [5] (fun i wr => ∃ j : Nat, j ≤ 2 ∧ i = .int .i64 j ∧ ∃ q, wr = w.drewN q) (fun i _ => 2 - (intOf i).toNat)
  case atStart => exact ⟨0, by omega, rfl, 0, rfl⟩
  case round =>
    obtain ⟨j, hj, rfl, q, hwr⟩ := hrel
    have HW := hide hwr
    rcases (show j = 0 ∨ j = 1 ∨ j = 2 by omega) with rfl | rfl | rfl
    · have hgt : decide (k1 < n0) = false := decide_eq_false (by omega)
      have hsl := slice_begin ga1 k1 gc1 n0 (by omega)
      have d5 : wr.cell? ⟨nb, 5, none⟩ = some (.slice ga1 k1 gc1) := by rw [hwr]; exact c5
      have d6 : wr.cell? ⟨nb, 6, none⟩ = some (.slice ra0 n0 rc0) := by rw [hwr]; exact c6
      have NN := hide (show ∀ (p d1 d2 : Nat), Calls Tryd.prog 14 #[.slice ra0 n0 d1, .slice ga1 n0 d2] (wr.drewN p) fun e w' => e = .returned (.bool true) ∧ ∃ m, w' = (wr.drewN p).drewN m from fun p d1 d2 => by
        have := unhide N0 (q + p) d1 d2
        rw [← World.drewN_drewN, ← hwr] at this
        exact this)
      clear hwr c4 c5 c6 c7
      go_upto_region 5 with fail
      go_quiet ((go_at_call 14; exact Calls.quiet_of (unhide NN _ _ _)))
      go_wp2
      go_roundw
      case rel => exact ⟨1, by omega, by go_num, _, by rw [unhide HW, World.drewN_drewN]⟩
      case measure => simp [intOf]
    · have hgt : decide (k0 < n1) = false := decide_eq_false (by omega)
      have hsl := slice_begin ga0 k0 gc0 n1 (by omega)
      have d4 : wr.cell? ⟨nb, 4, none⟩ = some (.slice ga0 k0 gc0) := by rw [hwr]; exact c4
      have d7 : wr.cell? ⟨nb, 7, none⟩ = some (.slice ra1 n1 rc1) := by rw [hwr]; exact c7
      have NN := hide (show ∀ (p d1 d2 : Nat), Calls Tryd.prog 14 #[.slice ra1 n1 d1, .slice ga0 n1 d2] (wr.drewN p) fun e w' => e = .returned (.bool true) ∧ ∃ m, w' = (wr.drewN p).drewN m from fun p d1 d2 => by
        have := unhide N1 (q + p) d1 d2
        rw [← World.drewN_drewN, ← hwr] at this
        exact this)
      clear hwr c4 c5 c6 c7
      go_upto_region 5 with fail
      go_quiet ((go_at_call 14; exact Calls.quiet_of (unhide NN _ _ _)))
      go_wp2
      go_roundw
      case rel => exact ⟨2, by omega, by go_num, _, by rw [unhide HW, World.drewN_drewN]⟩
      case measure => simp [intOf]
    · clear hwr
      go_wp2
      go_ret
      exact ⟨rfl, q, unhide HW⟩
end Go.Proofs.YthchicolifkpiaaDoor
namespace Go.Proofs.YthchicolifkpiaaDoor
open Go.RowKit
set_option linter.unusedVariables false

theorem wp_append_win {P : Program} (w : World) {o : Oper} {a : Act} {K : Act → World → Prop} {Q : Exit → Act → World → Prop} (sl x : Operand) (t : TypeId)
    (ho : o.op = .call { callee := .builtin .append, args := #[sl, x], argTypes := #[t, t] })
    (base : Nat) (e : TypeId) (i : TypeInfo) (z : Value) (bytes : Nat) (ht : P.underlying t = some (.slice e)) (hi : P.info? e = some i) (hz : i.zero = some z)
    (hsize : i.size = 1) (hby : i.bytes = bytes) (hzs : z.cells.size = 1)
    (v : Value) (xs : List Value) (hs : a.eval sl = v) (hown : WinRow w base e v xs) (xv : Value) (news : List Value) (hx : a.eval x = xv) (hsrc : Src1 w xv news) (h1 : ∀ u ∈ news, u.oneCell' = true)
    (h63 : xs.length + news.length ≤ maxLen) (hbytes : (xs.length + news.length) * bytes ≤ 140737488355328) (hbase : base ≤ w.heap.size)
    (h : ∀ v' w', WinRow w' base e v' (xs ++ news) → w.grownBy w' v.ownBlock → (v'.ownBlock = v.ownBlock ∨ v'.ownBlock = some w.heap.size) → K (a.put o.dst v') w') : o.wp P a w K Q := by
  obtain ⟨v', w', hr, h2, h3, h4⟩ := run_append_win (P := P) w base t o.type e i z bytes ht hi hz hsize hby hzs v xs hown xv news hsrc h1 h63 hbytes hbase
  unfold Oper.wp execOp
  simp only [ho, resolve, invoke, builtin, Sem.run_bind, Sem.run_pure, Result.andThen_ok, List.map_toArray, List.map_cons, List.map_nil, hs, hx, hr]
  exact h v' w' h2 h3 h4
theorem step_append_win {P : Program} (w : World) {ops : Array Oper} {o : Oper} {a : Act} {K : Act → World → Prop} {Q : Exit → Act → World → Prop} {E : Prop} (hgd : o.guard = none) (sl x : Operand) (t : TypeId)
    (ho : o.op = .call { callee := .builtin .append, args := #[sl, x], argTypes := #[t, t] })
    (base : Nat) (e : TypeId) (i : TypeInfo) (z : Value) (bytes : Nat) (ht : P.underlying t = some (.slice e)) (hi : P.info? e = some i) (hz : i.zero = some z)
    (hsize : i.size = 1) (hby : i.bytes = bytes) (hzs : z.cells.size = 1)
    (v : Value) (xs : List Value) (hs : a.eval sl = v) (hown : WinRow w base e v xs) (xv : Value) (news : List Value) (hx : a.eval x = xv) (hsrc : Src1 w xv news) (h1 : ∀ u ∈ news, u.oneCell' = true)
    (h63 : xs.length + news.length ≤ maxLen) (hbytes : (xs.length + news.length) * bytes ≤ 140737488355328) (hbase : base ≤ w.heap.size)
    (h : ∀ v' w', WinRow w' base e v' (xs ++ news) → w.grownBy w' v.ownBlock → (v'.ownBlock = v.ownBlock ∨ v'.ownBlock = some w.heap.size) → K (a.put o.dst v') w') :
    if Region.wanted o (yielded ops a.tmps) = true then Oper.wp P o a w K Q else E := by
  have hw : Region.wanted o (yielded ops a.tmps) = true := by simp [Region.wanted, hgd]
  rw [if_pos hw]
  exact wp_append_win w sl x t ho base e i z bytes ht hi hz hsize hby hzs v xs hs hown xv news hx hsrc h1 h63 hbytes hbase h
/-- where the tail begins: a tail without room stays where it is -/
def tailAt (o c : Nat) : Nat := if c = 1 then o else o + 1
theorem WinRow.tail {w : World} {base : Nat} {e : TypeId} {g o n c : Nat} {y : Value} {xs : List Value} (h : WinRow w base e (.slice (some ⟨g, o, none⟩) n c) (y :: xs)) : WinRow w base e (.slice (some ⟨g, tailAt o c, none⟩) (n - 1) (c - 1)) xs := by
  rcases h with ⟨h, _⟩ | ⟨g', o', cap, cur, hv, h1, h2, h3, h4, h5, h6⟩
  · cases h
  · cases hv
    simp only [List.length_cons] at h3 h6 ⊢
    by_cases hc : c = 1
    · have hx : xs = [] := List.eq_nil_of_length_eq_zero (by omega)
      subst hx
      exact .inr ⟨g, tailAt o c, c - 1, cur, by simp, h1, h2, by simp, by omega, by rw [tailAt, if_pos hc]; omega, by simp⟩
    refine .inr ⟨g, tailAt o c, c - 1, cur, by simp, h1, h2, by omega, by omega, by rw [tailAt, if_neg hc]; omega, ?_⟩
    have hd : cur.toList.drop o = y :: (cur.toList.drop (o + 1)) := by
      have hl : o < cur.toList.length := by rw [Array.length_toList]; omega
      rw [List.drop_eq_getElem_cons hl] at h6 ⊢
      rw [List.take_succ_cons] at h6
      exact congrArg (· :: _) (List.cons.inj h6).1
    rw [hd, List.take_succ_cons] at h6
    rw [tailAt, if_neg hc]
    exact (List.cons.inj h6).2
theorem slice_tail (g o n c : Nat) (h : 1 ≤ n) (hc : n ≤ c) (wx : World) : (Instr.slice 25 (.slice (some ⟨g, o, none⟩) n c) (some (.int .i64 1)) none none).run Tryd.prog wx = .ok (.slice (some ⟨g, tailAt o c, none⟩) (n - 1) (c - 1)) wx := by
  have h' : (1 : Int) ≤ (n : Int) := by omega
  unfold tailAt
  by_cases h1 : c = 1
  · subst h1
    simp [Instr.slice, go_sem, h']
  · simp [Instr.slice, go_sem, h', h1]
theorem inStep_grow (st : List ByteArray × ByteArray) (b : ByteArray × Bool) : ∃ l, (inStep st b).1 = st.1 ++ l := by
  unfold inStep
  split
  · exact ⟨[], by simp⟩
  · split
    · exact ⟨_, rfl⟩
    · exact ⟨[], by simp⟩
theorem got_next (H : List ByteArray) (m : Nat) : ∃ l, gotOf H (m + 1) = gotOf H m ++ l := by
  unfold gotOf
  rw [List.take_add_one]
  cases hx : (piecesL H)[m]? with
  | none => exact ⟨[], by simp⟩
  | some b =>
    rw [Option.toList_some, inL_snoc]
    exact inStep_grow _ b
theorem got_take (H : List ByteArray) (m t : Nat) (h : t ≤ (gotOf H m).length) : (gotOf H (m + 1)).take t = (gotOf H m).take t := by
  obtain ⟨l, e⟩ := got_next H m
  rw [e, List.take_append_of_le_length h]
theorem got_take_hear (H : List ByteArray) (x : Nd) (q : Option Nat) (c t : Nat) (h : t ≤ (gotOf H x.m).length) : (gotOf H (hearN x q c).m).take t = (gotOf H x.m).take t := by
  have hk := (ack_facts x c).1
  cases q with
  | none => rw [hearN, hk]
  | some p =>
    rw [hearN]
    simp only [Nd.data, hk]
    split
    · exact got_take H x.m t h
    · rfl
end Go.Proofs.YthchicolifkpiaaDoor
