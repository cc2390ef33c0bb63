/- An end of a line, plain: the pieces of texts, what the document's end keeps and what the program's keeps, and how the two belong together. -/
import Derived.Test.YthchicolifkpiaaDoorUnframe2
namespace Go.Proofs.YthchicolifkpiaaDoor
open Go.RowKit
set_option linter.unusedVariables false

/-- how many pieces a text has -/
def npc (s : ByteArray) : Nat := if s.size = 0 then 1 else (s.size + 31) / 32
/-- a piece of it, and whether more follow -/
def pcAt (s : ByteArray) (j : Nat) : ByteArray × Bool := (s.extract (32 * j) (min (32 * j + 32) s.size), decide (32 * j + 32 < s.size))
def pcs (s : ByteArray) : List (ByteArray × Bool) := (List.range (npc s)).map (pcAt s)
/-- the pieces of all texts -/
def piecesL (l : List ByteArray) : List (ByteArray × Bool) := l.flatMap pcs
/-- of which text each is -/
def ofFrom : Nat → List ByteArray → List Nat
  | _, [] => []
  | i, s :: r => List.replicate (npc s) i ++ ofFrom (i + 1) r

theorem npc_pos (s : ByteArray) : 0 < npc s := by unfold npc; split <;> omega
theorem npc_next (s : ByteArray) (k : Nat) : k + 1 < npc s ↔ 32 * k + 32 < s.size := by unfold npc; split <;> omega
theorem npc_at {s : ByteArray} {k : Nat} (h : k < npc s) : 32 * k ≤ s.size := by unfold npc at h; split at h <;> omega
theorem npc_le (s : ByteArray) (h : s.size ≤ 4096) : npc s ≤ 128 := by unfold npc; split <;> omega
theorem pcs_length (s : ByteArray) : (pcs s).length = npc s := by simp [pcs]
theorem piecesL_append (a b : List ByteArray) : piecesL (a ++ b) = piecesL a ++ piecesL b := by simp [piecesL]
theorem piecesL_snoc (a : List ByteArray) (s : ByteArray) : piecesL (a ++ [s]) = piecesL a ++ pcs s := by simp [piecesL]
theorem piecesL_cons (s : ByteArray) (r : List ByteArray) : piecesL (s :: r) = pcs s ++ piecesL r := by simp [piecesL]
theorem ofFrom_append : ∀ (a b : List ByteArray) (i : Nat), ofFrom i (a ++ b) = ofFrom i a ++ ofFrom (i + a.length) b
  | [], b, i => by simp [ofFrom]
  | s :: r, b, i => by
    have := ofFrom_append r b (i + 1)
    simp only [List.cons_append, ofFrom, this, List.append_assoc, List.length_cons]
    rw [show i + 1 + r.length = i + (r.length + 1) by omega]
theorem ofFrom_length : ∀ (l : List ByteArray) (i : Nat), (ofFrom i l).length = (piecesL l).length
  | [], i => rfl
  | s :: r, i => by rw [ofFrom, piecesL_cons, List.length_append, List.length_append, List.length_replicate, pcs_length, ofFrom_length r]
theorem piecesL_length_le : ∀ (l : List ByteArray), (∀ s ∈ l, s.size ≤ 4096) → (piecesL l).length ≤ 128 * l.length
  | [], _ => by simp [piecesL]
  | s :: r, h => by
    have h1 := piecesL_length_le r (fun x hx => h x (List.mem_cons_of_mem _ hx))
    have h2 := npc_le s (h s List.mem_cons_self)
    rw [piecesL_cons, List.length_append, pcs_length, List.length_cons]
    omega

/-- how many texts wait: the document's -/
def leftN (G : List ByteArray) (A : Nat) : Nat := if A = (piecesL G).length then 0 else G.length - (ofFrom 0 G).getD A 0

/-- what goes out: all texts G that were given, A pieces that arrived: the texts T wait, k pieces of the first one arrived -/
def OutRel (G : List ByteArray) (A : Nat) (T : List ByteArray) (k : Nat) : Prop :=
  ∃ D, G = D ++ T ∧ A = (piecesL D).length + k ∧ (T = [] → k = 0) ∧ (∀ s r, T = s :: r → k < npc s)

theorem out_new : OutRel [] 0 [] 0 := ⟨[], rfl, rfl, fun _ => rfl, fun s r h => by cases h⟩
theorem out_none {G : List ByteArray} {A k : Nat} (h : OutRel G A [] k) : A = (piecesL G).length := by
  obtain ⟨D, rfl, rfl, h1, _⟩ := h
  rw [h1 rfl]; simp
theorem out_some {G : List ByteArray} {A k : Nat} {s : ByteArray} {r : List ByteArray} (h : OutRel G A (s :: r) k) :
    A < (piecesL G).length ∧ (piecesL G)[A]? = some (pcAt s k) ∧ (ofFrom 0 G)[A]? = some (G.length - (r.length + 1)) := by
  obtain ⟨D, rfl, rfl, _, h2⟩ := h
  have hk := h2 s r rfl
  refine ⟨?_, ?_, ?_⟩
  · rw [piecesL_append, piecesL_cons, List.length_append, List.length_append, pcs_length]; omega
  · rw [piecesL_append, piecesL_cons, List.getElem?_append_right (by omega), show (piecesL D).length + k - (piecesL D).length = k by omega,
      List.getElem?_append_left (by rw [pcs_length]; exact hk)]
    simp [pcs, hk]
  · rw [ofFrom_append, List.getElem?_append_right (by rw [ofFrom_length]; omega), ofFrom_length, show (piecesL D).length + k - (piecesL D).length = k by omega, ofFrom,
      List.getElem?_append_left (by rw [List.length_replicate]; exact hk), List.getElem?_replicate, if_pos hk]
    simp
theorem out_left {G T : List ByteArray} {A k : Nat} (h : OutRel G A T k) : leftN G A = T.length := by
  have h0 := h
  obtain ⟨D, hG, _⟩ := h0
  cases T with
  | nil => unfold leftN; rw [if_pos (out_none h)]; rfl
  | cons s r =>
    obtain ⟨h1, _, h3⟩ := out_some h
    have hl : G.length = D.length + (r.length + 1) := by rw [hG]; simp
    unfold leftN
    rw [if_neg (by omega), List.getD_eq_getElem?_getD, h3, Option.getD_some, List.length_cons]
    omega
theorem out_lt {G T : List ByteArray} {A k : Nat} (h : OutRel G A T k) : A < (piecesL G).length ↔ T ≠ [] := by
  cases T with
  | nil => have := out_none h; simp; omega
  | cons s r => have := (out_some h).1; simpa
theorem out_le {G T : List ByteArray} {A k : Nat} (h : OutRel G A T k) : A ≤ (piecesL G).length := by
  cases T with
  | nil => have := out_none h; omega
  | cons s r => have := (out_some h).1; omega
theorem out_give {G T : List ByteArray} {A k : Nat} (h : OutRel G A T k) (x : ByteArray) : OutRel (G ++ [x]) A (T ++ [x]) k := by
  obtain ⟨D, rfl, rfl, h1, h2⟩ := h
  refine ⟨D, by simp, rfl, fun h => by simp at h, fun s r e => ?_⟩
  cases T with
  | nil =>
    rw [h1 rfl]
    exact npc_pos s
  | cons y q =>
    simp only [List.cons_append, List.cons.injEq] at e
    obtain ⟨rfl, _⟩ := e
    exact h2 y q rfl
theorem out_arrive {G : List ByteArray} {A k : Nat} {s : ByteArray} {r : List ByteArray} (h : OutRel G A (s :: r) k) :
    (32 * k + 32 < s.size → OutRel G (A + 1) (s :: r) (k + 1)) ∧ (¬ 32 * k + 32 < s.size → OutRel G (A + 1) r 0) := by
  obtain ⟨D, rfl, rfl, h1, h2⟩ := h
  have hk := h2 s r rfl
  refine ⟨fun hx => ⟨D, rfl, by omega, fun h => by simp at h, fun s' r' e => ?_⟩, fun hx => ⟨D ++ [s], by simp, ?_, fun _ => rfl, fun s' _ _ => npc_pos s'⟩⟩
  · cases e
    exact (npc_next s k).2 hx
  · have := (npc_next s k)
    rw [piecesL_snoc, List.length_append, pcs_length]
    omega
/-- the piece that is out, as the program cuts it -/
theorem piece_cut (s : ByteArray) (k : Nat) (h : 32 * k ≤ s.size) :
    (s.extract (32 * k) s.size).extract 0 (min (s.extract (32 * k) s.size).size 32) = (pcAt s k).1 ∧ decide (32 < (s.extract (32 * k) s.size).size) = (pcAt s k).2 := by
  have hz : (s.extract (32 * k) s.size).size = s.size - 32 * k := by rw [ByteArray.size_extract, Nat.min_self]
  rw [hz]
  refine ⟨?_, ?_⟩
  · rw [ByteArray.extract_extract]
    unfold pcAt
    congr 1
    omega
  · unfold pcAt
    simp only [decide_eq_decide]
    omega

/-- what came in: the texts that ended and are not too long, and what there is of the next one -/
def inStep (st : List ByteArray × ByteArray) (b : ByteArray × Bool) : List ByteArray × ByteArray :=
  if b.2 = true then (st.1, st.2 ++ b.1) else (if (st.2 ++ b.1).size ≤ 4096 then st.1 ++ [st.2 ++ b.1] else st.1, ByteArray.empty)
def inL (K : List (ByteArray × Bool)) : List ByteArray × ByteArray := K.foldl inStep ([], ByteArray.empty)
theorem inL_snoc (K : List (ByteArray × Bool)) (b : ByteArray × Bool) : inL (K ++ [b]) = inStep (inL K) b := by simp [inL]
/-- what the program keeps of it -/
def InRel (K : List (ByteArray × Bool)) (told : Nat) (part : ByteArray) (lost : Bool) (got : List ByteArray) : Prop :=
  lost = decide (4096 < (inL K).2.size) ∧ part = (if lost then ByteArray.empty else (inL K).2) ∧ got = (inL K).1.drop told ∧ told ≤ (inL K).1.length
theorem in_new : InRel [] 0 ByteArray.empty false [] := ⟨rfl, rfl, rfl, Nat.le_refl _⟩
theorem in_got {K : List (ByteArray × Bool)} {told : Nat} {part : ByteArray} {lost : Bool} {got : List ByteArray} (h : InRel K told part lost got) :
    InRel K (inL K).1.length part lost [] := ⟨h.1, h.2.1, by simp, Nat.le_refl _⟩
/-- the program's accept -/
def lostN (part : ByteArray) (lost : Bool) (b : ByteArray) : Bool := lost || decide (4096 < part.size + b.size)
def partN (part : ByteArray) (lost : Bool) (b : ByteArray) : ByteArray := if lostN part lost b then ByteArray.empty else part ++ b
theorem in_parts {K : List (ByteArray × Bool)} {told : Nat} {part : ByteArray} {lost : Bool} {got : List ByteArray} (h : InRel K told part lost got) (b : ByteArray) :
    lostN part lost b = decide (4096 < ((inL K).2 ++ b).size) ∧ partN part lost b = if lostN part lost b then ByteArray.empty else (inL K).2 ++ b := by
  obtain ⟨h1, h2, _, _⟩ := h
  have e1 : lostN part lost b = decide (4096 < ((inL K).2 ++ b).size) := by
    unfold lostN
    rw [ByteArray.size_append]
    by_cases hx : 4096 < (inL K).2.size
    · rw [h1, decide_eq_true hx, Bool.true_or, eq_comm, decide_eq_true_eq]; omega
    · have hf : lost = false := by rw [h1]; exact decide_eq_false hx
      rw [h2, hf]
      simp
  refine ⟨e1, ?_⟩
  unfold partN
  by_cases hn : lostN part lost b = true
  · rw [if_pos hn, if_pos hn]
  · rw [if_neg hn, if_neg hn]
    have hf : lost = false := by
      cases hl : lost with
      | false => rfl
      | true => exact absurd (by unfold lostN; rw [hl]; rfl) hn
    rw [h2, hf]
    rfl
theorem in_more {K : List (ByteArray × Bool)} {told : Nat} {part : ByteArray} {lost : Bool} {got : List ByteArray} (h : InRel K told part lost got) (b : ByteArray) :
    InRel (K ++ [(b, true)]) told (partN part lost b) (lostN part lost b) got := by
  obtain ⟨e1, e2⟩ := in_parts h b
  obtain ⟨h1, h2, h3, h4⟩ := h
  have e : inL (K ++ [(b, true)]) = ((inL K).1, (inL K).2 ++ b) := by rw [inL_snoc, inStep, if_pos rfl]
  exact ⟨by rw [e]; exact e1, by rw [e]; exact e2, by rw [e]; exact h3, by rw [e]; exact h4⟩
theorem in_last {K : List (ByteArray × Bool)} {told : Nat} {part : ByteArray} {lost : Bool} {got : List ByteArray} (h : InRel K told part lost got) (b : ByteArray) :
    InRel (K ++ [(b, false)]) told ByteArray.empty false (if lostN part lost b then got else got ++ [partN part lost b]) := by
  obtain ⟨e1, e2⟩ := in_parts h b
  obtain ⟨h1, h2, h3, h4⟩ := h
  have e : inL (K ++ [(b, false)]) = (if ((inL K).2 ++ b).size ≤ 4096 then (inL K).1 ++ [(inL K).2 ++ b] else (inL K).1, ByteArray.empty) := by rw [inL_snoc, inStep, if_neg (by simp)]
  refine ⟨by rw [e]; rfl, by simp [e], ?_, ?_⟩
  · rw [e]
    by_cases hx : ((inL K).2 ++ b).size ≤ 4096
    · have hn : lostN part lost b = false := by rw [e1]; exact decide_eq_false (by omega)
      rw [hn] at e2
      rw [hn, if_neg (by decide), if_pos hx, e2, h3, List.drop_append_of_le_length h4]
      rfl
    · have hn : lostN part lost b = true := by rw [e1]; exact decide_eq_true (by omega)
      rw [hn, if_pos rfl, if_neg hx, h3]
  · rw [e]
    split
    · simp; omega
    · exact h4

/-- the pause of the program, the time of the document's end -/
def pauseOf (ago : Int) : Int := if ago < 0 then 0 else if 4 ≤ ago then 0 else 4 - ago
theorem pause_zero (ago : Int) : pauseOf ago = 0 ↔ ago < 0 ∨ 4 ≤ ago := by unfold pauseOf; split <;> (try split) <;> omega
theorem pause_range (ago : Int) : 0 ≤ pauseOf ago ∧ pauseOf ago ≤ 4 := by unfold pauseOf; split <;> (try split) <;> omega
theorem pause_tick (ago : Int) (h : 0 ≤ ago) : pauseOf (ago + 1) = if 0 < pauseOf ago then pauseOf ago - 1 else 0 := by unfold pauseOf; split <;> (try split) <;> (try split) <;> (try split) <;> (try split) <;> omega
end Go.Proofs.YthchicolifkpiaaDoor
