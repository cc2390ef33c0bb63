/- Plain: a stable sort by rank, as an insertion sort does it, is what sixteen passes gather. -/
import Derived.Test.YtlnoilfnpgogbaePBoth
import Derived.Test.YtlnoilfnpgogbaePRank
namespace Go.Proofs.Ytlnoilfnpgogbae
open Go.RowKit
set_option linter.unusedVariables false

/-- a list that is sorted by rank, and as stable as can be -/
def Good (P Q : List XApp) : Prop := P.Pairwise (fun a b => rankOf a ≤ rankOf b) ∧ ∀ r : Int, P.filter (fun a => decide (rankOf a = r)) = Q.filter (fun a => decide (rankOf a = r))
theorem good_one (x : XApp) : Good [x] [x] := ⟨by simp, fun _ => rfl⟩
theorem pairwise_last {A : List XApp} {x : XApp} (hs : A.Pairwise (fun a b => rankOf a ≤ rankOf b)) (hl : ∀ a, A.getLast? = some a → rankOf a ≤ rankOf x) : ∀ a ∈ A, rankOf a ≤ rankOf x := by
  intro a ha
  rcases List.eq_nil_or_concat A with rfl | ⟨B, b, rfl⟩
  · cases ha
  · have hb : rankOf b ≤ rankOf x := hl b (by simp)
    rw [List.concat_eq_append] at ha hs
    rcases List.mem_append.1 ha with h | h
    · have := (List.pairwise_append.1 hs).2.2 a h b (by simp)
      exact Int.le_trans this hb
    · obtain rfl : a = b := by simpa using h
      exact hb
theorem good_insert {A C Q : List XApp} {x : XApp} (h : Good (A ++ C) Q) (hC : ∀ c ∈ C, rankOf x < rankOf c) (hl : ∀ a, A.getLast? = some a → rankOf a ≤ rankOf x) : Good (A ++ x :: C) (Q ++ [x]) := by
  obtain ⟨hs, hf⟩ := h
  have hs' := List.pairwise_append.1 hs
  have hA := pairwise_last hs'.1 hl
  refine ⟨?_, fun r => ?_⟩
  · rw [List.pairwise_append]
    refine ⟨hs'.1, List.pairwise_cons.2 ⟨fun c hc => Int.le_of_lt (hC c hc), hs'.2.1⟩, fun a ha b hb => ?_⟩
    rcases List.mem_cons.1 hb with rfl | hb
    · exact hA a ha
    · exact hs'.2.2 a ha b hb
  · rw [List.filter_append, List.filter_append, ← hf r, List.filter_append, List.append_assoc]
    congr 1
    by_cases hr : rankOf x = r
    · have hC0 : C.filter (fun a => decide (rankOf a = r)) = [] := by
        rw [List.filter_eq_nil_iff]
        intro c hc
        have := hC c hc
        simp; omega
      rw [hC0, List.filter_cons_of_pos (by simpa using hr), hC0]
      simp [hr]
    · rw [List.filter_cons_of_neg (by simpa using hr)]
      simp [hr]
theorem sorted_split (S : List XApp) (lo : Int) (hs : S.Pairwise (fun a b => rankOf a ≤ rankOf b)) (hlo : ∀ a ∈ S, lo ≤ rankOf a) : S = S.filter (fun a => decide (rankOf a = lo)) ++ S.filter (fun a => decide (lo < rankOf a)) := by
  induction S with
  | nil => rfl
  | cons x S ih =>
    obtain ⟨h1, h2⟩ := List.pairwise_cons.1 hs
    have ih' := ih h2 (fun a ha => hlo a (List.mem_cons_of_mem _ ha))
    have hx := hlo x (List.mem_cons_self ..)
    by_cases he : rankOf x = lo
    · rw [List.filter_cons_of_pos (by simpa using he), List.filter_cons_of_neg (by simp; omega), List.cons_append, ← ih']
    · have hall : ∀ a ∈ S, lo < rankOf a := fun a ha => by have := h1 a ha; omega
      rw [List.filter_cons_of_neg (by simpa using he), List.filter_cons_of_pos (by simp; omega)]
      rw [List.filter_eq_nil_iff.2 (fun a ha => by have := hall a ha; simp; omega), List.filter_eq_self.2 (fun a ha => by simpa using hall a ha)]
      rfl
def passes (S : List XApp) : Nat → Nat → List XApp
  | _, 0 => []
  | lo, n + 1 => S.filter (fun a => decide (rankOf a = (lo : Int))) ++ passes S (lo + 1) n
theorem passes_filter (S : List XApp) (lo n : Nat) (b : Int) (hb : b < lo) : passes (S.filter (fun a => decide (b < rankOf a))) lo n = passes S lo n := by
  induction n generalizing lo with
  | zero => rfl
  | succ n ih =>
    unfold passes
    rw [ih (lo + 1) (by omega), List.filter_filter]
    congr 1
    apply List.filter_congr
    intro a _
    by_cases h : rankOf a = (lo : Int)
    · simp [h, hb]
    · simp [h]
theorem sorted_passes (S : List XApp) (lo n : Nat) (hs : S.Pairwise (fun a b => rankOf a ≤ rankOf b)) (hlo : ∀ a ∈ S, (lo : Int) ≤ rankOf a ∧ rankOf a < (lo : Int) + n) : S = passes S lo n := by
  induction n generalizing S lo with
  | zero =>
    cases S with
    | nil => rfl
    | cons x S => have := hlo x (List.mem_cons_self ..); omega
  | succ n ih =>
    have h1 := sorted_split S lo hs (fun a ha => (hlo a ha).1)
    have h2 := ih (S.filter (fun a => decide ((lo : Int) < rankOf a))) (lo + 1) (hs.sublist List.filter_sublist) (fun a ha => by
      obtain ⟨ha1, ha2⟩ := List.mem_filter.1 ha
      have := hlo a ha1
      have := of_decide_eq_true ha2
      omega)
    rw [passes_filter S (lo + 1) n lo (by omega)] at h2
    unfold passes
    rw [← h2]
    exact h1
theorem passes_congr (S F : List XApp) (h : ∀ r : Int, S.filter (fun a => decide (rankOf a = r)) = F.filter (fun a => decide (rankOf a = r))) (lo n : Nat) : passes S lo n = passes F lo n := by
  induction n generalizing lo with
  | zero => rfl
  | succ n ih => unfold passes; rw [h, ih]
theorem good_mem {S F : List XApp} (h : Good S F) {a : XApp} (ha : a ∈ S) : a ∈ F := by
  have : a ∈ S.filter (fun b => decide (rankOf b = rankOf a)) := List.mem_filter.2 ⟨ha, by simp⟩
  rw [h.2] at this
  exact (List.mem_filter.1 this).1
theorem good_passes {S F : List XApp} (h : Good S F) (hF : ∀ a ∈ F, 0 ≤ a.prio ∧ a.prio ≤ 15) : S = passes F 1 16 := by
  rw [← passes_congr S F h.2]
  refine sorted_passes S 1 16 h.1 (fun a ha => ?_)
  have := hF a (good_mem h ha)
  unfold rankOf
  split <;> omega
/-- the candidates -/
def candF (l : List XApp) (sh : List XKnown) : List XApp := l.filter (fun a => bothB sh a.name.data.toList)
def candL (l : List XApp) (sh : List XKnown) : List XApp := passes (candF l sh) 1 16
theorem candF_take (l : List XApp) (sh : List XKnown) (k : Nat) (x : XApp) (h : l[k]? = some x) : candF (l.take (k + 1)) sh = candF (l.take k) sh ++ (bif bothB sh x.name.data.toList then [x] else []) := by
  unfold candF
  rw [List.take_add_one, h, List.filter_append]
  cases hb : bothB sh x.name.data.toList <;> simp [hb]
theorem candF_length (l : List XApp) (sh : List XKnown) : (candF l sh).length ≤ l.length := List.length_filter_le _ _
end Go.Proofs.Ytlnoilfnpgogbae
