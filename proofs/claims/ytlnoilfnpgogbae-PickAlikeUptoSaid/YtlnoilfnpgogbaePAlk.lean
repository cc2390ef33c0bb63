/- Plain, for PickAlike: a shop's list turned round knows the same; candidates stand in order, none twice. -/
import Derived.Test.YtlnoilfnpgogbaeSameA
namespace Go.Proofs.Ytlnoilfnpgogbae
open Go.RowKit
set_option linter.unusedVariables false

theorem any_same {α : Type} {A B : List α} (h1 : ∀ x ∈ A, x ∈ B) (h2 : ∀ x ∈ B, x ∈ A) (p : α → Bool) : A.any p = B.any p := by
  rw [Bool.eq_iff_iff, List.any_eq_true, List.any_eq_true]
  constructor
  · rintro ⟨x, hx, hp⟩; exact ⟨x, h1 x hx, hp⟩
  · rintro ⟨x, hx, hp⟩; exact ⟨x, h2 x hx, hp⟩
theorem knownE_same {A B : List XKnown} (h1 : ∀ x ∈ A, x ∈ B) (h2 : ∀ x ∈ B, x ∈ A) (hl : 50 < A.length ↔ 50 < B.length) : knownE A = knownE B := by
  unfold knownE
  rw [any_same h1 h2 knoB]
  by_cases h : 50 < A.length
  · rw [if_pos h, if_pos (hl.1 h)]
  · rw [if_neg h, if_neg (fun h' => h (hl.2 h'))]
theorem cand_same {A B : List XKnown} (h1 : ∀ x ∈ A, x ∈ B) (h2 : ∀ x ∈ B, x ∈ A) (hl : 50 < A.length ↔ 50 < B.length) (l : List XApp) : candE l A = candE l B ∧ candS l A = candS l B := by
  have hk := knownE_same h1 h2 hl
  have hf : candF l A = candF l B := by
    unfold candF
    apply List.filter_congr
    intro a _
    rw [bothB_any, bothB_any, any_same h1 h2]
  have he : candE l A = candE l B := by unfold candE; rw [hk]
  refine ⟨he, ?_⟩
  unfold candS candL
  rw [he, hf]
/-- the last n of a shop's list, turned round, some of them twice -/
def Turned (sh T : List XKnown) (i b : Nat) : Prop :=
  (∀ x ∈ T, x ∈ sh) ∧ (∀ x ∈ sh.drop i, x ∈ T) ∧ ∃ D, T.length = (sh.length - i) + D ∧ (sh.length ≤ 30 → D + (i + 2 - b) / 3 = (sh.length + 2 - b) / 3) ∧ (30 < sh.length → D = 0)
theorem turned_start (sh : List XKnown) (b : Nat) : Turned sh [] sh.length b := ⟨by simp, by simp, 0, by simp, fun _ => by omega, fun _ => rfl⟩
theorem drop_mem {sh : List XKnown} {i : Nat} {x y : XKnown} (h : sh[i]? = some x) (hy : y ∈ sh.drop i) : y = x ∨ y ∈ sh.drop (i + 1) := by
  obtain ⟨hi, rfl⟩ := List.getElem?_eq_some_iff.1 h
  rw [List.drop_eq_getElem_cons hi] at hy
  exact List.mem_cons.1 hy
theorem turned_once {sh T : List XKnown} {i b : Nat} {x : XKnown} (h : Turned sh T (i + 1) b) (hx : sh[i]? = some x) (hb : b ≤ 1) (hc : ¬ (i % 3 = b ∧ sh.length ≤ 30)) : Turned sh (T ++ [x]) i b := by
  obtain ⟨h1, h2, D, h3, h4, h5⟩ := h
  have hi : i < sh.length := (List.getElem?_eq_some_iff.1 hx).1
  refine ⟨fun y hy => ?_, fun y hy => ?_, D, ?_, fun hl => ?_, h5⟩
  · rcases List.mem_append.1 hy with h | h
    · exact h1 y h
    · obtain rfl : y = x := by simpa using h
      exact List.mem_of_getElem? hx
  · rcases drop_mem hx hy with rfl | h
    · simp
    · exact List.mem_append_left _ (h2 y h)
  · rw [List.length_append, h3]; simp; omega
  · have := h4 hl
    have hne : ¬ i % 3 = b := fun e => hc ⟨e, hl⟩
    omega
theorem turned_twice {sh T : List XKnown} {i b : Nat} {x : XKnown} (h : Turned sh T (i + 1) b) (hx : sh[i]? = some x) (hb : b ≤ 1) (hc : i % 3 = b ∧ sh.length ≤ 30) : Turned sh (T ++ [x] ++ [x]) i b := by
  obtain ⟨h1, h2, D, h3, h4, h5⟩ := h
  have hi : i < sh.length := (List.getElem?_eq_some_iff.1 hx).1
  refine ⟨fun y hy => ?_, fun y hy => ?_, D + 1, ?_, fun hl => ?_, fun hl => by omega⟩
  · rcases List.mem_append.1 hy with h | h
    · rcases List.mem_append.1 h with h | h
      · exact h1 y h
      · obtain rfl : y = x := by simpa using h
        exact List.mem_of_getElem? hx
    · obtain rfl : y = x := by simpa using h
      exact List.mem_of_getElem? hx
  · rcases drop_mem hx hy with rfl | h
    · simp
    · exact List.mem_append_left _ (List.mem_append_left _ (h2 y h))
  · rw [List.length_append, List.length_append, h3]; simp; omega
  · have := h4 hl
    omega
theorem turned_end {sh T : List XKnown} {b : Nat} (h : Turned sh T 0 b) (hb : b ≤ 1) (l : List XApp) : candE l T = candE l sh ∧ candS l T = candS l sh := by
  obtain ⟨h1, h2, D, h3, h4, h5⟩ := h
  refine cand_same h1 (by simpa using h2) ?_ l
  by_cases hl : sh.length ≤ 30
  · have := h4 hl
    omega
  · have := h5 (by omega)
    omega
theorem turned_length {sh T : List XKnown} {i b : Nat} (h : Turned sh T i b) : T.length ≤ sh.length + 11 := by
  obtain ⟨h1, h2, D, h3, h4, h5⟩ := h
  by_cases hl : sh.length ≤ 30
  · have := h4 hl
    omega
  · have := h5 (by omega)
    omega

/-- no name stands twice -/
theorem dupTo_false (ns : List (List UInt8)) (n : Nat) (h : dupTo ns n = false) : ∀ j, j < n → (ns.take j).contains (ns.getD j []) = false := by
  induction n with
  | zero => intro j hj; omega
  | succ n ih =>
    rw [dupTo, Bool.or_eq_false_iff] at h
    intro j hj
    rcases Nat.lt_or_ge j n with h' | h'
    · exact ih h.1 j h'
    · obtain rfl : j = n := by omega
      exact h.2
theorem names_apart {l : List XApp} (h : dupTo (namesL l) l.length = false) {i j : Nat} {x y : XApp} (hx : l[i]? = some x) (hy : l[j]? = some y) (hij : i < j) : x.name ≠ y.name := by
  intro he
  have hjl : j < l.length := (List.getElem?_eq_some_iff.1 hy).1
  have := dupTo_false _ _ h j hjl
  rw [List.contains_eq_mem, decide_eq_false_iff_not] at this
  apply this
  have e1 : (namesL l).getD j [] = y.name.data.toList := by simp [namesL, List.getD_eq_getElem?_getD, hy]
  rw [e1, ← he]
  have e2 : (namesL l)[i]? = some x.name.data.toList := by simp [namesL, hx]
  exact List.mem_of_getElem? (i := i) (by rw [List.getElem?_take_of_lt hij]; exact e2)
theorem apps_nodup {l : List XApp} (h : dupTo (namesL l) l.length = false) : l.Nodup := by
  rw [List.Nodup, List.pairwise_iff_getElem]
  intro i j hi hj hij e
  exact names_apart h (List.getElem?_eq_getElem hi) (List.getElem?_eq_getElem hj) hij (by rw [e])
theorem mem_names {l : List XApp} (h : dupTo (namesL l) l.length = false) {x y : XApp} (hx : x ∈ l) (hy : y ∈ l) (hne : x ≠ y) : x.name ≠ y.name := by
  obtain ⟨i, hi⟩ := List.getElem?_of_mem hx
  obtain ⟨j, hj⟩ := List.getElem?_of_mem hy
  rcases Nat.lt_trichotomy i j with hij | hij | hij
  · exact names_apart h hi hj hij
  · subst hij
    rw [hi] at hj
    exact absurd (by simpa using hj) hne
  · exact fun e => names_apart h hj hi hij e.symm
theorem appsE_dup {l : List XApp} (h : appsE l = 0) : dupTo (namesL l) l.length = false := by
  unfold appsE at h
  by_cases h1 : 20 < l.length
  · rw [if_pos h1] at h; cases h
  rw [if_neg h1] at h
  cases h2 : l.any misB with
  | true => rw [h2] at h; cases h
  | false =>
  cases h3 : l.any prioB with
  | true => rw [h2, h3] at h; cases h
  | false =>
  cases h4 : dupTo (namesL l) l.length with
  | true => rw [h2, h3, h4] at h; cases h
  | false => rfl
theorem passes_ranks (S : List XApp) (lo n : Nat) : ∀ a ∈ passes S lo n, a ∈ S ∧ (lo : Int) ≤ rankOf a := by
  induction n generalizing lo with
  | zero => simp [passes]
  | succ n ih =>
    intro a ha
    unfold passes at ha
    rcases List.mem_append.1 ha with h | h
    · obtain ⟨h1, h2⟩ := List.mem_filter.1 h
      exact ⟨h1, by have := of_decide_eq_true h2; omega⟩
    · obtain ⟨h1, h2⟩ := ih (lo + 1) a h
      exact ⟨h1, by omega⟩
theorem passes_order (S : List XApp) (hS : S.Nodup) (lo n : Nat) : (passes S lo n).Pairwise (fun a b => rankOf a ≤ rankOf b ∧ a ≠ b) := by
  induction n generalizing lo with
  | zero => simp [passes]
  | succ n ih =>
    unfold passes
    rw [List.pairwise_append]
    refine ⟨?_, ih (lo + 1), ?_⟩
    · have h1 : (S.filter (fun a => decide (rankOf a = (lo : Int)))).Nodup := hS.sublist List.filter_sublist
      refine List.Pairwise.imp_of_mem ?_ h1
      intro a b ha hb hab
      have e1 := of_decide_eq_true (List.mem_filter.1 ha).2
      have e2 := of_decide_eq_true (List.mem_filter.1 hb).2
      exact ⟨by omega, hab⟩
    · intro a ha b hb
      have e1 := of_decide_eq_true (List.mem_filter.1 ha).2
      obtain ⟨_, e2⟩ := passes_ranks S (lo + 1) n b hb
      refine ⟨by omega, fun e => ?_⟩
      subst e
      omega
theorem candE_apps {l : List XApp} {sh : List XKnown} (h : candE l sh = 0) : appsE l = 0 := by
  rcases Decidable.em (appsE l = 0) with h' | h'
  · exact h'
  · rw [candE, if_pos h'] at h; exact h
/-- what is said of the candidates -/
theorem candS_order (l : List XApp) (sh : List XKnown) (i : Nat) (x y : XApp) (hx : (candS l sh)[i]? = some x) (hy : (candS l sh)[i + 1]? = some y) :
    (x.prio + 15) % 16 ≤ (y.prio + 15) % 16 ∧ x.name ≠ y.name := by
  by_cases h : candE l sh = 0
  case neg => rw [candS, if_neg h] at hx; simp at hx
  rw [candS, if_pos h] at hx hy
  have ha := candE_apps h
  have hd := appsE_dup ha
  have hF : (candF l sh).Nodup := (apps_nodup hd).sublist List.filter_sublist
  have hp := passes_order (candF l sh) hF 1 16
  have mem : ∀ z, z ∈ passes (candF l sh) 1 16 → z ∈ l := fun z hz => (List.mem_filter.1 (passes_ranks _ _ _ z hz).1).1
  have hxm := mem x (List.mem_of_getElem? hx)
  have hym := mem y (List.mem_of_getElem? hy)
  have hxy : rankOf x ≤ rankOf y ∧ x ≠ y := by
    obtain ⟨h1, rfl⟩ := List.getElem?_eq_some_iff.1 hx
    obtain ⟨h2, rfl⟩ := List.getElem?_eq_some_iff.1 hy
    exact List.pairwise_iff_getElem.1 hp i (i + 1) h1 h2 (by omega)
  refine ⟨?_, mem_names hd hxm hym hxy.2⟩
  have bx := ((appsE_zero ha).2 x hxm).2
  have by' := ((appsE_zero ha).2 y hym).2
  have := hxy.1
  unfold rankOf at this
  split at this <;> split at this <;> omega
theorem candS_where (l : List XApp) (sh : List XKnown) (x : XApp) (hx : x ∈ candS l sh) :
    l.length ≤ 20 ∧ (0 ≤ x.prio ∧ x.prio ≤ 15) ∧ ∃ j, l[j]? = some x ∧ ∀ (k : Nat) (y : XApp), l[k]? = some y → k ≠ j → x.name ≠ y.name := by
  by_cases h : candE l sh = 0
  case neg => rw [candS, if_neg h] at hx; simp at hx
  rw [candS, if_pos h] at hx
  have ha := candE_apps h
  have hd := appsE_dup ha
  have hxm : x ∈ l := (List.mem_filter.1 (passes_ranks _ _ _ x hx).1).1
  obtain ⟨j, hj⟩ := List.getElem?_of_mem hxm
  refine ⟨(appsE_zero ha).1, ((appsE_zero ha).2 x hxm).2, j, hj, fun k y hy hkj => ?_⟩
  rcases Nat.lt_or_ge k j with hlt | hge
  · exact fun e => names_apart hd hy hj hlt e.symm
  · exact names_apart hd hj hy (by omega)
end Go.Proofs.Ytlnoilfnpgogbae
