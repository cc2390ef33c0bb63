/- Who has least, who has most; payments step by step: plain. -/
namespace Go.Proofs.Ytbnpajijbdddiaa
set_option linter.unusedVariables false

/-- the first of the first n at which f is least -/
def minF (f : Nat → Int) : Nat → Nat
  | 0 => 0
  | k + 1 => if f k < f (minF f k) then k else minF f k
theorem minF_spec (f : Nat → Int) : ∀ n, 0 < n → minF f n < n ∧ (∀ j, j < n → f (minF f n) ≤ f j) ∧ ∀ j, j < minF f n → f (minF f n) < f j
  | 0, h => by omega
  | 1, _ => by
    have e : minF f 1 = 0 := by simp [minF]
    rw [e]
    exact ⟨by omega, fun j hj => by obtain rfl : j = 0 := by omega
                                    exact Int.le_refl _, fun j hj => by omega⟩
  | n + 2, _ => by
    obtain ⟨h1, h2, h3⟩ := minF_spec f (n + 1) (by omega)
    by_cases h : f (n + 1) < f (minF f (n + 1))
    · have e : minF f (n + 2) = n + 1 := by rw [minF, if_pos h]
      rw [e]
      refine ⟨by omega, fun j hj => ?_, fun j hj => ?_⟩
      · by_cases hj' : j = n + 1
        · rw [hj']; exact Int.le_refl _
        · have := h2 j (by omega); omega
      · have := h2 j (by omega); omega
    · have e : minF f (n + 2) = minF f (n + 1) := by rw [minF, if_neg h]
      rw [e]
      refine ⟨by omega, fun j hj => ?_, h3⟩
      by_cases hj' : j = n + 1
      · rw [hj']; omega
      · exact h2 j (by omega)
theorem minF_uniq (f : Nat → Int) (n m : Nat) (hm : m < n) (h1 : ∀ j, j < n → f m ≤ f j) (h2 : ∀ j, j < m → f m < f j) : minF f n = m := by
  obtain ⟨g0, g1, g2⟩ := minF_spec f n (by omega)
  rcases Nat.lt_trichotomy (minF f n) m with h | h | h
  · have := h2 _ h; have := g1 m hm; omega
  · exact h
  · have := g2 _ h; have := h1 _ g0; omega
theorem minF_congr (f g : Nat → Int) (n : Nat) (h : ∀ j, j < n → f j = g j) : minF f n = minF g n := by
  rcases Nat.eq_zero_or_pos n with rfl | hn
  · rfl
  obtain ⟨g0, g1, g2⟩ := minF_spec g n hn
  exact minF_uniq f n _ g0 (fun j hj => by rw [h _ g0, h j hj]; exact g1 j hj) (fun j hj => by rw [h _ g0, h j (by omega)]; exact g2 j hj)

def atH (hs : List Int) (i : Nat) : Int := hs.getD i 0
def lowI (hs : List Int) : Nat := minF (atH hs) hs.length
def topI (hs : List Int) : Nat := minF (fun i => -(atH hs i)) hs.length
def amtH (hs : List Int) : Int := min (-(atH hs (lowI hs))) (atH hs (topI hs))
def sumH : List Int → Int
  | [] => 0
  | x :: r => x + sumH r
def payH (hs : List Int) (i j : Nat) (a : Int) : List Int := (hs.set i (atH hs i + a)).set j (atH (hs.set i (atH hs i + a)) j - a)
def stepH (hs : List Int) : List Int := payH hs (lowI hs) (topI hs) (amtH hs)
/-- a payment: who (by his place), to whom, how much -/
def planH : Nat → List Int → List (Nat × Nat × Int)
  | 0, _ => []
  | f + 1, hs => if amtH hs = 0 then [] else (lowI hs, topI hs, amtH hs) :: planH f (stepH hs)
theorem stepH_length (hs : List Int) : (stepH hs).length = hs.length := by simp [stepH, payH]
theorem payH_length (hs : List Int) (i j : Nat) (a : Int) : (payH hs i j a).length = hs.length := by simp [payH]
theorem atH_set (hs : List Int) (i j : Nat) (x : Int) (hi : i < hs.length) : atH (hs.set i x) j = if j = i then x else atH hs j := by
  unfold atH
  rw [List.getD_eq_getElem?_getD, List.getD_eq_getElem?_getD, List.getElem?_set]
  by_cases h : j = i
  · subst h; simp [hi]
  · rw [if_neg (by omega), if_neg h]
theorem atH_out (hs : List Int) (i : Nat) (h : hs.length ≤ i) : atH hs i = 0 := by
  unfold atH; rw [List.getD_eq_getElem?_getD, List.getElem?_eq_none h]; rfl
theorem sumH_set (hs : List Int) : ∀ (i : Nat) (x : Int), i < hs.length → sumH (hs.set i x) = sumH hs - atH hs i + x := by
  induction hs with
  | nil => intro i x h; simp at h
  | cons y r ih =>
    intro i x h
    cases i with
    | zero => simp [sumH, atH]; omega
    | succ i =>
      have := ih i x (by simpa using h)
      simp only [List.set_cons_succ, sumH, this]
      have e : atH (y :: r) (i + 1) = atH r i := by simp [atH]
      rw [e]; omega
theorem sumH_pos (hs : List Int) (h : ∀ i, i < hs.length → 0 ≤ atH hs i) : 0 ≤ sumH hs ∧ (sumH hs = 0 → ∀ i, i < hs.length → atH hs i = 0) := by
  induction hs with
  | nil => exact ⟨by simp [sumH], fun _ i hi => by simp at hi⟩
  | cons y r ih =>
    have h0 : 0 ≤ y := by have := h 0 (by simp); simpa [atH] using this
    have hr := ih (fun i hi => by have := h (i + 1) (by simpa using hi); simpa [atH] using this)
    refine ⟨by simp only [sumH]; omega, fun hs i hi => ?_⟩
    simp only [sumH] at hs
    cases i with
    | zero => simp [atH]; omega
    | succ i =>
      have := hr.2 (by omega) i (by simpa using hi)
      simpa [atH] using this
theorem sumH_neg (hs : List Int) : sumH (hs.map (fun x => -x)) = - sumH hs := by
  induction hs with
  | nil => rfl
  | cons y r ih => simp only [List.map_cons, sumH, ih]; omega
theorem atH_neg (hs : List Int) (i : Nat) : atH (hs.map (fun x => -x)) i = - atH hs i := by
  unfold atH
  rw [List.getD_eq_getElem?_getD, List.getD_eq_getElem?_getD, List.getElem?_map]
  cases hs[i]? <;> simp
theorem low_spec (hs : List Int) (h : 0 < hs.length) : lowI hs < hs.length ∧ (∀ j, j < hs.length → atH hs (lowI hs) ≤ atH hs j) ∧ ∀ j, j < lowI hs → atH hs (lowI hs) < atH hs j := minF_spec _ _ h
theorem top_spec (hs : List Int) (h : 0 < hs.length) : topI hs < hs.length ∧ (∀ j, j < hs.length → atH hs j ≤ atH hs (topI hs)) ∧ ∀ j, j < topI hs → atH hs j < atH hs (topI hs) := by
  obtain ⟨h0, h1, h2⟩ := minF_spec (fun i => -(atH hs i)) hs.length h
  exact ⟨h0, fun j hj => by have := h1 j hj; simp only [topI]; omega, fun j hj => by have := h2 j hj; simp only [topI]; omega⟩
/-- where all is 0 together: either all are 0, or the least is below and the most above -/
theorem ends_of (hs : List Int) (h : 0 < hs.length) (hz : sumH hs = 0) :
    (amtH hs = 0 ∧ ∀ i, i < hs.length → atH hs i = 0) ∨ (0 < amtH hs ∧ atH hs (lowI hs) < 0 ∧ 0 < atH hs (topI hs) ∧ lowI hs ≠ topI hs) := by
  obtain ⟨l0, l1, l2⟩ := low_spec hs h
  obtain ⟨t0, t1, t2⟩ := top_spec hs h
  by_cases hl : atH hs (lowI hs) < 0
  · by_cases ht : 0 < atH hs (topI hs)
    · refine .inr ⟨?_, hl, ht, fun e => by rw [e] at hl; omega⟩
      unfold amtH; omega
    · exfalso
      have hp := sumH_pos (hs.map (fun x => -x)) (fun i hi => by rw [atH_neg]; have := t1 i (by simpa using hi); omega)
      rw [sumH_neg, hz] at hp
      have := hp.2 (by omega) (lowI hs) (by simpa using l0)
      rw [atH_neg] at this
      omega
  · have hp := sumH_pos hs (fun i hi => by have := l1 i hi; omega)
    have ha := hp.2 hz
    refine .inl ⟨?_, ha⟩
    have e1 := ha _ l0; have e2 := ha _ t0
    unfold amtH; rw [e1, e2]; rfl
theorem amt_le (hs : List Int) : amtH hs ≤ -(atH hs (lowI hs)) ∧ amtH hs ≤ atH hs (topI hs) ∧ (amtH hs = -(atH hs (lowI hs)) ∨ amtH hs = atH hs (topI hs)) := by
  unfold amtH; omega
theorem atH_step (hs : List Int) (h : 0 < hs.length) (hne : lowI hs ≠ topI hs) (j : Nat) :
    atH (stepH hs) j = if j = topI hs then atH hs j - amtH hs else if j = lowI hs then atH hs j + amtH hs else atH hs j := by
  obtain ⟨l0, -, -⟩ := low_spec hs h
  obtain ⟨t0, -, -⟩ := top_spec hs h
  unfold stepH payH
  rw [atH_set _ _ _ _ (by simpa using t0), atH_set _ _ _ _ l0, atH_set _ _ _ _ l0]
  by_cases h1 : j = topI hs
  · rw [if_pos h1, if_pos h1, if_neg (Ne.symm hne), h1]
  · rw [if_neg h1, if_neg h1]
    by_cases h2 : j = lowI hs
    · rw [if_pos h2, if_pos h2, h2]
    · rw [if_neg h2, if_neg h2]
theorem step_sum (hs : List Int) (h : 0 < hs.length) : sumH (stepH hs) = sumH hs := by
  obtain ⟨l0, -, -⟩ := low_spec hs h
  obtain ⟨t0, -, -⟩ := top_spec hs h
  unfold stepH payH
  rw [sumH_set _ _ _ (by simpa using t0), sumH_set _ _ _ l0]
  omega
/-- how many do not have 0 -/
def nzH : List Int → Nat
  | [] => 0
  | x :: r => (if x = 0 then 0 else 1) + nzH r
theorem nzH_le (hs : List Int) : nzH hs ≤ hs.length := by
  induction hs with
  | nil => simp [nzH]
  | cons x r ih => simp only [nzH, List.length_cons]; split <;> omega
theorem nzH_set (hs : List Int) : ∀ (i : Nat) (x : Int), i < hs.length → nzH (hs.set i x) + (if atH hs i = 0 then 0 else 1) = nzH hs + (if x = 0 then 0 else 1) := by
  induction hs with
  | nil => intro i x h; simp at h
  | cons y r ih =>
    intro i x h
    cases i with
    | zero => simp [nzH, atH]; omega
    | succ i =>
      have := ih i x (by simpa using h)
      have e : atH (y :: r) (i + 1) = atH r i := by simp [atH]
      simp only [List.set_cons_succ, nzH, e]
      omega
theorem step_nz (hs : List Int) (h : 0 < hs.length) (ha : 0 < amtH hs) (h1 : atH hs (lowI hs) < 0) (h2 : 0 < atH hs (topI hs)) (hne : lowI hs ≠ topI hs) : nzH (stepH hs) < nzH hs := by
  obtain ⟨l0, -, -⟩ := low_spec hs h
  obtain ⟨t0, -, -⟩ := top_spec hs h
  obtain ⟨a1, a2, a3⟩ := amt_le hs
  have e1 := nzH_set hs (lowI hs) (atH hs (lowI hs) + amtH hs) l0
  have e2 := nzH_set (hs.set (lowI hs) (atH hs (lowI hs) + amtH hs)) (topI hs) (atH (hs.set (lowI hs) (atH hs (lowI hs) + amtH hs)) (topI hs) - amtH hs) (by simpa using t0)
  have e3 : atH (hs.set (lowI hs) (atH hs (lowI hs) + amtH hs)) (topI hs) = atH hs (topI hs) := by rw [atH_set _ _ _ _ l0, if_neg (Ne.symm hne)]
  rw [e3] at e2
  have e4 : stepH hs = (hs.set (lowI hs) (atH hs (lowI hs) + amtH hs)).set (topI hs) (atH hs (topI hs) - amtH hs) := by unfold stepH payH; rw [e3]
  rw [e4]
  rw [if_neg (by omega)] at e1 e2
  rcases a3 with a3 | a3
  · have : atH hs (lowI hs) + amtH hs = 0 := by omega
    rw [if_pos this] at e1
    split at e2 <;> omega
  · have : atH hs (topI hs) - amtH hs = 0 := by omega
    rw [if_pos this] at e2
    split at e1 <;> omega
/-- what anyone has stays within what the greatest bound says -/
theorem step_within (hs : List Int) (h : 0 < hs.length) (hz : sumH hs = 0) (M : Int) (hM : ∀ i, i < hs.length → -M ≤ atH hs i ∧ atH hs i ≤ M) (i : Nat) (hi : i < hs.length) : -M ≤ atH (stepH hs) i ∧ atH (stepH hs) i ≤ M := by
  rcases ends_of hs h hz with ⟨h0, ha⟩ | ⟨h0, h1, h2, hne⟩
  · have hm := hM i hi
    have e : ∀ j, atH hs j = 0 := fun j => by
      rcases Nat.lt_or_ge j hs.length with hj | hj
      · exact ha j hj
      · exact atH_out _ _ hj
    have e2 : atH (stepH hs) i = 0 := by
      unfold stepH payH
      obtain ⟨l0, -, -⟩ := low_spec hs h
      obtain ⟨t0, -, -⟩ := top_spec hs h
      rw [atH_set _ _ _ _ (by simpa using t0), atH_set _ _ _ _ l0, atH_set _ _ _ _ l0, h0, e, e, e]
      split <;> (try split) <;> simp
    rw [e2]; have := e i; omega
  · obtain ⟨a1, a2, a3⟩ := amt_le hs
    rw [atH_step hs h hne]
    have hm := hM i hi
    split
    · rename_i e; rw [e] at hm ⊢; omega
    · split
      · rename_i e; rw [e] at hm ⊢; omega
      · exact hm
theorem planH_length (f : Nat) : ∀ hs, (planH f hs).length ≤ f := by
  induction f with
  | zero => intro hs; simp [planH]
  | succ f ih =>
    intro hs
    simp only [planH]
    split
    · simp
    · simp only [List.length_cons]; have := ih (stepH hs); omega
/-- where each has 0 there is nothing more to pay -/
theorem planH_more : ∀ (f : Nat) (hs : List Int), 0 < hs.length → sumH hs = 0 → nzH hs ≤ f → planH f hs = planH (f + 1) hs
  | 0, hs, h, hz, hn => by
    rcases ends_of hs h hz with ⟨h0, _⟩ | ⟨h0, h1, h2, hne⟩
    · simp [planH, h0]
    · have := step_nz hs h h0 h1 h2 hne; omega
  | f + 1, hs, h, hz, hn => by
    rw [planH]
    conv => rhs; rw [planH]
    rcases ends_of hs h hz with ⟨h0, _⟩ | ⟨h0, h1, h2, hne⟩
    · rw [if_pos h0, if_pos h0]
    · have hl := step_nz hs h h0 h1 h2 hne
      rw [if_neg (by omega), if_neg (by omega), planH_more f (stepH hs) (by rw [stepH_length]; exact h) (by rw [step_sum hs h]; exact hz) (by omega)]
end Go.Proofs.Ytbnpajijbdddiaa
