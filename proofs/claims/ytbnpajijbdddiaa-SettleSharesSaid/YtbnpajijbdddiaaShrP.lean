/- Shares of an amount, plain. -/
import Derived.Test.YtbnpajijbdddiaaSrtP
namespace Go.Proofs.Ytbnpajijbdddiaa
set_option linter.unusedVariables false

def sumTo (f : Nat → Int) : Nat → Int
  | 0 => 0
  | k + 1 => sumTo f k + f k
theorem sumTo_congr (f g : Nat → Int) (n : Nat) (h : ∀ i, i < n → f i = g i) : sumTo f n = sumTo g n := by
  induction n with
  | zero => rfl
  | succ n ih => simp only [sumTo]; rw [ih (fun i hi => h i (by omega)), h n (by omega)]
theorem sumTo_add (f g : Nat → Int) (n : Nat) : sumTo (fun i => f i + g i) n = sumTo f n + sumTo g n := by
  induction n with
  | zero => rfl
  | succ n ih => simp only [sumTo]; omega
theorem sumTo_le (f : Nat → Int) (M : Int) (n : Nat) (h : ∀ i, i < n → f i ≤ M) : sumTo f n ≤ n * M := by
  induction n with
  | zero => simp [sumTo]
  | succ n ih =>
    have h1 := ih (fun i hi => h i (by omega))
    have h2 := h n (by omega)
    have e : ((n + 1 : Nat) : Int) * M = n * M + M := by rw [Int.natCast_add, Int.add_mul]; simp
    simp only [sumTo, e]; omega
theorem sumTo_nonneg (f : Nat → Int) (n : Nat) (h : ∀ i, i < n → 0 ≤ f i) : 0 ≤ sumTo f n := by
  induction n with
  | zero => simp [sumTo]
  | succ n ih =>
    have h1 := ih (fun i hi => h i (by omega))
    have h2 := h n (by omega)
    simp only [sumTo]; omega
def sumL : List Int → Int
  | [] => 0
  | x :: r => x + sumL r
theorem sumL_perm {l m : List Int} (h : l.Perm m) : sumL l = sumL m := by
  induction h with
  | nil => rfl
  | cons x _ ih => simp only [sumL, ih]
  | swap x y l => simp only [sumL]; omega
  | trans _ _ h1 h2 => rw [h1, h2]
theorem sumL_append (l m : List Int) : sumL (l ++ m) = sumL l + sumL m := by
  induction l with
  | nil => simp [sumL]
  | cons x r ih => simp only [List.cons_append, sumL, ih]; omega
theorem sumL_range (f : Nat → Int) (n : Nat) : sumL ((List.range n).map f) = sumTo f n := by
  induction n with
  | zero => rfl
  | succ n ih => rw [List.range_succ, List.map_append, sumL_append, ih]; simp [sumL, sumTo]
theorem nodup_len : ∀ (n : Nat) (l : List Nat), l.Nodup → (∀ x ∈ l, x < n) → l.length ≤ n
  | 0, l, _, h => by
    cases l with
    | nil => simp
    | cons x r => have := h x (by simp); omega
  | n + 1, l, hn, h => by
    by_cases hm : n ∈ l
    · have := nodup_len n (l.erase n) (hn.erase n) (fun x hx => by
        have := (hn.mem_erase_iff).1 hx
        have := h x this.2
        omega)
      have e := List.length_erase_of_mem hm
      omega
    · have := nodup_len n l hn (fun x hx => by
        have := h x hx
        have : x ≠ n := fun e => hm (e ▸ hx)
        omega)
      omega
/-- n unlike numbers below n are all of them -/
theorem all_there : ∀ (n : Nat) (l : List Nat), l.Nodup → (∀ x ∈ l, x < n) → l.length = n → l.Perm (List.range n)
  | 0, l, _, h, hl => by
    obtain rfl : l = [] := List.length_eq_zero_iff.1 hl
    exact List.Perm.refl _
  | n + 1, l, hn, h, hl => by
    have hm : n ∈ l := by
      by_cases hm : n ∈ l
      · exact hm
      · exfalso
        have := nodup_len n l hn (fun x hx => by
          have := h x hx
          have : x ≠ n := fun e => hm (e ▸ hx)
          omega)
        omega
    have ih := all_there n (l.erase n) (hn.erase n) (fun x hx => by
        have := (hn.mem_erase_iff).1 hx
        have := h x this.2
        omega) (by rw [List.length_erase_of_mem hm]; omega)
    rw [List.range_succ]
    exact (List.perm_cons_erase hm).trans ((List.Perm.cons n ih).trans (List.perm_append_comm (l₁ := [n]) (l₂ := List.range n)))
theorem Bk.perm {K : Nat → Int} {D : Nat → Nat} {n : Nat} (h : Bk K D 0 n) : ((List.range n).map D).Perm (List.range n) := by
  refine all_there n _ ?_ ?_ (by simp)
  · refine List.nodup_iff_pairwise_ne.2 ?_
    rw [List.pairwise_map]
    refine List.Pairwise.imp_of_mem ?_ List.pairwise_lt_range
    intro i j hi hj hij e
    have := h.srt i j (Nat.zero_le _) hij (by simpa using hj)
    rw [e] at this
    exact this.irrefl
  · intro x hx
    obtain ⟨i, hi, rfl⟩ := List.mem_map.1 hx
    exact (h.own i (Nat.zero_le _) (by simpa using hi)).2
theorem Bk.sum {K : Nat → Int} {D : Nat → Nat} {n : Nat} (h : Bk K D 0 n) (f : Nat → Int) : sumTo (fun i => f (D i)) n = sumTo f n := by
  rw [← sumL_range, ← sumL_range]
  have := sumL_perm (h.perm.map f)
  rw [← this, List.map_map]
  rfl
theorem Bk.onto {K : Nat → Int} {D : Nat → Nat} {n : Nat} (h : Bk K D 0 n) (i : Nat) (hi : i < n) : ∃ j, j < n ∧ D j = i := by
  have : i ∈ (List.range n).map D := h.perm.mem_iff.2 (by simpa using hi)
  obtain ⟨j, hj, e⟩ := List.mem_map.1 this
  exact ⟨j, by simpa using hj, e⟩
theorem Bk.inj {K : Nat → Int} {D : Nat → Nat} {n : Nat} (h : Bk K D 0 n) {i j : Nat} (hi : i < n) (hj : j < n) (e : D i = D j) : i = j := by
  rcases Nat.lt_trichotomy i j with h1 | h1 | h1
  · have := h.srt i j (Nat.zero_le _) h1 hj; rw [e] at this; exact absurd this.irrefl (by simp)
  · exact h1
  · have := h.srt j i (Nat.zero_le _) h1 hi; rw [e] at this; exact absurd this.irrefl (by simp)

def pt (ps : List Int) (i : Nat) : Int := ps.getD i 0
def loS (A S : Int) (ps : List Int) (i : Nat) : Int := A * pt ps i / S
def reS (A S : Int) (ps : List Int) (i : Nat) : Int := A * pt ps i % S
theorem lo_re (A S : Int) (ps : List Int) (n : Nat) : S * sumTo (loS A S ps) n + sumTo (reS A S ps) n = A * sumTo (pt ps) n := by
  induction n with
  | zero => simp [sumTo]
  | succ n ih =>
    have h1 : S * loS A S ps n + reS A S ps n = A * pt ps n := Int.mul_ediv_add_emod (A * pt ps n) S
    simp only [sumTo]
    rw [Int.mul_add, Int.mul_add, ← ih, ← h1]
    omega
def leftS (A S : Int) (ps : List Int) (n : Nat) : Int := A - sumTo (loS A S ps) n
theorem left_re (A S : Int) (ps : List Int) (n : Nat) (hS : sumTo (pt ps) n = S) : S * leftS A S ps n = sumTo (reS A S ps) n := by
  have h := lo_re A S ps n
  rw [hS] at h
  unfold leftS
  rw [Int.mul_sub]
  have : S * A = A * S := Int.mul_comm _ _
  omega
theorem re_in (A S : Int) (ps : List Int) (hS : 0 < S) (i : Nat) : 0 ≤ reS A S ps i ∧ reS A S ps i ≤ S - 1 := by
  have h1 := Int.emod_nonneg (A * pt ps i) (show S ≠ 0 by omega)
  have h2 := Int.emod_lt_of_pos (A * pt ps i) hS
  unfold reS; omega
theorem mul_lt_way (S a : Int) (j : Nat) (hS : 0 < S) (h : S * a ≤ j * (S - 1)) (hj : 0 < j) : a < j := by
  rcases (show a < j ∨ (j : Int) ≤ a by omega) with h1 | h1
  · exact h1
  · exfalso
    have h2 : S * (j : Int) ≤ S * a := Int.mul_le_mul_of_nonneg_left h1 (by omega)
    have h3 : (j : Int) * (S - 1) = S * j - j := by rw [Int.mul_sub, Int.mul_comm]; simp
    omega
theorem left_in (A S : Int) (ps : List Int) (n : Nat) (hS : sumTo (pt ps) n = S) (h0 : 0 < S) (hn : 0 < n) : 0 ≤ leftS A S ps n ∧ leftS A S ps n < n := by
  have h := left_re A S ps n hS
  have h1 := sumTo_nonneg (reS A S ps) n (fun i _ => (re_in A S ps h0 i).1)
  have h2 := sumTo_le (reS A S ps) (S - 1) n (fun i _ => (re_in A S ps h0 i).2)
  refine ⟨?_, mul_lt_way S _ n h0 (by omega) hn⟩
  rcases (show 0 ≤ leftS A S ps n ∨ leftS A S ps n < 0 by omega) with h3 | h3
  · exact h3
  · exfalso
    have : S * leftS A S ps n < S * 0 := Int.mul_lt_mul_of_pos_left h3 h0
    omega
/-- is i one of the first t? -/
def chB (D : Nat → Nat) (t i : Nat) : Bool := (List.range t).any (fun j => D j == i)
theorem chB_iff (D : Nat → Nat) (t i : Nat) : chB D t i = true ↔ ∃ j, j < t ∧ D j = i := by
  unfold chB
  rw [List.any_eq_true]
  constructor
  · rintro ⟨j, hj, e⟩
    exact ⟨j, by simpa using hj, by simpa using e⟩
  · rintro ⟨j, hj, e⟩
    exact ⟨j, by simpa using hj, by simpa using e⟩
def chI (D : Nat → Nat) (t i : Nat) : Int := bif chB D t i then 1 else 0
theorem chI_zero (D : Nat → Nat) (i : Nat) : chI D 0 i = 0 := rfl
theorem chB_next (D : Nat → Nat) (t i : Nat) : chB D (t + 1) i = (chB D t i || D t == i) := by
  unfold chB; rw [List.range_succ, List.any_append]; simp
/-- whom the t-th cent goes to had none yet -/
theorem chI_next {K : Nat → Int} {D : Nat → Nat} {n t : Nat} (h : Bk K D 0 n) (ht : t < n) (i : Nat) : chI D (t + 1) i = if i = D t then chI D t i + 1 else chI D t i := by
  unfold chI
  rw [chB_next]
  by_cases e : i = D t
  · rw [if_pos e]
    have hn : chB D t i = false := by
      cases hc : chB D t i with
      | false => rfl
      | true =>
        obtain ⟨j, hj, e'⟩ := (chB_iff D t i).1 hc
        have := h.inj (show j < n by omega) ht (e'.trans e)
        omega
    rw [hn, e]; simp
  · rw [if_neg e]
    have : (D t == i) = false := by rw [beq_eq_false_iff_ne]; exact fun e' => e e'.symm
    rw [this, Bool.or_false]
theorem chI_pos {K : Nat → Int} {D : Nat → Nat} {n t j : Nat} (h : Bk K D 0 n) (ht : t ≤ n) (hj : j < n) : chI D t (D j) = if j < t then 1 else 0 := by
  unfold chI
  by_cases e : j < t
  · rw [if_pos e, (chB_iff D t (D j)).2 ⟨j, e, rfl⟩]; rfl
  · rw [if_neg e]
    have hn : chB D t (D j) = false := by
      cases hc : chB D t (D j) with
      | false => rfl
      | true =>
        obtain ⟨k, hk, e'⟩ := (chB_iff D t (D j)).1 hc
        have := h.inj (show k < n by omega) hj e'
        omega
    rw [hn]; rfl
theorem sum_first (t : Nat) : ∀ n, t ≤ n → sumTo (fun j => if j < t then 1 else 0) n = t := by
  intro n hn
  induction n with
  | zero => obtain rfl : t = 0 := by omega
            rfl
  | succ n ih =>
    simp only [sumTo]
    by_cases e : t = n + 1
    · subst e
      rw [if_pos (by omega), sumTo_congr (fun j => if j < n + 1 then 1 else 0) (fun _ => 1) n (fun i hi => by simp; omega)]
      have : ∀ m : Nat, sumTo (fun _ => (1 : Int)) m = m := fun m => by
        induction m with
        | zero => rfl
        | succ m ih => simp only [sumTo, ih]; omega
      rw [this]; omega
    · rw [ih (by omega), if_neg (by omega)]; omega
def shS (A S : Int) (ps : List Int) (D : Nat → Nat) (t i : Nat) : Int := loS A S ps i + chI D t i
theorem share_sum (A S : Int) (ps : List Int) (n : Nat) (D : Nat → Nat) (h : Bk (reS A S ps) D 0 n) (hS : sumTo (pt ps) n = S) (h0 : 0 < S) (hn : 0 < n) : sumTo (shS A S ps D (leftS A S ps n).toNat) n = A := by
  obtain ⟨l0, l1⟩ := left_in A S ps n hS h0 hn
  have e1 : sumTo (shS A S ps D (leftS A S ps n).toNat) n = sumTo (loS A S ps) n + sumTo (chI D (leftS A S ps n).toNat) n := sumTo_add _ _ _
  rw [e1, ← h.sum (chI D (leftS A S ps n).toNat), sumTo_congr _ (fun j => if j < (leftS A S ps n).toNat then 1 else 0) n (fun i hi => chI_pos h (by omega) hi), sum_first _ n (by omega)]
  unfold leftS at l0 ⊢
  omega
theorem chI_in (D : Nat → Nat) (t i : Nat) : 0 ≤ chI D t i ∧ chI D t i ≤ 1 := by unfold chI; cases chB D t i <;> simp
/-- who gets one more has a rest -/
theorem share_rest (A S : Int) (ps : List Int) (n : Nat) (D : Nat → Nat) (h : Bk (reS A S ps) D 0 n) (hS : sumTo (pt ps) n = S) (h0 : 0 < S) (hn : 0 < n) (i : Nat) (hc : chI D (leftS A S ps n).toNat i = 1) : reS A S ps i ≠ 0 := by
  intro hr
  obtain ⟨l0, l1⟩ := left_in A S ps n hS h0 hn
  have hcb : chB D (leftS A S ps n).toNat i = true := by
    unfold chI at hc
    cases hx : chB D (leftS A S ps n).toNat i with
    | true => rfl
    | false => rw [hx] at hc; cases hc
  obtain ⟨j, hj, e⟩ := (chB_iff _ _ _).1 hcb
  have hsum := left_re A S ps n hS
  rw [← h.sum (reS A S ps)] at hsum
  have hz : ∀ k, j ≤ k → k < n → reS A S ps (D k) = 0 := fun k hk hkn => by
    have hk0 := (re_in A S ps h0 (D k)).1
    by_cases ek : k = j
    · rw [ek, e]; exact hr
    · have := h.srt j k (Nat.zero_le _) (by omega) hkn
      rw [e] at this
      unfold ltK at this
      omega
  have hle : ∀ m, j ≤ m → m ≤ n → sumTo (fun i => reS A S ps (D i)) m ≤ j * (S - 1) := by
    intro m hm hmn
    induction m with
    | zero => obtain rfl : j = 0 := by omega
              simp [sumTo]
    | succ m ih =>
      by_cases em : j = m + 1
      · rw [em]
        exact sumTo_le _ _ _ (fun i _ => (re_in A S ps h0 (D i)).2)
      · simp only [sumTo]
        have := ih (by omega) (by omega)
        have := hz m (by omega) (by omega)
        omega
  have h1 := hle n (by omega) (Nat.le_refl _)
  rw [← hsum] at h1
  rcases Nat.eq_zero_or_pos j with hj0 | hj0
  · subst hj0
    have : S * leftS A S ps n ≤ 0 := by simpa using h1
    have h3 : 1 ≤ leftS A S ps n := by omega
    have : S * 1 ≤ S * leftS A S ps n := Int.mul_le_mul_of_nonneg_left h3 (by omega)
    omega
  · have := mul_lt_way S _ j h0 h1 hj0
    omega
theorem ediv_mono (a b S : Int) (h : a ≤ b) (h0 : 0 < S) : a / S ≤ b / S := Int.ediv_le_ediv h0 h
/-- who has more parts gets no less -/
theorem share_mono (A S : Int) (ps : List Int) (n : Nat) (D : Nat → Nat) (h : Bk (reS A S ps) D 0 n) (hS : sumTo (pt ps) n = S) (h0 : 0 < S) (hn : 0 < n) (hA : 0 ≤ A) (i k : Nat) (hi : i < n) (hk : k < n) (hp : pt ps k < pt ps i) :
    shS A S ps D (leftS A S ps n).toNat k ≤ shS A S ps D (leftS A S ps n).toNat i := by
  obtain ⟨l0, l1⟩ := left_in A S ps n hS h0 hn
  have hm : A * pt ps k ≤ A * pt ps i := Int.mul_le_mul_of_nonneg_left (by omega) hA
  have hlo : loS A S ps k ≤ loS A S ps i := ediv_mono _ _ S hm h0
  have ci := chI_in D (leftS A S ps n).toNat i
  have ck := chI_in D (leftS A S ps n).toNat k
  unfold shS
  by_cases hlt : loS A S ps k < loS A S ps i
  · omega
  have heq : loS A S ps k = loS A S ps i := by omega
  by_cases hck : chI D (leftS A S ps n).toNat k = 0
  · omega
  have hck1 : chI D (leftS A S ps n).toNat k = 1 := by omega
  have ei : S * loS A S ps i + reS A S ps i = A * pt ps i := Int.mul_ediv_add_emod _ _
  have ek : S * loS A S ps k + reS A S ps k = A * pt ps k := Int.mul_ediv_add_emod _ _
  rw [heq] at ek
  obtain ⟨x, hx, hxi⟩ := h.onto i hi
  obtain ⟨y, hy, hyk⟩ := h.onto k hk
  have hyl : y < (leftS A S ps n).toNat := by
    rw [← hyk, chI_pos h (by omega) hy] at hck1
    by_cases e : y < (leftS A S ps n).toNat
    · exact e
    · rw [if_neg e] at hck1; cases hck1
  have hre : reS A S ps k < reS A S ps i := by
    rcases (show reS A S ps k < reS A S ps i ∨ reS A S ps i ≤ reS A S ps k by omega) with h1 | h1
    · exact h1
    · exfalso
      have h2 : A * pt ps i = A * pt ps k := by omega
      have hA0 : A = 0 := by
        rcases (show A = 0 ∨ 0 < A by omega) with h3 | h3
        · exact h3
        · have := Int.mul_lt_mul_of_pos_left hp h3
          omega
      have := share_rest A S ps n D h hS h0 hn k hck1
      apply this
      unfold reS
      rw [hA0, Int.zero_mul]
      exact Int.zero_emod _
  have hxy : x < y := by
    rcases Nat.lt_trichotomy x y with h1 | h1 | h1
    · exact h1
    · subst h1; rw [hxi] at hyk; subst hyk; omega
    · have := h.srt y x (Nat.zero_le _) h1 hx
      rw [hxi, hyk] at this
      unfold ltK at this
      omega
  have : chI D (leftS A S ps n).toNat i = 1 := by rw [← hxi, chI_pos h (by omega) hx, if_pos (by omega)]
  omega
end Go.Proofs.Ytbnpajijbdddiaa
