/- A stable sort, plain: numbers by a key, the greater first; of equal ones the lesser number first. -/
namespace Go.Proofs.Ytbnpajijbdddiaa
set_option linter.unusedVariables false

def ltK (K : Nat → Int) (x y : Nat) : Prop := K y < K x ∨ (K x = K y ∧ x < y)
theorem ltK.trans {K : Nat → Int} {x y z : Nat} (h : ltK K x y) (k : ltK K y z) : ltK K x z := by unfold ltK at *; omega
theorem ltK.irrefl {K : Nat → Int} {x : Nat} (h : ltK K x x) : False := by unfold ltK at *; omega
def lessB (K : Nat → Int) (x y : Nat) : Bool := decide (K y < K x)
theorem lt_of_less {K : Nat → Int} {x y : Nat} (h : lessB K x y = true) : ltK K x y := .inl (of_decide_eq_true h)
theorem lt_of_not {K : Nat → Int} {x y : Nat} (h : lessB K x y = false) (hxy : y < x) : ltK K y x := by
  have := of_decide_eq_false h
  unfold ltK; omega
def Srt (K : Nat → Int) (D : Nat → Nat) (a b : Nat) : Prop := ∀ i j, a ≤ i → i < j → j < b → ltK K (D i) (D j)
theorem Srt.sub {K : Nat → Int} {D : Nat → Nat} {a b a' b' : Nat} (h : Srt K D a b) (ha : a ≤ a') (hb : b' ≤ b) : Srt K D a' b' := fun i j h1 h2 h3 => h i j (by omega) h2 (by omega)
theorem Srt.congr {K : Nat → Int} {D D' : Nat → Nat} {a b : Nat} (h : Srt K D a b) (e : ∀ i, a ≤ i → i < b → D' i = D i) : Srt K D' a b := fun i j h1 h2 h3 => by rw [e i h1 (by omega), e j (by omega) h3]; exact h i j h1 h2 h3
theorem Srt.join {K : Nat → Int} {D : Nat → Nat} {a m b : Nat} (h1 : Srt K D a m) (h2 : Srt K D m b) (h3 : ∀ i j, a ≤ i → i < m → m ≤ j → j < b → ltK K (D i) (D j)) : Srt K D a b := by
  intro i j hi hij hj
  rcases Nat.lt_or_ge j m with h | h
  · exact h1 i j hi hij h
  · rcases Nat.lt_or_ge i m with h' | h'
    · exact h3 i j hi h' h hj
    · exact h2 i j h' hij hj
/-- the same numbers between a and b; all else as it was -/
structure SameIn (D D' : Nat → Nat) (a b : Nat) : Prop where
  fwd : ∀ i, a ≤ i → i < b → ∃ j, a ≤ j ∧ j < b ∧ D' i = D j
  out : ∀ i, i < a ∨ b ≤ i → D' i = D i
theorem SameIn.refl (D : Nat → Nat) (a b : Nat) : SameIn D D a b := ⟨fun i h1 h2 => ⟨i, h1, h2, rfl⟩, fun _ _ => rfl⟩
theorem SameIn.trans {D D' D'' : Nat → Nat} {a b : Nat} (h : SameIn D D' a b) (k : SameIn D' D'' a b) : SameIn D D'' a b := by
  refine ⟨fun i h1 h2 => ?_, fun i hi => by rw [k.out i hi, h.out i hi]⟩
  obtain ⟨j, j1, j2, e⟩ := k.fwd i h1 h2
  obtain ⟨l, l1, l2, e'⟩ := h.fwd j j1 j2
  exact ⟨l, l1, l2, e.trans e'⟩
theorem SameIn.wide {D D' : Nat → Nat} {a b a' b' : Nat} (h : SameIn D D' a b) (ha : a' ≤ a) (hb : b ≤ b') : SameIn D D' a' b' := by
  refine ⟨fun i h1 h2 => ?_, fun i hi => h.out i (by omega)⟩
  by_cases hx : a ≤ i ∧ i < b
  · obtain ⟨j, j1, j2, e⟩ := h.fwd i hx.1 hx.2
    exact ⟨j, by omega, by omega, e⟩
  · exact ⟨i, h1, h2, h.out i (by omega)⟩
/-- where each place takes from, if [s, m) and [m, e) change places -/
def rotI (s m e x : Nat) : Nat := if s ≤ x ∧ x < s + (e - m) then x + (m - s) else if s + (e - m) ≤ x ∧ x < e then x - (e - m) else x
def rot (D : Nat → Nat) (s m e : Nat) : Nat → Nat := fun x => D (rotI s m e x)
theorem rotI_cases (s m e x : Nat) : (s ≤ x ∧ x < s + (e - m) ∧ rotI s m e x = x + (m - s)) ∨ (s + (e - m) ≤ x ∧ x < e ∧ rotI s m e x = x - (e - m)) ∨ ((x < s ∨ s + (e - m) ≤ x) ∧ (x < s + (e - m) ∨ e ≤ x) ∧ rotI s m e x = x) := by
  unfold rotI
  split
  · omega
  · split <;> omega
theorem rot_a (D : Nat → Nat) {s m e x : Nat} (h1 : s ≤ x) (h2 : x < s + (e - m)) : rot D s m e x = D (x + (m - s)) := by unfold rot rotI; rw [if_pos ⟨h1, h2⟩]
theorem rot_b (D : Nat → Nat) {s m e x : Nat} (h1 : s + (e - m) ≤ x) (h2 : x < e) : rot D s m e x = D (x - (e - m)) := by unfold rot rotI; rw [if_neg (by omega), if_pos ⟨h1, h2⟩]
theorem rot_c (D : Nat → Nat) {s m e x : Nat} (hs : s ≤ m) (hm : m ≤ e) (h : x < s ∨ e ≤ x) : rot D s m e x = D x := by unfold rot rotI; rw [if_neg (by omega), if_neg (by omega)]
theorem rot_none (D : Nat → Nat) (s m e : Nat) (h : s = m ∨ m = e) : rot D s m e = D := by
  funext x
  unfold rot rotI
  congr 1
  split
  · omega
  · split <;> omega
theorem rot_same (D : Nat → Nat) (s m e : Nat) (hs : s ≤ m) (hm : m ≤ e) : SameIn D (rot D s m e) s e := by
  refine ⟨fun i h1 h2 => ?_, fun i hi => rot_c D hs hm hi⟩
  rcases Nat.lt_or_ge i (s + (e - m)) with h | h
  · exact ⟨i + (m - s), by omega, by omega, rot_a D h1 h⟩
  · exact ⟨i - (e - m), by omega, by omega, rot_b D h h2⟩
def sw (D : Nat → Nat) (i j : Nat) : Nat → Nat := fun x => if x = i then D j else if x = j then D i else D x
/-- one goes a place further to the right -/
theorem rot_right (D : Nat → Nat) (a k : Nat) (h : a ≤ k) : sw (rot D a (a + 1) (k + 1)) k (k + 1) = rot D a (a + 1) (k + 2) := by
  funext x
  unfold sw rot
  by_cases h1 : x = k
  · rw [if_pos h1]; congr 1
    rcases rotI_cases a (a + 1) (k + 1) (k + 1) with h1 | h1 | h1 <;> rcases rotI_cases a (a + 1) (k + 2) x with h2 | h2 | h2 <;> omega
  · rw [if_neg h1]
    by_cases h2 : x = k + 1
    · rw [if_pos h2]; congr 1
      rcases rotI_cases a (a + 1) (k + 1) k with h1 | h1 | h1 <;> rcases rotI_cases a (a + 1) (k + 2) x with h2 | h2 | h2 <;> omega
    · rw [if_neg h2]; congr 1
      rcases rotI_cases a (a + 1) (k + 1) x with h1 | h1 | h1 <;> rcases rotI_cases a (a + 1) (k + 2) x with h2 | h2 | h2 <;> omega
/-- one goes a place further to the left -/
theorem rot_left (D : Nat → Nat) (j i : Nat) (h : j + 1 ≤ i) : sw (rot D (j + 1) i (i + 1)) (j + 1) j = rot D j i (i + 1) := by
  funext x
  unfold sw rot
  by_cases h1 : x = j + 1
  · rw [if_pos h1]; congr 1
    rcases rotI_cases (j + 1) i (i + 1) j with h1 | h1 | h1 <;> rcases rotI_cases j i (i + 1) x with h2 | h2 | h2 <;> omega
  · rw [if_neg h1]
    by_cases h2 : x = j
    · rw [if_pos h2]; congr 1
      rcases rotI_cases (j + 1) i (i + 1) (j + 1) with h1 | h1 | h1 <;> rcases rotI_cases j i (i + 1) x with h2 | h2 | h2 <;> omega
    · rw [if_neg h2]; congr 1
      rcases rotI_cases (j + 1) i (i + 1) x with h1 | h1 | h1 <;> rcases rotI_cases j i (i + 1) x with h2 | h2 | h2 <;> omega
/-- k of the n that change places are done -/
def swpI (a b k x : Nat) : Nat := if a ≤ x ∧ x < a + k then x + (b - a) else if b ≤ x ∧ x < b + k then x - (b - a) else x
theorem swpI_cases (a b k x : Nat) : (a ≤ x ∧ x < a + k ∧ swpI a b k x = x + (b - a)) ∨ ((x < a ∨ a + k ≤ x) ∧ b ≤ x ∧ x < b + k ∧ swpI a b k x = x - (b - a)) ∨ ((x < a ∨ a + k ≤ x) ∧ (x < b ∨ b + k ≤ x) ∧ swpI a b k x = x) := by
  unfold swpI
  split
  · omega
  · split <;> omega
def swp (D : Nat → Nat) (a b k : Nat) : Nat → Nat := fun x => D (swpI a b k x)
theorem swp_zero (D : Nat → Nat) (a b : Nat) : swp D a b 0 = D := by funext x; unfold swp swpI; rw [if_neg (by omega), if_neg (by omega)]
theorem swp_step (D : Nat → Nat) (a b k : Nat) (h : a + k < b) : sw (swp D a b k) (a + k) (b + k) = swp D a b (k + 1) := by
  funext x
  unfold sw swp
  by_cases h1 : x = a + k
  · rw [if_pos h1]; congr 1
    rcases swpI_cases a b k (b + k) with h1 | h1 | h1 <;> rcases swpI_cases a b (k + 1) x with h2 | h2 | h2 <;> omega
  · rw [if_neg h1]
    by_cases h2 : x = b + k
    · rw [if_pos h2]; congr 1
      rcases swpI_cases a b k (a + k) with h1 | h1 | h1 <;> rcases swpI_cases a b (k + 1) x with h2 | h2 | h2 <;> omega
    · rw [if_neg h2]; congr 1
      rcases swpI_cases a b k x with h1 | h1 | h1 <;> rcases swpI_cases a b (k + 1) x with h2 | h2 | h2 <;> omega
/-- the steps of a rotation -/
theorem rot_long (D : Nat → Nat) (m i j : Nat) (hi : i ≤ m) (hj : j < i) : rot (swp D (m - i) m j) (m - (i - j)) m (m + j) = rot D (m - i) m (m + j) := by
  funext x
  unfold rot swp
  congr 1
  rcases rotI_cases (m - (i - j)) m (m + j) x with h1 | h1 | h1 <;> rcases rotI_cases (m - i) m (m + j) x with h2 | h2 | h2 <;> rcases swpI_cases (m - i) m j (rotI (m - (i - j)) m (m + j) x) with h3 | h3 | h3 <;> omega
theorem rot_short (D : Nat → Nat) (m i j : Nat) (hi : i ≤ m) (hj : i < j) : rot (swp D (m - i) (m + j - i) i) (m - i) m (m + (j - i)) = rot D (m - i) m (m + j) := by
  funext x
  unfold rot swp
  congr 1
  rcases rotI_cases (m - i) m (m + (j - i)) x with h1 | h1 | h1 <;> rcases rotI_cases (m - i) m (m + j) x with h2 | h2 | h2 <;> rcases swpI_cases (m - i) (m + j - i) i (rotI (m - i) m (m + (j - i)) x) with h3 | h3 | h3 <;> omega
theorem rot_even (D : Nat → Nat) (m i : Nat) (hi : i ≤ m) : swp D (m - i) m i = rot D (m - i) m (m + i) := by
  funext x
  unfold rot swp
  congr 1
  rcases rotI_cases (m - i) m (m + i) x with h1 | h1 | h1 <;> rcases swpI_cases (m - i) m i x with h3 | h3 | h3 <;> omega

theorem oneR {K : Nat → Int} {D : Nat → Nat} {a m i : Nat} (h : Srt K D a m) (ha : a ≤ i) (hi : i ≤ m) (h1 : i = a ∨ ltK K (D (i - 1)) (D m)) (h2 : i = m ∨ ltK K (D m) (D i)) : Srt K (rot D i m (m + 1)) a (m + 1) := by
  have lo : ∀ x, a ≤ x → x < i → ltK K (D x) (D m) := fun x hx hxi => by
    rcases h1 with h1 | h1
    · omega
    · by_cases e : x = i - 1
      · rw [e]; exact h1
      · exact (h x (i - 1) hx (by omega) (by omega)).trans h1
  have hi' : ∀ x, i ≤ x → x < m → ltK K (D m) (D x) := fun x hx hxm => by
    rcases h2 with h2 | h2
    · omega
    · by_cases e : x = i
      · rw [e]; exact h2
      · exact h2.trans (h i x ha (by omega) hxm)
  intro x y hx hxy hy
  by_cases x1 : x < i
  · rw [rot_c D hi (by omega) (.inl x1)]
    by_cases y1 : y < i
    · rw [rot_c D hi (by omega) (.inl y1)]; exact h x y hx hxy (by omega)
    by_cases y2 : y = i
    · rw [rot_a D (by omega) (by omega), show y + (m - i) = m by omega]; exact lo x hx x1
    · rw [rot_b D (by omega) hy]; exact h x _ hx (by omega) (by omega)
  by_cases x2 : x = i
  · rw [rot_a D (by omega) (by omega), show x + (m - i) = m by omega, rot_b D (by omega) hy]; exact hi' _ (by omega) (by omega)
  · rw [rot_b D (by omega) (by omega), rot_b D (by omega) hy]; exact h _ _ (by omega) (by omega) (by omega)
theorem oneL {K : Nat → Int} {D : Nat → Nat} {a b i : Nat} (h : Srt K D (a + 1) b) (ha : a + 1 ≤ i) (hi : i ≤ b) (h1 : i = a + 1 ∨ ltK K (D (i - 1)) (D a)) (h2 : i = b ∨ ltK K (D a) (D i)) : Srt K (rot D a (a + 1) i) a b := by
  have lo : ∀ x, a + 1 ≤ x → x < i → ltK K (D x) (D a) := fun x hx hxi => by
    rcases h1 with h1 | h1
    · omega
    · by_cases e : x = i - 1
      · rw [e]; exact h1
      · exact (h x (i - 1) hx (by omega) (by omega)).trans h1
  have hi' : ∀ x, i ≤ x → x < b → ltK K (D a) (D x) := fun x hx hxm => by
    rcases h2 with h2 | h2
    · omega
    · by_cases e : x = i
      · rw [e]; exact h2
      · exact h2.trans (h i x ha (by omega) hxm)
  intro x y hx hxy hy
  by_cases y1 : i ≤ y
  · rw [rot_c D (x := y) (by omega) (by omega) (.inr y1)]
    by_cases x1 : i ≤ x
    · rw [rot_c D (x := x) (by omega) (by omega) (.inr x1)]; exact h x y (by omega) hxy hy
    by_cases x2 : x = i - 1
    · rw [rot_b D (x := x) (by omega) (by omega), show x - (i - (a + 1)) = a by omega]; exact hi' y y1 hy
    · rw [rot_a D (x := x) (by omega) (by omega)]; exact h _ y (by omega) (by omega) hy
  by_cases y2 : y = i - 1
  · rw [rot_b D (x := y) (by omega) (by omega), show y - (i - (a + 1)) = a by omega, rot_a D (x := x) (by omega) (by omega)]; exact lo _ (by omega) (by omega)
  · rw [rot_a D (x := y) (by omega) (by omega), rot_a D (x := x) (by omega) (by omega)]; exact h _ _ (by omega) (by omega) (by omega)
/-- behind the rotation: two halves, each of two that are sorted, the first wholly ahead of the second -/
theorem halves {K : Nat → Int} {D : Nat → Nat} {a m b s e : Nat} (hL : Srt K D a m) (hR : Srt K D m b) (h1 : a ≤ s) (h2 : s ≤ m) (h3 : m ≤ e) (h4 : e ≤ b)
    (k1 : s = a ∨ e = b ∨ ltK K (D (s - 1)) (D e)) (k2 : s = m ∨ e = m ∨ ltK K (D (e - 1)) (D s)) :
    Srt K (rot D s m e) a s ∧ Srt K (rot D s m e) s (s + (e - m)) ∧ Srt K (rot D s m e) (s + (e - m)) e ∧ Srt K (rot D s m e) e b ∧
    ∀ i j, a ≤ i → i < s + (e - m) → s + (e - m) ≤ j → j < b → ltK K (rot D s m e i) (rot D s m e j) := by
  have L1 : ∀ i, a ≤ i → i < s → ∀ j, e ≤ j → j < b → ltK K (D i) (D j) := fun i hi his j hj hjb => by
    rcases k1 with k | k | k
    · omega
    · omega
    · have p1 : ltK K (D i) (D e) := by
        by_cases x : i = s - 1
        · rw [x]; exact k
        · exact (hL i (s - 1) hi (by omega) (by omega)).trans k
      by_cases x : j = e
      · rw [x]; exact p1
      · exact p1.trans (hR e j h3 (by omega) hjb)
  have L2 : ∀ i, m ≤ i → i < e → ∀ j, s ≤ j → j < m → ltK K (D i) (D j) := fun i hi hie j hj hjm => by
    rcases k2 with k | k | k
    · omega
    · omega
    · have p1 : ltK K (D i) (D s) := by
        by_cases x : i = e - 1
        · rw [x]; exact k
        · exact (hR i (e - 1) hi (by omega) (by omega)).trans k
      by_cases x : j = s
      · rw [x]; exact p1
      · exact p1.trans (hL s j h1 (by omega) hjm)
  refine ⟨fun i j hi hij hj => ?_, fun i j hi hij hj => ?_, fun i j hi hij hj => ?_, fun i j hi hij hj => ?_, fun i j hi hi' hj hj' => ?_⟩
  · rw [rot_c D h2 h3 (.inl (by omega)), rot_c D h2 h3 (.inl hj)]; exact hL i j hi hij (by omega)
  · rw [rot_a D hi (by omega), rot_a D (by omega) hj]; exact hR _ _ (by omega) (by omega) (by omega)
  · rw [rot_b D hi (by omega), rot_b D (by omega) hj]; exact hL _ _ (by omega) (by omega) (by omega)
  · rw [rot_c D h2 h3 (.inr hi), rot_c D h2 h3 (.inr (by omega))]; exact hR _ _ (by omega) hij hj
  · by_cases i1 : i < s
    · rw [rot_c D (x := i) h2 h3 (.inl i1)]
      by_cases j1 : j < e
      · rw [rot_b D hj j1]; exact hL _ _ hi (by omega) (by omega)
      · rw [rot_c D (x := j) h2 h3 (.inr (by omega))]; exact L1 i hi i1 j (by omega) hj'
    · rw [rot_a D (x := i) (by omega) hi']
      by_cases j1 : j < e
      · rw [rot_b D hj j1]; exact L2 _ (by omega) (by omega) _ (by omega) (by omega)
      · rw [rot_c D (x := j) h2 h3 (.inr (by omega))]; exact hR _ _ (by omega) (by omega) hj'
/-- the two halves, each sorted by itself, are one -/
theorem halves_done {K : Nat → Int} {D D1 D2 : Nat → Nat} {a c b : Nat} (hac : a ≤ c) (hcb : c ≤ b) (hx : ∀ i j, a ≤ i → i < c → c ≤ j → j < b → ltK K (D i) (D j))
    (s1 : SameIn D D1 a c) (r1 : Srt K D1 a c) (s2 : SameIn D1 D2 c b) (r2 : Srt K D2 c b) : Srt K D2 a b ∧ SameIn D D2 a b := by
  refine ⟨(r1.congr (fun i h1 h2 => s2.out i (.inl h2))).join r2 (fun i j hi hic hj hjb => ?_), (s1.wide (Nat.le_refl _) hcb).trans (s2.wide hac (Nat.le_refl _))⟩
  rw [s2.out i (.inl hic)]
  obtain ⟨i', p1, p2, e1⟩ := s1.fwd i hi hic
  obtain ⟨j', q1, q2, e2⟩ := s2.fwd j hj hjb
  rw [e1, e2, s1.out j' (.inr q1)]
  exact hx i' j' p1 p2 q1 q2

/-- a block that is sorted and holds just its own numbers -/
structure Bk (K : Nat → Int) (D : Nat → Nat) (a b : Nat) : Prop where
  srt : Srt K D a b
  own : ∀ i, a ≤ i → i < b → a ≤ D i ∧ D i < b
theorem Bk.congr {K : Nat → Int} {D D' : Nat → Nat} {a b : Nat} (h : Bk K D a b) (e : ∀ i, a ≤ i → i < b → D' i = D i) : Bk K D' a b := ⟨h.srt.congr e, fun i h1 h2 => by rw [e i h1 h2]; exact h.own i h1 h2⟩
theorem Bk.empty (K : Nat → Int) (D : Nat → Nat) (a : Nat) : Bk K D a a := ⟨fun i j h1 h2 h3 => by omega, fun i h1 h2 => by omega⟩
theorem Bk.merge {K : Nat → Int} {D D' : Nat → Nat} {a m b : Nat} (h1 : Bk K D a m) (h2 : Bk K D m b) (ham : a ≤ m) (hmb : m ≤ b) (s : SameIn D D' a b) (r : Srt K D' a b) : Bk K D' a b := by
  refine ⟨r, fun i hi hib => ?_⟩
  obtain ⟨j, p, q, e⟩ := s.fwd i hi hib
  rw [e]
  rcases Nat.lt_or_ge j m with h | h
  · have := h1.own j p h; omega
  · have := h2.own j h q; omega
/-- all of a first block stand below all of a second one -/
def LR (D : Nat → Nat) (a m b : Nat) : Prop := ∀ i j, a ≤ i → i < m → m ≤ j → j < b → D i < D j
theorem Bk.lr {K : Nat → Int} {D : Nat → Nat} {a m b : Nat} (h1 : Bk K D a m) (h2 : Bk K D m b) : LR D a m b := fun i j p q r s => by have := h1.own i p q; have := h2.own j r s; omega
/-- up to a: blocks of s -/
inductive Full (K : Nat → Int) (D : Nat → Nat) (s : Nat) : Nat → Prop
  | zero : Full K D s 0
  | next {a : Nat} : Full K D s a → Bk K D a (a + s) → Full K D s (a + s)
/-- from a on: blocks of s, the last perhaps shorter -/
inductive Rest (K : Nat → Int) (D : Nat → Nat) (s n : Nat) : Nat → Prop
  | last {a : Nat} : a ≤ n → n ≤ a + s → Bk K D a n → Rest K D s n a
  | more {a : Nat} : Bk K D a (a + s) → Rest K D s n (a + s) → Rest K D s n a
theorem Full.congr {K : Nat → Int} {D D' : Nat → Nat} {s a : Nat} (h : Full K D s a) : (∀ i, i < a → D' i = D i) → Full K D' s a := by
  induction h with
  | zero => intro _; exact .zero
  | next h1 h2 ih => intro e; exact .next (ih (fun i hi => e i (by omega))) (h2.congr (fun i _ hi => e i hi))
theorem Rest.le {K : Nat → Int} {D : Nat → Nat} {s n a : Nat} (h : Rest K D s n a) : a ≤ n := by
  induction h with
  | last h1 _ _ => exact h1
  | more _ _ ih => omega
theorem Rest.congr {K : Nat → Int} {D D' : Nat → Nat} {s n a : Nat} (h : Rest K D s n a) : (∀ i, a ≤ i → D' i = D i) → Rest K D' s n a := by
  induction h with
  | last h1 h2 h3 => intro e; exact .last h1 h2 (h3.congr (fun i hi _ => e i hi))
  | more h1 h2 ih => intro e; exact .more (h1.congr (fun i hi _ => e i hi)) (ih (fun i hi => e i (by omega)))
theorem Full.rest {K : Nat → Int} {D : Nat → Nat} {s n a : Nat} (h : Full K D s a) : Rest K D s n a → Rest K D s n 0 := by
  induction h with
  | zero => exact id
  | next h1 h2 ih => intro r; exact ih (.more h2 r)
theorem Rest.two {K : Nat → Int} {D : Nat → Nat} {s n a : Nat} (h : Rest K D s n a) (hs : 0 < s) (hn : a + 2 * s ≤ n) : Bk K D a (a + s) ∧ Bk K D (a + s) (a + 2 * s) ∧ Rest K D s n (a + 2 * s) := by
  cases h with
  | last h1 h2 h3 => omega
  | more h1 h2 =>
    refine ⟨h1, ?_⟩
    cases h2 with
    | last k1 k2 k3 =>
      obtain rfl : n = a + 2 * s := by omega
      exact ⟨k3, .last (Nat.le_refl _) (by omega) (Bk.empty _ _ _)⟩
    | more k1 k2 =>
      rw [show a + s + s = a + 2 * s by omega] at k1 k2
      exact ⟨k1, k2⟩
theorem Rest.tail {K : Nat → Int} {D : Nat → Nat} {s n a : Nat} (h : Rest K D s n a) (hn : n < a + 2 * s) : (a + s < n → Bk K D a (a + s) ∧ Bk K D (a + s) n) ∧ (n ≤ a + s → Bk K D a n) := by
  cases h with
  | last h1 h2 h3 => exact ⟨fun h => by omega, fun _ => h3⟩
  | more h1 h2 =>
    cases h2 with
    | last k1 k2 k3 => exact ⟨fun h => ⟨h1, k3⟩, fun h => by obtain rfl : n = a + s := by omega
                                                             exact h1⟩
    | more k1 k2 => have := k2.le; omega
theorem Rest.whole {K : Nat → Int} {D : Nat → Nat} {s n : Nat} (h : Rest K D s n 0) (hn : n ≤ s) : Bk K D 0 n := by
  cases h with
  | last h1 h2 h3 => exact h3
  | more h1 h2 =>
    have := h2.le
    obtain rfl : n = 0 + s := by omega
    exact h1
end Go.Proofs.Ytbnpajijbdddiaa
