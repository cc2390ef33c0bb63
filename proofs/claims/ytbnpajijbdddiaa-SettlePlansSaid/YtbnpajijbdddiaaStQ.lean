/- A document's plan by banks: plain. -/
import Derived.Test.YtbnpajijbdddiaaStD
namespace Go.Proofs.Ytbnpajijbdddiaa
set_option linter.unusedVariables false

theorem bank_rise {l : List XPos} {n : Nat} (h : fallTo l n = false) : ∀ j, j < n → prevB l j < bankAt l j := by
  intro j hj
  rcases (show prevB l j < bankAt l j ∨ bankAt l j ≤ prevB l j by omega) with h1 | h1
  · exact h1
  · have : fallTo l (j + 1) = true := by rw [fallTo, decide_eq_true h1, Bool.or_true]
    rw [fallTo_mono l (j + 1) this n (by omega)] at h
    cases h
theorem bank_lt {l : List XPos} {n : Nat} (h : fallTo l n = false) : ∀ j, j < n → ∀ i, i < j → bankAt l i < bankAt l j := by
  intro j
  induction j with
  | zero => intro _ i hi; omega
  | succ j ih =>
    intro hj i hi
    have h1 := bank_rise h (j + 1) hj
    have h2 : prevB l (j + 1) = bankAt l j := rfl
    rw [h2] at h1
    rcases Nat.lt_or_ge i j with h3 | h3
    · have := ih (by omega) i h3; omega
    · obtain rfl : i = j := by omega
      exact h1
theorem bank_in {l : List XPos} (hw : ∀ x ∈ l, wrongP x = false) : ∀ i, i < l.length → 1 ≤ bankAt l i ∧ bankAt l i ≤ 99 := by
  intro i hi
  have e : bankAt l i = l[i].bank := by simp [bankAt, hi]
  have := notWrong (hw l[i] (List.getElem_mem hi))
  rw [e]; omega
theorem pick_neg (h : Nat → Int) (n : Nat) (hn : 0 < n) (bk : Nat → Int) (hr : ∀ j, j < n → ∀ i, i < j → bk i < bk j) (hb : ∀ i, i < n → 1 ≤ bk i ∧ bk i ≤ 99) (G : Nat → Int)
    (hG1 : ∀ i, i < n → G (bk i).toNat = h i) (hG0 : ∀ j : Nat, (∀ i, i < n → bk i ≠ (j : Int)) → G j = 0) (hneg : h (minF h n) < 0) : minF G 100 = (bk (minF h n)).toNat := by
  obtain ⟨m0, m1, m2⟩ := minF_spec h n hn
  have hbm := hb _ m0
  have key : ∀ j : Nat, G j = 0 ∨ ∃ i, i < n ∧ bk i = (j : Int) ∧ G j = h i := by
    intro j
    by_cases hx : ∃ i, i < n ∧ bk i = (j : Int)
    · obtain ⟨i, hi, hbi⟩ := hx
      refine .inr ⟨i, hi, hbi, ?_⟩
      have := hG1 i hi
      rw [hbi] at this
      simpa using this
    · exact .inl (hG0 j (fun i hi e => hx ⟨i, hi, e⟩))
  refine minF_uniq G 100 _ (by omega) (fun j hj => ?_) (fun j hj => ?_)
  · rw [hG1 _ m0]
    rcases key j with h1 | ⟨i, hi, hbi, h1⟩
    · omega
    · have := m1 i hi; omega
  · rw [hG1 _ m0]
    rcases key j with h1 | ⟨i, hi, hbi, h1⟩
    · omega
    · have hlt : i < minF h n := by
        rcases Nat.lt_trichotomy i (minF h n) with h2 | h2 | h2
        · exact h2
        · rw [h2] at hbi; omega
        · have := hr i hi _ h2; omega
      have := m2 i hlt; omega
theorem pick_zero (h : Nat → Int) (n : Nat) (bk : Nat → Int) (hb : ∀ i, i < n → 1 ≤ bk i ∧ bk i ≤ 99) (G : Nat → Int)
    (hG1 : ∀ i, i < n → G (bk i).toNat = h i) (hG0 : ∀ j : Nat, (∀ i, i < n → bk i ≠ (j : Int)) → G j = 0) (hpos : ∀ i, i < n → 0 ≤ h i) : minF G 100 = 0 := by
  have h0 : G 0 = 0 := hG0 0 (fun i hi => by have := hb i hi; simp; omega)
  refine minF_uniq G 100 0 (by omega) (fun j hj => ?_) (fun j hj => by omega)
  rw [h0]
  by_cases hx : ∃ i, i < n ∧ bk i = (j : Int)
  · obtain ⟨i, hi, hbi⟩ := hx
    have h1 := hG1 i hi
    have h2 := hpos i hi
    rw [hbi] at h1
    simp only [Int.toNat_natCast] at h1
    omega
  · rw [hG0 j (fun i hi e => hx ⟨i, hi, e⟩)]; exact Int.le_refl _
/-- what the map holds, against what each has -/
def RelM (bk : Nat → Int) (n : Nat) (h : Nat → Int) (F : Int → Int) : Prop := (∀ i, i < n → F (bk i) = h i) ∧ ∀ b : Int, (∀ i, i < n → bk i ≠ b) → F b = 0
theorem RelM.g1 {bk : Nat → Int} {n : Nat} {h : Nat → Int} {F : Int → Int} (r : RelM bk n h F) (hb : ∀ i, i < n → 1 ≤ bk i ∧ bk i ≤ 99) : ∀ i, i < n → (fun j : Nat => F (j : Int)) (bk i).toNat = h i := by
  intro i hi
  have := hb i hi
  show F (((bk i).toNat : Nat) : Int) = h i
  rw [show (((bk i).toNat : Nat) : Int) = bk i by omega]
  exact r.1 i hi
theorem RelM.g0 {bk : Nat → Int} {n : Nat} {h : Nat → Int} {F : Int → Int} (r : RelM bk n h F) : ∀ j : Nat, (∀ i, i < n → bk i ≠ (j : Int)) → (fun j : Nat => F (j : Int)) j = 0 := fun j hj => r.2 j hj
theorem RelM.neg {bk : Nat → Int} {n : Nat} {h : Nat → Int} {F : Int → Int} (r : RelM bk n h F) : RelM bk n (fun i => -(h i)) (fun b => -(F b)) := ⟨fun i hi => by show -(F (bk i)) = -(h i); rw [r.1 i hi], fun b hb => by show -(F b) = 0; rw [r.2 b hb]; rfl⟩
/-- the document's poor one and rich one -/
theorem poor_rich {bk : Nat → Int} {hs : List Int} {F : Int → Int} (r : RelM bk hs.length (atH hs) F) (hr : ∀ j, j < hs.length → ∀ i, i < j → bk i < bk j) (hb : ∀ i, i < hs.length → 1 ≤ bk i ∧ bk i ≤ 99) (h0 : 0 < hs.length) (hz : sumH hs = 0) :
    (amtH hs = 0 → minF (fun j : Nat => F j) 100 = 0 ∧ minF (fun j : Nat => -(F j)) 100 = 0) ∧ (amtH hs ≠ 0 → minF (fun j : Nat => F j) 100 = (bk (lowI hs)).toNat ∧ minF (fun j : Nat => -(F j)) 100 = (bk (topI hs)).toNat) := by
  rcases ends_of hs h0 hz with ⟨e1, e2⟩ | ⟨e1, e2, e3, e4⟩
  · refine ⟨fun _ => ⟨pick_zero (atH hs) _ bk hb _ (r.g1 hb) r.g0 (fun i hi => by rw [e2 i hi]; exact Int.le_refl _), pick_zero (fun i => -(atH hs i)) _ bk hb _ (r.neg.g1 hb) r.neg.g0 (fun i hi => by rw [e2 i hi]; exact Int.le_refl _)⟩, fun h => absurd e1 h⟩
  · refine ⟨fun h => by omega, fun _ => ⟨?_, ?_⟩⟩
    · exact pick_neg (atH hs) _ h0 bk hr hb _ (r.g1 hb) r.g0 e2
    · exact pick_neg (fun i => -(atH hs i)) _ h0 bk hr hb _ (r.neg.g1 hb) r.neg.g0 (by show -(atH hs (topI hs)) < 0; omega)
end Go.Proofs.Ytbnpajijbdddiaa
