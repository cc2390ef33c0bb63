/- A book's Put, plain: where the power goes. -/
import Derived.Test.YtbiipeapcclbkaaBkS
namespace Go.Proofs.Ytbiipeapcclbkaa
set_option linter.unusedVariables false

theorem wrM_len (M : Mm) (i : Nat) (s : ByteArray) : (wrM M i s).C.length = M.C.length := by
  unfold wrM
  split
  · rfl
  · split
    · rfl
    · show (M.C.set i s).length = _; rw [List.length_set]
theorem wrM_off {M : Mm} {i : Nat} {s : ByteArray} (h : M.off = true) : wrM M i s = M := by unfold wrM; rw [if_pos h]
theorem wrM_other (M : Mm) (i : Nat) (s : ByteArray) {j : Nat} (h : j ≠ i) : (wrM M i s).C[j]? = M.C[j]? := by
  unfold wrM
  split
  · rfl
  · split
    · rfl
    · exact List.getElem?_set_ne (Ne.symm h)
/-- it is written, or the power has gone -/
theorem wrM_at (M : Mm) (i : Nat) (s : ByteArray) (hi : i < M.C.length) (h : (wrM M i s).off = false) : (wrM M i s).C[i]? = some s ∧ M.off = false := by
  unfold wrM at *
  by_cases h1 : M.off = true
  · rw [if_pos h1] at h; rw [h1] at h; cases h
  · rw [if_neg h1] at h ⊢
    by_cases h2 : M.pw = 0
    · rw [if_pos h2] at h; cases h
    · rw [if_neg h2]
      exact ⟨List.getElem?_set_self hi, by simpa using h1⟩
theorem wrM_cut (M : Mm) (i : Nat) (s : ByteArray) (h : (wrM M i s).off = true) : (wrM M i s).C = M.C := by
  unfold wrM at *
  by_cases h1 : M.off = true
  · rw [if_pos h1]
  · rw [if_neg h1] at h ⊢
    by_cases h2 : M.pw = 0
    · rw [if_pos h2]; rfl
    · rw [if_neg h2] at h
      exact absurd h h1
theorem wrM_sz {M : Mm} {i : Nat} {s : ByteArray} (h : ∀ c ∈ M.C, c.size = 16) (hs : s.size = 16) : ∀ c ∈ (wrM M i s).C, c.size = 16 := by
  unfold wrM
  split
  · exact h
  · split
    · exact h
    · intro c hc
      rcases List.mem_or_eq_of_mem_set hc with hc | rfl
      · exact h c hc
      · exact hs
/-- the pieces of a text are written behind a place -/
def layM (M : Mm) (p : Nat) (t : ByteArray) : Nat → Mm
  | 0 => M
  | i + 1 => wrM (layM M p t i) (p + 1 + i) (chunk t i)
theorem layM_len (M : Mm) (p : Nat) (t : ByteArray) (n : Nat) : (layM M p t n).C.length = M.C.length := by
  induction n with
  | zero => rfl
  | succ n ih => rw [layM, wrM_len, ih]
theorem layM_other (M : Mm) (p : Nat) (t : ByteArray) (n : Nat) {j : Nat} (h : j ≤ p ∨ p + n < j) : (layM M p t n).C[j]? = M.C[j]? := by
  induction n with
  | zero => rfl
  | succ n ih =>
    rw [layM, wrM_other _ _ _ (by omega)]
    exact ih (by omega)
theorem layM_on (M : Mm) (p : Nat) (t : ByteArray) (n : Nat) (h : (layM M p t n).off = false) : M.off = false := by
  induction n with
  | zero => exact h
  | succ n ih =>
    apply ih
    cases ho : (layM M p t n).off with
    | false => rfl
    | true => rw [layM, wrM_off ho, ho] at h; cases h
theorem layM_at (M : Mm) (p : Nat) (t : ByteArray) (n : Nat) (hl : p + n < M.C.length) (h : (layM M p t n).off = false) : ∀ j, j < n → (layM M p t n).C[p + 1 + j]? = some (chunk t j) := by
  induction n with
  | zero => intro j hj; omega
  | succ n ih =>
    intro j hj
    rw [layM] at h ⊢
    obtain ⟨q1, q2⟩ := wrM_at _ _ _ (by rw [layM_len]; omega) h
    by_cases hjn : j = n
    · rw [hjn]; exact q1
    · rw [wrM_other _ _ _ (by omega)]
      exact ih (by omega) q2 j (by omega)
theorem layM_sz {M : Mm} {p : Nat} {t : ByteArray} (h : ∀ c ∈ M.C, c.size = 16) (n : Nat) : ∀ c ∈ (layM M p t n).C, c.size = 16 := by
  induction n with
  | zero => exact h
  | succ n ih => exact wrM_sz ih (chunk_size t n)
/-- what is read at a cell -/
def rdC (M : Mm) (i : Nat) : ByteArray := if M.off = true then zeroC else (M.C[i]?).getD zeroC
open Classical in
/-- an entry is laid -/
noncomputable def endM (M : Mm) (i : Nat) : Mm := if rdC M i = zeroC then M else wrM M i zeroC
noncomputable def putM (M : Mm) (p : Nat) (e : En) : Mm := wrM (endM (layM M p e.text (nC e.text.size)) (p + wid e)) p (headB e)
theorem endM_len (M : Mm) (i : Nat) : (endM M i).C.length = M.C.length := by unfold endM; split; rfl; rw [wrM_len]
theorem endM_other (M : Mm) (i : Nat) {j : Nat} (h : j ≠ i) : (endM M i).C[j]? = M.C[j]? := by unfold endM; split; rfl; exact wrM_other _ _ _ h
theorem endM_on (M : Mm) (i : Nat) (h : (endM M i).off = false) : M.off = false := by
  unfold endM at h
  split at h
  · exact h
  · cases ho : M.off with
    | false => rfl
    | true => rw [wrM_off ho, ho] at h; cases h
theorem endM_at (M : Mm) (i : Nat) (hi : i < M.C.length) (h : (endM M i).off = false) : (endM M i).C[i]? = some zeroC := by
  have ho := endM_on M i h
  unfold endM at h ⊢
  split
  · next hz =>
    unfold rdC at hz
    rw [ho, if_neg (by decide)] at hz
    obtain ⟨c, hc⟩ : ∃ c, M.C[i]? = some c := ⟨_, List.getElem?_eq_getElem hi⟩
    rw [hc] at hz ⊢
    rw [← hz]; rfl
  · next hz =>
    rw [if_neg hz] at h
    exact (wrM_at M i zeroC hi h).1
theorem zeroC_size : zeroC.size = 16 := pad_size _ (by decide)
theorem endM_sz {M : Mm} {i : Nat} (h : ∀ c ∈ M.C, c.size = 16) : ∀ c ∈ (endM M i).C, c.size = 16 := by
  unfold endM
  split
  · exact h
  · exact wrM_sz h zeroC_size
theorem putM_len (M : Mm) (p : Nat) (e : En) : (putM M p e).C.length = M.C.length := by unfold putM; rw [wrM_len, endM_len, layM_len]
/-- an entry is there wholly, or not at all -/
theorem putM_laid {M : Mm} {L : List En} {e : En} (h : Laid M.C L) (he : okEn e) (hf : posL L + wid e < M.C.length) :
    ((putM M (posL L) e).off = false → Laid (putM M (posL L) e).C (L ++ [e])) ∧ ((putM M (posL L) e).off = true → Laid (putM M (posL L) e).C L) := by
  have hwd : wid e = 1 + nC e.text.size := rfl
  have hsz1 := layM_sz (p := posL L) (t := e.text) h.sz (nC e.text.size)
  have hsz2 := endM_sz (i := posL L + wid e) hsz1
  have hlt := h.lt
  have hold : ∀ i, i ≤ posL L → (endM (layM M (posL L) e.text (nC e.text.size)) (posL L + wid e)).C[i]? = M.C[i]? := fun i hi => by
    rw [endM_other _ _ (by omega), layM_other _ _ _ _ (by omega)]
  constructor
  · intro ho
    unfold putM at ho ⊢
    obtain ⟨q1, q2⟩ := wrM_at _ _ _ (by rw [endM_len, layM_len]; exact hlt) ho
    have q3 := endM_on _ _ q2
    refine h.put he (fun i hi => ?_) ⟨q1, fun j hj => ?_⟩ ?_ (wrM_sz hsz2 (headB_size e he))
    · rw [wrM_other _ _ _ (by omega)]; exact hold i (by omega)
    · rw [wrM_other _ _ _ (by omega), endM_other _ _ (by omega)]
      exact layM_at M (posL L) e.text _ (by omega) q3 j hj
    · rw [wrM_other _ _ _ (by omega)]
      exact endM_at _ _ (by rw [layM_len]; exact hf) q2
  · intro ho
    unfold putM at ho ⊢
    rw [wrM_cut _ _ _ ho]
    exact h.past hold hsz2
/-- an entry is ended wholly, or not at all -/
theorem doneM_laid {M : Mm} {L : List En} {i : Nat} {e e' : En} (h : Laid M.C L) (hi : L[i]? = some e) (ht : e'.text = e.text) (he : okEn e') (ho : M.off = false) :
    ((wrM M (posL (L.take i)) (headB e')).off = false → Laid (wrM M (posL (L.take i)) (headB e')).C (L.set i e')) ∧ ((wrM M (posL (L.take i)) (headB e')).off = true → Laid (wrM M (posL (L.take i)) (headB e')).C L) := by
  constructor
  · intro h1
    have : (wrM M (posL (L.take i)) (headB e')).C = M.C.set (posL (L.take i)) (headB e') := by
      unfold wrM at h1 ⊢
      rw [if_neg (by rw [ho]; decide)] at h1 ⊢
      by_cases h2 : M.pw = 0
      · rw [if_pos h2] at h1; cases h1
      · rw [if_neg h2]; rfl
    rw [this]
    exact h.done hi ht he
  · intro h1
    rw [wrM_cut _ _ _ h1]; exact h
end Go.Proofs.Ytbiipeapcclbkaa
