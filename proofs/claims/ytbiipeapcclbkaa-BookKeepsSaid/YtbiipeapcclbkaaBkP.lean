/- A shop's book, plain: entries in cells. -/
import Derived.Test.YtbiipeapcclbkaaLow
import Derived.Test.YtbiipeapcclbkaaNumAll
namespace Go.Proofs.Ytbiipeapcclbkaa
set_option linter.unusedVariables false

/-- a memory: cells of 16 bytes, power, off -/
structure Mm where
  C : List ByteArray
  pw : Int
  off : Bool
/-- an entry -/
structure En where
  what : Int
  how : Int
  text : ByteArray
def nC (n : Nat) : Nat := (n + 15) / 16
def wid (e : En) : Nat := 1 + nC e.text.size
def posL : List En → Nat
  | [] => 0
  | e :: l => wid e + posL l
theorem posL_append (l m : List En) : posL (l ++ m) = posL l + posL m := by
  induction l with
  | nil => simp [posL]
  | cons e l ih => simp only [List.cons_append, posL, ih]; omega
theorem posL_snoc (l : List En) (e : En) : posL (l ++ [e]) = posL l + wid e := by rw [posL_append]; rfl
theorem posL_len (l : List En) : l.length ≤ posL l := by
  induction l with
  | nil => exact Nat.le_refl _
  | cons e l ih => simp only [List.length_cons, posL]; unfold wid; omega
theorem posL_take (l : List En) (i : Nat) : posL (l.take i) ≤ posL l := by
  have := posL_append (l.take i) (l.drop i)
  rw [List.take_append_drop] at this
  omega
theorem posL_take_succ {l : List En} {i : Nat} {e : En} (h : l[i]? = some e) : posL (l.take (i + 1)) = posL (l.take i) + wid e := by
  obtain ⟨hk, he⟩ := List.getElem?_eq_some_iff.1 h
  rw [List.take_succ_eq_append_getElem hk, he, posL_snoc]
/-- a text of at most 16 bytes, filled up -/
def pad (s : ByteArray) : ByteArray := ⟨s.data ++ Array.replicate (16 - s.size) 0⟩
theorem pad_size (s : ByteArray) (h : s.size ≤ 16) : (pad s).size = 16 := by
  unfold pad
  show (s.data ++ Array.replicate (16 - s.size) 0).size = 16
  rw [Array.size_append, Array.size_replicate]
  have : s.data.size = s.size := rfl
  omega
def zeroC : ByteArray := pad ⟨#[]⟩
/-- the j-th piece of a text -/
def chunk (t : ByteArray) (j : Nat) : ByteArray := pad (t.extract (j * 16) (min (j * 16 + 16) t.size))
theorem chunk_size (t : ByteArray) (j : Nat) : (chunk t j).size = 16 := by
  apply pad_size
  rw [ByteArray.size_extract]; omega
/-- an entry's first cell -/
def headT (e : En) : ByteArray := numS e.what 1 ++ numS e.how 1 ++ numS (e.text.size : Int) 2
def headB (e : En) : ByteArray := pad (headT e)
def okEn (e : En) : Prop := 1 ≤ e.what ∧ e.what ≤ 250 ∧ 0 ≤ e.how ∧ e.how ≤ 250 ∧ e.text.size ≤ 20000
theorem numS_len {n : Nat} {k : Nat} (h1 : 1 ≤ k) (h8 : k ≤ 8) (h : n < 256 ^ k) : (numS (n : Int) (k : Int)).size = k := by
  rw [numS_yes ((numOk_nat n k h1 h8).2 h)]
  show (strOfNums (bigL (n : Int).toNat (k : Int).toNat)).size = k
  simp [strOfNums, ByteArray.size, bigL_length]
theorem headT_parts (e : En) (h : okEn e) : (numS e.what 1).size = 1 ∧ (numS e.how 1).size = 1 ∧ (numS (e.text.size : Int) 2).size = 2 := by
  obtain ⟨h1, h2, h3, h4, h5⟩ := h
  refine ⟨?_, ?_, numS_len (n := e.text.size) (k := 2) (by decide) (by decide) (by omega)⟩
  · have := numS_len (n := e.what.toNat) (k := 1) (by decide) (by decide) (by omega)
    rwa [show ((e.what.toNat : Nat) : Int) = e.what by omega] at this
  · have := numS_len (n := e.how.toNat) (k := 1) (by decide) (by decide) (by omega)
    rwa [show ((e.how.toNat : Nat) : Int) = e.how by omega] at this
theorem headT_size (e : En) (h : okEn e) : (headT e).size = 4 := by
  obtain ⟨h1, h2, h3⟩ := headT_parts e h
  unfold headT
  rw [ByteArray.size_append, ByteArray.size_append]; omega
theorem headB_size (e : En) (h : okEn e) : (headB e).size = 16 := pad_size _ (by rw [headT_size e h]; decide)
/-- an entry lies at a place -/
def LiesAt (C : List ByteArray) (p : Nat) (e : En) : Prop := C[p]? = some (headB e) ∧ ∀ j, j < nC e.text.size → C[p + 1 + j]? = some (chunk e.text j)
/-- the entries lie one behind the other, a cell of zeros behind them -/
structure Laid (C : List ByteArray) (L : List En) : Prop where
  each : ∀ i e, L[i]? = some e → LiesAt C (posL (L.take i)) e
  last : C[posL L]? = some zeroC
  ok : ∀ e ∈ L, okEn e
  sz : ∀ c ∈ C, c.size = 16
theorem Laid.lt {C : List ByteArray} {L : List En} (h : Laid C L) : posL L < C.length := (List.getElem?_eq_some_iff.1 h.last).1
/-- cells behind the last place may be anything -/
theorem Laid.past {C C' : List ByteArray} {L : List En} (h : Laid C L) (hs : ∀ i, i ≤ posL L → C'[i]? = C[i]?) (hz : ∀ c ∈ C', c.size = 16) : Laid C' L := by
  refine ⟨fun i e he => ?_, (hs _ (Nat.le_refl _)).trans h.last, h.ok, hz⟩
  obtain ⟨q1, q2⟩ := h.each i e he
  have hp := posL_take_succ he
  have ht := posL_take L (i + 1)
  unfold wid at hp
  exact ⟨(hs _ (by omega)).trans q1, fun j hj => (hs _ (by omega)).trans (q2 j hj)⟩
/-- an entry more -/
theorem Laid.put {C C' : List ByteArray} {L : List En} {e : En} (h : Laid C L) (he : okEn e) (hs : ∀ i, i < posL L → C'[i]? = C[i]?) (hl : LiesAt C' (posL L) e) (hz : C'[posL L + wid e]? = some zeroC) (hsz : ∀ c ∈ C', c.size = 16) : Laid C' (L ++ [e]) := by
  refine ⟨fun i x hx => ?_, by rw [posL_snoc]; exact hz, fun x hx => ?_, hsz⟩
  · by_cases hi : i < L.length
    · rw [List.getElem?_append_left hi] at hx
      rw [List.take_append_of_le_length (by omega)]
      obtain ⟨q1, q2⟩ := h.each i x hx
      have hp := posL_take_succ hx
      have ht := posL_take L (i + 1)
      unfold wid at hp
      exact ⟨(hs _ (by omega)).trans q1, fun j hj => (hs _ (by omega)).trans (q2 j hj)⟩
    · have hi2 : i = L.length := by
        have := (List.getElem?_eq_some_iff.1 hx).1
        rw [List.length_append] at this
        simp at this; omega
      subst hi2
      rw [List.getElem?_append_right (Nat.le_refl _)] at hx
      obtain rfl : e = x := by simpa using hx
      rw [List.take_append_of_le_length (Nat.le_refl _), List.take_length]
      exact hl
  · rcases List.mem_append.1 hx with hx | hx
    · exact h.ok x hx
    · simp at hx; rw [hx]; exact he
/-- an entry is ended -/
theorem Laid.done {C : List ByteArray} {L : List En} {i : Nat} {e e' : En} (h : Laid C L) (hi : L[i]? = some e) (ht : e'.text = e.text) (he : okEn e') : Laid (C.set (posL (L.take i)) (headB e')) (L.set i e') := by
  have hw : wid e' = wid e := by unfold wid; rw [ht]
  obtain ⟨hil, hie⟩ := List.getElem?_eq_some_iff.1 hi
  have htk : ∀ k, posL ((L.set i e').take k) = posL (L.take k) := by
    intro k
    have hL : L = L.take i ++ e :: L.drop (i + 1) := by rw [← hie, List.getElem_cons_drop, List.take_append_drop]
    have hL' : L.set i e' = L.take i ++ e' :: L.drop (i + 1) := by rw [List.set_eq_take_append_cons_drop, if_pos hil]
    rw [hL']
    conv => rhs; rw [hL]
    rw [List.take_append, List.take_append, posL_append, posL_append]
    congr 1
    cases hk : k - (L.take i).length with
    | zero => rfl
    | succ n => simp only [List.take_succ_cons, posL, hw]
  have hpos : posL (L.set i e') = posL L := by
    have := htk L.length
    rwa [List.take_length, List.take_of_length_le (by simp)] at this
  have hlt := h.lt
  have hpi : posL (L.take i) + wid e ≤ posL L := by
    have h1 := posL_take_succ hi
    have h2 := posL_take L (i + 1)
    omega
  have hw1 : 1 ≤ wid e := by unfold wid; omega
  refine ⟨fun k x hx => ?_, ?_, fun x hx => ?_, fun c hc => ?_⟩
  · rw [htk]
    by_cases hki : k = i
    · subst hki
      rw [List.getElem?_set_self hil] at hx
      obtain rfl : e' = x := by simpa using hx
      refine ⟨List.getElem?_set_self (by omega), fun j hj => ?_⟩
      rw [List.getElem?_set_ne (by omega), ht]
      rw [ht] at hj
      exact (h.each k e hi).2 j hj
    · rw [List.getElem?_set_ne (fun e => hki e.symm)] at hx
      obtain ⟨q1, q2⟩ := h.each k x hx
      have hne : ∀ j, j < wid x → posL (L.take i) ≠ posL (L.take k) + j := by
        intro j hj
        have mono : ∀ a b : Nat, a ≤ b → posL (L.take a) ≤ posL (L.take b) := fun a b hab => by
          have := posL_take (L.take b) a
          rwa [List.take_take, Nat.min_eq_left hab] at this
        rcases Nat.lt_or_ge k i with hlt2 | hge
        · have h1 := posL_take_succ hx
          have h2 := mono (k + 1) i hlt2
          omega
        · have h1 := posL_take_succ hi
          have h2 := mono (i + 1) k (by omega)
          omega
      refine ⟨?_, fun j hj => ?_⟩
      · rw [List.getElem?_set_ne (by have := hne 0 (by unfold wid; omega); simpa using this)]; exact q1
      · rw [List.getElem?_set_ne (by have := hne (1 + j) (by unfold wid; omega); rw [Nat.add_assoc]; exact this)]; exact q2 j hj
  · rw [hpos, List.getElem?_set_ne (by omega)]; exact h.last
  · rcases List.mem_or_eq_of_mem_set hx with hx | rfl
    · exact h.ok x hx
    · exact he
  · rcases List.mem_or_eq_of_mem_set hc with hc | rfl
    · exact h.sz c hc
    · exact headB_size _ he
end Go.Proofs.Ytbiipeapcclbkaa
