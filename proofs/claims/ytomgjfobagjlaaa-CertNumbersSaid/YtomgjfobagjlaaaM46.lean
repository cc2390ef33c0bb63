/- Modulus of the program. -/
import Derived.Test.YtomgjfobagjlaaaM45
namespace Go.Proofs.Ytomgjfobagjlaaa
open Go.RowKit Go.Shelf
set_option linter.unusedVariables false
set_option linter.unusedSimpArgs false
set_option maxRecDepth 100000

/-- how many bits a number has -/
def lenBN (n : Nat) : Nat := if n = 0 then 0 else n.log2 + 1
theorem isLen_lenBN {n L : Nat} (h : IsLenW n L) : L = lenBN n := by
  obtain ⟨h1, h2⟩ := h
  unfold lenBN
  by_cases h0 : n = 0
  · rw [if_pos h0]
    rcases h2 with h2 | h2
    · exact h2
    · have := Nat.two_pow_pos (L - 1)
      omega
  · rw [if_neg h0]
    have hL : 1 ≤ L := by
      rcases Nat.eq_zero_or_pos L with hz | hz
      · subst hz; simp at h1; omega
      · exact hz
    rcases h2 with h2 | h2
    · omega
    · have : n.log2 = L - 1 := (Nat.log2_eq_iff h0).2 ⟨h2, by rw [Nat.sub_add_cancel hL]; exact h1⟩
      omega
/-- the modulus that two numbers make; what is wrong with a secret; its modulus -/
def secT (a b : Nat) : ByteArray := strOfNums (bigL (a * b) ((lenBN (a * b) + 7) / 8))
def secE (p q : ByteArray) : Int := bif isFacB p && isFacB q then (bif isModB (secT (valN p.data.toList) (valN q.data.toList)) then (if (valN p.data.toList - 1) * (valN q.data.toList - 1) % 3 = 0 then 5 else 0) else 1) else 1
def secM (p q : ByteArray) : ByteArray := if secE p q = 0 then secT (valN p.data.toList) (valN q.data.toList) else ⟨#[]⟩
theorem open_first {p q : ByteArray} {w w' : World} {e : Ending} (h : OpenPost (valN p.data.toList) (valN q.data.toList) (isFacB p && isFacB q) w e w') : ∃ v, e = .returned (.tuple #[.string (secM p q), v, .int .i64 (secE p q)]) := by
  cases h with
  | form hf he =>
    have hE : secE p q = 1 := by unfold secE; rw [hf]; rfl
    have hM : secM p q = ⟨#[]⟩ := by unfold secM; rw [hE]; rfl
    rw [hE, hM]; exact ⟨_, he⟩
  | mod L hf hL hm he =>
    rw [isLen_lenBN hL] at hm
    have hE : secE p q = 1 := by unfold secE secT; rw [hf, hm]; rfl
    have hM : secM p q = ⟨#[]⟩ := by unfold secM; rw [hE]; rfl
    rw [hE, hM]; exact ⟨_, he⟩
  | third L hf hL hm h3 he =>
    rw [isLen_lenBN hL] at hm
    have hE : secE p q = 5 := by unfold secE secT; rw [hf, hm, if_pos h3]; rfl
    have hM : secM p q = ⟨#[]⟩ := by unfold secM; rw [hE]; rfl
    rw [hE, hM]; exact ⟨_, he⟩
  | ok L g row hf hL hm h3 he hU ho hg hn hlr =>
    rw [isLen_lenBN hL] at hm he
    have hE : secE p q = 0 := by unfold secE secT; rw [hf, hm, if_neg h3]; rfl
    have hM : secM p q = secT (valN p.data.toList) (valN q.data.toList) := by unfold secM; rw [if_pos hE]
    rw [hE, hM]; exact ⟨_, he⟩
set_option maxHeartbeats 1000000 in
theorem modulus_any (p q : ByteArray) (w : World) :
    Calls Try.prog 5 #[.agg #[.string p, .string q]] w fun e w' => e = .returned (.tuple #[.string (secM p q), .int .i64 (secE p q)]) ∧ Below w.heap.size w w' := by
  have n0 : ∀ W, Calls Try.prog 13 #[.agg #[.string p, .string q]] W fun e w' => (∃ v, e = .returned (.tuple #[.string (secM p q), v, .int .i64 (secE p q)])) ∧ Below W.heap.size W w' := fun W => (open_any p q W).mono fun e w' h => ⟨open_first h.1, h.2⟩
  have N0 := hide n0
  have HB := hide (fun o : Obj => (Below.refl w.heap.size w).alloc (Nat.le_refl _) o)
  clear n0
  generalize secM p q = mm at *
  generalize secE p q = me at *
  go_enter Try.func5, Try.ntmps5
  go_wp2_with fail
  refine (unhide N0 _).mono ?_
  rintro e y ⟨⟨v, rfl⟩, k⟩
  have HK := hide ((unhide HB _).trans (k.mono (unhide HB _).size))
  clear k
  go_wp2
  go_ret2
  exact ⟨rfl, unhide HK⟩
end Go.Proofs.Ytomgjfobagjlaaa
