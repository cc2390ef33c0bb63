/- Root of the program. -/
import Derived.Test.YtjipcmmaemokhaaDoorM45
namespace Go.Proofs.YtjipcmmaemokhaaDoor
open Go.RowKit
set_option linter.unusedVariables false
set_option linter.unusedSimpArgs false
set_option maxRecDepth 100000

/-- what Root answers -/
def rootE (p q x : ByteArray) : Int := if secE p q = 0 then powE (secM p q) x else secE p q
def rootT (p q x : ByteArray) : ByteArray := if secE p q = 0 then powT (secM p q) x (secD p q) else ⟨#[]⟩
theorem open_all {p q : ByteArray} {w w' : World} {e : Ending} (h : OpenPost (valN p.data.toList) (valN q.data.toList) (isFacB p && isFacB q) w e w') :
    (secE p q ≠ 0 ∧ ∃ v, e = .returned (.tuple #[.string ⟨#[]⟩, v, .int .i64 (secE p q)])) ∨ (secE p q = 0 ∧ ∃ g row, e = .returned (.tuple #[.string (secM p q), .slice (some ⟨g, 0, none⟩) row.length row.length, .int .i64 0]) ∧ URow w' g row ∧ okW row ∧ natW row = secD p q ∧ row.length ≤ 100) := by
  cases h with
  | form hf he =>
    have hE : secE p q = 1 := by unfold secE; rw [hf]; rfl
    exact .inl ⟨by rw [hE]; decide, _, by rw [hE]; exact he⟩
  | mod L hf hL hm he =>
    rw [isLen_lenBN hL] at hm
    have hE : secE p q = 1 := by unfold secE secT; rw [hf, hm]; rfl
    exact .inl ⟨by rw [hE]; decide, _, by rw [hE]; exact he⟩
  | third L hf hL hm h3 he =>
    rw [isLen_lenBN hL] at hm
    have hE : secE p q = 5 := by unfold secE secT; rw [hf, hm, if_pos h3]; rfl
    exact .inl ⟨by rw [hE]; decide, _, by rw [hE]; exact he⟩
  | ok L g row hf hL hm h3 he hU ho hg hn hlr =>
    rw [isLen_lenBN hL] at hm he
    have hE : secE p q = 0 := by unfold secE secT; rw [hf, hm, if_neg h3]; rfl
    have hM : secM p q = secT (valN p.data.toList) (valN q.data.toList) := by unfold secM; rw [if_pos hE]
    refine .inr ⟨hE, g, row, by rw [hM]; exact he, hU, ho, ?_, hlr⟩
    rw [hn]
    unfold secD
    rw [Nat.add_comm, Nat.mul_comm (3 - _)]
set_option maxHeartbeats 1000000 in
theorem root_any (p q x : ByteArray) (w : World) :
    Calls Tryd.prog 6 #[.agg #[.string p, .string q], .string x] w fun e w' => e = .returned (.tuple #[.string (rootT p q x), .int .i64 (rootE p q x)]) ∧ Below w.heap.size w w' := by
  have n0 : ∀ W, Calls Tryd.prog 10 #[.agg #[.string p, .string q]] W fun e w' => ((secE p q ≠ 0 ∧ ∃ v, e = .returned (.tuple #[.string ⟨#[]⟩, v, .int .i64 (secE p q)])) ∨ (secE p q = 0 ∧ ∃ g row, e = .returned (.tuple #[.string (secM p q), .slice (some ⟨g, 0, none⟩) row.length row.length, .int .i64 0]) ∧ URow w' g row ∧ okW row ∧ natW row = secD p q ∧ row.length ≤ 100)) ∧ Below W.heap.size W w' := fun W => (open_any p q W).mono fun e w' h => ⟨open_all h.1, h.2⟩
  have N0 := hide n0
  have HB := hide (fun o : Obj => (Below.refl w.heap.size w).alloc (Nat.le_refl _) o)
  have HT : Hid (secE p q ≠ 0 → rootT p q x = ⟨#[]⟩ ∧ rootE p q x = secE p q) := hide (fun h => by unfold rootT rootE; rw [if_neg h, if_neg h]; exact ⟨rfl, rfl⟩)
  have HT0 : Hid (secE p q = 0 → rootT p q x = powT (secM p q) x (secD p q) ∧ rootE p q x = powE (secM p q) x) := hide (fun h => by unfold rootT rootE; rw [if_pos h, if_pos h]; exact ⟨rfl, rfl⟩)
  generalize rootT p q x = rt at *
  generalize rootE p q x = re at *
  generalize secE p q = se at *
  generalize secM p q = sm at *
  generalize secD p q = sd at *
  clear n0
  go_enter Tryd.func6, Tryd.ntmps6
  go_wp2_with fail
  refine (unhide N0 _).mono ?_
  rintro e y ⟨hc, k⟩
  have HK := hide ((unhide HB _).trans (k.mono (unhide HB _).size))
  clear k
  rcases hc with ⟨hne, v, rfl⟩ | ⟨h0, g, row, rfl, hU, ho, hn, hl⟩
  · have HH := hide (unhide HT hne)
    have t1 : (se != 0) = true := by simpa using hne
    clear hne HT HT0
    go_wp2
    exact bodyPost_ret (v := .tuple #[.string ⟨#[]⟩, .int .i64 se]) (by simp [results, Tryd.results6, go_sem]) rfl ⟨by rw [(unhide HH).1, (unhide HH).2], unhide HK⟩
  · obtain ⟨h1, h2⟩ := unhide HT0 h0
    have hna : NumAt y g 0 row := by have := hU.numAt 0; rw [List.drop_zero] at this; exact this
    have N1 := hide (cpower_any sm x row g 0 row.length y hna ho (by omega))
    rw [hn, ← h1, ← h2] at N1
    clear h0 h1 h2 hU ho hn hl hna HT HT0 N0
    go_wp2_with fail
    refine (unhide N1).mono ?_
    rintro e y2 ⟨rfl, k2⟩
    have HF := hide (ext_callB (unhide HK) k2)
    clear k2
    go_wp2
    go_ret2
    exact ⟨rfl, unhide HF⟩
end Go.Proofs.YtjipcmmaemokhaaDoor
