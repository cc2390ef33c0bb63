/- wire's Pack of any message, and Unpack. -/
import Derived.Test.YtkmmgeoialdmlaaDoorWireK
namespace Go.Proofs.YtkmmgeoialdmlaaDoor
open Go.RowKit
set_option linter.unusedVariables false

theorem pack_bad (kind : Int) (l : List Prt) (pa : Option Addr) (c : Nat) (w : World) (hk : kind < 0 ∨ 99 < kind) :
    Calls Tryd.prog 5 #[.agg #[.int .i64 kind, .slice pa l.length c]] w fun e w' => e = .returned (.tuple #[.string (packS kind l), .int .i64 (packE kind l)]) ∧ Below w.heap.size w w' := by
  have hE : packE kind l = 4 := by rw [packE, if_pos hk]
  have hS : packS kind l = ⟨#[]⟩ := by rw [packS, hE]; rfl
  have HE := hide hE; have HS := hide hS
  have HB := hide ((Below.refl w.heap.size w).alloc (Nat.le_refl _) (.cells #[.int .i64 kind, .slice pa l.length c] 24))
  clear hE hS
  rcases hk with h | h
  · go_enter Tryd.func5, Tryd.ntmps5
    go_wp2
    go_ret2
    exact ⟨by rw [unhide HE, unhide HS]; rfl, unhide HB⟩
  · have h0 : ¬ kind < 0 := by omega
    go_enter Tryd.func5, Tryd.ntmps5
    go_wp2
    go_ret2
    exact ⟨by rw [unhide HE, unhide HS]; rfl, unhide HB⟩
theorem pack_any (kind : Int) (l : List Prt) (pa : Option Addr) (c : Nat) (w : World) (hr : PRow w pa l) (hl : (l.length : Int) ≤ 9223372036854775807)
    (hp : ∀ p ∈ l, (-9223372036854775808 ≤ p.1 ∧ p.1 ≤ 9223372036854775807) ∧ p.2.size ≤ maxLen) (he : Env w) (h4 : 4 ≤ w.heap.size) :
    Calls Tryd.prog 5 #[.agg #[.int .i64 kind, .slice pa l.length c]] w fun e w' => e = .returned (.tuple #[.string (packS kind l), .int .i64 (packE kind l)]) ∧ Below w.heap.size w w' := by
  by_cases hk : kind < 0 ∨ 99 < kind
  · exact pack_bad kind l pa c w hk
  · exact pack_good kind l pa c w hr hl (by omega) (by omega) hp he h4
theorem takeL_len (n : Int) (l : List UInt8) : (takeL n l).1.length ≤ l.length ∧ (takeL n l).2.length ≤ l.length := by
  unfold takeL
  rw [List.length_take, List.length_drop]
  omega
theorem partL_len (n : Nat) (l : List UInt8) : (partL n l).1.length ≤ l.length ∧ (partL n l).2.length ≤ l.length := by
  unfold partL
  split
  · have h1 := takeL_len (numL (fahead n) l).1 (numL (fahead n) l).2
    have h2 : (numL (fahead n) l).2.length ≤ l.length := (takeL_len _ _).2
    omega
  · exact takeL_len _ _
theorem readP_ok : ∀ (f n b : Nat) (l : List UInt8), n + f ≤ 17 → ∀ p ∈ readP f n b l, (-9223372036854775808 ≤ p.1 ∧ p.1 ≤ 9223372036854775807) ∧ p.2.size ≤ l.length
  | 0, _, _, _, _, p, hp => by cases hp
  | f + 1, n, b, l, h, p, hp => by
    simp only [readP] at hp
    have hl := partL_len n l
    split at hp
    · rcases List.mem_cons.1 hp with rfl | hp
      · refine ⟨⟨by first | (simp; done) | (simp; omega), by first | (simp; done) | (simp; omega)⟩, ?_⟩
        show (partL n l).1.toArray.size ≤ _
        rw [List.size_toArray]; exact hl.1
      · have := readP_ok f (n + 1) b _ (by omega) p hp
        exact ⟨this.1, Nat.le_trans this.2 hl.2⟩
    · exact readP_ok f (n + 1) b l (by omega) p hp
end Go.Proofs.YtkmmgeoialdmlaaDoor
