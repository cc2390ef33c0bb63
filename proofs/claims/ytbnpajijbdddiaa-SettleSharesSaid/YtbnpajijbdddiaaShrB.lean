/- How two are compared in Share of the program. -/
import Derived.Test.YtbnpajijbdddiaaShrA
import Derived.Test.YtbnpajijbdddiaaSrtX
import Derived.Deep.RegionWith
namespace Go.Proofs.Ytbnpajijbdddiaa
open Go.RowKit
set_option linter.unusedVariables false

theorem compare_any (a b : Int) (w : World) : Calls Try.prog 21 #[.int .i64 a, .int .i64 b] w fun e w' => e = .returned (.int .i64 (cmpI a b)) ∧ w' = w := by
  by_cases h1 : a < b
  · have HM : Hid (cmpI a b = -1) := hide (by unfold cmpI; rw [if_pos h1])
    go_enter Try.func21, Try.ntmps21
    go_wp2
    go_ret
    exact ⟨ret_int (unhide HM).symm, rfl⟩
  by_cases h2 : b < a
  · have HM : Hid (cmpI a b = 1) := hide (by unfold cmpI; rw [if_neg h1, if_pos h2])
    go_enter Try.func21, Try.ntmps21
    go_wp2
    go_ret
    exact ⟨ret_int (unhide HM).symm, rfl⟩
  · have HM : Hid (cmpI a b = 0) := hide (by unfold cmpI; rw [if_neg h1, if_neg h2])
    go_enter Try.func21, Try.ntmps21
    go_wp2
    go_ret
    exact ⟨ret_int (unhide HM).symm, rfl⟩
/-- what the two literals of Share read -/
structure ShEnv (w : World) (ca cq cl b off : Nat) (A S : Int) (ps : List Int) (cap : Nat) : Prop where
  a : w.cell? ⟨ca, 0, none⟩ = some (.int .i64 A)
  q : w.cell? ⟨cq, 0, none⟩ = some (.slice (some ⟨b, off, none⟩) ps.length cap)
  l : w.cell? ⟨cl, 0, none⟩ = some (.int .i64 S)
  row : ∀ i x, ps[i]? = some x → w.cell? ⟨b, off + i, none⟩ = some (.int .i64 x)
theorem ShEnv.drewN {w : World} {ca cq cl b off : Nat} {A S : Int} {ps : List Int} {cap : Nat} (h : ShEnv w ca cq cl b off A S ps cap) (q : Nat) : ShEnv (w.drewN q) ca cq cl b off A S ps cap := ⟨h.a, h.q, h.l, h.row⟩
theorem ShEnv.kept {w w' : World} {ca cq cl b off : Nat} {A S : Int} {ps : List Int} {cap : Nat} (h : ShEnv w ca cq cl b off A S ps cap) (hk : ∀ p : Addr, p.block = ca ∨ p.block = cq ∨ p.block = cl ∨ p.block = b → w'.cell? p = w.cell? p) : ShEnv w' ca cq cl b off A S ps cap :=
  ⟨(hk ⟨ca, 0, none⟩ (.inl rfl)).trans h.a, (hk ⟨cq, 0, none⟩ (.inr (.inl rfl))).trans h.q, (hk ⟨cl, 0, none⟩ (.inr (.inr (.inl rfl)))).trans h.l, fun i x hx => (hk ⟨b, off + i, none⟩ (.inr (.inr (.inr rfl)))).trans (h.row i x hx)⟩
set_option maxHeartbeats 2000000 in
theorem rest_any (w : World) (ca cq cl b off : Nat) (A S : Int) (ps : List Int) (cap : Nat) (h : ShEnv w ca cq cl b off A S ps cap) (hA : 0 ≤ A ∧ A ≤ 999999999999) (hS : 0 < S ∧ S ≤ 1000000000) (hw : ∀ x ∈ ps, wrongI x = false) (i : Nat) (hi : i < ps.length) :
    Calls Try.prog 18 #[.int .i64 i, .pointer (some ⟨ca, 0, none⟩), .pointer (some ⟨cq, 0, none⟩), .pointer (some ⟨cl, 0, none⟩)] w fun e w' => e = .returned (.int .i64 (reS A S ps i)) ∧ ∃ q, w' = w.drewN q := by
  obtain ⟨x, hx⟩ : ∃ x, ps[i]? = some x := ⟨_, List.getElem?_eq_getElem hi⟩
  have c0 := h.a; have c1 := h.q; have c2 := h.l; have c3 := h.row i x hx
  have hp := pt_in hw i
  have hre : reS A S ps i = A * pt ps i % S := rfl
  rw [pt_at hx] at hp hre
  have h1 : 0 ≤ A * x := Int.mul_nonneg hA.1 hp.1
  have h2 : A * x ≤ 999999999999 * 1000000 := Int.mul_le_mul hA.2 hp.2 hp.1 (by omega)
  have hwr : IntKind.i64.wrap (A * x) = A * x := by rw [IntKind.wrap_i64]; omega
  have HRE := hide hre
  generalize hm : A * x = m at *
  have HM := hide hm
  obtain ⟨S1, S2⟩ := hS
  have hSz : (S == 0) = false := by rw [beq_eq_false_iff_ne]; omega
  have hii : (i : Int) < (ps.length : Int) := by omega
  clear h hx hre hm hw
  go_enter Try.func18, Try.ntmps18
  go_wp2_with fail
  go_quiet (fail)
  go_wp2
  go_ret
  refine ⟨ret_int ?_, _, rfl⟩
  rw [unhide HRE, unhide HM, show wrap64 m = m by unfold wrap64; omega, Int.tmod_eq_emod_of_nonneg h1]
set_option maxHeartbeats 2000000 in
theorem order_call (w : World) (cp ca cq cl b off : Nat) (A S : Int) (ps : List Int) (cap : Nat) (h : ShEnv w ca cq cl b off A S ps cap) (hcp : w.cell? ⟨cp, 0, none⟩ = some (.func (.func 18) #[] #[.pointer (some ⟨ca, 0, none⟩), .pointer (some ⟨cq, 0, none⟩), .pointer (some ⟨cl, 0, none⟩)]))
    (hA : 0 ≤ A ∧ A ≤ 999999999999) (hS : 0 < S ∧ S ≤ 1000000000) (hw : ∀ x ∈ ps, wrongI x = false) (x y : Nat) (hx : x < ps.length) (hy : y < ps.length) :
    Calls Try.prog 20 #[.int .i64 x, .int .i64 y, .pointer (some ⟨cp, 0, none⟩)] w fun e w' => e = .returned (.int .i64 (cmpI (reS A S ps y) (reS A S ps x))) ∧ ∃ q, w' = w.drewN q := by
  have N1 := hide (fun q => rest_any (w.drewN q) ca cq cl b off A S ps cap (h.drewN q) hA hS hw x hx)
  have N2 := hide (fun q => rest_any (w.drewN q) ca cq cl b off A S ps cap (h.drewN q) hA hS hw y hy)
  have N3 := hide (fun a b w => compare_any a b w)
  generalize reS A S ps x = rx at *
  generalize reS A S ps y = ry at *
  clear h hA hS hw hx hy
  go_enter Try.func20, Try.ntmps20
  go_wp2_with fail
  go_quiet ((first
    | (go_at_call 21; exact Calls.quiet_of_same (unhide N3 _ _ _))
    | (go_at_call_of 18 (Value.int .i64 (y : Int)); exact Calls.quiet_of (unhide N2 _))
    | (go_at_call_of 18 (Value.int .i64 (x : Int)); exact Calls.quiet_of (unhide N1 _))))
  go_wp2
  go_ret
  exact ⟨rfl, _, rfl⟩
/-- the world in which Share's comparing is as it should be -/
def ShCW (cp ca cq cl b off : Nat) (A S : Int) (ps : List Int) (cap : Nat) (w : World) : Prop := ShEnv w ca cq cl b off A S ps cap ∧ w.cell? ⟨cp, 0, none⟩ = some (.func (.func 18) #[] #[.pointer (some ⟨ca, 0, none⟩), .pointer (some ⟨cq, 0, none⟩), .pointer (some ⟨cl, 0, none⟩)])
theorem shCmp (g cp ca cq cl b off : Nat) (A S : Int) (ps : List Int) (cap : Nat) (hA : 0 ≤ A ∧ A ≤ 999999999999) (hS : 0 < S ∧ S ≤ 1000000000) (hw : ∀ x ∈ ps, wrongI x = false) (h1 : ca ≠ g) (h2 : cq ≠ g) (h3 : cl ≠ g) (h4 : b ≠ g) (h5 : cp ≠ g) :
    CmpOK (reS A S ps) ps.length g cp (ShCW cp ca cq cl b off A S ps cap) := by
  refine ⟨fun w x y hcw hx hy => order_call w cp ca cq cl b off A S ps cap hcw.1 hcw.2 hA hS hw x y hx hy, fun w w' hcw hb => ⟨hcw.1.kept (fun p hp => hb.cell ?_), (hb.cell (a := ⟨cp, 0, none⟩) h5).trans hcw.2⟩⟩
  rcases hp with e | e | e | e <;> rw [e] <;> assumption
end Go.Proofs.Ytbnpajijbdddiaa
