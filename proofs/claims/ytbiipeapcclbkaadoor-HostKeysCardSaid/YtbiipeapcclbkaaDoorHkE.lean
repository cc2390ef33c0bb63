/- host's New: plain, and its maps. -/
import Derived.Test.YtbiipeapcclbkaaDoorHkD
import Derived.Test.YtbiipeapcclbkaaDoorHkB
import Derived.Test.YtbiipeapcclbkaaDoorMapX
namespace Go.Proofs.YtbiipeapcclbkaaDoor
open Go.RowKit Go.WideMaps Go.Maps
set_option linter.unusedVariables false
set_option linter.unusedSimpArgs false
set_option maxRecDepth 100000

def kvM (x : XMst) : KV := (x.version, x.key)
def kvL (x : XLnk) : KV := (x.shop, x.key)
/-- the keys that were laid, and what lies at them -/
noncomputable def kF (l : List KV) : List Int := l.foldl (fun ks p => addX ks p.1) []
noncomputable def gF (l : List KV) : Int → Option KV := l.foldl (fun g p => updX g p.1 (some p)) (fun _ => none)
theorem kF_snoc (l : List KV) (p : KV) : kF (l ++ [p]) = addX (kF l) p.1 := by unfold kF; rw [List.foldl_append]; rfl
theorem gF_snoc (l : List KV) (p : KV) : gF (l ++ [p]) = updX (gF l) p.1 (some p) := by unfold gF; rw [List.foldl_append]; rfl
theorem take_snocK {α : Type} {l : List α} {q : Nat} {p : α} (h : l[q]? = some p) : l.take (q + 1) = l.take q ++ [p] := by
  obtain ⟨hk, he⟩ := List.getElem?_eq_some_iff.1 h
  rw [List.take_succ_eq_append_getElem hk, he]
theorem kF_facts (l : List KV) (q : Nat) (hq : q ≤ l.length) : (kF (l.take q)).length ≤ q ∧ decide ((kF (l.take q)).length < q) = dupV l q ∧ (∀ v, v ∈ kF (l.take q) ↔ hasV (l.take q) v = true) ∧ ∀ v, (gF (l.take q) v).isSome = hasV (l.take q) v := by
  induction q with
  | zero => exact ⟨Nat.le_refl _, rfl, fun v => by simp [kF, hasV], fun v => by simp [gF, hasV]⟩
  | succ q ih =>
    obtain ⟨i1, i2, i3, i4⟩ := ih (by omega)
    obtain ⟨p, hp⟩ : ∃ p, l[q]? = some p := ⟨_, List.getElem?_eq_getElem (by omega)⟩
    have hh : ∀ v, hasV (l.take (q + 1)) v = (hasV (l.take q) v || decide (p.1 = v)) := fun v => any_take _ l q p hp
    have hd : dupV l (q + 1) = (dupV l q || hasV (l.take q) p.1) := by
      show (dupV l q || match l[q]? with | some p => hasV (l.take q) p.1 | none => false) = _
      rw [hp]
    refine ⟨?_, ?_, fun v => ?_, fun v => ?_⟩
    · rw [take_snocK hp, kF_snoc]
      unfold addX
      split
      · omega
      · rw [List.length_append]; simpa using i1
    · rw [take_snocK hp, kF_snoc, hd, ← i2]
      unfold addX
      by_cases hm : p.1 ∈ kF (l.take q)
      · rw [if_pos hm, (i3 p.1).1 hm, Bool.or_true]
        exact decide_eq_true (by omega)
      · rw [if_neg hm, List.length_append]
        have : hasV (l.take q) p.1 = false := by
          cases hx : hasV (l.take q) p.1 with
          | false => rfl
          | true => exact absurd ((i3 p.1).2 hx) hm
        rw [this, Bool.or_false]
        exact decide_eq_decide.2 (by simp)
    · rw [hh, take_snocK hp, kF_snoc, addX_mem, i3 v, Bool.or_eq_true, decide_eq_true_iff]
      constructor
      · rintro (h | h)
        · exact .inl h
        · exact .inr h.symm
      · rintro (h | h)
        · exact .inl h
        · exact .inr h.symm
    · rw [hh, take_snocK hp, gF_snoc]
      by_cases e : v = p.1
      · rw [e, updX_at]; simp
      · rw [updX_off _ _ _ e, i4 v]
        have : decide (p.1 = v) = false := decide_eq_false (fun h => e h.symm)
        rw [this, Bool.or_false]
/-- how a master, a pointer lie in a map -/
noncomputable def rdM : RdrX KV := RdrX.of (fun p => .agg #[.int .i64 p.1, .string p.2]) (fun p => .agg [.lit (.int .i64 p.1), .lit (.string p.2.data.toList)])
  (fun x y h => by obtain ⟨a, b⟩ := x; obtain ⟨c, d⟩ := y; simpa using h) (fun x y h => by
    obtain ⟨a, b⟩ := x; obtain ⟨c, d⟩ := y
    have h2 : a = c ∧ b.data.toList = d.data.toList := by simpa using h
    rw [h2.1]
    congr 1
    exact ByteArray.ext (Array.toList_inj.1 h2.2))
def ptrV : Option Nat → Value
  | none => .pointer none
  | some n => .pointer (some ⟨n, 0, none⟩)
noncomputable def rdA : RdrX (Option Nat) := RdrX.of ptrV (fun o => match o with | none => .lit (.bool false) | some n => .lit (.int .i64 n))
  (fun x y h => by cases x <;> cases y <;> simp [ptrV] at h ⊢; exact h) (fun x y h => by cases x <;> cases y <;> simp at h ⊢; omega)
theorem rdM_val (p : KV) : rdM.val p = .agg #[.int .i64 p.1, .string p.2] := rfl
theorem rdA_val (p : Option Nat) : rdA.val p = ptrV p := rfl
/-- what New tells -/
theorem planE_as (ms : List XMst) (ls : List XLnk) : planE (ms.map kvM) (ls.map kvL) = if chkE ms ls ≠ 0 then chkE ms ls else if (kF (ms.map kvM)).length < ms.length ∨ (kF (ls.map kvL)).length < ls.length then 6 else if 50 < ms.length ∨ 50 < ls.length then 2 else 0 := by
  have e1 : keyBad (ms.map kvM) = ms.any noKeyM := by unfold keyBad; rw [List.any_map]; rfl
  have e2 : keyBad (ls.map kvL) = ls.any noKeyL := by unfold keyBad; rw [List.any_map]; rfl
  have e3 : farV 255 (ms.map kvM) = ms.any noVer := by
    unfold farV; rw [List.any_map]
    congr 1; funext x
    show (decide (x.version < 0) || decide (255 < x.version)) = !inB x.version 0 255
    unfold inB
    by_cases h1 : x.version < 0
    · simp [h1]
      try omega
    · by_cases h2 : 255 < x.version
      · simp [h2]
      · simp [h1, h2]; omega
  have e4 : farV 4294967295 (ls.map kvL) = ls.any noShop := by
    unfold farV; rw [List.any_map]
    congr 1; funext x
    show (decide (x.shop < 0) || decide (4294967295 < x.shop)) = !inB x.shop 0 4294967295
    unfold inB
    by_cases h1 : x.shop < 0
    · simp [h1]
      try omega
    · by_cases h2 : 4294967295 < x.shop
      · simp [h2]
      · simp [h1, h2]; omega
  have f1 := (kF_facts (ms.map kvM) (ms.map kvM).length (Nat.le_refl _)).2.1
  have f2 := (kF_facts (ls.map kvL) (ls.map kvL).length (Nat.le_refl _)).2.1
  rw [List.take_length] at f1 f2
  unfold planE chkE
  rw [e1, e2, e3, e4, ← f1, ← f2, List.length_map, List.length_map]
  by_cases h0 : ms = []
  · rw [if_pos (by simp [h0]), if_pos h0]; simp
  · rw [if_neg (by simpa using h0), if_neg h0]
    cases ms.any noKeyM <;> cases ls.any noKeyL <;> cases ms.any noVer <;> cases ls.any noShop <;> simp
end Go.Proofs.YtbiipeapcclbkaaDoor
