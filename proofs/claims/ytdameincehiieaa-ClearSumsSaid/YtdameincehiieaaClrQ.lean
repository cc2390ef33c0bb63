/- What is cleared, plain: the calls, and what they keep. -/
import Derived.Test.YtdameincehiieaaClrP
namespace Go.Proofs.Ytdameincehiieaa
set_option linter.unusedVariables false

def keyIs (shop trace : Int) (k : Kse) : Bool := decide (k.p.shop = shop ∧ k.p.trace = trace)
/-- where the case lies -/
def idxK (L : List Kse) (shop trace : Int) : Option Nat := L.findIdx? (keyIs shop trace)
theorem idxK_some {L : List Kse} {shop trace : Int} {i : Nat} (h : idxK L shop trace = some i) : ∃ k, L[i]? = some k ∧ k.p.shop = shop ∧ k.p.trace = trace ∧ i < L.length := by
  obtain ⟨hi, hk, _⟩ := List.findIdx?_eq_some_iff_getElem.1 h
  exact ⟨L[i], List.getElem?_eq_getElem hi, (of_decide_eq_true hk).1, (of_decide_eq_true hk).2, hi⟩
theorem idxK_none {L : List Kse} {shop trace : Int} (h : idxK L shop trace = none) : ∀ k ∈ L, ¬ (k.p.shop = shop ∧ k.p.trace = trace) := by
  intro k hk
  exact of_decide_eq_false (List.findIdx?_eq_none_iff.1 h k hk)
theorem sumB_snoc (L : List Kse) (k : Kse) : sumB (L ++ [k]) = sumB L + budget k.c.st := by
  unfold sumB; rw [List.map_append, List.sum_append]; simp
theorem sumB_set (L : List Kse) (i : Nat) (k k' : Kse) (h : L[i]? = some k) : sumB (L.set i k') = sumB L - budget k.c.st + budget k'.c.st := by
  induction L generalizing i with
  | nil => cases h
  | cons x l ih =>
    cases i with
    | zero =>
      obtain rfl : x = k := by simpa using h
      show budget k'.c.st + sumB l = budget x.c.st + sumB l - budget x.c.st + budget k'.c.st
      omega
    | succ i =>
      have e := ih i (by simpa using h)
      show budget x.c.st + sumB (l.set i k') = budget x.c.st + sumB l - budget k.c.st + budget k'.c.st
      rw [e]; omega
theorem keys_set (L : List Kse) (i : Nat) (k k' : Kse) (h : L[i]? = some k) (he : k'.p = k.p) : (L.set i k').map (fun k => (k.p.shop, k.p.trace)) = L.map (fun k => (k.p.shop, k.p.trace)) := by
  rw [List.map_set]
  have hi : i < L.length := (List.getElem?_eq_some_iff.1 h).1
  have e : (k'.p.shop, k'.p.trace) = (L.map (fun k => (k.p.shop, k.p.trace)))[i]'(by rw [List.length_map]; exact hi) := by
    rw [List.getElem_map, (List.getElem?_eq_some_iff.1 h).2, he]
  rw [e, List.set_getElem_self]
def postS (S : Clr) (p : Pst) : Int × Clr :=
  if pstBad p then (3, S)
  else if dayE S.last p.day ≠ 0 then (dayE S.last p.day, S)
  else if (idxK S.L p.shop p.trace).isSome then (6, { S with last := p.day })
  else if 100000 ≤ S.L.length then (8, { S with last := p.day })
  else (0, { S with last := p.day, L := S.L ++ [⟨p, [], startC p⟩], ow := owU S.ow p p.amt })
def doS (S : Clr) (shop trace : Int) (d : Ded) : Int × Clr :=
  if dayE S.last d.day ≠ 0 then (dayE S.last d.day, S)
  else match idxK S.L shop trace with
    | none => (5, { S with last := d.day })
    | some i =>
      let k := S.L.getD i default
      if (onC S.D k.c d.day).st ≠ needS d.what then (7, { S with last := d.day })
      else if d.what = 1 ∧ (d.amt < 1 ∨ k.p.amt < d.amt) then (3, { S with last := d.day })
      else (0, { S with last := d.day, L := S.L.set i ⟨k.p, k.ds ++ [d], deed1 S.D k.c d⟩, ow := owU S.ow k.p ((deed1 S.D k.c d).paid - k.c.paid) })
def lookS (S : Clr) (shop trace day : Int) : Cse × Int :=
  if dayE S.last day ≠ 0 then (⟨0, 0, 0, 0⟩, dayE S.last day)
  else match idxK S.L shop trace with
    | none => (⟨0, 0, 0, 0⟩, 5)
    | some i => (onC S.D (S.L.getD i default).c day, 0)
theorem dayE_zero {last d : Int} (h : dayE last d = 0) : 0 ≤ d ∧ d ≤ 65535 ∧ last ≤ d := by
  unfold dayE at h
  split at h
  · cases h
  · next h1 =>
    split at h
    · cases h
    · next h2 => omega
theorem okS.told {S : Clr} (h : okS S) {d : Int} (hd : dayE S.last d = 0) : okS { S with last := d } :=
  ⟨h.D, (dayE_zero hd).1, (dayE_zero hd).2.1, h.len, h.each, h.once, h.ow0, h.ow1, h.ow2⟩
theorem owU_keeps {ow : Int → Int → Int} {p : Pst} {n M N : Int} (h0 : ∀ a b, 0 ≤ ow a b) (h1 : ∀ a b, ow a b ≤ M) (h2 : ∀ a b, ow a b ≠ 0 → 1 ≤ a ∧ a ≤ 99 ∧ 1 ≤ b ∧ b ≤ 99 ∧ a ≠ b)
    (hp : pstBad p = false) (hn1 : M + n ≤ N) (hn2 : M - n ≤ N) : (∀ a b, 0 ≤ owU ow p n a b) ∧ (∀ a b, owU ow p n a b ≤ N) ∧ (∀ a b, owU ow p n a b ≠ 0 → 1 ≤ a ∧ a ≤ 99 ∧ 1 ≤ b ∧ b ≤ 99 ∧ a ≠ b) := by
  have hb := of_decide_eq_false hp
  have hMN : M ≤ N := by omega
  refine ⟨fun a b => ?_, fun a b => ?_, fun a b => ?_⟩
  · have := h0 a b
    unfold owU
    split; · exact this
    split; · omega
    split; · omega
    exact this
  · have := h1 a b
    unfold owU
    split; · omega
    split; · omega
    split; · omega
    omega
  · unfold owU
    split; · exact h2 a b
    split
    · next h3 => intro _; omega
    split
    · next h3 => intro _; omega
    exact h2 a b
theorem post_ok {S : Clr} (h : okS S) (p : Pst) : okS (postS S p).2 := by
  unfold postS
  split; · exact h
  next hp =>
  have hp' : pstBad p = false := by simpa using hp
  split; · exact h
  next hd =>
  have hd' : dayE S.last p.day = 0 := by omega
  split; · exact h.told hd'
  next hi =>
  split; · exact h.told hd'
  next hl =>
  have hi' : idxK S.L p.shop p.trace = none := by simpa using hi
  have hz := dayE_zero hd'
  have hb := of_decide_eq_false hp'
  have hk := owU_keeps (n := p.amt) (N := sumB S.L + 1000000000000) h.ow0 h.ow1 h.ow2 hp' (by omega) (by omega)
  have hs : sumB (S.L ++ [⟨p, [], startC p⟩]) = sumB S.L + 1000000000000 := by rw [sumB_snoc]; rfl
  refine ⟨h.D, hz.1, hz.2.1, ?_, ?_, ?_, hk.1, ?_, hk.2.2⟩
  · show (S.L ++ [_]).length ≤ 100000; rw [List.length_append]; simp; omega
  · intro k hk
    rcases List.mem_append.1 hk with hk | hk
    · exact h.each k hk
    · obtain rfl := List.mem_singleton.1 hk
      exact ⟨okC_start p hp' ⟨hz.1, hz.2.1⟩, hp', rfl⟩
  · show ((S.L ++ [_]).map _).Nodup
    rw [List.map_append, List.nodup_append]
    refine ⟨h.once, by simp, ?_⟩
    intro x hx y hy
    obtain ⟨k, hk, rfl⟩ := List.mem_map.1 hx
    have hn := idxK_none hi' k hk
    simp at hy
    subst hy
    intro he
    injection he with e1 e2
    exact hn ⟨e1, e2⟩
  · intro a b
    show owU S.ow p p.amt a b ≤ sumB (S.L ++ [_])
    rw [hs]
    exact hk.2.1 a b
theorem do_ok {S : Clr} (h : okS S) (shop trace : Int) (d : Ded) (hw : 1 ≤ d.what ∧ d.what ≤ 5) : okS (doS S shop trace d).2 := by
  unfold doS
  split; · exact h
  next hd =>
  have hd' : dayE S.last d.day = 0 := by omega
  cases hi : idxK S.L shop trace with
  | none => exact h.told hd'
  | some i =>
    obtain ⟨k, hk, e1, e2, hlt⟩ := idxK_some hi
    have hg : S.L.getD i default = k := by rw [List.getD_eq_getElem?_getD, hk]; rfl
    dsimp only
    rw [hg]
    split; · exact h.told hd'
    next hst =>
    split; · exact h.told hd'
    next ham =>
    have hz := dayE_zero hd'
    have hmem : k ∈ S.L := List.mem_of_getElem? hk
    obtain ⟨hok, hpb, hfr⟩ := h.each k hmem
    have hst' : (onC S.D k.c d.day).st = needS d.what := by simpa using hst
    have hns : needS d.what ≠ 6 := by unfold needS; split <;> omega
    obtain ⟨_, hcs⟩ := on_same hst' hns
    obtain ⟨g1, g2, g3, g4⟩ := okC_deed h.D hok hw hcs ⟨hz.1, hz.2.1⟩ (fun e => by omega)
    have hs := sumB_set S.L i k ⟨k.p, k.ds ++ [d], deed1 S.D k.c d⟩ hk
    have hkk := owU_keeps (n := (deed1 S.D k.c d).paid - k.c.paid) (N := sumB S.L - budget k.c.st + budget (deed1 S.D k.c d).st) h.ow0 h.ow1 h.ow2 hpb (by omega) (by omega)
    refine ⟨h.D, hz.1, hz.2.1, ?_, ?_, ?_, hkk.1, ?_, hkk.2.2⟩
    · show (S.L.set i _).length ≤ 100000; rw [List.length_set]; exact h.len
    · intro x hx
      rcases List.mem_or_eq_of_mem_set hx with hx | rfl
      · exact h.each x hx
      · exact ⟨g1, hpb, by rw [fromD_snoc, ← hfr]⟩
    · show ((S.L.set i _).map _).Nodup
      rw [keys_set S.L i k ⟨k.p, k.ds ++ [d], deed1 S.D k.c d⟩ hk rfl]
      exact h.once
    · intro a b
      show owU S.ow k.p _ a b ≤ sumB (S.L.set i _)
      rw [hs]
      exact hkk.2.1 a b
theorem cut_ok {S : Clr} (h : okS S) : okS { S with ow := fun _ _ => 0 } :=
  ⟨h.D, h.last0, h.last1, h.len, h.each, h.once, fun _ _ => Int.le_refl _, fun _ _ => (sumB_in S.L).1, fun _ _ h => absurd rfl h⟩
end Go.Proofs.Ytdameincehiieaa
