/- What is cleared, summed up, plain. -/
import Derived.Test.YtdameincehiieaaClrQ
import Derived.Test.YtdameincehiieaaMapG
namespace Go.Proofs.Ytdameincehiieaa
set_option linter.unusedVariables false

def wantK (k : Kse) (a b : Int) : Int := if k.p.frm = a ∧ k.p.to = b ∧ k.p.frm ≠ k.p.to then k.c.paid else 0
def wantL (L : List Kse) (a b : Int) : Int := (L.map (fun k => wantK k a b)).sum
theorem wantL_snoc (L : List Kse) (k : Kse) (a b : Int) : wantL (L ++ [k]) a b = wantL L a b + wantK k a b := by
  unfold wantL; rw [List.map_append, List.sum_append]; simp
theorem wantL_set (L : List Kse) (i : Nat) (k k' : Kse) (h : L[i]? = some k) (a b : Int) : wantL (L.set i k') a b = wantL L a b - wantK k a b + wantK k' a b := by
  induction L generalizing i with
  | nil => cases h
  | cons x l ih =>
    cases i with
    | zero =>
      obtain rfl : x = k := by simpa using h
      show wantK k' a b + wantL l a b = wantK x a b + wantL l a b - wantK x a b + wantK k' a b
      omega
    | succ i =>
      have e := ih i (by simpa using h)
      show wantK x a b + wantL (l.set i k') a b = wantK x a b + wantL l a b - wantK k a b + wantK k' a b
      rw [e]; omega
def netP (p : Pst) (n a b : Int) : Int := if p.frm = a ∧ p.to = b ∧ p.frm ≠ p.to then n else 0
theorem owU_net (ow : Int → Int → Int) (p : Pst) (n a b : Int) : owU ow p n a b - owU ow p n b a = ow a b - ow b a + (netP p n a b - netP p n b a) := by
  unfold owU netP
  by_cases h1 : p.frm = p.to
  · simp [h1]
  · by_cases h2 : p.frm = a ∧ p.to = b
    · obtain ⟨rfl, rfl⟩ := h2
      have h3 : ¬ p.to = p.frm := fun e => h1 e.symm
      simp [h1, h3]
      split <;> split <;> omega
    · by_cases h3 : p.frm = b ∧ p.to = a
      · obtain ⟨rfl, rfl⟩ := h3
        have h3 : ¬ p.to = p.frm := fun e => h1 e.symm
        simp [h1, h3]
        split <;> split <;> omega
      · have e1 : ¬ (0 < n ∧ a = p.frm ∧ b = p.to) := fun h => h2 ⟨h.2.1.symm, h.2.2.symm⟩
        have e2 : ¬ (n < 0 ∧ a = p.to ∧ b = p.frm) := fun h => h3 ⟨h.2.2.symm, h.2.1.symm⟩
        have e3 : ¬ (0 < n ∧ b = p.frm ∧ a = p.to) := fun h => h3 ⟨h.2.1.symm, h.2.2.symm⟩
        have e4 : ¬ (n < 0 ∧ b = p.to ∧ a = p.frm) := fun h => h2 ⟨h.2.2.symm, h.2.1.symm⟩
        have e5 : ¬ (p.frm = a ∧ p.to = b ∧ p.frm ≠ p.to) := fun h => h2 ⟨h.1, h.2.1⟩
        have e6 : ¬ (p.frm = b ∧ p.to = a ∧ p.frm ≠ p.to) := fun h => h3 ⟨h.1, h.2.1⟩
        rw [if_neg h1, if_neg e1, if_neg e2, if_neg h1, if_neg e3, if_neg e4, if_neg e5, if_neg e6]
        omega
theorem owU_add (O ow : Int → Int → Int) (p : Pst) (n : Int) : owU (fun a b => O a b + ow a b) p n = fun a b => O a b + owU ow p n a b := by
  funext a b
  unfold owU
  dsimp only
  split
  · rfl
  · split
    · omega
    · split
      · omega
      · rfl
theorem wantK_net (k k' : Kse) (h : k'.p = k.p) (a b : Int) : wantK k' a b - wantK k a b = netP k.p (k'.c.paid - k.c.paid) a b := by
  unfold wantK netP
  rw [h]
  split <;> omega
def jdg (L : List Kse) (a b : Int) : Bool := L.any (fun k => keyIs a b k && decide (k.c.st = 6))
/-- a case that is done stays as it is -/
theorem on_later {D : Dys} {c : Cse} {t t' : Int} (h : (onC D c t).st = 6) (h0 : 0 ≤ c.since) (h1 : t ≤ t') (h2 : t' ≤ 65535) : onC D c t' = onC D c t := by
  unfold onC at *
  by_cases e : c.since + waitC D c.st < t
  · rw [if_pos e, if_pos (by omega)]
  · rw [if_neg e] at h ⊢
    rw [if_neg]
    have : waitC D c.st = 65535 := by unfold waitC; rw [h]; simp
    rw [this]; omega
/-- what the law holds of a Clear -/
structure CsI (S : Clr) (O : Int → Int → Int) (J : Int → Int → Option Int) (G : Int → Int → Option Pst) (N : Int → Int → Option Cse) : Prop where
  ok : okS S
  tot : okS { S with ow := fun a b => O a b + S.ow a b }
  o0 : ∀ a b, 0 ≤ O a b
  net : ∀ a b, (O a b + S.ow a b) - (O b a + S.ow b a) = wantL S.L a b - wantL S.L b a
  jd : ∀ a b, (J a b).getD 0 = bif jdg S.L a b then 1 else 0
  gp : ∀ a b, G a b = (S.L.find? (keyIs a b)).map (fun k : Kse => k.p)
  dn : ∀ a b d, N a b = some d → d.st = 6 ∧ ∃ k ∈ S.L, keyIs a b k = true ∧ onC S.D k.c S.last = d
variable {S : Clr} {O : Int → Int → Int} {J : Int → Int → Option Int} {G : Int → Int → Option Pst} {N : Int → Int → Option Cse}
/-- a day is told -/
theorem CsI.told (h : CsI S O J G N) {d : Int} (hd : dayE S.last d = 0) : CsI { S with last := d } O J G N := by
  have hz := dayE_zero hd
  refine ⟨h.ok.told hd, okS.told h.tot hd, h.o0, h.net, h.jd, h.gp, fun a b x hx => ?_⟩
  obtain ⟨h1, k, hk, h2, h3⟩ := h.dn a b x hx
  refine ⟨h1, k, hk, h2, ?_⟩
  have h4 : (onC S.D k.c S.last).st = 6 := by rw [h3]; exact h1
  show onC S.D k.c d = x
  rw [on_later h4 (h.ok.each k hk).1.2.1 hz.2.2 hz.2.1, h3]
theorem CsI.start (D : Dys) (h : okS ⟨D, 0, [], fun _ _ => 0⟩) : CsI ⟨D, 0, [], fun _ _ => 0⟩ (fun _ _ => 0) (fun _ _ => none) (fun _ _ => none) (fun _ _ => none) :=
  ⟨h, by simpa using h, fun _ _ => Int.le_refl _, fun _ _ => rfl, fun _ _ => rfl, fun _ _ => rfl, fun _ _ _ h => by cases h⟩
theorem CsI.cut (h : CsI S O J G N) : CsI { S with ow := fun _ _ => 0 } (fun a b => O a b + S.ow a b) J G N := by
  refine ⟨cut_ok h.ok, by simpa using h.tot, fun a b => ?_, fun a b => by simpa using h.net a b, h.jd, h.gp, h.dn⟩
  have := h.o0 a b; have := h.ok.ow0 a b; omega
/-- the law's posted behind a Post -/
def postG (G : Int → Int → Option Pst) (e : Int) (p : Pst) : Int → Int → Option Pst := if e = 0 then upd2 G p.shop p.trace (some p) else G
theorem CsI.post (h : CsI S O J G N) (p : Pst) : CsI (postS S p).2 O J (postG G (postS S p).1 p) N := by
  have hu := post_ok h.tot p
  have ho := post_ok h.ok p
  unfold postS at *
  by_cases hp : pstBad p = true
  · rw [if_pos hp]; exact h
  rw [if_neg hp] at ho ⊢
  rw [if_neg hp] at hu
  by_cases hd : dayE S.last p.day ≠ 0
  · rw [if_pos hd]
    unfold postG
    rw [if_neg hd]; exact h
  rw [if_neg hd] at ho ⊢
  dsimp only at hu
  rw [if_neg hd] at hu
  have hd' : dayE S.last p.day = 0 := by omega
  by_cases hi : (idxK S.L p.shop p.trace).isSome = true
  · rw [if_pos hi]; exact h.told hd'
  rw [if_neg hi] at ho hu ⊢
  by_cases hl : 100000 ≤ S.L.length
  · rw [if_pos hl]; exact h.told hd'
  rw [if_neg hl] at ho hu ⊢
  have ht := h.told hd'
  have hno := idxK_none (L := S.L) (shop := p.shop) (trace := p.trace) (by simpa using hi)
  dsimp only at ho hu ⊢
  refine ⟨ho, ?_, h.o0, fun a b => ?_, fun a b => ?_, fun a b => ?_, fun a b x hx => ?_⟩
  · rw [owU_add] at hu; exact hu
  · have e1 := owU_net S.ow p p.amt a b
    have e2 := h.net a b
    show (O a b + owU S.ow p p.amt a b) - (O b a + owU S.ow p p.amt b a) = wantL (S.L ++ [_]) a b - wantL (S.L ++ [_]) b a
    rw [wantL_snoc, wantL_snoc]
    have e3 : wantK ⟨p, [], startC p⟩ a b = netP p p.amt a b := rfl
    have e4 : wantK ⟨p, [], startC p⟩ b a = netP p p.amt b a := rfl
    omega
  · rw [h.jd a b]
    show _ = bif jdg (S.L ++ [_]) a b then 1 else 0
    unfold jdg
    rw [List.any_append]
    have : (List.any [(⟨p, [], startC p⟩ : Kse)] (fun k => keyIs a b k && decide (k.c.st = 6))) = false := by simp [startC]
    rw [this, Bool.or_false]
  · show postG G 0 p a b = ((S.L ++ [_]).find? (keyIs a b)).map (fun k : Kse => k.p)
    unfold postG
    rw [if_pos rfl, List.find?_append]
    by_cases e : a = p.shop ∧ b = p.trace
    · obtain ⟨rfl, rfl⟩ := e
      rw [upd2_at]
      have : S.L.find? (keyIs p.shop p.trace) = none := List.find?_eq_none.2 (fun k hk => by
        have := hno k hk
        simpa [keyIs] using this)
      rw [this]
      simp [keyIs]
    · rw [upd2_off _ _ _ _ e, h.gp a b]
      have : List.find? (keyIs a b) [(⟨p, [], startC p⟩ : Kse)] = none := by
        simp [keyIs]; intro h1 h2; exact e ⟨h1.symm, h2.symm⟩
      rw [this, Option.or_none]
  · obtain ⟨h1, k, hk, h2, h3⟩ := ht.dn a b x hx
    exact ⟨h1, k, List.mem_append_left _ hk, h2, h3⟩
/-- the law's judged behind a deed -/
def doJ (J : Int → Int → Option Int) (e what shop trace : Int) : Int → Int → Option Int := if 4 ≤ what ∧ e = 0 then upd2 J shop trace (some ((J shop trace).getD 0 + 1)) else J
theorem key_once {L : List Kse} (hn : (L.map (fun k => (k.p.shop, k.p.trace))).Nodup) {a b : Int} {i j : Nat} {k k' : Kse} (hi : L[i]? = some k) (hj : L[j]? = some k') (h1 : keyIs a b k = true) (h2 : keyIs a b k' = true) : i = j := by
  have e1 := of_decide_eq_true h1
  have e2 := of_decide_eq_true h2
  obtain ⟨li, rfl⟩ := List.getElem?_eq_some_iff.1 hi
  obtain ⟨lj, rfl⟩ := List.getElem?_eq_some_iff.1 hj
  have hq : (L.map (fun k => (k.p.shop, k.p.trace)))[i]'(by simpa using li) = (L.map (fun k => (k.p.shop, k.p.trace)))[j]'(by simpa using lj) := by
    rw [List.getElem_map, List.getElem_map, e1.1, e1.2, e2.1, e2.2]
  rcases Nat.lt_trichotomy i j with hlt | heq | hlt
  · exact absurd hq (List.pairwise_iff_getElem.1 hn i j _ _ hlt)
  · exact heq
  · exact absurd hq.symm (List.pairwise_iff_getElem.1 hn j i _ _ hlt)
theorem find_set {L : List Kse} {i : Nat} {k k' : Kse} (hi : L[i]? = some k) (hp : k'.p = k.p) (a b : Int) : ((L.set i k').find? (keyIs a b)).map (fun k : Kse => k.p) = (L.find? (keyIs a b)).map (fun k : Kse => k.p) := by
  induction L generalizing i with
  | nil => cases hi
  | cons x l ih =>
    have hk : keyIs a b k' = keyIs a b k := by unfold keyIs; rw [hp]
    cases i with
    | zero =>
      obtain rfl : x = k := by simpa using hi
      rw [List.set_cons_zero, List.find?_cons, List.find?_cons, hk]
      cases keyIs a b x with
      | true => simp [hp]
      | false => rfl
    | succ i =>
      rw [List.set_cons_succ, List.find?_cons, List.find?_cons]
      cases keyIs a b x with
      | true => rfl
      | false => exact ih (by simpa using hi)
theorem jdg_set {L : List Kse} {i : Nat} {k k' : Kse} (hi : L[i]? = some k) (hp : k'.p = k.p) (h6 : k.c.st ≠ 6) (a b : Int) : jdg (L.set i k') a b = (jdg L a b || (keyIs a b k && decide (k'.c.st = 6))) := by
  induction L generalizing i with
  | nil => cases hi
  | cons x l ih =>
    have hk : keyIs a b k' = keyIs a b k := by unfold keyIs; rw [hp]
    cases i with
    | zero =>
      obtain rfl : x = k := by simpa using hi
      show (keyIs a b k' && decide (k'.c.st = 6) || jdg l a b) = (keyIs a b x && decide (x.c.st = 6) || jdg l a b || (keyIs a b x && decide (k'.c.st = 6)))
      rw [hk, decide_eq_false h6]
      simp [Bool.or_comm]
    | succ i =>
      have e := ih (i := i) (by simpa using hi)
      show (keyIs a b x && decide (x.c.st = 6) || jdg (l.set i k') a b) = (keyIs a b x && decide (x.c.st = 6) || jdg l a b || _)
      rw [e, Bool.or_assoc]
theorem jdg_no {L : List Kse} (hn : (L.map (fun k => (k.p.shop, k.p.trace))).Nodup) {a b : Int} {i : Nat} {k : Kse} (hi : L[i]? = some k) (hk : keyIs a b k = true) (h6 : k.c.st ≠ 6) : jdg L a b = false := by
  cases hj : jdg L a b with
  | false => rfl
  | true =>
    obtain ⟨k', hk', hx⟩ := List.any_eq_true.1 hj
    obtain ⟨j, hj'⟩ := List.getElem?_of_mem hk'
    have hx' : keyIs a b k' = true ∧ decide (k'.c.st = 6) = true := by simpa using hx
    obtain rfl := key_once hn hi hj' hk hx'.1
    rw [hi] at hj'
    obtain rfl : k = k' := Option.some.inj hj'
    exact absurd (of_decide_eq_true hx'.2) h6
theorem deed_st (D : Dys) (c : Cse) (d : Ded) (hw : 1 ≤ d.what ∧ d.what ≤ 5) : (deed1 D c d).st = 6 ↔ 4 ≤ d.what := by
  obtain ⟨what, day, amt⟩ := d
  dsimp only at hw
  have hc : what = 1 ∨ what = 2 ∨ what = 3 ∨ what = 4 ∨ what = 5 := by omega
  rcases hc with rfl | rfl | rfl | rfl | rfl <;> simp [deed1]
theorem CsI.deed (h : CsI S O J G N) (shop trace : Int) (d : Ded) (hw : 1 ≤ d.what ∧ d.what ≤ 5) : CsI (doS S shop trace d).2 O (doJ J (doS S shop trace d).1 d.what shop trace) G N := by
  have hu := do_ok h.tot shop trace d hw
  have ho := do_ok h.ok shop trace d hw
  unfold doS at *
  by_cases hd : dayE S.last d.day ≠ 0
  · rw [if_pos hd]
    unfold doJ
    rw [if_neg (fun hh => hd hh.2)]; exact h
  rw [if_neg hd] at ho ⊢
  dsimp only at hu
  rw [if_neg hd] at hu
  have hd' : dayE S.last d.day = 0 := by omega
  have ht := h.told hd'
  cases hi : idxK S.L shop trace with
  | none =>
    dsimp only
    unfold doJ
    rw [if_neg (fun hh => by have := hh.2; omega)]; exact ht
  | some i =>
    obtain ⟨k, hk, e1, e2, hlt⟩ := idxK_some hi
    have hg : S.L.getD i default = k := by rw [List.getD_eq_getElem?_getD, hk]; rfl
    rw [hi] at hu ho
    dsimp only at hu ho ⊢
    rw [hg] at hu ho ⊢
    by_cases hst : (onC S.D k.c d.day).st ≠ needS d.what
    · rw [if_pos hst]
      unfold doJ
      rw [if_neg (fun hh => by have := hh.2; omega)]; exact ht
    rw [if_neg hst] at hu ho ⊢
    by_cases ham : d.what = 1 ∧ (d.amt < 1 ∨ k.p.amt < d.amt)
    · rw [if_pos ham]
      unfold doJ
      rw [if_neg (fun hh => by have := hh.2; omega)]; exact ht
    rw [if_neg ham] at hu ho ⊢
    dsimp only at hu ho ⊢
    have hst' : (onC S.D k.c d.day).st = needS d.what := by omega
    have hns : needS d.what ≠ 6 := by unfold needS; split <;> omega
    obtain ⟨_, hcs⟩ := on_same hst' hns
    have h6 : k.c.st ≠ 6 := by rw [hcs]; exact hns
    have hkey : keyIs shop trace k = true := decide_eq_true ⟨e1, e2⟩
    refine ⟨ho, ?_, h.o0, fun a b => ?_, fun a b => ?_, fun a b => ?_, fun a b x hx => ?_⟩
    · rw [owU_add] at hu; exact hu
    · have q1 := owU_net S.ow k.p ((deed1 S.D k.c d).paid - k.c.paid) a b
      have q2 := h.net a b
      have q3 := wantK_net k ⟨k.p, k.ds ++ [d], deed1 S.D k.c d⟩ rfl a b
      have q4 := wantK_net k ⟨k.p, k.ds ++ [d], deed1 S.D k.c d⟩ rfl b a
      have q5 := wantL_set S.L i k ⟨k.p, k.ds ++ [d], deed1 S.D k.c d⟩ hk a b
      have q6 := wantL_set S.L i k ⟨k.p, k.ds ++ [d], deed1 S.D k.c d⟩ hk b a
      dsimp only at q3 q4 ⊢
      omega
    · dsimp only
      rw [jdg_set hk (k' := ⟨k.p, k.ds ++ [d], deed1 S.D k.c d⟩) rfl h6 a b]
      dsimp only
      have hj := h.jd a b
      unfold doJ
      by_cases h4 : 4 ≤ d.what
      · rw [if_pos ⟨h4, rfl⟩, decide_eq_true ((deed_st S.D k.c d hw).2 h4), Bool.and_true]
        by_cases e : a = shop ∧ b = trace
        · obtain ⟨rfl, rfl⟩ := e
          rw [upd2_at, hkey, Bool.or_true]
          rw [jdg_no h.ok.once hk hkey h6] at hj
          simp [hj]
        · rw [upd2_off _ _ _ _ e]
          have : keyIs a b k = false := decide_eq_false (fun hh => e ⟨by rw [← hh.1, e1], by rw [← hh.2, e2]⟩)
          rw [this, Bool.or_false]; exact hj
      · rw [if_neg (fun hh => h4 hh.1), decide_eq_false (fun hh => h4 ((deed_st S.D k.c d hw).1 hh)), Bool.and_false, Bool.or_false]
        exact hj
    · rw [h.gp a b]; exact (find_set hk (k' := ⟨k.p, k.ds ++ [d], deed1 S.D k.c d⟩) rfl a b).symm
    · obtain ⟨h1, k2, hk2, h2, h3⟩ := ht.dn a b x hx
      refine ⟨h1, k2, ?_, h2, h3⟩
      obtain ⟨j, hj⟩ := List.getElem?_of_mem hk2
      by_cases e : j = i
      · subst e
        rw [hk] at hj
        obtain rfl : k = k2 := Option.some.inj hj
        have : (onC S.D k.c d.day).st = 6 := by
          have h3' : onC S.D k.c d.day = x := h3
          rw [h3']; exact h1
        rw [this] at hst'
        exact absurd hst'.symm hns
      · show k2 ∈ S.L.set i _
        refine List.mem_of_getElem? (i := j) ?_
        rw [List.getElem?_set_ne (fun e' => e e'.symm)]; exact hj
/-- what Look says of what was posted -/
theorem CsI.look (h : CsI S O J G N) {a b : Int} {p : Pst} (hg : G a b = some p) : ∃ k ∈ S.L, k.p = p ∧ keyIs a b k = true ∧ lookS S a b S.last = (onC S.D k.c S.last, 0) := by
  rw [h.gp a b] at hg
  obtain ⟨k, hk, rfl⟩ := Option.map_eq_some_iff.1 hg
  have hkey := List.find?_some hk
  have hm := List.mem_of_find?_eq_some hk
  refine ⟨k, hm, rfl, hkey, ?_⟩
  have hd : dayE S.last S.last = 0 := by
    have := h.ok.last0; have := h.ok.last1
    unfold dayE
    rw [if_neg (by omega), if_neg (by omega)]
  unfold lookS
  rw [if_neg (by simp [hd])]
  cases hi : idxK S.L a b with
  | none => exact absurd (of_decide_eq_true hkey) (idxK_none hi k hm)
  | some i =>
    obtain ⟨k', hk', e1, e2, _⟩ := idxK_some hi
    obtain ⟨j, hj⟩ := List.getElem?_of_mem hm
    obtain rfl := key_once h.ok.once hj hk' hkey (decide_eq_true ⟨e1, e2⟩)
    dsimp only
    rw [List.getD_eq_getElem?_getD, hj]; rfl
theorem CsI.look_done (h : CsI S O J G N) {a b : Int} {d : Cse} (hd : N a b = some d) : lookS S a b S.last = (d, 0) := by
  obtain ⟨_, k, hk, hkey, he⟩ := h.dn a b d hd
  have hf : ∃ k', S.L.find? (keyIs a b) = some k' := by
    cases hx : S.L.find? (keyIs a b) with
    | none => exact absurd hkey (by simpa using List.find?_eq_none.1 hx k hk)
    | some k' => exact ⟨k', rfl⟩
  obtain ⟨k', hk'⟩ := hf
  obtain ⟨k2, hm2, _, hkey2, hl⟩ := h.look (a := a) (b := b) (p := k'.p) (by rw [h.gp a b, hk']; rfl)
  obtain ⟨i, hi⟩ := List.getElem?_of_mem hk
  obtain ⟨j, hj⟩ := List.getElem?_of_mem hm2
  obtain rfl := key_once h.ok.once hi hj hkey hkey2
  rw [hi] at hj
  obtain rfl : k = k2 := Option.some.inj hj
  rw [hl, he]
theorem CsI.judged (h : CsI S O J G N) {a b : Int} {k : Kse} (hk : k ∈ S.L) (hkey : keyIs a b k = true) : ((J a b).getD 0 = 1) ∨ ((J a b).getD 0 = 0 ∧ (k.c.paid = k.p.amt ∨ k.c.paid = k.p.amt - k.c.disp)) := by
  rw [h.jd a b]
  cases hj : jdg S.L a b with
  | true => exact .inl rfl
  | false =>
    refine .inr ⟨rfl, ?_⟩
    have h6 : k.c.st ≠ 6 := fun e => by
      have := List.any_eq_false.1 hj k hk
      simp [hkey, e] at this
    have := (h.ok.each k hk).1.2.2.2.2.2.2.2.2.2 h6
    split at this
    · exact .inr this
    · exact .inl this
/-- a case is found done -/
theorem CsI.done (h : CsI S O J G N) {a b : Int} {k : Kse} (hk : k ∈ S.L) (hkey : keyIs a b k = true) (h6 : (onC S.D k.c S.last).st = 6) : CsI S O J G (upd2 N a b (some (onC S.D k.c S.last))) := by
  refine { h with dn := fun a' b' d hd => ?_ }
  by_cases e : a' = a ∧ b' = b
  · obtain ⟨rfl, rfl⟩ := e
    rw [upd2_at] at hd
    obtain rfl := Option.some.inj hd
    exact ⟨h6, k, hk, hkey, rfl⟩
  · rw [upd2_off _ _ _ _ e] at hd
    exact h.dn a' b' d hd
theorem post_last (S : Clr) (p : Pst) : (postS S p).2.last = if (postS S p).1 = 0 ∨ (postS S p).1 = 6 ∨ (postS S p).1 = 8 then p.day else S.last := by
  unfold postS
  by_cases hp : pstBad p = true
  · rw [if_pos hp]; simp
  rw [if_neg hp]
  by_cases hd : dayE S.last p.day ≠ 0
  · rw [if_pos hd]
    dsimp only
    have : dayE S.last p.day = 3 ∨ dayE S.last p.day = 11 := by
      unfold dayE at hd ⊢
      split
      · exact .inl rfl
      · next hh =>
        rw [if_neg hh] at hd
        split
        · exact .inr rfl
        · next h2 => rw [if_neg h2] at hd; exact absurd rfl hd
    rw [if_neg (by omega)]
  rw [if_neg hd]
  split
  · simp
  · split <;> simp
theorem do_last {S : Clr} (h : okS S) (shop trace : Int) (d : Ded) : (doS S shop trace d).2.last = if S.last ≤ d.day ∧ d.day ≤ 65535 then d.day else S.last := by
  have h0 := h.last0
  unfold doS
  by_cases hd : dayE S.last d.day ≠ 0
  · rw [if_pos hd]
    dsimp only
    rw [if_neg]
    intro hh
    apply hd
    unfold dayE
    rw [if_neg (by omega), if_neg (by omega)]
  rw [if_neg hd]
  have hz := dayE_zero (by omega : dayE S.last d.day = 0)
  rw [if_pos ⟨hz.2.2, hz.2.1⟩]
  cases idxK S.L shop trace with
  | none => rfl
  | some i =>
    dsimp only
    split
    · rfl
    · split <;> rfl
end Go.Proofs.Ytdameincehiieaa
