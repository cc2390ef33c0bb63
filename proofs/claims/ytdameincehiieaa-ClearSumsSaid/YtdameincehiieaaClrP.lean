/- What is cleared, plain: cases, days, what banks owe one another. -/
import Derived.Test.YtdameincehiieaaLow0
namespace Go.Proofs.Ytdameincehiieaa
set_option linter.unusedVariables false

structure Cse where
  st : Int
  since : Int
  disp : Int
  paid : Int
deriving DecidableEq, Inhabited
structure Pst where
  frm : Int
  to : Int
  shop : Int
  trace : Int
  amt : Int
  day : Int
deriving DecidableEq, Inhabited
structure Dys where
  di : Int
  an : Int
  ins : Int
  fee : Int
deriving DecidableEq, Inhabited
structure Ded where
  what : Int
  day : Int
  amt : Int
deriving DecidableEq, Inhabited
/-- a case: what was posted, its deeds, how it was told last -/
structure Kse where
  p : Pst
  ds : List Ded
  c : Cse
deriving DecidableEq, Inhabited

def daysBad (D : Dys) : Bool := decide (D.di < 1 ∨ 1000 < D.di ∨ D.an < 1 ∨ 1000 < D.an ∨ D.ins < 1 ∨ 1000 < D.ins ∨ D.fee < 0 ∨ 999999999999 < D.fee)
def daysE (D : Dys) : Int := bif daysBad D then 3 else 0
def dayE (last d : Int) : Int := if d < 0 ∨ 65535 < d then 3 else if d < last then 11 else 0
def pstBad (p : Pst) : Bool := decide (p.frm < 1 ∨ 99 < p.frm ∨ p.to < 1 ∨ 99 < p.to ∨ p.amt < 0 ∨ 999999999999 < p.amt ∨ p.shop < 0 ∨ 4294967295 < p.shop ∨ p.trace < 0 ∨ 4294967295 < p.trace)

def waitC (D : Dys) (st : Int) : Int := if st = 1 then D.di else if st = 2 then D.an else if st = 3 then D.ins else 65535
/-- how a case is on a day -/
def onC (D : Dys) (c : Cse) (day : Int) : Cse := if c.since + waitC D c.st < day then ⟨6, c.since + waitC D c.st + 1, c.disp, c.paid⟩ else c
/-- one deed -/
def deed1 (D : Dys) (c : Cse) (d : Ded) : Cse :=
  if d.what = 1 then ⟨2, d.day, d.amt, c.paid - d.amt⟩
  else if d.what = 2 then ⟨3, d.day, c.disp, c.paid + c.disp⟩
  else if d.what = 3 then ⟨4, d.day, c.disp, c.paid⟩
  else if d.what = 4 then ⟨6, d.day, c.disp, c.paid + D.fee⟩
  else if d.what = 5 then ⟨6, d.day, c.disp, c.paid - c.disp - D.fee⟩
  else ⟨c.st, d.day, c.disp, c.paid⟩
def startC (p : Pst) : Cse := ⟨1, p.day, 0, p.amt⟩
def fromD (D : Dys) (p : Pst) (ds : List Ded) : Cse := ds.foldl (deed1 D) (startC p)
theorem fromD_snoc (D : Dys) (p : Pst) (ds : List Ded) (d : Ded) : fromD D p (ds ++ [d]) = deed1 D (fromD D p ds) d := by
  unfold fromD; rw [List.foldl_append]; rfl
/-- the deed's state -/
def needS (what : Int) : Int := if what ≤ 4 then what else 4

/-- what a case may have moved by its state, in amounts -/
def budget (st : Int) : Int := if st = 1 then 1000000000000 else if st = 2 then 2000000000000 else if st = 3 then 3000000000000 else if st = 4 then 3000000000000 else 5000000000000
/-- a case as it can be -/
def okC (p : Pst) (c : Cse) : Prop :=
  (c.st = 1 ∨ c.st = 2 ∨ c.st = 3 ∨ c.st = 4 ∨ c.st = 6) ∧ 0 ≤ c.since ∧ c.since ≤ 65535 ∧ 0 ≤ c.disp ∧ c.disp ≤ p.amt ∧ 0 ≤ p.amt ∧ p.amt ≤ 999999999999 ∧ -5000000000000 ≤ c.paid ∧ c.paid ≤ 5000000000000 ∧
  (c.st ≠ 6 → c.paid = if c.st = 2 then p.amt - c.disp else p.amt)
theorem okC_start (p : Pst) (h : pstBad p = false) (hd : 0 ≤ p.day ∧ p.day ≤ 65535) : okC p (startC p) := by
  have := of_decide_eq_false h
  refine ⟨.inl rfl, hd.1, hd.2, Int.le_refl _, by show (0 : Int) ≤ p.amt; omega, by omega, by omega, ?_, ?_, fun _ => ?_⟩
  · show (-5000000000000 : Int) ≤ p.amt; omega
  · show p.amt ≤ 5000000000000; omega
  · show p.amt = if (1 : Int) = 2 then _ else _; rw [if_neg (by decide)]
theorem on_same {D : Dys} {c : Cse} {day s : Int} (h : (onC D c day).st = s) (hs : s ≠ 6) : onC D c day = c ∧ c.st = s := by
  unfold onC at h ⊢
  split at h
  · exact absurd h.symm hs
  · next hn => rw [if_neg hn]; exact ⟨rfl, h⟩
theorem on_paid (D : Dys) (c : Cse) (day : Int) : (onC D c day).paid = c.paid ∧ (onC D c day).disp = c.disp := by
  unfold onC; split <;> exact ⟨rfl, rfl⟩
/-- a deed that may be done leaves a case as it can be, and moves no more than its budget -/
theorem okC_deed {D : Dys} {p : Pst} {c : Cse} {d : Ded} (hD : daysBad D = false) (h : okC p c) (hw : 1 ≤ d.what ∧ d.what ≤ 5) (hst : c.st = needS d.what) (hday : 0 ≤ d.day ∧ d.day ≤ 65535) (ham : d.what = 1 → 1 ≤ d.amt ∧ d.amt ≤ p.amt) :
    okC p (deed1 D c d) ∧ (deed1 D c d).since = d.day ∧ budget c.st + ((deed1 D c d).paid - c.paid) ≤ budget (deed1 D c d).st ∧ budget c.st - ((deed1 D c d).paid - c.paid) ≤ budget (deed1 D c d).st := by
  have hf := of_decide_eq_false hD
  obtain ⟨_, h2, h3, h4, h5, h6, h7, h8, h9, h10⟩ := h
  obtain ⟨w1, w2⟩ := hw
  obtain ⟨st, since, disp, paid⟩ := c
  obtain ⟨what, day, amt⟩ := d
  dsimp only at *
  have hc : what = 1 ∨ what = 2 ∨ what = 3 ∨ what = 4 ∨ what = 5 := by omega
  rcases hc with rfl | rfl | rfl | rfl | rfl
  · have e : st = 1 := hst
    subst e
    have hp : paid = p.amt := h10 (by decide)
    obtain ⟨m1, m2⟩ := ham rfl
    refine ⟨⟨.inr (.inl rfl), hday.1, hday.2, ?_, ?_, h6, h7, ?_, ?_, fun _ => ?_⟩, rfl, ?_, ?_⟩
    · show (0 : Int) ≤ amt; omega
    · show amt ≤ p.amt; omega
    · show -5000000000000 ≤ paid - amt; omega
    · show paid - amt ≤ 5000000000000; omega
    · show paid - amt = p.amt - amt; omega
    · show (1000000000000 : Int) + (paid - amt - paid) ≤ 2000000000000; omega
    · show (1000000000000 : Int) - (paid - amt - paid) ≤ 2000000000000; omega
  · have e : st = 2 := hst
    subst e
    have hp : paid = p.amt - disp := h10 (by decide)
    refine ⟨⟨.inr (.inr (.inl rfl)), hday.1, hday.2, h4, h5, h6, h7, ?_, ?_, fun _ => ?_⟩, rfl, ?_, ?_⟩
    · show -5000000000000 ≤ paid + disp; omega
    · show paid + disp ≤ 5000000000000; omega
    · show paid + disp = p.amt; omega
    · show (2000000000000 : Int) + (paid + disp - paid) ≤ 3000000000000; omega
    · show (2000000000000 : Int) - (paid + disp - paid) ≤ 3000000000000; omega
  · have e : st = 3 := hst
    subst e
    have hp : paid = p.amt := h10 (by decide)
    refine ⟨⟨.inr (.inr (.inr (.inl rfl))), hday.1, hday.2, h4, h5, h6, h7, h8, h9, fun _ => hp⟩, rfl, ?_, ?_⟩
    · show (3000000000000 : Int) + (paid - paid) ≤ 3000000000000; omega
    · show (3000000000000 : Int) - (paid - paid) ≤ 3000000000000; omega
  · have e : st = 4 := hst
    subst e
    have hp : paid = p.amt := h10 (by decide)
    refine ⟨⟨.inr (.inr (.inr (.inr rfl))), hday.1, hday.2, h4, h5, h6, h7, ?_, ?_, fun h => absurd rfl h⟩, rfl, ?_, ?_⟩
    · show -5000000000000 ≤ paid + D.fee; omega
    · show paid + D.fee ≤ 5000000000000; omega
    · show (3000000000000 : Int) + (paid + D.fee - paid) ≤ 5000000000000; omega
    · show (3000000000000 : Int) - (paid + D.fee - paid) ≤ 5000000000000; omega
  · have e : st = 4 := hst
    subst e
    have hp : paid = p.amt := h10 (by decide)
    refine ⟨⟨.inr (.inr (.inr (.inr rfl))), hday.1, hday.2, h4, h5, h6, h7, ?_, ?_, fun h => absurd rfl h⟩, rfl, ?_, ?_⟩
    · show -5000000000000 ≤ paid - disp - D.fee; omega
    · show paid - disp - D.fee ≤ 5000000000000; omega
    · show (3000000000000 : Int) + (paid - disp - D.fee - paid) ≤ 5000000000000; omega
    · show (3000000000000 : Int) - (paid - disp - D.fee - paid) ≤ 5000000000000; omega

/-- what bank a owes bank b behind 'n more of what was posted' -/
def owU (ow : Int → Int → Int) (p : Pst) (n : Int) : Int → Int → Int := fun a b =>
  if p.frm = p.to then ow a b
  else if 0 < n ∧ a = p.frm ∧ b = p.to then ow a b + n
  else if n < 0 ∧ a = p.to ∧ b = p.frm then ow a b - n
  else ow a b
theorem owU_zero (ow : Int → Int → Int) (p : Pst) : owU ow p 0 = ow := by
  funext a b; unfold owU; split
  · rfl
  · rw [if_neg (by omega), if_neg (by omega)]
def sumB (L : List Kse) : Int := (L.map (fun k => budget k.c.st)).sum
/-- what is cleared: the days, the last day that was told, the cases, what is owed since the last cut -/
structure Clr where
  D : Dys
  last : Int
  L : List Kse
  ow : Int → Int → Int
structure okS (S : Clr) : Prop where
  D : daysBad S.D = false
  last0 : 0 ≤ S.last
  last1 : S.last ≤ 65535
  len : S.L.length ≤ 100000
  each : ∀ k ∈ S.L, okC k.p k.c ∧ pstBad k.p = false ∧ k.c = fromD S.D k.p k.ds
  once : (S.L.map (fun k => (k.p.shop, k.p.trace))).Nodup
  ow0 : ∀ a b, 0 ≤ S.ow a b
  ow1 : ∀ a b, S.ow a b ≤ sumB S.L
  ow2 : ∀ a b, S.ow a b ≠ 0 → 1 ≤ a ∧ a ≤ 99 ∧ 1 ≤ b ∧ b ≤ 99 ∧ a ≠ b
theorem budget_in (st : Int) : 0 ≤ budget st ∧ budget st ≤ 5000000000000 := by
  unfold budget; split; omega; split; omega; split; omega; split <;> omega
theorem sumB_in (L : List Kse) : 0 ≤ sumB L ∧ sumB L ≤ 5000000000000 * L.length := by
  induction L with
  | nil => exact ⟨Int.le_refl _, Int.le_refl _⟩
  | cons k l ih =>
    have hb := budget_in k.c.st
    have e : sumB (k :: l) = budget k.c.st + sumB l := by unfold sumB; rw [List.map_cons, List.sum_cons]
    rw [e, List.length_cons]
    omega
theorem okS.small {S : Clr} (h : okS S) (a b : Int) : 0 ≤ S.ow a b ∧ S.ow a b ≤ 500000000000000000 := by
  have h1 := h.ow0 a b
  have h2 := h.ow1 a b
  have h3 := (sumB_in S.L).2
  have h4 := h.len
  omega
end Go.Proofs.Ytdameincehiieaa
