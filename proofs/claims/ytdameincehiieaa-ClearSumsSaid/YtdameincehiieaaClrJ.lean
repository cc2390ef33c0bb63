/- clear: the whole of what a Clear holds; find over it. -/
import Derived.Test.YtdameincehiieaaClrI
namespace Go.Proofs.Ytdameincehiieaa
open Go.RowKit Go.WideMaps Go.Maps
set_option linter.unusedVariables false
set_option maxRecDepth 100000

def gOf (L : List Kse) (qs : List Nat) (a b : Int) : Option Nat := (idxK L a b).bind fun i => qs[i]?
/-- a Clear in block b, with all that it owns (F) -/
structure CIn (w : World) (F : Nat → Prop) (b : Nat) (S : Clr) (m1 m2 n k : Nat) (qs : List Nat) : Prop where
  blk : ClrB w b S.D S.last m1 m2
  nm : NMap w m1 n S.L.length (gOf S.L qs)
  nn : n ≤ S.L.length
  pm : PMap w m2 k S.ow
  kk : 1000000000000 * (k : Int) ≤ sumB S.L
  qlen : qs.length = S.L.length
  pays : ∀ (i q : Nat) (x : Kse), qs[i]? = some q → S.L[i]? = some x → PayB w q x.p x.c
  qnd : qs.Nodup
  fb : F b
  f1 : F m1
  f2 : F m2
  fq : ∀ q ∈ qs, F q
  flt : ∀ x, F x → x < w.heap.size
  n1 : m1 ≠ b
  n2 : m2 ≠ b
  n3 : m1 ≠ m2
  nq : ∀ q ∈ qs, q ≠ b ∧ q ≠ m1 ∧ q ≠ m2
def CAt (w : World) (F : Nat → Prop) (b : Nat) (S : Clr) : Prop := ∃ (m1 m2 n k : Nat) (qs : List Nat), CIn w F b S m1 m2 n k qs
variable {w w' : World} {F : Nat → Prop} {b m1 m2 n k : Nat} {S : Clr} {qs : List Nat}
theorem CIn.keep (h : CIn w F b S m1 m2 n k qs) (hs : w.heap.size ≤ w'.heap.size) (hb : ∀ x, F x → w'.heap[x]? = w.heap[x]?) : CIn w' F b S m1 m2 n k qs :=
  { h with blk := h.blk.of_block (hb b h.fb), nm := h.nm.of_block (hb m1 h.f1), pm := h.pm.of_block (hb m2 h.f2),
           pays := fun i q x hq hx => (h.pays i q x hq hx).of_block (hb q (h.fq q (List.mem_of_getElem? hq))), flt := fun x hx => Nat.lt_of_lt_of_le (h.flt x hx) hs }
theorem CIn.told (h : CIn w F b S m1 m2 n k qs) {d : Int} (hB : ClrB w' b S.D d m1 m2) (hT : Tnd w w' b) : CIn w' F b { S with last := d } m1 m2 n k qs :=
  { h with blk := hB, nm := h.nm.tnd hT h.n1, pm := h.pm.tnd hT h.n2,
           pays := fun i q x hq hx => (h.pays i q x hq hx).tnd hT (h.nq q (List.mem_of_getElem? hq)).1, flt := fun x hx => Nat.lt_of_lt_of_le (h.flt x hx) hT.2.2 }
theorem idxK_set (L : List Kse) (i : Nat) (x y : Kse) (hx : L[i]? = some x) (hp : y.p = x.p) (a c : Int) : idxK (L.set i y) a c = idxK L a c := by
  unfold idxK
  have e : ∀ l : List Kse, l.findIdx? (keyIs a c) = (l.map (fun k => decide (k.p.shop = a ∧ k.p.trace = c))).findIdx? id := fun l => by rw [List.findIdx?_map]; rfl
  rw [e, e, List.map_set]
  have hi : i < L.length := (List.getElem?_eq_some_iff.1 hx).1
  have e2 : decide (y.p.shop = a ∧ y.p.trace = c) = (L.map (fun k => decide (k.p.shop = a ∧ k.p.trace = c)))[i]'(by rw [List.length_map]; exact hi) := by
    rw [List.getElem_map, (List.getElem?_eq_some_iff.1 hx).2, hp]
  rw [e2, List.set_getElem_self]
/-- the payment q has been paid -/
theorem CIn.paid (h : CIn w F b S m1 m2 n k qs) {i q k' : Nat} {x : Kse} {ds : List Ded} {c : Cse} {ow : Int → Int → Int} (hq : qs[i]? = some q) (hx : S.L[i]? = some x) (hC : Chg (fun j => j = q ∨ j = m2) w w')
    (hP : PayB w' q x.p c) (hM : PMap w' m2 k' ow) (hkk : 1000000000000 * (k' : Int) ≤ sumB S.L - budget x.c.st + budget c.st) :
    CIn w' F b { S with L := S.L.set i ⟨x.p, ds, c⟩, ow := ow } m1 m2 n k' qs := by
  have hmem := List.mem_of_getElem? hq
  have hnq := h.nq q hmem
  refine { h with blk := h.blk.of_block (hC.block b h.blk.lt (fun e => by rcases e with e | e; exact hnq.1 e.symm; exact h.n2 e.symm)), nm := ?_, nn := ?_, pm := hM, kk := ?_, qlen := ?_, pays := ?_, flt := fun x hx => Nat.lt_of_lt_of_le (h.flt x hx) hC.size }
  · show NMap w' m1 n (S.L.set i _).length (gOf (S.L.set i _) qs)
    rw [List.length_set]
    refine (h.nm.of_block (hC.block m1 h.nm.lt (fun e => by rcases e with e | e; exact hnq.2.1 e.symm; exact h.n3 e))).congr (fun a' c' => ?_)
    unfold gOf
    rw [idxK_set S.L i x ⟨x.p, ds, c⟩ hx rfl]
  · show n ≤ (S.L.set i _).length
    rw [List.length_set]; exact h.nn
  · show _ ≤ sumB (S.L.set i _)
    rw [sumB_set S.L i x _ hx]; exact hkk
  · show qs.length = (S.L.set i _).length
    rw [List.length_set]; exact h.qlen
  · intro j r y hr hy
    have hi : i < S.L.length := (List.getElem?_eq_some_iff.1 hx).1
    by_cases e : i = j
    · subst e
      rw [hq] at hr
      obtain rfl : q = r := Option.some.inj hr
      have hy' : (S.L.set i ⟨x.p, ds, c⟩)[i]? = some y := hy
      rw [List.getElem?_set_self hi] at hy'
      obtain rfl := Option.some.inj hy'
      exact hP
    · have hy' : (S.L.set i ⟨x.p, ds, c⟩)[j]? = some y := hy
      rw [List.getElem?_set_ne e] at hy'
      have hB := h.pays j r y hr hy'
      have hrm := List.mem_of_getElem? hr
      refine hB.of_block (hC.block r (blk_lt hB) (fun hh => ?_))
      rcases hh with hh | hh
      · subst hh
        exact e ((List.getElem?_inj (List.getElem?_eq_some_iff.1 hq).1 h.qnd).1 (hq.trans hr.symm))
      · exact (h.nq r hrm).2.2 hh
theorem CIn.at (h : CIn w F b S m1 m2 n k qs) {shop trace : Int} {i : Nat} (hi : idxK S.L shop trace = some i) : ∃ q x, qs[i]? = some q ∧ S.L[i]? = some x ∧ gOf S.L qs shop trace = some q ∧ PayB w q x.p x.c ∧ x.p.shop = shop ∧ x.p.trace = trace := by
  obtain ⟨x, hx, e1, e2, hlt⟩ := idxK_some hi
  have hq : qs[i]? = some (qs[i]'(by rw [h.qlen]; exact hlt)) := List.getElem?_eq_getElem _
  refine ⟨_, x, hq, hx, ?_, h.pays i _ x hq hx, e1, e2⟩
  unfold gOf
  rw [hi]
  exact hq
theorem wait_in {D : Dys} (h : daysBad D = false) (st : Int) : 0 ≤ waitC D st ∧ waitC D st ≤ 65535 := by
  have := of_decide_eq_false h
  unfold waitC
  split; · omega
  split; · omega
  split <;> omega
/-- what find says -/
def findS (S : Clr) (shop trace st day : Int) : Int :=
  if dayE S.last day ≠ 0 then dayE S.last day
  else match idxK S.L shop trace with
    | none => 5
    | some i => if (onC S.D (S.L.getD i default).c day).st ≠ st then 7 else 0
/-- the day that is told -/
def toldS (S : Clr) (day : Int) : Clr := if dayE S.last day = 0 then { S with last := day } else S
theorem findC_err (h : CIn w F b S m1 m2 n k qs) (hok : okS S) (shop trace st day : Int) (h1 : InR shop) (h2 : InR trace) (he : findS S shop trace st day ≠ 0) :
    Calls Try.prog 29 #[.pointer (some ⟨b, 0, none⟩), twoV shop trace, .int .i64 st, .int .i64 day] w fun e w' => e = .returned (.tuple #[.pointer none, .int .i64 (findS S shop trace st day)]) ∧ CIn w' F b (toldS S day) m1 m2 n k qs ∧ Chg F w w' := by
  unfold toldS
  by_cases hd : dayE S.last day = 0
  · rw [if_pos hd]
    unfold findS at he ⊢
    rw [if_neg (by simpa using hd)] at he ⊢
    cases hi : idxK S.L shop trace with
    | none =>
      refine (find_none b m1 m2 n S.L.length S.D S.last shop trace st day (gOf S.L qs) w h.blk h.nm h.n1 h1 h2 hd (by unfold gOf; rw [hi]; rfl)).mono ?_
      rintro e w' ⟨rfl, g1, g2⟩
      exact ⟨rfl, h.told g1 g2, (Chg.of_tnd g2).mono (fun x hx => by subst hx; exact h.fb)⟩
    | some i =>
      rw [hi] at he
      obtain ⟨q, x, hq, hx, hg, hP, e1, e2⟩ := h.at hi
      have hgd : S.L.getD i default = x := by rw [List.getD_eq_getElem?_getD, hx]; rfl
      dsimp only at he ⊢
      rw [hgd] at he ⊢
      have hst : (onC S.D x.c day).st ≠ st := by intro e; rw [if_neg (by simpa using e)] at he; exact he rfl
      rw [if_pos hst]
      obtain ⟨o1, o2, o3⟩ := hok.each x (List.mem_of_getElem? hx)
      refine (find_state b m1 m2 n S.L.length q S.D S.last shop trace st day (gOf S.L qs) x.p x.c w h.blk h.nm h.n1 h1 h2 hd hg hP (h.nq q (List.mem_of_getElem? hq)).1 ⟨o1.2.1, o1.2.2.1⟩ (wait_in hok.D _) hst).mono ?_
      rintro e w' ⟨rfl, g1, g2⟩
      exact ⟨rfl, h.told g1 g2, (Chg.of_tnd g2).mono (fun x hx => by subst hx; exact h.fb)⟩
  · rw [if_neg hd]
    have e : findS S shop trace st day = dayE S.last day := by unfold findS; rw [if_pos hd]
    rw [e]
    refine (find_day b m1 m2 S.D S.last shop trace st day w h.blk hd).mono ?_
    rintro e w' ⟨rfl, g1⟩
    exact ⟨rfl, h.keep g1.size (fun x hx => g1.block x (h.flt x hx)), Chg.of_below F g1⟩
theorem findC_ok (h : CIn w F b S m1 m2 n k qs) (hok : okS S) (shop trace st day : Int) (h1 : InR shop) (h2 : InR trace) (he : findS S shop trace st day = 0) :
    ∃ i q x, idxK S.L shop trace = some i ∧ qs[i]? = some q ∧ S.L[i]? = some x ∧ (onC S.D x.c day).st = st ∧ dayE S.last day = 0 ∧ PayB w q x.p x.c ∧
    Calls Try.prog 29 #[.pointer (some ⟨b, 0, none⟩), twoV shop trace, .int .i64 st, .int .i64 day] w fun e w' => e = .returned (.tuple #[.pointer (some ⟨q, 0, none⟩), .int .i64 0]) ∧ CIn w' F b { S with last := day } m1 m2 n k qs ∧ Chg F w w' := by
  unfold findS at he
  by_cases hd : dayE S.last day = 0
  · rw [if_neg (by simpa using hd)] at he
    cases hi : idxK S.L shop trace with
    | none => rw [hi] at he; cases he
    | some i =>
      rw [hi] at he
      obtain ⟨q, x, hq, hx, hg, hP, e1, e2⟩ := h.at hi
      have hgd : S.L.getD i default = x := by rw [List.getD_eq_getElem?_getD, hx]; rfl
      dsimp only at he
      rw [hgd] at he
      have hst : (onC S.D x.c day).st = st := by
        by_cases e : (onC S.D x.c day).st = st
        · exact e
        · rw [if_pos e] at he; cases he
      obtain ⟨o1, o2, o3⟩ := hok.each x (List.mem_of_getElem? hx)
      refine ⟨i, q, x, rfl, hq, hx, hst, hd, hP, ?_⟩
      refine (find_yes b m1 m2 n S.L.length q S.D S.last shop trace st day (gOf S.L qs) x.p x.c w h.blk h.nm h.n1 h1 h2 hd hg hP (h.nq q (List.mem_of_getElem? hq)).1 ⟨o1.2.1, o1.2.2.1⟩ (wait_in hok.D _) hst).mono ?_
      rintro e w' ⟨rfl, g1, g2⟩
      exact ⟨rfl, h.told g1 g2, (Chg.of_tnd g2).mono (fun x hx => by subst hx; exact h.fb)⟩
  · rw [if_pos hd] at he; exact absurd he hd
/-- what a deed's call leaves -/
def cPost (w : World) (F : Nat → Prop) (b : Nat) (R : Int × Clr) (e : Ending) (w' : World) : Prop :=
  e = .returned (.int .i64 R.1) ∧ ∃ F' : Nat → Prop, CAt w' F' b R.2 ∧ Chg F w w' ∧ (∀ x, F' x → F x ∨ w.heap.size ≤ x)
theorem doS_err (S : Clr) (shop trace : Int) (d : Ded) (h : findS S shop trace (needS d.what) d.day ≠ 0) : doS S shop trace d = (findS S shop trace (needS d.what) d.day, toldS S d.day) := by
  unfold findS toldS at *
  unfold doS
  by_cases hd : dayE S.last d.day = 0
  · rw [if_neg (by simpa using hd)] at h ⊢
    rw [if_neg (by simpa using hd), if_pos hd]
    cases hi : idxK S.L shop trace with
    | none => rfl
    | some i =>
      rw [hi] at h
      dsimp only at h ⊢
      by_cases e : (onC S.D (S.L.getD i default).c d.day).st = needS d.what
      · rw [if_neg (by simpa using e)] at h; exact absurd rfl h
      · rw [if_pos e, if_pos e]
  · rw [if_pos hd, if_pos hd, if_neg hd]
end Go.Proofs.Ytdameincehiieaa
