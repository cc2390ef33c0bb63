/- clear: the document's own, plain, and where it lies. -/
import Derived.Test.YtbgplapbdghdmaaClrS
namespace Go.Proofs.Ytbgplapbdghdmaa
open Go.RowKit
set_option linter.unusedVariables false
set_option maxRecDepth 100000

def rank (st : Int) : Nat := if st = 1 then 1 else if st = 2 then 2 else if st = 3 then 3 else if st = 4 then 4 else 5
/-- the deeds of a case: few, of small amounts -/
def okD (k : Kse) : Prop := k.ds.length + 1 ≤ rank k.c.st ∧ ∀ d ∈ k.ds, 0 ≤ d.amt ∧ d.amt ≤ 999999999999
def okDs (L : List Kse) : Prop := ∀ k ∈ L, okD k
theorem okD.len {k : Kse} (h : okD k) : k.ds.length ≤ 4 := by
  have := h.1
  have h2 : rank k.c.st ≤ 5 := by unfold rank; split; omega; split; omega; split; omega; split <;> omega
  omega
theorem post_okDs {S : Clr} (h : okDs S.L) (p : Pst) : okDs (postS S p).2.L := by
  unfold postS
  split; · exact h
  split; · exact h
  split; · exact h
  split; · exact h
  intro k hk
  rcases List.mem_append.1 hk with hk | hk
  · exact h k hk
  · obtain rfl := List.mem_singleton.1 hk
    exact ⟨Nat.le_refl _, fun d hd => (List.not_mem_nil hd).elim⟩
theorem do_okDs {S : Clr} (h : okDs S.L) (shop trace : Int) (d : Ded) (hw : 1 ≤ d.what ∧ d.what ≤ 5) (hok : okS S) (ha : d.what ≠ 1 → d.amt = 0) : okDs (doS S shop trace d).2.L := by
  unfold doS
  split; · exact h
  cases hi : idxK S.L shop trace with
  | none => exact h
  | some i =>
    obtain ⟨k, hk, e1, e2, hlt⟩ := idxK_some hi
    have hg : S.L.getD i default = k := by rw [List.getD_eq_getElem?_getD, hk]; rfl
    dsimp only
    rw [hg]
    split; · exact h
    next hst =>
    split; · exact h
    next ham =>
    have hmem : k ∈ S.L := List.mem_of_getElem? hk
    have hkd := h k hmem
    have hst' : (onC S.D k.c d.day).st = needS d.what := by simpa using hst
    have hns : needS d.what ≠ 6 := by unfold needS; split <;> omega
    obtain ⟨_, hcs⟩ := on_same hst' hns
    obtain ⟨o1, o2, _⟩ := hok.each k hmem
    have hpb := of_decide_eq_false o2
    intro x hx
    rcases List.mem_or_eq_of_mem_set hx with hx | rfl
    · exact h x hx
    · refine ⟨?_, fun y hy => ?_⟩
      · show (k.ds ++ [d]).length + 1 ≤ rank (deed1 S.D k.c d).st
        rw [List.length_append]
        have h1 := hkd.1
        rw [hcs] at h1
        have hc : d.what = 1 ∨ d.what = 2 ∨ d.what = 3 ∨ d.what = 4 ∨ d.what = 5 := by omega
        unfold deed1 needS at *
        rcases hc with e | e | e | e | e <;> rw [e] at h1 ⊢ <;> simp [rank] at h1 ⊢ <;> omega
      · rcases List.mem_append.1 hy with hy | hy
        · exact hkd.2 y hy
        · obtain rfl := List.mem_singleton.1 hy
          by_cases e : y.what = 1
          · omega
          · rw [ha e]; omega
/-- what the debts of a list come to, between two banks -/
def sumO : List Ow → Int → Int → Int
  | [], _, _ => 0
  | o :: l, a, b => (if o.a = a ∧ o.b = b then o.n else 0) + sumO l a b
theorem sumO_append (l m : List Ow) (a b : Int) : sumO (l ++ m) a b = sumO l a b + sumO m a b := by
  induction l with
  | nil => simp [sumO]
  | cons o l ih => rw [List.cons_append, sumO, sumO, ih]; omega
theorem sumO_pos {l : List Ow} (h : ∀ o ∈ l, 0 ≤ o.n) (a b : Int) : 0 ≤ sumO l a b := by
  induction l with
  | nil => exact Int.le_refl _
  | cons o l ih =>
    have h1 := h o (List.mem_cons_self)
    have h2 := ih (fun x hx => h x (List.mem_cons_of_mem _ hx))
    rw [sumO]
    split <;> omega
theorem sumO_take {l : List Ow} (h : ∀ o ∈ l, 0 ≤ o.n) (a b : Int) (k : Nat) : sumO (l.take k) a b ≤ sumO l a b := by
  have e := sumO_append (l.take k) (l.drop k) a b
  rw [List.take_append_drop] at e
  have := sumO_pos (l := l.drop k) (fun o ho => h o (List.mem_of_mem_drop ho)) a b
  omega
/-- the debt that a payment makes -/
def owD (p : Pst) (n : Int) : Ow := if n < 0 then ⟨p.to, p.frm, -n⟩ else ⟨p.frm, p.to, n⟩
theorem sumO_owD (l : List Ow) (p : Pst) (n a b : Int) (ow : Int → Int → Int) (hab : a ≠ b) (h : sumO l a b = ow a b) : sumO (l ++ [owD p n]) a b = owU ow p n a b := by
  rw [sumO_append, h]
  unfold owD owU
  by_cases hn : n < 0
  · rw [if_pos hn]
    simp only [sumO]
    by_cases e : p.to = a ∧ p.frm = b
    · obtain ⟨rfl, rfl⟩ := e
      rw [if_pos ⟨rfl, rfl⟩, if_neg (Ne.symm hab), if_neg (by omega), if_pos ⟨hn, rfl, rfl⟩]; omega
    · rw [if_neg e]
      split; · omega
      rw [if_neg (by omega), if_neg (fun hh => e ⟨hh.2.1.symm, hh.2.2.symm⟩)]; omega
  · rw [if_neg hn]
    simp only [sumO]
    by_cases e : p.frm = a ∧ p.to = b
    · obtain ⟨rfl, rfl⟩ := e
      rw [if_pos ⟨rfl, rfl⟩, if_neg hab]
      by_cases h0 : 0 < n
      · rw [if_pos ⟨h0, rfl, rfl⟩]; omega
      · rw [if_neg (by omega), if_neg (by omega)]; omega
    · rw [if_neg e]
      split; · omega
      rw [if_neg (fun hh => e ⟨hh.2.1.symm, hh.2.2.symm⟩), if_neg (by omega)]; omega
def cellsK (k : Kse × Value) : List Value := [.int .i64 k.1.p.frm, .int .i64 k.1.p.to, .int .i64 k.1.p.shop, .int .i64 k.1.p.trace, .int .i64 k.1.p.amt, .int .i64 k.1.p.day, k.2]
def cellsDd (d : Ded) : List Value := [.int .i64 d.what, .int .i64 d.day, .int .i64 d.amt]
/-- the block of the document's Clear -/
def RB (w : World) (r : Nat) (D : Dys) (vL : Value) (t : Int) (vO : Value) : Prop := w.heap[r]? = some (.cells #[.int .i64 D.di, .int .i64 D.an, .int .i64 D.ins, .int .i64 D.fee, vL, .int .i64 t, .int .i64 0, vO] 57 (0, 0))
theorem RB.cells {w : World} {r : Nat} {D : Dys} {t : Int} {vL vO : Value} (h : RB w r D vL t vO) :
    w.cell? ⟨r, 0, none⟩ = some (.int .i64 D.di) ∧ w.cell? ⟨r, 1, none⟩ = some (.int .i64 D.an) ∧ w.cell? ⟨r, 2, none⟩ = some (.int .i64 D.ins) ∧ w.cell? ⟨r, 3, none⟩ = some (.int .i64 D.fee) ∧ w.cell? ⟨r, 4, none⟩ = some vL ∧ w.cell? ⟨r, 5, none⟩ = some (.int .i64 t) ∧ w.cell? ⟨r, 7, none⟩ = some vO := by
  unfold RB at h
  refine ⟨?_, ?_, ?_, ?_, ?_, ?_, ?_⟩ <;> simp [World.cell?, h]
theorem RB.frozen {w : World} {r : Nat} {D : Dys} {t : Int} {vL vO : Value} (h : RB w r D vL t vO) (i : Nat) : w.frozen? ⟨r, i, none⟩ = false := by unfold RB at h; simp [World.frozen?, h]
theorem RB.of_block {w w' : World} {r : Nat} {D : Dys} {t : Int} {vL vO : Value} (h : RB w r D vL t vO) (k : w'.heap[r]? = w.heap[r]?) : RB w' r D vL t vO := k.trans h
theorem RB.lt {w : World} {r : Nat} {D : Dys} {t : Int} {vL vO : Value} (h : RB w r D vL t vO) : r < w.heap.size := blk_lt h
theorem RB.tell {w : World} {r : Nat} {D : Dys} {t : Int} {vL vO : Value} (h : RB w r D vL t vO) (d : Int) : RB (w.setCell ⟨r, 5, none⟩ (.int .i64 d)) r D vL d vO := by
  unfold RB at *
  simp [World.setCell, Array.getElem?_modify, h]
theorem RB.setL {w : World} {r : Nat} {D : Dys} {t : Int} {vL vO : Value} (h : RB w r D vL t vO) (v : Value) : RB (w.setCell ⟨r, 4, none⟩ v) r D v t vO := by
  unfold RB at *
  simp [World.setCell, Array.getElem?_modify, h]
theorem RB.setO {w : World} {r : Nat} {D : Dys} {t : Int} {vL vO : Value} (h : RB w r D vL t vO) (v : Value) : RB (w.setCell ⟨r, 7, none⟩ v) r D vL t v := by
  unfold RB at *
  simp [World.setCell, Array.getElem?_modify, h]
/-- the row is as it was where its block is -/
theorem OwnR.of_block {α : Type} {w w' : World} {base : Nat} {e : TypeId} {m : Nat} {c : α → List Value} {v : Value} {l : List α} (h : OwnR w base e m c v l) (hk : ∀ x, v.ownBlock = some x → w'.heap[x]? = w.heap[x]?) : OwnR w' base e m c v l := by
  refine ⟨h.1, ?_⟩
  rcases h.2 with h0 | ⟨g, cap, cur, e1, e2, e3, e4⟩
  · exact .inl h0
  · exact .inr ⟨g, cap, cur, e1, e2, by rw [hk g (by rw [e1]; rfl)]; exact e3, e4⟩
/-- which type lies in a row's block -/
theorem OwnR.tag {α : Type} {w : World} {base : Nat} {e : TypeId} {m : Nat} {c : α → List Value} {v : Value} {l : List α} (h : OwnR w base e m c v l) {x : Nat} (hx : v.ownBlock = some x) : ∃ cur, w.heap[x]? = some (.cells cur e (0, 0)) := by
  rcases h.2 with ⟨h0, _⟩ | ⟨g, cap, cur, e1, e2, e3, e4⟩
  · rw [h0] at hx; cases hx
  · rw [e1] at hx
    obtain rfl : g = x := Option.some.inj hx
    exact ⟨cur, e3⟩
structure RIn (w : World) (G : Nat → Prop) (r : Nat) (S : Clr) (vL vO : Value) (ks : List (Kse × Value)) (os : List Ow) : Prop where
  blk : RB w r S.D vL S.last vO
  lst : ks.map Prod.fst = S.L
  row : OwnR w 0 91 7 cellsK vL ks
  deeds : ∀ k ∈ ks, OwnR w 0 60 3 cellsDd k.2 k.1.ds
  owed : OwnR w 0 46 3 cellsO vO os
  sums : ∀ a b, a ≠ b → sumO os a b = S.ow a b
  pos : ∀ o ∈ os, 0 ≤ o.n
  cnt : 1000000000000 * (os.length : Int) ≤ sumB S.L
  gr : G r
  gL : ∀ x, vL.ownBlock = some x → G x
  gO : ∀ x, vO.ownBlock = some x → G x
  gD : ∀ k ∈ ks, ∀ x, k.2.ownBlock = some x → G x
  glt : ∀ x, G x → x < w.heap.size
  nod : ∀ k ∈ ks, k.1.ds = [] → k.2 = .slice none 0 0
def RAt (w : World) (G : Nat → Prop) (r : Nat) (S : Clr) : Prop := ∃ vL vO ks os, RIn w G r S vL vO ks os
variable {w w' : World} {G : Nat → Prop} {r : Nat} {S : Clr} {vL vO : Value} {ks : List (Kse × Value)} {os : List Ow}
theorem RIn.keep (h : RIn w G r S vL vO ks os) (hs : w.heap.size ≤ w'.heap.size) (hb : ∀ x, G x → w'.heap[x]? = w.heap[x]?) : RIn w' G r S vL vO ks os :=
  { h with blk := h.blk.of_block (hb r h.gr), row := h.row.of_block (fun x hx => hb x (h.gL x hx)), deeds := fun k hk => (h.deeds k hk).of_block (fun x hx => hb x (h.gD k hk x hx)), owed := h.owed.of_block (fun x hx => hb x (h.gO x hx)), glt := fun x hx => Nat.lt_of_lt_of_le (h.glt x hx) hs }
theorem RIn.ne_row (h : RIn w G r S vL vO ks os) : vL.ownBlock ≠ some r := fun e => by
  obtain ⟨cur, hc⟩ := h.row.tag e
  have := h.blk
  unfold RB at this
  rw [this] at hc
  injection hc with hc
  injection hc with _ hc _
  exact absurd hc (by decide)
theorem RIn.ne_owed (h : RIn w G r S vL vO ks os) : vO.ownBlock ≠ some r := fun e => by
  obtain ⟨cur, hc⟩ := h.owed.tag e
  have := h.blk
  unfold RB at this
  rw [this] at hc
  injection hc with hc
  injection hc with _ hc _
  exact absurd hc (by decide)
theorem RIn.ne_deed (h : RIn w G r S vL vO ks os) {k : Kse × Value} (hk : k ∈ ks) : k.2.ownBlock ≠ some r := fun e => by
  obtain ⟨cur, hc⟩ := (h.deeds k hk).tag e
  have := h.blk
  unfold RB at this
  rw [this] at hc
  injection hc with hc
  injection hc with _ hc _
  exact absurd hc (by decide)
theorem RIn.told (h : RIn w G r S vL vO ks os) (d : Int) : RIn (w.setCell ⟨r, 5, none⟩ (.int .i64 d)) G r { S with last := d } vL vO ks os :=
  { h with blk := h.blk.tell d, row := h.row.other h.ne_row _, deeds := fun k hk => (h.deeds k hk).other (h.ne_deed hk) _, owed := h.owed.other h.ne_owed _, glt := fun x hx => by have := h.glt x hx; simpa [World.setCell] using this }
end Go.Proofs.Ytbgplapbdghdmaa
