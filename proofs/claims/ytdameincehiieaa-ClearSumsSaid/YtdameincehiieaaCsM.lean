/- ClearSums: what lies in memory. -/
import Derived.Test.YtdameincehiieaaCsP
import Derived.Test.YtdameincehiieaaMapK
import Derived.Test.YtdameincehiieaaClpS
namespace Go.Proofs.Ytdameincehiieaa
open Go.RowKit Go.WideMaps Go.Maps
set_option linter.unusedVariables false
set_option linter.unusedSimpArgs false
set_option maxRecDepth 100000

theorem nodup_sub {α : Type} [DecidableEq α] : ∀ (l m : List α), l.Nodup → (∀ x ∈ l, x ∈ m) → l.length ≤ m.length := by
  intro l
  induction l with
  | nil => intro m _ _; exact Nat.zero_le _
  | cons x l ih =>
    intro m hn hs
    obtain ⟨h1, h2⟩ := List.nodup_cons.1 hn
    have hx := hs x List.mem_cons_self
    have := ih (m.erase x) h2 (fun y hy => (List.mem_erase_of_ne (show y ≠ x from fun e => h1 (by rw [← e]; exact hy))).2 (hs y (List.mem_cons_of_mem _ hy)))
    rw [List.length_erase_of_mem hx] at this
    have hp : 0 < m.length := List.length_pos_of_mem hx
    rw [List.length_cons]; omega
/-- where the law's four maps lie -/
structure Bks where
  p : Nat
  j : Nat
  d : Nat
  o : Nat
def TK : TypeId := 60
def TA : TypeId := 61
/-- what the law's four maps hold -/
structure Hld where
  G : Int → Int → Option Pst
  J : Int → Int → Option Int
  N : Int → Int → Option Cse
  O : Int → Int → Option Int
def Hld.o (h : Hld) (a b : Int) : Int := (h.O a b).getD 0
structure CsW (w wr : World) (F : Nat → Prop) (b : Nat) (S : Clr) (B : Bks) (H : Hld) : Prop where
  c : CAt wr F b S
  mp : ∃ ks, GMap rdP 60 wr B.p H.G ks
  mj : ∃ ks, GMap rdI 60 wr B.j H.J ks
  md : ∃ ks, GMap rdC 60 wr B.d H.N ks
  mo : ∃ ks, GMap rdI 61 wr B.o H.O ks
  nF : ∀ x, F x → x ≠ B.p ∧ x ≠ B.j ∧ x ≠ B.d ∧ x ≠ B.o
  nB : B.p ≠ B.j ∧ B.p ≠ B.d ∧ B.p ≠ B.o ∧ B.j ≠ B.d ∧ B.j ≠ B.o ∧ B.d ≠ B.o
  fB : ∀ x, F x → w.heap.size ≤ x
  mB : w.heap.size ≤ B.p ∧ w.heap.size ≤ B.j ∧ w.heap.size ≤ B.d ∧ w.heap.size ≤ B.o
  bel : Below w.heap.size w wr
/-- what is known of it -/
structure CsV (S : Clr) (H : Hld) : Prop where
  inv : CsI S H.o H.J H.G H.N
  jk : ∀ x y, (H.J x y).isSome = true → (H.G x y).isSome = true
  ok : ∀ x y, (H.O x y).isSome = true → 1 ≤ x ∧ x ≤ 99 ∧ 1 ≤ y ∧ y ≤ 99
section
variable {w wr w' : World} {F F' : Nat → Prop} {b : Nat} {S S' : Clr} {B : Bks} {H : Hld}
theorem CAt.ltS (h : CAt wr F b S) : ∀ x, F x → x < wr.heap.size := by obtain ⟨_, _, _, _, _, h⟩ := h; exact h.flt
theorem CAt.keepS (h : CAt wr F b S) (hs : wr.heap.size ≤ w'.heap.size) (hb : ∀ x, F x → w'.heap[x]? = wr.heap[x]?) : CAt w' F b S := by obtain ⟨a1, a2, a3, a4, a5, h⟩ := h; exact ⟨a1, a2, a3, a4, a5, h.keep hs hb⟩
theorem CsW.lt (h : CsW w wr F b S B H) : B.p < wr.heap.size ∧ B.j < wr.heap.size ∧ B.d < wr.heap.size ∧ B.o < wr.heap.size := by
  obtain ⟨_, h1⟩ := h.mp; obtain ⟨_, h2⟩ := h.mj; obtain ⟨_, h3⟩ := h.md; obtain ⟨_, h4⟩ := h.mo
  exact ⟨h1.lt, h2.lt, h3.lt, h4.lt⟩
theorem CsW.below (h : CsW w wr F b S B H) (hb : Below wr.heap.size wr w') : CsW w w' F b S B H := by
  obtain ⟨l1, l2, l3, l4⟩ := h.lt
  obtain ⟨k1, g1⟩ := h.mp; obtain ⟨k2, g2⟩ := h.mj; obtain ⟨k3, g3⟩ := h.md; obtain ⟨k4, g4⟩ := h.mo
  exact { h with c := h.c.keepS hb.size (fun x hx => hb.block x (h.c.ltS x hx)), mp := ⟨k1, g1.below hb⟩, mj := ⟨k2, g2.below hb⟩, md := ⟨k3, g3.below hb⟩, mo := ⟨k4, g4.below hb⟩, bel := h.bel.trans (hb.mono h.bel.size) }
/-- behind a call of the Clear -/
theorem CsW.call (h : CsW w wr F b S B H) (hc : CAt w' F' b S') (hC : Chg F wr w') (hF : ∀ x, F' x → F x ∨ wr.heap.size ≤ x) : CsW w w' F' b S' B H := by
  obtain ⟨l1, l2, l3, l4⟩ := h.lt
  obtain ⟨k1, g1⟩ := h.mp; obtain ⟨k2, g2⟩ := h.mj; obtain ⟨k3, g3⟩ := h.md; obtain ⟨k4, g4⟩ := h.mo
  have hs := h.bel.size
  refine { h with c := hc, mp := ⟨k1, g1.of_block (hC.block _ l1 (fun hf => (h.nF _ hf).1 rfl))⟩, mj := ⟨k2, g2.of_block (hC.block _ l2 (fun hf => (h.nF _ hf).2.1 rfl))⟩, md := ⟨k3, g3.of_block (hC.block _ l3 (fun hf => (h.nF _ hf).2.2.1 rfl))⟩, mo := ⟨k4, g4.of_block (hC.block _ l4 (fun hf => (h.nF _ hf).2.2.2 rfl))⟩, nF := fun x hx => ?_, fB := fun x hx => ?_, bel := h.bel.trans (hC.below hs h.fB) }
  · rcases hF x hx with e | e
    · exact h.nF x e
    · exact ⟨by omega, by omega, by omega, by omega⟩
  · rcases hF x hx with e | e
    · exact h.fB x e
    · omega
theorem CsW.putP (h : CsW w wr F b S B H) {G' : Int → Int → Option Pst} {ks : List (Int × Int)} (hg : GMap rdP 60 w' B.p G' ks) (hC : Chg (fun x => x = B.p) wr w') : CsW w w' F b S B { H with G := G' } := by
  obtain ⟨l1, l2, l3, l4⟩ := h.lt
  obtain ⟨n1, n2, n3, n4, n5, n6⟩ := h.nB
  obtain ⟨k2, g2⟩ := h.mj; obtain ⟨k3, g3⟩ := h.md; obtain ⟨k4, g4⟩ := h.mo
  exact { h with c := h.c.keepS hC.size (fun x hx => hC.block x (h.c.ltS x hx) (h.nF x hx).1), mp := ⟨_, hg⟩, mj := ⟨k2, g2.of_block (hC.block _ l2 (Ne.symm n1))⟩, md := ⟨k3, g3.of_block (hC.block _ l3 (Ne.symm n2))⟩, mo := ⟨k4, g4.of_block (hC.block _ l4 (Ne.symm n3))⟩, bel := h.bel.trans (hC.below h.bel.size (fun x hx => by subst hx; exact h.mB.1)) }
theorem CsW.putJ (h : CsW w wr F b S B H) {J' : Int → Int → Option Int} {ks : List (Int × Int)} (hg : GMap rdI 60 w' B.j J' ks) (hC : Chg (fun x => x = B.j) wr w') : CsW w w' F b S B { H with J := J' } := by
  obtain ⟨l1, l2, l3, l4⟩ := h.lt
  obtain ⟨n1, n2, n3, n4, n5, n6⟩ := h.nB
  obtain ⟨k1, g1⟩ := h.mp; obtain ⟨k3, g3⟩ := h.md; obtain ⟨k4, g4⟩ := h.mo
  exact { h with c := h.c.keepS hC.size (fun x hx => hC.block x (h.c.ltS x hx) (h.nF x hx).2.1), mj := ⟨_, hg⟩, mp := ⟨k1, g1.of_block (hC.block _ l1 n1)⟩, md := ⟨k3, g3.of_block (hC.block _ l3 (Ne.symm n4))⟩, mo := ⟨k4, g4.of_block (hC.block _ l4 (Ne.symm n5))⟩, bel := h.bel.trans (hC.below h.bel.size (fun x hx => by subst hx; exact h.mB.2.1)) }
theorem CsW.putD (h : CsW w wr F b S B H) {N' : Int → Int → Option Cse} {ks : List (Int × Int)} (hg : GMap rdC 60 w' B.d N' ks) (hC : Chg (fun x => x = B.d) wr w') : CsW w w' F b S B { H with N := N' } := by
  obtain ⟨l1, l2, l3, l4⟩ := h.lt
  obtain ⟨n1, n2, n3, n4, n5, n6⟩ := h.nB
  obtain ⟨k1, g1⟩ := h.mp; obtain ⟨k2, g2⟩ := h.mj; obtain ⟨k4, g4⟩ := h.mo
  exact { h with c := h.c.keepS hC.size (fun x hx => hC.block x (h.c.ltS x hx) (h.nF x hx).2.2.1), md := ⟨_, hg⟩, mp := ⟨k1, g1.of_block (hC.block _ l1 n2)⟩, mj := ⟨k2, g2.of_block (hC.block _ l2 n4)⟩, mo := ⟨k4, g4.of_block (hC.block _ l4 (Ne.symm n6))⟩, bel := h.bel.trans (hC.below h.bel.size (fun x hx => by subst hx; exact h.mB.2.2.1)) }
theorem CsW.putO (h : CsW w wr F b S B H) {O' : Int → Int → Option Int} {ks : List (Int × Int)} (hg : GMap rdI 61 w' B.o O' ks) (hC : Chg (fun x => x = B.o) wr w') : CsW w w' F b S B { H with O := O' } := by
  obtain ⟨l1, l2, l3, l4⟩ := h.lt
  obtain ⟨n1, n2, n3, n4, n5, n6⟩ := h.nB
  obtain ⟨k1, g1⟩ := h.mp; obtain ⟨k2, g2⟩ := h.mj; obtain ⟨k3, g3⟩ := h.md
  exact { h with c := h.c.keepS hC.size (fun x hx => hC.block x (h.c.ltS x hx) (h.nF x hx).2.2.2), mo := ⟨_, hg⟩, mp := ⟨k1, g1.of_block (hC.block _ l1 n3)⟩, mj := ⟨k2, g2.of_block (hC.block _ l2 n5)⟩, md := ⟨k3, g3.of_block (hC.block _ l3 n6)⟩, bel := h.bel.trans (hC.below h.bel.size (fun x hx => by subst hx; exact h.mB.2.2.2)) }
/-- the maps are small -/
theorem CsV.small (h : CsV S H) {β : Type} {R : Rdr β} {K : TypeId} {m : Nat} {g : Int → Int → Option β} {ks : List (Int × Int)} (hg : GMap R K wr m g ks) (hs : ∀ x y, (g x y).isSome = true → (H.G x y).isSome = true) : ks.length ≤ 100000 := by
  obtain ⟨D, _, _, hn, hk, _⟩ := hg
  refine Nat.le_trans (nodup_sub ks (S.L.map (fun k => (k.p.shop, k.p.trace))) hn (fun x hx => ?_)) (by rw [List.length_map]; exact h.inv.ok.len)
  have h1 := hs x.1 x.2 ((hk x).1 hx)
  rw [h.inv.gp x.1 x.2] at h1
  obtain ⟨p, hp⟩ := Option.isSome_iff_exists.1 h1
  obtain ⟨k, hk, _⟩ := Option.map_eq_some_iff.1 hp
  have e1 : keyIs x.1 x.2 k = true := List.find?_some hk
  have e := of_decide_eq_true e1
  exact List.mem_map.2 ⟨k, List.mem_of_find?_eq_some hk, by rw [e.1, e.2]⟩
theorem CsI.dnG {S : Clr} {O : Int → Int → Int} {J : Int → Int → Option Int} {G : Int → Int → Option Pst} {N : Int → Int → Option Cse} (h : CsI S O J G N) (x y : Int) (hn : (N x y).isSome = true) : (G x y).isSome = true := by
  obtain ⟨d, hd⟩ := Option.isSome_iff_exists.1 hn
  obtain ⟨_, k, hk, hkey, _⟩ := h.dn x y d hd
  rw [h.gp x y]
  cases hf : S.L.find? (keyIs x y) with
  | none => exact absurd hkey (by simpa using List.find?_eq_none.1 hf k hk)
  | some k' => rfl
/-- the map of what is owed is small -/
theorem owed_small {R : Rdr Int} {K : TypeId} {m : Nat} {g : Int → Int → Option Int} {ks : List (Int × Int)} (hg : GMap R K wr m g ks) (hs : ∀ x y, (g x y).isSome = true → 1 ≤ x ∧ x ≤ 99 ∧ 1 ≤ y ∧ y ≤ 99) : ks.length ≤ 10000 := by
  obtain ⟨D, _, _, hn, hk, _⟩ := hg
  have h1 : (ks.map (fun p => (p.1 * 100 + p.2).toNat)).Nodup := by
    rw [List.Nodup, List.pairwise_map]
    refine List.Pairwise.imp_of_mem (fun {x y} hx hy hne e => hne ?_) hn
    have a1 := hs x.1 x.2 ((hk x).1 hx)
    have a2 := hs y.1 y.2 ((hk y).1 hy)
    obtain ⟨x1, x2⟩ := x
    obtain ⟨y1, y2⟩ := y
    dsimp only at *
    have : x1 = y1 ∧ x2 = y2 := by omega
    rw [this.1, this.2]
  have h2 := nodup_sub (ks.map (fun p => (p.1 * 100 + p.2).toNat)) (List.range 10000) h1 (fun x hx => by
    obtain ⟨p, hp, rfl⟩ := List.mem_map.1 hx
    have a1 := hs p.1 p.2 ((hk p).1 hp)
    rw [List.mem_range]; omega)
  rw [List.length_map, List.length_range] at h2
  exact h2
def sumAt (l : List Ow) (a b : Int) : Int := (l.map (fun o => if o.a = a ∧ o.b = b then o.n else 0)).sum
def addO (O : Int → Int → Option Int) (o : Ow) : Int → Int → Option Int := upd2 O o.a o.b (some ((O o.a o.b).getD 0 + o.n))
theorem sumAt_append (l m : List Ow) (a b : Int) : sumAt (l ++ m) a b = sumAt l a b + sumAt m a b := by unfold sumAt; rw [List.map_append, List.sum_append]
theorem addO_fold (l : List Ow) : ∀ (O : Int → Int → Option Int) (a b : Int), ((l.foldl addO O) a b).getD 0 = (O a b).getD 0 + sumAt l a b := by
  induction l with
  | nil => intro O a b; simp [sumAt]
  | cons o l ih =>
    intro O a b
    rw [List.foldl_cons, ih]
    have e : sumAt (o :: l) a b = (if o.a = a ∧ o.b = b then o.n else 0) + sumAt l a b := by unfold sumAt; rw [List.map_cons, List.sum_cons]
    rw [e]
    unfold addO
    by_cases h : a = o.a ∧ b = o.b
    · obtain ⟨rfl, rfl⟩ := h
      rw [upd2_at, if_pos ⟨rfl, rfl⟩]
      show (O o.a o.b).getD 0 + o.n + _ = _
      omega
    · rw [upd2_off _ _ _ _ h, if_neg (fun hh => h ⟨hh.1.symm, hh.2.symm⟩)]
      omega
theorem addO_keys (l : List Ow) : ∀ (O : Int → Int → Option Int), (∀ x y, (O x y).isSome = true → 1 ≤ x ∧ x ≤ 99 ∧ 1 ≤ y ∧ y ≤ 99) → (∀ o ∈ l, 1 ≤ o.a ∧ o.a ≤ 99 ∧ 1 ≤ o.b ∧ o.b ≤ 99) → ∀ x y, ((l.foldl addO O) x y).isSome = true → 1 ≤ x ∧ x ≤ 99 ∧ 1 ≤ y ∧ y ≤ 99 := by
  induction l with
  | nil => intro O h _; exact h
  | cons o l ih =>
    intro O h ho
    refine ih (addO O o) (fun x y hx => ?_) (fun o' h' => ho o' (List.mem_cons_of_mem _ h'))
    unfold addO at hx
    by_cases e : x = o.a ∧ y = o.b
    · rw [e.1, e.2]; exact ho o List.mem_cons_self
    · rw [upd2_off _ _ _ _ e] at hx; exact h x y hx
theorem sumAt_cutB (f : Int → Int → Int) (c a b : Int) (k : Nat) : sumAt (cutB f c k) a b = if a = c ∧ 1 ≤ b ∧ b ≤ k then f a b else 0 := by
  induction k with
  | zero => rw [if_neg (by omega)]; rfl
  | succ k ih =>
    rw [cutB, sumAt_append, ih]
    by_cases e : a = c ∧ b = (k : Int) + 1
    · obtain ⟨rfl, rfl⟩ := e
      rw [if_neg (c := a = a ∧ 1 ≤ (k : Int) + 1 ∧ (k : Int) + 1 ≤ k) (by omega), if_pos (c := a = a ∧ 1 ≤ (k : Int) + 1 ∧ (k : Int) + 1 ≤ ((k + 1 : Nat) : Int)) ⟨rfl, by omega, by omega⟩]
      by_cases h0 : f a ((k : Int) + 1) = 0
      · rw [if_pos h0, h0]; rfl
      · rw [if_neg h0]; simp [sumAt]
    · have h2 : sumAt (if f c ((k : Int) + 1) = 0 then [] else [⟨c, (k : Int) + 1, f c ((k : Int) + 1)⟩]) a b = 0 := by
        split
        · rfl
        · have : ¬ (c = a ∧ (k : Int) + 1 = b) := fun h => e ⟨h.1.symm, h.2.symm⟩
          simp only [sumAt, List.map_cons, List.map_nil, List.sum_cons, List.sum_nil]
          rw [if_neg this]; rfl
      rw [h2]
      by_cases h3 : a = c ∧ 1 ≤ b ∧ b ≤ k
      · rw [if_pos h3, if_pos (by omega)]; omega
      · rw [if_neg h3, if_neg (by omega)]; rfl
theorem sumAt_cutA (f : Int → Int → Int) (a b : Int) (k : Nat) : sumAt (cutA f k) a b = if 1 ≤ a ∧ a ≤ k ∧ 1 ≤ b ∧ b ≤ 99 then f a b else 0 := by
  induction k with
  | zero => rw [if_neg (by omega)]; rfl
  | succ k ih =>
    rw [cutA, sumAt_append, ih, sumAt_cutB]
    by_cases e : a = (k : Int) + 1
    · rw [if_neg (by omega)]
      by_cases h3 : 1 ≤ b ∧ b ≤ 99
      · rw [if_pos (by omega), if_pos (by omega)]; omega
      · rw [if_neg (by omega), if_neg (by omega)]; rfl
    · rw [if_neg (c := a = (k : Int) + 1 ∧ _) (by omega)]
      by_cases h3 : 1 ≤ a ∧ a ≤ k ∧ 1 ≤ b ∧ b ≤ 99
      · rw [if_pos h3, if_pos (by omega)]; omega
      · rw [if_neg h3, if_neg (by omega)]; rfl
theorem mem_cutL {f : Int → Int → Int} {o : Ow} (h : o ∈ cutL f) : 1 ≤ o.a ∧ o.a ≤ 99 ∧ 1 ≤ o.b ∧ o.b ≤ 99 ∧ o.n = f o.a o.b ∧ o.n ≠ 0 := by
  rw [show cutL f = cutA f 99 from rfl, mem_cutA] at h
  exact h
theorem sumAt_cutL {f : Int → Int → Int} (h2 : ∀ a b, f a b ≠ 0 → 1 ≤ a ∧ a ≤ 99 ∧ 1 ≤ b ∧ b ≤ 99 ∧ a ≠ b) (a b : Int) : sumAt (cutL f) a b = f a b := by
  unfold cutL
  rw [sumAt_cutA]
  by_cases h : f a b = 0
  · rw [h]; split <;> rfl
  · have := h2 a b h
    rw [if_pos ⟨by omega, by omega, by omega, by omega⟩]
theorem sumAt_take (l : List Ow) (h : ∀ o ∈ l, 0 ≤ o.n) (k : Nat) (a b : Int) : 0 ≤ sumAt (l.take k) a b ∧ sumAt (l.take k) a b ≤ sumAt l a b := by
  have pos : ∀ l : List Ow, (∀ o ∈ l, 0 ≤ o.n) → 0 ≤ sumAt l a b := by
    intro l
    induction l with
    | nil => intro _; exact Int.le_refl _
    | cons o l ih =>
      intro h
      have e : sumAt (o :: l) a b = (if o.a = a ∧ o.b = b then o.n else 0) + sumAt l a b := by unfold sumAt; rw [List.map_cons, List.sum_cons]
      have h1 := h o List.mem_cons_self
      have h2 := ih (fun o' h' => h o' (List.mem_cons_of_mem _ h'))
      rw [e]
      split <;> omega
  have e : sumAt l a b = sumAt (l.take k) a b + sumAt (l.drop k) a b := by rw [← sumAt_append, List.take_append_drop]
  have h1 := pos (l.take k) (fun o ho => h o (List.mem_of_mem_take ho))
  have h2 := pos (l.drop k) (fun o ho => h o (List.mem_of_mem_drop ho))
  omega
/-- behind a Cut whose rows were added up -/
theorem CsV.cut (h : CsV S H) : CsV { S with ow := fun _ _ => 0 } { H with O := (cutL S.ow).foldl addO H.O } := by
  obtain ⟨cl, hcl⟩ : ∃ cl, cl = cutL S.ow := ⟨_, rfl⟩
  have hm : ∀ o ∈ cl, 1 ≤ o.a ∧ o.a ≤ 99 ∧ 1 ≤ o.b ∧ o.b ≤ 99 := fun o ho => by
    rw [hcl] at ho
    have := mem_cutL ho
    exact ⟨this.1, this.2.1, this.2.2.1, this.2.2.2.1⟩
  have hs : ∀ a b, sumAt cl a b = S.ow a b := fun a b => by rw [hcl]; exact sumAt_cutL h.inv.ok.ow2 a b
  rw [← hcl]
  clear hcl
  have e : Hld.o { H with O := cl.foldl addO H.O } = fun a b => H.o a b + S.ow a b := by
    funext a b
    show ((cl.foldl addO H.O) a b).getD 0 = (H.O a b).getD 0 + S.ow a b
    rw [addO_fold, hs]
  exact ⟨by rw [e]; exact h.inv.cut, h.jk, addO_keys cl H.O h.ok hm⟩
/-- no sum runs over -/
theorem CsV.room (h : CsV S H) (k : Nat) (a b : Int) : 0 ≤ (((cutL S.ow).take k).foldl addO H.O a b).getD 0 ∧ (((cutL S.ow).take k).foldl addO H.O a b).getD 0 ≤ 500000000000000000 := by
  rw [addO_fold]
  have h1 := sumAt_take (cutL S.ow) (fun o ho => by have := (mem_cutL ho).2.2.2.2.1; rw [this]; exact h.inv.ok.ow0 _ _) k a b
  rw [sumAt_cutL h.inv.ok.ow2] at h1
  have h2 := h.inv.tot.small a b
  dsimp only at h2
  have h3 := h.inv.o0 a b
  have e : H.o a b = (H.O a b).getD 0 := rfl
  rw [e] at h2 h3
  omega
end
end Go.Proofs.Ytdameincehiieaa
