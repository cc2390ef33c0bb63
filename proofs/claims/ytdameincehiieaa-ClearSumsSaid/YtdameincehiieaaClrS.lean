/- clear: Cut: what is collected out of the map. -/
import Derived.Test.YtdameincehiieaaClrR
import Derived.Test.YtdameincehiieaaSrtK
import Derived.Maps.RangeWalk
import Derived.Sort.OwnSorted
namespace Go.Proofs.Ytdameincehiieaa
open Go.RowKit Go.WideMaps Go.Maps Go.Sort
set_option linter.unusedVariables false
set_option maxRecDepth 100000

def CollO (D : DataW Unit) (f : Int → Int → Int) (left : Lit → Bool) (l : List Ow) : Prop :=
  l.Nodup ∧ ∀ o : Ow, o ∈ l ↔ (InR o.a ∧ InR o.b ∧ o.n = f o.a o.b ∧ ∃ kl, keyOf Try.prog 89 (twoV o.a o.b) = some kl ∧ has D kl = true ∧ left kl = false)
theorem CollO.start (D : DataW Unit) (f : Int → Int → Int) : CollO D f (has D) [] :=
  ⟨List.nodup_nil, fun o => ⟨fun h => (List.not_mem_nil h).elim, fun ⟨_, _, _, kl, _, h1, h2⟩ => by rw [h1] at h2; cases h2⟩⟩
theorem CollO.step {D : DataW Unit} {f : Int → Int → Int} {left : Lit → Bool} {l : List Ow} (h : CollO D f left l) {a b : Int} {kl : Lit} (ha : InR a) (hb : InR b) (hkey : keyOf Try.prog 89 (twoV a b) = some kl) (hlk : left kl = true) (hhas : has D kl = true) :
    CollO D f (fun z => left z && !z.sameKey kl) (l ++ [⟨a, b, f a b⟩]) := by
  have hnew : (⟨a, b, f a b⟩ : Ow) ∉ l := fun hx => by
    obtain ⟨_, _, _, kl', h1, _, h2⟩ := (h.2 _).1 hx
    obtain rfl : kl = kl' := Option.some.inj (hkey.symm.trans h1)
    rw [hlk] at h2; cases h2
  refine ⟨List.nodup_append.2 ⟨h.1, by simp, fun x hx y hy => by simp at hy; subst hy; exact fun e => hnew (e ▸ hx)⟩, fun o => ?_⟩
  rw [List.mem_append, List.mem_singleton, h.2 o]
  constructor
  · rintro (⟨h1, h2, h3, kl', h4, h5, h6⟩ | rfl)
    · exact ⟨h1, h2, h3, kl', h4, h5, by show (left kl' && _) = false; rw [h6]; rfl⟩
    · exact ⟨ha, hb, rfl, kl, hkey, hhas, by show (left kl && !kl.sameKey kl) = false; rw [WideAt.sameKey_self (lawPair.key hkey)]; simp⟩
  · rintro ⟨h1, h2, h3, kl', h4, h5, h6⟩
    cases hl : left kl' with
    | false => exact .inl ⟨h1, h2, h3, kl', h4, h5, hl⟩
    | true =>
      right
      have h6' : (left kl' && !kl'.sameKey kl) = false := h6
      rw [hl] at h6'
      have hs : kl'.sameKey kl = true := by simpa using h6'
      obtain rfl := WideAt.sameKey_eq hs
      obtain ⟨e1, e2⟩ := two_inj (lawPair.inj h4 hkey)
      obtain ⟨oa, ob, on⟩ := o
      dsimp only at *
      subst e1 e2 h3
      rfl
/-- all is collected -/
theorem CollO.all {D : DataW Unit} {f : Int → Int → Int} {left : Lit → Bool} {l : List Ow} (h : CollO D f left l) (hR : ReadsP D f) (hK : KeysP D f) (hl : ∀ kl, left kl = false) (hf : ∀ a b, f a b ≠ 0 → 1 ≤ a ∧ a ≤ 99 ∧ 1 ≤ b ∧ b ≤ 99 ∧ a ≠ b) (o : Ow) : o ∈ l ↔ o ∈ cutL f := by
  rw [h.2 o, show cutL f = cutA f 99 from rfl, mem_cutA]
  constructor
  · rintro ⟨h1, h2, h3, kl, h4, h5, _⟩
    obtain ⟨a', b', _, _, h6, h7⟩ := hK kl h5
    obtain ⟨e1, e2⟩ := two_inj (lawPair.inj h4 h6)
    rw [← e1, ← e2] at h7
    have := hf _ _ h7
    exact ⟨this.1, this.2.1, this.2.2.1, this.2.2.2.1, h3, by rw [h3]; exact h7⟩
  · rintro ⟨h1, h2, h3, h4, h5, h6⟩
    have ra : InR o.a := ⟨by omega, by omega⟩
    have rb : InR o.b := ⟨by omega, by omega⟩
    obtain ⟨kl, hkey⟩ := keyPair o.a o.b ra rb
    refine ⟨ra, rb, h5, kl, hkey, ?_, hl kl⟩
    cases hh : has D kl with
    | true => rfl
    | false =>
      have e1 := hR o.a o.b kl ra rb hkey
      rw [atKey_of_not_has hh] at e1
      injection e1 with e1
      injection e1 with _ e1
      rw [h5] at h6
      exact absurd e1.symm h6
/-- a step through the map of what is owed -/
theorem wpList_next_pair (w : World) {ops : Array Oper} {rest : List Oper} {o : Oper} {s : Act} {Q : Exit → Act → World → Prop} (hg : o.guard = none) (it : Operand) (hop : o.op = Op.next it false) (m r n : Nat) (D : DataW Unit) (f : Int → Int → Int) (left : Lit → Bool) (cnt : Nat)
    (hit : s.eval it = .pointer (some ⟨r, 0, none⟩)) (h : w.ranges Try.prog 89 (plainElem Try.prog 3) m r n D left cnt) (hR : ReadsP D f) (hK : KeysP D f)
    (hDone : (∀ kl, left kl = false) → wpList Try.prog ops Q rest (s.put o.dst (.tuple #[.bool false])) w)
    (hMore : ∀ (a b : Int) (kl : Lit) (w' : World) (cnt' : Nat), InR a → InR b → keyOf Try.prog 89 (twoV a b) = some kl → left kl = true → has D kl = true → w'.ranges Try.prog 89 (plainElem Try.prog 3) m r n D (fun z => left z && !z.sameKey kl) cnt' → cnt' < cnt →
      w.grownBy w' (some r) → w'.heap.size = w.heap.size → (Instr.entry (.pointer (some ⟨r, 0, none⟩))).run Try.prog w' = .ok (.tuple #[twoV a b, .int .i64 (f a b)]) w' → wpList Try.prog ops Q rest (s.put o.dst (.tuple #[.bool true, twoV a b, .int .i64 (f a b)])) w') :
    wpList Try.prog ops Q (o :: rest) s w := by
  refine wpList_plain hg fun K' hK' => ?_
  unfold Oper.wp
  rcases h.next lawPair o.type with ⟨h0, hl, hrun⟩ | ⟨key, v, kl, y, w', cnt', hkey, hlk, hv, hat, hrun, hrg, hlt, hgr, hsz, hen⟩
  · simp [execOp, hop, hit, hrun, Result.andThen]
    exact hK' _ _ (hDone hl)
  · have hhas : has D kl = true := has_true_of_atKey hat
    obtain ⟨a, b, ra, rb, hk2, _⟩ := hK kl hhas
    obtain rfl : key = twoV a b := lawPair.inj hkey hk2
    obtain ⟨c, rfl, hy, _⟩ := plainElem_int_inv Try.underlying3 hv
    have e1 := hat (.lit (.int .i64 0))
    rw [hR a b kl ra rb hk2, hy] at e1
    obtain rfl : f a b = c := by injection e1 with e1; injection e1 with _ e1
    simp [execOp, hop, hit, hrun, Result.andThen]
    exact hK' _ _ (hMore a b kl w' cnt' ra rb hkey hlk hhas hrg hlt hgr hsz hen)
theorem infoO : (Try.prog.info? 52).map (fun i => (i.zero, i.size, i.bytes)) = some (some (.agg #[.int .i64 0, .int .i64 0, .int .i64 0]), 3, 24) := by kernel_rfl
theorem cellsO_len (x : Ow) : (cellsO x).length = 3 := rfl
theorem cutEnters : ∀ args w, (callFunc 35 args).run Try.prog w = .ok (.enter 35 args) w := enters_of Try.func35 (by kernel_rfl) rfl
/-- the library's sort of debts -/
theorem sortO_any (l : List Ow) (g cap base : Nat) (w : World) (h : OwnR w base 52 3 cellsO (.slice (some ⟨g, 0, none⟩) l.length cap) l) (hl : l.length < 4611686018427387904) :
    Calls Try.prog 34 #[.slice (some ⟨g, 0, none⟩) l.length cap, .func (.func 35) #[] #[]] w fun e w' => e = .returned (.tuple #[]) ∧ ∃ l' : List Ow, l'.Perm l ∧ l'.Pairwise (fun x y => ¬ ltO y x) ∧ OwnR w' base 52 3 cellsO (.slice (some ⟨g, 0, none⟩) l.length cap) l' ∧ w.grownBy w' (some g) := by
  have hg : g < w.heap.size := (OwnR.lt h g rfl).2
  have hc := AnyQ.slices_SortFunc Try.sortOwe 3 Try.isAgg52 Try.sizeOf52 cellsO cellsO_len (fun x v hv => by simp [cellsO] at hv; rcases hv with rfl | rfl | rfl <;> rfl) cmpO swoO 35 #[] g 0 cap l.toArray w cutEnters (fun _ _ _ _ x y => cutCmp_any x y _) (holdsK_own cellsO_len h) hg (by simpa using hl)
  have hc' : Calls Try.prog 34 #[.slice (some ⟨g, 0, none⟩) l.toArray.size cap, .func (.func 35) #[] #[]] w _ := hc
  rw [show l.toArray.size = l.length by simp] at hc'
  refine hc'.mono ?_
  rintro e w' ⟨rfl, d', n, os, hp, hs, rfl⟩
  have hd : d'.size = l.length := by have := hp.1; simpa using this
  have hp' : d'.toList.Perm l := by
    have h1 : PermIn 0 l.toArray.size l.toArray d' := by rw [show l.toArray.size = l.length by simp]; exact hp
    simpa using permIn_list h1
  refine ⟨rfl, d'.toList, hp', (sortedIn_list hd hs).imp (fun h => ?_), ?_, grown_sortedK d'⟩
  · rw [cmpO_lt] at h; exact of_decide_eq_false h
  · have := own_sortedK (n := n) (os := os) cellsO_len h d' hd
    rwa [hd] at this
end Go.Proofs.Ytdameincehiieaa
