/- Maps keyed by two numbers: looked up, put, counted up, ranged over. -/
import Derived.Test.YtdameincehiieaaMapG
namespace Go.Proofs.Ytdameincehiieaa
open Go.RowKit Go.WideMaps Go.Maps
set_option linter.unusedVariables false
set_option linter.unusedSimpArgs false
set_option maxRecDepth 100000

section
variable {α : Type} {R : Rdr α} {K MT E : TypeId} {D : DataW Unit} {g : Int → Int → Option α} {w w' : World} {m n : Nat} {ks : List (Int × Int)} {z0 : α}
/-- m[k] -/
theorem GMap.look (h : GMap R K w m g ks) (hK : KeyT K) (ht : Try.prog.underlying MT = some (.map K E)) (hz : ∀ u, (zeroValue E).run Try.prog u = .ok (R.val z0) u) (a b : Int) (ha : InR a) (hb : InR b) :
    (Instr.lookup MT (.map (some m)) (twoV a b) false).run Try.prog w = .ok (R.val ((g a b).getD z0)) w := by
  obtain ⟨D, ho, hD, _⟩ := h
  obtain ⟨l, hkey⟩ := hK.key a b ha hb
  obtain ⟨v, ps, hrun, hv⟩ := ho.lookup hK.law ht (hz _) (R.rd z0) hkey
  rw [hD a b l _ ha hb hkey] at hv
  obtain ⟨x, rfl, hx⟩ := R.shape v _ hv
  rw [hrun]
  injection hx with hx _
  cases hg : g a b with
  | none => rw [hg] at hx; rw [R.inj _ _ hx]; rfl
  | some y => rw [hg] at hx; rw [R.inj _ _ hx]; rfl
/-- m[k] = x -/
theorem wpList_gmap_put (w : World) {ops : Array Oper} {rest : List Oper} {o : Oper} {s : Act} {Q : Exit → Act → World → Prop}
    (hg : o.guard = none) (mo x v : Operand) (hop : o.op = Op.mapUpdate MT mo x v) (hK : KeyT K) (ht : Try.prog.underlying MT = some (.map K E)) (hm : s.eval mo = .map (some m)) (h : GMap R K w m g ks) (hn : ks.length < maxLen)
    (a b : Int) (y : α) (hx : s.eval x = twoV a b) (hv : s.eval v = R.val y) (ha : InR a) (hb : InR b)
    (hC : ∀ w', GMap R K w' m (upd2 g a b (some y)) (addK ks (a, b)) → w.grownBy w' (some m) → wpList Try.prog ops Q rest (s.put o.dst undef) w') :
    wpList Try.prog ops Q (o :: rest) s w := by
  obtain ⟨D, ho, hD, hS⟩ := h
  obtain ⟨l, hkey⟩ := hK.key a b ha hb
  obtain ⟨p1, p2, p3⟩ := put_G (x := y) hK ho hD hS ha hb hkey
  exact wpList_mapUpdate_own w hg mo x v _ hop _ _ hK.law ht _ m ks.length D hm ho hn _ _ _ hx hv hkey (R.dat y) [] (R.rd y)
    (fun w' h1 h2 => hC w' ⟨_, (owns_tight h1).mono p3, p1, p2⟩ h2)
/-- an entry is laid, then its value -/
theorem GMap.entry (h : GMap R K w m g ks) (hK : KeyT K) (ht : Try.prog.underlying MT = some (.map K E)) (hz : ∀ u, (zeroValue E).run Try.prog u = .ok (R.val z0) u) (hn : ks.length < maxLen) (a b : Int) (ha : InR a) (hb : InR b) :
    ∃ (v0 : Value) (st : Nat) (o1 : Obj), (Instr.mapEntry MT (.map (some m)) (twoV a b)).run Try.prog w = .ok (.tuple #[v0, goInt st]) (ChangeMaps.setBlock w m o1) ∧
      ∀ (w2 : World) (x : α), w2.heap[m]? = some o1 → ∃ o2 : Obj, (Instr.entryStore MT (.map (some m)) (goInt st) (R.val x)).run Try.prog w2 = .ok () (ChangeMaps.setBlock w2 m o2) ∧ GMap R K (ChangeMaps.setBlock w2 m o2) m (upd2 g a b (some x)) (addK ks (a, b)) := by
  obtain ⟨D, ho, hD, hS⟩ := h
  have ho' := ho
  obtain ⟨es, clock, hh, F, hsz, hDe⟩ := ho'
  obtain ⟨l, hkey⟩ := hK.key a b ha hb
  obtain ⟨v0, st, es1, clock1, hrun, _, hst⟩ := WideElems.entry_then_store hK.klaw ht (z := R.val z0) hz hh F hkey
  refine ⟨v0, st, _, hrun, fun w2 x hw2 => ?_⟩
  obtain ⟨es', clock', hr1, hr2⟩ := hst w2 (R.val x) hw2
  obtain ⟨w', hrun', h1, _⟩ := ho.update hK.law ht hn hkey (R.rd x)
  have e : w' = ChangeMaps.setBlock w m (.map es' clock') := by
    rw [hr2] at hrun'
    injection hrun' with _ e
    exact e.symm
  subst e
  obtain ⟨p1, p2, p3⟩ := put_G (x := x) hK ho hD hS ha hb hkey
  obtain ⟨es2, clock2, hh2, F2, hsz2, hD2⟩ := (owns_tight h1).mono p3
  have hlt : m < w.heap.size := blkLtE hh
  have hlt2 : m < w2.heap.size := blkLtE hw2
  have e1 : (ChangeMaps.setBlock w m (.map es' clock')).heap[m]? = some (.map es' clock') := setAt w m _ hlt
  rw [e1] at hh2
  exact ⟨_, hr1, _, ⟨es2, clock2, (setAt w2 m _ hlt2).trans hh2, F2, hsz2, hD2⟩, p1, p2⟩
/-- the entry alone turns no reading -/
theorem GMap.entered {W1 : World} {v : Value} (h : GMap R K w m g ks) (hK : KeyT K) (ht : Try.prog.underlying MT = some (.map K E)) (hz : ∀ u, (zeroValue E).run Try.prog u = .ok (R.val z0) u) (hn : ks.length < maxLen) (a b : Int) (ha : InR a) (hb : InR b)
    (hrun : (Instr.mapEntry MT (.map (some m)) (twoV a b)).run Try.prog w = .ok v W1) : ∃ g' ks', GMap R K W1 m g' ks' ∧ ∀ x y, (g' x y).getD z0 = (g x y).getD z0 := by
  have h' := h
  obtain ⟨D, ho, hD, hS⟩ := h
  have ho' := ho
  obtain ⟨es, clock, hh, F, hsz, hDe⟩ := ho'
  obtain ⟨l, hkey⟩ := hK.key a b ha hb
  rcases hK.klaw.find w hkey es.toList F.keys with ⟨g1, g2⟩ | ⟨j, e0, g1, g2, g3⟩
  · have r0 : (Instr.mapEntry MT (.map (some m)) (twoV a b)).run Try.prog w = .ok (.tuple #[R.val z0, goInt clock]) (ChangeMaps.setBlock w m (.map (es.push ⟨twoV a b, R.val z0, clock⟩) (clock + 1))) := by
      simp [Instr.mapEntry, run_underlying ht, MapKept.run_getObj_map hh, hK.klaw.check w false hkey, g1, hz, MapKept.run_setObj_map _ hh, Result.andThen, ChangeMaps.setBlock]
    have r1 : (Instr.mapUpdate MT (.map (some m)) (twoV a b) (R.val z0)).run Try.prog w = .ok () (ChangeMaps.setBlock w m (.map (es.push ⟨twoV a b, R.val z0, clock⟩) (clock + 1))) := by
      simp [Instr.mapUpdate, run_underlying ht, MapKept.run_getObj_map hh, hK.klaw.check w false hkey, g1, MapKept.run_setObj_map _ hh, Result.andThen, ChangeMaps.setBlock]
    have r2 : (Instr.lookup MT (.map (some m)) (twoV a b) false).run Try.prog w = .ok (R.val z0) w := by
      simp [Instr.lookup, run_underlying ht, MapKept.run_getObj_map hh, hK.klaw.check w es.isEmpty hkey, g1, hz, Result.andThen]
    rw [r0] at hrun
    injection hrun with _ hW
    subst hW
    have hl := h'.look hK ht hz a b ha hb
    have hf : (g a b).getD z0 = z0 := by
      rw [hl] at r2
      injection r2 with e _
      have e1 := R.rd ((g a b).getD z0)
      rw [e, R.rd z0] at e1
      injection e1 with e1
      injection e1 with e1 _
      exact (R.inj _ _ e1).symm
    obtain ⟨w', hrun', q1, _⟩ := ho.update hK.law ht hn hkey (R.rd z0)
    rw [r1] at hrun'
    injection hrun' with _ e
    subst e
    obtain ⟨p1, p2, p3⟩ := put_G (x := z0) hK ho hD hS ha hb hkey
    refine ⟨_, _, ⟨_, (owns_tight q1).mono p3, p1, p2⟩, fun x y => ?_⟩
    by_cases e : x = a ∧ y = b
    · obtain ⟨rfl, rfl⟩ := e
      rw [upd2_at, hf]; rfl
    · rw [upd2_off _ _ _ _ e]
  · have hj : es[j]? = some e0 := by simpa using g2
    have hsame : es.modify j (fun e => { e with key := twoV a b }) = es := by
      apply Array.ext
      · simp
      · intro i h1 h2
        rw [Array.getElem_modify]
        split
        · next hji =>
          subst hji
          have : es[j] = e0 := by rw [Array.getElem?_eq_getElem h2] at hj; injection hj
          rw [this, ← g3]
        · rfl
    have hstay := hK.klaw.stays w hkey
    have r0 : ∃ v', (Instr.mapEntry MT (.map (some m)) (twoV a b)).run Try.prog w = .ok v' (ChangeMaps.setBlock w m (.map es clock)) := by
      refine ⟨.tuple #[e0.val, goInt e0.born], ?_⟩
      simp [Instr.mapEntry, run_underlying ht, MapKept.run_getObj_map hh, hK.klaw.check w false hkey, g1, hj, g3, hstay, hsame, MapKept.run_setObj_map _ hh, Result.andThen, ChangeMaps.setBlock]
    obtain ⟨v', r0⟩ := r0
    rw [r0] at hrun
    injection hrun with _ hW
    subst hW
    exact ⟨g, ks, h'.of_block ((setAt w m (.map es clock) (blkLtE hh)).trans hh.symm), fun _ _ => rfl⟩
/-- a loop over a map: what it has seen -/
def RngG (R : Rdr α) (K : TypeId) (w : World) (m r : Nat) (g : Int → Int → Option α) (vis : List (Int × Int)) : Prop :=
  ∃ (D : DataW Unit) (ks : List (Int × Int)) (left : Lit → Bool) (cnt : Nat), w.ranges Try.prog K R.r m r ks.length D left cnt ∧ RdG R K D g ∧ KsG K D g ks ∧ vis.Nodup ∧ (∀ p ∈ vis, (g p.1 p.2).isSome = true) ∧ ∀ a b l, InR a → InR b → keyOf Try.prog K (twoV a b) = some l → (left l = true ↔ (g a b).isSome = true ∧ (a, b) ∉ vis)
theorem RngG.map {r : Nat} {vis : List (Int × Int)} (h : RngG R K w m r g vis) : ∃ ks, GMap R K w m g ks := by obtain ⟨D, ks, _, _, h1, h2, h3, _⟩ := h; exact ⟨ks, D, h1.owns, h2, h3⟩
theorem RngG.lt {r : Nat} {vis : List (Int × Int)} (h : RngG R K w m r g vis) : r < w.heap.size ∧ m < w.heap.size ∧ r ≠ m := by obtain ⟨D, ks, _, _, h1, _⟩ := h; exact ⟨h1.lt, h1.owns.lt, h1.ne⟩
theorem RngG.of_blocks {r : Nat} {vis : List (Int × Int)} (h : RngG R K w m r g vis) (h1 : w'.heap[m]? = w.heap[m]?) (h2 : w'.heap[r]? = w.heap[r]?) : RngG R K w' m r g vis := by
  obtain ⟨D, ks, left, cnt, ⟨es, clock, since, seen, c0, e1, e2, e3, e4, e5, e6⟩, hr⟩ := h
  exact ⟨D, ks, left, cnt, ⟨es, clock, since, seen, c0, h1.trans e1, e2, e3, e4, h2.trans e5, e6⟩, hr⟩
theorem rangeLeft_blocks {r : Nat} (h1 : w'.heap[m]? = w.heap[m]?) (h2 : w'.heap[r]? = w.heap[r]?) : w'.rangeLeft m r = w.rangeLeft m r := by
  unfold World.rangeLeft; rw [h1, h2]
/-- range m -/
theorem wpList_range_g (w : World) {ops : Array Oper} {rest : List Oper} {o : Oper} {s : Act} {Q : Exit → Act → World → Prop} (hg : o.guard = none) (mo : Operand) (hop : o.op = Op.range MT mo) (hK : KeyT K) (ht : Try.prog.underlying MT = some (.map K E)) (hm : s.eval mo = .map (some m)) (h : GMap R K w m g ks)
    (hC : ∀ w', RngG R K w' m w.heap.size g [] → w.grownBy w' none → w'.heap.size = w.heap.size + 1 → wpList Try.prog ops Q rest (s.put o.dst (.pointer (some ⟨w.heap.size, 0, none⟩))) w') :
    wpList Try.prog ops Q (o :: rest) s w := by
  obtain ⟨D, ho, hD, hS⟩ := h
  refine wpList_range_own w hg mo MT hop K E hK.law ht R.r m ks.length D hm ho (fun w' h1 h2 h3 => hC w' ⟨D, ks, _, _, h1, hD, hS, List.nodup_nil, fun p hp => (List.not_mem_nil hp).elim, fun a b l ha hb hl => ?_⟩ h2 h3)
  constructor
  · intro hh
    refine ⟨?_, List.not_mem_nil⟩
    obtain ⟨a', b', q1, q2⟩ := hS.2.2.2 l hh
    obtain ⟨rfl, rfl⟩ := two_inj (hK.law.inj hl q2)
    exact (hS.2.1 (a, b)).1 q1
  · rintro ⟨hs, _⟩
    obtain ⟨y, hy⟩ := Option.isSome_iff_exists.1 hs
    cases hx : has D l with
    | true => rfl
    | false =>
      have e1 := hD a b l (.lit (.bool true)) ha hb hl
      have e2 := hD a b l (.lit (.bool false)) ha hb hl
      rw [atKey_of_not_has hx, hy] at e1 e2
      have : (DataW.lit (.bool true) : DataW Unit) = .lit (.bool false) := e1.trans e2.symm
      injection this with this
      injection this with this
      cases this
/-- a step of the loop -/
theorem wpList_next_g (w : World) {ops : Array Oper} {rest : List Oper} {o : Oper} {s : Act} {Q : Exit → Act → World → Prop} (hg : o.guard = none) (it : Operand) (hop : o.op = Op.next it false) (r : Nat) (vis : List (Int × Int)) (hK : KeyT K)
    (hit : s.eval it = .pointer (some ⟨r, 0, none⟩)) (h : RngG R K w m r g vis)
    (hDone : (∀ a b, (g a b).isSome = true → (a, b) ∈ vis) → wpList Try.prog ops Q rest (s.put o.dst (.tuple #[.bool false])) w)
    (hMore : ∀ (a b : Int) (x : α) (w' : World), InR a → InR b → g a b = some x → (a, b) ∉ vis → RngG R K w' m r g (vis ++ [(a, b)]) → w'.rangeLeft m r < w.rangeLeft m r →
      w.grownBy w' (some r) → w'.heap.size = w.heap.size → (Instr.entry (.pointer (some ⟨r, 0, none⟩))).run Try.prog w' = .ok (.tuple #[twoV a b, R.val x]) w' → wpList Try.prog ops Q rest (s.put o.dst (.tuple #[.bool true, twoV a b, R.val x])) w') :
    wpList Try.prog ops Q (o :: rest) s w := by
  obtain ⟨D, ks, left, cnt, hrg, hR, hS, hnd, hvs, hlf⟩ := h
  refine wpList_plain hg fun K' hK' => ?_
  unfold Oper.wp
  have hle := hrg.left_eq
  rcases hrg.next hK.law o.type with ⟨h0, hl, hrun⟩ | ⟨key, v, kl, y, w', cnt', hkey, hlk, hv, hat, hrun, hrg', hlt, hgr, hsz, hen⟩
  · simp [execOp, hop, hit, hrun, Result.andThen]
    refine hK' _ _ (hDone (fun a b hs => ?_))
    obtain ⟨i1, i2⟩ := hS.2.2.1 (a, b) ((hS.2.1 (a, b)).2 hs)
    obtain ⟨l, hkey⟩ := hK.key a b i1 i2
    rcases Classical.em ((a, b) ∈ vis) with hv | hv
    · exact hv
    · have := (hlf a b l i1 i2 hkey).2 ⟨hs, hv⟩
      rw [hl l] at this
      cases this
  · have hhas : has D kl = true := has_true_of_atKey hat
    obtain ⟨a, b, hin, hk2⟩ := hS.2.2.2 kl hhas
    obtain ⟨ra, rb⟩ := hS.2.2.1 _ hin
    obtain rfl : key = twoV a b := hK.law.inj hkey hk2
    obtain ⟨q1, q2⟩ := (hlf a b kl ra rb hkey).1 hlk
    obtain ⟨x, hx⟩ := Option.isSome_iff_exists.1 q1
    obtain ⟨x', rfl, hy⟩ := R.shape v _ hv
    have e1 := hat (.lit (.bool true))
    rw [hR a b kl _ ra rb hk2, hx, hy] at e1
    obtain rfl : x = x' := R.inj _ _ e1
    simp [execOp, hop, hit, hrun, Result.andThen]
    refine hK' _ _ (hMore a b x w' ra rb hx q2 ⟨D, ks, _, cnt', hrg', hR, hS, ?_, ?_, ?_⟩ (by rw [hrg'.left_eq, hle]; exact hlt) hgr hsz hen)
    · exact List.nodup_append.2 ⟨hnd, by simp, fun u hu v hv => by simp at hv; subst hv; exact fun e => q2 (e ▸ hu)⟩
    · intro p hp
      rcases List.mem_append.1 hp with hp | hp
      · exact hvs p hp
      · simp at hp; subst hp; exact q1
    · intro a' b' l' ha' hb' hl'
      by_cases e : a' = a ∧ b' = b
      · obtain ⟨rfl, rfl⟩ := e
        obtain rfl : kl = l' := Option.some.inj (hkey.symm.trans hl')
        constructor
        · intro hh
          have hh' : (left kl && !kl.sameKey kl) = true := hh
          rw [WideAt.sameKey_self (hK.law.key hkey)] at hh'
          simp at hh'
        · rintro ⟨_, hn⟩
          exact absurd (by simp) hn
      · have hns : l'.sameKey kl = false := by
          cases hs : l'.sameKey kl with
          | false => rfl
          | true =>
            obtain rfl := WideAt.sameKey_eq hs
            exact absurd (two_inj (hK.law.inj hl' hkey)) e
        have e2 : ((fun z => left z && !z.sameKey kl) l' = true) ↔ left l' = true := by
          show (left l' && !l'.sameKey kl) = true ↔ _
          rw [hns]; simp
        rw [e2, hlf a' b' l' ha' hb' hl', List.mem_append]
        simp [e]
end
end Go.Proofs.Ytdameincehiieaa
