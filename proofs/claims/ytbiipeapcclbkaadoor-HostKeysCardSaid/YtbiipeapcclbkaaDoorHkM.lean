/- HostKeys: the law's walk. -/
import Derived.Test.YtbiipeapcclbkaaDoorHkL
import Derived.Deep.RegionHeld3
namespace Go.Proofs.YtbiipeapcclbkaaDoor
open Go.RowKit
set_option linter.unusedVariables false
set_option linter.unusedSimpArgs false
set_option maxRecDepth 100000

theorem kRow_of {W : World} {ao : Option Addr} {l : List XMst} (h : RowMst W ao l) : KRow W ao (l.map kvM) := by
  rcases h.1 with h | ⟨b, off, e, hlt, hc⟩
  · exact .inl (by rw [h]; rfl)
  · refine .inr ⟨b, off, e, hlt, fun i p hi => ?_⟩
    rw [List.getElem?_map] at hi
    obtain ⟨x, hx, rfl⟩ := Option.map_eq_some_iff.1 hi
    exact hc i x hx
theorem kRow_ofL {W : World} {ao : Option Addr} {l : List XLnk} (h : RowLnk W ao l) : KRow W ao (l.map kvL) := by
  rcases h.1 with h | ⟨b, off, e, hlt, hc⟩
  · exact .inl (by rw [h]; rfl)
  · refine .inr ⟨b, off, e, hlt, fun i p hi => ?_⟩
    rw [List.getElem?_map] at hi
    obtain ⟨x, hx, rfl⟩ := Option.map_eq_some_iff.1 hi
    exact hc i x hx
theorem planE_zero {ms ls : List KV} (h : planE ms ls = 0) : ms ≠ [] ∧ ∀ p ∈ ms, p.2.size = 16 := by
  unfold planE at h
  split at h
  · cases h
  · next h0 =>
    split at h
    · cases h
    · next h1 =>
      refine ⟨h0, fun p hp => ?_⟩
      rcases Nat.decEq p.2.size 16 with hne | he
      · exact absurd (.inl (by unfold keyBad; rw [List.any_eq_true]; exact ⟨p, hp, decide_eq_true hne⟩)) h1
      · exact he
theorem row_apart {W : World} {ao : Option Addr} {l : List KV} (h : KRow W ao l) (hne : l ≠ []) : ∀ b off s, ao = some ⟨b, off, s⟩ → b < W.heap.size := by
  intro b off s e
  rcases h with h | ⟨b', off', e', hlt, _⟩
  · exact absurd h hne
  · rw [e] at e'; cases e'; exact hlt
set_option maxHeartbeats 8000000 in
theorem walkHostKeys (mt id : ByteArray) (p : XHostPlan) (a : XAccount) (w : World) (h1 : mt.size ≤ maxLen) (h2 : id.size ≤ maxLen) (hp : okHostPlan w p) (ha : okAccount w a) (he : True) :
    Calls Tryd.prog 3 #[.string mt, .string id, valHostPlan p, valAccount a] w fun e w' => e = .returned (.bool true) ∧ Below w.heap.size w w' := by
  obtain ⟨mo, ms, mc, lo, ls, lc⟩ := p
  obtain ⟨hm, hmc, hl, hlc⟩ := hp
  obtain ⟨a1, a2, _, _, a5⟩ := ha
  dsimp only at hm hmc hl hlc
  obtain ⟨W1, hW1⟩ : ∃ W1, W1 = (w.alloc (.cells #[.slice mo ms.length mc, .slice lo ls.length lc] 25)).alloc (accObj a) := ⟨_, rfl⟩
  have hs0 : (w.alloc (.cells #[.slice mo ms.length mc, .slice lo ls.length lc] 25)).heap.size = w.heap.size + 1 := by simp
  have hB1 : Below w.heap.size w W1 := by rw [hW1]; exact ((Below.refl _ _).alloc (Nat.le_refl _) _).alloc (by simp) _
  have hX1 : W1.heap[w.heap.size + 1]? = some (accObj a) := by
    rw [hW1]
    have := heap_alloc_new (w.alloc (.cells #[.slice mo ms.length mc, .slice lo ls.length lc] 25)) (accObj a)
    rwa [hs0] at this
  have hX0 : W1.heap[w.heap.size]? = some (.cells #[.slice mo ms.length mc, .slice lo ls.length lc] 25 (0, 0)) := by
    rw [hW1]
    exact (((Below.refl (w.alloc (.cells #[.slice mo ms.length mc, .slice lo ls.length lc] 25)).heap.size _).alloc (Nat.le_refl _) _).block w.heap.size (by rw [hs0]; omega)).trans (heap_alloc_new _ _)
  have CP := hide (fun w' (h : Below W1.heap.size W1 w') => (show w'.cell? ⟨w.heap.size, 0, none⟩ = some (.slice mo ms.length mc) ∧ w'.cell? ⟨w.heap.size, 1, none⟩ = some (.slice lo ls.length lc) from ⟨(cell_of_row _ _ 0 _ _ _ ((h.block _ (blkLtH hX0)).trans hX0)).trans rfl, (cell_of_row _ _ 1 _ _ _ ((h.block _ (blkLtH hX0)).trans hX0)).trans rfl⟩))
  have NK1 := hide (fun W => cardKey_any mt id h2 W)
  have NK2 := hide (fun W => rcardKey_any mt id h2 W)
  have NN := hide (fun W (hb : Below W1.heap.size W1 W) => hnew_any ms ls mo lo mc lc W ((hm.below hB1).below hb) ((hl.below hB1).below hb))
  have NP := hide (fun W (hb : Below W1.heap.size W1 W) => rplan_any (ms.map kvM) (ls.map kvL) mo lo mc lc W (kRow_of ((hm.below hB1).below hb)) (kRow_ofL ((hl.below hB1).below hb)) (by rw [List.length_map]; have := hm.2.2; unfold maxLen at this; omega) (by rw [List.length_map]; have := hl.2.2; unfold maxLen at this; omega) (by rw [List.length_map]; exact hmc) (by rw [List.length_map]; exact hlc)
    (fun q hq => by obtain ⟨x, hx, rfl⟩ := List.mem_map.1 hq; exact (hm.2.1 x hx).2) (fun q hq => by obtain ⟨x, hx, rfl⟩ := List.mem_map.1 hq; exact (hl.2.1 x hx).2))
  simp only [List.length_map] at NP
  have HF4 : Hid (∀ (W : World) (m r : Nat), planE (ms.map kvM) (ls.map kvL) = 0 → Below W1.heap.size W1 W → HostAt W m (gF (ms.map kvM)) (kF (ms.map kvM)) (fun _ => none) [] → W1.heap.size ≤ m → m + 1 + 1 + 1 + 1 < r → W.heap[r]? = some (.cells #[.slice mo ms.length mc, .slice lo ls.length lc, .slice none 0 0, .slice none 0 0] 39) →
      ∃ (I : Nat → World → Prop) (ja jb : Int), I 0 W ∧ (∀ W, I 0 W → I 0 W.drew) ∧ (∀ k W, I k W → W.heap[w.heap.size + 1]? = some (accObj a)) ∧ (∀ W, I 4 W → Below w.heap.size w W) ∧
      (∀ W, I 0 W → Calls Tryd.prog 8 #[.pointer (some ⟨m + 1 + 1 + 1 + 1, 0, none⟩), valAccount a] W fun e W' => e = .returned (.int .i64 ja) ∧ I 1 W') ∧
      (∀ W, I 1 W → Calls Tryd.prog 9 #[.pointer (some ⟨r, 0, none⟩), valAccount a] W fun e W' => e = .returned (.int .i64 ja) ∧ I 2 W') ∧
      (∀ W, I 2 W → Calls Tryd.prog 8 #[.pointer (some ⟨m + 1 + 1 + 1 + 1, 0, none⟩), valAccount a] W fun e W' => e = .returned (.int .i64 jb) ∧ I 3 W') ∧
      (∀ W, I 3 W → Calls Tryd.prog 9 #[.pointer (some ⟨r, 0, none⟩), valAccount a] W fun e W' => e = .returned (.int .i64 jb) ∧ I 4 W')) := hide (by
    intro W m r hpl hb hH hm1 hmr hr
    obtain ⟨hne, h16⟩ := planE_zero hpl
    have hrow := kRow_of (hm.below hB1)
    have hap : ∀ b off s, mo = some ⟨b, off, s⟩ → b < w.heap.size := row_apart (kRow_of hm) hne
    have hf := (kF_facts (ms.map kvM) (ms.map kvM).length (Nat.le_refl _)).2.2.2 a.version
    rw [List.take_length] at hf
    have hs1 : w.heap.size + 1 < W1.heap.size := blkLtH hX1
    have hJ : JSt w W a (w.heap.size + 1) m r (gF (ms.map kvM)) (kF (ms.map kvM)) (fun _ => none) [] (ms.map kvM) mo mc (.slice lo ls.length lc) none := by
      refine ⟨hH, fun _ => ⟨?_, hrow.below hb (Nat.le_refl _), ?_, fun b off s e => ?_⟩, fun g c e => (by cases e), (hb.block _ hs1).trans hX1, hB1.trans (hb.mono hB1.size), Nat.le_succ _, by omega, hmr, blkLtH hr, hap⟩
      · rw [List.length_map]; exact hr
      · rw [List.length_map]; have := hm.2.2; unfold maxLen at this; omega
      · have := hap b off s e; omega
    exact four_joins a1 a2 a5 h16 hf hJ)
  generalize planE (ms.map kvM) (ls.map kvL) = pe at *
  generalize gF (ms.map kvM) = gm at *
  generalize kF (ms.map kvM) = km at *
  generalize ckS mt id = cs at *
  generalize ckE mt id = ce at *
  have HB1 := hide hB1; have HW1 := hide hW1; have HX1 := hide hX1
  have hs1 : w.heap.size + 1 < W1.heap.size := blkLtH hX1
  unfold accObj at HW1
  unfold valHostPlan
  obtain ⟨ai, ap, ab, am, av⟩ := a
  unfold valAccount at HF4 ⊢
  dsimp only at *
  clear hm hl hmc hlc hB1 hW1 hX1 hX0 h1 h2 a1 a2 a5 hs0
  go_enter Tryd.func3, Tryd.ntmps3
  go_upto_region 1 with fail
  rw [← unhide HW1]
  go_wp2_with fail
  refine (unhide NK1 _).mono ?_
  rintro e y1 ⟨rfl, hb1⟩
  have HBa := hide hb1
  clear hb1
  go_wp2_with fail
  refine (unhide NK2 _).mono ?_
  rintro e y2 ⟨rfl, hb2⟩
  have hba2 := (unhide HBa).trans (hb2.mono (unhide HBa).size)
  obtain ⟨q0, q1⟩ := unhide CP y2 hba2
  have HBb := hide hba2
  have hself : (ce != ce) = false := by simp
  clear hb2 hba2
  go_wp2_with fail
  refine (unhide NN _ (unhide HBb)).mono ?_
  rintro e y3 ⟨hb3, hcase⟩
  have hba3 := (unhide HBb).trans (hb3.mono (unhide HBb).size)
  obtain ⟨q0, q1⟩ := unhide CP y3 hba3
  have HBc := hide hba3
  rcases hcase with ⟨hpe, rfl⟩ | ⟨hpe, m, hm1, rfl, hH⟩
  · have hpb : (pe != 0) = true := by simpa using hpe
    clear hb3 hba3 hpe
    go_wp2_with fail
    refine (unhide NP _ (unhide HBc)).mono ?_
    rintro e y4 ⟨rfl, hb4⟩
    have HBd := hide ((unhide HB1).trans (((unhide HBc).trans (hb4.mono (unhide HBc).size)).mono (unhide HB1).size))
    have hself2 : (pe == pe) = true := by simp
    clear hb4
    go_wp2
    go_ret
    exact ⟨rfl, unhide HBd⟩
  · have hm2 : W1.heap.size ≤ m := Nat.le_trans (unhide HBb).size hm1
    have HH := hide hH; have HM2 := hide hm2; have HPE := hide hpe
    subst hpe
    clear hb3 hba3 hH hm1 hm2
    go_wp2_with fail
    refine (unhide NP _ (unhide HBc)).mono ?_
    rintro e y4 ⟨rfl, hb4⟩
    have hba4 := (unhide HBc).trans (hb4.mono (unhide HBc).size)
    obtain ⟨q0, q1⟩ := unhide CP y4 hba4
    have hH4 := (unhide HH).below hb4
    have hB5 : Below y4.heap.size y4 (y4.alloc (.cells #[.slice mo ms.length mc, .slice lo ls.length lc, .slice none 0 0, .slice none 0 0] 39)) := (Below.refl _ _).alloc (Nat.le_refl _) _
    obtain ⟨I, ja, jb, i0, i1, i2, i3, P1, P2, P3, P4⟩ := unhide HF4 (y4.alloc (.cells #[.slice mo ms.length mc, .slice lo ls.length lc, .slice none 0 0, .slice none 0 0] 39)) m y4.heap.size (by trivial) (hba4.trans (hB5.mono hba4.size)) (hH4.below hB5) (unhide HM2) (blkLtH hH4.box) (heap_alloc_new _ _)
    have I0 := hide (i1 _ i0); have IC := hide (fun k W h => accCells (i2 k W h)); have IB := hide i3
    have N1 := hide P1; have N2 := hide P2; have N3 := hide P3; have N4 := hide P4
    dsimp only at IC
    clear i0 i1 i2 i3 P1 P2 P3 P4 hb4 hba4 hB5 hH4 HF4 HPE
    have e1 : (ja == ja) = true := by simp
    have e2 : (jb == jb) = true := by simp
    go_wp2_with fail
    generalize y4.heap.size = r at *
    generalize (y4.alloc (.cells #[.slice mo ms.length mc, .slice lo ls.length lc, .slice none 0 0, .slice none 0 0] 39)) = W6 at *
    have hs0 := unhide IC 0 _ (unhide I0)
    obtain ⟨ab2, hab⟩ : ∃ ab2, ab2 = w.heap.size + 1 := ⟨_, rfl⟩
    rw [← hab] at hs0 IC ⊢
    clear hab
    go_region_held3 (fun w' => w'.cell? ⟨ab2, 0, none⟩ = some (.string ai) ∧ w'.cell? ⟨ab2, 1, none⟩ = some (.string ap) ∧ w'.cell? ⟨ab2, 2, none⟩ = some (.int .i64 ab) ∧ w'.cell? ⟨ab2, 3, none⟩ = some (.int .i64 am) ∧ w'.cell? ⟨ab2, 4, none⟩ = some (.int .i64 av))
      (first
        | exact hs4
        | exact hs3
        | exact hs2
        | exact hs1
        | exact hs0)
      ((first
        | (go_at_call 9; refine (unhide N4 _ k3).mono ?_; rintro e z4 ⟨rfl, k4⟩; have hs4 := unhide IC 4 _ k4)
        | (go_at_call 8; refine (unhide N3 _ k2).mono ?_; rintro e z3 ⟨rfl, k3⟩; have hs3 := unhide IC 3 _ k3)
        | (go_at_call 9; refine (unhide N2 _ k1).mono ?_; rintro e z2 ⟨rfl, k2⟩; have hs2 := unhide IC 2 _ k2)
        | (go_at_call 8; refine (unhide N1 _ (unhide I0)).mono ?_; rintro e z1 ⟨rfl, k1⟩; have hs1 := unhide IC 1 _ k1)
        | fail))
    all_goals
      have HZ := hide (unhide IB _ k4)
      clear k1 k2 k3 k4 hs0 hs1 hs2 hs3 hs4
      go_wp2
      go_ret
      exact ⟨rfl, unhide HZ⟩
end Go.Proofs.YtbiipeapcclbkaaDoor
