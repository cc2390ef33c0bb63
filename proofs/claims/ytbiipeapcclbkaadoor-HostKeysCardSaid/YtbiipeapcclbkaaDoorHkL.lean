/- HostKeys: two Joins of both. -/
import Derived.Test.YtbiipeapcclbkaaDoorHkK
namespace Go.Proofs.YtbiipeapcclbkaaDoor
open Go.RowKit
set_option linter.unusedVariables false
set_option linter.unusedSimpArgs false
set_option maxRecDepth 100000

/-- both hosts, and the account's box -/
structure JSt (w W : World) (a : XAccount) (ab m r : Nat) (gm : Int → Option KV) (km : List Int) (ga : ByteArray → Option (Option Nat)) (ka : List ByteArray) (ms : List KV) (ma : Option Addr) (mc : Nat) (lv : Value) (one : Option (Nat × Nat)) : Prop where
  host : HostAt W m gm km ga ka
  r0 : one = none → RHost W r ms ma mc lv (.slice none 0 0)
  r1 : ∀ g c, one = some (g, c) → ROne W r g c ms ma mc lv a.id
  acc : W.heap[ab]? = some (accObj a)
  bel : Below w.heap.size w W
  o1 : w.heap.size ≤ ab
  o2 : ab < m
  o3 : m + 1 + 1 + 1 + 1 < r
  o4 : r < W.heap.size
  o5 : ∀ b off s, ma = some ⟨b, off, s⟩ → b < w.heap.size
section
variable {w W W' : World} {a : XAccount} {ab m r : Nat} {gm : Int → Option KV} {km : List Int} {ga ga' : ByteArray → Option (Option Nat)} {ka ka' : List ByteArray} {ms : List KV} {ma : Option Addr} {mc : Nat} {lv : Value} {one : Option (Nat × Nat)}
theorem RHost.keep {ov : Value} (h : RHost W r ms ma mc lv ov) (hs : W.heap.size ≤ W'.heap.size) (hr : W'.heap[r]? = W.heap[r]?) (hb : ∀ b off s, ma = some ⟨b, off, s⟩ → W'.heap[b]? = W.heap[b]?) : RHost W' r ms ma mc lv ov := by
  refine ⟨hr.trans h.box, ?_, h.len, h.apart⟩
  rcases h.row with h0 | ⟨b, off, e, hbl, hc⟩
  · exact .inl h0
  · have hcell : ∀ j, W'.cell? ⟨b, j, none⟩ = W.cell? ⟨b, j, none⟩ := fun j => by unfold World.cell?; rw [hb b off none e]
    exact .inr ⟨b, off, e, Nat.lt_of_lt_of_le hbl hs, fun i p hp => ⟨(hcell _).trans (hc i p hp).1, (hcell _).trans (hc i p hp).2⟩⟩
theorem JSt.hostTurn (h : JSt w W a ab m r gm km ga ka ms ma mc lv one) (hJ : JPost W W' (m + 1 + 1)) (hH : HostAt W' m gm km ga' ka') : JSt w W' a ab m r gm km ga' ka' ms ma mc lv one := by
  have hs := h.bel.size
  have hwl : ∀ b off s, ma = some ⟨b, off, s⟩ → W'.heap[b]? = W.heap[b]? := fun b off s e => by
    have := h.o5 b off s e
    have := h.o1; have := h.o2
    exact hJ.blk b (by omega) (by omega)
  have hrr : W'.heap[r]? = W.heap[r]? := hJ.blk r h.o4 (by have := h.o3; omega)
  refine ⟨hH, fun e => (h.r0 e).keep hJ.size hrr hwl, fun g c e => ?_, (hJ.blk ab (blkLtH h.acc) (by have := h.o2; omega)).trans h.acc, hJ.bel _ _ (by have := h.o1; have := h.o2; omega) hs h.bel, h.o1, h.o2, h.o3, Nat.lt_of_lt_of_le h.o4 hJ.size, h.o5⟩
  have h1 := h.r1 g c e
  refine ⟨h1.host.keep hJ.size hrr hwl, ?_, Nat.lt_of_lt_of_le h1.lt hJ.size, h1.gt⟩
  unfold World.cell?
  rw [hJ.blk g h1.lt (by have := h1.gt; have := h.o3; omega)]
  exact h1.cell
theorem HostAt.keep {W W' : World} {m : Nat} (h : HostAt W m gm km ga ka) (hb : ∀ i, i < W.heap.size → i ≤ m + 1 + 1 + 1 + 1 → W'.heap[i]? = W.heap[i]?) : HostAt W' m gm km ga ka :=
  ⟨(hb _ (blkLtH h.box) (by omega)).trans h.box, h.mas.of_block (hb _ h.mas.lt (by omega)), h.acc.of_block (hb _ h.acc.lt (by omega))⟩
theorem JSt.refTurn {one' : Option (Nat × Nat)} (h : JSt w W a ab m r gm km ga ka ms ma mc lv one) (hJ : JPost W W' r) (h0 : one' = none → RHost W' r ms ma mc lv (.slice none 0 0)) (h1 : ∀ g c, one' = some (g, c) → ROne W' r g c ms ma mc lv a.id) : JSt w W' a ab m r gm km ga ka ms ma mc lv one' := by
  have hs := h.bel.size
  have := h.o1; have := h.o2; have := h.o3
  exact ⟨h.host.keep (fun i hi hm => hJ.blk i hi (by omega)), h0, h1, (hJ.blk ab (blkLtH h.acc) (by omega)).trans h.acc, hJ.bel _ _ (by omega) hs h.bel, h.o1, h.o2, h.o3, Nat.lt_of_lt_of_le h.o4 hJ.size, h.o5⟩
theorem JSt.below (h : JSt w W a ab m r gm km ga ka ms ma mc lv one) (hb : Below W.heap.size W W') : JSt w W' a ab m r gm km ga ka ms ma mc lv one :=
  ⟨h.host.below hb, fun e => (h.r0 e).below hb, fun g c e => (h.r1 g c e).below hb, (hb.block _ (blkLtH h.acc)).trans h.acc, h.bel.trans (hb.mono h.bel.size), h.o1, h.o2, h.o3, Nat.lt_of_lt_of_le h.o4 hb.size, h.o5⟩
theorem joinE_there (a : XAccount) (kn : Bool) (h : joinE a kn false = 0) : joinE a kn true = 6 := by
  unfold joinE at *
  split at h
  · cases h
  · next h1 =>
    rw [if_neg h1]
    split at h
    · cases h
    · next h2 =>
      rw [if_neg h2]
      split at h
      · cases h
      · next h3 => rw [if_neg h3, if_pos rfl]
/-- four Joins, one behind the other -/
theorem four_joins (h1 : a.id.size ≤ maxLen) (h2 : a.pin.size ≤ maxLen) (h3 : InX a.version) (h16 : ∀ p ∈ ms, p.2.size = 16) (hkn : (gm a.version).isSome = hasV ms a.version) (h : JSt w W a ab m r gm km (fun _ => none) [] ms ma mc lv none) :
    ∃ (I : Nat → World → Prop) (ja jb : Int), I 0 W ∧ (∀ W, I 0 W → I 0 W.drew) ∧ (∀ k W, I k W → W.heap[ab]? = some (accObj a)) ∧ (∀ W, I 4 W → Below w.heap.size w W) ∧
      (∀ W, I 0 W → Calls Tryd.prog 8 #[.pointer (some ⟨m + 1 + 1 + 1 + 1, 0, none⟩), valAccount a] W fun e W' => e = .returned (.int .i64 ja) ∧ I 1 W') ∧
      (∀ W, I 1 W → Calls Tryd.prog 9 #[.pointer (some ⟨r, 0, none⟩), valAccount a] W fun e W' => e = .returned (.int .i64 ja) ∧ I 2 W') ∧
      (∀ W, I 2 W → Calls Tryd.prog 8 #[.pointer (some ⟨m + 1 + 1 + 1 + 1, 0, none⟩), valAccount a] W fun e W' => e = .returned (.int .i64 jb) ∧ I 3 W') ∧
      (∀ W, I 3 W → Calls Tryd.prog 9 #[.pointer (some ⟨r, 0, none⟩), valAccount a] W fun e W' => e = .returned (.int .i64 jb) ∧ I 4 W') := by
  by_cases hz : joinE a (hasV ms a.version) false = 0
  · -- it is taken, then it is there
    refine ⟨fun k W => match k with
      | 0 => JSt w W a ab m r gm km (fun _ => none) [] ms ma mc lv none
      | 1 => ∃ n, JSt w W a ab m r gm km (updX (fun _ => none) a.id (some (some n))) (addX [] a.id) ms ma mc lv none
      | _ => ∃ n g c, JSt w W a ab m r gm km (updX (fun _ => none) a.id (some (some n))) (addX [] a.id) ms ma mc lv (some (g, c)), 0, 6, h, fun W h => h.below (Below.refl _ _).drew, fun k W hk => ?_, fun W hk => ?_, fun W hk => ?_, fun W hk => ?_, fun W hk => ?_, fun W hk => ?_⟩
    · rcases k with _ | _ | k
      · exact hk.acc
      · obtain ⟨n, hk⟩ := hk; exact hk.acc
      · obtain ⟨n, g, c, hk⟩ := hk; exact hk.acc
    · obtain ⟨n, g, c, hk⟩ := hk; exact hk.bel
    · have hc := hjoin_any a h1 h2 h3 W m gm km (fun _ => none) [] hk.host (by simp) (fun x y e => by cases e)
      rw [hkn] at hc
      refine hc.mono fun e W' hh => ?_
      obtain ⟨he, hJ, hy, _⟩ := hh
      have hz' : joinE a (hasV ms a.version) ((fun _ => none : ByteArray → Option (Option Nat)) a.id).isSome = 0 := hz
      obtain ⟨n, hn⟩ := hy hz'
      rw [hz'] at he
      exact ⟨he, n, hk.hostTurn hJ hn⟩
    · obtain ⟨n, hk⟩ := hk
      have hc := rjoin0 a h1 h2 r ms ma mc lv W h16 (hk.r0 rfl)
      refine hc.mono fun e W' hh => ?_
      obtain ⟨he, hJ, hy, _⟩ := hh
      obtain ⟨g, c, hg⟩ := hy hz
      rw [hz] at he
      exact ⟨he, n, g, c, hk.refTurn hJ (fun e => by cases e) (fun g' c' e => by cases e; exact hg)⟩
    · obtain ⟨n, g, c, hk⟩ := hk
      have hc := hjoin_any a h1 h2 h3 W m gm km (updX (fun _ => none) a.id (some (some n))) (addX [] a.id) hk.host (by unfold addX; rw [if_neg (by simp)]; simp) (fun x y e => by
        by_cases hx : x = a.id
        · rw [hx, updX_at] at e; cases e; simp
        · rw [updX_off _ _ _ hx] at e; cases e)
      rw [hkn, updX_at] at hc
      refine hc.mono fun e W' hh => ?_
      obtain ⟨he, hJ, _, hn⟩ := hh
      have h6 : joinE a (hasV ms a.version) (some (some n) : Option (Option Nat)).isSome = 6 := joinE_there a _ hz
      rw [h6] at he hn
      exact ⟨he, n, g, c, hk.hostTurn hJ (hn (by decide))⟩
    · obtain ⟨n, g, c, hk⟩ := hk
      have hc := rjoin1 a h1 h2 r g c ms ma mc lv W h16 (hk.r1 g c rfl)
      refine hc.mono fun e W' hh => ?_
      obtain ⟨he, hb⟩ := hh
      rw [joinE_there a _ hz] at he
      exact ⟨he, n, g, c, hk.below hb⟩
  · refine ⟨fun k W => JSt w W a ab m r gm km (fun _ => none) [] ms ma mc lv none, joinE a (hasV ms a.version) false, joinE a (hasV ms a.version) false, h, fun W h => h.below (Below.refl _ _).drew, fun k W hk => hk.acc, fun W hk => hk.bel, fun W hk => ?_, fun W hk => ?_, fun W hk => ?_, fun W hk => ?_⟩
    · have hc := hjoin_any a h1 h2 h3 W m gm km (fun _ => none) [] hk.host (by simp) (fun x y e => by cases e)
      rw [hkn] at hc
      exact hc.mono fun e W' hh => ⟨hh.1, hk.hostTurn hh.2.1 (hh.2.2.2 hz)⟩
    · have hc := rjoin0 a h1 h2 r ms ma mc lv W h16 (hk.r0 rfl)
      exact hc.mono fun e W' hh => ⟨hh.1, hk.refTurn hh.2.1 (fun _ => hh.2.2.2 hz) (fun g' c' e => by cases e)⟩
    · have hc := hjoin_any a h1 h2 h3 W m gm km (fun _ => none) [] hk.host (by simp) (fun x y e => by cases e)
      rw [hkn] at hc
      exact hc.mono fun e W' hh => ⟨hh.1, hk.hostTurn hh.2.1 (hh.2.2.2 hz)⟩
    · have hc := rjoin0 a h1 h2 r ms ma mc lv W h16 (hk.r0 rfl)
      exact hc.mono fun e W' hh => ⟨hh.1, hk.refTurn hh.2.1 (fun _ => hh.2.2.2 hz) (fun g' c' e => by cases e)⟩
end
end Go.Proofs.YtbiipeapcclbkaaDoor
