/- clear: Cut. -/
import Derived.Test.YtdameincehiieaaClrS
import Derived.Deep.AppendLies
import Derived.Shelf.SlSortCmp.NoneTotal
namespace Go.Proofs.Ytdameincehiieaa
open Go.RowKit Go.WideMaps Go.Maps Go.Sort
set_option linter.unusedVariables false
set_option maxRecDepth 100000

variable {w w' : World} {F : Nat → Prop} {b m1 m2 n k : Nat} {S : Clr} {qs : List Nat}
theorem sortO_none (ao : Option Addr) (cap : Nat) (fv : Value) (w : World) : Calls Try.prog 34 #[.slice ao 0 cap, fv] w fun e w' => e = .returned (.tuple #[]) ∧ w' = w := AnyF.slices_SortFunc_none Try.sortOwe ao cap fv w
def cutPost (w : World) (F : Nat → Prop) (b : Nat) (S : Clr) (e : Ending) (w' : World) : Prop :=
  ∃ (v : Value) (F' : Nat → Prop), e = .returned v ∧ OwnR w' w.heap.size 52 3 cellsO v (cutL S.ow) ∧ CAt w' F' b { S with ow := fun _ _ => 0 } ∧ Chg F w w' ∧ (∀ x, F' x → F x ∨ w.heap.size ≤ x) ∧ (∀ x, F' x → v.ownBlock ≠ some x)
/-- behind the sort: a new map -/
theorem cut_end (h : CIn w F b S m1 m2 n k qs) {W : World} (hb : Below w.heap.size w W) {v : Value} {l : List Ow} (hv : OwnR W (w.heap.size + 1) 52 3 cellsO v l) :
    ∃ F' : Nat → Prop, OwnR ((W.alloc (.map #[] 0)).setCell ⟨b, 6, none⟩ (.map (some W.heap.size))) w.heap.size 52 3 cellsO v l ∧ CAt ((W.alloc (.map #[] 0)).setCell ⟨b, 6, none⟩ (.map (some W.heap.size))) F' b { S with ow := fun _ _ => 0 } ∧ Chg F w ((W.alloc (.map #[] 0)).setCell ⟨b, 6, none⟩ (.map (some W.heap.size))) ∧ (∀ x, F' x → F x ∨ w.heap.size ≤ x) ∧ (∀ x, F' x → v.ownBlock ≠ some x) := by
  have hbl := h.flt b h.fb
  have hsz := hb.size
  have ha : Below w.heap.size w (W.alloc (.map #[] 0)) := hb.alloc hsz _
  have hI := h.keep ha.size (fun x hx => ha.block x (h.flt x hx))
  have hT := Tnd.set (W.alloc (.map #[] 0)) b 6 (.map (some W.heap.size))
  have hs1 : (W.alloc (.map #[] 0)).heap.size = W.heap.size + 1 := by simp
  have hB : ClrB ((W.alloc (.map #[] 0)).setCell ⟨b, 6, none⟩ (.map (some W.heap.size))) b S.D S.last m1 W.heap.size := by
    have := hI.blk
    unfold ClrB at *
    simp [World.setCell, Array.getElem?_modify, this]
  have hP : PMap ((W.alloc (.map #[] 0)).setCell ⟨b, 6, none⟩ (.map (some W.heap.size))) W.heap.size 0 (fun _ _ => 0) := (PMap.made W).tnd hT (by omega)
  have hnew : ∀ x, F x → x ≠ W.heap.size := fun x hx e => by have := h.flt x hx; omega
  refine ⟨fun x => F x ∨ x = W.heap.size, ?_, ⟨m1, W.heap.size, n, 0, qs, ?_⟩, ?_, fun x hx => by rcases hx with hx | rfl; exact .inl hx; exact .inr hsz, fun x hx e => ?_⟩
  · exact ((hv.alloc _).mono (Nat.le_succ _)).other (fun e => by have := (hv.lt b e).1; omega) _
  · refine { blk := hB, nm := hI.nm.tnd hT hI.n1, nn := h.nn, pm := hP, kk := ?_, qlen := h.qlen, pays := fun i q x hq hx => (hI.pays i q x hq hx).tnd hT (h.nq q (List.mem_of_getElem? hq)).1, qnd := h.qnd, fb := .inl h.fb, f1 := .inl h.f1, f2 := .inr rfl, fq := fun q hq => .inl (h.fq q hq), flt := ?_, n1 := h.n1, n2 := Ne.symm (hnew b h.fb), n3 := hnew m1 h.f1, nq := fun q hq => ⟨(h.nq q hq).1, (h.nq q hq).2.1, hnew q (h.fq q hq)⟩ }
    · exact (sumB_in S.L).1
    · intro x hx
      have e : ((W.alloc (.map #[] 0)).setCell ⟨b, 6, none⟩ (.map (some W.heap.size))).heap.size = W.heap.size + 1 := by simp [World.setCell]
      rw [e]
      rcases hx with hx | rfl
      · have := h.flt x hx; omega
      · omega
  · exact (Chg.of_below F ha).trans (Chg.of_tnd hT) (fun x hx => by subst hx; exact .inl h.fb)
  · have := hv.lt x e
    rcases hx with hx | rfl
    · have := h.flt x hx; omega
    · omega
set_option maxHeartbeats 2000000 in
theorem cut_any (h : CIn w F b S m1 m2 n k qs) (hok : okS S) : Calls Try.prog 17 #[.pointer (some ⟨b, 0, none⟩)] w (cutPost w F b S) := by
  obtain ⟨i0, hi, hz0, hz1, hz2⟩ := info_parts infoO
  obtain ⟨D, hown, hR, hK⟩ := h.pm
  obtain ⟨_, _, _, _, _, _, c6⟩ := h.blk.cells
  have hbl := h.blk.lt
  have hml := h.pm.lt
  have hmax : Maps.size D ≤ 500000 := by
    have h1 : Maps.size D ≤ k := hown.size_le
    have h2 := h.kk
    have h3 := (sumB_in S.L).2
    have h4 := hok.len
    omega
  have hmm := @run_makeMap Try.prog
  have HH := hide h; have HR := hide hR; have HK := hide hK; have HI := hide hi; have Z0 := hide hz0; have Z1 := hide hz1; have Z2 := hide hz2; have HF := hide hok.ow2; have HMX := hide hmax
  clear h hR hK hi hz0 hz1 hz2 hok hmax
  go_enter Try.func17, Try.ntmps17
  go_wp2_with (at_range; refine wpList_range_own _ rfl _ 65 rfl 89 3 lawPair Try.underlying65 _ m2 k D rfl hown ?_; intro w0 hrg0 hg0 hs0)
  go_frame
  have HS0 := hide hs0
  clear hs0 c6
  go_loopw [3] (fun v wr => ∃ (left : Lit → Bool) (cnt : Nat) (l : List Ow), wr.ranges Try.prog 89 (plainElem Try.prog 3) m2 w.heap.size k D left cnt ∧ Hid (l.length + cnt ≤ Maps.size D) ∧ OwnR wr (w.heap.size + 1) 52 3 cellsO v l ∧ CollO D S.ow left l ∧ Below w.heap.size w wr)
    (fun _ wr => wr.rangeLeft m2 w.heap.size)
  case atStart => exact ⟨_, _, [], hrg0, hide (by simp), OwnR.nil _ _ _ _ _, CollO.start D _, (Below.refl _ _).grown hg0 (Nat.le_refl _) (fun j hj => by cases hj)⟩
  case round =>
    obtain ⟨left, cnt, l, hrg, hcs, hrow, hC, hnx⟩ := hrel
    have hne := row_ne_iter hrow hrg
    have hlow : some m2 ≠ u3.ownBlock := fun e => by have := (hrow.lt m2 e.symm).1; omega
    have HCS := hcs; have HRW := hide hrow; have HCC := hide hC; have HNX := hide hnx; have HNE := hide hne; have HLO := hide hlow
    clear hcs hrow hC hnx hne hlow
    go_wp2_with (at_next; refine wpList_next_pair _ rfl _ rfl m2 w.heap.size k D S.ow left cnt rfl hrg (unhide HR) (unhide HK) ?_ ?_)
    · intro hl0
      have hall := fun o => (unhide HCC).all (unhide HR) (unhide HK) hl0 (unhide HF) o
      have hnd := (unhide HCC).1
      have hll : l.length ≤ 500000 := by have := unhide HCS; have := unhide HMX; omega
      have cb6 : wr.cell? ⟨b, 6, none⟩ = some (.map (some m2)) := by
        have := (unhide HH).blk.of_block ((unhide HNX).block b hbl)
        exact this.cells.2.2.2.2.2.2
      rcases (unhide HRW).form.2 with hnil | ⟨g, cap, hv, hgb, hgl⟩
      · have hu : u3 = .slice none 0 0 ∨ ∃ g cap, u3 = .slice (some ⟨g, 0, none⟩) l.length cap := by
          rcases (unhide HRW).2 with ⟨h0, _⟩ | ⟨g, cap, cur, h0, _⟩
          · exact .inl h0
          · exact .inr ⟨g, cap, h0⟩
        have hcl : l = cutL S.ow := cut_only (by rw [hnil]; exact List.Pairwise.nil) hnd hall
        have HE := hide (cut_end (unhide HH) (unhide HNX) (hcl ▸ unhide HRW))
        have hN : ∃ (ao : Option Addr) (cap : Nat), u3 = .slice ao 0 cap ∧ ∀ fv W, Calls Try.prog 34 #[.slice ao 0 cap, fv] W fun e w' => e = .returned (.tuple #[]) ∧ w' = W := by
          rcases hu with h0 | ⟨g, cap, h0⟩
          · exact ⟨none, 0, h0, fun fv W => sortO_none none 0 fv W⟩
          · rw [hnil] at h0; exact ⟨some ⟨g, 0, none⟩, cap, h0, fun fv W => sortO_none (some ⟨g, 0, none⟩) cap fv W⟩
        obtain ⟨ao, cap, rfl, hN⟩ := hN
        have HN := hide hN
        have fb6 : wr.frozen? ⟨b, 6, none⟩ = false := ((unhide HH).blk.of_block ((unhide HNX).block b hbl)).frozen 6
        have hblr : b < wr.heap.size := Nat.lt_of_lt_of_le hbl (unhide HNX).size
        clear hall hnd hu hnil hcl hN hrg hrg0 hg0 hl0 hll
        go_wp2_with fail
        refine (unhide HN _ _).mono ?_
        rintro e w5 ⟨rfl, hw5⟩
        rw [hw5]
        clear hw5
        go_wp2
        go_ret
        obtain ⟨F', q1, q2, q3, q4, q5⟩ := unhide HE
        rw [World.setCell_alloc_past _ _ _ _ hblr] at q1 q2 q3
        exact ⟨_, F', rfl, q1, q2, q3, q4, q5⟩
      · subst hv
        have N5 := hide (sortO_any l g cap (w.heap.size + 1) wr (unhide HRW) (by omega))
        have HALL := hide hall; have HND := hide hnd
        have hgr : w.heap.size ≤ g := by omega
        clear hall hnd hrg hrg0 hg0 hl0 hll cb6
        go_wp2_with fail
        refine (unhide N5).mono ?_
        rintro e W ⟨rfl, l', hp, hs, ho, hg⟩
        have hcl : l' = cutL S.ow := cut_only hs (hp.nodup_iff.2 (unhide HND)) (fun o => hp.mem_iff.trans (unhide HALL o))
        have hbW : Below w.heap.size w W := (unhide HNX).grown hg (unhide HNX).size (fun j hj => by cases hj; exact hgr)
        have hll' : l'.length = l.length := hp.length_eq
        have HE := hide (cut_end (unhide HH) hbW (hcl ▸ ho))
        have hBW := (unhide HH).blk.of_block (hbW.block b hbl)
        have cb6 : W.cell? ⟨b, 6, none⟩ = some (.map (some m2)) := hBW.cells.2.2.2.2.2.2
        have fb6 : W.frozen? ⟨b, 6, none⟩ = false := hBW.frozen 6
        have hblr : b < W.heap.size := Nat.lt_of_lt_of_le hbl hbW.size
        clear hp hs ho hg hcl hbW hll' hBW
        go_wp2
        go_ret
        obtain ⟨F', q1, q2, q3, q4, q5⟩ := unhide HE
        rw [World.setCell_alloc_past _ _ _ _ hblr] at q1 q2 q3
        exact ⟨_, F', rfl, q1, q2, q3, q4, q5⟩
    · intro xa xb kl w2 cnt2 ra rb hkey hlk hhas hrg2 hlt hg2 hs2 hen
      have hrow2 := (unhide HRW).kept hg2 (Or.inr (Ne.symm (unhide HNE)))
      have HRG2 := hide hrg2; have HLT := hide hlt; have HG2 := hide hg2; have HRW2 := hide hrow2; have HST := hide ((unhide HCC).step ra rb hkey hlk hhas)
      have hW2 : w.heap.size + 1 ≤ w2.heap.size := by have := (unhide HNX).size; have := hrg2.lt; omega
      have hb2 : Below w.heap.size w w2 := (unhide HNX).grown hg2 (unhide HNX).size (fun j hj => by cases hj; exact Nat.le_refl _)
      have hll : l.length ≤ 500000 := by have := unhide HCS; have := unhide HMX; omega
      have HB2 := hide hb2
      have HRG := hide hrg
      clear hs2 hrg2 hlt hg2 hrow2 hkey hlk hhas hb2 hrg hrg0 hg0
      unfold twoV at *
      generalize S.ow xa xb = z at *
      go_wp2_with (at_builtin; refine wpList_append_own _ rfl _ _ 32 rfl (w.heap.size + 1) 52 i0 (.agg #[.int .i64 0, .int .i64 0, .int .i64 0]) 3 24 Try.underlying32 (unhide HI) (unhide Z0) (unhide Z1) (unhide Z2) rfl (by decide) _ _ _ rfl (((unhide HRW2).alloc _).alloc _) ⟨w2.heap.size + 1, 0, none⟩ 1 1 [.int .i64 xa, .int .i64 xb, .int .i64 z] rfl rfl ?c1 ?c2 ?c3 ?c4 ?c5 ?_)
      case c1 =>
        have := World.news_of_block (heap_alloc_new (w2.alloc (.cells #[.int .i64 xa, .int .i64 xb] 89)) (.cells #[.int .i64 xa, .int .i64 xb, .int .i64 z] 52))
        rw [show (w2.alloc (.cells #[.int .i64 xa, .int .i64 xb] 89)).heap.size = w2.heap.size + 1 by simp] at this
        exact this
      case c2 => simp [Value.oneCell']
      case c3 => unfold maxLen; omega
      case c4 => omega
      case c5 => first | omega | (simp; omega)
      intro v5 w5 hown5 hgrow5 _
      (try go_frame)
      have ho5 : OwnR w5 (w.heap.size + 1) 52 3 cellsO v5 (l ++ [⟨xa, xb, z⟩]) := OwnR.snoc (⟨xa, xb, z⟩ : Ow) hown5
      have hrg5 := (((unhide HRG2).alloc (.cells #[.int .i64 xa, .int .i64 xb] 89)).alloc (.cells #[.int .i64 xa, .int .i64 xb, .int .i64 z] 52)).kept hgrow5 (unhide HLO) (unhide HNE)
      have hb5 : Below w.heap.size w w5 := (((unhide HB2).alloc (by omega) (.cells #[.int .i64 xa, .int .i64 xb] 89)).alloc (by simp; omega) (.cells #[.int .i64 xa, .int .i64 xb, .int .i64 z] 52)).grown hgrow5 (by simp; omega) (fun j hj => by have := ((unhide HRW2).lt j hj).1; omega)
      have HRG5 := hide hrg5; have HO5 := hide ho5; have HB5 := hide hb5
      clear hrg5 ho5 hb5 hown5 hgrow5
      go_wp2
      go_roundw
      case rel =>
        refine ⟨_, cnt2, l ++ [⟨xa, xb, z⟩], unhide HRG5, hide ?_, unhide HO5, unhide HST, unhide HB5⟩
        have := unhide HCS; have := unhide HLT
        simp; omega
      case measure => rw [(unhide HRG5).left_eq, (unhide HRG).left_eq]; exact unhide HLT
end Go.Proofs.Ytdameincehiieaa
