/- Plan of the program. -/
import Derived.Test.YtbnpajijbdddiaaStB
import Derived.Deep.AppendLies
import Derived.Deep.RegionLaw
import Derived.Deep.RegionWith
import Derived.BigRegion
import Derived.Lib.SliceRun
namespace Go.Proofs.Ytbnpajijbdddiaa
open Go.RowKit
set_option linter.unusedVariables false

def cellsPos (x : XPos) : List Value := [.int .i64 x.bank, .int .i64 x.has]
def cellsOwe (x : XOwe) : List Value := [.int .i64 x.frm, .int .i64 x.dst, .int .i64 x.amount]
theorem cellsPos_len (x : XPos) : (cellsPos x).length = 2 := rfl
theorem cellsOwe_len (x : XOwe) : (cellsOwe x).length = 3 := rfl
theorem infoPos : (Try.prog.info? 44).map (fun i => (i.zero, i.size, i.bytes)) = some (some (.agg #[.int .i64 0, .int .i64 0]), 2, 16) := by kernel_rfl
theorem infoOwe : (Try.prog.info? 29).map (fun i => (i.zero, i.size, i.bytes)) = some (some (.agg #[.int .i64 0, .int .i64 0, .int .i64 0]), 3, 24) := by kernel_rfl
theorem oneCell_pos (x : XPos) : ∀ u ∈ cellsPos x, u.oneCell' = true := by
  intro u hu; simp [cellsPos] at hu; rcases hu with rfl | rfl <;> rfl

set_option maxHeartbeats 1000000 in
theorem clone_any (l : List XPos) (ao : Option Addr) (cap : Nat) (w : World) (hr : RowPos w ao l) (h99 : l.length ≤ 99) :
    Calls Try.prog 15 #[.slice ao l.length cap] w fun e w' => (∃ v, e = .returned v ∧ OwnR w' w.heap.size 44 2 cellsPos v l) ∧ Below w.heap.size w w' := by
  obtain ⟨i0, hi, hz0, hz1, hz2⟩ := info_parts infoPos
  have q : ∀ (w : World) (a : Option Addr) (n c n' c' : Nat), (binOp .eql 22 (.slice a n c) (.slice none n' c')).run Try.prog w = .ok (.bool a.isNone) w := fun w a n c n' c' => Lib.run_eql_slice_nil w _ _ a n c n' c' Try.underlying22
  have HR := hide hr
  have hmx : l.length ≤ maxLen := hr.2.2
  clear hr
  cases ao with
  | none =>
    have hl : l = [] := by
      rcases (unhide HR).1 with h | ⟨b, off, h, _⟩
      · exact h
      · cases h
    subst hl
    go_enter Try.func15, Try.ntmps15
    go_wp2
    go_ret
    exact ⟨⟨_, rfl, OwnR.nil _ _ _ _ _⟩, Below.refl _ _⟩
  | some a =>
    have hnews : ∀ j u, (rowC cellsPos l)[j]? = some u → w.cell? (a.add j) = some u := by
      intro j u hj
      rcases (unhide HR).1 with h | ⟨b, off, h, hb, hc⟩
      · rw [h] at hj; simp [rowC] at hj
      · obtain rfl : a = ⟨b, off, none⟩ := by simpa using h
        have hjl : j < l.length * 2 := by
          have := (List.getElem?_eq_some_iff.1 hj).1
          rwa [rowC_length cellsPos_len] at this
        obtain ⟨x, hx⟩ : ∃ x, l[j / 2]? = some x := ⟨_, List.getElem?_eq_getElem (by omega)⟩
        obtain ⟨c0, c1⟩ := hc _ x hx
        have e := rowC_at cellsPos_len l (j / 2) (j % 2) x hx (by omega)
        rw [show j / 2 * 2 + j % 2 = j by omega, hj] at e
        have ha : (⟨b, off, none⟩ : Addr).add j = ⟨b, off + j, none⟩ := by simp [Addr.add]
        rw [ha]
        rcases Nat.mod_two_eq_zero_or_one j with h2 | h2
        · rw [h2] at e
          obtain rfl : u = .int .i64 x.bank := by simpa [cellsPos] using e
          rw [← c0]; congr 2; omega
        · rw [h2] at e
          obtain rfl : u = .int .i64 x.has := by simpa [cellsPos] using e
          rw [← c1]; congr 2; omega
    have HN := hide hnews
    clear hnews
    go_enter Try.func15, Try.ntmps15
    go_wp2_with (at_builtin; refine wpList_append_own _ rfl _ _ 22 rfl w.heap.size 44 i0 (.agg #[.int .i64 0, .int .i64 0]) 2 16 Try.underlying22 hi hz0 hz1 hz2 rfl (by decide) _ _ _ rfl (World.ownsRow_made w #[] 0 (Nat.le_refl _) (Nat.zero_le _) rfl) a l.length cap (rowC cellsPos l) rfl ?qc1 ?qc2 ?qc3 ?qc4 ?qc5 ?qc6 ?_)
    case qc1 => exact rowC_length cellsPos_len l
    case qc2 => exact fun j u hu => Lib.cell?_alloc_some _ (unhide HN j u hu)
    case qc3 => exact rowC_cells oneCell_pos l
    case qc4 => unfold maxLen at hmx ⊢; omega
    case qc5 => omega
    case qc6 => simp
    intro v' w1 hown hgrow hnil
    go_wp2
    go_ret
    exact ⟨⟨v', rfl, by simpa [OwnR] using hown⟩, ((Below.refl _ w).alloc (Nat.le_refl _) _).grown hgrow (by simp) (by intro k hk; simp [Value.ownBlock] at hk; omega)⟩

/-- positions in a block, each by its bank and what it has -/
def LeftAt (w : World) (g : Nat) (bk : Nat → Int) (hs : List Int) : Prop := ∃ cur : Array Value, w.heap[g]? = some (.cells cur 44 (0, 0)) ∧ ∀ i, i < hs.length → cur[i * 2]? = some (.int .i64 (bk i)) ∧ cur[i * 2 + 1]? = some (.int .i64 (atH hs i))
theorem cell_of_blk {w : World} {g j : Nat} {cs : Array Value} {e : TypeId} {fr : Nat × Nat} (h : w.heap[g]? = some (.cells cs e fr)) : w.cell? ⟨g, j, none⟩ = cs[j]? := by
  unfold World.cell?; rw [h]; simp
theorem LeftAt.has {w : World} {g : Nat} {bk : Nat → Int} {hs : List Int} (h : LeftAt w g bk hs) : HasAt w g hs := by
  obtain ⟨cur, hh, hc⟩ := h
  exact fun i hi => by rw [cell_of_blk hh, (hc i hi).2]
theorem LeftAt.bank {w : World} {g : Nat} {bk : Nat → Int} {hs : List Int} (h : LeftAt w g bk hs) (i : Nat) (hi : i < hs.length) : w.cell? ⟨g, i * 2, none⟩ = some (.int .i64 (bk i)) := by
  obtain ⟨cur, hh, hc⟩ := h
  rw [cell_of_blk hh, (hc i hi).1]
theorem LeftAt.frozen {w : World} {g : Nat} {bk : Nat → Int} {hs : List Int} (h : LeftAt w g bk hs) (j : Nat) : w.frozen? ⟨g, j, none⟩ = false := by
  obtain ⟨cur, hh, hc⟩ := h
  simp [World.frozen?, hh]
theorem LeftAt.lt {w : World} {g : Nat} {bk : Nat → Int} {hs : List Int} (h : LeftAt w g bk hs) : g < w.heap.size := by
  obtain ⟨cur, hh, hc⟩ := h
  exact block_ltR hh
theorem LeftAt.of_block {w w' : World} {g : Nat} {bk : Nat → Int} {hs : List Int} (h : LeftAt w g bk hs) (e : w'.heap[g]? = w.heap[g]?) : LeftAt w' g bk hs := by
  obtain ⟨cur, hh, hc⟩ := h
  exact ⟨cur, e.trans hh, hc⟩
theorem LeftAt.set {w : World} {g : Nat} {bk : Nat → Int} {hs : List Int} (h : LeftAt w g bk hs) (i : Nat) (hi : i < hs.length) (x : Int) : LeftAt (w.setCell ⟨g, i * 2 + 1, none⟩ (.int .i64 x)) g bk (hs.set i x) := by
  obtain ⟨cur, hh, hc⟩ := h
  refine ⟨cur.setIfInBounds (i * 2 + 1) (.int .i64 x), by simp [World.setCell, Array.getElem?_modify, hh], fun j hj => ?_⟩
  have hj' : j < hs.length := by simpa using hj
  obtain ⟨c0, c1⟩ := hc j hj'
  have hsz : j * 2 + 1 < cur.size := (Array.getElem?_eq_some_iff.1 c1).1
  refine ⟨by rw [Array.getElem?_setIfInBounds_ne (by omega)]; exact c0, ?_⟩
  rw [atH_set _ _ _ _ hi]
  by_cases e : j = i
  · subst e; rw [if_pos rfl]; simp [hsz]
  · rw [if_neg e, Array.getElem?_setIfInBounds_ne (by omega)]; exact c1
theorem left_of_own {w : World} {B g cap : Nat} {l : List XPos} (h : OwnR w B 44 2 cellsPos (.slice (some ⟨g, 0, none⟩) l.length cap) l) (h0 : 0 < l.length) : LeftAt w g (bankAt l) (hasL l) := by
  rcases h.2 with ⟨h1, _⟩ | ⟨g', cap', cur, hv, hg, hh, _, _, _, htake⟩
  · cases h1
  · have hgg : g = g' := by injection hv with a; injection a with a; injection a
    subst hgg
    refine ⟨cur, hh, fun i hi => ?_⟩
    have hi' : i < l.length := by simpa [hasL] using hi
    obtain ⟨x, hx⟩ : ∃ x, l[i]? = some x := ⟨_, List.getElem?_eq_getElem hi'⟩
    have a0 := rowC_at cellsPos_len l i 0 x hx (by omega)
    have a1 := rowC_at cellsPos_len l i 1 x hx (by omega)
    rw [← htake, List.getElem?_take_of_lt (by omega)] at a0 a1
    have eb : bankAt l i = x.bank := by simp [bankAt, hx]
    have eh : atH (hasL l) i = x.has := by simp [atH, hasL, hx]
    rw [eb, eh]
    exact ⟨by simpa [cellsPos] using a0, by simpa [cellsPos] using a1⟩
def payOf (bk : Nat → Int) (p : Nat × Nat × Int) : XOwe := ⟨bk p.1, bk p.2.1, p.2.2⟩
/-- the payments -/
def payL (l : List XPos) : List XOwe := (planH l.length (hasL l)).map (payOf (bankAt l))
end Go.Proofs.Ytbnpajijbdddiaa
