/- clear, the document's own: Post. -/
import Derived.Test.YtbgplapbdghdmaaClrX
import Derived.Deep.DeepCutAuto
namespace Go.Proofs.Ytbgplapbdghdmaa
open Go.RowKit
set_option linter.unusedVariables false
set_option linter.unusedSimpArgs false
set_option maxRecDepth 100000

variable {w w' : World} {G : Nat → Prop} {r : Nat} {S : Clr} {vL vO : Value} {ks : List (Kse × Value)} {os : List Ow}
def rbad (p : Pst) : Bool := decide (p.frm < 1 ∨ 99 < p.frm ∨ p.to < 1 ∨ 99 < p.to ∨ p.amt < 0 ∨ 999999999999 < p.amt ∨ p.day < 0 ∨ 65535 < p.day ∨ p.shop < 0 ∨ 4294967295 < p.shop ∨ p.trace < 0 ∨ 4294967295 < p.trace)
/-- what a call of the document's Clear leaves -/
def rPost (w : World) (G : Nat → Prop) (r : Nat) (R : Int × Clr) (e : Ending) (w' : World) : Prop :=
  e = .returned (.int .i64 R.1) ∧ ∃ G' : Nat → Prop, RAt w' G' r R.2 ∧ Chg G w w' ∧ (∀ x, G' x → G x ∨ w.heap.size ≤ x)
theorem infoK : (Try.prog.info? 91).map (fun i => (i.zero, i.size, i.bytes)) = some (some (.agg #[.int .i64 0, .int .i64 0, .int .i64 0, .int .i64 0, .int .i64 0, .int .i64 0, .slice none 0 0]), 7, 72) := by kernel_rfl
theorem rbad_post (S : Clr) (p : Pst) (h : rbad p = true) : postS S p = (3, S) := by
  have h1 := of_decide_eq_true h
  unfold postS
  cases hb : pstBad p with
  | true => rfl
  | false =>
    have h2 := of_decide_eq_false hb
    have hd : dayE S.last p.day = 3 := by unfold dayE; rw [if_pos (by omega)]
    rw [hd]; rfl
theorem rgood_post (p : Pst) (h : rbad p = false) : pstBad p = false ∧ 0 ≤ p.amt ∧ p.amt ≤ 999999999999 := by
  have h1 := of_decide_eq_false h
  exact ⟨decide_eq_false (by omega), by omega, by omega⟩
theorem tags_ne {α β : Type} {w : World} {base base' : Nat} {e e' : TypeId} {m m' : Nat} {c : α → List Value} {c' : β → List Value} {v v' : Value} {l : List α} {l' : List β} (h : OwnR w base e m c v l) (h' : OwnR w base' e' m' c' v' l') (hne : e ≠ e') {x : Nat} (hx : v.ownBlock = some x) : v'.ownBlock ≠ some x := fun hx' => by
  obtain ⟨c1, h1⟩ := h.tag hx
  obtain ⟨c2, h2⟩ := h'.tag hx'
  rw [h1] at h2
  injection h2 with h2
  injection h2 with _ h2 _
  exact hne h2
/-- the world behind the append of a case -/
structure RMid (W W2 : World) (r : Nat) (S : Clr) (vL vO vL' : Value) (ks ks' : List (Kse × Value)) (os : List Ow) : Prop where
  blk : RB W2 r S.D vL' S.last vO
  row : OwnR W2 0 91 7 cellsK vL' ks'
  deeds : ∀ k ∈ ks, OwnR W2 0 60 3 cellsDd k.2 k.1.ds
  owed : OwnR W2 0 46 3 cellsO vO os
  chg : Chg (fun x => x = r ∨ vL.ownBlock = some x) W W2
  where_ : ∀ x, vL'.ownBlock = some x → vL.ownBlock = some x ∨ W.heap.size ≤ x
theorem rmid_keep {W w3 : World} {obj : Obj} (h : RIn W G r S vL vO ks os) (hg : (W.drew.alloc obj).grownBy w3 vL.ownBlock) : RB w3 r S.D vL S.last vO ∧ (∀ k ∈ ks, OwnR w3 0 60 3 cellsDd k.2 k.1.ds) ∧ OwnR w3 0 46 3 cellsO vO os := by
  have hs : (W.drew.alloc obj).heap.size = W.heap.size + 1 := by simp
  have hblk : ∀ x, x < W.heap.size → vL.ownBlock ≠ some x → w3.heap[x]? = W.heap[x]? := fun x hx hn => (hg.block x (by rw [hs]; omega) (Ne.symm hn)).trans (Below.heap_alloc W.drew obj x hx)
  refine ⟨h.blk.of_block (hblk r h.blk.lt h.ne_row), fun k hk => (h.deeds k hk).of_block (fun x hx => hblk x (oR_lt (h.deeds k hk) hx) (tags_ne (h.deeds k hk) h.row (by decide) hx)), h.owed.of_block (fun x hx => hblk x (oR_lt h.owed hx) (tags_ne h.owed h.row (by decide) hx))⟩
theorem rmid_of {W w3 : World} {obj : Obj} {x : Kse × Value} {g cap : Nat} (h : RIn W G r S vL vO ks os) (hg : (W.drew.alloc obj).grownBy w3 vL.ownBlock)
    (own : w3.ownsRow 0 91 7 (.slice (some ⟨g, 0, none⟩) (ks.length + 1) cap) (ks.length + 1) (rowC cellsK ks ++ cellsK x)) (hat : vL.ownBlock = some g ∨ g = W.heap.size + 1) :
    RMid W (w3.setCell ⟨r, 4, none⟩ (.slice (some ⟨g, 0, none⟩) (ks.length + 1) cap)) r S vL vO (.slice (some ⟨g, 0, none⟩) (ks.length + 1) cap) ks (ks ++ [x]) os := by
  obtain ⟨h1, h2, h3⟩ := rmid_keep h hg
  have o3 : OwnR w3 0 91 7 cellsK (.slice (some ⟨g, 0, none⟩) (ks.length + 1) cap) (ks ++ [x]) := OwnR.snoc x own
  have hgr : g ≠ r := fun e => by
    subst e
    rcases hat with hat | hat
    · exact h.ne_row hat
    · have := h.blk.lt; omega
  refine ⟨h1.setL _, o3.other (a := ⟨r, 4, none⟩) (fun e => hgr (Option.some.inj e)) _, fun k hk => (h2 k hk).other (a := ⟨r, 4, none⟩) (h.ne_deed hk) _, h3.other (a := ⟨r, 4, none⟩) h.ne_owed _, ?_, fun y hy => ?_⟩
  · have e2 : Chg (fun x => x = r ∨ vL.ownBlock = some x) W (W.drew.alloc obj) := Chg.of_below _ ((Below.refl W.heap.size W).drew.alloc (Nat.le_refl _) _)
    have e4 : Chg (fun x => x = r ∨ vL.ownBlock = some x) (W.drew.alloc obj) w3 := ⟨hg.os, hg.tape, hg.output, hg.size, fun k hk hn => hg.block k hk (fun e => hn (.inr e.symm))⟩
    exact (e2.trans e4 (fun x hx => .inl hx)).trans (Chg.setCell w3 _ _) (fun x hx => .inl (.inl hx))
  · obtain rfl : g = y := Option.some.inj hy
    rcases hat with hat | hat
    · exact .inl hat
    · exact .inr (by omega)
/-- a case more -/
theorem rposted {w W2 W3 : World} {p : Pst} {vL' : Value} {g cap : Nat} (h : RIn w G r S vL vO ks os) (hm : RMid w W2 r S vL vO vL' ks (ks ++ [(⟨p, [], startC p⟩, .slice none 0 0)]) os) (ha : 0 ≤ p.amt)
    (hB : RB W3 r S.D vL' S.last (.slice (some ⟨g, 0, none⟩) (os.length + 1) cap)) (hO : OwnR W3 0 46 3 cellsO (.slice (some ⟨g, 0, none⟩) (os.length + 1) cap) (os ++ [owD p p.amt])) (hat : vO.ownBlock = some g ∨ W2.heap.size ≤ g) (hC : Chg (fun x => x = r ∨ vO.ownBlock = some x) W2 W3) :
    ∃ G' : Nat → Prop, RAt W3 G' r { S with L := S.L ++ [⟨p, [], startC p⟩], ow := owU S.ow p p.amt } ∧ Chg G w W3 ∧ ∀ x, G' x → G x ∨ w.heap.size ≤ x := by
  have hs := hm.chg.size
  have hs2 := hC.size
  have hkeep : ∀ x, x < W2.heap.size → x ≠ r → vO.ownBlock ≠ some x → W3.heap[x]? = W2.heap[x]? := fun x hx h1 h2 => hC.block x hx (fun e => by rcases e with e | e; exact h1 e; exact h2 e)
  have hneL : ∀ x, vL'.ownBlock = some x → x ≠ r := fun x hx e => by
    obtain ⟨cur, hc⟩ := hm.row.tag hx
    have := hm.blk
    unfold RB at this
    subst e
    rw [this] at hc
    injection hc with hc
    injection hc with _ hc _
    exact absurd hc (by decide)
  have hneD : ∀ k ∈ ks, ∀ x, k.2.ownBlock = some x → x ≠ r := fun k hk x hx e => h.ne_deed hk (e ▸ hx)
  refine ⟨fun x => G x ∨ (w.heap.size ≤ x ∧ x < W3.heap.size), ⟨vL', .slice (some ⟨g, 0, none⟩) (os.length + 1) cap, ks ++ [(⟨p, [], startC p⟩, .slice none 0 0)], os ++ [owD p p.amt], ?_⟩, ?_, fun x hx => by rcases hx with hx | hx; exact .inl hx; exact .inr hx.1⟩
  · refine { blk := hB, lst := ?_, row := ?_, deeds := ?_, owed := hO, sums := ?_, pos := ?_, cnt := ?_, gr := .inl h.gr, gL := ?_, gO := ?_, gD := ?_, glt := ?_, nod := ?_ }
    · rw [List.map_append, h.lst]; rfl
    · exact hm.row.of_block (fun x hx => hkeep x (oR_lt hm.row hx) (hneL x hx) (tags_ne hm.row hm.owed (by decide) hx))
    · intro k hk
      rcases List.mem_append.1 hk with hk | hk
      · exact (hm.deeds k hk).of_block (fun x hx => hkeep x (oR_lt (hm.deeds k hk) hx) (hneD k hk x hx) (tags_ne (hm.deeds k hk) hm.owed (by decide) hx))
      · obtain rfl := List.mem_singleton.1 hk
        exact OwnR.nil _ _ _ _ _
    · intro a b hab
      exact sumO_owD os p p.amt a b S.ow hab (h.sums a b hab)
    · intro o ho
      rcases List.mem_append.1 ho with ho | ho
      · exact h.pos o ho
      · obtain rfl := List.mem_singleton.1 ho
        unfold owD
        rw [if_neg (by omega)]
        exact ha
    · show _ ≤ sumB (S.L ++ [_])
      rw [sumB_snoc, List.length_append]
      have := h.cnt
      show 1000000000000 * ((os.length + 1 : Nat) : Int) ≤ sumB S.L + 1000000000000
      omega
    · intro x hx
      rcases hm.where_ x hx with e | e
      · exact .inl (h.gL x e)
      · exact .inr ⟨e, Nat.lt_of_lt_of_le (oR_lt hm.row hx) hs2⟩
    · intro x hx
      obtain rfl : g = x := Option.some.inj hx
      rcases hat with e | e
      · exact .inl (h.gO g e)
      · exact .inr ⟨by omega, oR_lt hO rfl⟩
    · intro k hk x hx
      rcases List.mem_append.1 hk with hk | hk
      · exact .inl (h.gD k hk x hx)
      · obtain rfl := List.mem_singleton.1 hk
        cases hx
    · intro x hx
      rcases hx with hx | hx
      · have := h.glt x hx; omega
      · exact hx.2
    · intro k hk
      rcases List.mem_append.1 hk with hk | hk
      · exact h.nod k hk
      · obtain rfl := List.mem_singleton.1 hk
        exact fun _ => rfl
  · refine (hm.chg.mono (fun x hx => ?_)).trans hC (fun x hx => ?_)
    · rcases hx with rfl | hx
      · exact h.gr
      · exact h.gL x hx
    · rcases hx with rfl | hx
      · exact .inl h.gr
      · exact .inl (h.gO x hx)
theorem RIn.cin_box (h : RIn w G r S vL vO ks os) {W : World} {p : Pst} (hx : Bx w W p) : RIn W G r S vL vO ks os := h.keep hx.bel.size (fun x hx' => hx.bel.block x (h.glt x hx'))
set_option maxHeartbeats 4000000 in
theorem rpost_any (h : RIn w G r S vL vO ks os) (hok : okS S) (hcnt : os.length ≤ 500000) (p : Pst) :
    Calls Try.prog 14 #[.pointer (some ⟨r, 0, none⟩), pstV p] w (rPost w G r (postS S p)) := by
  have HX0 := hide (Bx.start w p)
  have hrl := h.blk.lt
  have NA := hide (ramt_any p.amt (w.alloc (boxP p)))
  have HH := hide h; have HOK := hide hok; have HCN := hide hcnt
  clear hcnt
  obtain ⟨R, hR⟩ : ∃ R, R = postS S p := ⟨_, rfl⟩
  rw [← hR]
  have HRR := hide hR
  clear hR
  obtain ⟨c0, c1, c2, c3, c4, c5⟩ := boxC (unhide HX0).box
  clear h hok
  unfold pstV boxP at *
  go_enter Try.func14, Try.ntmps14
  go_upto_region 1 with fail
  go_cut [59] (fun v wx => wx = w.alloc (.cells #[.int .i64 p.frm, .int .i64 p.to, .int .i64 p.shop, .int .i64 p.trace, .int .i64 p.amt, .int .i64 p.day] 34) ∧ v = .bool (rbad p))
  case first =>
    by_cases t0 : p.frm < 1
    · have HBV : Hid (rbad p = true) := hide (decide_eq_true (by omega))
      go_wp2_with fail
      go_meet
      case rel => exact ⟨rfl, by rw [unhide HBV]; first | done | rfl | (congr 1; simp; omega)⟩
    by_cases t1 : 99 < p.frm
    · have HBV : Hid (rbad p = true) := hide (decide_eq_true (by omega))
      go_wp2_with fail
      go_meet
      case rel => exact ⟨rfl, by rw [unhide HBV]; first | done | rfl | (congr 1; simp; omega)⟩
    by_cases t2 : p.to < 1
    · have HBV : Hid (rbad p = true) := hide (decide_eq_true (by omega))
      go_wp2_with fail
      go_meet
      case rel => exact ⟨rfl, by rw [unhide HBV]; first | done | rfl | (congr 1; simp; omega)⟩
    by_cases t3 : 99 < p.to
    · have HBV : Hid (rbad p = true) := hide (decide_eq_true (by omega))
      go_wp2_with fail
      go_meet
      case rel => exact ⟨rfl, by rw [unhide HBV]; first | done | rfl | (congr 1; simp; omega)⟩
    cases hin : inB 0 p.amt 999999999999
    · have hin' := of_decide_eq_false hin
      have HBV : Hid (rbad p = true) := hide (decide_eq_true (by omega))
      rw [hin] at NA
      go_wp2_with fail
      refine (unhide NA).mono ?_
      rintro e w1 ⟨rfl, hw1⟩
      rw [hw1]
      clear hw1
      go_wp2_with fail
      go_meet
      case rel => exact ⟨rfl, by rw [unhide HBV]; first | done | rfl | (congr 1; simp; omega)⟩
    · have hin' := of_decide_eq_true hin
      by_cases t5 : p.day < 0
      · have HBV : Hid (rbad p = true) := hide (decide_eq_true (by omega))
        rw [hin] at NA
        go_wp2_with fail
        refine (unhide NA).mono ?_
        rintro e w1 ⟨rfl, hw1⟩
        rw [hw1]
        clear hw1
        go_wp2_with fail
        go_meet
        case rel => exact ⟨rfl, by rw [unhide HBV]; first | done | rfl | (congr 1; simp; omega)⟩
      by_cases t6 : 65535 < p.day
      · have HBV : Hid (rbad p = true) := hide (decide_eq_true (by omega))
        rw [hin] at NA
        go_wp2_with fail
        refine (unhide NA).mono ?_
        rintro e w1 ⟨rfl, hw1⟩
        rw [hw1]
        clear hw1
        go_wp2_with fail
        go_meet
        case rel => exact ⟨rfl, by rw [unhide HBV]; first | done | rfl | (congr 1; simp; omega)⟩
      by_cases t7 : p.shop < 0
      · have HBV : Hid (rbad p = true) := hide (decide_eq_true (by omega))
        rw [hin] at NA
        go_wp2_with fail
        refine (unhide NA).mono ?_
        rintro e w1 ⟨rfl, hw1⟩
        rw [hw1]
        clear hw1
        go_wp2_with fail
        go_meet
        case rel => exact ⟨rfl, by rw [unhide HBV]; first | done | rfl | (congr 1; simp; omega)⟩
      by_cases t8 : 4294967296 ≤ p.shop
      · have HBV : Hid (rbad p = true) := hide (decide_eq_true (by omega))
        rw [hin] at NA
        go_wp2_with fail
        refine (unhide NA).mono ?_
        rintro e w1 ⟨rfl, hw1⟩
        rw [hw1]
        clear hw1
        go_wp2_with fail
        go_meet
        case rel => exact ⟨rfl, by rw [unhide HBV]; first | done | rfl | (congr 1; simp; omega)⟩
      by_cases t9 : p.trace < 0
      · have HBV : Hid (rbad p = true) := hide (decide_eq_true (by omega))
        rw [hin] at NA
        go_wp2_with fail
        refine (unhide NA).mono ?_
        rintro e w1 ⟨rfl, hw1⟩
        rw [hw1]
        clear hw1
        go_wp2_with fail
        go_meet
        case rel => exact ⟨rfl, by rw [unhide HBV]; first | done | rfl | (congr 1; simp; omega)⟩
      by_cases t10 : 4294967296 ≤ p.trace
      · have HBV : Hid (rbad p = true) := hide (decide_eq_true (by omega))
        rw [hin] at NA
        go_wp2_with fail
        refine (unhide NA).mono ?_
        rintro e w1 ⟨rfl, hw1⟩
        rw [hw1]
        clear hw1
        go_wp2_with fail
        go_meet
        case rel => exact ⟨rfl, by rw [unhide HBV]; first | done | rfl | (congr 1; simp; omega)⟩
      have HBV : Hid (rbad p = false) := hide (decide_eq_false (by omega))
      rw [hin] at NA
      go_wp2_with fail
      refine (unhide NA).mono ?_
      rintro e w1 ⟨rfl, hw1⟩
      rw [hw1]
      clear hw1
      go_wp2_with fail
      go_meet
      case rel => exact ⟨rfl, by rw [unhide HBV]; first | done | rfl | (congr 1; simp; omega)⟩
  case rest =>
    obtain ⟨hwc, hu⟩ := hcut
    subst hwc hu
    cases hb : rbad p
    · have hres : R = if dayE S.last p.day ≠ 0 then (dayE S.last p.day, S) else if (idxK S.L p.shop p.trace).isSome then (6, { S with last := p.day }) else if 100000 ≤ S.L.length then (8, { S with last := p.day }) else (0, { S with last := p.day, L := S.L ++ [⟨p, [], startC p⟩], ow := owU S.ow p p.amt }) := by
        rw [unhide HRR]; unfold postS; rw [(rgood_post p hb).1, if_neg (by decide)]
      have HAM := hide (rgood_post p hb).2
      have HBX : Hid (Bx w (w.alloc (.cells #[.int .i64 p.frm, .int .i64 p.to, .int .i64 p.shop, .int .i64 p.trace, .int .i64 p.amt, .int .i64 p.day] 34)) p) := HX0
      have hI := (unhide HH).cin_box (unhide HBX)
      have N1 := rday_any r S.D S.last p.day vL vO _ hI.blk
      clear hb
      by_cases hd : dayE S.last p.day = 0
      · rw [if_neg (by simpa using hd)] at hres
        rw [hd] at N1
        have HT := hide (hI.told p.day)
        rw [World.setCell_alloc_past _ _ _ _ hrl] at HT
        have hok2 := (unhide HOK).told hd
        have N2 := hide (kase_any (unhide HT) hok2 p.shop p.trace)
        have hCT : Chg G w ((w.setCell ⟨r, 5, none⟩ (.int .i64 p.day)).alloc (.cells #[.int .i64 p.frm, .int .i64 p.to, .int .i64 p.shop, .int .i64 p.trace, .int .i64 p.amt, .int .i64 p.day] 34)) := by
          rw [← World.setCell_alloc_past _ _ _ _ hrl]
          exact (Chg.of_below G (unhide HBX).bel).trans (Chg.setCell _ _ _) (fun x hx => .inl (by subst hx; exact (unhide HH).gr))
        have hbx2 : ((w.setCell ⟨r, 5, none⟩ (.int .i64 p.day)).alloc (.cells #[.int .i64 p.frm, .int .i64 p.to, .int .i64 p.shop, .int .i64 p.trace, .int .i64 p.amt, .int .i64 p.day] 34)).heap[w.heap.size]? = some (boxP p) := by
          rw [← World.setCell_alloc_past _ _ _ _ hrl, Below.heap_setCell _ _ _ _ (by show w.heap.size ≠ r; omega)]
          exact (unhide HBX).box
        obtain ⟨_, _, _, _, _, x5, _⟩ := hI.blk.cells
        have xf := hI.blk.frozen 5
        have HN1 := hide N1; have HCT := hide hCT; have HB2 := hide hbx2; have HRS := hide hres
        clear N1 hI hd hok2 hCT hbx2 hres
        go_wp2_with fail
        refine (unhide HN1).mono ?_
        rintro e w1 ⟨rfl, hw1⟩
        rw [hw1]
        clear hw1
        go_wp2_with fail
        generalize (w.setCell ⟨r, 5, none⟩ (.int .i64 p.day)).alloc (.cells #[.int .i64 p.frm, .int .i64 p.to, .int .i64 p.shop, .int .i64 p.trace, .int .i64 p.amt, .int .i64 p.day] 34) = W at *
        cases hi : idxK S.L p.shop p.trace with
        | some i =>
          rw [hi] at N2
          have hres := unhide HRS
          rw [hi, if_pos (show (some i).isSome = true from rfl)] at hres
          have HRES := hide hres
          clear hres
          clear hi
          refine (unhide N2).mono ?_
          rintro e w2 ⟨rfl, hw2⟩
          rw [hw2]
          clear hw2
          unfold kPtr
          go_wp2
          go_ret
          rw [unhide HRES]
          exact ⟨rfl, G, ⟨_, _, _, _, unhide HT⟩, unhide HCT, fun x hx => .inl hx⟩
        | none =>
          rw [hi] at N2
          have hres := unhide HRS
          rw [hi, if_neg (by decide)] at hres
          have hlen : ks.length = S.L.length := by rw [← (unhide HH).lst, List.length_map]
          obtain ⟨⟨ao, cap, hv⟩, _⟩ := (unhide HT).row.form
          have hlk : (ks.length : Int) ≤ 100000 := by have := (unhide HOK).len; omega
          subst hv
          obtain ⟨_, _, _, _, x4, _, _⟩ := (unhide HT).blk.cells
          by_cases hl : 100000 ≤ S.L.length
          · rw [if_pos hl] at hres
            have HRES := hide hres
            clear hres
            have hlb : (100000 : Int) ≤ (ks.length : Int) := by omega
            clear hi hl hlen
            refine (unhide N2).mono ?_
            rintro e w2 ⟨rfl, hw2⟩
            rw [hw2]
            clear hw2
            unfold kPtr
            go_wp2
            go_ret
            rw [unhide HRES]
            exact ⟨rfl, G, ⟨_, _, _, _, unhide HT⟩, unhide HCT, fun x hx => .inl hx⟩
          · rw [if_neg hl] at hres
            have HRES := hide hres
            clear hres
            have hlb : decide ((100000 : Int) ≤ (ks.length : Int)) = false := decide_eq_false (by omega)
            have hl2 : ks.length ≤ 100000 := by omega
            obtain ⟨i0, hi0, hz0, hz1, hz2⟩ := info_parts infoK
            obtain ⟨y0, y1, y2, y3, y4, y5⟩ := boxC (unhide HB2)
            have hrW := (unhide HT).blk.lt
            have HI := hide hi0; have Z0 := hide hz0; have Z1 := hide hz1; have Z2 := hide hz2; have HL2 := hide hl2
            clear hi hl hlen hi0 hz0 hz1 hz2 hl2 hlk
            refine (unhide N2).mono ?_
            rintro e w2 ⟨rfl, hw2⟩
            rw [hw2]
            clear hw2
            unfold kPtr
            go_wp2_with fail
            go_region_law ((refine step_append_lies _ (by rfl) _ _ _ (by rfl) 0 91 i0 _ 7 72 Try.underlying55 (unhide HI) (unhide Z0) (unhide Z1) (unhide Z2) rfl (by omega) _ _ _ (by rfl) ((unhide HT).row.drew.alloc _) ⟨W.heap.size, 0, none⟩ 1 1 [.int .i64 p.frm, .int .i64 p.to, .int .i64 p.shop, .int .i64 p.trace, .int .i64 p.amt, .int .i64 p.day, .slice none 0 0] (by rfl) (by rfl) (World.news_of_block (heap_alloc_new _ _)) (by simp [Value.oneCell']) (by omega) (by have := unhide HL2; unfold maxLen; omega) (by have := unhide HL2; omega) (by omega) (W.heap.size + 1) (by simp) ?_; intro g3 cap3 w3 own3 hgrow hat3 hlt3; have q4 := (rmid_keep (unhide HT) hgrow).1.cells.2.2.2.2.1; have qf := (rmid_keep (unhide HT) hgrow).1.frozen 4))
            all_goals
              have hM := rmid_of (x := (⟨p, [], startC p⟩, .slice none 0 0)) (unhide HT) hgrow own3 hat3
              have hb3 : (w3.setCell ⟨r, 4, none⟩ (.slice (some ⟨g3, 0, none⟩) (ks.length + 1) cap3)).heap[w.heap.size]? = some (boxP p) := (hM.chg.block w.heap.size (blk_lt (unhide HB2)) (fun e => by
                rcases e with e | e
                · omega
                · have := (unhide HH).glt _ ((unhide HT).gL _ e); omega)).trans (unhide HB2)
              obtain ⟨v0, v1, v2, v3, v4, v5⟩ := boxC hb3
              have N3 := hide (owe_any r S.D p.day p.amt _ vO os p _ hM.blk hM.owed (unhide HCN) (by have := unhide HAM; unfold InR; omega))
              have HM := hide hM
              unfold pstV at N3
              clear own3 hgrow hat3 hM hb3 y0 y1 y2 y3 y4 y5 x4 q4 qf
              generalize w3.setCell ⟨r, 4, none⟩ (.slice (some ⟨g3, 0, none⟩) (ks.length + 1) cap3) = V at *
              go_wp2_with fail
              refine (unhide N3).mono ?_
              rintro e w5 ⟨rfl, g5, cap5, q1, q2, q3, q5⟩
              obtain ⟨G', z1, z2, z3⟩ := rposted (unhide HT) (unhide HM) (unhide HAM).1 q1 q2 q3 q5
              have HZ := hide (And.intro z1 (And.intro ((unhide HCT).trans z2 (fun x hx => .inl hx)) (fun x hx => by rcases z3 x hx with h | h; exact Or.inl h; exact Or.inr (Nat.le_trans (unhide HCT).size h) : ∀ x, G' x → G x ∨ w.heap.size ≤ x)))
              clear q1 q2 q3 q5 z1 z2 z3
              go_wp2
              go_ret
              rw [unhide HRES]
              exact ⟨rfl, G', (unhide HZ).1, (unhide HZ).2.1, (unhide HZ).2.2⟩
      · rw [if_pos hd] at hres
        have hne : (dayE S.last p.day != 0) = true := by simpa using hd
        generalize dayE S.last p.day = er at *
        have HRES := hide hres
        clear hres
        have HN1 := hide N1; have HI := hide hI
        clear N1 hI hd
        go_wp2_with fail
        refine (unhide HN1).mono ?_
        rintro e w1 ⟨rfl, hw1⟩
        rw [hw1]
        clear hw1
        go_wp2
        go_ret
        rw [unhide HRES]
        exact ⟨rfl, G, ⟨_, _, _, _, unhide HI⟩, Chg.of_below G (unhide HBX).bel, fun x hx => .inl hx⟩
    · have HRES : Hid (R = (3, S)) := hide ((unhide HRR).trans (rbad_post S p hb))
      have HBX : Hid (Bx w (w.alloc (.cells #[.int .i64 p.frm, .int .i64 p.to, .int .i64 p.shop, .int .i64 p.trace, .int .i64 p.amt, .int .i64 p.day] 34)) p) := HX0
      have HI := hide ((unhide HH).cin_box (unhide HBX))
      clear hb
      go_wp2
      go_ret
      rw [unhide HRES]
      exact ⟨rfl, G, ⟨_, _, _, _, unhide HI⟩, Chg.of_below G (unhide HBX).bel, fun x hx => .inl hx⟩
end Go.Proofs.Ytbgplapbdghdmaa
