/- PlanOf of the document: the walk. -/
import Derived.Test.YtbnpajijbdddiaaStQ
import Derived.Test.YtbnpajijbdddiaaMapI
namespace Go.Proofs.Ytbnpajijbdddiaa
open Go.RowKit
set_option linter.unusedVariables false

theorem RelM.pay {bk : Nat → Int} {hs : List Int} {F : Int → Int} (r : RelM bk hs.length (atH hs) F) (hr : ∀ j, j < hs.length → ∀ i, i < j → bk i < bk j) (h0 : 0 < hs.length) (hne : lowI hs ≠ topI hs) :
    RelM bk (stepH hs).length (atH (stepH hs)) (upd (upd F (bk (lowI hs)) (atH hs (lowI hs) + amtH hs)) (bk (topI hs)) (atH hs (topI hs) - amtH hs)) := by
  obtain ⟨l0, -, -⟩ := low_spec hs h0
  obtain ⟨t0, -, -⟩ := top_spec hs h0
  have inj : ∀ i j, i < hs.length → j < hs.length → bk i = bk j → i = j := by
    intro i j hi hj e
    rcases Nat.lt_trichotomy i j with h | h | h
    · have := hr j hj i h; omega
    · exact h
    · have := hr i hi j h; omega
  rw [stepH_length]
  refine ⟨fun i hi => ?_, fun b hb => ?_⟩
  · rw [atH_step hs h0 hne]
    unfold upd
    by_cases e1 : i = topI hs
    · rw [if_pos (by rw [e1]), if_pos e1, e1]
    · rw [if_neg (fun e => e1 (inj _ _ hi t0 e)), if_neg e1]
      by_cases e2 : i = lowI hs
      · rw [if_pos (by rw [e2]), if_pos e2, e2]
      · rw [if_neg (fun e => e2 (inj _ _ hi l0 e)), if_neg e2, r.1 i hi]
  · unfold upd
    rw [if_neg (fun e => hb _ t0 e.symm), if_neg (fun e => hb _ l0 e.symm)]
    exact r.2 b hb
/-- behind some payments of the document's -/
structure PayInv (l : List XPos) (out : List (Nat × Nat × Int)) (hs : List Int) (F : Int → Int) : Prop where
  len : hs.length = l.length
  sum : sumH hs = 0
  bnd : ∀ i, i < hs.length → -10000000000000000 ≤ atH hs i ∧ atH hs i ≤ 10000000000000000
  rel : RelM (bankAt l) hs.length (atH hs) F
  few : out.length + nzH hs ≤ l.length
  pay : planH l.length (hasL l) = out ++ planH (l.length - out.length) hs
theorem PayInv.step {l : List XPos} {out : List (Nat × Nat × Int)} {hs : List Int} {F : Int → Int} (h : PayInv l out hs F) (hr : ∀ j, j < l.length → ∀ i, i < j → bankAt l i < bankAt l j) (h0 : 0 < hs.length) (ha : amtH hs ≠ 0) :
    PayInv l (out ++ [(lowI hs, topI hs, amtH hs)]) (stepH hs) (upd (upd F (bankAt l (lowI hs)) (atH hs (lowI hs) + amtH hs)) (bankAt l (topI hs)) (atH hs (topI hs) - amtH hs)) := by
  rcases ends_of hs h0 h.sum with ⟨e1, _⟩ | ⟨e1, e2, e3, e4⟩
  · exact absurd e1 ha
  have hn := step_nz hs h0 e1 e2 e3 e4
  refine ⟨by rw [stepH_length]; exact h.len, by rw [step_sum hs h0]; exact h.sum, fun i hi => ?_, ?_, ?_, ?_⟩
  · rw [stepH_length] at hi
    exact step_within hs h0 h.sum _ h.bnd i hi
  · exact h.rel.pay (fun j hj i hi => hr j (by rw [← h.len]; exact hj) i hi) h0 e4
  · have := h.few; simp only [List.length_append, List.length_cons, List.length_nil]; omega
  · have hf := h.few
    rw [h.pay]
    obtain ⟨m, hm⟩ : ∃ m, l.length - out.length = m + 1 := ⟨l.length - out.length - 1, by omega⟩
    rw [hm, planH, if_neg ha, List.append_assoc, List.length_append]
    rw [show l.length - (out.length + [(lowI hs, topI hs, amtH hs)].length) = m by simp; omega]
    rfl
theorem PayInv.done {l : List XPos} {out : List (Nat × Nat × Int)} {hs : List Int} {F : Int → Int} (h : PayInv l out hs F) (ha : amtH hs = 0) : payL l = out.map (payOf (bankAt l)) := by
  unfold payL
  rw [h.pay]
  have : planH (l.length - out.length) hs = [] := by
    cases hx : l.length - out.length with
    | zero => rfl
    | succ m => rw [planH, if_pos ha]
  rw [this, List.append_nil]
theorem RelM.lay {l : List XPos} {k : Nat} {F : Int → Int} (r : RelM (bankAt l) k (atH (hasL l)) F) (hf : fallTo l (k + 1) = false) (v : Int) (hv : atH (hasL l) k = v) : RelM (bankAt l) (k + 1) (atH (hasL l)) (upd F (bankAt l k) v) := by
  have hr := bank_lt hf k (by omega)
  refine ⟨fun i hi => ?_, fun b hb => ?_⟩
  · unfold upd
    by_cases e : i = k
    · rw [e, if_pos rfl, hv]
    · have := hr i (by omega)
      rw [if_neg (by omega)]
      exact r.1 i (by omega)
  · unfold upd
    rw [if_neg (fun e => hb k (by omega) e.symm)]
    exact r.2 b (fun i hi => hb i (by omega))
/-- how long a slice is -/
def lenOf : Value → Nat
  | .slice _ n _ => n
  | _ => 0
theorem lenOf_slice (a : Option Addr) (n c : Nat) : lenOf (.slice a n c) = n := rfl
set_option maxRecDepth 100000 in
set_option maxHeartbeats 8000000 in
theorem planOf_any (l : List XPos) (ao : Option Addr) (cap : Nat) (w : World) (hr : RowPos w ao l) :
    Calls Try.prog 7 #[.slice ao l.length cap] w fun e w' => (∃ v : Value, e = .returned (.tuple #[v, .int .i64 (posE l)]) ∧ OwnR w' w.heap.size 29 3 cellsOwe v (planS l)) ∧ Below w.heap.size w w' := by
  obtain ⟨i0, hi, hz0, hz1, hz2⟩ := info_parts infoOwe
  have hS0 : posE l ≠ 0 → planS l = [] := fun h => by rw [planS, if_neg h]
  by_cases hl : 99 < l.length
  · have he : posE l = 2 := by rw [posE, if_pos hl]
    have HE := hide he; have HS := hide (hS0 (by omega))
    have hl' : (99 : Int) < (l.length : Int) := by omega
    clear he hS0 hr hl hi hz0 hz1 hz2
    go_enter Try.func7, Try.ntmps7
    go_wp2
    go_ret2
    exact ⟨⟨_, by rw [unhide HE]; rfl, by rw [unhide HS]; exact OwnR.nil _ _ _ _ _⟩, Below.refl _ _⟩
  have hl' : (l.length : Int) ≤ 99 := by omega
  have hE0 : posE l = bif l.any wrongP then 3 else bif fallTo l l.length then 1 else if sumH (hasL l) ≠ 0 then 7 else 0 := by rw [posE, if_neg hl]
  obtain ⟨hr, _, _⟩ := hr
  have HE := hide hE0; have HS0 := hide hS0; have HR := hide hr; have HI := hide hi; have Z0 := hide hz0; have Z1 := hide hz1; have Z2 := hide hz2
  clear hl hE0 hS0 hr hi hz0 hz1 hz2
  have hmm := @run_makeMap Try.prog
  go_enter Try.func7, Try.ntmps7
  go_wp2
  go_loopw [20] (fun i wr => ∃ k : Nat, k ≤ l.length ∧ i = .int .i64 k ∧ Hid ((l.take k).any wrongP = false) ∧ Below w.heap.size w wr) (fun i _ => l.length - (intOf i).toNat)
  case atStart => exact ⟨0, Nat.zero_le _, rfl, hide (by simp), Below.refl _ _⟩
  case round =>
    obtain ⟨k, hk, rfl, HA, hbw⟩ := hrel
    by_cases hlt : k < l.length
    · obtain ⟨y, hy⟩ : ∃ y, l[k]? = some y := ⟨_, List.getElem?_eq_getElem hlt⟩
      rcases (unhide HR) with hnil | ⟨b, off, rfl, hb, hc⟩
      · rw [hnil] at hlt; simp at hlt
      obtain ⟨c0, c1⟩ := hc k y hy
      have d0 : wr.cell? ⟨b, off + k * 2, none⟩ = _ := (hbw.cell (p := ⟨b, off + k * 2, none⟩) hb).trans c0
      have d1 : wr.cell? ⟨b, off + k * 2 + 1, none⟩ = _ := (hbw.cell (p := ⟨b, off + k * 2 + 1, none⟩) hb).trans c1
      have hst := anyQ_take_succ l wrongP k y hy
      rw [unhide HA, Bool.false_or] at hst
      have HBA := hide (fun o : Obj => hbw.alloc hbw.size o)
      clear hc c0 c1 hy hbw
      by_cases hw : y.bank < 1 ∨ 99 < y.bank ∨ y.has < -10000000000000000 ∨ 10000000000000000 < y.has
      · have hall := anyQ_of_take l wrongP (k + 1) (hst.trans (decide_eq_true hw))
        have he : posE l = 3 := by rw [unhide HE, hall]; rfl
        have HE := hide he; have HS := hide (unhide HS0 (by omega))
        clear hst hall he
        by_cases w1 : y.bank < 1
        · clear hw
          go_wp2
          go_ret2
          exact ⟨⟨_, by rw [unhide HE]; rfl, by rw [unhide HS]; exact OwnR.nil _ _ _ _ _⟩, unhide HBA _⟩
        by_cases w2 : 99 < y.bank
        · clear hw
          go_wp2
          go_ret2
          exact ⟨⟨_, by rw [unhide HE]; rfl, by rw [unhide HS]; exact OwnR.nil _ _ _ _ _⟩, unhide HBA _⟩
        by_cases w3 : 10000000000000000 < y.has
        · clear hw
          go_wp2
          go_ret2
          exact ⟨⟨_, by rw [unhide HE]; rfl, by rw [unhide HS]; exact OwnR.nil _ _ _ _ _⟩, unhide HBA _⟩
        have w4 : y.has < -10000000000000000 := by omega
        clear hw
        go_wp2
        go_ret2
        exact ⟨⟨_, by rw [unhide HE]; rfl, by rw [unhide HS]; exact OwnR.nil _ _ _ _ _⟩, unhide HBA _⟩
      · have HST := hide (hst.trans (decide_eq_false hw))
        have w1 : ¬ y.bank < 1 := by omega
        have w2 : ¬ 99 < y.bank := by omega
        have w3 : ¬ 10000000000000000 < y.has := by omega
        have w4 : ¬ y.has < -10000000000000000 := by omega
        clear hst hw
        go_wp2
        go_roundw
        case rel => exact ⟨k + 1, by omega, by go_num, HST, unhide HBA _⟩
        case measure => simp [intOf]; omega
    · have hall : l.any wrongP = false := by have := unhide HA; rw [List.take_of_length_le (by omega)] at this; exact this
      have he : posE l = bif fallTo l l.length then 1 else if sumH (hasL l) ≠ 0 then 7 else 0 := by rw [unhide HE, hall]; rfl
      have hw := anyQ_false hall
      have HE2 := hide he; have HW := hide hw; have HBW := hide hbw
      have hb0 := hbw.size
      clear hall he hw HA HE hbw
      go_wp2
      generalize wr = w0 at *
      go_loopw [7, 46] (fun t i wx => ∃ (k : Nat) (F : Int → Int), k ≤ l.length ∧ i = .int .i64 k ∧ t = .int .i64 (sumH (hasL (l.take k))) ∧ IMap wx w0.heap.size k F ∧ Hid (RelM (bankAt l) k (atH (hasL l)) F ∧ fallTo l k = false) ∧ Below w0.heap.size w0 wx) (fun _ i _ => l.length - (intOf i).toNat)
      case atStart => exact ⟨0, fun _ => 0, Nat.zero_le _, rfl, rfl, IMap.made _, hide ⟨⟨fun i hi => by omega, fun b _ => rfl⟩, rfl⟩, (Below.refl _ _).alloc (Nat.le_refl _) _⟩
      case round =>
        obtain ⟨k, F, hk, rfl, rfl, hmap, HRF, hbx⟩ := hrel
        by_cases hlt : k < l.length
        · obtain ⟨y, hy⟩ : ∃ y, l[k]? = some y := ⟨_, List.getElem?_eq_getElem hlt⟩
          rcases (unhide HR) with hnil | ⟨b, off, rfl, hb, hc⟩
          · rw [hnil] at hlt; simp at hlt
          have hbz := (unhide HBW).trans (hbx.mono (unhide HBW).size)
          obtain ⟨c0, c1⟩ := hc k y hy
          have d0 : wr.cell? ⟨b, off + k * 2, none⟩ = _ := (hbz.cell (p := ⟨b, off + k * 2, none⟩) hb).trans c0
          have d1 : wr.cell? ⟨b, off + k * 2 + 1, none⟩ = _ := (hbz.cell (p := ⟨b, off + k * 2 + 1, none⟩) hb).trans c1
          have hbk : bankAt l k = y.bank := by simp [bankAt, hy]
          have hhk : atH (hasL l) k = y.has := by simp [atH, hasL, hy]
          have hnw := notWrong (unhide HW y (List.mem_of_getElem? hy))
          obtain ⟨y1, y2, y3, y4⟩ := hnw
          have hst : fallTo l (k + 1) = decide (y.bank ≤ prevB l k) := by rw [fallTo, (unhide HRF).2, Bool.false_or, hbk]
          have hsn : sumH (hasL (l.take (k + 1))) = sumH (hasL (l.take k)) + y.has := by rw [hasL_take_succ l k y hy, sumH_snoc]
          have hsb := sum_take_bound l (unhide HW) k (by omega)
          have hsb2 := sum_take_bound l (unhide HW) (k + 1) (by omega)
          rw [hsn] at hsb2
          obtain ⟨s1, s2⟩ := hsb
          obtain ⟨s3, s4⟩ := hsb2
          have hmap2 := hmap.alloc (.cells #[.int .i64 y.bank, .int .i64 y.has] 44)
          have hbx2 := hbx.alloc hbx.size (.cells #[.int .i64 y.bank, .int .i64 y.has] 44)
          have hgo : fallTo l (k + 1) = false → RelM (bankAt l) (k + 1) (atH (hasL l)) (upd F y.bank y.has) := fun hf => by
            have := (unhide HRF).1.lay hf y.has hhk
            rw [hbk] at this; exact this
          have HGO := hide hgo; have HSN := hide hsn; have HM2 := hide hmap2; have HBX := hide hbx2; have HBZ := hide hbz; have HSZ := hide hbx.size
          have HHB := hide hb; have HHC := hide hc; have HHY := hide hbk
          have hw1 : IntKind.i64.wrap (sumH (hasL (l.take k)) + y.has) = sumH (hasL (l.take k)) + y.has := by rw [IntKind.wrap_i64]; omega
          generalize sumH (hasL (l.take k)) = S at *
          have HML := hide hmap.lt
          clear hc c0 c1 hbk hhk hsn hmap hmap2 hbx hbx2 hbz hgo hb hy
          have hfall : Hid (y.bank ≤ prevB l k → posE l = 1) := hide (fun h => by
            rw [unhide HE2, fallTo_mono l (k + 1) (by rw [hst]; exact decide_eq_true h) l.length (by omega)]; rfl)
          rcases Nat.eq_zero_or_pos k with hk0 | hk0
          · have HX : Hid (fallTo l (k + 1) = false) := hide (by rw [hst]; exact decide_eq_false (by rw [hk0]; show ¬ y.bank ≤ 0; omega))
            have hkd : decide (0 < k) = false := decide_eq_false (by omega)
            have HK0 := hide hk0
            clear hst hfall hk0
            go_wp2_with fail
            go_quiet (fail)
            go_wp2_with (at_mapUpdate; refine wpList_imap_put _ rfl _ _ _ rfl w0.heap.size k F rfl ((unhide HM2).drewN _) (by unfold maxLen; omega) y.bank y.has rfl rfl (by omega) (by omega) (by omega) (by omega) ?_)
            intro w1 hm1 hg1
            have hlt0 := unhide HML
            have hc1 : w1.cell? ⟨wr.heap.size, 1, none⟩ = some (.int .i64 y.has) := by
              rw [World.cell?_of_block (w := (wr.alloc (.cells #[.int .i64 y.bank, .int .i64 y.has] 44)).drewN nq) (a := ⟨wr.heap.size, 1, none⟩) (hg1.block _ (by simp) (by simp; omega))]
              simp
            have hb1 : Below w0.heap.size w0 w1 := (below_drewN (unhide HBX) nq).grown hg1 (by simp; omega) (fun q hq => by injection hq; omega)
            have HM1 := hide hm1; have HB1 := hide hb1
            clear hm1 hg1 hb1 hlt0
            go_wp2
            go_roundw
            case rel => exact ⟨k + 1, upd F y.bank y.has, by omega, by go_num, by rw [unhide HSN], unhide HM1, hide ⟨unhide HGO (unhide HX), unhide HX⟩, unhide HB1⟩
            case measure => simp [intOf]; omega
          · obtain ⟨m, hm⟩ : ∃ m, k = m + 1 := ⟨k - 1, by omega⟩
            obtain ⟨x, hx⟩ : ∃ x, l[m]? = some x := ⟨_, List.getElem?_eq_getElem (by omega)⟩
            have hpv : prevB l k = x.bank := by rw [hm]; show bankAt l m = _; simp [bankAt, hx]
            rw [hpv] at hst hfall
            have hx0 := (unhide HHC m x hx).1
            have hbl : b < wr.heap.size := Nat.lt_of_lt_of_le (unhide HHB) (unhide HBZ).size
            have e0 : ∀ o : Obj, (wr.alloc o).cell? ⟨b, off + m * 2, none⟩ = some (.int .i64 x.bank) := fun o => by
              rw [World.cell?_of_block (w := wr) (a := ⟨b, off + m * 2, none⟩) (heap_alloc_old wr o hbl), (unhide HBZ).cell (p := ⟨b, off + m * 2, none⟩) (unhide HHB)]
              exact hx0
            have hkd : decide (0 < k) = true := decide_eq_true hk0
            have hwm : IntKind.i64.wrap ((k : Int) - 1) = (m : Int) := by rw [IntKind.wrap_i64]; omega
            have hml : (m : Int) < (l.length : Int) := by omega
            have HM := hide hm
            clear hx hpv hx0 hm hbl
            by_cases hge : y.bank ≤ x.bank
            · have he := unhide hfall hge
              have HE := hide he; have HS := hide (unhide HS0 (by omega))
              clear hst hfall he
              go_wp2_with fail
              go_quiet (fail)
              go_wp2
              go_ret2
              exact ⟨⟨_, by rw [unhide HE]; rfl, by rw [unhide HS]; exact OwnR.nil _ _ _ _ _⟩, below_drewN ((unhide HBZ).alloc (unhide HBZ).size _) _⟩
            have HX : Hid (fallTo l (k + 1) = false) := hide (by rw [hst]; exact decide_eq_false hge)
            clear hst hfall
            go_wp2_with fail
            go_quiet (fail)
            go_wp2_with (at_mapUpdate; refine wpList_imap_put _ rfl _ _ _ rfl w0.heap.size k F rfl ((unhide HM2).drewN _) (by unfold maxLen; omega) y.bank y.has rfl rfl (by omega) (by omega) (by omega) (by omega) ?_)
            intro w1 hm1 hg1
            have hlt0 := unhide HML
            have hc1 : w1.cell? ⟨wr.heap.size, 1, none⟩ = some (.int .i64 y.has) := by
              rw [World.cell?_of_block (w := (wr.alloc (.cells #[.int .i64 y.bank, .int .i64 y.has] 44)).drewN nq) (a := ⟨wr.heap.size, 1, none⟩) (hg1.block _ (by simp) (by simp; omega))]
              simp
            have hb1 : Below w0.heap.size w0 w1 := (below_drewN (unhide HBX) nq).grown hg1 (by simp; omega) (fun q hq => by injection hq; omega)
            have HM1 := hide hm1; have HB1 := hide hb1
            clear hm1 hg1 hb1 hlt0
            go_wp2
            go_roundw
            case rel => exact ⟨k + 1, upd F y.bank y.has, by omega, by go_num, by rw [unhide HSN], unhide HM1, hide ⟨unhide HGO (unhide HX), unhide HX⟩, unhide HB1⟩
            case measure => simp [intOf]; omega
        · have hkl : k = l.length := by omega
          have hrf := unhide HRF
          rw [hkl] at hrf
          have hz : l.take k = l := by rw [hkl]; exact List.take_length
          rw [hz]
          obtain ⟨hrel0, hfl⟩ := hrf
          have he : posE l = if sumH (hasL l) ≠ 0 then 7 else 0 := by rw [unhide HE2, hfl]; rfl
          have hbz := (unhide HBW).trans (hbx.mono (unhide HBW).size)
          by_cases hS : sumH (hasL l) = 0
          case neg =>
            rw [if_pos hS] at he
            have HE := hide he; have HS := hide (unhide HS0 (by omega))
            have hS' : (sumH (hasL l) != 0) = true := by simpa using hS
            generalize sumH (hasL l) = S at *
            clear he hrel0 hfl hz hmap hbx
            go_wp2
            go_ret2
            exact ⟨⟨_, by rw [unhide HE]; rfl, by rw [unhide HS]; exact OwnR.nil _ _ _ _ _⟩, hbz⟩
          rw [if_neg (by omega)] at he
          have HE : Hid (posE l = 0) := hide he
          have HPS : Hid (planS l = payL l) := hide (by rw [planS, if_pos he])
          have hinv : PayInv l [] (hasL l) F := ⟨by simp [hasL], hS, has_bound (unhide HW), by rw [show (hasL l).length = l.length by simp [hasL]]; exact hrel0, by have := nzH_le (hasL l); simp [hasL] at this ⊢; exact this, by simp⟩
          have hrise : ∀ j, j < l.length → ∀ i, i < j → bankAt l i < bankAt l j := bank_lt hfl
          have hbin := bank_in (unhide HW)
          rw [hS]
          have HIN := hide hinv; have HRS := hide hrise; have HBN := hide hbin; have HMP := hide hmap; have HBZ := hide hbz
          have hb1 : w0.heap.size < wr.heap.size := hmap.lt
          have hkk : k ≤ 99 := by omega
          clear hrel0 hfl he hz hinv hrise hbin hmap hbx hbz HRF HE2 HS0 hS HW hkl
          go_wp2
          generalize wr = w1 at *
          go_loopw [10] (fun v wx => ∃ (out : List (Nat × Nat × Int)) (hs : List Int) (F : Int → Int), Hid (PayInv l out hs F) ∧ OwnR wx w1.heap.size 29 3 cellsOwe v (out.map (payOf (bankAt l))) ∧ IMap wx w0.heap.size (99 + 2 * out.length) F ∧ Below w.heap.size w wx ∧ w1.heap.size ≤ wx.heap.size) (fun v _ => 100 - lenOf v)
          case atStart => exact ⟨[], hasL l, F, HIN, OwnR.nil _ _ _ _ _, (unhide HMP).mono (by omega), unhide HBZ, Nat.le_refl _⟩
          case round =>
            clear HIN HMP HBZ
            obtain ⟨out, hs, F', HINV, hown, hmap, hbx, hsz⟩ := hrel
            obtain ⟨va, vc, hv0⟩ := hown.form.1
            rw [List.length_map] at hv0
            subst hv0
            have HOW := hide hown; have HBX := hide hbx
            clear hown hbx
            go_wp2
            generalize wr = wz at *
            go_loopw [11, 12, 13] (fun p r b wy => ∃ j : Nat, 1 ≤ j ∧ j ≤ 100 ∧ b = .int .i64 j ∧ p = .int .i64 ((minF (fun i : Nat => F' i) j : Nat) : Int) ∧ r = .int .i64 ((minF (fun i : Nat => -(F' i)) j : Nat) : Int) ∧ wy = wz) (fun _ _ b _ => 100 - (intOf b).toNat)
            case atStart => exact ⟨1, by omega, by omega, rfl, by simp [minF], by simp [minF], rfl⟩
            case round =>
              obtain ⟨j, hj1, hj2, rfl, rfl, rfl, rfl⟩ := hrel
              have m1 := (minF_spec (fun i : Nat => F' i) j (by omega)).1
              have m2 := (minF_spec (fun i : Nat => -(F' i)) j (by omega)).1
              by_cases hj : j ≤ 99
              · have L1 := hmap.look (j : Int) (by omega) (by omega)
                have L2 := hmap.look ((minF (fun i : Nat => F' i) j : Nat) : Int) (by omega) (by omega)
                have L3 := hmap.look ((minF (fun i : Nat => -(F' i)) j : Nat) : Int) (by omega) (by omega)
                have e1 : minF (fun i : Nat => F' i) (j + 1) = if F' (j : Int) < F' ((minF (fun i : Nat => F' i) j : Nat) : Int) then j else minF (fun i : Nat => F' i) j := rfl
                have e2 : minF (fun i : Nat => -(F' i)) (j + 1) = if F' ((minF (fun i : Nat => -(F' i)) j : Nat) : Int) < F' (j : Int) then j else minF (fun i : Nat => -(F' i)) j := by
                  rw [minF]
                  by_cases hx : F' ((minF (fun i : Nat => -(F' i)) j : Nat) : Int) < F' (j : Int)
                  · rw [if_pos hx, if_pos (by show -(F' (j : Int)) < -(F' _); omega)]
                  · rw [if_neg hx, if_neg (by show ¬ (-(F' (j : Int)) < -(F' _)); omega)]
                have E1 := hide e1; have E2 := hide e2
                have hjd : decide ((j : Int) ≤ 99) = true := decide_eq_true (by omega)
                clear e1 e2 hmap
                generalize minF (fun i : Nat => F' i) j = m at *
                generalize minF (fun i : Nat => -(F' i)) j = t at *
                by_cases c1 : F' (j : Int) < F' (m : Int)
                all_goals
                  by_cases c2 : F' (t : Int) < F' (j : Int)
                  all_goals
                    go_wp2
                    go_roundw
                    case rel => exact ⟨j + 1, by omega, by omega, by go_num, by rw [unhide E1]; first | rw [if_pos c1] | rw [if_neg c1], by rw [unhide E2]; first | rw [if_pos c2] | rw [if_neg c2], by first | trivial | rfl⟩
                    case measure => simp [intOf]; omega
              · obtain rfl : j = 100 := by omega
                have hinv := unhide HINV
                have hbn := unhide HBN
                rw [← hinv.len] at hbn
                have hrs := unhide HRS
                rw [← hinv.len] at hrs
                by_cases ha : amtH hs = 0
                · have h00 : minF (fun i : Nat => F' i) 100 = 0 ∧ minF (fun i : Nat => -(F' i)) 100 = 0 := by
                    rcases Nat.eq_zero_or_pos hs.length with h0 | h0
                    · have r0 := hinv.rel
                      rw [h0] at r0
                      exact ⟨pick_zero (atH hs) 0 (bankAt l) (fun i hi => by omega) _ (r0.g1 (fun i hi => by omega)) r0.g0 (fun i hi => by omega), pick_zero (fun i => -(atH hs i)) 0 (bankAt l) (fun i hi => by omega) _ (r0.neg.g1 (fun i hi => by omega)) r0.neg.g0 (fun i hi => by omega)⟩
                    · exact (poor_rich hinv.rel hrs hbn h0 hinv.sum).1 ha
                  have HPY := hide (hinv.done ha)
                  rw [h00.1, h00.2]
                  clear hinv hbn hrs h00 hmap m1 m2
                  go_wp2
                  go_ret2
                  refine ⟨⟨_, by rw [unhide HE]; rfl, ?_⟩, unhide HBX⟩
                  rw [unhide HPS, unhide HPY]
                  exact (unhide HOW).mono (by omega)
                · have h0 : 0 < hs.length := by
                    rcases Nat.eq_zero_or_pos hs.length with h0 | h0
                    · exfalso
                      obtain rfl : hs = [] := List.length_eq_zero_iff.1 h0
                      exact ha rfl
                    · exact h0
                  obtain ⟨l0, -, -⟩ := low_spec hs h0
                  obtain ⟨t0, -, -⟩ := top_spec hs h0
                  obtain ⟨hp, hq⟩ := (poor_rich hinv.rel hrs hbn h0 hinv.sum).2 ha
                  obtain ⟨e1, e2, e3, e4⟩ : 0 < amtH hs ∧ atH hs (lowI hs) < 0 ∧ 0 < atH hs (topI hs) ∧ lowI hs ≠ topI hs := by
                    rcases ends_of hs h0 hinv.sum with ⟨e1, _⟩ | h
                    · exact absurd e1 ha
                    · exact h
                  have bl := hbn _ l0; have bt := hbn _ t0
                  have hpI : ((minF (fun i : Nat => F' i) 100 : Nat) : Int) = bankAt l (lowI hs) := by rw [hp]; omega
                  have hqI : ((minF (fun i : Nat => -(F' i)) 100 : Nat) : Int) = bankAt l (topI hs) := by rw [hq]; omega
                  have hnb : bankAt l (lowI hs) ≠ bankAt l (topI hs) := by
                    rcases Nat.lt_or_ge (lowI hs) (topI hs) with h | h
                    · have := hrs _ t0 _ h; omega
                    · have := hrs _ l0 (topI hs) (by omega); omega
                  rw [hpI, hqI]
                  have L1 := hmap.look (bankAt l (topI hs)) (by omega) (by omega)
                  have L2 := hmap.look (bankAt l (lowI hs)) (by omega) (by omega)
                  rw [hinv.rel.1 _ t0] at L1
                  rw [hinv.rel.1 _ l0] at L2
                  have hstep := hinv.step (unhide HRS) h0 ha
                  obtain ⟨bl1, bl2⟩ := bl
                  obtain ⟨bt1, bt2⟩ := bt
                  have hbA := hinv.bnd _ l0; have hbB := hinv.bnd _ t0
                  obtain ⟨a1, a2, a3⟩ := amt_le hs
                  have hrelT := hinv.rel.1 _ t0
                  have hrelL := hinv.rel.1 _ l0
                  have hfew := hinv.few
                  have HST := hide hstep; have HRT := hide hrelT; have HRL := hide hrelL
                  clear hp hq hpI hqI hbn hrs hstep hinv m1 m2 hrelT hrelL hj hj1 hj2 l0 t0
                  have hmin : (if -(atH hs (lowI hs)) < atH hs (topI hs) then -(atH hs (lowI hs)) else atH hs (topI hs)) = amtH hs := by unfold amtH; split <;> omega
                  have HHS : Hid (hs = hs) := hide rfl
                  generalize hA : atH hs (lowI hs) = A at *
                  generalize hB : atH hs (topI hs) = B at *
                  generalize hM : amtH hs = M at *
                  generalize hbl : bankAt l (lowI hs) = p at *
                  generalize hbt : bankAt l (topI hs) = r at *
                  have hneg : IntKind.i64.wrap (-A) = -A := by rw [IntKind.wrap_i64]; omega
                  have hwA : IntKind.i64.wrap (A + M) = A + M := by rw [IntKind.wrap_i64]; omega
                  have hwB : IntKind.i64.wrap (B - M) = B - M := by rw [IntKind.wrap_i64]; omega
                  have hp0 : (p == 0) = false := by simp; omega
                  have hr0 : (r == 0) = false := by simp; omega
                  have HA := hide hA; have HB := hide hB; have HM := hide hM; have HBL := hide hbl; have HBT := hide hbt; have HMAP := hide hmap
                  clear hA hB hM hbl hbt hmap ha
                  have hol : (out.map (payOf (bankAt l))).length = out.length := by simp
                  have HOL := hide hol
                  have hvb : ∀ b, (Value.slice va out.length vc).ownBlock = some b → w1.heap.size ≤ b := fun b hb => ((unhide HOW).lt b hb).1
                  have hmb : some w0.heap.size ≠ (Value.slice va out.length vc).ownBlock := fun e => by have := hvb _ e.symm; omega
                  have HVB := hide hvb; have HMB := hide hmb
                  have hwb := (unhide HBX).size
                  clear hol hvb hmb
                  go_wp2_with (at_builtin; refine wpList_append_own _ rfl _ _ 23 rfl w1.heap.size 29 i0 (.agg #[.int .i64 0, .int .i64 0, .int .i64 0]) 3 24 Try.underlying23 (unhide HI) (unhide Z0) (unhide Z1) (unhide Z2) rfl (by decide) _ _ _ rfl ((unhide HOW).alloc _) ⟨wr.heap.size, 0, none⟩ 1 1 [.int .i64 p, .int .i64 r, .int .i64 M] rfl rfl (World.news_of_block (heap_alloc_new wr _)) ?c2 ?c3 ?c4 ?c5 ?_)
                  case c2 => simp [Value.oneCell']
                  case c3 => unfold maxLen; omega
                  case c4 => omega
                  case c5 => first | omega | (simp; omega)
                  intro v5 w5 hown5 hgrow5 _
                  have ho5 : OwnR w5 w1.heap.size 29 3 cellsOwe v5 ((out ++ [(lowI hs, topI hs, M)]).map (payOf (bankAt l))) := by
                    rw [List.map_append]
                    have e : cellsOwe (payOf (bankAt l) (lowI hs, topI hs, M)) = [.int .i64 p, .int .i64 r, .int .i64 M] := by rw [cellsOwe, payOf, unhide HBL, unhide HBT]
                    exact OwnR.snoc (payOf (bankAt l) (lowI hs, topI hs, M)) (by rw [e, List.length_map]; exact hown5)
                  have hm5 := ((unhide HMAP).alloc (.cells #[.int .i64 p, .int .i64 r, .int .i64 M] 29)).kept hgrow5 (unhide HMB)
                  have hb5 : Below w.heap.size w w5 := ((unhide HBX).alloc hwb _).grown hgrow5 (by simp; omega) (fun b hb => by have := unhide HVB b hb; omega)
                  have hz5 : w1.heap.size ≤ w5.heap.size := by have := hgrow5.size; simp at this; omega
                  have hvb5 : v5.ownBlock ≠ some w0.heap.size := fun e => by have := (ho5.lt _ e).1; omega
                  obtain ⟨av, cv, hv5⟩ := ho5.form.1
                  rw [List.length_map, List.length_append, List.length_cons, List.length_nil, Nat.zero_add] at hv5
                  subst hv5
                  have L5 := hm5.look p (by omega) (by omega)
                  rw [unhide HRL] at L5
                  have HO5 := hide ho5; have HM5 := hide hm5; have HB5 := hide hb5; have HVB5 := hide hvb5
                  clear hown5 hgrow5 ho5 hm5 hb5 hvb5 L1 L2
                  go_wp2_with (at_mapUpdate; refine wpList_imap_put _ rfl _ _ _ rfl w0.heap.size _ F' rfl (unhide HM5) (by unfold maxLen; omega) p (A + M) rfl rfl (by omega) (by omega) (by omega) (by omega) ?_)
                  intro w6 hm6 hg6
                  have ho6 := (unhide HO5).kept hg6 (.inr (unhide HVB5))
                  have hb6 : Below w.heap.size w w6 := (unhide HB5).grown hg6 (by omega) (fun b hb => by injection hb; omega)
                  have hz6 : w1.heap.size ≤ w6.heap.size := by have := hg6.size; omega
                  have L6 := hm6.look r (by omega) (by omega)
                  have hur : upd F' p (A + M) r = B := by unfold upd; rw [if_neg (Ne.symm hnb), unhide HRT]
                  rw [hur] at L6
                  have HO6 := hide ho6; have HM6 := hide hm6; have HB6 := hide hb6
                  clear ho6 hm6 hb6 hg6 L5 hur HO5 HM5 HB5 hz5
                  go_wp2_with (at_mapUpdate; refine wpList_imap_put _ rfl _ _ _ rfl w0.heap.size _ (upd F' p (A + M)) rfl (unhide HM6) (by unfold maxLen; omega) r (B - M) rfl rfl (by omega) (by omega) (by omega) (by omega) ?_)
                  intro w7 hm7 hg7
                  have ho7 := (unhide HO6).kept hg7 (.inr (unhide HVB5))
                  have hb7 : Below w.heap.size w w7 := (unhide HB6).grown hg7 (by omega) (fun b hb => by injection hb; omega)
                  have hz7 : w1.heap.size ≤ w7.heap.size := by have := hg7.size; omega
                  have HO7 := hide ho7; have HM7 := hide hm7; have HB7 := hide hb7; have HZ7 := hide hz7
                  clear ho7 hm7 hb7 hg7 L6 HO6 HM6 HB6 hz6 hz7
                  go_wp2
                  go_roundw
                  case rel => exact ⟨out ++ [(lowI hs, topI hs, M)], stepH hs, _, HST, unhide HO7, (unhide HM7).mono (by simp; omega), unhide HB7, unhide HZ7⟩
                  case measure =>
                    simp only [lenOf_slice]
                    omega
end Go.Proofs.Ytbnpajijbdddiaa
