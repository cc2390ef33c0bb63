/- The document's HostPlan: the walk. (Made by wip/drafts/genHk.py.) -/
import Derived.Test.YtbiipeapcclbkaaDoorHkB
namespace Go.Proofs.YtbiipeapcclbkaaDoor
open Go.RowKit
set_option linter.unusedVariables false

def PI (ms : List KV) (hi : Int) (f0 t0 : Bool) (W1 : World) (iv fv tv : Value) (wx : World) : Prop :=
  ∃ (q : Nat) (fr tw : Bool), q ≤ ms.length ∧ iv = .int .i64 (q : Int) ∧ fv = .bool fr ∧ tv = .bool tw ∧ fr = (f0 || farV hi (ms.take q)) ∧ tw = (t0 || dupV ms q) ∧ keyBad (ms.take q) = false ∧ Below W1.heap.size W1 wx
theorem has_take (l : List KV) (j : Nat) (x : KV) (v : Int) (h : l[j]? = some x) : hasV (l.take (j + 1)) v = (hasV (l.take j) v || decide (x.1 = v)) := any_take _ l j x h
theorem far_take (l : List KV) (q : Nat) (v : Int) (k : ByteArray) (hi : Int) (h : l[q]? = some (v, k)) : farV hi (l.take (q + 1)) = (farV hi (l.take q) || (decide (v < 0) || decide (hi < v))) := any_take _ l q _ h
theorem key_take (l : List KV) (q : Nat) (v : Int) (k : ByteArray) (h : l[q]? = some (v, k)) : keyBad (l.take (q + 1)) = (keyBad (l.take q) || decide (k.size ≠ 16)) := any_take _ l q _ h
theorem dup_succ (l : List KV) (q : Nat) (v : Int) (k : ByteArray) (h : l[q]? = some (v, k)) : dupV l (q + 1) = (dupV l q || hasV (l.take q) v) := by
  show (dupV l q || match l[q]? with | some p => hasV (l.take q) p.1 | none => false) = _
  rw [h]
set_option maxRecDepth 100000 in
set_option maxHeartbeats 4000000 in
theorem rplan_any (ms ls : List KV) (ma la : Option Addr) (mc lc : Nat) (w : World) (hm : KRow w ma ms) (hl : KRow w la ls) (hml : (ms.length : Int) ≤ 9223372036854775807) (hll : (ls.length : Int) ≤ 9223372036854775807)
    (hmc : ms.length ≤ mc) (hlc : ls.length ≤ lc) (hmb : ∀ p ∈ ms, p.2.size ≤ maxLen) (hlb : ∀ p ∈ ls, p.2.size ≤ maxLen) :
    Calls Tryd.prog 7 #[.agg #[.slice ma ms.length mc, .slice la ls.length lc]] w fun e w' => e = .returned (.int .i64 (planE ms ls)) ∧ Below w.heap.size w w' := by
  obtain ⟨W1, hW1⟩ : ∃ W1, W1 = w.alloc (.cells #[.slice ma ms.length mc, .slice la ls.length lc] 25) := ⟨_, rfl⟩
  have hB1 : Below w.heap.size w W1 := by rw [hW1]; exact (Below.refl _ _).alloc (Nat.le_refl _) _
  have hS1 : W1.heap.size = w.heap.size + 1 := by rw [hW1]; simp
  have hX1 : W1.heap[w.heap.size]? = some (.cells #[.slice ma ms.length mc, .slice la ls.length lc] 25 (0, 0)) := by rw [hW1]; exact heap_alloc_new _ _
  have hwl : w.heap.size < W1.heap.size := by omega
  have C0 := hide (fun w' (h : Below W1.heap.size W1 w') => (show w'.cell? ⟨w.heap.size, 0, none⟩ = some (.slice ma ms.length mc) from (cell_of_row _ _ 0 _ _ _ ((h.block _ hwl).trans hX1)).trans rfl))
  have C1 := hide (fun w' (h : Below W1.heap.size W1 w') => (show w'.cell? ⟨w.heap.size, 1, none⟩ = some (.slice la ls.length lc) from (cell_of_row _ _ 1 _ _ _ ((h.block _ hwl).trans hX1)).trans rfl))
  have HM := hide (hm.below hB1 (Nat.le_refl _)); have HL := hide (hl.below hB1 (Nat.le_refl _))
  have HPE : Hid (planE ms ls = if ms = [] then 1 else if keyBad ms = true ∨ keyBad ls = true then 1 else if (farV 255 ms || farV 4294967295 ls) = true then 3 else if (dupV ms ms.length || dupV ls ls.length) = true then 6 else if 50 < ms.length ∨ 50 < ls.length then 2 else 0) := hide rfl
  generalize planE ms ls = pe at *
  have HW1 := hide hW1; have HB1 := hide hB1
  clear hW1 hB1 hS1 hX1 hm hl
  go_enter Tryd.func7, Tryd.ntmps7
  go_upto_region 1 with fail
  rw [← unhide HW1]
  have c0 := unhide C0 W1 (Below.refl _ _); have c1 := unhide C1 W1 (Below.refl _ _)
  by_cases hne : ms = []
  · subst hne
    have h1 : pe = 1 := by rw [unhide HPE, if_pos rfl]
    subst h1
    go_wp2
    go_ret
    exact ⟨rfl, unhide HB1⟩
  · have hpos : 0 < ms.length := List.length_pos_iff.2 hne
    have hnz : ((ms.length : Int) == 0) = false := by simpa using hne
    have HNE := hide hne
    clear hne hpos
    go_wp2_with fail
    go_loopw [20, 3, 4] (fun iv fv tv wx => PI ms 255 false false W1 iv fv tv wx) (fun iv _ _ _ => ms.length - (intOf iv).toNat)
    case atStart => exact ⟨0, _, _, Nat.zero_le _, rfl, rfl, rfl, by simp [farV], by simp [dupV], rfl, Below.refl _ _⟩
    case round =>
      obtain ⟨q, fr, tw, hq, rfl, rfl, rfl, hfr, htw, hkb, hbw⟩ := hrel
      by_cases hlt : q < ms.length
      · obtain ⟨p, hpq⟩ : ∃ p, ms[q]? = some p := ⟨_, List.getElem?_eq_getElem hlt⟩
        rcases (unhide HM).below hbw (Nat.le_refl _) with hnil | ⟨b, off, hae, hbl, hc⟩
        · rw [hnil] at hlt; simp at hlt
        subst hae
        obtain ⟨ck0, ck1⟩ := hc q p hpq
        have hpb := hmb p (List.mem_of_getElem? hpq)
        obtain ⟨v, k⟩ := p
        simp only at ck0 ck1 hpb
        have hks : (k.size : Int) ≤ 9223372036854775807 := by unfold maxLen at hpb; omega
        have hlti : (q : Int) < (ms.length : Int) := by omega
        obtain ⟨W3, hW3⟩ : ∃ W3, W3 = wr.alloc (.cells #[.int .i64 v, .string k] 52) := ⟨_, rfl⟩
        have hB3 : Below wr.heap.size wr W3 := by rw [hW3]; exact (Below.refl _ _).alloc (Nat.le_refl _) _
        have hS3 : W3.heap.size = wr.heap.size + 1 := by rw [hW3]; simp
        have hX3 : W3.heap[wr.heap.size]? = some (.cells #[.int .i64 v, .string k] 52 (0, 0)) := by rw [hW3]; exact heap_alloc_new _ _
        have hbw3 : Below W1.heap.size W1 W3 := hbw.trans (hB3.mono hbw.size)
        have p0 : W3.cell? ⟨wr.heap.size, 0, none⟩ = some (.int .i64 v) := (cell_of_row _ _ 0 _ _ _ hX3).trans rfl
        have p1 : W3.cell? ⟨wr.heap.size, 1, none⟩ = some (.string k) := (cell_of_row _ _ 1 _ _ _ hX3).trans rfl
        obtain ⟨pb, hpbe⟩ : ∃ pb, pb = wr.heap.size := ⟨_, rfl⟩
        rw [← hpbe] at p0 p1
        have HPB := hide hpbe
        have hplt : pb < W3.heap.size := by omega
        have CP := hide (fun w' (h : Below W3.heap.size W3 w') => (h.cell (p := ⟨pb, 0, none⟩) hplt).trans p0)
        have HC := hide (fun w' (h : Below W1.heap.size W1 w') (i : Nat) (x : KV) (hi : ms[i]? = some x) => (show w'.cell? ⟨b, off + i * 2, none⟩ = some (.int .i64 x.1) ∧ w'.cell? ⟨b, off + i * 2 + 1, none⟩ = some (.string x.2) from by
          rcases (unhide HM).below h (Nat.le_refl _) with hnil | ⟨b', off', e, hbl', hc'⟩
          · rw [hnil] at hi; simp at hi
          · cases e; exact hc' i x hi))
        have HW3 := hide hW3; have HBW3 := hide hbw3; have HFR := hide hfr; have HTW := hide htw; have HKB := hide hkb; have HPQ := hide hpq; have HS3 := hide hS3; have HBW := hide hbw
        have d0 := unhide C0 W3 hbw3
        clear hW3 hB3 hS3 hX3 hbw3 hfr htw hkb hpq hc hbw hpbe hpb hplt hbl
        go_upto_region 7 with fail
        rw [← unhide HW3, ← unhide HPB]
        clear ck0 ck1
        by_cases hk16 : k.size = 16
        · have hki : (k.size : Int) = 16 := by omega
          have HKK := hide hk16
          clear hk16
          go_upto_region 9 with fail
          clear hki p1
          go_cut [3, 20] from 20 to 58 (fun cv iv wx => cv = .bool (fr || (decide (v < 0) || decide (255 < v))) ∧ iv = .int .i64 (q : Int) ∧ wx = W3)
          case first =>
            by_cases hf : fr = true
            · subst hf
              go_wp2_with fail
              go_meet
              exact ⟨rfl, rfl, rfl⟩
            · have hf' : fr = false := by simpa using hf
              subst hf'
              by_cases hv0 : v < 0
              · have HV0 := hide hv0
                go_wp2_with fail
                go_meet
                exact ⟨by rw [decide_eq_true (unhide HV0)]; rfl, rfl, rfl⟩
              · have HV0 : Hid (0 ≤ v) := hide (Int.not_lt.1 hv0)
                go_wp2_with fail
                go_meet
                exact ⟨by rw [decide_eq_false (Int.not_lt.2 (unhide HV0))]; rfl, rfl, rfl⟩
          case rest =>
          obtain ⟨rfl, rfl, hwc⟩ := hcut
          have hwc' := hwc.symm
          subst hwc'
          have hqc : (q : Int) ≤ (mc : Int) := by have := hmc; omega
          obtain ⟨fr2, hfr2⟩ : ∃ fr2, fr2 = (fr || (decide (v < 0) || decide (255 < v))) := ⟨_, rfl⟩
          rw [← hfr2]
          have HFR2 := hide hfr2
          clear hfr2
          go_wp2
          go_loopw [45, 4] (fun jv tv wx => ∃ (j : Nat) (t2 : Bool), j ≤ q ∧ jv = .int .i64 (j : Int) ∧ tv = .bool t2 ∧ t2 = (tw || hasV (ms.take j) v) ∧ Below W3.heap.size W3 wx) (fun jv _ _ => q - (intOf jv).toNat)
          case atStart => exact ⟨0, tw, Nat.zero_le _, rfl, rfl, by simp [hasV], Below.refl _ _⟩
          case round =>
            obtain ⟨j, t2, hj, rfl, rfl, ht2, hbx⟩ := hrel
            by_cases hjl : j < q
            · obtain ⟨x, hx⟩ : ∃ x, ms[j]? = some x := ⟨_, List.getElem?_eq_getElem (by omega)⟩
              obtain ⟨cx0, cx1⟩ := unhide HC wr ((unhide HBW3).trans (hbx.mono (unhide HBW3).size)) j x hx
              have cp := unhide CP (wr.alloc (.cells #[.int .i64 x.1, .string x.2] 52)) (hbx.alloc hbx.size _)
              have hji : (j : Int) < (q : Int) := by omega
              have HB5 := hide (hbx.alloc hbx.size (.cells #[.int .i64 x.1, .string x.2] 52))
              have hpw : pb < wr.heap.size := by have := unhide HPB; have := unhide HS3; have := hbx.size; omega
              have cq : wr.cell? ⟨pb, 0, none⟩ = some (.int .i64 v) := unhide CP wr hbx
              have HX := hide hx; have HT2 := hide ht2
              clear hx ht2 hbx cp
              by_cases hh : t2 = true
              · subst hh
                go_wp2
                go_roundw
                case rel => exact ⟨j + 1, true, by omega, by go_num, rfl, by rw [has_take _ _ _ _ (unhide HX), ← Bool.or_assoc, ← unhide HT2]; rfl, unhide HB5⟩
                case measure => simp [intOf]; omega
              · have hh' : t2 = false := by simpa using hh
                subst hh'
                go_wp2
                go_roundw
                case rel => exact ⟨j + 1, decide (x.1 = v), by omega, by go_num, rfl, by rw [has_take _ _ _ _ (unhide HX), ← Bool.or_assoc, ← unhide HT2]; rfl, unhide HB5⟩
                case measure => simp [intOf]; omega
            · have hji : ¬ (j : Int) < (q : Int) := by omega
              have hje : j = q := by omega
              rw [hje] at ht2
              have HT2 := hide ht2; have HBX := hide hbx
              clear ht2 hbx hje
              go_wp2
              go_roundw
              case rel => exact ⟨q + 1, fr2, t2, by omega, by go_num, rfl, rfl, by rw [far_take _ _ _ _ _ (unhide HPQ), ← Bool.or_assoc, ← unhide HFR]; exact unhide HFR2, by rw [dup_succ _ _ _ _ (unhide HPQ), ← Bool.or_assoc, ← unhide HTW]; exact unhide HT2, by rw [key_take _ _ _ _ (unhide HPQ), unhide HKB, unhide HKK]; rfl, (unhide HBW3).trans ((unhide HBX).mono (unhide HBW3).size)⟩
              case measure => simp [intOf]; omega
        · have hki : ¬ (k.size : Int) = 16 := by omega
          have h1 : pe = 1 := by rw [unhide HPE, if_neg (unhide HNE), if_pos (.inl (keyBad_of (unhide HPQ) hk16))]
          subst h1
          clear hk16
          go_wp2
          go_ret
          exact ⟨rfl, (unhide HB1).trans ((unhide HBW3).mono (unhide HB1).size)⟩
      · have hlti : ¬ (q : Int) < (ms.length : Int) := by omega
        have hqe : q = ms.length := by omega
        rw [hqe, List.take_length] at hfr hkb
        rw [hqe] at htw
        have HFRa := hide hfr; have HTWa := hide htw; have HKBa := hide hkb; have HBEa := hide hbw
        clear hfr htw hkb hbw hqe
        obtain ⟨fra, hfra⟩ : ∃ fra, fra = fr := ⟨_, rfl⟩
        obtain ⟨twa, htwa⟩ : ∃ twa, twa = tw := ⟨_, rfl⟩
        rw [← hfra, ← htwa]
        have HFRA : Hid (fra = farV 255 ms) := hide (by rw [hfra]; simpa using unhide HFRa)
        have HTWA : Hid (twa = dupV ms ms.length) := hide (by rw [htwa]; simpa using unhide HTWa)
        clear hfra htwa c0 c1
        have e1 := unhide C1 wr (unhide HBEa); have e0 := unhide C0 wr (unhide HBEa)
        obtain ⟨W2, hW2⟩ : ∃ W2, W2 = wr := ⟨_, rfl⟩
        rw [← hW2] at HBEa e0 e1 ⊢
        clear hW2
        go_wp2_with fail
        go_loopw [62, 3, 4] (fun iv fv tv wx => PI ls 4294967295 fra twa W1 iv fv tv wx) (fun iv _ _ _ => ls.length - (intOf iv).toNat)
        case atStart => exact ⟨0, _, _, Nat.zero_le _, rfl, rfl, rfl, by simp [farV], by simp [dupV], rfl, unhide HBEa⟩
        case round =>
          obtain ⟨q, fr, tw, hq, rfl, rfl, rfl, hfr, htw, hkb, hbw⟩ := hrel
          by_cases hlt : q < ls.length
          · obtain ⟨p, hpq⟩ : ∃ p, ls[q]? = some p := ⟨_, List.getElem?_eq_getElem hlt⟩
            rcases (unhide HL).below hbw (Nat.le_refl _) with hnil | ⟨b, off, hae, hbl, hc⟩
            · rw [hnil] at hlt; simp at hlt
            subst hae
            obtain ⟨ck0, ck1⟩ := hc q p hpq
            have hpb := hlb p (List.mem_of_getElem? hpq)
            obtain ⟨v, k⟩ := p
            simp only at ck0 ck1 hpb
            have hks : (k.size : Int) ≤ 9223372036854775807 := by unfold maxLen at hpb; omega
            have hlti : (q : Int) < (ls.length : Int) := by omega
            obtain ⟨W3, hW3⟩ : ∃ W3, W3 = wr.alloc (.cells #[.int .i64 v, .string k] 54) := ⟨_, rfl⟩
            have hB3 : Below wr.heap.size wr W3 := by rw [hW3]; exact (Below.refl _ _).alloc (Nat.le_refl _) _
            have hS3 : W3.heap.size = wr.heap.size + 1 := by rw [hW3]; simp
            have hX3 : W3.heap[wr.heap.size]? = some (.cells #[.int .i64 v, .string k] 54 (0, 0)) := by rw [hW3]; exact heap_alloc_new _ _
            have hbw3 : Below W1.heap.size W1 W3 := hbw.trans (hB3.mono hbw.size)
            have p0 : W3.cell? ⟨wr.heap.size, 0, none⟩ = some (.int .i64 v) := (cell_of_row _ _ 0 _ _ _ hX3).trans rfl
            have p1 : W3.cell? ⟨wr.heap.size, 1, none⟩ = some (.string k) := (cell_of_row _ _ 1 _ _ _ hX3).trans rfl
            obtain ⟨pb, hpbe⟩ : ∃ pb, pb = wr.heap.size := ⟨_, rfl⟩
            rw [← hpbe] at p0 p1
            have HPB := hide hpbe
            have hplt : pb < W3.heap.size := by omega
            have CP := hide (fun w' (h : Below W3.heap.size W3 w') => (h.cell (p := ⟨pb, 0, none⟩) hplt).trans p0)
            have HC := hide (fun w' (h : Below W1.heap.size W1 w') (i : Nat) (x : KV) (hi : ls[i]? = some x) => (show w'.cell? ⟨b, off + i * 2, none⟩ = some (.int .i64 x.1) ∧ w'.cell? ⟨b, off + i * 2 + 1, none⟩ = some (.string x.2) from by
              rcases (unhide HL).below h (Nat.le_refl _) with hnil | ⟨b', off', e, hbl', hc'⟩
              · rw [hnil] at hi; simp at hi
              · cases e; exact hc' i x hi))
            have HW3 := hide hW3; have HBW3 := hide hbw3; have HFR := hide hfr; have HTW := hide htw; have HKB := hide hkb; have HPQ := hide hpq; have HS3 := hide hS3; have HBW := hide hbw
            have d0 := unhide C1 W3 hbw3
            clear hW3 hB3 hS3 hX3 hbw3 hfr htw hkb hpq hc hbw hpbe hpb hplt hbl
            go_upto_region 19 with fail
            rw [← unhide HW3, ← unhide HPB]
            clear ck0 ck1
            by_cases hk16 : k.size = 16
            · have hki : (k.size : Int) = 16 := by omega
              have HKK := hide hk16
              clear hk16
              go_upto_region 21 with fail
              clear hki p1
              go_cut [3, 62] from 62 to 100 (fun cv iv wx => cv = .bool (fr || (decide (v < 0) || decide (4294967295 < v))) ∧ iv = .int .i64 (q : Int) ∧ wx = W3)
              case first =>
                by_cases hf : fr = true
                · subst hf
                  go_wp2_with fail
                  go_meet
                  exact ⟨rfl, rfl, rfl⟩
                · have hf' : fr = false := by simpa using hf
                  subst hf'
                  by_cases hv0 : v < 0
                  · have HV0 := hide hv0
                    go_wp2_with fail
                    go_meet
                    exact ⟨by rw [decide_eq_true (unhide HV0)]; rfl, rfl, rfl⟩
                  · have HV0 : Hid (0 ≤ v) := hide (Int.not_lt.1 hv0)
                    go_wp2_with fail
                    go_meet
                    exact ⟨by rw [decide_eq_false (Int.not_lt.2 (unhide HV0))]; exact congrArg Value.bool (decide_eq_decide.2 (by omega)), rfl, rfl⟩
              case rest =>
              obtain ⟨rfl, rfl, hwc⟩ := hcut
              have hwc' := hwc.symm
              subst hwc'
              have hqc : (q : Int) ≤ (lc : Int) := by have := hlc; omega
              obtain ⟨fr2, hfr2⟩ : ∃ fr2, fr2 = (fr || (decide (v < 0) || decide (4294967295 < v))) := ⟨_, rfl⟩
              rw [← hfr2]
              have HFR2 := hide hfr2
              clear hfr2
              go_wp2
              go_loopw [87, 4] (fun jv tv wx => ∃ (j : Nat) (t2 : Bool), j ≤ q ∧ jv = .int .i64 (j : Int) ∧ tv = .bool t2 ∧ t2 = (tw || hasV (ls.take j) v) ∧ Below W3.heap.size W3 wx) (fun jv _ _ => q - (intOf jv).toNat)
              case atStart => exact ⟨0, tw, Nat.zero_le _, rfl, rfl, by simp [hasV], Below.refl _ _⟩
              case round =>
                obtain ⟨j, t2, hj, rfl, rfl, ht2, hbx⟩ := hrel
                by_cases hjl : j < q
                · obtain ⟨x, hx⟩ : ∃ x, ls[j]? = some x := ⟨_, List.getElem?_eq_getElem (by omega)⟩
                  obtain ⟨cx0, cx1⟩ := unhide HC wr ((unhide HBW3).trans (hbx.mono (unhide HBW3).size)) j x hx
                  have cp := unhide CP (wr.alloc (.cells #[.int .i64 x.1, .string x.2] 54)) (hbx.alloc hbx.size _)
                  have hji : (j : Int) < (q : Int) := by omega
                  have HB5 := hide (hbx.alloc hbx.size (.cells #[.int .i64 x.1, .string x.2] 54))
                  have hpw : pb < wr.heap.size := by have := unhide HPB; have := unhide HS3; have := hbx.size; omega
                  have cq : wr.cell? ⟨pb, 0, none⟩ = some (.int .i64 v) := unhide CP wr hbx
                  have HX := hide hx; have HT2 := hide ht2
                  clear hx ht2 hbx cp
                  by_cases hh : t2 = true
                  · subst hh
                    go_wp2
                    go_roundw
                    case rel => exact ⟨j + 1, true, by omega, by go_num, rfl, by rw [has_take _ _ _ _ (unhide HX), ← Bool.or_assoc, ← unhide HT2]; rfl, unhide HB5⟩
                    case measure => simp [intOf]; omega
                  · have hh' : t2 = false := by simpa using hh
                    subst hh'
                    go_wp2
                    go_roundw
                    case rel => exact ⟨j + 1, decide (x.1 = v), by omega, by go_num, rfl, by rw [has_take _ _ _ _ (unhide HX), ← Bool.or_assoc, ← unhide HT2]; rfl, unhide HB5⟩
                    case measure => simp [intOf]; omega
                · have hji : ¬ (j : Int) < (q : Int) := by omega
                  have hje : j = q := by omega
                  rw [hje] at ht2
                  have HT2 := hide ht2; have HBX := hide hbx
                  clear ht2 hbx hje
                  go_wp2
                  go_roundw
                  case rel => exact ⟨q + 1, fr2, t2, by omega, by go_num, rfl, rfl, by rw [far_take _ _ _ _ _ (unhide HPQ), ← Bool.or_assoc, ← unhide HFR]; exact unhide HFR2, by rw [dup_succ _ _ _ _ (unhide HPQ), ← Bool.or_assoc, ← unhide HTW]; exact unhide HT2, by rw [key_take _ _ _ _ (unhide HPQ), unhide HKB, unhide HKK]; rfl, (unhide HBW3).trans ((unhide HBX).mono (unhide HBW3).size)⟩
                  case measure => simp [intOf]; omega
            · have hki : ¬ (k.size : Int) = 16 := by omega
              have h1 : pe = 1 := by rw [unhide HPE, if_neg (unhide HNE), if_pos (.inr (keyBad_of (unhide HPQ) hk16))]
              subst h1
              clear hk16
              go_wp2
              go_ret
              exact ⟨rfl, (unhide HB1).trans ((unhide HBW3).mono (unhide HB1).size)⟩
          · have hlti : ¬ (q : Int) < (ls.length : Int) := by omega
            have hqe : q = ls.length := by omega
            rw [hqe, List.take_length] at hfr hkb
            rw [hqe] at htw
            have HFRb := hide hfr; have HTWb := hide htw; have HKBb := hide hkb; have HBEb := hide hbw
            clear hfr htw hkb hbw hqe
            have e1 := unhide C1 wr (unhide HBEb); have e0 := unhide C0 wr (unhide HBEb)
            have hpe := unhide HPE
            rw [if_neg (unhide HNE), if_neg (by rw [unhide HKBa, unhide HKBb]; simp)] at hpe
            have hf2 : fr = (farV 255 ms || farV 4294967295 ls) := by rw [← unhide HFRA]; exact unhide HFRb
            have ht2 : tw = (dupV ms ms.length || dupV ls ls.length) := by rw [← unhide HTWA]; exact unhide HTWb
            rw [← hf2, ← ht2] at hpe
            have HBZ := hide ((unhide HB1).trans ((unhide HBEb).mono (unhide HB1).size))
            clear hf2 ht2
            by_cases hfx : fr = true
            · rw [if_pos hfx] at hpe
              subst hfx hpe
              go_wp2
              go_ret
              exact ⟨rfl, unhide HBZ⟩
            · rw [if_neg hfx] at hpe
              have hf' : fr = false := by simpa using hfx
              subst hf'
              by_cases htx : tw = true
              · rw [if_pos htx] at hpe
                subst htx hpe
                go_wp2
                go_ret
                exact ⟨rfl, unhide HBZ⟩
              · rw [if_neg htx] at hpe
                have ht' : tw = false := by simpa using htx
                subst ht'
                by_cases hm5 : 50 < ms.length
                · have hm6 : (50 : Int) < (ms.length : Int) := by omega
                  rw [if_pos (.inl hm5)] at hpe
                  subst hpe
                  clear hm5
                  go_wp2
                  go_ret
                  exact ⟨rfl, unhide HBZ⟩
                · have hm6 : ¬ (50 : Int) < (ms.length : Int) := by omega
                  by_cases hl5 : 50 < ls.length
                  · have hl6 : (50 : Int) < (ls.length : Int) := by omega
                    rw [if_pos (.inr hl5)] at hpe
                    subst hpe
                    clear hm5 hl5
                    go_wp2
                    go_ret
                    exact ⟨rfl, unhide HBZ⟩
                  · have hl6 : ¬ (50 : Int) < (ls.length : Int) := by omega
                    rw [if_neg (fun hh => hh.elim hm5 hl5)] at hpe
                    subst hpe
                    clear hm5 hl5
                    go_wp2
                    go_ret
                    exact ⟨rfl, unhide HBZ⟩
end Go.Proofs.YtbiipeapcclbkaaDoor
