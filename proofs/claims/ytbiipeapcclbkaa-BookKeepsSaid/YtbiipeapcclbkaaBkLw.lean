/- BookKeeps: the law's walk. -/
import Derived.Test.YtbiipeapcclbkaaBkI
import Derived.Test.YtbiipeapcclbkaaShL
namespace Go.Proofs.Ytbiipeapcclbkaa
open Go.RowKit Go.Shelf
set_option linter.unusedVariables false
set_option linter.unusedSimpArgs false
set_option maxRecDepth 100000

theorem infoBk : (Try.prog.info? 33).map (fun i => (i.zero, i.size, i.bytes)) = some (some (.agg #[.int .i64 0, .slice none 0 0]), 2, 32) := by kernel_rfl
theorem laid_new (n : Nat) (h : 4 ≤ n) : Laid (List.replicate n zeroC) [] := by
  refine ⟨(fun i e he => by simp at he), ?_, (fun e he => by cases he), fun c hc => ?_⟩
  · show (List.replicate n zeroC)[0]? = some zeroC
    rw [List.getElem?_replicate, if_pos (by omega)]
  · rw [List.eq_of_mem_replicate hc]; exact zeroC_size
def LoopR (w : World) (rb C : Nat) (N : Nat) (mv bv ev may iv : Value) (wx : World) : Prop :=
  ∃ (i mb bb : Nat) (M : Mm) (L : List En) (ml : List My) (v pl rv : Value), i ≤ N ∧ iv = .int .i64 (i : Int) ∧ mv = .pointer (some ⟨mb, 0, none⟩) ∧ bv = .pointer (some ⟨bb, 0, none⟩) ∧ ev = .int .i64 0 ∧ BkI w wx C mb bb rb M L L ml v pl rv may
theorem cell_farB {w0 w : World} {g j : Nat} {u : Value} (hb : Below w0.heap.size w0 w) (hg : g < w0.heap.size) (h : w0.cell? ⟨g, j, none⟩ = some u) : w.cell? ⟨g, j, none⟩ = some u := (hb.cell (p := ⟨g, j, none⟩) hg).trans h
theorem rd_again {w0 wx : World} {C mb bb rb lb xb : Nat} {M : Mm} {L : List En} {ml : List My} {v pl may : Value} {ra : Option Addr} {rc : Nat} {sd sn sm : Int} {st : ByteArray} (h : BkI w0 wx C mb bb rb M L L ml v pl (.slice ra L.length rc) may) (hal : Apt w0 mb bb rb lb v pl (.slice ra L.length rc) may) (hl : wx.heap[lb]? = some (.cells #[.int .i64 sd, .int .i64 sn, .int .i64 sm, .string st] 36)) (hax : Apt w0 mb bb rb xb v pl (.slice ra L.length rc) may) (hx : wx.heap[xb]? = some (.cells #[.int .i64 (C : Int), .slice ra L.length rc] 33)) :
    ∀ wy, Chg (bkF bb mb v pl) wx wy → wy.cell? ⟨rb, 0, none⟩ = some (.int .i64 (C : Int)) ∧ wy.cell? ⟨rb, 1, none⟩ = some (.slice ra L.length rc) ∧ wy.cell? ⟨lb, 0, none⟩ = some (.int .i64 sd) ∧ wy.cell? ⟨lb, 1, none⟩ = some (.int .i64 sn) ∧ wy.cell? ⟨lb, 2, none⟩ = some (.int .i64 sm) ∧ wy.cell? ⟨lb, 3, none⟩ = some (.string st) ∧ wy.heap[xb]? = some (.cells #[.int .i64 (C : Int), .slice ra L.length rc] 33) := by
  intro wy hc
  have e1 := (hc.block rb (block_ltR h.rbx) h.sb).trans h.rbx
  have e2 := (hc.block lb (block_ltR hl) hal.f).trans hl
  refine ⟨?_, ?_, ?_, ?_, ?_, ?_, (hc.block xb (block_ltR hx) hax.f).trans hx⟩ <;> simp [World.cell?, e1, e2]
section
set_option maxHeartbeats 8000000 in
theorem walkBookKeeps (c p : Int) (l : List XLine) (ao : Option Addr) (cap : Nat) (w : World) (hc : -9223372036854775808 ≤ c ∧ c ≤ 9223372036854775807) (hp : -9223372036854775808 ≤ p ∧ p ≤ 9223372036854775807) (hl : RowLine w ao l) :
    Calls Try.prog 3 #[.int .i64 c, .int .i64 p, .slice ao l.length cap] w fun e w' => e = .returned (.bool true) ∧ Below w.heap.size w w' := by
  have hll : (l.length : Int) ≤ maxLen := by have := hl.2.2; omega
  have hmx : (maxLen : Int) ≤ 9223372036854775807 := by decide
  have hlen : (l.length : Int) ≤ 9223372036854775807 := Int.le_trans hll hmx
  have HL := hide hl
  obtain ⟨n, hn⟩ : ∃ n : Nat, n = (min (max c 0) 100000).toNat := ⟨_, rfl⟩
  have N1 := hide (newMemory_any c p hp w)
  rw [← hn] at N1
  have HNL : Hid (n ≤ 100000) := hide (by omega)
  clear hl hll hmx hc hp hn
  go_enter Try.func3, Try.ntmps3
  go_wp2_with fail
  refine (unhide N1).mono ?_
  rintro e w1 ⟨⟨v, rfl, hM⟩, hb1⟩
  have HM := hide hM; have HB1 := hide hb1
  have NC := hide (fun (W : World) (hb : Below w1.heap.size w1 W) => mcells_any (hM.below hb))
  have hrl : (List.replicate n zeroC).length = n := by simp
  dsimp only at NC
  rw [hrl] at NC
  by_cases h4 : n < 4
  · have N2 := hide (open_small hM (by show ((List.replicate n zeroC).length : Int) < 4; rw [hrl]; omega))
    have h4i : (n : Int) < 4 := by omega
    clear hM hb1 N1 hrl
    go_wp2_with fail
    refine (unhide N2).mono ?_
    rintro e w2 ⟨rfl, hw⟩
    have hw' := hw.symm
    subst hw'
    go_wp2_with fail
    refine (unhide NC _ (Below.refl _ _)).mono ?_
    rintro e w2 ⟨rfl, hw⟩
    have hw' := hw.symm
    subst hw'
    go_wp2
    go_ret
    exact ⟨rfl, unhide HB1⟩
  have h4n : 4 ≤ n := by omega
  have hLd := laid_new n h4n
  have N2 := hide (open_any hM rfl hLd (by show 4 ≤ (List.replicate n zeroC).length; rw [hrl]; exact h4n) hb1.size)
  have h4i : ¬ (n : Int) < 4 := by omega
  have HLd := hide hLd; have H4 := hide h4n; have HRL := hide hrl
  clear hM hb1 N1 hrl hLd h4 h4n
  go_wp2_with fail
  refine (unhide N2).mono ?_
  rintro e w2 ⟨⟨bb, pl, rfl, hBk, hbb, hpl⟩, hb2⟩
  have HBK := hide hBk; have HBB := hide hbb; have HPL := hide hpl; have HB2 := hide hb2
  have NO := hide (fun W => opened_any .nilIface (.pointer (some ⟨w.heap.size, 0, none⟩)) bb W)
  clear hBk hbb hpl hb2
  go_wp2_with fail
  refine (unhide NC _ (unhide HB2)).mono ?_
  rintro e w3 ⟨rfl, hw⟩
  have hw' := hw.symm
  subst hw'
  go_wp2_with fail
  refine (unhide NO _).mono ?_
  rintro e w3 ⟨rfl, hw⟩
  have hw' := hw.symm
  subst hw'
  go_wp2_with fail
  refine (unhide NC _ (unhide HB2)).mono ?_
  rintro e w3 ⟨rfl, hw⟩
  have hw' := hw.symm
  subst hw'
  obtain ⟨W4, hW4⟩ : ∃ W4, W4 = w2.alloc (.cells #[.int .i64 (n : Int), .slice none 0 0] 33) := ⟨_, rfl⟩
  obtain ⟨rb, hrb⟩ : ∃ rb, rb = w2.heap.size := ⟨_, rfl⟩
  have hI : BkI w W4 n w.heap.size bb rb ⟨List.replicate n zeroC, p, false⟩ [] [] [] v pl (.slice none 0 0) (.slice none 0 0) := by
    have hb4 : Below w2.heap.size w2 W4 := by rw [hW4]; exact (Below.refl _ _).alloc (Nat.le_refl _) _
    have hw2 : Below w.heap.size w w2 := (unhide HB1).trans ((unhide HB2).mono (unhide HB1).size)
    have hF : ∀ x, bkF bb w.heap.size v pl x → w.heap.size ≤ x := by
      have := (unhide HB1).size
      rintro x ((hx | hx | hx) | hx)
      · have := unhide HBB; omega
      · omega
      · exact ((unhide HM).row.lt x hx).1
      · have := unhide HPL x hx; omega
    refine ⟨(unhide HBK).below hb4, unhide HLd, unhide HRL, unhide H4, ⟨OwnR.nil _ _ _ _ _, fun _ => rfl⟩, by simp [posL], (fun e he => by cases he), ?_, OwnR.nil _ _ _ _ _, Nat.zero_le _, fun _ => rfl, fun _ => rfl, (fun x hx => by cases hx), fun hf => ?_, (fun x hx => by cases hx), ?_, hF, hw2.trans (hb4.mono hw2.size)⟩
    · rw [hW4, hrb]; exact heap_alloc_new _ _
    · have := (unhide HBK).F_lt rb hf; omega
    · rw [hrb]; exact hw2.size
  have HI := hide hI; have HW4 := hide hW4; have HRB := hide hrb
  clear hI hW4
  go_upto_region 8 with fail
  rw [← unhide HW4, ← hrb]
  clear hrb
  go_wp2_with fail
  go_loopw [7, 8, 9, 11, 51] (fun mv bv ev may iv wx => LoopR w rb n l.length mv bv ev may iv wx) (fun _ _ _ _ iv _ => l.length - (intOf iv).toNat)
  case atStart => exact ⟨0, _, _, _, _, _, _, _, _, Nat.zero_le _, rfl, rfl, rfl, rfl, unhide HI⟩
  case round =>
    obtain ⟨i, mb, bb', M, L, ml, v', pl', rv, hi, rfl, rfl, rfl, rfl, hI⟩ := hrel
    by_cases hlt : i < l.length
    · obtain ⟨s, hs⟩ : ∃ s, l[i]? = some s := ⟨_, List.getElem?_eq_getElem hlt⟩
      have hsok := (unhide HL).2.1 s (List.mem_of_getElem? hs)
      rcases (unhide HL).1 with hn | ⟨gb, go, rfl, hgl, hcell⟩
      · rw [hn] at hlt; simp at hlt
      obtain ⟨s0, s1, s2, s3⟩ := hcell i s hs
      replace s0 := cell_farB hI.bel hgl s0; replace s1 := cell_farB hI.bel hgl s1; replace s2 := cell_farB hI.bel hgl s2; replace s3 := cell_farB hI.bel hgl s3
      have hki : (i : Int) < (l.length : Int) := by omega
      obtain ⟨_, hi1, hi2, hi3⟩ := hsok
      obtain ⟨sd, sn, sm, st⟩ := s
      dsimp only at s0 s1 s2 s3 hi1 hi2 hi3
      obtain ⟨⟨ra, rc, hrv⟩, _⟩ := hI.ren.row.form
      rw [plsL_len] at hrv
      subst hrv
      obtain ⟨W5, hW5⟩ : ∃ W5, W5 = wr.alloc (.cells #[.int .i64 sd, .int .i64 sn, .int .i64 sm, .string st] 36) := ⟨_, rfl⟩
      obtain ⟨lb, hlb⟩ : ∃ lb, lb = wr.heap.size := ⟨_, rfl⟩
      have hB5 : Below wr.heap.size wr W5 := by rw [hW5]; exact (Below.refl _ _).alloc (Nat.le_refl _) _
      have hX5 : W5.heap[lb]? = some (.cells #[.int .i64 sd, .int .i64 sn, .int .i64 sm, .string st] 36) := by rw [hW5, hlb]; exact heap_alloc_new _ _
      have hI5 := hI.below hB5
      have hal := hI.fresh
      rw [← hlb] at hal
      have HAL := hide hal
      have HI5 := hide hI5; have HX5 := hide hX5
      have q0 : W5.cell? ⟨lb, 0, none⟩ = some (.int .i64 sd) := by simp [World.cell?, hX5]
      have q1 : W5.cell? ⟨lb, 1, none⟩ = some (.int .i64 sn) := by simp [World.cell?, hX5]
      have HW5 := hide hW5; have HLB := hide hlb
      by_cases hd : sd = 0 ∨ sd = 1
      · have hfr := hI5.fresh
        obtain ⟨W6, hW6⟩ : ∃ W6, W6 = W5.alloc (.cells #[.int .i64 (n : Int), .slice ra L.length rc] 33) := ⟨_, rfl⟩
        have hB6 : Below W5.heap.size W5 W6 := by rw [hW6]; exact (Below.refl _ _).alloc (Nat.le_refl _) _
        obtain ⟨xb, hxb⟩ : ∃ xb, xb = W5.heap.size := ⟨_, rfl⟩
        have hX6 : W6.heap[xb]? = some (.cells #[.int .i64 (n : Int), .slice ra L.length rc] 33) := by rw [hW6, hxb]; exact heap_alloc_new _ _
        rw [← hxb] at hfr
        have hI6 := hI5.below hB6
        have NF := hide (moff_any hI5.book.sto.mem)
        have r0 : W5.cell? ⟨rb, 0, none⟩ = some (.int .i64 (n : Int)) := by simp [World.cell?, hI5.rbx]
        have r1 : W5.cell? ⟨rb, 1, none⟩ = some (.slice ra L.length rc) := by simp [World.cell?, hI5.rbx]
        have HI6 := hide hI6; have HX6 := hide hX6; have HW6 := hide hW6; have HFR := hide hfr; have HB6 := hide hB6
        have HD := hide hd
        have hdd : (sd != 0 && sd != 1) = false := by rcases hd with rfl | rfl <;> rfl
        have l0 : W6.cell? ⟨lb, 0, none⟩ = some (.int .i64 sd) := (hB6.cell (p := ⟨lb, 0, none⟩) (block_ltR hX5)).trans q0
        have HWIN := hide (And.intro hi1 hi2)
        clear hs hcell hgl hX5 hI hI5 hB5 hi1 hi2 hi3 hW5 hfr hB6 hX6 hI6 hW6 hal
        go_upto_region 12 with fail
        rw [← unhide HW5, ← hlb]
        clear hlb s0 s1 s2 s3
        go_cut [62] (fun v62 wx => v62 = .bool false ∧ wx = W5)
        case first =>
          rcases hd with hd | hd
          · subst hd
            go_wp2_with fail
            go_meet
            exact ⟨rfl, rfl⟩
          · subst hd
            go_wp2_with fail
            go_meet
            exact ⟨rfl, rfl⟩
        case rest =>
        obtain ⟨rfl, hwc⟩ := hcut
        rw [hwc]
        clear hwc hd hdd
        go_wp2_with fail
        refine (unhide NF).mono ?_
        rintro e w6 ⟨rfl, hw⟩
        have hw' := hw.symm
        subst hw'
        generalize hoff : M.off = off at *
        have HOFF := hide hoff
        clear hoff
        go_upto_region 33 with fail
        rw [← unhide HW6, ← hxb]
        clear hxb q0 q1 r0 r1
        have HRD := hide (rd_again (unhide HI6) (unhide HAL) ((unhide HB6).block lb (block_ltR (unhide HX5)) |>.trans (unhide HX5)) (unhide HFR) (unhide HX6))
        go_upto_if 107 with fail
        go_cut [19, 20, 21, 22] (fun v19 v20 v21 v22 wx => StepR w rb n xb mb bb' M L ml v' (.slice ra L.length rc) u11 v19 v20 v21 v22 wx)
        case first =>
          rcases unhide HD with hd | hd
          · subst hd
            obtain ⟨_, _, t0, t1, t2, t3, _⟩ := unhide HRD W6 (Chg.refl _ _)
            have NP := hide (bput_any (unhide HI6).book (unhide HI6).laid (unhide HI6).bel.size sm st)
            go_wp2_with fail
            refine (unhide NP).mono ?_
            rintro e wz ⟨nn, er, M', pl2, L', rfl, hst, hn0, hn1⟩
            have hz := (unhide HI6).step hst
            obtain ⟨z0, z1, z2, z3, z4, z5, z6⟩ := unhide HRD wz hst.chg
            have NR := hide (rput_any hz.ren hz.bel.size hz.pos n hz.C_le sm st)
            have HST := hide hst; have HN0 := hide hn0; have HN1 := hide hn1
            rw [(unhide HI6).len] at HST HN1
            clear t0 t1 t2 t3 hst hn0 hn1 hz NP l0
            go_wp2_with fail
            refine (unhide NR).mono ?_
            rintro e wq ⟨⟨rv', rfl, hr', ho'⟩, hbq⟩
            obtain ⟨⟨ra', rc', hrv'⟩, _⟩ := hr'.row.form
            subst hrv'
            have k6 := (hbq.block xb (block_ltR z6)).trans z6
            have c0 : wq.cell? ⟨xb, 0, none⟩ = some (.int .i64 (n : Int)) := by simp [World.cell?, k6]
            have c1 : wq.cell? ⟨xb, 1, none⟩ = some (.slice ra L.length rc) := by simp [World.cell?, k6]
            have f0 : wq.frozen? ⟨xb, 0, none⟩ = false := by simp [World.frozen?, k6]
            have f1 : wq.frozen? ⟨xb, 1, none⟩ = false := by simp [World.frozen?, k6]
            have HFIN := hide (StepR.mk' (unhide HI6) (unhide HFR) (unhide HX6) (unhide HST) hbq hr' ho' (unhide HN0) (unhide HN1))
            clear z0 z1 z2 z3 z4 z5 z6 k6 hr' ho' hbq NR
            go_wp2_with fail
            go_meet
            exact unhide HFIN
          · subst hd
            obtain ⟨_, _, t0, t1, t2, t3, _⟩ := unhide HRD W6 (Chg.refl _ _)
            have NP := hide (bdone_any (unhide HI6).book (unhide HI6).laid sn sm)
            go_wp2_with fail
            refine (unhide NP).mono ?_
            rintro e wz ⟨er, M', pl2, L', rfl, hst⟩
            have hz := (unhide HI6).step hst
            obtain ⟨z0, z1, z2, z3, z4, z5, z6⟩ := unhide HRD wz hst.chg
            have NR := hide (rdone_any hz.ren hz.bel.size (Nat.le_trans (posL_len L) hz.pos) hz.ok (n : Int) sn sm)
            have HST := hide hst
            clear t0 t1 t2 t3 hst hz NP l0
            go_wp2_with fail
            refine (unhide NR).mono ?_
            rintro e wq ⟨⟨rv', rfl, hr', ho'⟩, hbq⟩
            obtain ⟨⟨ra', rc', hrv'⟩, _⟩ := hr'.row.form
            subst hrv'
            have k6 := (hbq.block xb (block_ltR z6)).trans z6
            have c0 : wq.cell? ⟨xb, 0, none⟩ = some (.int .i64 (n : Int)) := by simp [World.cell?, k6]
            have c1 : wq.cell? ⟨xb, 1, none⟩ = some (.slice ra L.length rc) := by simp [World.cell?, k6]
            have f0 : wq.frozen? ⟨xb, 0, none⟩ = false := by simp [World.frozen?, k6]
            have f1 : wq.frozen? ⟨xb, 1, none⟩ = false := by simp [World.frozen?, k6]
            have HFIN := hide (StepR.mk' (nn := 0) (kk := 0) (unhide HI6) (unhide HFR) (unhide HX6) (unhide HST) hbq hr' ho' (fun _ => rfl) (fun _ => rfl))
            clear z0 z1 z2 z3 z4 z5 z6 k6 hr' ho' hbq NR
            go_wp2_with fail
            go_meet
            exact unhide HFIN
        case rest =>
        obtain ⟨er, er2, nn, kk, M', pl2, L', L2, rv', rfl, rfl, rfl, rfl, hI', hx', hr', hs', ha', h12, hno⟩ := hcut
        obtain ⟨⟨ra', rc', hrv'⟩, _⟩ := hr'.row.form
        subst hrv'
        have x0 : wc.cell? ⟨xb, 0, none⟩ = some (.int .i64 (n : Int)) := by simp [World.cell?, hx']
        have x1 : wc.cell? ⟨xb, 1, none⟩ = some (.slice ra' (plsL L2).length rc') := by simp [World.cell?, hx']
        have NF2 := hide (moff_any hI'.book.sto.mem)
        have HMN : Hid (off = false → ml = []) := hide (fun h => (unhide HI6).mnil ((unhide HOFF).trans h))
        clear l0 HRD NF HX5 HI5 HI6 HX6 HW6 HW5 HFR HAL HB6 HD HWIN HLB
        by_cases he : er = 12
        · obtain ⟨ho', rfl, rfl⟩ := h12 he
          subst he
          rw [ho'] at NF2
          have HI' := hide hI'; have HO' := hide ho'
          clear h12 hno hr' hs' ha' hx'
          cases off with
          | true =>
            have HFINL : Hid (LoopR w rb n l.length (.pointer (some ⟨mb, 0, none⟩)) (.pointer (some ⟨bb', 0, none⟩)) (.int .i64 0) u11 (.int .i64 ((i : Int) + 1)) wc) := hide ⟨i + 1, _, _, _, _, _, _, _, _, by omega, by go_num, rfl, rfl, rfl, unhide HI'⟩
            go_wp2_with fail
            refine (unhide NF2).mono ?_
            rintro e w9 ⟨rfl, hw⟩
            have hw' := hw.symm
            subst hw'
            go_wp2
            exact ⟨unhide HFINL, by simp [intOf]; omega⟩
          | false =>
            obtain ⟨i0, hi0, hz0, hz1, hz2⟩ := info_partsB infoBk
            have hml := unhide HMN rfl
            have hun := (unhide HI').mn2 hml
            subst hun
            have HI0 := hide hi0; have Z0 := hide hz0; have Z1 := hide hz1; have Z2 := hide hz2
            clear hi0 hz0 hz1 hz2 hml
            go_wp2_with fail
            refine (unhide NF2).mono ?_
            rintro e w9 ⟨rfl, hw⟩
            have hw' := hw.symm
            subst hw'
            go_wp2_with (at_builtin; refine wpList_append_own _ rfl _ _ 34 rfl wc.heap.size 33 i0 (.agg #[.int .i64 0, .slice none 0 0]) 2 32 Try.underlying34 (unhide HI0) (unhide Z0) (unhide Z1) (unhide Z2) rfl (by decide) _ 0 [] rfl (World.ownsRow_nil _ _ _ _) ⟨wc.heap.size, 0, none⟩ 1 1 [.int .i64 (n : Int), .slice ra' (plsL L2).length rc'] rfl rfl (World.news_of_block (heap_alloc_new _ _)) ?c2 ?c3 ?c4 ?c5 ?_)
            try (case c2 => first | exact ⟨rfl, rfl⟩ | (intro u hu; simp at hu; rcases hu with rfl | rfl <;> rfl))
            try (case c3 => unfold maxLen; omega)
            try (case c4 => omega)
            try (case c5 => first | omega | (simp; done) | (simp; omega))
            intro v5 w5 hown5 hgrow5 _
            have HFINL : Hid (LoopR w rb n l.length (.pointer (some ⟨mb, 0, none⟩)) (.pointer (some ⟨bb', 0, none⟩)) (.int .i64 0) v5 (.int .i64 ((i : Int) + 1)) w5) := hide ⟨i + 1, _, _, _, _, _, _, _, _, by omega, by go_num, rfl, rfl, rfl, (unhide HI').addMay (x := ⟨(n : Int), ra', (plsL L2).length, rc'⟩) (unhide HO') hgrow5 hown5⟩
            clear hown5 hgrow5
            go_wp2
            exact ⟨unhide HFINL, by simp [intOf]; omega⟩
        · obtain ⟨hLL, hee, hnk, hof⟩ := hno he
          subst hLL hee hnk
          have hoff2 : off = false := (unhide HOFF).symm.trans hof
          subst hoff2
          have heb : (er == 12) = false := by simpa using he
          have NS := hide (sameBooks_any hI'.book hr'.row (n : Int))
          have HI' := hide hI'; have HR' := hide hr'; have HS' := hide hs'; have HX' := hide hx'
          clear h12 hno ha' he hof hI' hr' hs' hx'
          go_wp2_with fail
          refine (unhide NS).mono ?_
          rintro e w9 ⟨rfl, hb9⟩
          have hI9 := (unhide HI').below hb9
          have k9 := (hb9.block xb (block_ltR (unhide HX'))).trans (unhide HX')
          have y0 : w9.cell? ⟨xb, 0, none⟩ = some (.int .i64 (n : Int)) := by simp [World.cell?, k9]
          have y1 : w9.cell? ⟨xb, 1, none⟩ = some (.slice ra' (plsL L').length rc') := by simp [World.cell?, k9]
          have r0 : w9.cell? ⟨rb, 0, none⟩ = some (.int .i64 (n : Int)) := by simp [World.cell?, hI9.rbx]
          have r1 : w9.cell? ⟨rb, 1, none⟩ = some (.slice ra L.length rc) := by simp [World.cell?, hI9.rbx]
          have f0 : w9.frozen? ⟨rb, 0, none⟩ = false := by simp [World.frozen?, hI9.rbx]
          have f1 : w9.frozen? ⟨rb, 1, none⟩ = false := by simp [World.frozen?, hI9.rbx]
          have hfin := hI9.setR ((unhide HR').below hb9) (fun x hx => ⟨(unhide HS' x hx).1, (unhide HS' x hx).2.1, (unhide HS' x hx).2.2.1⟩)
          have HFINL : Hid (LoopR w rb n l.length (.pointer (some ⟨mb, 0, none⟩)) (.pointer (some ⟨bb', 0, none⟩)) (.int .i64 0) u11 (.int .i64 ((i : Int) + 1)) ((w9.setCell ⟨rb, 0, none⟩ (.int .i64 (n : Int))).setCell ⟨rb, 1, none⟩ (.slice ra' (plsL L').length rc'))) := hide ⟨i + 1, _, _, _, _, _, _, _, _, by omega, by go_num, rfl, rfl, rfl, hfin⟩
          clear hfin hI9 hb9 k9 x0 x1
          go_wp2
          exact ⟨unhide HFINL, by simp [intOf]; omega⟩
      · have hd0 : (sd == 0) = false := by simpa using fun e => hd (.inl e)
        have hd1 : (sd == 1) = false := by simpa using fun e => hd (.inr e)
        have hd0' : (sd != 0) = true := by simpa using fun e => hd (.inl e)
        have hd1' : (sd != 1) = true := by simpa using fun e => hd (.inr e)
        have hCn : M.C ≠ [] := fun e => by have h1 := hI.len; have h2 := hI.c4; rw [e] at h1; simp at h1; omega
        have N6 := hide (after_any hI5.book.sto.mem hCn sn hi1)
        have NOP := hide (fun (W : World) (mb' : Nat) (v'' : Value) (hm : MemAt W W5.heap.size mb' v'' ⟨M.C, sn, false⟩) (hb : W5.heap.size ≤ W.heap.size) => open_any (hm.mono hI5.bel.size) rfl hI5.laid (by show 4 ≤ M.C.length; rw [hI5.len]; exact hI5.c4) (Nat.le_trans hI5.bel.size hb))
        have NO2 := hide (fun (m : Value) (bb : Nat) W => opened_any .nilIface m bb W)
        clear hs hcell hgl hX5 hI hI5 hB5 hi1 hi2 hi3 hd hCn hW5 hal
        go_upto_region 12 with fail
        rw [← unhide HW5, ← hlb]
        clear hlb s0 s1 s2 s3
        go_wp2_with fail
        refine (unhide N6).mono ?_
        rintro e w6 ⟨⟨mb6, v6, rfl, hm6, hmb6⟩, hb6⟩
        have N7 := hide (unhide NOP w6 mb6 v6 hm6 hb6.size)
        have HM6 := hide hm6; have HMB6 := hide hmb6; have HB6 := hide hb6
        clear hm6 hmb6 hb6 N6
        go_wp2_with fail
        refine (unhide N7).mono ?_
        rintro e w7 ⟨⟨bb7, pl7, rfl, hk7, hbb7, hpl7⟩, hb7⟩
        have hI7 := (unhide HI5).again (unhide HM6) (unhide HMB6) (unhide HB6) hk7 hbb7 hpl7 hb7
        have h57 : Below W5.heap.size W5 w7 := (unhide HB6).trans (hb7.mono (unhide HB6).size)
        have r0 : w7.cell? ⟨rb, 0, none⟩ = some (.int .i64 (n : Int)) := by simp [World.cell?, hI7.rbx]
        have r1 : w7.cell? ⟨rb, 1, none⟩ = some (.slice ra L.length rc) := by simp [World.cell?, hI7.rbx]
        have NS := hide (sameBooks_any hI7.book hI7.ren.row (n : Int))
        have HMAY := hide ((unhide HI5).mays.below h57)
        have HML := hide (unhide HI5).mlen
        have HI7 := hide hI7
        clear hk7 hbb7 hpl7 hb7 hI7 h57 N7
        go_wp2_with fail
        refine (unhide NO2 _ bb7 _).mono ?_
        rintro e w8 ⟨rfl, hw⟩
        have hw' := hw.symm
        subst hw'
        go_wp2_with fail
        refine (unhide NS).mono ?_
        rintro e w8 ⟨rfl, hb8⟩
        have hm8 := (unhide HMAY).below hb8
        have HI8 := hide ((unhide HI7).below hb8)
        obtain ⟨⟨ya, yc, hyv⟩, hyf⟩ := hm8.form
        subst hyv
        have HM8 := hide hm8; have HYF := hide hyf
        have hml9 : (ml.length : Int) ≤ 1 := by have := unhide HML; omega
        clear hb8 hm8 hyf r0 r1 NS
        go_wp2_with fail
        go_loopw [14, 85] (fun fv jv wx => ∃ j : Nat, fv = .bool true ∧ j ≤ ml.length ∧ jv = .int .i64 (j : Int) ∧ Below w8.heap.size w8 wx) (fun _ jv _ => ml.length - (intOf jv).toNat)
        case atStart => exact ⟨0, rfl, Nat.zero_le _, rfl, Below.refl _ _⟩
        case round =>
          obtain ⟨j, rfl, hj, rfl, hbj⟩ := hrel
          by_cases hjl : j < ml.length
          · obtain ⟨x, hx⟩ : ∃ x, ml[j]? = some x := ⟨_, List.getElem?_eq_getElem hjl⟩
            rcases unhide HYF with hn | ⟨g, cap', hv2, hgB, hgl⟩
            · rw [hn] at hjl; simp at hjl
            injection hv2 with e1 e2 e3
            subst e1 e3
            have t0 := (hbj.cell (p := ⟨g, j * 2 + 0, none⟩) hgl).trans ((unhide HM8).cell cellsMy_len j x hx 0 (by omega))
            have t1 := (hbj.cell (p := ⟨g, j * 2 + 1, none⟩) hgl).trans ((unhide HM8).cell cellsMy_len j x hx 1 (by omega))
            simp only [cellsMy, List.getElem?_cons_zero, List.getElem?_cons_succ, Nat.add_zero] at t0 t1
            have hji : (j : Int) < (ml.length : Int) := by omega
            obtain ⟨x1, x2, x3, x4⟩ := x
            dsimp only at t0 t1
            have HBJ := hide (hbj.alloc hbj.size (.cells #[.int .i64 x1, .slice x2 x3 x4] 33))
            clear hx hbj
            go_wp2
            refine ⟨⟨j + 1, rfl, by omega, by go_num, unhide HBJ⟩, by simp [intOf]; omega⟩
          · have hji : ¬ (j : Int) < (ml.length : Int) := by omega
            have HI9 := hide ((unhide HI8).below hbj)
            clear hbj
            go_wp2
            exact ⟨⟨i + 1, _, _, _, _, _, _, _, _, by omega, by go_num, rfl, rfl, rfl, unhide HI9⟩, by simp [intOf]; omega⟩
    · have hii : ¬ (i : Int) < (l.length : Int) := by omega
      have HB := hide hI.bel
      clear hI
      go_wp2
      go_ret
      exact ⟨rfl, unhide HB⟩
end
end Go.Proofs.Ytbiipeapcclbkaa
