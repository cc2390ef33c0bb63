/- The reference's Pack. -/
import Derived.Test.YtkmmgeoialdmlaaDoorWirePb
import Derived.Test.YtkmmgeoialdmlaaDoorWireK
import Derived.Test.YtkmmgeoialdmlaaDoorQB0
namespace Go.Proofs.YtkmmgeoialdmlaaDoor
open Go.RowKit
set_option linter.unusedVariables false

theorem map_addW (T n : Nat) (hT : (T : Int) < 65536) : wrap64 ((T : Int) + wrap64 (2 ^ (16 - n))) = ((T + bitN n : Nat) : Int) := by
  have hb : bitN n ≤ 65536 := Nat.le_trans (Nat.pow_le_pow_right (by decide) (by omega : 16 - n ≤ 16)) (by decide)
  have e : (2 : Int) ^ (16 - n) = ((bitN n : Nat) : Int) := by unfold bitN; rw [Int.natCast_pow]; rfl
  rw [e]
  have w1 : ∀ x : Int, 0 ≤ x → x < 200000 → wrap64 x = x := fun x h0 h1 => by unfold wrap64; omega
  rw [w1 (bitN n : Int) (by omega) (by omega), w1 _ (by omega) (by omega), Int.natCast_add]
/-- behind q parts -/
def RKInv (w W2 : World) (l : List Prt) (iv tv sv : Value) (wx : World) : Prop :=
  ∃ q : Nat, q ≤ l.length ∧ iv = .int .i64 (q : Int) ∧ tv = .int .i64 ((mapN (l.take q) : Nat) : Int) ∧ sv = .string ⟨(bodyL (l.take q)).toArray⟩ ∧ goodP 0 (l.take q) = true ∧ Below W2.heap.size W2 wx
set_option maxRecDepth 100000 in
set_option maxHeartbeats 8000000 in
theorem rpack_good (kind : Int) (l : List Prt) (pa : Option Addr) (c : Nat) (w : World) (hr : PRow w pa l) (hl : (l.length : Int) ≤ 9223372036854775807) (hk0 : 0 ≤ kind) (hk1 : kind ≤ 99)
    (hp : ∀ p ∈ l, (-9223372036854775808 ≤ p.1 ∧ p.1 ≤ 9223372036854775807) ∧ p.2.size ≤ maxLen) :
    Calls Tryd.prog 6 #[.agg #[.int .i64 kind, .slice pa l.length c]] w fun e w' => e = .returned (.tuple #[.string (packS kind l), .int .i64 (packE kind l)]) ∧ Below w.heap.size w w' := by
  obtain ⟨W2, hW2⟩ : ∃ W2, W2 = w.alloc (.cells #[.int .i64 kind, .slice pa l.length c] 24) := ⟨_, rfl⟩
  have hB2 : Below w.heap.size w W2 := by rw [hW2]; exact (Below.refl _ _).alloc (Nat.le_refl _) _
  have hS2 : W2.heap.size = w.heap.size + 1 := by rw [hW2]; simp
  have hM2 : W2.heap[w.heap.size]? = some (.cells #[.int .i64 kind, .slice pa l.length c] 24 (0, 0)) := by
    rw [hW2]; exact heap_alloc_new _ _
  have m0 : W2.cell? ⟨w.heap.size, 0, none⟩ = some (.int .i64 kind) := (cell_of_row _ _ 0 _ _ _ hM2).trans rfl
  have m1 : W2.cell? ⟨w.heap.size, 1, none⟩ = some (.slice pa l.length c) := (cell_of_row _ _ 1 _ _ _ hM2).trans rfl
  have HW2 := hide hW2; have HB2 := hide hB2; have HS2 := hide hS2; have HM2 := hide hM2; have HR := hide hr; have HP := hide hp
  clear hW2 hB2 hS2 hM2 hr hp
  go_enter Tryd.func6, Tryd.ntmps6
  go_upto_region 1 with fail
  rw [← unhide HW2]
  go_wp2_with fail
  go_loopw [22, 4, 5] (fun iv tv sv wx => RKInv w W2 l iv tv sv wx) (fun iv _ _ _ => l.length - (intOf iv).toNat)
  case atStart => exact ⟨0, Nat.zero_le _, rfl, rfl, rfl, rfl, Below.refl _ _⟩
  case round =>
    obtain ⟨q, hq, rfl, rfl, rfl, hg, hbw⟩ := hrel
    by_cases hlt : q < l.length
    · have hbww : Below w.heap.size w wr := (unhide HB2).trans (hbw.mono (unhide HB2).size)
      have hPR := (unhide HR).below hbww (Nat.le_refl _)
      obtain ⟨p, hpq⟩ : ∃ p, l[q]? = some p := ⟨_, List.getElem?_eq_getElem hlt⟩
      obtain ⟨hpb, hpz⟩ := unhide HP p (List.mem_of_getElem? hpq)
      rcases hPR with hnil | ⟨b, off, rfl, hbl, hc⟩
      · rw [hnil] at hlt; simp at hlt
      obtain ⟨ck0, ck1⟩ := hc q p hpq
      have htk : l.take (q + 1) = l.take q ++ [p] := by rw [List.take_add_one, hpq]; rfl
      have hgl : goodP 0 l = (goodP 0 (l.take q) && goodP (lastOf 0 (l.take q)) (p :: l.drop (q + 1))) := by
        rw [← goodP_app]
        congr 1
        have : l.drop q = p :: l.drop (q + 1) := by
          rw [List.drop_eq_getElem_cons hlt]
          rw [List.getElem?_eq_getElem hlt] at hpq
          rw [Option.some.inj hpq]
        rw [← this, List.take_append_drop]
      obtain ⟨pn, ps⟩ := p
      simp only at ck0 ck1 hpb hpz
      have hlast16 := last_le hg (by omega)
      have hlast0 := last_ge hg
      have hlen16 := good_len hg
      have hT := mapN_lt (l.take q) 0 hg (by omega)
      have hprev : 0 < q → wr.cell? ⟨b, off + (q - 1) * 2, none⟩ = some (.int .i64 (lastOf 0 (l.take q))) := by
        intro h0
        obtain ⟨p', hp'⟩ : ∃ p', l[q - 1]? = some p' := ⟨_, List.getElem?_eq_getElem (by omega)⟩
        have ht : l.take q = l.take (q - 1) ++ [p'] := by
          have : q = q - 1 + 1 := by omega
          rw [this, List.take_add_one, ← this, hp']; rfl
        rw [ht, lastOf_snoc]
        exact (hc (q - 1) p' hp').1
      have hq0 : q = 0 → lastOf 0 (l.take q) = 0 := by intro h; subst h; rfl
      obtain ⟨W3, hW3⟩ : ∃ W3, W3 = wr.alloc (.cells #[.int .i64 pn, .string ps] 45) := ⟨_, rfl⟩
      have hB3 : Below wr.heap.size wr W3 := by rw [hW3]; exact (Below.refl _ _).alloc (Nat.le_refl _) _
      have hS3 : W3.heap.size = wr.heap.size + 1 := by rw [hW3]; simp
      have hX3 : W3.heap[wr.heap.size]? = some (.cells #[.int .i64 pn, .string ps] 45 (0, 0)) := by rw [hW3]; exact heap_alloc_new _ _
      have p0 : W3.cell? ⟨wr.heap.size, 0, none⟩ = some (.int .i64 pn) := (cell_of_row _ _ 0 _ _ _ hX3).trans rfl
      have p1 : W3.cell? ⟨wr.heap.size, 1, none⟩ = some (.string ps) := (cell_of_row _ _ 1 _ _ _ hX3).trans rfl
      have hlti : (q : Int) < (l.length : Int) := by omega
      have hplt : wr.heap.size < W3.heap.size := by omega
      have hmlt : w.heap.size < W3.heap.size := by have := unhide HS2; have := hbw.size; omega
      have hblt : b < W3.heap.size := by omega
      have m1w : W3.cell? ⟨w.heap.size, 1, none⟩ = some (.slice (some ⟨b, off, none⟩) l.length c) := ((hbw.trans (hB3.mono hbw.size)).cell (p := ⟨w.heap.size, 1, none⟩) (by have := unhide HS2; show w.heap.size < _; omega)).trans ((cell_of_row _ _ 1 _ _ _ (unhide HM2)).trans rfl)
      have hprev3 : 0 < q → W3.cell? ⟨b, off + (q - 1) * 2, none⟩ = some (.int .i64 (lastOf 0 (l.take q))) := fun h => (hB3.cell (p := ⟨b, off + (q - 1) * 2, none⟩) hbl).trans (hprev h)
      obtain ⟨last, hlast⟩ : ∃ last, last = lastOf 0 (l.take q) := ⟨_, rfl⟩
      obtain ⟨T, hTT⟩ : ∃ T, T = mapN (l.take q) := ⟨_, rfl⟩
      obtain ⟨bs, hbs⟩ : ∃ bs : ByteArray, bs = ⟨(bodyL (l.take q)).toArray⟩ := ⟨_, rfl⟩
      rw [← hlast] at hgl hlast16 hlast0 hlen16 hprev3 hq0
      rw [← hTT] at hT
      rw [← hTT, ← hbs]
      have HLAST := hide hlast; have HTT := hide hTT; have HBS := hide hbs
      have HG := hide hg; have HBW := hide hbw; have HW3 := hide hW3; have HGL := hide hgl; have HTK := hide htk; have HB3 := hide hB3; have HX3 := hide hX3; have HS3 := hide hS3; have HBWW := hide hbww
      obtain ⟨bad, hbad⟩ : ∃ bad, bad = !(decide (last < pn) && decide (pn ≤ 16) && takesB pn.toNat ps) := ⟨_, rfl⟩
      have HBAD := hide hbad
      clear hc hg hbw hW3 hgl htk hB3 hX3 hbww hpq hlast hTT hprev hbs
      go_upto_region 7 with fail
      rw [← unhide HW3]
      clear ck0 ck1
      go_cut [58, 22] from 22 to 82 (fun c iv wx => c = .bool bad ∧ iv = .int .i64 (q : Int) ∧ Below W3.heap.size W3 wx)
      case first =>
        by_cases h1 : pn < 1
        · have hb1 : bad = true := by rw [hbad, decide_eq_false (by omega)]; rfl
          have hd1 : decide (pn < 1) = true := decide_eq_true h1
          have HB1 := hide hb1
          clear hbad hb1 hprev3 hq0
          go_quiet (fail)
          go_wp2_with fail
          go_meet
          exact ⟨by rw [unhide HB1], rfl, ⟨rfl, rfl, rfl, Nat.le_refl _, fun _ _ => rfl⟩⟩
        · have hd1 : decide (pn < 1) = false := decide_eq_false h1
          by_cases h2 : 16 < pn
          · have hb1 : bad = true := by rw [hbad, decide_eq_false (show ¬ pn ≤ 16 by omega), Bool.and_false]; rfl
            have hd2 : decide (16 < pn) = true := decide_eq_true h2
            have HB1 := hide hb1
            clear hbad hb1 hprev3 hq0
            go_quiet (fail)
            go_wp2_with fail
            go_meet
            exact ⟨by rw [unhide HB1], rfl, ⟨rfl, rfl, rfl, Nat.le_refl _, fun _ _ => rfl⟩⟩
          · have hd2 : decide (16 < pn) = false := decide_eq_false h2
            obtain ⟨n, rfl⟩ : ∃ n : Nat, pn = (n : Int) := ⟨pn.toNat, by omega⟩
            by_cases hz : 0 < q
            · have hd3 : decide (0 < (q : Int)) = true := decide_eq_true (by omega)
              have hc3 := hprev3 hz
              obtain ⟨r, hr⟩ : ∃ r : Nat, r = q - 1 := ⟨_, rfl⟩
              have hri : IntKind.i64.wrap ((q : Int) - 1) = (r : Int) := by rw [show (q : Int) - 1 = (r : Int) by omega]; exact wraps_i64 _ (by omega) (by omega)
              have hrl : (r : Int) < (l.length : Int) := by omega
              rw [← hr] at hc3
              clear hr
              by_cases h4 : (n : Int) ≤ last
              · have hd4 : decide ((n : Int) ≤ last) = true := decide_eq_true h4
                have hb1 : bad = true := by rw [hbad, decide_eq_false (by omega)]; rfl
                have HB1 := hide hb1
                clear hbad hb1 hprev3 hq0
                go_quiet (fail)
                go_wp2_with fail
                go_meet
                exact ⟨by rw [unhide HB1], rfl, ⟨rfl, rfl, rfl, Nat.le_refl _, fun _ _ => rfl⟩⟩
              · have hd4 : decide ((n : Int) ≤ last) = false := decide_eq_false h4
                have hb1 : bad = !(takesB n ps) := by rw [hbad, decide_eq_true (show last < (n : Int) by omega), decide_eq_true (show (n : Int) ≤ 16 by omega)]; simp
                have HB1 := hide hb1
                have NT := hide (fun w => rpart_ok n (by omega) (by omega) ps hpz w)
                generalize takesB n ps = tb at *
                have C0 := hide (fun w' (hb : Below W3.heap.size W3 w') => (hb.cell (p := ⟨wr.heap.size, 0, none⟩) hplt).trans p0)
                have C1 := hide (fun w' (hb : Below W3.heap.size W3 w') => (hb.cell (p := ⟨wr.heap.size, 1, none⟩) hplt).trans p1)
                have C2 := hide (fun w' (hb : Below W3.heap.size W3 w') => (hb.cell (p := ⟨w.heap.size, 1, none⟩) hmlt).trans m1w)
                have C3 := hide (fun w' (hb : Below W3.heap.size W3 w') => (hb.cell (p := ⟨b, off + r * 2, none⟩) hblt).trans hc3)
                clear hbad hb1 hprev3 p0 p1 m1w hc3 m0 m1 hS3
                refine wp_region_below W3 (Below.refl _ _) (by kernel_rfl) (by kernel_rfl) ?_
                repeat (
                  refine Quietly.step (fun K hK => ?_)
                  go_simp
                  first
                    | (refine hK _ ?_; clear hK K)
                    | (apply Exists.intro
                       refine ⟨fun w1 hw1 => ?_, hK _ ?_⟩
                       (first | rfl | (rw [unhide C0 w1 hw1]; exact ⟨rfl, rfl⟩) | (rw [unhide C1 w1 hw1]; exact ⟨rfl, rfl⟩) | (rw [unhide C2 w1 hw1]; exact ⟨rfl, rfl⟩) | (rw [unhide C3 w1 hw1]; exact ⟨rfl, rfl⟩) | (go_at_call 20; exact calls_below hw1 (unhide NT _)))
                       clear hK K))
                refine Quietly.nil ?_
                intro w4 hw4
                go_wp2_with fail
                go_meet
                exact ⟨by rw [unhide HB1], rfl, hw4⟩
            · have hd3 : decide (0 < (q : Int)) = false := decide_eq_false (by omega)
              have hl0 := hq0 (by omega)
              have hb1 : bad = !(takesB n ps) := by rw [hbad, decide_eq_true (show last < (n : Int) by omega), decide_eq_true (show (n : Int) ≤ 16 by omega)]; simp
              have HB1 := hide hb1
              have NT := hide (fun w => rpart_ok n (by omega) (by omega) ps hpz w)
              generalize takesB n ps = tb at *
              have C0 := hide (fun w' (hb : Below W3.heap.size W3 w') => (hb.cell (p := ⟨wr.heap.size, 0, none⟩) hplt).trans p0)
              have C1 := hide (fun w' (hb : Below W3.heap.size W3 w') => (hb.cell (p := ⟨wr.heap.size, 1, none⟩) hplt).trans p1)
              clear hbad hb1 hprev3 p0 p1 m1w m0 m1 hS3
              refine wp_region_below W3 (Below.refl _ _) (by kernel_rfl) (by kernel_rfl) ?_
              repeat (
                refine Quietly.step (fun K hK => ?_)
                go_simp
                first
                  | (refine hK _ ?_; clear hK K)
                  | (apply Exists.intro
                     refine ⟨fun w1 hw1 => ?_, hK _ ?_⟩
                     (first | rfl | (rw [unhide C0 w1 hw1]; exact ⟨rfl, rfl⟩) | (rw [unhide C1 w1 hw1]; exact ⟨rfl, rfl⟩) | (go_at_call 20; exact calls_below hw1 (unhide NT _)))
                     clear hK K))
              refine Quietly.nil ?_
              intro w4 hw4
              go_wp2_with fail
              go_meet
              exact ⟨by rw [unhide HB1], rfl, hw4⟩
      case rest =>
      obtain ⟨rfl, rfl, hbc⟩ := hcut
      cases hbd : bad with
      | true =>
        have hgf : goodP 0 l = false := by
          have h0 := unhide HBAD
          rw [hbd] at h0
          rw [unhide HGL, unhide HG, Bool.true_and]
          simp only [goodP]
          have h1 : (decide (last < pn) && decide (pn ≤ 16) && takesB pn.toNat ps) = false := by
            cases hx : (decide (last < pn) && decide (pn ≤ 16) && takesB pn.toNat ps) with
            | true => rw [hx] at h0; cases h0
            | false => rfl
          rw [h1]; rfl
        have hE : packE kind l = 1 := by rw [packE, if_neg (by omega), hgf]; rfl
        have hSS : packS kind l = ⟨#[]⟩ := by rw [packS, hE]; rfl
        have HE1 := hide hE; have HSS := hide hSS
        have HBC := hide hbc
        clear hgf hE hSS hbc
        go_wp2
        go_ret2
        refine ⟨by rw [unhide HE1, unhide HSS]; rfl, ?_⟩
        exact ((unhide HBWW).trans ((unhide HB3).mono (unhide HBWW).size)).trans ((unhide HBC).mono (by have := (unhide HBWW).size; have := (unhide HB3).size; omega))
      | false =>
        have hgd : (decide (last < pn) && decide (pn ≤ 16) && takesB pn.toNat ps) = true := by
          have h0 := unhide HBAD
          rw [hbd] at h0
          cases hx : (decide (last < pn) && decide (pn ≤ 16) && takesB pn.toNat ps) with
          | true => rfl
          | false => rw [hx] at h0; cases h0
        simp only [Bool.and_eq_true, decide_eq_true_eq] at hgd
        obtain ⟨⟨hg1, hg2⟩, hg3⟩ := hgd
        obtain ⟨n, rfl⟩ : ∃ n : Nat, pn = (n : Int) := ⟨pn.toNat, by omega⟩
        rw [Int.toNat_natCast] at hg3
        have hn1 : 1 ≤ n := by omega
        have hn16 : n ≤ 16 := by omega
        have hGP : goodP last [((n : Int), ps)] = true := by
          simp only [goodP, Bool.and_eq_true, decide_eq_true_eq, Int.toNat_natCast]
          exact ⟨⟨⟨hg1, hg2⟩, hg3⟩, trivial⟩
        have HGP := hide hGP
        have hpz9 := takes_size n hn1 hn16 ps hg3
        have hTi : (T : Int) < 65536 := by have : T < 65536 := hT; omega
        have hbcs := hbc.size
        have q0 : wc.cell? ⟨wr.heap.size, 0, none⟩ = some (.int .i64 (n : Int)) := (hbc.cell (p := ⟨wr.heap.size, 0, none⟩) hplt).trans p0
        have q1 : wc.cell? ⟨wr.heap.size, 1, none⟩ = some (.string ps) := (hbc.cell (p := ⟨wr.heap.size, 1, none⟩) hplt).trans p1
        have hBc : Below wr.heap.size wr wc := (unhide HB3).trans (hbc.mono (by omega))
        have hpc : wr.heap.size < wc.heap.size := by omega
        have hfa4 : fahead n ≤ 4 := by
          have : ∀ m : Fin 17, fahead m.val ≤ 4 := by decide
          exact this ⟨n, by omega⟩
        have hfld : fieldL ((n : Int), ps) = aheadL n ps ++ ps.data.toList := by unfold fieldL; rw [Int.toNat_natCast]
        have hblen : bs.size ≤ 200000 := by
          have h1 := body_len (Int.le_refl 0) (unhide HG)
          have h2 : (l.take q).length ≤ 16 := by omega
          have : 10003 * (l.take q).length ≤ 10003 * 16 := Nat.mul_le_mul_left _ h2
          rw [unhide HBS]
          show (bodyL (l.take q)).toArray.size ≤ _
          rw [List.size_toArray]; omega
        obtain ⟨T2, hT2⟩ : ∃ T2, T2 = T + bitN n := ⟨_, rfl⟩
        have HT2 := hide hT2
        have NF := hide (fun w => rfield_any n hn1 hn16 w)
        have ND := hide (fun w => rdecimal_any ps.size (fahead n) (by omega) (by omega) w)
        have hds : (⟨(digs ps.size (fahead n)).toArray⟩ : ByteArray).size ≤ 4 := by
          show (digs ps.size (fahead n)).toArray.size ≤ 4
          rw [List.size_toArray, digs_length]; exact hfa4
        have HFLD := hide hfld; have HBC := hide hBc; have HDS : Hid (∃ ds : ByteArray, ds = ⟨(digs ps.size (fahead n)).toArray⟩) := hide ⟨_, rfl⟩
        have hni : (n : Int) ≤ 16 := by omega
        have hn1i : (1 : Int) ≤ (n : Int) := by omega
        clear hbc hfld hBc hGP hg3 hT2 p0 p1 m1w hprev3 m0 m1 hq0
        subst hbd
        go_upto_region 9 with fail
        generalize hwb : wc = wb at *
        clear hwb
        go_cut [4, 22] from 22 to 82 (fun tv iv wx => tv = .int .i64 (T2 : Int) ∧ iv = .int .i64 (q : Int) ∧ wx = wb)
        case first =>
          clear NF ND HFLD HDS HGP
          have hT2' := unhide HT2
          clear hS3 hpz hpb hpz9 hblen hds hplt hmlt hblt hlast16 hlast0 hlen16 hT
          have HT3 := hide hT2'
          clear hT2'
          go_wp2_with fail
          go_meet
          exact ⟨congrArg (Value.int .i64) (by rw [unhide HT3]; exact map_addW T n hTi), rfl, rfl⟩
        case rest =>
        obtain ⟨rfl, rfl, hwc⟩ := hcut
        subst hwc
        have HDE : Hid (aheadL n ps = digs ps.size (fahead n)) := hide rfl
        have HD2 : Hid ((⟨(digs ps.size (fahead n)).toArray⟩ : ByteArray).data.toList = digs ps.size (fahead n)) := hide rfl
        clear HDS
        generalize (⟨(digs ps.size (fahead n)).toArray⟩ : ByteArray) = ds at *
        have hlim1 : ¬ 9223372036854775807 < ds.size + ps.size := by omega
        have hlim2 : ¬ 9223372036854775807 < bs.size + (ds.size + ps.size) := by omega
        go_wp2_with fail
        refine (unhide NF _).mono ?_
        rintro e v1 ⟨rfl, hv1⟩
        have C1 := hide (fun w' (hb : Below v1.heap.size v1 w') => (hb.cell (p := ⟨wr.heap.size, 1, none⟩) (Nat.lt_of_lt_of_le hpc hv1.size)).trans ((hv1.cell (p := ⟨wr.heap.size, 1, none⟩) hpc).trans q1))
        have HV1 := hide hv1
        clear hv1 q0 q1
        go_upto_region 11 with fail
        refine wp_region_below v1 (Below.refl _ _) (by kernel_rfl) (by kernel_rfl) ?_
        repeat (
          refine Quietly.step (fun K hK => ?_)
          go_simp
          first
            | (refine hK _ ?_; clear hK K)
            | (apply Exists.intro
               refine ⟨fun w1 hw1 => ?_, hK _ ?_⟩
               (first | rfl | (rw [unhide C1 w1 hw1]; exact ⟨rfl, rfl⟩) | (go_at_call 22; exact calls_below hw1 (unhide ND _)))
               clear hK K))
        refine Quietly.nil ?_
        intro w4 hw4
        have HM3 : Hid (T2 = mapN (l.take (q + 1))) := hide (by
          rw [unhide HTK, mapN_snoc, ← unhide HTT, unhide HT2]; rfl)
        have HS3' : Hid (bs ++ (ds ++ ps) = ⟨(bodyL (l.take (q + 1))).toArray⟩) := hide (by
          apply ByteArray.ext
          apply Array.toList_inj.1
          rw [ByteArray.data_append, Array.toList_append, ByteArray.data_append, Array.toList_append, unhide HTK, bodyL_snoc, unhide HFLD, unhide HDE, unhide HD2, unhide HBS])
        have HG3 : Hid (goodP 0 (l.take (q + 1)) = true) := hide (by
          rw [unhide HTK, goodP_app, unhide HG, Bool.true_and, ← unhide HLAST]; exact unhide HGP)
        have HBF : Hid (Below W2.heap.size W2 w4) := hide (by
          have h1 := (unhide HBW).trans ((unhide HBC).mono (unhide HBW).size)
          have h2 := h1.trans ((unhide HV1).mono h1.size)
          exact h2.trans (hw4.mono h2.size))
        clear hw4
        go_wp2_with fail
        refine ⟨⟨q + 1, by omega, by go_num, by rw [unhide HM3], by rw [unhide HS3'], unhide HG3, unhide HBF⟩, ?_⟩
        simp [intOf]; omega
    · have hlti : ¬ (q : Int) < (l.length : Int) := by omega
      have hql : l.take q = l := List.take_of_length_le (by omega)
      rw [hql] at hg ⊢
      obtain ⟨kn, rfl⟩ : ∃ kn : Nat, kind = (kn : Int) := ⟨kind.toNat, by omega⟩
      have hT := mapN_lt l 0 hg (by omega)
      have hT16 : mapN l < 65536 := hT
      have hblen : (⟨(bodyL l).toArray⟩ : ByteArray).size ≤ 200000 := by
        have h1 := body_len (Int.le_refl 0) hg
        have h3 := good_len hg
        have h4 := last_le hg (by omega)
        have h2 : l.length ≤ 16 := by omega
        have : 10003 * l.length ≤ 10003 * 16 := Nat.mul_le_mul_left _ h2
        show (bodyL l).toArray.size ≤ _
        rw [List.size_toArray]; omega
      have m0w : wr.cell? ⟨w.heap.size, 0, none⟩ = some (.int .i64 (kn : Int)) := (hbw.cell (p := ⟨w.heap.size, 0, none⟩) (by have := unhide HS2; show w.heap.size < _; omega)).trans m0
      have HEX : Hid (packE (kn : Int) l = 0) := hide (by rw [packE, if_neg (by omega), hg]; rfl)
      have HSX : Hid (packS (kn : Int) l = (⟨(digs kn 2).toArray⟩ ++ strOfNums (bigL (mapN l) 2)) ++ ⟨(bodyL l).toArray⟩) := hide (by
        rw [packS, unhide HEX, if_pos rfl, packL, Int.toNat_natCast]
        apply ByteArray.ext
        apply Array.toList_inj.1
        rw [ByteArray.data_append, Array.toList_append, ByteArray.data_append, Array.toList_append, strOfNums_data]
        simp only [bigL, List.map_cons, List.map_nil]
        have e1 : mapN l / 256 ^ 1 % 256 = mapN l / 256 := by omega
        have e2 : mapN l / 256 ^ 0 % 256 = mapN l % 256 := by simp
        rw [e1, e2]
        rfl)
      have ND : Hid (∀ w, Calls Tryd.prog 22 #[.int .i64 (kn : Int), .int .i64 2] w fun e w' => e = .returned (.string ⟨(digs kn 2).toArray⟩) ∧ Below w.heap.size w w') := hide (fun w => rdecimal_any kn 2 (by omega) (by omega) w)
      have NB : Hid (∀ w, Calls Tryd.prog 23 #[.int .i64 (mapN l : Int), .int .i64 2] w fun e w' => e = .returned (.string (strOfNums (bigL (mapN l) 2))) ∧ Below w.heap.size w w') := hide (fun w => big_any (mapN l) 2 w (by omega) (by omega))
      have hz1 : (⟨(digs kn 2).toArray⟩ : ByteArray).size = 2 := by
        show (digs kn 2).toArray.size = 2
        rw [List.size_toArray, digs_length]
      have hz2 : (strOfNums (bigL (mapN l) 2)).size = 2 := by rw [strOfNums_size, bigL_length]
      have HBW := hide ((unhide HB2).trans (hbw.mono (unhide HB2).size))
      generalize (⟨(digs kn 2).toArray⟩ : ByteArray) = A at *
      generalize strOfNums (bigL (mapN l) 2) = G at *
      generalize (⟨(bodyL l).toArray⟩ : ByteArray) = bs at *
      generalize mapN l = T at *
      have hlim1 : ¬ 9223372036854775807 < A.size + G.size := by omega
      have hlim2 : ¬ 9223372036854775807 < A.size + G.size + bs.size := by omega
      clear hbw hql hT hg m0 m1 hz1 hz2
      go_wp2_with fail
      refine (unhide ND _).mono ?_
      rintro e v1 ⟨rfl, hv1⟩
      have HV1 := hide hv1
      clear hv1
      go_wp2_with fail
      refine (unhide NB _).mono ?_
      rintro e v2 ⟨rfl, hv2⟩
      have HV2 := hide hv2
      clear hv2
      go_wp2
      go_ret2
      refine ⟨by rw [unhide HEX, unhide HSX]; rfl, ?_⟩
      have h1 := (unhide HBW).trans ((unhide HV1).mono (unhide HBW).size)
      exact h1.trans ((unhide HV2).mono h1.size)
theorem rpack_any (kind : Int) (l : List Prt) (pa : Option Addr) (c : Nat) (w : World) (hr : PRow w pa l) (hl : (l.length : Int) ≤ 9223372036854775807)
    (hp : ∀ p ∈ l, (-9223372036854775808 ≤ p.1 ∧ p.1 ≤ 9223372036854775807) ∧ p.2.size ≤ maxLen) :
    Calls Tryd.prog 6 #[.agg #[.int .i64 kind, .slice pa l.length c]] w fun e w' => e = .returned (.tuple #[.string (packS kind l), .int .i64 (packE kind l)]) ∧ Below w.heap.size w w' := by
  by_cases hk : kind < 0 ∨ 99 < kind
  · exact rpack_bad kind l pa c w hk
  · exact rpack_good kind l pa c w hr hl (by omega) (by omega) hp
end Go.Proofs.YtkmmgeoialdmlaaDoor
