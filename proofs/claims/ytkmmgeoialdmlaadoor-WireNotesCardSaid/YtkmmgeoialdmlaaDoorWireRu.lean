/- The reference's Unpack: the walk. -/
import Derived.Test.YtkmmgeoialdmlaaDoorWireRq
namespace Go.Proofs.YtkmmgeoialdmlaaDoor
open Go.RowKit
set_option linter.unusedVariables false

theorem shr_mod (T n : Nat) (h16 : n ≤ 16) : T / 2 ^ (16 - n) % 2 = 0 ∨ T / 2 ^ (16 - n) % 2 = 1 := by omega
set_option maxRecDepth 100000 in
set_option maxHeartbeats 8000000 in
theorem runpack_any (s : ByteArray) (hs : s.size ≤ 9223372036854775807) (w : World) :
    Calls Tryd.prog 8 #[.string s] w fun e w' => ∃ pa c, e = .returned (.tuple #[.agg #[.int .i64 (unpK s), .slice pa (unpL s).length c], .int .i64 (unpE s)]) ∧ PRow w' pa (unpL s) ∧ Below w.heap.size w w' := by
  obtain ⟨W0, hW0⟩ : ∃ W0, W0 = (w.alloc (.cells #[.int .i64 0, .slice none 0 0] 24)).alloc (.cells #[.int .i64 0, .slice none 0 0] 24) := ⟨_, rfl⟩
  have hB0 : Below w.heap.size w W0 := by rw [hW0]; exact ((Below.refl _ _).alloc (Nat.le_refl _) _).alloc (by simp) _
  have hS0 : W0.heap.size = w.heap.size + 2 := by rw [hW0]; simp
  have hN0 : NoneAt w W0 := by
    rw [hW0]
    refine ⟨(Below.heap_alloc _ _ _ (by simp)).trans (heap_alloc_new _ _), ?_⟩
    have e1 : (w.alloc (.cells #[.int .i64 0, .slice none 0 0] 24)).heap.size = w.heap.size + 1 := by simp
    rw [← e1]; exact heap_alloc_new _ _
  obtain ⟨x0, x1, y0, y1, f0, f1⟩ := hN0.cells
  have hno := unp_no s
  have hyes := unp_yes s
  have hshort := unpR_short s
  have hread := unpR_read s
  have hl := len_list s
  rw [hl] at hshort hread
  generalize unpK s = uK at *
  generalize unpL s = uL at *
  generalize unpE s = uE at *
  generalize unpR s = uR at *
  have hsi : (s.size : Int) ≤ 9223372036854775807 := by omega
  have HW0 := hide hW0; have HB0 := hide hB0; have HS0 := hide hS0; have HN0 := hide hN0; have HNO := hide hno; have HYES := hide hyes; have HSH := hide hshort; have HRD := hide hread
  clear hW0 hB0 hS0 hN0 hno hyes hshort hread hs
  go_enter Tryd.func8, Tryd.ntmps8
  go_upto_region 2 with fail
  rw [← unhide HW0]
  by_cases h4 : s.size < 4
  · obtain ⟨rfl, rfl, rfl⟩ := unhide HNO (unhide HSH (.inl h4))
    have h4i : (s.size : Int) < 4 := by omega
    go_wp2_with fail
    first
      | refine bodyPost_ret (v := .tuple #[.agg #[.int .i64 0, .slice none 0 0], .int .i64 1]) (by simp [results, Tryd.results8, go_sem, x0, x1]) rfl ⟨none, ⟨0, rfl⟩, .inl rfl, ?_⟩
      | refine bodyPost_ret (v := .tuple #[.agg #[.int .i64 0, .slice none 0 0], .int .i64 1]) (by simp [results, Tryd.results8, go_sem, x0, x1]) rfl ⟨none, 0, rfl, .inl rfl, ?_⟩
    exact ((unhide HB0).setCell (p := ⟨w.heap.size, 0, none⟩) (Nat.le_refl _) _).setCell (p := ⟨w.heap.size, 1, none⟩) (Nat.le_refl _) _
  · have h4i : ¬ (s.size : Int) < 4 := by omega
    have e2 : (s.extract 0 2).data.toList = s.data.toList.take 2 := by rw [extr_list]; simp
    have z2 : (s.extract 0 2).size = 2 := by rw [ByteArray.size_extract]; omega
    have N1 := hide (fun w' => rdigits_any (s.extract 0 2) 2 2 (by unfold maxLen; omega) w')
    have hdg : digitsB (s.extract 0 2) 2 2 = (s.data.toList.take 2).all isDig := by
      rw [digitsB, digB_all, inB_true.2 (by omega), Bool.and_true, allDig, e2]
    rw [hdg] at N1
    have HZ2 := hide z2; have HE2 := hide e2
    clear hdg z2 e2
    cases hd : (s.data.toList.take 2).all isDig with
    | false =>
      obtain ⟨rfl, rfl, rfl⟩ := unhide HNO (unhide HSH (.inr hd))
      rw [hd] at N1
      go_wp2_with fail
      refine (unhide N1 _).mono ?_
      rintro e w1 ⟨rfl, hw1⟩
      subst hw1
      go_wp2_with fail
      first
        | refine bodyPost_ret (v := .tuple #[.agg #[.int .i64 0, .slice none 0 0], .int .i64 1]) (by simp [results, Tryd.results8, go_sem, x0, x1]) rfl ⟨none, ⟨0, rfl⟩, .inl rfl, ?_⟩
        | refine bodyPost_ret (v := .tuple #[.agg #[.int .i64 0, .slice none 0 0], .int .i64 1]) (by simp [results, Tryd.results8, go_sem, x0, x1]) rfl ⟨none, 0, rfl, .inl rfl, ?_⟩
      exact ((unhide HB0).setCell (p := ⟨w.heap.size, 0, none⟩) (Nat.le_refl _) _).setCell (p := ⟨w.heap.size, 1, none⟩) (Nat.le_refl _) _
    | true =>
      have hUR := unhide HRD (by rw [hd]; simp; omega)
      rw [hd] at N1
      have hl2 : s.data.toList.take 2 = [s.data.toList.getD 0 0, s.data.toList.getD 1 0] := by
        have hL : 4 ≤ s.data.toList.length := by omega
        generalize s.data.toList = L at hL
        match L, hL with
        | a :: b :: r, _ => rfl
      have hdd := hd
      rw [hl2] at hdd
      simp only [List.all_cons, List.all_nil, Bool.and_true, Bool.and_eq_true, isDig_iff] at hdd
      have hvd : valD (s.data.toList.take 2) = 10 * (byteAt s 0 - 48) + (byteAt s 1 - 48) := by rw [hl2]; simp [valD, byteAt]
      have hb0 := fun h => get_byte s 0 h
      have hb1 := fun h => get_byte s 1 h
      have hc0 : 48 ≤ byteAt s 0 ∧ byteAt s 0 ≤ 57 := hdd.1
      have hc1 : 48 ≤ byteAt s 1 ∧ byteAt s 1 ≤ 57 := hdd.2
      generalize byteAt s 0 = c0 at *
      generalize byteAt s 1 = c1 at *
      obtain ⟨d0, rfl⟩ : ∃ d0, c0 = d0 + 48 := ⟨c0 - 48, by omega⟩
      obtain ⟨d1, rfl⟩ : ∃ d1, c1 = d1 + 48 := ⟨c1 - 48, by omega⟩
      have hw0 : IntKind.u8.wrap (((d0 + 48 : Nat) : Int) - 48) = (d0 : Int) := by rw [show ((d0 + 48 : Nat) : Int) - 48 = (d0 : Int) by omega]; exact wraps_u8 _ (by omega) (by omega)
      have hw1 : IntKind.u8.wrap (((d1 + 48 : Nat) : Int) - 48) = (d1 : Int) := by rw [show ((d1 + 48 : Nat) : Int) - 48 = (d1 : Int) by omega]; exact wraps_u8 _ (by omega) (by omega)
      have hd0 : (d0 : Int) ≤ 9 := by omega
      have hd1 : (d1 : Int) ≤ 9 := by omega
      rw [hvd] at hUR
      obtain ⟨kd, hkd⟩ : ∃ kd : Int, kd = (((10 * (d0 + 48 - 48) + (d1 + 48 - 48) : Nat)) : Int) := ⟨_, rfl⟩
      rw [← hkd] at hUR
      have HKD : Hid (kd = (d0 : Int) * 10 + (d1 : Int)) := hide (by omega)
      have HUR := hide hUR
      clear hUR hdd hl2 hvd hc0 hc1 hkd
      go_wp2_with fail
      refine (unhide N1 _).mono ?_
      rintro e w1 ⟨rfl, hw1⟩
      subst hw1
      go_upto_region 4 with fail
      go_region
      rw [← unhide HKD]
      obtain ⟨W2, hW2⟩ : ∃ W2, W2 = (w1.alloc (.cells #[.int .i64 kd, .slice none 0 0] 24)).drew := ⟨_, rfl⟩
      rw [← hW2]
      have hB12 : Below w1.heap.size w1 W2 := by rw [hW2]; exact ((Below.refl _ _).alloc (Nat.le_refl _) _).drew
      have hB2 : Below w.heap.size w W2 := (unhide HB0).trans (hB12.mono (unhide HB0).size)
      have hS2 : W2.heap.size = w1.heap.size + 1 := by rw [hW2]; simp
      have hM2 : W2.heap[w1.heap.size]? = some (.cells #[.int .i64 kd, .slice none 0 0] 24 (0, 0)) := by rw [hW2]; exact heap_alloc_new _ _
      have hS0 := unhide HS0
      have hN2 : NoneAt w W2 := (unhide HN0).kept hB12 (by omega)
      obtain ⟨mb, hmb⟩ : ∃ mb, mb = w1.heap.size := ⟨_, rfl⟩
      obtain ⟨base, hbase⟩ : ∃ base, base = W2.heap.size := ⟨_, rfl⟩
      have hmw : w.heap.size + 2 ≤ mb := by omega
      have hmbb : mb < base := by omega
      have e24 : (s.extract 2 4).data.toList = (s.data.toList.drop 2).take 2 := by rw [extr_list]
      have e4 : (s.extract 4 s.size).data.toList = s.data.toList.drop 4 := by rw [extr_list, List.take_of_length_le (by rw [List.length_drop]; omega)]
      have z24 : (s.extract 2 4).size = 2 := by rw [ByteArray.size_extract]; omega
      have z4 : (s.extract 4 s.size).size ≤ 9223372036854775807 := by rw [ByteArray.size_extract]; omega
      have hTl : valN (s.extract 2 4).data.toList < 65536 := by
        have := valN_lt (s.extract 2 4).data.toList
        rw [len_list, z24] at this
        exact this
      have N2 := hide (fun w' => value_any (s.extract 2 4) w' (by omega) (by omega))
      have hUR := unhide HUR
      have hVB : valN (s.extract 2 4).data.toList = bitsL ((s.data.toList.drop 2).take 2) := by rw [e24]; rfl
      rw [← hVB] at hUR
      rw [← e4] at hUR
      generalize valN (s.extract 2 4).data.toList = T at *
      obtain ⟨L, hL⟩ : ∃ L, L = readR 16 1 T (s.extract 4 s.size).data.toList := ⟨_, rfl⟩
      rw [← hL] at hUR
      have hI0 : RUInv w mb base kd T L (.int .i64 1) (.string (s.extract 4 s.size)) W2 :=
        ⟨1, [], .slice none 0 0, s.extract 4 s.size, by omega, by omega, rfl, rfl, z4, ⟨by rw [hmb]; exact hM2, World.ownsRow_nil _ _ _ _, hmbb⟩, by simp, by rw [hL]; simp, hB2, by omega, hN2, fun p hp => by cases hp⟩
      have HI0 := hide hI0
      have hTi : (T : Int) < 65536 := by omega
      have HUR2 := hide hUR
      rw [← hmb]
      obtain ⟨i0, hi0, hz0, hz1, hz2⟩ := info_partsY infoPart
      have HI := hide hi0; have Z0 := hide hz0; have Z1 := hide hz1; have Z2 := hide hz2
      clear hUR HUR hW2 hB12 hB2 hS2 hM2 hS0 hN2 hmb hbase e24 e4 z24 z4 hTl hVB hL hI0 hi0 hz0 hz1 hz2 HKD hd0 hd1 hw0 hw1 hb0 hb1 N1 x0 x1 y0 y1 f0 f1 HB0 HN0 HS0 HW0
      go_wp2_with fail
      refine (unhide N2 _).mono ?_
      rintro e w2 ⟨rfl, hw2⟩
      subst hw2
      clear N2
      go_wp2_with fail
      go_loopw [8, 7] (fun nv rv wx => RUInv w mb base kd T L nv rv wx) (fun nv _ _ => 17 - (intOf nv).toNat)
      case atStart => exact unhide HI0
      case round =>
        obtain ⟨n, l, v, rest, hn1, hn17, rfl, rfl, hrz, hm5, hln, hl5, hb5, hbs, hx5, hp⟩ := hrel
        clear HI0
        obtain ⟨x0, x1, y0, y1, f0, f1⟩ := hx5.cells
        by_cases hn : n ≤ 16
        · have hni : (n : Int) ≤ 16 := by omega
          have hf : 17 - n = (16 - n) + 1 := by omega
          rw [hf] at hl5
          simp only [readR] at hl5
          obtain ⟨x, hx⟩ : ∃ x, x = T / 2 ^ (16 - n) := ⟨_, rfl⟩
          have hxi : (T : Int) / 2 ^ (16 - n) = (x : Int) := by rw [hx, Int.natCast_ediv, Int.natCast_pow]; rfl
          rw [← hx] at hl5
          by_cases hbt : x % 2 = 1
          · rw [if_pos hbt] at hl5
            have hx2 : (x : Int) % 2 = 1 := by omega
            have hx3 : (x : Int).tmod 2 = 1 := by rw [Int.tmod_eq_emod_of_nonneg (by omega)]; omega
            have NF := hide (fun w' => rfield_any n hn1 hn w')
            have HM5 := hide hm5; have HL5 := hide hl5; have HB5 := hide hb5; have HX5 := hide hx5; have HP := hide hp
            clear hm5 hl5 hb5 hx5 hp hx hbt hf
            go_wp2_with fail
            refine (unhide NF _).mono ?_
            rintro e v1 ⟨rfl, hv1⟩
            have hs1 := hv1.size
            have hwl : w.heap.size + 1 < wr.heap.size := by omega
            have hx51 : NoneAt w v1 := (unhide HX5).kept hv1 hwl
            obtain ⟨x0, x1, y0, y1, f0, f1⟩ := hx51.cells
            have HB51 := hide ((unhide HB5).trans (hv1.mono (unhide HB5).size))
            have hfm := fmost_le n hn1 hn
            have hfa4 := hfm.2
            have hfo9 := hfm.1
            have hP1 := partR_none1 (n := n) (l := rest.data.toList)
            have hP2 := partR_none2 (n := n) (l := rest.data.toList)
            have hP3 := partR_some (n := n) (l := rest.data.toList)
            have hPK : pkL n rest.data.toList = if 0 < fahead n then valD (rest.data.toList.take (fahead n)) else fmost n := rfl
            rw [len_list] at hP1 hP2 hP3
            generalize pkL n rest.data.toList = pk at *
            generalize fahead n = a at *
            generalize fmost n = m at *
            generalize fdig n = dg at *
            have HP1 := hide hP1; have HP2 := hide hP2; have HP3 := hide hP3; have HPK0 := hide hPK
            clear hP1 hP2 hP3 hPK hfm
            have hfa : (a : Int) ≤ 4 := by omega
            have hfo : (m : Int) ≤ 9999 := by omega
            have hrzi : (rest.size : Int) ≤ 9223372036854775807 := by omega
            have HV1 := hide hv1
            have hrl := len_list rest
            have HRZ := hide hrz
            clear hrz
            have HNON : Hid (partR n rest.data.toList = none → uR = none) := hide (fun h => by
              have h2 := unhide HL5
              rw [h] at h2
              rw [unhide HUR2, ← h2]; rfl)
            clear hv1 hx51 NF hTi
            go_upto_if 59 with fail
            go_cut [11, 12] from 42 to 109 (fun kv _ wx => kv = .int .i64 (pk : Int) ∧ wx = v1 ∧ (0 < a → ¬ (rest.size < a ∨ (rest.data.toList.take a).all isDig = false)))
            case first =>
              by_cases h0 : 0 < a
              · have h0i : (0 : Int) < (a : Int) := by omega
                have hbad := unhide HP1 h0
                by_cases hsh : rest.size < a
                · obtain ⟨rfl, rfl, rfl⟩ := unhide HNO (unhide HNON (hbad (.inl hsh)))
                  have hshi : (rest.size : Int) < (a : Int) := by omega
                  clear hbad
                  go_wp2_with fail
                  first
                    | refine bodyPost_ret (v := .tuple #[.agg #[.int .i64 0, .slice none 0 0], .int .i64 1]) (by simp [results, Tryd.results8, go_sem, x0, x1]) rfl ⟨none, ⟨0, rfl⟩, .inl rfl, ?_⟩
                    | refine bodyPost_ret (v := .tuple #[.agg #[.int .i64 0, .slice none 0 0], .int .i64 1]) (by simp [results, Tryd.results8, go_sem, x0, x1]) rfl ⟨none, 0, rfl, .inl rfl, ?_⟩
                  exact ((unhide HB51).setCell (p := ⟨w.heap.size, 0, none⟩) (Nat.le_refl _) _).setCell (p := ⟨w.heap.size, 1, none⟩) (Nat.le_refl _) _
                · have hshi : ¬ (rest.size : Int) < (a : Int) := by omega
                  have e2 : (rest.extract 0 a).data.toList = rest.data.toList.take a := by rw [extr_list]; simp
                  have z2 : (rest.extract 0 a).size = a := by rw [ByteArray.size_extract]; omega
                  have N1 := hide (fun w' => rdigits_any (rest.extract 0 a) 0 9 (by rw [z2]; unfold maxLen; omega) w')
                  have hdg : digitsB (rest.extract 0 a) 0 9 = (rest.data.toList.take a).all isDig := by
                    rw [digitsB, digB_all, inB_true.2 (by omega), Bool.and_true, allDig, e2]
                  rw [hdg] at N1
                  clear hdg z2 e2
                  cases hdd : (rest.data.toList.take a).all isDig with
                  | false =>
                    obtain ⟨rfl, rfl, rfl⟩ := unhide HNO (unhide HNON (hbad (.inr hdd)))
                    rw [hdd] at N1
                    clear hbad
                    go_wp2_with fail
                    refine (unhide N1 _).mono ?_
                    rintro e v2 ⟨rfl, hv2⟩
                    subst hv2
                    go_wp2_with fail
                    first
                      | refine bodyPost_ret (v := .tuple #[.agg #[.int .i64 0, .slice none 0 0], .int .i64 1]) (by simp [results, Tryd.results8, go_sem, x0, x1]) rfl ⟨none, ⟨0, rfl⟩, .inl rfl, ?_⟩
                      | refine bodyPost_ret (v := .tuple #[.agg #[.int .i64 0, .slice none 0 0], .int .i64 1]) (by simp [results, Tryd.results8, go_sem, x0, x1]) rfl ⟨none, 0, rfl, .inl rfl, ?_⟩
                    exact ((unhide HB51).setCell (p := ⟨w.heap.size, 0, none⟩) (Nat.le_refl _) _).setCell (p := ⟨w.heap.size, 1, none⟩) (Nat.le_refl _) _
                  | true =>
                    rw [hdd] at N1
                    clear hbad
                    go_wp2_with fail
                    refine (unhide N1 _).mono ?_
                    rintro e v2 ⟨rfl, hv2⟩
                    go_wp2_with fail
                    go_loopw [11, 12] (fun kv iv wx => ∃ i k : Nat, i ≤ a ∧ iv = .int .i64 (i : Int) ∧ kv = .int .i64 (k : Int) ∧ k = valD (rest.data.toList.take i) ∧ wx = v1) (fun _ iv _ => a - (intOf iv).toNat)
                    case atStart => exact ⟨0, 0, Nat.zero_le _, rfl, rfl, rfl, rfl⟩
                    case round =>
                      obtain ⟨i, k, hi, rfl, rfl, hk, hwv⟩ := hrel
                      by_cases hlt : i < a
                      · have hlti : (i : Int) < (a : Int) := by omega
                        have hir : i < rest.size := by omega
                        obtain ⟨b, hb⟩ : ∃ b, rest.data.toList[i]? = some b := ⟨_, List.getElem?_eq_getElem (by rw [hrl]; exact hir)⟩
                        have hbd : isDig b = true := by
                          have h1 : b ∈ rest.data.toList.take a := by
                            have : (rest.data.toList.take a)[i]? = some b := by rw [List.getElem?_take_of_lt hlt]; exact hb
                            exact List.mem_of_getElem? this
                          exact List.all_eq_true.1 hdd b h1
                        rw [isDig_iff] at hbd
                        have hbe : byteAt rest i = b.toNat := by unfold byteAt; rw [List.getD_eq_getElem?_getD, hb]; rfl
                        have hgb := fun h => get_byte rest i h
                        rw [hbe] at hgb
                        have hnext := valD_next _ _ _ hb
                        have hkl : k < 10000 := by
                          have h1 : (rest.data.toList.take i).all isDig = true := by
                            apply List.all_eq_true.2
                            intro c hc
                            refine List.all_eq_true.1 hdd c ?_
                            have e3 : rest.data.toList.take i = (rest.data.toList.take a).take i := by rw [List.take_take, Nat.min_eq_left hi]
                            rw [e3] at hc
                            exact List.mem_of_mem_take hc
                          have := valD_lt 4 (rest.data.toList.take i) (by rw [List.length_take]; omega) h1
                          rw [hk]; simpa using this
                        generalize b.toNat = bn at *
                        obtain ⟨d, rfl⟩ : ∃ d, bn = d + 48 := ⟨bn - 48, by omega⟩
                        have hwd : IntKind.u8.wrap (((d + 48 : Nat) : Int) - 48) = (d : Int) := by rw [show ((d + 48 : Nat) : Int) - 48 = (d : Int) by omega]; exact wraps_u8 _ (by omega) (by omega)
                        have hd9 : (d : Int) ≤ 9 := by omega
                        have hki : (k : Int) ≤ 9999 := by omega
                        have HNX : Hid (10 * k + d = valD (rest.data.toList.take (i + 1))) := hide (by rw [hnext, hk]; omega)
                        have HWV := hide hwv
                        clear hk hnext hb hbd hbe hwv
                        go_wp2_with fail
                        refine ⟨⟨i + 1, 10 * k + d, by omega, by go_num, by go_num, unhide HNX, unhide HWV⟩, ?_⟩
                        simp [intOf]; omega
                      · have hlti : ¬ (i : Int) < (a : Int) := by omega
                        have HPK : Hid (k = pk) := hide (by
                          rw [unhide HPK0, if_pos h0, hk, show i = a by omega])
                        have HWV := hide hwv
                        clear hk hwv
                        go_wp2_with fail
                        go_meet
                        exact ⟨by rw [unhide HPK], unhide HWV, fun _ => by rw [hdd]; simp; omega⟩
              · have h0i : ¬ (0 : Int) < (a : Int) := by omega
                have HPK : Hid (m = pk) := hide (by rw [unhide HPK0, if_neg h0])
                go_wp2_with fail
                go_meet
                exact ⟨by rw [unhide HPK], rfl, fun h => absurd h h0⟩
            case rest =>
            obtain ⟨rfl, hwc, hok⟩ := hcut
            subst hwc
            have hkb : pk ≤ 9999 := by
              rw [unhide HPK0]
              split
              · rename_i h0
                have h1 := hok h0
                have h2 : (rest.data.toList.take a).all isDig = true := by
                  cases hx : (rest.data.toList.take a).all isDig with
                  | true => rfl
                  | false => exact absurd (.inr hx) h1
                have := valD_lt 4 _ (by rw [List.length_take]; omega) h2
                omega
              · exact hfo9
            have hpki : (pk : Int) ≤ 9999 := by omega
            by_cases hfit : rest.size < a + pk
            · obtain ⟨rfl, rfl, rfl⟩ := unhide HNO (unhide HNON (unhide HP2 hok hfit))
              have hfi : (rest.size : Int) < (a : Int) + (pk : Int) := by omega
              clear hfo9
              go_wp2_with fail
              first
                | refine bodyPost_ret (v := .tuple #[.agg #[.int .i64 0, .slice none 0 0], .int .i64 1]) (by simp [results, Tryd.results8, go_sem, x0, x1]) rfl ⟨none, ⟨0, rfl⟩, .inl rfl, ?_⟩
                | refine bodyPost_ret (v := .tuple #[.agg #[.int .i64 0, .slice none 0 0], .int .i64 1]) (by simp [results, Tryd.results8, go_sem, x0, x1]) rfl ⟨none, 0, rfl, .inl rfl, ?_⟩
              exact ((unhide HB51).setCell (p := ⟨w.heap.size, 0, none⟩) (Nat.le_refl _) _).setCell (p := ⟨w.heap.size, 1, none⟩) (Nat.le_refl _) _
            · have hfi : ¬ (rest.size : Int) < (a : Int) + (pk : Int) := by omega
              obtain ⟨z, hz⟩ : ∃ z, z = a + pk := ⟨_, rfl⟩
              have hsome := unhide HP3 hok hfit
              obtain ⟨tx, htx⟩ : ∃ tx, tx = rest.extract a z := ⟨_, rfl⟩
              obtain ⟨rx, hrx⟩ : ∃ rx, rx = rest.extract z rest.size := ⟨_, rfl⟩
              have htl : tx.data.toList = (rest.data.toList.drop a).take pk := by rw [htx, extr_list, hz, Nat.add_sub_cancel_left]
              have hrl2 : rx.data.toList = rest.data.toList.drop (a + pk) := by rw [hrx, extr_list, hz, List.take_of_length_le (by rw [List.length_drop, hrl]; omega)]
              have hl6 : (readR (16 - n) (n + 1) T rx.data.toList).map (l ++ [((n : Int), tx)] ++ ·) = L := by
                have h2 := unhide HL5
                rw [hsome] at h2
                simp only at h2
                rw [hrl2, ← h2, ← htl]
                cases readR (16 - n) (n + 1) T (rest.data.toList.drop (a + pk)) with
                | none => rfl
                | some r => simp
              have htz : tx.size ≤ 9223372036854775807 := by rw [htx, ByteArray.size_extract]; have := unhide HRZ; omega
              have hrz2 : rx.size ≤ 9223372036854775807 := by rw [hrx, ByteArray.size_extract]; have := unhide HRZ; omega
              have hmlt : mb < wr.heap.size := by omega
              have c1 : wc.cell? ⟨mb, 1, none⟩ = some v := ((unhide HV1).cell (p := ⟨mb, 1, none⟩) hmlt).trans ((cell_of_row _ _ 1 _ _ _ (unhide HM5).blk).trans rfl)
              have hmlt2 : mb < wc.heap.size := by omega
              have hm1 : MsgAt wc mb base kd v l := (unhide HM5).kept ((unhide HV1).block mb hmlt) (fun q hq => (unhide HV1).block q ((unhide HM5).block q hq).2)
              have HM1 := hide hm1; have HL6 := hide hl6; have HTZ := hide htz; have HRZ2 := hide hrz2; have HTX := hide htx; have HRX := hide hrx
              have hl16 : l.length ≤ 16 := by omega
              have hwk : IntKind.i64.wrap ((a : Int) + (pk : Int)) = (z : Int) := by rw [show (a : Int) + (pk : Int) = (z : Int) by omega]; exact wraps_i64 _ (by omega) (by omega)
              have hfi2 : decide ((rest.size : Int) < (z : Int)) = false := decide_eq_false (by omega)
              have hfit2 : z ≤ rest.size := by omega
              have hfit3 : a ≤ z := by omega
              clear hfi hz hfit
              clear htx hrx htl hrl2 hl6 htz hrz2 hm1 hsome hfo9 hkb hok HP1 HP2 HP3 HPK0 HNON
              go_upto_region 22 with fail
              go_region_law ((first
                | (refine step_append_lies (wc.drew.alloc (.cells #[.int .i64 (n : Int), .string (rest.extract a z)] 45)) (by rfl) _ _ _ (by rfl) base 45 i0 (.agg #[.int .i64 0, .string ⟨#[]⟩]) 2 24 Tryd.underlying22 (unhide HI) (unhide Z0) (unhide Z1) (unhide Z2) rfl (by decide) v l.length (cellsPt l) (by rfl) ((unhide HM1).own.drew.alloc _) ⟨wc.heap.size, 0, none⟩ 1 1 [.int .i64 (n : Int), .string (rest.extract a z)] (by rfl) (by rfl) (World.news_of_block (heap_alloc_new _ _)) (by simp [Value.oneCell']) (by decide) (by unfold maxLen; omega) (by omega) (by simp; omega) (wc.heap.size + 1) (by simp) ?_; intro g cap3 w3' own3 hgrow3 hat3 hlt3; have hb3 : w3'.heap[mb]? = some (.cells #[.int .i64 kd, v] 24 (0, 0)) := ((hgrow3.block mb (by simp; omega) (fun e' => by have := ((unhide HM1).block mb e'.symm).1; have := (unhide HM1).lt; omega)).trans (Below.heap_alloc _ _ _ hmlt2)).trans (unhide HM1).blk; have k1 : w3'.cell? ⟨mb, 1, none⟩ = some v := (cell_of_row _ _ 1 _ _ _ hb3).trans rfl; have kf : w3'.frozen? ⟨mb, 1, none⟩ = false := frozen_of_row _ _ 1 _ _ hb3; have HO3 := hide own3; have HG3 := hide hgrow3; have HB3 := hide hb3; clear own3 hgrow3 hat3 hb3)))
              all_goals
                go_wp2_with fail
                refine ⟨rmsg_more hmw hbs hn1 hn hln (unhide HB5) (unhide HX5) ((unhide HV1).drew) (unhide HRZ2) (by have := unhide HTZ; rw [unhide HTX] at this; exact this) (unhide HM5) (unhide HG3) (unhide HO3) (unhide HB3) (by have := unhide HL6; rw [unhide HTX] at this; exact this) (unhide HP) _ _ (by go_num) (by rw [unhide HRX]), ?_⟩
                simp [intOf]; omega
          · rw [if_neg hbt] at hl5
            have hx2 : (x : Int) % 2 = 0 := by omega
            have hx3 : (x : Int).tmod 2 = 0 := by rw [Int.tmod_eq_emod_of_nonneg (by omega)]; omega
            have HM5 := hide hm5; have HL5 := hide hl5; have HB5 := hide hb5; have HX5 := hide hx5; have HP := hide hp
            clear hm5 hl5 hb5 hx5 hp hx hbt hf
            go_wp2_with fail
            refine ⟨⟨n + 1, l, v, rest, by omega, by omega, by go_num, rfl, hrz, unhide HM5, by omega, by rw [show 17 - (n + 1) = 16 - n by omega]; exact unhide HL5, unhide HB5, hbs, unhide HX5, unhide HP⟩, ?_⟩
            simp [intOf]; omega
        · have hni : ¬ (n : Int) ≤ 16 := by omega
          have hn17' : n = 17 := by omega
          subst hn17'
          have hLl : L = some l := by rw [← hl5]; simp [readR]
          obtain ⟨pa, c, rfl, hrow⟩ := PRow.of_own hm5.own
          have c0 : wr.cell? ⟨mb, 0, none⟩ = some (.int .i64 kd) := (cell_of_row _ _ 0 _ _ _ hm5.blk).trans rfl
          have c1 : wr.cell? ⟨mb, 1, none⟩ = some (.slice pa l.length c) := (cell_of_row _ _ 1 _ _ _ hm5.blk).trans rfl
          have NP := hide (rpack_any kd l pa c wr hrow (by omega) hp)
          have hUR := unhide HUR2
          rw [hLl] at hUR
          obtain ⟨pe, hpe⟩ : ∃ pe, pe = packE kd l := ⟨_, rfl⟩
          obtain ⟨ps, hps⟩ : ∃ ps, ps = packS kd l := ⟨_, rfl⟩
          rw [← hpe, ← hps] at NP
          have hY : pe = 0 → ps = s → uR = some (kd, l) := fun h1 h2 => by
            rw [hUR]; simp only [Option.map, Option.filter]; rw [if_pos]; exact decide_eq_true ⟨by rw [← hpe]; exact h1, by rw [← hps]; exact h2⟩
          have hN : ¬ (pe = 0 ∧ ps = s) → uR = none := fun h1 => by
            rw [hUR]; simp only [Option.map, Option.filter]; rw [if_neg]; intro hd; have := of_decide_eq_true hd; rw [← hpe, ← hps] at this; exact h1 this
          have HY := hide hY; have HN := hide hN; have HRW := hide hrow; have HB5 := hide hb5; have HX5 := hide hx5; have HM5 := hide hm5
          have hwl : w.heap.size + 1 < wr.heap.size := by omega
          have hmlt : mb < wr.heap.size := by omega
          have hl17 : (l.length : Int) ≤ 17 := by omega
          clear hl5 hUR hpe hps hY hN hrow hb5 hx5 hm5 hLl hp hTi hrz x0 x1 y0 y1 f0 f1
          go_wp2_with fail
          refine (unhide NP).mono ?_
          rintro e v1 ⟨rfl, hv1⟩
          obtain ⟨x0, x1, y0, y1, f0, f1⟩ := ((unhide HX5).kept hv1 hwl).cells
          have g0 : v1.cell? ⟨mb, 0, none⟩ = some (.int .i64 kd) := (hv1.cell (p := ⟨mb, 0, none⟩) hmlt).trans c0
          have g1 : v1.cell? ⟨mb, 1, none⟩ = some (.slice pa l.length c) := (hv1.cell (p := ⟨mb, 1, none⟩) hmlt).trans c1
          have HB51 := hide ((unhide HB5).trans (hv1.mono (unhide HB5).size))
          have hxx := ((unhide HX5).kept hv1 hwl).1
          have HRW1 := hide (((unhide HRW).below hv1 (Nat.le_refl _)).setX hxx 0 1 (.int .i64 kd) (.slice pa l.length c))
          clear hv1 hxx c0 c1
          by_cases h0 : pe = 0
          · subst h0
            by_cases h1 : ps = s
            · subst h1
              obtain ⟨rfl, rfl, rfl⟩ := unhide HYES _ _ (unhide HY rfl rfl)
              go_wp2_with fail
              first
                | refine bodyPost_ret (v := .tuple #[.agg #[.int .i64 uK, .slice pa uL.length c], .int .i64 0]) (by simp [results, Tryd.results8, go_sem, x0, x1]) rfl ⟨pa, ⟨c, rfl⟩, unhide HRW1, ?_⟩
                | refine bodyPost_ret (v := .tuple #[.agg #[.int .i64 uK, .slice pa uL.length c], .int .i64 0]) (by simp [results, Tryd.results8, go_sem, x0, x1]) rfl ⟨pa, c, rfl, unhide HRW1, ?_⟩
              exact ((unhide HB51).setCell (p := ⟨w.heap.size, 0, none⟩) (Nat.le_refl _) _).setCell (p := ⟨w.heap.size, 1, none⟩) (Nat.le_refl _) _
            · obtain ⟨rfl, rfl, rfl⟩ := unhide HNO (unhide HN (fun h => h1 h.2))
              have hne : (ps.toList == s.toList) = false := by
                rw [beq_eq_false_iff_ne, Lib.toList_data, Lib.toList_data]
                exact fun h => h1 (ByteArray.ext (Array.toList_inj.1 h))
              go_wp2_with fail
              first
                | refine bodyPost_ret (v := .tuple #[.agg #[.int .i64 0, .slice none 0 0], .int .i64 1]) (by simp [results, Tryd.results8, go_sem, x0, x1]) rfl ⟨none, ⟨0, rfl⟩, .inl rfl, ?_⟩
                | refine bodyPost_ret (v := .tuple #[.agg #[.int .i64 0, .slice none 0 0], .int .i64 1]) (by simp [results, Tryd.results8, go_sem, x0, x1]) rfl ⟨none, 0, rfl, .inl rfl, ?_⟩
              exact ((unhide HB51).setCell (p := ⟨w.heap.size, 0, none⟩) (Nat.le_refl _) _).setCell (p := ⟨w.heap.size, 1, none⟩) (Nat.le_refl _) _
          · obtain ⟨rfl, rfl, rfl⟩ := unhide HNO (unhide HN (fun h => h0 h.1))
            go_wp2_with fail
            first
              | refine bodyPost_ret (v := .tuple #[.agg #[.int .i64 0, .slice none 0 0], .int .i64 1]) (by simp [results, Tryd.results8, go_sem, x0, x1]) rfl ⟨none, ⟨0, rfl⟩, .inl rfl, ?_⟩
              | refine bodyPost_ret (v := .tuple #[.agg #[.int .i64 0, .slice none 0 0], .int .i64 1]) (by simp [results, Tryd.results8, go_sem, x0, x1]) rfl ⟨none, 0, rfl, .inl rfl, ?_⟩
            exact ((unhide HB51).setCell (p := ⟨w.heap.size, 0, none⟩) (Nat.le_refl _) _).setCell (p := ⟨w.heap.size, 1, none⟩) (Nat.le_refl _) _
end Go.Proofs.YtkmmgeoialdmlaaDoor
