/- Division of the big numbers, by a number of three words or more: the walk up to the loop. (Made by wip/drafts/genKn.py.) -/
import Derived.Test.YtckkhpegimkefaaGreatDoorM25
namespace Go.Proofs.YtckkhpegimkefaaGreatDoor
open Go.RowKit
set_option linter.unusedVariables false
set_option linter.unusedSimpArgs false
set_option maxRecDepth 1000000

theorem addr_addK (g o j : Nat) : Addr.add ⟨g, o, none⟩ j = ⟨g, o + j, none⟩ := by
  by_cases h : j = 0
  · subst h; simp [Addr.add]
  · simp [Addr.add, h]
set_option maxHeartbeats 8000000 in
theorem div_less (a b : Nat) (va vb : Value) (w : World) (ha : BigV w va a) (hb : BigV w vb b) (hla : a < B32 ^ 10000) (hlb : b < B32 ^ 10000) (hab : a < b) :
    Calls Tryz.prog 131 #[va, vb] w fun e w' => (∃ q t, e = .returned (.tuple #[q, t]) ∧ BigV w' q (a / b) ∧ BigV w' t (a % b)) ∧ Below w.heap.size w w' := by
  have N0 := hide (cmp_any a b va vb w ha hb hla hlb)
  have N1 := hide (fun w' (k : Below w.heap.size w w') => twin_any a va w' (ha.below k) hla)
  have hol := ordI_lt hab
  have hq : a / b = 0 := Nat.div_eq_of_lt hab
  have hm : a % b = a := Nat.mod_eq_of_lt hab
  rw [hq, hm]
  have hdl : 0 < (dig b).length := by
    rw [dig_pos (by omega)]; simp
  obtain ⟨x1, x2, x3, hx⟩ := slice_of ha
  obtain ⟨bo, cb, hvb, _⟩ := hb
  subst hx hvb
  have hl0 : (((dig b).length : Int) == 0) = false := by rw [beq_eq_false_iff_ne]; omega
  generalize (dig b).length = lb at *
  generalize ordI a b = od at *
  clear ha hla hlb hab hq hm hdl
  go_enter Tryz.func131, Tryz.ntmps131
  go_wp2_with fail
  refine (unhide N0).mono ?_
  rintro e w1 ⟨rfl, k1⟩
  go_wp2_with fail
  refine (unhide N1 _ k1).mono ?_
  rintro e w2 ⟨⟨v2, rfl, h2⟩, k2⟩
  have HV := hide h2; have HK := hide (ext_callB k1 k2)
  clear h2 k1 k2
  go_wp2
  go_ret2
  exact ⟨⟨_, _, rfl, bigv_nil _ _ rfl, unhide HV⟩, unhide HK⟩
set_option maxHeartbeats 8000000 in
theorem div_big (a b : Nat) (va vb : Value) (w : World) (ha : BigV w va a) (hb : BigV w vb b) (hla : a < B32 ^ 5000) (hb64 : 18446744073709551616 ≤ b) (hab : b ≤ a) :
    Calls Tryz.prog 131 #[va, vb] w fun e w' => (∃ q t, e = .returned (.tuple #[q, t]) ∧ BigV w' q (a / b) ∧ BigV w' t (a % b)) ∧ Below w.heap.size w w' := by
  have hla2 : a < B32 ^ 10000 := lt_upK hla 10000 (by decide)
  have hlb2 : b < B32 ^ 10000 := Nat.lt_of_le_of_lt hab hla2
  have N0 := hide (cmp_any a b va vb w ha hb hla2 hlb2)
  have N1 := hide (fun w' (k : Below w.heap.size w w') => blength_any b vb w' (hb.below k) hlb2)
  have hge := ordI_ge hab
  have hb3 : 3 ≤ (dig b).length := by
    rcases Nat.lt_or_ge (dig b).length 3 with h' | h'
    · have h1 := lt_dig b
      have h2 : B32 ^ (dig b).length ≤ B32 ^ 2 := Nat.pow_le_pow_right B32_pos (by omega)
      have h3 : B32 ^ 2 = 18446744073709551616 := by decide
      omega
    · exact h'
  have hal : (dig b).length ≤ (dig a).length := by
    rcases Nat.lt_or_ge (dig a).length (dig b).length with h' | h'
    · exfalso
      obtain ⟨k, hk⟩ : ∃ k, (dig b).length = k + 1 := ⟨(dig b).length - 1, by omega⟩
      have h1 := dig_lowK hk
      have h2 := lt_dig a
      have h3 : B32 ^ (dig a).length ≤ B32 ^ k := Nat.pow_le_pow_right B32_pos (by omega)
      omega
    · exact h'
  have hal2 := dig_len 5000 a hla
  obtain ⟨n, hn⟩ : ∃ n, (dig b).length = n + 1 := ⟨(dig b).length - 1, by omega⟩
  have HSH := hide (fun L hL => shift_of (b := b) (n := n) (L := L) hn hL)
  have HLB := hide (fun L (hL : IsLen b L) => isLen_leK hL (by omega) hlb2 (by decide : 32 * 10000 ≤ 400000))
  have HA := hide ha; have HBV := hide hb
  obtain ⟨ao, ca, hva, hra⟩ := ha
  obtain ⟨bo, cb, hvb, hrb⟩ := hb
  have HRA := hide hra; have HRB := hide hrb
  rw [hn] at hvb
  subst hva hvb
  obtain ⟨la, hlae⟩ : ∃ la, la = (dig a).length := ⟨_, rfl⟩
  rw [← hlae] at hal hal2 N0 HA ⊢
  rw [hn] at hal hb3
  rw [← hn] at N0
  have z1 : (((n + 1 : Nat) : Int) == 0) = false := by rw [beq_eq_false_iff_ne]; omega
  have z2 : ¬ (la : Int) ≤ 2 := by omega
  have z3 : (((n + 1 : Nat) : Int) == 1) = false := by rw [beq_eq_false_iff_ne]; omega
  have HN := hide hn; have HLA := hide hlae; have HL := hide (And.intro hb3 (And.intro hal hal2)); have HBIG := hide (And.intro hla2 (And.intro hb64 hab))
  rw [hn] at N0
  generalize ordI a b = od at *
  clear hla hla2 hlb2 hb3 hal hal2 hb64 hab hra hrb hn hlae
  go_enter Tryz.func131, Tryz.ntmps131
  go_wp2_with fail
  refine (unhide N0).mono ?_
  rintro e w1 ⟨rfl, k1⟩
  go_wp2_with fail
  refine (unhide N1 _ k1).mono ?_
  rintro e w2 ⟨⟨L, rfl, hL⟩, hw2⟩
  have hw3 := hw2.symm
  subst hw3
  clear hw2
  obtain ⟨L1, r, s, sL, sr, ss, s32, r32, hVlt, hVge⟩ := unhide HSH L hL
  have N2 := hide (leftK_rows (dig b) s s32 bo cb w1 ((unhide HRB).below k1) (okV_dig b) (by have := unhide HL; have := unhide HN; omega))
  rw [unhide HN] at N2
  obtain ⟨y1, y2, y3, y4, y5, y6, y7⟩ := shift_nums sL sr ss (unhide HLB L hL)
  have HK1 := hide k1
  have HS := hide (And.intro hVlt (And.intro hVge s32))
  clear k1 sL sr ss r32 hVlt hVge hL N0 N1 HSH HLB
  go_wp2_with fail
  refine (unhide N2).mono ?_
  clear y1 y2 y3 y4 y5 y6 y7
  rintro e w3 ⟨⟨vv, rfl, hVv⟩, k3⟩
  rw [natV_dig] at hVv
  have hB3 := ext_callB (unhide HK1) k3
  obtain ⟨V, hV⟩ : ∃ V, V = b * 2 ^ s := ⟨_, rfl⟩
  rw [← hV] at hVv HS
  obtain ⟨hVlt, hVge, s32⟩ := unhide HS
  have hVn : (dig V).length = n + 1 := dig_of_len hVlt (by
    rw [Nat.pow_succ] at hVge
    have : B32 ^ n * 2 ≤ B32 ^ n * B32 := Nat.mul_le_mul_left _ (by decide)
    omega)
  obtain ⟨vo, capv, hvv, hrv⟩ := hVv
  rw [hVn] at hvv
  subst hvv
  obtain ⟨gv, ov, hvo⟩ : ∃ gv ov, vo = some ⟨gv, ov, none⟩ := by
    rcases hrv with h' | ⟨g, off, h', _⟩
    · rw [h'] at hVn; simp at hVn
    · exact ⟨g, off, h'⟩
  subst hvo
  have hgv : gv < w3.heap.size := by
    rcases hrv with h' | ⟨g, off, h', h2, _⟩
    · rw [h'] at hVn; simp at hVn
    · obtain ⟨rfl, rfl⟩ : gv = g ∧ ov = off := by simpa using h'
      exact h2
  obtain ⟨i0, hi, hz0, hz1, hz2⟩ := info_partsV infoU32
  obtain ⟨la2, hla2⟩ : ∃ la2, la2 = la + 2 := ⟨_, rfl⟩
  obtain ⟨q1, q2⟩ := two_more (unhide HL).2.2 hla2
  have m2 : i0.bytes * la2 ≤ 281474976710656 := make_le hz2 q2
  have m3 : la2 ≤ maxLen := len_max q2
  have HRV := hide hrv; have HB3 := hide hB3; have HV := hide (And.intro hV hVn); have HGV := hide hgv; have HLA2 := hide hla2; have HS32 := hide s32
  clear hrv hB3 hV hVn hgv k3 N2 hla2 hVlt hVge s32
  go_wp2_with (at_make; refine wpList_make_full _ rfl _ _ 99 rfl w3.heap.size 119 i0 (.int .u32 0) 1 Tryz.underlying99 hi hz0 hz1 .i64 .i64 _ _ la2 rfl rfl q1 q1 m2 m3 (Nat.le_refl _) ?_)
  clear q1
  intro w4 hown hgrow
  have hU := made_vrow hown
  have hb4 : Below w3.heap.size w3 w4 := (Below.refl _ _).grown hgrow (Nat.le_refl _) (fun q hq => by cases hq)
  clear hown hgrow
  have hB4 := ext_callB (unhide HB3) hb4
  have N3 := hide (leftK_rows (dig a) s (unhide HS32) ao ca w4 ((unhide HRA).below hB4) (okV_dig a) (by have := unhide HL; have := unhide HLA; omega))
  rw [← unhide HLA] at N3
  have HU := hide hU; have HB4 := hide hB4; have HRV4 := hide ((unhide HRV).below hb4); have HK4 := hide hb4
  obtain ⟨gu, hgu⟩ : ∃ gu, gu = w3.heap.size := ⟨_, rfl⟩
  rw [← hgu] at HU HGV
  rw [← hgu]
  have HGU := hide hgu
  obtain ⟨A, hA⟩ : ∃ A, A = a * 2 ^ s := ⟨_, rfl⟩
  obtain ⟨lA, hlA⟩ : ∃ lA, lA = (dig A).length := ⟨_, rfl⟩
  have HAD := hide (And.intro hA hlA)
  clear hU hb4 hB4 hgu HRV hA hlA
  go_upto_region 14 with fail
  go_cut [] (fun wx => VRow wx gu (dig A ++ List.replicate (la2 - lA) 0) ∧ WRow wx (some ⟨gv, ov, none⟩) (dig V) ∧ Below w.heap.size w wx ∧ gu < wx.heap.size ∧ lA ≤ la2 ∧ A < B32 ^ (la + 1))
  case rest =>
    obtain ⟨hU6, hV6, hB6, hg6, hle, hAlt⟩ := hcut
    obtain ⟨hA, hlA⟩ := unhide HAD
    obtain ⟨hV, hVn⟩ := unhide HV
    obtain ⟨hVlt, hVge, s32⟩ := unhide HS
    obtain ⟨hb3, hal, hal2⟩ := unhide HL
    have hla2 := unhide HLA2
    have hE : 0 < 2 ^ s := Nat.two_pow_pos _
    obtain ⟨m, hm⟩ : ∃ m, m + (n + 1) = la + 1 := ⟨la - n, by omega⟩
    have x1 : (dig A ++ List.replicate (la2 - lA) 0).length = la2 := by rw [List.length_append, List.length_replicate, ← hlA]; omega
    have x2 : natV (dig A ++ List.replicate (la2 - lA) 0) = A := by rw [natV_append, natV_zeros, Nat.mul_zero, Nat.add_zero, natV_dig]
    have x3 : A / V = a / b := by rw [hA, hV, Nat.mul_div_mul_right _ _ hE]
    have x4 : A % V / 2 ^ s = a % b := by rw [hA, hV, Nat.mul_mod_mul_right, Nat.mul_div_cancel _ hE]
    have x5 := first_low hAlt hVge hm
    have hgu9 := unhide HGV
    have hbb : w.heap.size ≤ gu := by rw [unhide HGU]; exact (unhide HB3).size
    apply_assumption
    exact knEnd a b A V s (n + 1) m gu gv ov capv la2 (dig A ++ List.replicate (la2 - lA) 0) w wc hU6 x1 (okV_append (okV_dig A) (okV_zeros _)) x2 hV6 hVn (by omega) (Nat.ne_of_lt hgu9) (Nat.lt_trans hgu9 hg6) hg6 hbb hVge (by omega) (by omega) x5 hB6 s32 x3 x4 _ _ _ _ _ _ _ _ _ _ _ _ _ _ _ _ _ _ _ _ _ _ _ _ _ _ _ _ _ _ _ _ _ _ _ _ _ _ _ _ _ _ _ _ _ _ _ _ _ _ _ _ _ _ _ _ _ _ _ _ _ _ _ _ _ _ _ _ _ _ _ _ _ _ _ _ _ _ _ _ _ _ _ _ _ _ _ _ _ _ _ _ _ _ _ _ _ _ _ _ _ _ _ _ _ _ _ _ _ _ _ _ _ _ _ _ _ _ _ _ _ _ _ _ _ _ _ _ _ _ _ _ _ _ _ _ _ _ _ _ _ _ _ _ _ _ _ _ _ _ _ _ _ _ _ _ _ _ _ _ _ _ _ _ _ _ _ _ _ _ _ _ _ _ _ _ _ _ _ _ _ _ _ _ _ _ _ _ _ _ _ _ _ _ _ _ _ _ _ _ _ _ _ _ _ _ _ _ _ _ _ _ _ _ _ _ _ _ _ _ _ _ _ _ _ _ _ _ _ _ _ _ _ _ _ _ _ _ _ _ _ _ _ _ _ _ _ _ _ _ _ _ _ _ _ _ _ _ _ _ _ _ _ _ _ _ _ _ _ _
  case first =>
  go_wp2_with fail
  refine (unhide N3).mono ?_
  rintro e w5 ⟨⟨vA, rfl, hAv⟩, k5⟩
  obtain ⟨hA, hlA⟩ := unhide HAD
  rw [natV_dig, ← hA] at hAv
  have hAlt : A < B32 ^ (la + 1) := by
    rw [hA]
    have h1 := lt_dig a
    rw [← unhide HLA] at h1
    have h2 : 2 ^ s < B32 := Nat.pow_lt_pow_right (a := 2) (by decide) (unhide HS32)
    have := Nat.mul_lt_mul'' h1 h2
    rwa [← Nat.pow_succ] at this
  have hAl := dig_len (la + 1) A hAlt
  obtain ⟨Ao, capA, hvA, hrA⟩ := hAv
  rw [← hlA] at hvA hAl
  subst hvA
  have hU5 := (unhide HU).below k5
  have hA0 : A ≠ 0 := by
    rw [hA]
    have h1 : 0 < 2 ^ s := Nat.two_pow_pos _
    have h2 := (unhide HBIG).2
    have : 0 < a * 2 ^ s := Nat.mul_pos (by omega) h1
    omega
  obtain ⟨gA, oA, hAo, hcA⟩ : ∃ gA oA, Ao = some ⟨gA, oA, none⟩ ∧ ∀ i x, (dig A)[i]? = some x → w5.cell? ⟨gA, oA + i, none⟩ = some (.int .u32 (x : Nat)) := by
    rcases hrA with h' | ⟨g, off, h', _, h2⟩
    · rw [dig_pos hA0] at h'; cases h'
    · exact ⟨g, off, h', h2⟩
  subst hAo
  obtain ⟨cs, hcs⟩ : ∃ cs : List Value, cs = (dig A).map fun x : Nat => Value.int .u32 (x : Int) := ⟨_, rfl⟩
  have hcl : cs.length = lA := by rw [hcs, hlA]; simp
  have hle : lA ≤ la2 := by have := unhide HLA2; omega
  have hmin : cs.length = Nat.min lA la2 := by rw [hcl]; exact (Nat.min_eq_left hle).symm
  have hsrc : ∀ j v, cs[j]? = some v → w5.cell? (Addr.add ⟨gA, oA, none⟩ j) = some v := fun j v hj => by
    rw [hcs, List.getElem?_map] at hj
    cases hx : (dig A)[j]? with
    | none => rw [hx] at hj; cases hj
    | some x => rw [hx] at hj; cases hj; rw [addr_addK]; exact hcA j x hx
  have hfit : 0 + cs.length ≤ (VCells (List.replicate la2 0)).size := by rw [hcl]; simp [VCells]; exact hle
  have hone : ∀ v ∈ cs, v.oneCell' = true := fun v hv => by
    rw [hcs] at hv
    obtain ⟨x, _, rfl⟩ := List.mem_map.1 hv
    rfl
  obtain ⟨W6, hW6⟩ : ∃ W6, W6 = w5.setRow gu ((VCells (List.replicate la2 0)).toList.take 0 ++ (cs ++ (VCells (List.replicate la2 0)).toList.drop (0 + cs.length))).toArray := ⟨_, rfl⟩
  have hU6 : VRow W6 gu (dig A ++ List.replicate (la2 - lA) 0) := by
    rw [hW6]
    unfold VRow
    rw [setRow_heap w5 gu _ _ _ _ hU5]
    congr 2
    unfold VCells
    rw [hcl, hcs]
    simp
  have hO6 : ∀ k, k ≠ gu → W6.heap[k]? = w5.heap[k]? := fun k hk => by rw [hW6]; exact setRow_other w5 gu k _ hk
  have hZ6 : W6.heap.size = w5.heap.size := by rw [hW6]; simp [World.setRow]
  have hB5 := ext_callB (unhide HB4) k5
  have hB6 : Below w.heap.size w W6 := by
    rw [hW6]
    exact below_setRow hB5 (by have := (unhide HB3).size; rw [unhide HGU]; exact this) _
  have hV6 : WRow W6 (some ⟨gv, ov, none⟩) (dig V) := by
    have h5 := (unhide HRV4).below k5
    rcases h5 with h' | ⟨g, off, h', h2, h3⟩
    · exact .inl h'
    · refine .inr ⟨g, off, h', by rw [hZ6]; exact h2, fun i x hi => ?_⟩
      have e := h3 i x hi
      unfold World.cell? at *
      obtain ⟨rfl, rfl⟩ : gv = g ∧ ov = off := by simpa using h'
      rw [hO6 gv (Nat.ne_of_lt (unhide HGV))]
      exact e
  have HW6 := hide hW6; have HU6 := hide hU6; have HB6 := hide hB6; have HV6 := hide hV6
  have HAA := hide (And.intro hA (And.intro hAlt (And.intro hlA hle)))
  have HU5 := hide hU5
  have HGW6 : Hid (gu < W6.heap.size) := hide hU6.lt
  have hsz1 : (Tryz.prog.info? 119).map (·.size) = some 1 := by rw [hi]; simp [hz1]
  have HCL := hide hcl
  clear hA hAlt hAl hA0 hcA hrA hcs hlA hle hU5 hU6 hO6 hZ6 hB5 hB6 hV6 hW6 k5 N3 HU HB3 HB4 HRV4 hi hz0 hz1 hz2
  go_wp2_with (refine wpList_copy_own rfl _ _ _ _ rfl 119 Tryz.underlying99 hsz1 gu 0 la2 la2 ⟨gA, oA, none⟩ lA capA rfl rfl (VCells (List.replicate la2 0)) 119 (unhide HU5) cs hmin hsrc hfit hone ?_)
  rw [← unhide HW6]
  go_meet
  exact ⟨unhide HU6, unhide HV6, unhide HB6, unhide HGW6, (unhide HAA).2.2.2, (unhide HAA).2.1⟩
end Go.Proofs.YtckkhpegimkefaaGreatDoor
