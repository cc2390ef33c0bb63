/- A book's store: an entry is laid. -/
import Derived.Test.YtbiipeapcclbkaaBkL
import Derived.Deep.RegionHeld3
namespace Go.Proofs.Ytbiipeapcclbkaa
open Go.RowKit Go.Shelf
set_option linter.unusedVariables false
set_option linter.unusedSimpArgs false
set_option maxRecDepth 100000

theorem toList_neB {x y : ByteArray} (h : ¬ x = y) : (x.toList == y.toList) = false := by
  rw [Lib.toList_data, Lib.toList_data]
  cases hb : (x.data.toList == y.data.toList) with
  | false => rfl
  | true =>
    refine absurd ?_ h
    exact ByteArray.ext (Array.toList_inj.1 (by simpa using hb))
section
variable {w w' : World} {B bb mb : Nat} {v pl : Value} {M : Mm}
/-- the store, and the place's box -/
structure LayAt (w W : World) (B bb mb : Nat) (v pl : Value) (M : Mm) (g : Nat) (o : Obj) : Prop where
  sto : StoAt W B bb mb v M pl
  box : W.heap[g]? = some o
  nF : ¬ stoF bb mb v g
  chg : Chg (stoF bb mb v) w W
theorem LayAt.below {W W' : World} {g : Nat} {o : Obj} (h : LayAt w W B bb mb v pl M g o) (hb : Below W.heap.size W W') : LayAt w W' B bb mb v pl M g o :=
  ⟨h.sto.below hb, (hb.block _ (block_ltR h.box)).trans h.box, h.nF, h.chg.trans (Chg.of_below (stoF bb mb v) hb) (fun x hx => .inl hx)⟩
theorem LayAt.turn {W W' : World} {M' : Mm} {g : Nat} {o : Obj} (h : LayAt w W B bb mb v pl M g o) (hs : StoAt W' B bb mb v M' pl) (hc : Chg (stoF bb mb v) W W') : LayAt w W' B bb mb v pl M' g o :=
  ⟨hs, (hc.block g (block_ltR h.box) h.nF).trans h.box, h.nF, h.chg.trans hc (fun x hx => .inl hx)⟩
set_option maxHeartbeats 4000000 in
theorem lay_any (h : StoAt w B bb mb v M pl) (n p : Nat) (e : En) (he : okEn e) (hp : p + wid e < M.C.length) (hsz : ∀ c ∈ M.C, c.size = 16) :
    Calls Try.prog 25 #[.pointer (some ⟨bb, 0, none⟩), plV n e p] w fun r w' => r = .returned (.tuple #[]) ∧ StoAt w' B bb mb v (putM M p e) pl ∧ Chg (stoF bb mb v) w w' := by
  have hlen := h.mem.len
  have hts := he.2.2.2.2
  have hF := h.F_lt
  obtain ⟨W1, hW1⟩ : ∃ W1, W1 = w.alloc (plO n e p) := ⟨_, rfl⟩
  have hB1 : Below w.heap.size w W1 := by rw [hW1]; exact (Below.refl _ _).alloc (Nat.le_refl _) _
  have hX1 : W1.heap[w.heap.size]? = some (plO n e p) := by rw [hW1]; exact heap_alloc_new _ _
  have hL1 : LayAt w W1 B bb mb v pl M w.heap.size (plO n e p) := ⟨h.below hB1, hX1, fun hf => by have := hF _ hf; omega, Chg.of_below _ hB1⟩
  have NC := hide (fun W => cellsOf_any e.text.size (by omega) W)
  have NE := hide (fun W => end_any n p e (by omega) (by omega) W)
  have NZ := hide (fun W => cell_any ⟨#[]⟩ (Nat.zero_le _) W)
  have NK := hide (fun (i : Nat) W => cell_any (e.text.extract (i * 16) (min (i * 16 + 16) e.text.size)) (by rw [ByteArray.size_extract]; omega) W)
  have NW := hide (fun (i : Nat) (hi : i < nC e.text.size) (W : World) (hs : StoAt W B bb mb v (layM M p e.text i) pl) => swrite_any hs (p + 1 + i) (chunk e.text i) (by rw [layM_len]; unfold wid at hp; omega) (chunk_size e.text i))
  have NW' : Hid (∀ (i : Nat), i < nC e.text.size → ∀ (W : World), StoAt W B bb mb v (layM M p e.text i) pl → Calls Try.prog 34 #[.pointer (some ⟨bb, 0, none⟩), .int .i64 ((p : Int) + 1 + (i : Int)), .string (chunk e.text i)] W fun r w' => r = .returned (.tuple #[]) ∧ StoAt w' B bb mb v (layM M p e.text (i + 1)) pl ∧ Chg (stoF bb mb v) W w') := hide (fun i hi W hs => by
    have := unhide NW i hi W hs
    rwa [show ((p + 1 + i : Nat) : Int) = (p : Int) + 1 + (i : Int) by omega] at this)
  clear NW
  have NR := hide (fun (W : World) (hs : StoAt W B bb mb v (layM M p e.text (nC e.text.size)) pl) => by
    have hl : p + wid e < (layM M p e.text (nC e.text.size)).C.length := by rw [layM_len]; exact hp
    obtain ⟨c, hc⟩ : ∃ c, (layM M p e.text (nC e.text.size)).C[p + wid e]? = some c := ⟨_, List.getElem?_eq_getElem hl⟩
    have hr := sread_any hs (p + wid e) c hc (layM_sz hsz _ c (List.mem_of_getElem? hc))
    have hq : (if (layM M p e.text (nC e.text.size)).off = true then zeroC else c) = rdC (layM M p e.text (nC e.text.size)) (p + wid e) := by unfold rdC; rw [hc]; rfl
    rw [hq] at hr
    exact hr)
  have NV := hide (fun (W : World) (hs : StoAt W B bb mb v (layM M p e.text (nC e.text.size)) pl) => swrite_any hs (p + wid e) zeroC (by rw [layM_len]; exact hp) zeroC_size)
  have NH := hide (fun (W : World) (hs : StoAt W B bb mb v (endM (layM M p e.text (nC e.text.size)) (p + wid e)) pl) => head_any hs n p e he (by rw [endM_len, layM_len]; omega))
  have HPM : Hid (putM M p e = wrM (endM (layM M p e.text (nC e.text.size)) (p + wid e)) p (headB e)) := hide rfl
  have HEM : Hid (∀ N, endM N (p + wid e) = if rdC N (p + wid e) = zeroC then N else wrM N (p + wid e) zeroC) := hide (fun N => by unfold endM; split <;> rfl)
  have hnc : (nC e.text.size : Int) ≤ 1251 := by unfold nC; omega
  have hnn : ∀ i, i < nC e.text.size → i * 16 < e.text.size := fun i hi => by unfold nC at hi; omega
  have HNN := hide hnn
  have hti : (e.text.size : Int) ≤ 20000 := by omega
  have hpi : (p : Int) ≤ 100000 := by omega
  have HW1 := hide hW1; have HL1 := hide hL1
  unfold plO at HW1
  have hch : ∀ i, chunk e.text i = pad (e.text.extract (i * 16) (min (i * 16 + 16) e.text.size)) := fun i => rfl
  have HCH := hide hch
  unfold plV at NE NH ⊢
  obtain ⟨wh, ho, tx⟩ := e
  dsimp only at *
  clear h he hp hsz hF hW1 hB1 hX1 hL1 hlen hts hnn hch
  go_enter Try.func25, Try.ntmps25
  go_upto_region 1 with fail
  rw [← unhide HW1]
  obtain ⟨d0, d1, d2, d3, d4⟩ := plCells (unhide HL1).box
  dsimp only at d0 d1 d2 d3 d4
  go_wp2_with fail
  refine (unhide NC _).mono ?_
  rintro r y1 ⟨rfl, hw⟩
  have hw' := hw.symm
  subst hw'
  go_wp2_with fail
  go_loopw [11] (fun iv wx => ∃ i : Nat, i ≤ nC tx.size ∧ iv = .int .i64 (i : Int) ∧ LayAt w wx B bb mb v pl (layM M p tx i) w.heap.size (plO n ⟨wh, ho, tx⟩ p)) (fun iv _ => nC tx.size - (intOf iv).toNat)
  case atStart => exact ⟨0, Nat.zero_le _, rfl, unhide HL1⟩
  case round =>
    obtain ⟨i, hi, rfl, hL⟩ := hrel
    by_cases hlt : i < nC tx.size
    · have hii : (i : Int) < (nC tx.size : Int) := by omega
      have hin : i * 16 < tx.size := unhide HNN i hlt
      obtain ⟨d0, d1, d2, d3, d4⟩ := plCells hL.box
      dsimp only at d0 d1 d2 d3 d4
      have HL := hide hL
      clear hL
      obtain ⟨a, ha⟩ : ∃ a : Nat, a = i * 16 := ⟨_, rfl⟩
      obtain ⟨b, hb⟩ : ∃ b : Nat, b = min (i * 16 + 16) tx.size := ⟨_, rfl⟩
      have hab : a ≤ b := by omega
      have hbs : b ≤ tx.size := by omega
      have hw16 : wrap64 ((i : Int) * 16) = (a : Int) := by unfold wrap64; omega
      have hs16 : IntKind.i64.wrap ((a : Int) + 16) = (a : Int) + 16 := by rw [IntKind.wrap_i64]; omega
      have hmn : min ((a : Int) + 16) (tx.size : Int) = (b : Int) := by omega
      have hx1 : IntKind.i64.wrap ((p : Int) + 1) = (p : Int) + 1 := by rw [IntKind.wrap_i64]; omega
      have hx2 : IntKind.i64.wrap ((p : Int) + 1 + (i : Int)) = (p : Int) + 1 + (i : Int) := by rw [IntKind.wrap_i64]; omega
      have N1 : Hid (∀ W, Calls Try.prog 35 #[.string (tx.extract a b)] W fun r w' => r = .returned (.string (chunk tx i)) ∧ Below W.heap.size W w') := hide (fun W => by
        rw [unhide HCH i, ha, hb]; exact unhide NK i W)
      have N2 := hide (unhide NW' i hlt)
      have HA := hide ha; have HB := hide hb
      clear ha hb hin
      go_upto_region 4 with fail
      clear hii
      go_wp2_with fail
      rw [show (i : Int) * 16 = (a : Int) by have := unhide HA; omega]
      clear hw16
      have hL0 := (unhide HL).below (Below.refl wr.heap.size wr).drew
      have CB := hide (fun (W : World) M' (h : LayAt w W B bb mb v pl M' w.heap.size (plO n ⟨wh, ho, tx⟩ p)) => And.intro (plCells h.box).2.2.2.1 (plCells h.box).2.2.2.2)
      dsimp only at CB
      have hs0 := unhide CB _ _ hL0
      have HL0 := hide hL0
      have HLT := hide hlt
      clear hL0 d0 d1 d2 d3 d4 hlt
      go_region_held3 (fun w' => w'.cell? ⟨w.heap.size, 3, none⟩ = some (.string tx) ∧ w'.cell? ⟨w.heap.size, 4, none⟩ = some (.int .i64 (p : Int)))
        (first
          | exact hs2
          | exact hs1
          | exact hs0)
        ((first
          | (go_at_call 34; refine (unhide N2 _ hL4.sto).mono ?_; rintro r y5 ⟨rfl, q5, q6⟩; have hL5 := hL4.turn q5 q6; have hs2 := unhide CB _ _ hL5)
          | (go_at_call 35; refine (unhide N1 _).mono ?_; rintro r y4 ⟨rfl, hb4⟩; have hL4 := (unhide HL0).below hb4; have hs1 := unhide CB _ _ hL4)
          | fail))
      all_goals
        have HZ := hide hL5
        clear hL4 hL5 q5 q6 hb4 hs0 hs1 hs2
        go_wp2
        go_roundw
        case rel => exact ⟨i + 1, by have := unhide HLT; omega, by go_num, unhide HZ⟩
        case measure => have := unhide HLT; simp [intOf]; omega
    · have hii : ¬ (i : Int) < (nC tx.size : Int) := by omega
      have hie : i = nC tx.size := by omega
      rw [hie] at hL
      obtain ⟨d0, d1, d2, d3, d4⟩ := plCells hL.box
      dsimp only at d0 d1 d2 d3 d4
      obtain ⟨M1, hM1⟩ : ∃ M1, M1 = layM M p tx (nC tx.size) := ⟨_, rfl⟩
      obtain ⟨q, hq⟩ : ∃ q, q = p + wid ⟨wh, ho, tx⟩ := ⟨_, rfl⟩
      obtain ⟨hh, hhd⟩ : ∃ hh, hh = headB ⟨wh, ho, tx⟩ := ⟨_, rfl⟩
      rw [← hM1] at hL NR NV NH HPM
      rw [← hq] at NR NV NH HPM NE HEM
      rw [← hhd] at NH HPM
      have HL := hide hL
      have HFIN : Hid (∀ W, StoAt W B bb mb v (wrM (endM M1 q) p hh) pl → StoAt W B bb mb v (putM M p ⟨wh, ho, tx⟩) pl) := hide (fun W hs => by rw [unhide HPM]; exact hs)
      clear hL hie hi hM1 hq hhd
      go_wp2_with fail
      refine (unhide NE _).mono ?_
      rintro r y1 ⟨rfl, k1⟩
      have HL1 := hide ((unhide HL).below k1)
      clear k1
      go_wp2_with fail
      refine (unhide NR _ (unhide HL1).sto).mono ?_
      rintro r y2 ⟨rfl, q5, q6⟩
      have HL2 := hide ((unhide HL1).turn q5 q6)
      clear q5 q6
      go_wp2_with fail
      refine (unhide NZ _).mono ?_
      rintro r y3 ⟨rfl, k3⟩
      have HL3 := hide ((unhide HL2).below k3)
      clear k3
      obtain ⟨d0, d1, d2, d3, d4⟩ := plCells (unhide HL3).box
      dsimp only at d0 d1 d2 d3 d4
      by_cases hz : rdC M1 q = zeroC
      · have hEM : endM M1 q = M1 := by rw [unhide HEM, if_pos hz]
        rw [hEM] at NH HFIN
        have hzz : (rdC M1 q).toList == (pad ⟨#[]⟩).toList := by rw [hz]; simp [zeroC]
        clear hz hEM
        generalize rdC M1 q = rd at *
        go_wp2_with fail
        refine (unhide NH _ (unhide HL3).sto).mono ?_
        rintro r y4 ⟨rfl, q5, q6⟩
        have HL4 := hide ((unhide HL3).turn q5 q6)
        clear q5 q6
        go_wp2
        go_end0
        exact ⟨rfl, unhide HFIN _ (unhide HL4).sto, (unhide HL4).chg⟩
      · have hEM : endM M1 q = wrM M1 q zeroC := by rw [unhide HEM, if_neg hz]
        rw [hEM] at NH HFIN
        have hzz : ((rdC M1 q).toList == (pad ⟨#[]⟩).toList) = false := toList_neB hz
        clear hz hEM
        generalize rdC M1 q = rd at *
        go_wp2_with fail
        refine (unhide NE _).mono ?_
        rintro r y4 ⟨rfl, k4⟩
        have HL4 := hide ((unhide HL3).below k4)
        clear k4
        go_wp2_with fail
        refine (unhide NZ _).mono ?_
        rintro r y5 ⟨rfl, k5⟩
        have HL5 := hide ((unhide HL4).below k5)
        clear k5
        go_wp2_with fail
        refine (unhide NV _ (unhide HL5).sto).mono ?_
        rintro r y6 ⟨rfl, q5, q6⟩
        have HL6 := hide ((unhide HL5).turn q5 q6)
        clear q5 q6
        obtain ⟨d0, d1, d2, d3, d4⟩ := plCells (unhide HL6).box
        dsimp only at d0 d1 d2 d3 d4
        go_wp2_with fail
        refine (unhide NH _ (unhide HL6).sto).mono ?_
        rintro r y7 ⟨rfl, q5, q6⟩
        have HL7 := hide ((unhide HL6).turn q5 q6)
        clear q5 q6
        go_wp2
        go_end0
        exact ⟨rfl, unhide HFIN _ (unhide HL7).sto, (unhide HL7).chg⟩
end
end Go.Proofs.Ytbiipeapcclbkaa
