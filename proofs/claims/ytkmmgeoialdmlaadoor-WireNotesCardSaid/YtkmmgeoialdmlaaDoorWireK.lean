/- wire's Pack: the walk. -/
import Derived.Test.YtkmmgeoialdmlaaDoorWireS
import Derived.Deep.CutRange
import Derived.Deep.RegionWith
namespace Go.Proofs.YtkmmgeoialdmlaaDoor
open Go.RowKit
set_option linter.unusedVariables false

theorem byteCells_app (a b : List UInt8) : Lib.byteCells (a ++ b) = Lib.byteCells a ++ Lib.byteCells b := by simp [Lib.byteCells]
theorem bAt_below {T e : TypeId} {B b : Nat} {p : Value} {bs : List Value} {w w' : World} (h : Lib.BuilderAt T e B b p bs w) (hb : Below w.heap.size w w') : Lib.BuilderAt T e B b p bs w' := by
  obtain ⟨hB, v, hbk, hown, hne⟩ := h
  have hlt : b < w.heap.size := by
    rcases Nat.lt_or_ge b w.heap.size with h' | h'
    · exact h'
    · simp [Array.getElem?_eq_none h'] at hbk
  refine ⟨hB, v, (hb.block b hlt).trans hbk, ⟨hown.1, ?_⟩, hne⟩
  rcases hown.2 with hn | ⟨g, cap, cur, rfl, h3, h4, h5⟩
  · exact .inl hn
  · have hg : g < w.heap.size := by
      rcases Nat.lt_or_ge g w.heap.size with h' | h'
      · exact h'
      · rw [Array.getElem?_eq_none h'] at h4; cases h4
    exact .inr ⟨g, cap, cur, rfl, h3, (hb.block g hg).trans h4, h5⟩
theorem isB_below {T e : TypeId} {B b : Nat} {bs : List Value} {w w' : World} (h : Lib.IsBuilder T e B b bs w) (hb : Below w.heap.size w w') : Lib.IsBuilder T e B b bs w' := h.imp (fun h => bAt_below h hb) (fun h => bAt_below h hb)
theorem isB_lt {T e : TypeId} {B b : Nat} {bs : List Value} {w : World} (h : Lib.IsBuilder T e B b bs w) : b < w.heap.size := by
  have : ∀ p, Lib.BuilderAt T e B b p bs w → b < w.heap.size := fun p ⟨hB, v, hbk, hown, hne⟩ => by
    rcases Nat.lt_or_ge b w.heap.size with h' | h'
    · exact h'
    · simp [Array.getElem?_eq_none h'] at hbk
  rcases h with h | h
  · exact this _ h
  · exact this _ h
/-- where its bytes lie -/
theorem isB_own {T e : TypeId} {B b : Nat} {bs : List Value} {w : World} (h : Lib.IsBuilder T e B b bs w) : ∀ v, w.cell? ⟨b, 1, none⟩ = some v → ∀ g, v.ownBlock = some g → g < w.heap.size := by
  have : ∀ p, Lib.BuilderAt T e B b p bs w → ∀ v, w.cell? ⟨b, 1, none⟩ = some v → ∀ g, v.ownBlock = some g → g < w.heap.size := fun p ⟨hB, v, hbk, hown, hne⟩ v' hv' g hg => by
    have c1 : w.cell? ⟨b, 1, none⟩ = some v := by rw [Lib.cell_of_heap hbk]; rfl
    rw [c1] at hv'
    cases hv'
    rcases hown.2 with ⟨rfl, _⟩ | ⟨g', cap, cur, rfl, h3, h4, h5⟩
    · cases hg
    · cases hg
      rcases Nat.lt_or_ge g' w.heap.size with h' | h'
      · exact h'
      · rw [Array.getElem?_eq_none h'] at h4; cases h4
  rcases h with h | h
  · exact this _ h
  · exact this _ h
theorem PRow.below {w w' : World} {pa : Option Addr} {l : List Prt} {B : Nat} (h : PRow w pa l) (hb : Below B w w') (hB : w.heap.size ≤ B) : PRow w' pa l := by
  rcases h with h | ⟨b, off, e, hlt, hc⟩
  · exact .inl h
  · exact .inr ⟨b, off, e, Nat.lt_of_lt_of_le hlt hb.size, fun i p hi => ⟨(hb.cell (p := ⟨b, off + i * 2, none⟩) (Nat.lt_of_lt_of_le hlt hB)).trans (hc i p hi).1, (hb.cell (p := ⟨b, off + i * 2 + 1, none⟩) (Nat.lt_of_lt_of_le hlt hB)).trans (hc i p hi).2⟩⟩
theorem field_form (m a : Int) (d : Bool) (wx : World) : (Instr.field 47 (.agg #[.int .i64 m, .int .i64 a, .bool d]) 1).run Tryd.prog wx = .ok (.int .i64 a) wx := by kernel_rfl
theorem conv_twoW (W : World) (b : Nat) (x y : Int) (h : W.heap[b]? = some (.cells #[.int .u8 x, .int .u8 y] 5 (0, 0))) : (convert 41 9 (.slice (some ⟨b, 0, none⟩) 2 2)).run Tryd.prog W = .ok (.string (strOfNums [x, y])) W :=
  run_convert_bytes_arg (P := Tryd.prog) W 41 5 Tryd.underlying41 Tryd.underlying5 b 0 2 2 [x, y] rfl (fun i hi => by
    rw [Nat.zero_add, cell_of_row _ _ i _ _ _ h]
    have h2 : i = 0 ∨ i = 1 := by omega
    rcases h2 with rfl | rfl <;> rfl) 9 Tryd.underlying9
/-- behind q parts -/
def KInv (w W2 : World) (l : List Prt) (iv tv lv : Value) (wx : World) : Prop :=
  ∃ q : Nat, q ≤ l.length ∧ iv = .int .i64 (q : Int) ∧ tv = .int .i64 ((mapN (l.take q) : Nat) : Int) ∧ lv = .int .i64 (lastOf 0 (l.take q)) ∧ goodP 0 (l.take q) = true ∧
    Lib.IsBuilder 43 5 (w.heap.size + 1) (w.heap.size + 1) (Lib.byteCells (bodyL (l.take q))) wx ∧ Below (w.heap.size + 1) W2 wx ∧ (q = 0 → wx.heap[w.heap.size + 1]? = some (.cells #[.pointer none, .slice none 0 0] 43 (0, 0)))
set_option maxRecDepth 100000 in
set_option maxHeartbeats 8000000 in
theorem pack_good (kind : Int) (l : List Prt) (pa : Option Addr) (c : Nat) (w : World) (hr : PRow w pa l) (hl : (l.length : Int) ≤ 9223372036854775807) (hk0 : 0 ≤ kind) (hk1 : kind ≤ 99)
    (hp : ∀ p ∈ l, (-9223372036854775808 ≤ p.1 ∧ p.1 ≤ 9223372036854775807) ∧ p.2.size ≤ maxLen) (he : Env w) (h4 : 4 ≤ w.heap.size) :
    Calls Tryd.prog 5 #[.agg #[.int .i64 kind, .slice pa l.length c]] w fun e w' => e = .returned (.tuple #[.string (packS kind l), .int .i64 (packE kind l)]) ∧ Below w.heap.size w w' := by
  obtain ⟨W2, hW2⟩ : ∃ W2, W2 = (w.alloc (.cells #[.int .i64 kind, .slice pa l.length c] 24)).alloc (.cells #[.pointer none, .slice none 0 0] 43) := ⟨_, rfl⟩
  have hB2 : Below w.heap.size w W2 := by rw [hW2]; exact ((Below.refl _ _).alloc (Nat.le_refl _) _).alloc (by simp) _
  have hS2 : W2.heap.size = w.heap.size + 2 := by rw [hW2]; simp
  have hbu : Lib.IsBuilder 43 5 (w.heap.size + 1) (w.heap.size + 1) [] W2 := by
    have := Lib.fresh_isBuilder 43 5 (w.alloc (.cells #[.int .i64 kind, .slice pa l.length c] 24))
    rw [← hW2] at this
    simpa using this
  have hM2 : W2.heap[w.heap.size]? = some (.cells #[.int .i64 kind, .slice pa l.length c] 24 (0, 0)) := by
    rw [hW2]; exact (Below.heap_alloc _ _ _ (by simp)).trans (heap_alloc_new _ _)
  have hFR : W2.heap[w.heap.size + 1]? = some (.cells #[.pointer none, .slice none 0 0] 43 (0, 0)) := by
    rw [hW2]
    have e1 : (w.alloc (.cells #[.int .i64 kind, .slice pa l.length c] 24)).heap.size = w.heap.size + 1 := by simp
    rw [← e1]; exact heap_alloc_new _ _
  have HFR := hide hFR
  clear hFR
  have m0 : W2.cell? ⟨w.heap.size, 0, none⟩ = some (.int .i64 kind) := (cell_of_row _ _ 0 _ _ _ hM2).trans rfl
  have m1 : W2.cell? ⟨w.heap.size, 1, none⟩ = some (.slice pa l.length c) := (cell_of_row _ _ 1 _ _ _ hM2).trans rfl
  have HW2 := hide hW2; have HB2 := hide hB2; have HS2 := hide hS2; have HBU := hide hbu; have HM2 := hide hM2; have HR := hide hr; have HP := hide hp; have HE := hide he
  clear hW2 hB2 hS2 hbu hM2 hr hp he
  go_enter Tryd.func5, Tryd.ntmps5
  go_upto_region 4 with fail
  rw [← unhide HW2]
  go_wp2_with fail
  go_loopw [21, 5, 6] (fun iv tv lv wx => KInv w W2 l iv tv lv wx) (fun iv _ _ _ => l.length - (intOf iv).toNat)
  case atStart => exact ⟨0, Nat.zero_le _, rfl, rfl, rfl, rfl, unhide HBU, Below.refl _ _, fun _ => unhide HFR⟩
  case round =>
    obtain ⟨q, hq, rfl, rfl, rfl, hg, hbu, hbw, hfr⟩ := hrel
    clear m1 HFR
    by_cases hlt : q < l.length
    · have hbww : Below w.heap.size w wr := (unhide HB2).trans (hbw.mono (by omega))
      have hPR := (unhide HR).below hbww (Nat.le_refl _)
      obtain ⟨p, hpq⟩ : ∃ p, l[q]? = some p := ⟨_, List.getElem?_eq_getElem hlt⟩
      obtain ⟨hpb, hpz⟩ := unhide HP p (List.mem_of_getElem? hpq)
      rcases hPR with hnil | ⟨b, off, rfl, hbl, hc⟩
      · rw [hnil] at hlt; simp at hlt
      obtain ⟨ck0, ck1⟩ := hc q p hpq
      have htk : l.take (q + 1) = l.take q ++ [p] := by rw [List.take_add_one, hpq]; rfl
      have hgl : goodP 0 l = (goodP 0 (l.take q) && goodP (lastOf 0 (l.take q)) (p :: l.drop (q + 1))) := by
        rw [← goodP_app]
        congr 1
        have : l.drop q = p :: l.drop (q + 1) := by
          rw [List.drop_eq_getElem_cons hlt]
          rw [List.getElem?_eq_getElem hlt] at hpq
          rw [Option.some.inj hpq]
        rw [← this, List.take_append_drop]
      obtain ⟨pn, ps⟩ := p
      simp only at ck0 ck1 hpb hpz
      have hlast16 := last_le hg (by omega)
      have hlast0 := last_ge hg
      have hlen16 := good_len hg
      have hT := mapN_lt (l.take q) 0 hg (by omega)
      obtain ⟨W3, hW3⟩ : ∃ W3, W3 = wr.alloc (.cells #[.int .i64 pn, .string ps] 45) := ⟨_, rfl⟩
      have hB3 : Below wr.heap.size wr W3 := by rw [hW3]; exact (Below.refl _ _).alloc (Nat.le_refl _) _
      have hS3 : W3.heap.size = wr.heap.size + 1 := by rw [hW3]; simp
      have hX3 : W3.heap[wr.heap.size]? = some (.cells #[.int .i64 pn, .string ps] 45 (0, 0)) := by rw [hW3]; exact heap_alloc_new _ _
      have p0 : W3.cell? ⟨wr.heap.size, 0, none⟩ = some (.int .i64 pn) := (cell_of_row _ _ 0 _ _ _ hX3).trans rfl
      have p1 : W3.cell? ⟨wr.heap.size, 1, none⟩ = some (.string ps) := (cell_of_row _ _ 1 _ _ _ hX3).trans rfl
      have hE3 : Env W3 := ((unhide HE).below hbww h4).below hB3 (by have := hbww.size; omega)
      have hbu3 := isB_below hbu hB3
      obtain ⟨last, hlast⟩ : ∃ last, last = lastOf 0 (l.take q) := ⟨_, rfl⟩
      obtain ⟨T, hTT⟩ : ∃ T, T = mapN (l.take q) := ⟨_, rfl⟩
      have hmod : ∀ n : Nat, last < (n : Int) → n ≤ 16 → T % 2 ^ (17 - n) = 0 := fun n h1 h2 => by rw [hTT]; exact mapN_mod (last := 0) hg n (by rw [hlast] at h1; exact h1) h2
      rw [← hlast] at hgl hlast16 hlast0 hlen16
      rw [← hTT] at hT
      have hlti : (q : Int) < (l.length : Int) := by omega
      have HG := hide hg; have HBU3 := hide hbu3; have HBW := hide hbw; have HE3 := hide hE3; have HW3 := hide hW3; have HGL := hide hgl; have HTK := hide htk; have HB3 := hide hB3; have HX3 := hide hX3; have HS3 := hide hS3; have HMOD := hide hmod; have HBWW := hide hbww
      have hbl' := hbu
      have HBLT := hide (isB_lt hbu); have HOWN := hide (isB_own hbu)
      rw [← hlast, ← hTT]
      have HLAST := hide hlast; have HTT := hide hTT
      clear hc hg hbu3 hbw hE3 hW3 hgl htk hB3 hX3 hbl' hbu hbww hpq hmod hlast hTT hbl
      obtain ⟨bad, hbad⟩ : ∃ bad, bad = !(decide (last < pn) && decide (pn ≤ 16) && takesB pn.toNat ps) := ⟨_, rfl⟩
      have HBAD := hide hbad
      go_upto_region 8 with fail
      rw [← unhide HW3]
      clear ck0 ck1
      go_cut [42, 21] from 21 to 65 (fun c iv wx => c = .bool bad ∧ iv = .int .i64 (q : Int) ∧ Below W3.heap.size W3 wx)
      case first =>
        by_cases h1 : pn ≤ last
        · have hb1 : bad = true := by rw [hbad, decide_eq_false (by omega)]; rfl
          have hd1 : decide (pn ≤ last) = true := decide_eq_true h1
          have HB1 := hide hb1
          clear hbad hb1
          go_quiet (fail)
          go_wp2_with fail
          go_meet
          exact ⟨by rw [unhide HB1], rfl, ⟨rfl, rfl, rfl, Nat.le_refl _, fun _ _ => rfl⟩⟩
        · have hd1 : decide (pn ≤ last) = false := decide_eq_false h1
          by_cases h2 : 16 < pn
          · have hb1 : bad = true := by rw [hbad, decide_eq_false (show ¬ pn ≤ 16 by omega), Bool.and_false]; rfl
            have hd2 : decide (16 < pn) = true := decide_eq_true h2
            have HB1 := hide hb1
            clear hbad hb1
            go_quiet (fail)
            go_wp2_with fail
            go_meet
            exact ⟨by rw [unhide HB1], rfl, ⟨rfl, rfl, rfl, Nat.le_refl _, fun _ _ => rfl⟩⟩
          · have hd2 : decide (16 < pn) = false := decide_eq_false h2
            obtain ⟨n, rfl⟩ : ∃ n : Nat, pn = (n : Int) := ⟨pn.toNat, by omega⟩
            have hb1 : bad = !(takesB n ps) := by rw [hbad, decide_eq_true (show last < (n : Int) by omega), decide_eq_true (show (n : Int) ≤ 16 by omega)]; simp
            have HB1 := hide hb1
            have NF := hide (formOf_any n (by omega) (by omega) W3.drew ((unhide HE3).forms.below (B := W3.heap.size) ((Below.refl _ _).drew) (by have := unhide HS3; omega)))
            have NT := hide (fun w => takes_any n ps hpz w)
            have hplt : wr.heap.size < W3.heap.size := by have := unhide HS3; omega
            generalize takesB n ps = tb at *
            clear hbad hb1
            go_region_with ((first
              | (go_at_call 14; refine (unhide NF).mono ?_; rintro e v1 ⟨rfl, hv1⟩; have r1 : v1.cell? ⟨wr.heap.size, 1, none⟩ = some (.string ps) := (hv1.cell (p := ⟨wr.heap.size, 1, none⟩) hplt).trans p1; have HV1 := hide hv1; clear hv1)
              | (go_at_call 15; refine (unhide NT _).mono ?_; rintro e v2 ⟨rfl, hv2⟩; have HV2 := hide hv2; clear hv2)))
            all_goals
              go_wp2_with fail
              go_meet
              exact ⟨by rw [unhide HB1], rfl, (((Below.refl W3.heap.size W3).drew).trans (unhide HV1)).trans ((unhide HV2).mono (unhide HV1).size)⟩
      case rest =>
      obtain ⟨rfl, rfl, hbc⟩ := hcut
      cases hbd : bad with
      | true =>
        have hgf : goodP 0 l = false := by
          have h0 := unhide HBAD
          rw [hbd] at h0
          rw [unhide HGL, unhide HG, Bool.true_and]
          simp only [goodP]
          have h1 : (decide (last < pn) && decide (pn ≤ 16) && takesB pn.toNat ps) = false := by
            cases hx : (decide (last < pn) && decide (pn ≤ 16) && takesB pn.toNat ps) with
            | true => rw [hx] at h0; cases h0
            | false => rfl
          rw [h1]; rfl
        have hE : packE kind l = 1 := by rw [packE, if_neg (by omega), hgf]; rfl
        have hSS : packS kind l = ⟨#[]⟩ := by rw [packS, hE]; rfl
        have HE1 := hide hE; have HSS := hide hSS
        have HBC := hide hbc
        clear hgf hE hSS hbc
        go_wp2
        go_ret2
        refine ⟨by rw [unhide HE1, unhide HSS]; rfl, ?_⟩
        exact ((unhide HBWW).trans ((unhide HB3).mono (unhide HBWW).size)).trans ((unhide HBC).mono (by have := (unhide HBWW).size; have := (unhide HB3).size; omega))
      | false =>
        have hgd : (decide (last < pn) && decide (pn ≤ 16) && takesB pn.toNat ps) = true := by
          have h0 := unhide HBAD
          rw [hbd] at h0
          cases hx : (decide (last < pn) && decide (pn ≤ 16) && takesB pn.toNat ps) with
          | true => rfl
          | false => rw [hx] at h0; cases h0
        simp only [Bool.and_eq_true, decide_eq_true_eq] at hgd
        obtain ⟨⟨hg1, hg2⟩, hg3⟩ := hgd
        obtain ⟨n, rfl⟩ : ∃ n : Nat, pn = (n : Int) := ⟨pn.toNat, by omega⟩
        rw [Int.toNat_natCast] at hg3
        have hn1 : 1 ≤ n := by omega
        have hn16 : n ≤ 16 := by omega
        have hGP : goodP last [((n : Int), ps)] = true := by
          simp only [goodP, Bool.and_eq_true, decide_eq_true_eq, Int.toNat_natCast]
          exact ⟨⟨⟨hg1, hg2⟩, hg3⟩, trivial⟩
        have HGP := hide hGP
        have hpz9 := takes_size n hn1 hn16 ps hg3
        have hT16 : T < 65536 := hT
        have hor := map_or T n hn16 (unhide HMOD n hg1 hn16) hT16
        have hbit : bitN n < 65536 := Nat.lt_of_le_of_lt (Nat.pow_le_pow_right (by decide) (by omega : 16 - n ≤ 15)) (by decide)
        have NB := hide (fun w => (bit_any n hn1 hn16 w).mono fun e w' (h : e = .returned (.int .i64 ((bitN n : Nat) : Int)) ∧ w' = w) => (⟨h.1, 0, h.2⟩ : e = .returned (.int .i64 ((bitN n : Nat) : Int)) ∧ ∃ m, w' = w.drewN m))
        have hS3' := unhide HS3
        have hbcs := hbc.size
        have hEc : Env wc := (unhide HE3).below hbc (by have := (unhide HBWW).size; omega)
        have NF := hide (fun k => formOf_any n hn1 hn16 (wc.drewN k) (hEc.forms.below (B := wc.heap.size) ⟨rfl, rfl, rfl, Nat.le_refl _, fun _ _ => rfl⟩ (by omega)))
        have q0 : wc.cell? ⟨wr.heap.size, 0, none⟩ = some (.int .i64 (n : Int)) := (hbc.cell (p := ⟨wr.heap.size, 0, none⟩) (by show wr.heap.size < _; omega)).trans p0
        have q1 : wc.cell? ⟨wr.heap.size, 1, none⟩ = some (.string ps) := (hbc.cell (p := ⟨wr.heap.size, 1, none⟩) (by show wr.heap.size < _; omega)).trans p1
        have hbuc := isB_below (unhide HBU3) hbc
        have hBc : Below wr.heap.size wr wc := (unhide HB3).trans (hbc.mono (by omega))
        have hfa4 : fahead n ≤ 4 := by
          have : ∀ m : Fin 17, fahead m.val ≤ 4 := by decide
          exact this ⟨n, by omega⟩
        have hfld : fieldL ((n : Int), ps) = aheadL n ps ++ ps.data.toList := by unfold fieldL; rw [Int.toNat_natCast]
        have hblen : (bodyL (l.take q)).length ≤ 200000 := by
          have h1 := body_len (Int.le_refl 0) (unhide HG)
          have h2 : (l.take q).length ≤ 16 := by omega
          have : 10003 * (l.take q).length ≤ 10003 * 16 := Nat.mul_le_mul_left _ h2
          omega
        have hcl : (Lib.byteCells (bodyL (l.take q))).length = (bodyL (l.take q)).length := by simp [Lib.byteCells]
        -- behind the form, in any world
        have NX := hide (fun (v1 : World) (hv1 : Below wc.heap.size wc v1) => (show Lib.IsBuilder 43 5 (w.heap.size + 1) (w.heap.size + 1) (Lib.byteCells (bodyL (l.take q))) v1 ∧ v1.cell? ⟨wr.heap.size, 1, none⟩ = some (.string ps) ∧ Below wr.heap.size wr v1 ∧ Env v1 from
          ⟨isB_below hbuc hv1, (hv1.cell (p := ⟨wr.heap.size, 1, none⟩) (by show wr.heap.size < _; omega)).trans q1, hBc.trans (hv1.mono hBc.size), hEc.below hv1 (by have := (unhide HBWW).size; omega)⟩))
        have hni : (n : Int) ≤ 16 := by omega
        obtain ⟨T2, hT2⟩ : ∃ T2, T2 = T + bitN n := ⟨_, rfl⟩
        rw [← hT2] at hor
        have HT2 := hide hT2
        have HBC := hide hBc
        have HFLD := hide hfld; have HBL := hide hblen; have HCL := hide hcl; have HG3 := hide hg3
        unfold formV at NF
        clear hbc hEc hbuc hBc hfld hblen hcl hGP hg3 hT2 p0 p1
        go_wp2_with fail
        go_quiet ((go_at_call 16; exact Calls.quiet_of (unhide NB _)))
        go_wp2_with fail
        refine (unhide NF _).mono ?_
        rintro e v1 ⟨rfl, hv1⟩
        obtain ⟨x1, x2, x3, x4⟩ := unhide NX v1 ⟨hv1.os, hv1.tape, hv1.output, hv1.size, hv1.block⟩
        have HX1 := hide x1; have HX3 := hide x3; have HX4 := hide x4; have HX2 := hide x2
        have hsv1 := x3.size
        have hfd := field_form (fmost n : Int) (fahead n : Int) (fdig n)
        clear x1 x3 x4 hv1
        by_cases h0 : 0 < fahead n
        · have g0 : (0 : Int) < (fahead n : Int) := by omega
          have hnz := hide (numS_ahead n hn1 hn16 ps (unhide HG3) h0)
          have N1 := hide (number_any (ps.size : Int) (fahead n) (by omega) (by omega) (by omega) v1 (unhide HX4).pow)
          have hnsz : (numS (ps.size : Int) (fahead n)).size ≤ 100 := by
            have h1 := congrArg List.length (unhide hnz)
            rw [Array.length_toList, aheadL, digs_length] at h1
            have h2 : (numS (ps.size : Int) (fahead n)).size = (numS (ps.size : Int) (fahead n)).data.size := rfl
            omega
          generalize numS (ps.size : Int) (fahead n) = ns at *
          go_wp2_with fail
          refine (unhide N1).mono ?_
          rintro e v2 ⟨rfl, hv2⟩
          have y1 := isB_below (unhide HX1) hv2
          have ylt := isB_lt (unhide HX1)
          have y2 : v2.cell? ⟨wr.heap.size, 1, none⟩ = some (.string ps) := (hv2.cell (p := ⟨wr.heap.size, 1, none⟩) (World.block_lt_of_cell? _ _ (unhide HX2))).trans (unhide HX2)
          have N2 := hide (writeY_any (w.heap.size + 1) (w.heap.size + 1) _ ns v2 y1 (by rw [unhide HCL]; have := unhide HBL; omega) (by have := hv2.size; omega))
          have hown2 : ∀ v, v2.cell? ⟨w.heap.size + 1, 1, none⟩ = some v → v.ownBlock ≠ some wr.heap.size := fun v hv hvo => by
            have h1 : wr.cell? ⟨w.heap.size + 1, 1, none⟩ = some v := by
              have hb := (unhide HX3).trans (hv2.mono hsv1)
              rw [← hv]; exact (hb.cell (p := ⟨w.heap.size + 1, 1, none⟩) (unhide HBLT)).symm
            have := unhide HOWN v h1 _ hvo
            omega
          have HOWN2 := hide hown2
          have HV2 := hide hv2; have HY2 := hide y2
          have hpbl : wr.heap.size < v2.heap.size := World.block_lt_of_cell? _ _ y2
          have hbw0 := unhide HBLT
          have hsv2 := hv2.size
          clear y1 hv2 hown2
          go_wp2_with fail
          refine (unhide N2).mono ?_
          rintro e v3 ⟨rfl, ⟨hb3, hbl3⟩, hs3, hoth⟩
          have z1 : v3.cell? ⟨wr.heap.size, 1, none⟩ = some (.string ps) := by
            have hh := hoth wr.heap.size hpbl (by omega) (unhide HOWN2)
            have h2 := unhide HY2
            unfold World.cell? at h2 ⊢
            simp only at h2 ⊢
            rw [hh]; exact h2
          have N3 := hide (writeY_any (w.heap.size + 1) (w.heap.size + 1) _ ps v3 (.inr hb3) (by rw [List.length_append, unhide HCL, Lib.strCells_length]; have := unhide HBL; omega) (by omega))
          have HBL3 := hide hbl3
          clear hb3 hbl3 hoth y2
          go_wp2_with fail
          refine (unhide N3).mono ?_
          rintro e v4 ⟨rfl, ⟨hb4, hbl4⟩, hs4, hoth4⟩
          have HBF : Hid (Lib.BuilderAt 43 5 (w.heap.size + 1) (w.heap.size + 1) (.pointer (some ⟨w.heap.size + 1, 0, none⟩)) (Lib.byteCells (bodyL (l.take q)) ++ Lib.byteCells (fieldL ((n : Int), ps))) v4) := hide (by
            rw [unhide HFLD, byteCells_app, ← List.append_assoc, ← unhide hnz]
            exact hb4)
          have HBB : Hid (Below (w.heap.size + 1) W2 v4) := hide (((((unhide HBW).trans ((unhide HX3).mono (by omega))).trans ((unhide HV2).mono (by omega))).trans (unhide HBL3)).trans hbl4)
          clear hb4 hbl4 hoth4
          go_wp2_with fail
          refine ⟨⟨q + 1, by omega, by go_num, by rw [unhide HTK, mapN_snoc, ← unhide HTT, unhide HT2]; rfl, by rw [unhide HTK, lastOf_snoc], by rw [unhide HTK, goodP_app, unhide HG, ← unhide HLAST, unhide HGP]; rfl, ?_, unhide HBB, fun h => by omega⟩, ?_⟩
          · rw [unhide HTK, bodyL_snoc, byteCells_app]
            exact .inr (unhide HBF)
          · simp [intOf]; omega
        · have g0 : ¬ (0 : Int) < (fahead n : Int) := by omega
          have hah : aheadL n ps = [] := by unfold aheadL; rw [show fahead n = 0 by omega]; rfl
          have ylt := isB_lt (unhide HX1)
          have hbw0 := unhide HBLT
          have N3 := hide (writeY_any (w.heap.size + 1) (w.heap.size + 1) _ ps v1 (unhide HX1) (by rw [unhide HCL]; have := unhide HBL; omega) (by omega))
          have HAH := hide hah
          clear hah
          go_wp2_with fail
          refine (unhide N3).mono ?_
          rintro e v4 ⟨rfl, ⟨hb4, hbl4⟩, hs4, hoth4⟩
          have HBF : Hid (Lib.BuilderAt 43 5 (w.heap.size + 1) (w.heap.size + 1) (.pointer (some ⟨w.heap.size + 1, 0, none⟩)) (Lib.byteCells (bodyL (l.take q)) ++ Lib.byteCells (fieldL ((n : Int), ps))) v4) := hide (by
            rw [unhide HFLD, unhide HAH, List.nil_append]
            exact hb4)
          have HBB : Hid (Below (w.heap.size + 1) W2 v4) := hide (((unhide HBW).trans ((unhide HX3).mono (by omega))).trans hbl4)
          clear hb4 hbl4 hoth4
          go_wp2_with fail
          refine ⟨⟨q + 1, by omega, by go_num, by rw [unhide HTK, mapN_snoc, ← unhide HTT, unhide HT2]; rfl, by rw [unhide HTK, lastOf_snoc], by rw [unhide HTK, goodP_app, unhide HG, ← unhide HLAST, unhide HGP]; rfl, ?_, unhide HBB, fun h => by omega⟩, ?_⟩
          · rw [unhide HTK, bodyL_snoc, byteCells_app]
            exact .inr (unhide HBF)
          · simp [intOf]; omega
    · have hqe : q = l.length := by omega
      subst hqe
      rw [List.take_length] at hg hbu
      have hT := mapN_lt l 0 hg (by omega)
      have hE0 : packE kind l = 0 := by rw [packE, if_neg (by omega), hg]; rfl
      rw [List.take_length]
      obtain ⟨T, hTT⟩ : ∃ T, T = mapN l := ⟨_, rfl⟩
      rw [← hTT] at hT
      rw [← hTT]
      have hbww : Below w.heap.size w wr := (unhide HB2).trans (hbw.mono (by omega))
      have hEw := (unhide HE).below hbww h4
      have hws := hbww.size
      have hblt := isB_lt hbu
      have k0 : wr.cell? ⟨w.heap.size, 0, none⟩ = some (.int .i64 kind) := (hbw.cell (p := ⟨w.heap.size, 0, none⟩) (by show w.heap.size < w.heap.size + 1; omega)).trans m0
      have NN := hide (fun x (hx : Below wr.heap.size wr x) => number_any kind 2 (by omega) (by omega) (by omega) x (hEw.pow.below hx (by omega)))
      have hown0 := isB_own hbu
      have NS := hide (fun x (hx : Below wr.heap.size wr x) => show Calls Tryd.prog 19 #[.pointer (some ⟨w.heap.size + 1, 0, none⟩)] x fun e w' => e = .returned (.string ⟨(bodyL l).toArray⟩) ∧ StrQ (w.heap.size + 1) (w.heap.size + 1) x w' from by
        cases l with
        | nil => exact stringFresh_any _ _ _ x ((hx.block _ hblt).trans (hfr rfl))
        | cons p r => exact stringSome_any _ _ _ x (isB_below hbu hx) (body_ne hg))
      have HOX := hide (fun x (hx : Below wr.heap.size wr x) q (hq : wr.heap.size ≤ q) v (hv : x.cell? ⟨w.heap.size + 1, 1, none⟩ = some v) => show v.ownBlock ≠ some q from fun e => by
        have h1 : wr.cell? ⟨w.heap.size + 1, 1, none⟩ = some v := by rw [← hv]; exact (hx.cell (p := ⟨w.heap.size + 1, 1, none⟩) hblt).symm
        have := hown0 v h1 q e
        omega)
      have HFB := hide (fun x (hx : Below wr.heap.size wr x) => (show Below w.heap.size w x from hbww.trans (hx.mono hbww.size)))
      have hblen : (bodyL l).length ≤ 200000 := by
        have h1 := body_len (Int.le_refl 0) hg
        have h2 := good_len hg
        have h3 := last_le hg (by omega)
        have : 10003 * l.length ≤ 10003 * 16 := Nat.mul_le_mul_left _ (by omega)
        omega
      have hzb : ((⟨(bodyL l).toArray⟩ : ByteArray).size : Int) ≤ 200000 := by
        have : (⟨(bodyL l).toArray⟩ : ByteArray).size = (bodyL l).length := by show (bodyL l).toArray.size = _; simp
        omega
      have hnum : (numS kind 2).data.toList = digs kind.toNat 2 := by
        unfold numS zero48 Lib.itoa
        rw [if_neg (by omega), decDigits_length, ByteArray.data_append, Array.toList_append]
        exact number_digs 1 kind.toNat (by omega)
      have hzn : ((numS kind 2).size : Int) = 2 := by
        have h1 := congrArg List.length hnum
        rw [digs_length, Array.length_toList] at h1
        have h2 : (numS kind 2).size = (numS kind 2).data.size := rfl
        omega
      obtain ⟨th, hth⟩ : ∃ th, th = T / 256 := ⟨_, rfl⟩
      obtain ⟨tl, htl⟩ : ∃ tl, tl = T % 256 := ⟨_, rfl⟩
      have hpS : packS kind l = numS kind 2 ++ strOfNums [(th : Int), (tl : Int)] ++ ⟨(bodyL l).toArray⟩ := by
        rw [packS, if_pos hE0]
        apply ByteArray.ext
        apply Array.toList_inj.1
        rw [ByteArray.data_append, ByteArray.data_append, Array.toList_append, Array.toList_append, hnum, strOfNums_data]
        unfold packL
        rw [← hTT, ← hth, ← htl]
        simp
      have hzt : ((strOfNums [(th : Int), (tl : Int)]).size : Int) = 2 := by rw [strOfNums_size]; rfl
      have hc1 : ((T : Int) / 256) = (th : Int) := by omega
      have hc2 : IntKind.u8.wrap (th : Int) = (th : Int) := wraps_u8 _ (by omega) (by omega)
      have hc3 : IntKind.u8.wrap (T : Int) = (tl : Int) := by
        have h1 : IntKind.u8.wrap (T : Int) = (T : Int) % 256 := by simp [IntKind.wrap, IntKind.bits, IntKind.signed]
        rw [h1]; omega
      have hc4 : (T : Int) % 256 = (tl : Int) := by omega
      have hth8 : (th : Int) < 256 := by omega
      have htl8 : (tl : Int) < 256 := by omega
      have hcv := fun (x : World) => conv_twoW (x.alloc (.cells #[.int .u8 (th : Int), .int .u8 (tl : Int)] 5)) x.heap.size (th : Int) (tl : Int) (heap_alloc_new x _)
      have hwlt : w.heap.size < wr.heap.size := by omega
      have hcvd := conv_twoW (wr.alloc (.cells #[.int .u8 (th : Int), .int .u8 (tl : Int)] 5)).drew wr.heap.size (th : Int) (tl : Int) (heap_alloc_new wr _)
      have HPS := hide hpS; have HE0 := hide hE0; have HBWW := hide hbww
      generalize strOfNums [(th : Int), (tl : Int)] = s2 at *
      generalize (⟨(bodyL l).toArray⟩ : ByteArray) = s3 at *
      generalize numS kind 2 = s1 at *
      have hn1 : s1.size = 2 := by omega
      have hn2 : s2.size = 2 := by omega
      have hm1 : ¬ 9223372036854775807 < 4 + s3.size := by omega
      have hm2 : ¬ 9223372036854775807 < 2 + 2 + s3.size := by omega
      have hm3 : s3.size ≤ 200000 := by omega
      have hlti : ¬ (l.length : Int) < (l.length : Int) := by omega
      clear hzn hzt hzb
      clear hg hbu hbw hbww hEw hblen hnum hpS hE0 hlt hTT m0 hth htl hown0 hfr
      go_wp2_with fail
      go_region_with ((first
        | (go_at_call 18; refine (unhide NN _ ?_).mono ?_; (focus (first | exact (Below.refl _ _).drew | exact ((Below.refl wr.heap.size wr).drew).alloc (Nat.le_refl _) _ | exact (((Below.refl wr.heap.size wr)).alloc (Nat.le_refl _) _).drew)); rintro e v1 ⟨rfl, hv1⟩; have hw1 : Below wr.heap.size wr v1 := (by first | exact ((Below.refl wr.heap.size wr).drew).trans hv1 | exact (((Below.refl wr.heap.size wr).drew).alloc (Nat.le_refl _) _).trans (hv1.mono (by simp)) | exact (((Below.refl wr.heap.size wr).alloc (Nat.le_refl _) _).drew).trans (hv1.mono (by simp))); have HW1 := hide hw1; have hsz1 := hw1.size; (try (have hcw := conv_twoW v1 wr.heap.size (th : Int) (tl : Int) ((hv1.block wr.heap.size (by simp)).trans (heap_alloc_new _ _)); have HPR := hide ((hv1.block wr.heap.size (by simp)).trans (heap_alloc_new wr.drew _)))); clear hv1 hw1)
        | (go_at_call 19; refine (unhide NS _ ?_).mono ?_; (focus (first | exact unhide HW1 | exact (unhide HW1).alloc (unhide HW1).size _)); rintro e v2 ⟨rfl, hv2⟩; (try (have hcz := conv_twoW v2 v1.heap.size (th : Int) (tl : Int) ((hv2.2 v1.heap.size (fun v hv => unhide HOX _ ((unhide HW1).alloc (unhide HW1).size _) _ hsz1 v hv)).trans (heap_alloc_new v1 _)))); (try (have hcy := conv_twoW v2 wr.heap.size (th : Int) (tl : Int) ((hv2.2 wr.heap.size (fun v hv => unhide HOX _ (unhide HW1) _ (Nat.le_refl _) v hv)).trans (unhide HPR)))); have HV2 := hide hv2.1; have hsz2 := hv2.1.size; clear hv2)))
      all_goals
        have hfin : Below w.heap.size w v2 := (by first | exact (unhide HFB _ (unhide HW1)).trans ((unhide HV2).mono (by omega)) | exact (unhide HFB _ ((unhide HW1).alloc (unhide HW1).size _)).trans ((unhide HV2).mono (by omega)))
        have HFIN := hide hfin
        clear hfin
        go_wp2
        go_ret2
        refine ⟨by rw [unhide HPS, unhide HE0]; first | rfl | kernel_rfl | (simp [Act.put]; done), ?_⟩
        first | exact unhide HFIN | exact (unhide HFIN).alloc (unhide HFIN).size _ | exact ((unhide HFIN).alloc (unhide HFIN).size _).drew
end Go.Proofs.YtkmmgeoialdmlaaDoor
