/- wire's messageOf: the walk. -/
import Derived.Test.YtkmmgeoialdmlaaDoorWireM
import Derived.Lib.ConvBytes
namespace Go.Proofs.YtkmmgeoialdmlaaDoor
open Go.RowKit
set_option linter.unusedVariables false

def PRow (W : World) (ao : Option Addr) (l : List Prt) : Prop :=
  l = [] ∨ ∃ b off, ao = some ⟨b, off, none⟩ ∧ b < W.heap.size ∧ ∀ i p, l[i]? = some p → W.cell? ⟨b, off + i * 2, none⟩ = some (.int .i64 p.1) ∧ W.cell? ⟨b, off + i * 2 + 1, none⟩ = some (.string p.2)
theorem bitsL_next (l : List UInt8) (q : Nat) (b : UInt8) (h : l[q]? = some b) : bitsL (l.take (q + 1)) = bitsL (l.take q) * 256 + b.toNat := by
  rw [List.take_add_one, h, Option.toList_some]
  simp [bitsL]
theorem bitsL_lt (l : List UInt8) (h : l.length ≤ 1) : bitsL l < 256 := by
  match l, h with
  | [], _ => decide
  | [b], _ => simpa [bitsL] using b.toNat_lt
theorem bitsL_lt2 (l : List UInt8) (h : l.length ≤ 2) : bitsL l < 65536 := by
  match l, h with
  | [], _ => decide
  | [b], _ => have := b.toNat_lt; simp [bitsL]; omega
  | [a, b], _ => have := b.toNat_lt; have := a.toNat_lt; simp [bitsL]; omega
theorem set_otherW {w : World} {b j q : Nat} {v : Value} (h : q ≠ b) : (w.setCell ⟨b, j, none⟩ v).heap[q]? = w.heap[q]? := by simp [World.setCell, Array.getElem?_modify, Ne.symm h]
theorem PRow.of_own {w : World} {base : Nat} {v : Value} {l : List Prt} (h : w.ownsRow base 45 2 v l.length (cellsPt l)) : ∃ pa c, v = .slice pa l.length c ∧ PRow w pa l := by
  have h0 := h
  rcases h.2 with ⟨rfl, h2⟩ | ⟨g, cap, cur, rfl, h3, h4, _⟩
  · have : l = [] := List.length_eq_zero_iff.1 h2
    subst this
    exact ⟨none, 0, rfl, .inl rfl⟩
  · refine ⟨_, cap, rfl, .inr ⟨g, 0, rfl, ?_, fun i p hp => ?_⟩⟩
    · rcases Nat.lt_or_ge g w.heap.size with hlt | hge
      · exact hlt
      · rw [Array.getElem?_eq_none hge] at h4; cases h4
    · have hc : ∀ (l : List Prt) (i : Nat) (p : Prt), l[i]? = some p → (cellsPt l)[i * 2]? = some (.int .i64 p.1) ∧ (cellsPt l)[i * 2 + 1]? = some (.string p.2) := by
        intro l
        induction l with
        | nil => intro i p h; cases h
        | cons x r ih =>
          intro i p h
          cases i with
          | zero => cases h; exact ⟨rfl, rfl⟩
          | succ i =>
            have := ih i p h
            rw [show (i + 1) * 2 = i * 2 + 2 by omega]
            exact this
      have k1 := h0.cells (g := g) rfl _ _ (hc l i p hp).1
      have k2 := h0.cells (g := g) rfl _ _ (hc l i p hp).2
      rw [Addr.add_lit] at k1 k2
      exact ⟨by rw [Nat.zero_add] at k1 ⊢; exact k1, by rw [Nat.zero_add] at k2 ⊢; exact k2⟩
/-- behind n - 1 fields -/
def MInv (w : World) (mb base : Nat) (kd : Int) (T : Nat) (L : List Prt) (nv : Value) (wx : World) : Prop :=
  ∃ (n : Nat) (l : List Prt) (v : Value) (rest : ByteArray), 1 ≤ n ∧ n ≤ 17 ∧ nv = .int .i64 (n : Int) ∧ RestAt wx (w.heap.size + 1) rest ∧ rest.size ≤ 9223372036854775807 ∧ MsgAt wx mb base kd v l ∧ l ++ readP (17 - n) n T rest.data.toList = L ∧ Below w.heap.size w wx ∧ base ≤ wx.heap.size ∧ wx.heap[w.heap.size]? = some (.cells #[.int .i64 0, .slice none 0 0] 24 (0, 0))
/-- one field more -/
theorem msg_more {w w9 v1 v2 w3 : World} {mb base n g cap : Nat} {kd : Int} {T : Nat} {L l : List Prt} {v : Value} {tx rx : ByteArray} (hrbb : w.heap.size + 1 < base) (hmw : w.heap.size + 2 ≤ mb) (hbs : base ≤ w9.heap.size) (hn1 : 1 ≤ n) (hn : n ≤ 16)
    (hb5 : Below w.heap.size w w9) (hx5 : w9.heap[w.heap.size]? = some (.cells #[.int .i64 0, .slice none 0 0] 24 (0, 0))) (hb1 : Below w9.drew.heap.size w9.drew v1) (hk2 : KeepR (w.heap.size + 1) v1 v2) (hr2 : RestAt v2 (w.heap.size + 1) rx) (htz : rx.size ≤ 9223372036854775807)
    (hm2 : MsgAt v2 mb base kd v l) (hg3 : (v2.alloc (.cells #[.int .i64 (n : Int), .string tx] 45)).grownBy w3 v.ownBlock)
    (ho3 : w3.ownsRow base 45 2 (.slice (some ⟨g, 0, none⟩) (l.length + 1) cap) (l.length + 1) (cellsPt l ++ [.int .i64 (n : Int), .string tx])) (hb3 : w3.heap[mb]? = some (.cells #[.int .i64 kd, v] 24 (0, 0)))
    (hl5 : l ++ ((n : Int), ⟨tx.data.toList.toArray⟩) :: readP (16 - n) (n + 1) T rx.data.toList = L) (iv : Value) (hiv : iv = .int .i64 ((n + 1 : Nat) : Int)) :
    MInv w mb base kd T L iv (w3.setCell ⟨mb, 1, none⟩ (.slice (some ⟨g, 0, none⟩) (l.length + 1) cap)) := by
  have hs1 : w9.heap.size ≤ v1.heap.size := hb1.size
  have hs2 := hk2.size
  have hmb := hm2.lt
  have hKE : ∀ q, q < v2.heap.size → q ≠ mb → q < base → (w3.setCell ⟨mb, 1, none⟩ (.slice (some ⟨g, 0, none⟩) (l.length + 1) cap)).heap[q]? = v2.heap[q]? := fun q hq hqm hqb =>
    (set_otherW hqm).trans ((hg3.block q (by simp; omega) (fun e => by have := (hm2.block q e.symm).1; omega)).trans (Below.heap_alloc _ _ _ hq))
  have hq2 : Below w.heap.size w v2 := (hb5.trans ((((Below.refl w9.heap.size w9).drew).trans hb1).mono hb5.size)).trans ((hk2.below (by omega)).mono (by omega))
  refine ⟨n + 1, l ++ [((n : Int), tx)], .slice (some ⟨g, 0, none⟩) (l.length + 1) cap, rx, by omega, by omega, hiv, hr2.kept (hKE _ (by omega) (by omega) (by omega)), htz, ⟨?_, ?_, hmb⟩, ?_, ?_, ?_, ?_⟩
  · rw [setCell_eq_setRow w3 mb 1 _ _ _ _ hb3, setRow_heap w3 mb _ _ _ _ hb3]
    rfl
  · rw [cellsPt_snoc, List.length_append]
    exact ownsRow_setCell_below ho3 hmb _
  · rw [show 17 - (n + 1) = 16 - n by omega, List.append_assoc]
    simpa using hl5
  · exact ((hq2.alloc (by have := hb5.size; omega) _).grown hg3 (by simp; have := hb5.size; omega) (fun q hq => by have := (hm2.block q hq).1; omega)).setCell (p := ⟨mb, 1, none⟩) (by show w.heap.size ≤ mb; omega) _
  · have := hg3.size
    simp at this ⊢
    omega
  · exact (hKE _ (by omega) (by omega) (by omega)).trans ((hk2.block _ (by have := hb5.size; omega) (by omega)).trans ((hb1.block w.heap.size (by show w.heap.size < w9.heap.size; omega)).trans hx5))
set_option maxRecDepth 100000 in
set_option maxHeartbeats 8000000 in
theorem messageOf_any (s : ByteArray) (hs : s.size ≤ 9223372036854775807) (w : World) (he : Env w) (h4 : 4 ≤ w.heap.size) :
    Calls Tryd.prog 24 #[.string s] w fun e w' => ∃ pa c, e = .returned (.agg #[.int .i64 (msgP s.data.toList).1, .slice pa (msgP s.data.toList).2.length c]) ∧ PRow w' pa (msgP s.data.toList).2 ∧ Below w.heap.size w w' := by
  obtain ⟨W0, hW0⟩ : ∃ W0, W0 = (w.alloc (.cells #[.int .i64 0, .slice none 0 0] 24)).alloc (.cells #[.string s] 84) := ⟨_, rfl⟩
  have hB0 : Below w.heap.size w W0 := by rw [hW0]; exact ((Below.refl _ _).alloc (Nat.le_refl _) _).alloc (by simp) _
  have hS0 : W0.heap.size = w.heap.size + 2 := by rw [hW0]; simp
  have hX0 : W0.heap[w.heap.size]? = some (.cells #[.int .i64 0, .slice none 0 0] 24 (0, 0)) := by
    rw [hW0]; exact (Below.heap_alloc _ _ _ (by simp)).trans (heap_alloc_new _ _)
  have hR0 : RestAt W0 (w.heap.size + 1) s := by
    rw [hW0]
    have e1 : (w.alloc (.cells #[.int .i64 0, .slice none 0 0] 24)).heap.size = w.heap.size + 1 := by simp
    unfold RestAt
    rw [← e1]; exact heap_alloc_new _ _
  have N1 := hide (rnum_any 2 (by omega) s hs (w.heap.size + 1) (by omega) W0 hR0 (he.below hB0 h4))
  have hz2 : (takeB 2 s).size ≤ maxLen := Nat.le_trans (takeB_size _ _) (by unfold maxLen; omega)
  have N2 := hide (fun w' (h' : RestAt w' (w.heap.size + 1) (takeB 2 s)) => rtake_any 2 (takeB 2 s) hz2 (w.heap.size + 1) w' h' (by omega) (by omega))
  -- what is read
  have hm1 : (msgP s.data.toList).1 = atoiN (takeA 2 s).data.toList := by
    unfold msgP numL
    have := take_list 2 s
    rw [show ((2 : Nat) : Int) = 2 from rfl, this]
  have hm2 : (msgP s.data.toList).2 = readP 16 1 (bitsL (takeA 2 (takeB 2 s)).data.toList) (takeB 2 (takeB 2 s)).data.toList := by
    unfold msgP numL
    have h1 := take_list 2 s
    have h2 := take_list 2 (takeB 2 s)
    rw [show ((2 : Nat) : Int) = 2 from rfl, h1]
    simp only
    rw [h2]
  have ha2 : (takeA 2 (takeB 2 s)).size ≤ 2 := by
    rw [takeA, ByteArray.size_extract, takeK]
    omega
  have hrz : (takeB 2 (takeB 2 s)).size ≤ 9223372036854775807 := Nat.le_trans (takeB_size _ _) (Nat.le_trans (takeB_size _ _) hs)
  rw [hm1, hm2]
  have eN : ((2 : Nat) : Int) = 2 := rfl
  rw [eN] at N1
  generalize atoiN (takeA 2 s).data.toList = kd at *
  generalize takeB 2 s = s1 at *
  generalize takeA 2 s1 = a at *
  generalize takeB 2 s1 = r at *
  obtain ⟨L, hL⟩ : ∃ L, L = readP 16 1 (bitsL a.data.toList) r.data.toList := ⟨_, rfl⟩
  rw [← hL]
  have hLl : L.length ≤ 16 := by
    have : ∀ f n b l, (readP f n b l).length ≤ f := by
      intro f
      induction f with
      | zero => intro n b l; exact Nat.le_refl _
      | succ f ih =>
        intro n b l
        simp only [readP]
        split
        · rw [List.length_cons]; have := ih (n + 1) b (partL n l).2; omega
        · have := ih (n + 1) b l; omega
    rw [hL]; exact this 16 1 _ _
  have HL := hide hL
  clear hL
  have HW0 := hide hW0; have HS0 := hide hS0; have HB0 := hide hB0; have HX0 := hide hX0
  have HE := hide he
  have hcv := fun w' => Lib.run_convert_string_bytes (P := Tryd.prog) w' 9 41 5 a Tryd.underlying9 Tryd.underlying41 Tryd.underlying5
  clear hW0 hS0 hB0 hR0 hz2 hm1 hm2 eN hX0 he hs
  go_enter Tryd.func24, Tryd.ntmps24
  go_upto_region 2 with fail
  rw [← unhide HW0]
  go_wp2_with fail
  refine (unhide N1).mono ?_
  rintro e w1 ⟨rfl, hr1, hk1⟩
  obtain ⟨W2, hW2⟩ : ∃ W2, W2 = w1.alloc (.cells #[.int .i64 kd, .slice none 0 0] 24) := ⟨_, rfl⟩
  have hB2 : Below w1.heap.size w1 W2 := by rw [hW2]; exact (Below.refl _ _).alloc (Nat.le_refl _) _
  have hS2 : W2.heap.size = w1.heap.size + 1 := by rw [hW2]; simp
  have hM2 : W2.heap[w1.heap.size]? = some (.cells #[.int .i64 kd, .slice none 0 0] 24 (0, 0)) := by rw [hW2]; exact heap_alloc_new _ _
  have hr2 : RestAt W2 (w.heap.size + 1) s1 := hr1.kept (hB2.block _ hr1.lt)
  have N3 := hide (unhide N2 W2 hr2)
  have hs1 := hk1.size
  have hs0 := unhide HS0
  have HK2 := hide (hk1.trans (KeepR.of_below hB2))
  have HM2 := hide hM2; have HW2 := hide hW2; have HS2 := hide hS2
  have hmb : w.heap.size + 2 ≤ w1.heap.size := by omega
  clear hr1 hk1 hB2 hS2 hM2 hr2 hW2 N1 N2 hs1 hs0
  go_upto_region 4 with fail
  rw [← unhide HW2]
  go_wp2_with fail
  refine (unhide N3).mono ?_
  rintro e w3 ⟨rfl, hr3, hk3⟩
  go_upto_region 5 with fail
  obtain ⟨W4, hW4⟩ : ∃ W4, W4 = Lib.bytesWorld w3 5 a := ⟨_, rfl⟩
  have hB4 : Below w3.heap.size w3 W4 := by
    rw [hW4]
    exact ⟨rfl, rfl, rfl, by rw [Lib.bytesWorld_size]; omega, fun k hk => Lib.bytesWorld_at_old _ _ _ _ hk⟩
  have hrow : ∀ q, q < a.size → W4.cell? ⟨w3.heap.size, q, none⟩ = some (.int .u8 (a.data.toList.getD q 0).toNat) := by
    intro q hq
    rw [hW4]
    exact Lib.bytesWorld_cell w3 5 a q hq
  rw [← hW4]
  have hKK : KeepR (w.heap.size + 1) W0 W4 := (unhide HK2).trans (hk3.trans (KeepR.of_below hB4))
  have hr4 : RestAt W4 (w.heap.size + 1) r := hr3.kept (hB4.block _ hr3.lt)
  have hM4 : W4.heap[w1.heap.size]? = some (.cells #[.int .i64 kd, .slice none 0 0] 24 (0, 0)) := by
    have h2 := unhide HS2
    have h3 := hk3.size
    exact ((hB4.block _ (by omega)).trans (hk3.block _ (by omega) (by omega))).trans (unhide HM2)
  have hX4 : W4.heap[w.heap.size]? = some (.cells #[.int .i64 0, .slice none 0 0] 24 (0, 0)) := (hKK.block _ (by have := unhide HS0; omega) (by omega)).trans (unhide HX0)
  have hB04 : Below w.heap.size w W4 := (unhide HB0).trans ((hKK.below (by have := unhide HS0; omega)).mono (by omega))
  have hmb4 : w1.heap.size < W4.heap.size := by have := unhide HS2; have := hk3.size; have := hB4.size; omega
  generalize grownCap w3 a.size 0 5 = cp
  have HROW := hide hrow
  have HR4 := hide hr4; have HM4 := hide hM4; have HX4 := hide hX4; have HB04 := hide hB04
  clear hcv hW4 hB4 hr3 hk3 hKK hr4 hM4 hX4 hB04 N3 hrow
  have hai : (a.size : Int) ≤ 2 := by omega
  have haz : a.data.toList.length = a.size := by rw [Array.length_toList]; rfl
  go_loopw [19, 5] (fun iv tv wx => ∃ q T : Nat, q ≤ a.size ∧ iv = .int .i64 (q : Int) ∧ tv = .int .i64 (T : Int) ∧ T = bitsL (a.data.toList.take q) ∧ wx = W4) (fun iv _ _ => a.size - (intOf iv).toNat)
  case atStart => exact ⟨0, 0, Nat.zero_le _, rfl, rfl, rfl, rfl⟩
  case round =>
    obtain ⟨q, T, hq, rfl, rfl, hT, rfl⟩ := hrel
    by_cases hlt : q < a.size
    · obtain ⟨x, hx⟩ : ∃ x, a.data.toList[q]? = some x := ⟨_, List.getElem?_eq_getElem (by rw [haz]; exact hlt)⟩
      have hc := unhide HROW q hlt
      have hxd : a.data.toList.getD q 0 = x := by rw [List.getD_eq_getElem?_getD, hx]; rfl
      rw [hxd] at hc
      have hx8 := x.toNat_lt
      have hnext := bitsL_next _ _ _ hx
      have hT8 : T < 256 := by rw [hT]; exact bitsL_lt _ (by rw [List.length_take]; omega)
      have hor := or_low T x.toNat hT8 (by simpa using hx8)
      have hlti : (q : Int) < (a.size : Int) := by omega
      have hTi : (T : Int) < 256 := by omega
      have HT2 : Hid (T * 256 + x.toNat = bitsL (a.data.toList.take (q + 1))) := hide (by rw [hnext, hT])
      generalize x.toNat = xn at *
      have hxi : (xn : Int) < 256 := by have : xn < 256 := by simpa using hx8
                                        omega
      have hsum : (((T * 256 + xn : Nat) : Int)) ≤ 65535 := by omega
      clear hT hnext hx hxd hx8
      obtain ⟨T2, hT2⟩ : ∃ T2, T2 = T * 256 + xn := ⟨_, rfl⟩
      rw [← hT2] at hor hsum HT2
      clear hT2
      have hwx : IntKind.i64.wrap (xn : Int) = (xn : Int) := wraps_i64 _ (by omega) (by omega)
      go_wp2_with fail
      refine ⟨⟨q + 1, T2, by omega, by go_num, rfl, unhide HT2, by trivial⟩, ?_⟩
      simp [intOf]; omega
    · have hlti : ¬ (q : Int) < (a.size : Int) := by omega
      have hqa : q = a.size := by omega
      have hTa : T = bitsL a.data.toList := by rw [hT, hqa, ← haz, List.take_length]
      have hT16 : T < 65536 := by rw [hTa]; exact bitsL_lt2 _ (by rw [haz]; exact ha2)
      have hLT : L = readP 16 1 T r.data.toList := by rw [unhide HL, hTa]
      obtain ⟨base, hbase⟩ : ∃ base, base = wr.heap.size := ⟨_, rfl⟩
      obtain ⟨mb, hmbe⟩ : ∃ mb, mb = w1.heap.size := ⟨_, rfl⟩
      rw [← hmbe] at HM4 hmb4 hmb
      have hI0 : MInv w mb base kd T L (.int .i64 1) wr := ⟨1, [], .slice none 0 0, r, by omega, by omega, rfl, unhide HR4, hrz, ⟨unhide HM4, World.ownsRow_nil _ _ _ _, by omega⟩, by rw [hLT]; rfl, unhide HB04, by omega, unhide HX4⟩
      have HI0 := hide hI0
      have hrbb : w.heap.size + 1 < base := by omega
      rw [← hmbe]
      obtain ⟨i0, hi0, hz0, hz1, hz2⟩ := info_partsY infoPart
      have HI := hide hi0; have Z0 := hide hz0; have Z1 := hide hz1; have Z2 := hide hz2
      clear hT hqa hTa hlt HROW hLT hI0 HR4 HM4 HB04 HX4 hmbe HL hi0 hz0 hz1 hz2 HW0 HS0 HB0 HX0 HK2 HM2 HW2 HS2 hbase
      go_wp2_with fail
      go_loopw [8] (fun nv wx => MInv w mb base kd T L nv wx) (fun nv _ => 17 - (intOf nv).toNat)
      case atStart => exact unhide HI0
      case round =>
        obtain ⟨n, l, v, rest, hn1, hn17, rfl, hr5, hrz5, hm5, hl5, hb5, hbs5, hx5⟩ := hrel
        clear HI0
        by_cases hn : n ≤ 16
        · have hni : (n : Int) ≤ 16 := by omega
          have N1 := hide (fun w => bit_any n hn1 hn w)
          have hand := and_bit T n hT16 hn1 hn
          have hf : 17 - n = (16 - n) + 1 := by omega
          rw [hf] at hl5
          simp only [readP] at hl5
          by_cases hbt : T / 2 ^ (16 - n) % 2 = 1
          · rw [decide_eq_true hbt] at hand
            rw [if_pos hbt, part_list] at hl5
            have hEw := (unhide HE).below hb5 h4
            have N2 := hide (formOf_any n hn1 hn wr.drew (hEw.forms.below (B := wr.heap.size) ((Below.refl _ _).drew) (by have := hb5.size; omega)))
            have N3 := hide (fun v1 (hv1 : Below wr.drew.heap.size wr.drew v1) => rpart_any n hn1 hn rest hrz5 (w.heap.size + 1) (by omega) v1 (hr5.kept (hv1.block _ hr5.lt)) (hEw.below (B := wr.heap.size) (((Below.refl wr.heap.size wr).drew).trans hv1) (by have := hb5.size; omega)))
            have c1 : wr.cell? ⟨mb, 1, none⟩ = some v := (cell_of_row _ _ 1 _ _ _ hm5.blk).trans rfl
            have hlen : l.length ≤ 15 := by
              have := congrArg List.length hl5
              rw [List.length_append, List.length_cons] at this
              omega
            obtain ⟨tx, htx⟩ : ∃ tx, tx = partA n rest := ⟨_, rfl⟩
            obtain ⟨rx, hrx⟩ : ∃ rx, rx = partB n rest := ⟨_, rfl⟩
            rw [← htx, ← hrx] at hl5 N3
            have htz : rx.size ≤ 9223372036854775807 := by
              rw [hrx]; unfold partB; split
              · exact Nat.le_trans (takeB_size _ _) (Nat.le_trans (takeB_size _ _) hrz5)
              · exact Nat.le_trans (takeB_size _ _) hrz5
            have hmlt : mb < wr.heap.size := by have := hm5.lt; omega
            have HM5 := hide hm5; have HB5 := hide hb5; have HX5 := hide hx5; have HR5 := hide hr5; have HL5 := hide hl5; have HTZ := hide htz
            have hsz5 := hb5.size
            clear hm5 hb5 hx5 hr5 hl5 htx hrx hEw hrz5 hf htz
            go_wp2_with fail
            refine (unhide N1 _).mono ?_
            rintro e w9 ⟨rfl, rfl⟩
            go_upto_region 13 with fail
            go_region_law ((first
              | (refine step_call1 (by rfl) 14 _ _ (by rfl) (.int .i64 (n : Int)) (by rfl) ent_form (unhide N2) ?_; rintro e v1 ⟨rfl, hb1⟩; refine ⟨_, rfl, ?_⟩; have d1 : v1.cell? ⟨mb, 1, none⟩ = some v := (hb1.cell (p := ⟨mb, 1, none⟩) hmlt).trans c1; have HB1 := hide hb1; have hmlt1 : mb < v1.heap.size := Nat.lt_of_lt_of_le hmlt hb1.size; clear hb1)
              | (refine step_call2 (by rfl) 40 _ _ _ (by rfl) (.pointer (some ⟨w.heap.size + 1, 0, none⟩)) (formV n) (by rfl) (by rfl) ent_part (unhide N3 v1 (unhide HB1)) ?_; rintro e v2 ⟨rfl, hr2, hk2⟩; refine ⟨_, rfl, ?_⟩; have hm2 : MsgAt v2 mb base kd v l := ((unhide HM5).kept ((unhide HB1).block mb hmlt) (fun q hq => (unhide HB1).block q ((unhide HM5).block q hq).2)).keep hk2 (by omega) hrbb (Nat.le_trans hbs5 (unhide HB1).size); have g1 : v2.cell? ⟨mb, 1, none⟩ = some v := (cell_of_row _ _ 1 _ _ _ hm2.blk).trans rfl; have HR2 := hide hr2; have HK2 := hide hk2; have HM2 := hide hm2; have hmlt2 : mb < v2.heap.size := Nat.lt_of_lt_of_le hmlt1 hk2.size; clear hr2 hk2 hm2)
              | (refine step_append_lies (v2.alloc (.cells #[.int .i64 (n : Int), .string tx] 45)) (by rfl) _ _ _ (by rfl) base 45 i0 (.agg #[.int .i64 0, .string ⟨#[]⟩]) 2 24 Tryd.underlying22 (unhide HI) (unhide Z0) (unhide Z1) (unhide Z2) rfl (by decide) v l.length (cellsPt l) (by rfl) ((unhide HM2).own.alloc _) ⟨v2.heap.size, 0, none⟩ 1 1 [.int .i64 (n : Int), .string tx] (by rfl) (by rfl) (World.news_of_block (heap_alloc_new _ _)) (by simp [Value.oneCell']) (by decide) (by unfold maxLen; omega) (by omega) (by simp; have := (unhide HB1).size; have := (unhide HK2).size; have : w9.heap.size ≤ v1.heap.size := (unhide HB1).size; omega) (v2.heap.size + 1) (by simp) ?_; intro g cap3 w3' own3 hgrow3 hat3 hlt3; have hb3 : w3'.heap[mb]? = some (.cells #[.int .i64 kd, v] 24 (0, 0)) := ((hgrow3.block mb (by simp; omega) (fun e' => by have := ((unhide HM2).block mb e'.symm).1; have := (unhide HM2).lt; omega)).trans (Below.heap_alloc _ _ _ hmlt2)).trans (unhide HM2).blk; have k1 : w3'.cell? ⟨mb, 1, none⟩ = some v := (cell_of_row _ _ 1 _ _ _ hb3).trans rfl; have kf : w3'.frozen? ⟨mb, 1, none⟩ = false := frozen_of_row _ _ 1 _ _ hb3; have HO3 := hide own3; have HG3 := hide hgrow3; have HB3 := hide hb3; have hmlt3 : mb < w3'.heap.size := Nat.lt_of_lt_of_le (by simp; omega) hgrow3.size; clear own3 hgrow3 hat3 hb3)))
            all_goals
              go_wp2_with fail
              refine ⟨msg_more hrbb hmb hbs5 hn1 hn (unhide HB5) (unhide HX5) (unhide HB1) (unhide HK2) (unhide HR2) (unhide HTZ) (unhide HM2) (unhide HG3) (unhide HO3) (unhide HB3) (unhide HL5) _ (by go_num), ?_⟩
              simp [intOf]; omega
          · rw [decide_eq_false hbt] at hand
            rw [if_neg hbt] at hl5
            have HM5 := hide hm5; have HB5 := hide hb5; have HX5 := hide hx5; have HR5 := hide hr5; have HL5 := hide hl5
            clear hm5 hb5 hx5 hr5 hl5 hf
            go_wp2_with fail
            refine (unhide N1 _).mono ?_
            rintro e w9 ⟨rfl, rfl⟩
            go_wp2_with fail
            go_roundw
            case rel => exact ⟨n + 1, l, v, rest, by omega, by omega, by go_num, unhide HR5, hrz5, unhide HM5, by rw [show 17 - (n + 1) = 16 - n by omega]; exact unhide HL5, unhide HB5, hbs5, unhide HX5⟩
            case measure => simp [intOf]; omega
        · have hni : ¬ (n : Int) ≤ 16 := by omega
          have hn17' : n = 17 := by omega
          subst hn17'
          have hlL : l = L := by simpa [readP] using hl5
          subst hlL
          obtain ⟨pa, c, rfl, hrow⟩ := PRow.of_own hm5.own
          have c0 : wr.cell? ⟨mb, 0, none⟩ = some (.int .i64 kd) := (cell_of_row _ _ 0 _ _ _ hm5.blk).trans rfl
          have c1 : wr.cell? ⟨mb, 1, none⟩ = some (.slice pa l.length c) := (cell_of_row _ _ 1 _ _ _ hm5.blk).trans rfl
          have x0 : wr.cell? ⟨w.heap.size, 0, none⟩ = some (.int .i64 0) := (cell_of_row _ _ 0 _ _ _ hx5).trans rfl
          have x1 : wr.cell? ⟨w.heap.size, 1, none⟩ = some (.slice none 0 0) := (cell_of_row _ _ 1 _ _ _ hx5).trans rfl
          have f0 : wr.frozen? ⟨w.heap.size, 0, none⟩ = false := frozen_of_row _ _ 0 _ _ hx5
          have f1 : wr.frozen? ⟨w.heap.size, 1, none⟩ = false := frozen_of_row _ _ 1 _ _ hx5
          have HRW := hide hrow; have HM5 := hide hm5; have HB5 := hide hb5
          clear hrow hm5 hb5 hx5 hr5 hl5
          go_wp2_with fail
          refine bodyPost_ret (v := .agg #[.int .i64 kd, .slice pa l.length c]) (by simp [results, Tryd.results24, go_sem, x0, x1]) rfl ⟨pa, ⟨c, rfl⟩, ?_, ?_⟩
          · have ho := ownsRow_setCell_below (ownsRow_setCell_below (unhide HM5).own (a := ⟨w.heap.size, 0, none⟩) (by show w.heap.size < base; omega) (.int .i64 kd)) (a := ⟨w.heap.size, 1, none⟩) (by show w.heap.size < base; omega) (.slice pa l.length c)
            obtain ⟨pa', c', e', hp⟩ := PRow.of_own ho
            cases e'
            exact hp
          · exact ((unhide HB5).setCell (p := ⟨w.heap.size, 0, none⟩) (Nat.le_refl _) _).setCell (p := ⟨w.heap.size, 1, none⟩) (Nat.le_refl _) _
end Go.Proofs.YtkmmgeoialdmlaaDoor
