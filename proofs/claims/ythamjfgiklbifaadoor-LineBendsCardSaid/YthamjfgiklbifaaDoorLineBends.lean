/- For every block, place and change: a frame that Frame made is read as its block, and one in which bits were turned, all of them within 16 that stand next to each other, is not taken. The table of the sum starts as the program's text lays it (tied). No other conditions. -/
import Derived.Test.YthamjfgiklbifaaDoorBends0
import Derived.Test.YthamjfgiklbifaaDoorLineCard
import Derived.Test.YthamjfgiklbifaaDoorCards
import Derived.Lib.ConvBytes
import Derived.BigRegion
namespace Go.Proofs.YthamjfgiklbifaaDoor
open Go.ChangeShapes Go.WideShapes Go.ChangeAt Go.RowKit
open Go.ChangeMaps (open_string shut_string)
set_option linter.unusedVariables false
attribute [local go_sem ↓] Go.wp_at_zero Go.wp_at_succ

theorem choose_any (c N : Int) (n : Nat) (hN : N = n) (w : World) (h0 : -9223372036854775808 ≤ c) (h1 : c ≤ 9223372036854775807) (hn : 0 < n) (hn2 : n ≤ 100000) :
    Calls Tryd.prog 11 #[.int .i64 c, .int .i64 N] w fun e w' => (∃ r : Nat, r < n ∧ e = .returned (.int .i64 r)) ∧ w' = w := by
  subst hN
  by_cases hc : c < 0
  · have e : -((c + 1).tmod (n : Int)) = (-(c + 1)) % (n : Int) := by rw [← Int.neg_tmod, Int.tmod_eq_emod_of_nonneg (by omega)]
    have HE := hide e
    clear e
    go_enter Tryd.func11, Tryd.ntmps11
    go_wp2
    go_ret
    refine ⟨⟨((-(c + 1)) % (n : Int)).toNat, ?_, ret_int ?_⟩, rfl⟩
    · have := Int.emod_lt_of_pos (-(c + 1)) (show (0 : Int) < n by omega)
      have := Int.emod_nonneg (-(c + 1)) (show (n : Int) ≠ 0 by omega)
      omega
    · have := Int.emod_nonneg (-(c + 1)) (show (n : Int) ≠ 0 by omega)
      have := unhide HE
      omega
  · go_enter Tryd.func11, Tryd.ntmps11
    go_wp2
    go_ret
    refine ⟨⟨(c % (n : Int)).toNat, ?_, ret_int ?_⟩, rfl⟩
    · have := Int.emod_lt_of_pos c (show (0 : Int) < n by omega)
      have := Int.emod_nonneg c (show (n : Int) ≠ 0 by omega)
      omega
    · have := Int.emod_nonneg c (show (n : Int) ≠ 0 by omega)
      omega

theorem and_low (x : Int) : ∃ c : Nat, c < 65536 ∧ bits .and .i64 x 65535 = (c : Int) := by
  refine ⟨(BitVec.ofInt 64 x &&& BitVec.ofInt 64 65535).toNat, ?_, ?_⟩
  · rw [BitVec.toNat_and]
    exact Nat.lt_of_le_of_lt Nat.and_le_right (by decide)
  · have hlt : (BitVec.ofInt 64 x &&& BitVec.ofInt 64 65535).toNat < 65536 := by
      rw [BitVec.toNat_and]
      exact Nat.lt_of_le_of_lt Nat.and_le_right (by decide)
    simp only [bits]
    exact wraps_i64 _ (by omega) (Int.lt_of_lt_of_le (Int.ofNat_lt.2 hlt) (by decide))

set_option maxRecDepth 100000 in
set_option maxHeartbeats 4000000 in
theorem walkBendsNo (t n : Int) (m h : Bool) (b : ByteArray) (a1 a2 : Int) (w : World) (hb : b.size ≤ maxLen) (ht : Tab w) (hw0 : 0 < w.heap.size) (he : checkE t n m h b ≠ 0) :
    Calls Tryd.prog 4 #[blk t n m h b, .int .i64 a1, .int .i64 a2] w fun e w' => e = .returned (.bool true) ∧ Below w.heap.size w w' := by
  have n1 := fun w' (ht : Tab w') (h0 : 0 < w'.heap.size) => frame_all t n m h b w' ht h0 hb
  rw [fText_no he] at n1
  generalize checkE t n m h b = er at *
  have he' : (er != 0) = true := by simpa using he
  have N1 := hide n1
  clear n1 he
  have b0 := fun o => (Below.refl w.heap.size w).alloc (Nat.le_refl _) o
  go_enter Tryd.func4, Tryd.ntmps4
  go_wp2_with fail
  refine (unhide N1 _ ?_ ?_).mono ?_
  · exact ht.below (b0 _) hw0
  · simp
  rintro e1 w1 ⟨rfl, hb1⟩
  have hw1 : Below w.heap.size w w1 := (b0 _).trans (hb1.mono (by simp))
  clear hb1 b0
  go_wp2
  go_ret
  exact ⟨rfl, hw1⟩

theorem bentTo_succ (F : List UInt8) (at0 c j : Nat) : bentTo F at0 c (j + 1) = if c / 2 ^ j % 2 = 1 ∧ at0 + j < 8 * F.length then flipL (bentTo F at0 c j) (at0 + j) else bentTo F at0 c j := rfl
theorem xor_u8 (y p : Nat) (hy : y < 256) : bits .xor .u8 (y : Int) (128 / 2 ^ p) = ((y ^^^ 128 / 2 ^ p : Nat) : Int) := by
  rw [show ((128 : Int) / 2 ^ p) = ((128 / 2 ^ p : Nat) : Int) by simp, xor_nat .u8 8 (by decide) wraps_u8 y _ (by omega) (Nat.lt_of_le_of_lt (Nat.div_le_self _ _) (by decide))]
theorem row_flip {wr : World} {G : Nat} {L : List UInt8} {N k y : Nat} (hN : L.length = N) (hk : k / 8 < N) (hy : y = (L.getD (k / 8) 0).toNat) (hy6 : y < 256)
    (hrw : ∀ q, q < N → wr.cell? ⟨G, q, none⟩ = some (.int .u8 (L.getD q 0).toNat)) :
    ∀ q, q < N → (wr.setCell ⟨G, k / 8, none⟩ (.int .u8 ((y ^^^ 128 / 2 ^ (k % 8) : Nat) : Int))).drew.cell? ⟨G, q, none⟩ = some (.int .u8 ((flipL L k).getD q 0).toNat) := by
  intro q hq
  show (wr.setCell ⟨G, k / 8, none⟩ _).cell? ⟨G, q, none⟩ = _
  have hx : y ^^^ 128 / 2 ^ (k % 8) < 256 := Nat.xor_lt_two_pow (n := 8) hy6 (Nat.lt_of_le_of_lt (Nat.div_le_self _ _) (by decide))
  by_cases h : q = k / 8
  · subst h
    rw [World.cell?_setCell_same _ _ _ (hrw _ hq)]
    unfold flipL
    rw [List.getD_eq_getElem?_getD (l := L.set _ _), List.getElem?_set_self (by omega), Option.getD_some, UInt8.toNat_ofNat', ← hy, show (y ^^^ 128 / 2 ^ (k % 8)) % 2 ^ 8 = y ^^^ 128 / 2 ^ (k % 8) from Nat.mod_eq_of_lt (by simpa using hx)]
  · rw [World.cell?_setCell_other _ _ _ _ (by intro e; exact h (by have := congrArg Addr.off e; simpa using this.symm)), hrw _ hq]
    unfold flipL
    rw [List.getD_eq_getElem?_getD (l := L.set _ _), List.getElem?_set_ne (by omega), ← List.getD_eq_getElem?_getD]

set_option maxRecDepth 100000 in
set_option maxHeartbeats 4000000 in
theorem walkBendsYes (t n : Int) (m h : Bool) (b : ByteArray) (a1 a2 : Int) (w : World) (p0 : -9223372036854775808 ≤ a1) (p1 : a1 ≤ 9223372036854775807) (hb : b.size ≤ 32) (ht : Tab w) (hw0 : 0 < w.heap.size) (he : checkE t n m h b = 0) :
    Calls Tryd.prog 4 #[blk t n m h b, .int .i64 a1, .int .i64 a2] w fun e w' => e = .returned (.bool true) ∧ Below w.heap.size w w' := by
  have n1 := fun w' (ht : Tab w') (h0 : 0 < w'.heap.size) => frame_all t n m h b w' ht h0 (by unfold maxLen; omega)
  rw [fText_ok he, he] at n1
  obtain ⟨r0, r1, r2, r3, r4, r5⟩ := roundtrip t n m h b he
  have hsz := frameS_size t n m h b
  generalize frameS t n m h b = s at *
  have n2 := fun w' (ht : Tab w') (h0 : 0 < w'.heap.size) => unframe_all s w' ht h0 (by unfold maxLen; omega)
  rw [r0, r1, r2, r3, r4, r5] at n2
  obtain ⟨c, c6, hc⟩ := and_low a2
  have hs1 : 4 ≤ s.size := by omega
  have hs2 : s.size ≤ 36 := by omega
  have hcv := fun w' => Lib.run_convert_string_bytes (P := Tryd.prog) w' 9 30 5 s Tryd.underlying9 Tryd.underlying30 Tryd.underlying5
  have n3 := fun w' => choose_any a1 (8 * (s.size : Int)) (8 * s.size) (by omega) w' p0 p1 (by omega) (by omega)
  have N1 := hide n1; have N2 := hide n2; have N3 := hide n3; have R0 := hide r0; have HS := hide hsz
  clear n1 n2 n3 r0 r1 r2 r3 r4 r5 he p0 p1 hb hsz
  have b0 := fun o => (Below.refl w.heap.size w).alloc (Nat.le_refl _) o
  go_enter Tryd.func4, Tryd.ntmps4
  go_wp2_with fail
  refine (unhide N1 _ ?_ ?_).mono ?_
  · exact ht.below (b0 _) hw0
  · simp
  rintro e1 w1 ⟨rfl, hb1⟩
  have c0 : w1.cell? ⟨w.heap.size, 0, none⟩ = some (.int .i64 t) := below_keep hb1 (a := ⟨w.heap.size, 0, none⟩) (v := .int .i64 t) (by simp)
  have c1 : w1.cell? ⟨w.heap.size, 1, none⟩ = some (.int .i64 n) := below_keep hb1 (a := ⟨w.heap.size, 1, none⟩) (v := .int .i64 n) (by simp)
  have c2 : w1.cell? ⟨w.heap.size, 2, none⟩ = some (.bool m) := below_keep hb1 (a := ⟨w.heap.size, 2, none⟩) (v := .bool m) (by simp)
  have c3 : w1.cell? ⟨w.heap.size, 3, none⟩ = some (.bool h) := below_keep hb1 (a := ⟨w.heap.size, 3, none⟩) (v := .bool h) (by simp)
  have c4 : w1.cell? ⟨w.heap.size, 4, none⟩ = some (.string b) := below_keep hb1 (a := ⟨w.heap.size, 4, none⟩) (v := .string b) (by simp)
  have hw1 : Below w.heap.size w w1 := (b0 _).trans (hb1.mono (by simp))
  have hz1 : w.heap.size < w1.heap.size := World.block_lt_of_cell? _ _ c0
  clear hb1 b0
  go_wp2_with fail
  refine (unhide N2 _ ?_ ?_).mono ?_
  · exact ht.below hw1 hw0
  · omega
  rintro e1 w2 ⟨rfl, hb2⟩
  have d0 : w2.cell? ⟨w.heap.size, 0, none⟩ = some (.int .i64 t) := below_keep hb2 c0
  have d1 : w2.cell? ⟨w.heap.size, 1, none⟩ = some (.int .i64 n) := below_keep hb2 c1
  have d2 : w2.cell? ⟨w.heap.size, 2, none⟩ = some (.bool m) := below_keep hb2 c2
  have d3 : w2.cell? ⟨w.heap.size, 3, none⟩ = some (.bool h) := below_keep hb2 c3
  have d4 : w2.cell? ⟨w.heap.size, 4, none⟩ = some (.string b) := below_keep hb2 c4
  have hw2 : Below w.heap.size w w2 := hw1.trans (hb2.mono hw1.size)
  have hz2 : w.heap.size < w2.heap.size := World.block_lt_of_cell? _ _ d0
  clear hb2 c0 c1 c2 c3 c4 hw1 hz1
  go_wp2_with fail
  refine (unhide N3 _).mono ?_
  rintro e1 x ⟨⟨r, hr, rfl⟩, hx⟩
  have hbx : Below w.heap.size w x := by
    rw [hx]
    have h3 := hw2.alloc hw2.size (Obj.cells #[Value.int IntKind.i64 t, Value.int IntKind.i64 n, Value.bool m, Value.bool h, Value.string b] 23)
    refine h3.trans ⟨rfl, rfl, rfl, by rw [Lib.bytesWorld_size]; omega, fun k hk => Lib.bytesWorld_at_old _ _ _ _ ?_⟩
    simp
    omega
  have hrow : ∀ q, q < s.size → x.cell? ⟨w2.heap.size + 1, q, none⟩ = some (.int .u8 ((bentTo s.data.toList r c 0).getD q 0).toNat) := by
    intro q hq
    have h3 := Lib.bytesWorld_cell (w2.alloc (Obj.cells #[Value.int IntKind.i64 t, Value.int IntKind.i64 n, Value.bool m, Value.bool h, Value.string b] 23)) 5 s q hq
    rw [World.size_alloc] at h3
    rw [hx]
    exact h3
  have hfrz : ∀ q, q < s.size → x.frozen? ⟨w2.heap.size + 1, q, none⟩ = false := by
    intro q hq
    have h3 := Lib.bytesWorld_at_new (w2.alloc (Obj.cells #[Value.int IntKind.i64 t, Value.int IntKind.i64 n, Value.bool m, Value.bool h, Value.string b] 23)) 5 s
    rw [World.size_alloc] at h3
    rw [hx]
    have hc : s.size ≤ (Lib.bytesCells (w2.alloc (Obj.cells #[Value.int IntKind.i64 t, Value.int IntKind.i64 n, Value.bool m, Value.bool h, Value.string b] 23)) 5 s).size := by
      simp [Lib.bytesCells]
    simp [World.frozen?, h3]
    omega
  generalize grownCap (w2.alloc (Obj.cells #[Value.int IntKind.i64 t, Value.int IntKind.i64 n, Value.bool m, Value.bool h, Value.string b] 23)) s.size 0 5 = cp at *
  have hG : w.heap.size ≤ w2.heap.size + 1 := by omega
  clear hx d0 d1 d2 d3 d4 hw2
  go_wp2_with fail
  go_loopw [43] (fun i wr => ∃ j : Nat, j ≤ 16 ∧ i = .int .i64 j ∧ (∀ q, q < s.size → wr.cell? ⟨w2.heap.size + 1, q, none⟩ = some (.int .u8 ((bentTo s.data.toList r c j).getD q 0).toNat)) ∧ (∀ q, q < s.size → wr.frozen? ⟨w2.heap.size + 1, q, none⟩ = false) ∧ Below w.heap.size w wr)
    (fun i _ => 16 - (intOf i).toNat)
  case atStart => exact ⟨0, by omega, rfl, hrow, hfrz, hbx⟩
  case round =>
    obtain ⟨j, hj, rfl, hrw, hfw, hbw⟩ := hrel
    by_cases hlt : j < 16
    · have hcj : c / 2 ^ j ≤ c := Nat.div_le_self _ _
      obtain ⟨bt, hbt⟩ : ∃ bt, bt = c / 2 ^ j % 2 := ⟨_, rfl⟩
      have q1 : bits .and .i64 ((c : Int) / 2 ^ j) 1 = (bt : Int) := by
        rw [show ((c : Int) / 2 ^ j) = ((c / 2 ^ j : Nat) : Int) by simp, hbt]
        generalize c / 2 ^ j = u at hcj
        rw [and_1 _ (by omega) (by omega)]
        omega
      have hb2 : bt < 2 := by rw [hbt]; exact Nat.mod_lt _ (by decide)
      clear hcj
      by_cases hb1 : bt = 1
      · by_cases hin : r + j < 8 * s.size
        · have hq : (r + j) / 8 < s.size := by omega
          have hcell := hrw _ hq
          have hfr := hfw _ hq
          obtain ⟨y, hy⟩ : ∃ y, y = ((bentTo s.data.toList r c j).getD ((r + j) / 8) 0).toNat := ⟨_, rfl⟩
          rw [← hy] at hcell
          have hy6 : y < 256 := by rw [hy]; exact UInt8.toNat_lt _
          have hnext : bentTo s.data.toList r c (j + 1) = flipL (bentTo s.data.toList r c j) (r + j) := by
            rw [bentTo_succ, if_pos ⟨by omega, by simpa using hin⟩]
          have g1 : 1 ≤ bt := by omega
          have q2 := xor_u8 y ((r + j) % 8) hy6
          have HN := hide hnext; have HY := hide hy; have HR := hide hrw; have HFW := hide hfw
          clear hnext hy hbt hb1 hrw hfw
          go_wp2_with fail
          go_region
          go_wp2
          go_roundw
          case rel =>
            refine ⟨j + 1, by omega, by go_num, ?_, fun q hq => ?_, ?_⟩
            · rw [unhide HN]
              exact row_flip (by rw [bentTo_length]; simp) hq (unhide HY) hy6 (unhide HR)
            · exact (World.frozen?_setCell wr _ _ _).trans (unhide HFW q hq)
            · exact (hbw.setCell hG _).drew
          case measure => simp [intOf]; omega
        · have hnext : bentTo s.data.toList r c (j + 1) = bentTo s.data.toList r c j := by
            rw [bentTo_succ, if_neg (fun h' => hin (by simpa using h'.2))]
          have g1 : 1 ≤ bt := by omega
          have HN := hide hnext; have HR := hide hrw; have HFW := hide hfw
          clear hnext hbt hb1 hrw hfw
          go_wp2
          go_roundw
          case rel => exact ⟨j + 1, by omega, by go_num, by rw [unhide HN]; exact unhide HR, unhide HFW, hbw⟩
          case measure => simp [intOf]; omega
      · have hnext : bentTo s.data.toList r c (j + 1) = bentTo s.data.toList r c j := by
          rw [bentTo_succ, if_neg (fun h' => hb1 (by omega))]
        have g1 : bt ≤ 0 := by omega
        have HN := hide hnext; have HR := hide hrw; have HFW := hide hfw
        clear hnext hbt hb1 hrw hfw
        go_wp2
        go_roundw
        case rel => exact ⟨j + 1, by omega, by go_num, by rw [unhide HN]; exact unhide HR, unhide HFW, hbw⟩
        case measure => simp [intOf]; omega
    · have hj16 : j = 16 := by omega
      subst hj16
      have hln : (bentTo s.data.toList r c 16).length = s.size := by rw [bentTo_length]; simp
      obtain ⟨L, hL⟩ : ∃ L, L = bentTo s.data.toList r c 16 := ⟨_, rfl⟩
      rw [← hL] at hrw hln
      have hcv2 := run_convert_bytes_arg (P := Tryd.prog) wr 30 5 Tryd.underlying30 Tryd.underlying5 (w2.heap.size + 1) 0 s.size cp (L.map fun z => (z.toNat : Int)) (by rw [List.length_map, hln])
        (fun q hq => by
          rw [Nat.zero_add, hrw q hq]
          simp [List.getElem?_eq_getElem (show q < L.length by omega)]) 9 Tryd.underlying9
      have hS : (strOfNums (L.map fun z => (z.toNat : Int))).data.toList = L := by
        rw [strOfNums_data, List.map_map]
        have e : ((fun n : Int => UInt8.ofNat n.toNat) ∘ fun z : UInt8 => (z.toNat : Int)) = id := by funext z; simp
        rw [e, List.map_id]
      generalize strOfNums (L.map fun z => (z.toNat : Int)) = s' at *
      have hs' : s'.size = s.size := by rw [← hln, ← hS]; simp
      by_cases heq : s'.data.toList = s.data.toList
      · have t4 : (s'.toList == s.toList) = true := by rw [bytes_toList, bytes_toList, heq]; simp
        clear heq hS hL hln hs' hrw hfw
        go_wp2
        go_ret
        exact ⟨rfl, hbw⟩
      · have t4 : (s'.toList == s.toList) = false := by rw [bytes_toList, bytes_toList]; simpa using heq
        have hne := bent_seen s s' r c (unhide R0) (by rw [hS, hL]) heq
        have n4 := fun w' (ht : Tab w') (h0 : 0 < w'.heap.size) => unframe_all s' w' ht h0 (by unfold maxLen; omega)
        have t5 : (unfE s' != 0) = true := by simpa using hne
        generalize unfE s' = er at *
        generalize uT s' = t' at *
        generalize uN s' = n' at *
        generalize uM s' = m' at *
        generalize uH s' = h' at *
        generalize uB s' = b' at *
        have N4 := hide n4
        clear n4 heq hS hL hln hs' hrw hfw hne
        go_wp2_with fail
        refine (unhide N4 _ ?_ ?_).mono ?_
        · exact ht.below hbw hw0
        · have := hbw.size; omega
        rintro e1 w4 ⟨rfl, hb4⟩
        have hw4 := hbw.trans (hb4.mono hbw.size)
        clear hb4
        go_wp2
        go_ret
        exact ⟨rfl, hw4⟩

set_option maxRecDepth 100000 in
theorem liftedLineBends (os : Os) (started : os.Started) (H : Type) (enc : TypeId × Value → H) :
    ReturnsInHanded {} Tryd.checked os 4 .any (fun w args => (Rows.lineBendsSpec.pre enc Tryd.prog Tryd.f4 [] false w args ∧ laidMetH Tryd.prog laidLine w) ∧ sizedMet enc Tryd.prog Tryd.f4 (OpenSpec.ofChange Rows.lineBendsSpec) false w args)
      (Rows.lineBendsSpec.post enc Tryd.prog Tryd.f4 false true false false) := by
  refine returnsInHanded_of_change_and (C := Tryd.checked) (X := fun w _ => laidMetH Tryd.prog laidLine w) (fun _ _ _ hh h => h.of_heap hh) ownLine started (by kernel_rfl) Tryd.func4
    (ChangeSpec.witness_shaped (enc := enc) (C := Tryd.checked) (os := os) (X := fun w _ => laidMetH Tryd.prog laidLine w) false (World.doorLaid Tryd.prog 14 os) #[blk 0 0 false false ByteArray.empty, .int .i64 0, .int .i64 0] 8 rfl (World.shaped_of_RefB (by kernel_rfl) (by kernel_rfl)) (by kernel_rfl) (by kernel_rfl) (by kernel_rfl) (door_met os _)) ?_
  intro W base args ds gs before hval0 hW _ _ hL _
  have hval : ∀ (j : Nat) t v, Tryd.f4.params[j]? = some t → args[j]? = some v → Value.okWide Tryd.prog W .any base t v := hval0
  have hW' := hW
  obtain ⟨p, q, hA0, hV, rfl, hfz, hnd⟩ := hW
  have hA : DataW.TrodAll enc Tryd.prog W 0 (fun _ => true) true Tryd.f4.params.toList args.toList ds p := hA0
  rw [Tryd.params4] at hA hval
  obtain ⟨v0, vs0, d0, ds0, p0, q0, hargs, rfl, rfl, h0, r0⟩ := trodAll_cons hA
  obtain ⟨v1, vs1, d1, ds1, p1, q1, rfl, rfl, rfl, h1, r1⟩ := trodAll_cons r0
  obtain ⟨v2, vs2, d2, ds2, p2, q2, rfl, rfl, rfl, h2, r2⟩ := trodAll_cons r1
  obtain ⟨rfl, rfl, rfl⟩ := trodAll_nil r2
  obtain rfl : args = #[v0, v1, v2] := by cases args; simp_all
  obtain ⟨rfl, rfl⟩ := trodVars_none hV
  have k0 := h0
  have lt0 : ∀ x ∈ p0, x.block < W.heap.size := by obtain ⟨m, hm⟩ := k0; exact DataW.trod_lt m _ _ _ hm
  obtain ⟨t, n, m, hh, b, rfl, w0, w1, w4⟩ := open_blk (hval 0 23 v0 rfl rfl) h0
  obtain ⟨a1, rfl, rfl, rfl, w2⟩ := open_int Tryd.underlying3 (hval 1 3 v1 rfl rfl) h1
  obtain ⟨a2, rfl, rfl, rfl, w3⟩ := open_int Tryd.underlying3 (hval 2 3 v2 rfl rfl) h2
  have ht := tab_of_laid hL
  have b1 := bounds_i64 w2
  clear hA0 hval0
  have hwalk : Calls Tryd.prog 4 #[blk t n m hh b, .int .i64 a1, .int .i64 a2] W fun e w' => e = .returned (.bool true) ∧ Below W.heap.size W w' := by
    by_cases he : checkE t n m hh b = 0
    · exact walkBendsYes t n m hh b a1 a2 W b1.1 b1.2 (checkE_zero he).2.2.1 ht (tab_block ht) he
    · exact walkBendsNo t n m hh b a1 a2 W w4 ht (tab_block ht) he
  refine hwalk.mono fun e W' ⟨he, bel⟩ => ?_
  subst he
  exact ⟨_, rfl, _, _, _, [], _, [], hW', trodAll_mk1 (shut_bool Tryd.underlying4 _), (trodAll_cons_mk (Below.trod laidOutLine (by kernel_rfl) (of_decide_eq_true (by kernel_rfl)) k0 bel lt0) (trodAll_cons_mk (shut_int Tryd.underlying3 w2) (trodAll_cons_mk (shut_int Tryd.underlying3 w3) trodAll_mk0))), rfl, bel.frame _, fun h => by cases h⟩

theorem overLineBends : Rows.LineBendsSaid :=
  OpenClaim.holds_of_wide 4 Tryd.f4 rfl rfl rfl rfl rfl rfl rfl ⟨rfl, rfl, rfl, rfl, rfl⟩ rfl rfl rfl rfl rfl (by kernel_rfl) Tryd.func4 (by kernel_rfl)
    (of_decide_eq_true (by kernel_rfl)) (by unfold Func.isWrapper; first | (rw [if_pos (by decide +kernel)]; kernel_rfl) | (rw [if_neg (by decide +kernel)]; exact ⟨rfl, rfl⟩))
    (fun os started H enc _ => liftedLineBends os started H enc)

/-- THE STATEMENT: the tied card -/
theorem lineBends_holds : Rows.LineBendsCardSaid :=
  Claim7.holds_tied_plain_at .later [] [.data] true Rows.lineBendsCard.stood.harness false
    overLineBends (fun _ h => by cases h) (by kernel_rfl) (fun _ h => by cases h) lineBends_row_tie rfl ⟨rfl, rfl⟩ (by kernel_rfl) rfl
    (fun f fn hf hfn => by
      obtain rfl : f = 4 := Option.some.inj ((show Tryd.prog.funcNamed Rows.lineBendsRow.func = some 4 by kernel_rfl).symm.trans hf) |>.symm
      obtain rfl : fn = Tryd.f4 := (Option.some.inj (Tryd.func4.symm.trans hfn)).symm
      exact ⟨by kernel_rfl, fun j t ht => by
        rw [Tryd.params4] at ht
        have hm : t ∈ [23, 3, 3] := by simpa using Array.mem_of_getElem? ht
        have hall : ([23, 3, 3].all fun u => !Tryd.prog.wantsStandIn u) = true := by kernel_rfl
        exact (show Tryd.prog.wantsStandIn t = false by simpa using List.all_eq_true.1 hall t (by simpa using hm))⟩)
    (by kernel_rfl)
#print axioms lineBends_holds
end Go.Proofs.YthamjfgiklbifaaDoor
