/- Turn of the reference. -/
import Derived.Test.YtajkbkljonejnaaGreatDoorM07
import Derived.Test.YtajkbkljonejnaaGreatDoorM02
import Derived.Deep.RegionWith
import Derived.Deep.DeepCutAuto
namespace Go.Proofs.YtajkbkljonejnaaGreatDoor
open Go.RowKit
set_option linter.unusedVariables false
theorem or_i64M (a b : Nat) (ha : a < 4294967296) (hb : b < 4294967296) : bits .or .i64 a b = ((a ||| b : Nat) : Int) := or_nat .i64 63 (by decide) wraps_i64 a b (by omega) (by omega)
theorem xor_i64M (a b : Nat) (ha : a < 4294967296) (hb : b < 4294967296) : bits .xor .i64 a b = ((a ^^^ b : Nat) : Int) := xor_natM .i64 63 (by decide) wraps_i64 a b (by omega) (by omega)
theorem rrot_bits (x n m k : Nat) (hx : x < 4294967296) (hm : m = 2 ^ n) (hk : k = 2 ^ (32 - n)) : bits .or .i64 ((x : Int) * (m : Int) % 4294967296) ((x : Int) / (k : Int)) = (rl x n : Nat) := by
  rw [show (x : Int) * (m : Int) % 4294967296 = ((x * m % 4294967296 : Nat) : Int) by simp, show (x : Int) / (k : Int) = ((x / k : Nat) : Int) by simp, or_i64M _ _ (Nat.mod_lt _ (by decide)) (Nat.lt_of_le_of_lt (Nat.div_le_self _ _) hx), hm, hk]
  rfl
set_option maxHeartbeats 1000000 in
set_option maxRecDepth 100000 in
theorem rrot16_any (x : Nat) (hx : x < 4294967296) (w : World) :
    Calls Tryz.prog 121 #[.int .i64 x, .int .i64 16] w fun e w' => e = .returned (.int .i64 (rl x 16 : Nat)) ∧ ∃ n, w' = w.drewN n := by
  have hr : bits .or .i64 ((x : Int) * 65536 % 4294967296) ((x : Int) / 65536) = (rl x 16 : Nat) := rrot_bits x 16 65536 65536 hx (by decide) (by decide)
  go_enter Tryz.func121, Tryz.ntmps121
  go_wp2
  go_quiet (fail)
  go_wp2
  go_ret
  exact ⟨rfl, _, rfl⟩
set_option maxHeartbeats 1000000 in
set_option maxRecDepth 100000 in
theorem rrot12_any (x : Nat) (hx : x < 4294967296) (w : World) :
    Calls Tryz.prog 121 #[.int .i64 x, .int .i64 12] w fun e w' => e = .returned (.int .i64 (rl x 12 : Nat)) ∧ ∃ n, w' = w.drewN n := by
  have hr : bits .or .i64 ((x : Int) * 4096 % 4294967296) ((x : Int) / 1048576) = (rl x 12 : Nat) := rrot_bits x 12 4096 1048576 hx (by decide) (by decide)
  go_enter Tryz.func121, Tryz.ntmps121
  go_wp2
  go_quiet (fail)
  go_wp2
  go_ret
  exact ⟨rfl, _, rfl⟩
def RowAt (w : World) (g : Nat) (v : Blk) : Prop := w.heap[g]? = some (.cells #[.int .i64 (v.a : Nat), .int .i64 (v.b : Nat), .int .i64 (v.c : Nat), .int .i64 (v.d : Nat)] 3)
theorem RowAt.cell {w : World} {g : Nat} {v : Blk} (h : RowAt w g v) (j : Nat) (hj : j < 4) : w.cell? ⟨g, j, none⟩ = some (.int .i64 (v.at j : Nat)) :=
  four_cases (P := fun j => w.cell? ⟨g, j, none⟩ = some (.int .i64 (v.at j : Nat))) j hj ((cell_of_row _ _ 0 _ _ _ h).trans rfl) ((cell_of_row _ _ 1 _ _ _ h).trans rfl) ((cell_of_row _ _ 2 _ _ _ h).trans rfl) ((cell_of_row _ _ 3 _ _ _ h).trans rfl)
theorem RowAt.frozen {w : World} {g : Nat} {v : Blk} (h : RowAt w g v) (j : Nat) : w.frozen? ⟨g, j, none⟩ = false := frozen_of_row _ _ j _ _ h
theorem RowAt.set {w : World} {g : Nat} {v : Blk} (h : RowAt w g v) (j : Nat) (hj : j < 4) (x : Nat) : RowAt (w.setCell ⟨g, j, none⟩ (.int .i64 (x : Nat))) g (v.put j x) :=
  four_cases (P := fun j => RowAt (w.setCell ⟨g, j, none⟩ (.int .i64 (x : Nat))) g (v.put j x)) j hj ((set_rowM h).trans rfl) ((set_rowM h).trans rfl) ((set_rowM h).trans rfl) ((set_rowM h).trans rfl)
theorem RowAt.below {w w' : World} {g : Nat} {v : Blk} (h : RowAt w g v) (hb : Below w.heap.size w w') : RowAt w' g v := by
  unfold RowAt at *
  have hg : g < w.heap.size := by
    by_cases hg : g < w.heap.size
    · exact hg
    · rw [Array.getElem?_eq_none (by omega)] at h; cases h
  rw [hb.block g hg, h]
theorem RowAt.cell0 {w : World} {g a b c d : Nat} (h : RowAt w g ⟨a, b, c, d⟩) : w.cell? ⟨g, 0, none⟩ = some (.int .i64 (a : Nat)) := (cell_of_row _ _ 0 _ _ _ h).trans rfl
theorem RowAt.cell1 {w : World} {g a b c d : Nat} (h : RowAt w g ⟨a, b, c, d⟩) : w.cell? ⟨g, 1, none⟩ = some (.int .i64 (b : Nat)) := (cell_of_row _ _ 1 _ _ _ h).trans rfl
theorem RowAt.cell2 {w : World} {g a b c d : Nat} (h : RowAt w g ⟨a, b, c, d⟩) : w.cell? ⟨g, 2, none⟩ = some (.int .i64 (c : Nat)) := (cell_of_row _ _ 2 _ _ _ h).trans rfl
theorem RowAt.cell3 {w : World} {g a b c d : Nat} (h : RowAt w g ⟨a, b, c, d⟩) : w.cell? ⟨g, 3, none⟩ = some (.int .i64 (d : Nat)) := (cell_of_row _ _ 3 _ _ _ h).trans rfl
theorem RowAt.set0 {w : World} {g a b c d : Nat} (h : RowAt w g ⟨a, b, c, d⟩) (x : Nat) : RowAt (w.setCell ⟨g, 0, none⟩ (.int .i64 (x : Nat))) g ⟨x, b, c, d⟩ := (set_rowM h).trans rfl
theorem RowAt.set1 {w : World} {g a b c d : Nat} (h : RowAt w g ⟨a, b, c, d⟩) (x : Nat) : RowAt (w.setCell ⟨g, 1, none⟩ (.int .i64 (x : Nat))) g ⟨a, x, c, d⟩ := (set_rowM h).trans rfl
theorem RowAt.set2 {w : World} {g a b c d : Nat} (h : RowAt w g ⟨a, b, c, d⟩) (x : Nat) : RowAt (w.setCell ⟨g, 2, none⟩ (.int .i64 (x : Nat))) g ⟨a, b, x, d⟩ := (set_rowM h).trans rfl
theorem RowAt.set3 {w : World} {g a b c d : Nat} (h : RowAt w g ⟨a, b, c, d⟩) (x : Nat) : RowAt (w.setCell ⟨g, 3, none⟩ (.int .i64 (x : Nat))) g ⟨a, b, c, x⟩ := (set_rowM h).trans rfl
theorem RowAt.drew {w : World} {g : Nat} {v : Blk} (h : RowAt w g v) : RowAt w.drew g v := h
theorem RowAt.drewN {w : World} {g : Nat} {v : Blk} (h : RowAt w g v) (n : Nat) : RowAt (w.drewN n) g v := by
  unfold RowAt
  rw [heap_drewM]
  exact h
theorem extract_listR (s : ByteArray) (i j : Nat) : (s.extract i j).data.toList = (s.data.toList.drop i).take (j - i) := by
  rw [ByteArray.data_extract, Array.toList_extract, List.extract_eq_take_drop]
theorem word_value (s : ByteArray) (i j : Nat) (hj : j = i + 4) (h : j ≤ s.size) (w : World) (q : Nat) (hq : i = 4 * q) :
    Calls Tryz.prog 35 #[.string (s.extract i j)] w fun e w' => e = .returned (.int .i64 (wordAt s.data.toList q : Nat)) ∧ w' = w := by
  have e : valN (s.extract i j).data.toList = wordAt s.data.toList q := by
    rw [extract_listR, wordAt, hj, hq, Nat.add_sub_cancel_left]
  have hl := wordAt_lt s.data.toList q
  have := value_any (s.extract i j) w (by simp; omega) (by rw [e]; omega)
  rw [e] at this
  exact this
set_option maxHeartbeats 4000000 in
set_option maxRecDepth 100000 in
theorem rturn_any (k s : ByteArray) (hk : k.size = 16) (hs : s.size = 16) (w : World) :
    Calls Tryz.prog 88 #[.string k, .string s] w fun e w' => e = .returned (.string (turnS k s)) ∧ Below w.heap.size w w' := by
  have r0 := fun w => word_value s 0 4 rfl (by omega) w 0 rfl
  have r1 := fun w => word_value s 4 8 rfl (by omega) w 1 rfl
  have r2 := fun w => word_value s 8 12 rfl (by omega) w 2 rfl
  have r3 := fun w => word_value s 12 16 rfl (by omega) w 3 rfl
  have hs2 : (s.size : Int) = 16 := by omega
  have R0 := hide r0; have R1 := hide r1; have R2 := hide r2; have R3 := hide r3
  clear r0 r1 r2 r3
  have b0 := wordAt_lt s.data.toList 0
  have b1 := wordAt_lt s.data.toList 1
  have b2 := wordAt_lt s.data.toList 2
  have b3 := wordAt_lt s.data.toList 3
  have hT : turnS k s = blkS (fwd (blkOf k.data.toList) 12 ⟨wordAt s.data.toList 0, wordAt s.data.toList 1, wordAt s.data.toList 2, wordAt s.data.toList 3⟩) := rfl
  generalize wordAt s.data.toList 0 = a at *
  generalize wordAt s.data.toList 1 = b at *
  generalize wordAt s.data.toList 2 = c at *
  generalize wordAt s.data.toList 3 = d at *
  go_enter Tryz.func88, Tryz.ntmps88
  go_wp2
  go_cut [5] (fun v wx => ∃ g, v = .slice (some ⟨g, 0, none⟩) 4 4 ∧ w.heap.size ≤ g ∧ RowAt wx g ⟨a, b, c, d⟩ ∧ Below w.heap.size w wx)
  case first =>
    go_region_with (first
      | (go_at_call_of 35 (s.extract 0 4); refine (unhide R0 _).mono ?_; rintro e w2 ⟨rfl, rfl⟩)
      | (go_at_call_of 35 (s.extract 4 8); refine (unhide R1 _).mono ?_; rintro e w2 ⟨rfl, rfl⟩)
      | (go_at_call_of 35 (s.extract 8 12); refine (unhide R2 _).mono ?_; rintro e w2 ⟨rfl, rfl⟩)
      | (go_at_call_of 35 (s.extract 12 16); refine (unhide R3 _).mono ?_; rintro e w2 ⟨rfl, rfl⟩))
    all_goals
      go_wp2_with fail
      go_meet
      case rel => exact ⟨_, rfl, Nat.le_refl _, heap_alloc_new _ _, ((Below.refl _ _).drew.alloc (Nat.le_refl _) _)⟩
  case rest =>
    obtain ⟨g0, rfl, hg0, hrow0, hbel0⟩ := hcut
    have hv0 : Blk.ok ⟨a, b, c, d⟩ := ⟨b0, b1, b2, b3⟩
    have HT := hide hT
    clear hT b0 b1 b2 b3 R0 R1 R2 R3
    obtain ⟨v, hv⟩ : ∃ v, v = (⟨a, b, c, d⟩ : Blk) := ⟨_, rfl⟩
    rw [← hv] at hrow0 hv0
    have HV := hide hv
    clear hv
    go_wp2
    go_loopw [5, 6] (fun t i wr => ∃ n g : Nat, n ≤ 12 ∧ i = .int .i64 n ∧ t = .slice (some ⟨g, 0, none⟩) 4 4 ∧ w.heap.size ≤ g ∧ RowAt wr g (fwd (blkOf k.data.toList) n v) ∧ Below w.heap.size w wr) (fun _ i _ => 12 - (intOf i).toNat)
    case atStart => exact ⟨0, g0, by omega, rfl, rfl, hg0, hrow0, hbel0⟩
    case round =>
      obtain ⟨n, g, hn, rfl, rfl, hg, hrow, hbel⟩ := hrel
      have hf := fwd_ok (blkOf k.data.toList) n v hv0
      have hsn : n < 12 → fwd (blkOf k.data.toList) (n + 1) v = rnd (blkOf k.data.toList) n (fwd (blkOf k.data.toList) n v) := fun _ => rfl
      obtain ⟨u, hu⟩ : ∃ u, u = fwd (blkOf k.data.toList) n v := ⟨_, rfl⟩
      rw [← hu] at hf hrow hsn
      by_cases hlt : n < 12
      · have HS := hide (hsn hlt)
        clear hsn hu
        obtain ⟨m, hm⟩ : ∃ m, m = n % 4 := ⟨_, rfl⟩
        have m4 : m < 4 := by omega
        have hmi : (n : Int) % 4 = (m : Int) := by omega
        have HM := hide hm
        have kv := word_value k (m * 4) (m * 4 + 4) rfl (by omega) wr m (by omega)
        have hkl := wordAt_lt k.data.toList m
        have hkm : wordAt k.data.toList m = (blkOf k.data.toList).at m := four_cases (P := fun m => wordAt k.data.toList m = (blkOf k.data.toList).at m) m m4 rfl rfl rfl rfl
        have hks : (k.size : Int) = 16 := by omega
        generalize wordAt k.data.toList m = kk at *
        have KV := hide kv
        have HK := hide hkm
        clear hm kv hkm
        have lA := nextA_lt (blkOf k.data.toList) n u
        have lD := nextD_lt (blkOf k.data.toList) n u hf
        have lC := nextC_lt (blkOf k.data.toList) n u
        have lB := nextB_lt (blkOf k.data.toList) n u hf
        have eA : ((u.a : Int) + (u.b : Int) + (kk : Int) + (n : Int) * 2654435769) % 4294967296 = (nextA (blkOf k.data.toList) n u : Nat) :=
          cast_mod (u.a + u.b + added (blkOf k.data.toList) n) _ _ (by unfold added; rw [← unhide HM, ← unhide HK]; omega) rfl
        have xD := xor_i64M u.d (nextA (blkOf k.data.toList) n u) hf.2.2.2 lA
        have rD := fun w => rrot16_any (u.d ^^^ nextA (blkOf k.data.toList) n u) (xor_lt32 hf.2.2.2 lA) w
        have eC : ((u.c : Int) + (nextD (blkOf k.data.toList) n u : Nat)) % 4294967296 = (nextC (blkOf k.data.toList) n u : Nat) := cast_mod (u.c + nextD (blkOf k.data.toList) n u) _ _ (by omega) rfl
        have xB := xor_i64M u.b (nextC (blkOf k.data.toList) n u) hf.2.1 lC
        have rB := fun w => rrot12_any (u.b ^^^ nextC (blkOf k.data.toList) n u) (xor_lt32 hf.2.1 lC) w
        rw [show rl (u.d ^^^ nextA (blkOf k.data.toList) n u) 16 = nextD (blkOf k.data.toList) n u from rfl] at rD
        rw [show rl (u.b ^^^ nextC (blkOf k.data.toList) n u) 12 = nextB (blkOf k.data.toList) n u from rfl] at rB
        rw [rnd] at HS
        obtain ⟨h1, h2, h3, h4⟩ := hf
        generalize nextA (blkOf k.data.toList) n u = A at *
        generalize nextD (blkOf k.data.toList) n u = D at *
        generalize nextC (blkOf k.data.toList) n u = C at *
        generalize nextB (blkOf k.data.toList) n u = B at *
        generalize u.d ^^^ A = xd at *
        generalize u.b ^^^ C = xb at *
        have RD := hide rD
        have RB := hide rB
        clear rD rB
        obtain ⟨ua, ub, uc, ud⟩ := u
        simp only at h1 h2 h3 h4 eA xD eC xB
        have c0 : wr.cell? ⟨g, 0, none⟩ = some (.int .i64 (ua : Nat)) := hrow.cell0
        have c1 : wr.cell? ⟨g, 1, none⟩ = some (.int .i64 (ub : Nat)) := hrow.cell1
        have f0 := hrow.frozen 0
        have gB : g < wr.heap.size := World.block_lt_of_cell? _ _ c0
        have HR := hide hrow
        have HB := hide hbel
        clear hrow hbel
        go_wp2_with fail
        refine (unhide KV).mono ?_
        rintro e w1 ⟨rfl, rfl⟩
        go_wp2_with fail
        go_region
        go_wp2_with fail
        obtain ⟨W1, hW1⟩ : ∃ W1, W1 = (w1.setCell ⟨g, 0, none⟩ (.int .i64 (A : Nat))).drew := ⟨_, rfl⟩
        rw [← hW1]
        have hrow : RowAt W1 g ⟨A, ub, uc, ud⟩ := by rw [hW1]; exact ((unhide HR).set0 A).drew
        have hbel : Below w.heap.size w W1 := by rw [hW1]; exact ((unhide HB).setCell hg _).drew
        clear HR HB hW1 c0 c1 f0 gB
        have c0 : W1.cell? ⟨g, 0, none⟩ = some (.int .i64 (A : Nat)) := hrow.cell0
        have c3 : W1.cell? ⟨g, 3, none⟩ = some (.int .i64 (ud : Nat)) := hrow.cell3
        have f3 := hrow.frozen 3
        have HR := hide hrow
        have HB := hide hbel
        clear hrow hbel
        go_cut [5, 6] (fun t i wx => t = .slice (some ⟨g, 0, none⟩) 4 4 ∧ i = .int .i64 (n : Int) ∧ RowAt wx g ⟨A, ub, uc, D⟩ ∧ Below w.heap.size w wx)
        case first =>
          go_region_with (go_at_call 121; refine (unhide RD _).mono ?_; rintro e w2 ⟨rfl, q, rfl⟩)
          all_goals
            go_wp2_with fail
            go_meet
            case rel => exact ⟨rfl, rfl, ((unhide HR).drewN _).set3 D, (belowDrewM (unhide HB) _).setCell hg _⟩
        case rest =>
          obtain ⟨rfl, rfl, hrow, hbel⟩ := hcut
          rename World => W2
          clear HR HB c0 c3 f3 RD xD eA
          have c2 : W2.cell? ⟨g, 2, none⟩ = some (.int .i64 (uc : Nat)) := hrow.cell2
          have c3 : W2.cell? ⟨g, 3, none⟩ = some (.int .i64 (D : Nat)) := hrow.cell3
          have f2 := hrow.frozen 2
          have HR := hide hrow
          have HB := hide hbel
          clear hrow hbel
          go_wp2_with fail
          go_region
          go_wp2_with fail
          obtain ⟨W3, hW3⟩ : ∃ W3, W3 = (W2.setCell ⟨g, 2, none⟩ (.int .i64 (C : Nat))).drew := ⟨_, rfl⟩
          rw [← hW3]
          have hrow : RowAt W3 g ⟨A, ub, C, D⟩ := by rw [hW3]; exact ((unhide HR).set2 C).drew
          have hbel : Below w.heap.size w W3 := by rw [hW3]; exact ((unhide HB).setCell hg _).drew
          clear HR HB hW3 c2 c3 f2
          have c1 : W3.cell? ⟨g, 1, none⟩ = some (.int .i64 (ub : Nat)) := hrow.cell1
          have c2 : W3.cell? ⟨g, 2, none⟩ = some (.int .i64 (C : Nat)) := hrow.cell2
          have f1 := hrow.frozen 1
          have HR := hide hrow
          have HB := hide hbel
          clear hrow hbel
          go_cut [5, 6] (fun t i wx => t = .slice (some ⟨g, 0, none⟩) 4 4 ∧ i = .int .i64 (n : Int) ∧ RowAt wx g ⟨A, B, C, D⟩ ∧ Below w.heap.size w wx)
          case first =>
            go_region_with (go_at_call 121; refine (unhide RB _).mono ?_; rintro e w2 ⟨rfl, q, rfl⟩)
            all_goals
              go_wp2_with fail
              go_meet
              case rel => exact ⟨rfl, rfl, ((unhide HR).drewN _).set1 B, (belowDrewM (unhide HB) _).setCell hg _⟩
          case rest =>
            obtain ⟨rfl, rfl, hrow, hbel⟩ := hcut
            rename World => W4
            clear HR HB c1 c2 f1 RB xB eC
            have c0 : W4.cell? ⟨g, 0, none⟩ = some (.int .i64 (A : Nat)) := hrow.cell0
            have c1 : W4.cell? ⟨g, 1, none⟩ = some (.int .i64 (B : Nat)) := hrow.cell1
            have c2 : W4.cell? ⟨g, 2, none⟩ = some (.int .i64 (C : Nat)) := hrow.cell2
            have c3 : W4.cell? ⟨g, 3, none⟩ = some (.int .i64 (D : Nat)) := hrow.cell3
            have hg4 : w.heap.size ≤ W4.heap.size := hbel.size
            go_wp2_with fail
            go_region
            go_wp2
            go_roundw
            case rel => exact ⟨n + 1, _, by omega, by go_num, rfl, hg4, by rw [unhide HS]; exact heap_alloc_new _ _, (hbel.drew.alloc hg4 _)⟩
            case measure => simp [intOf]; omega
      · have hn12 : n = 12 := by omega
        subst hn12
        have hT := unhide HT
        rw [← unhide HV] at hT
        clear hsn
        have hfin : turnS k s = strOfNums (bigL u.a 4) ++ strOfNums (bigL u.b 4) ++ strOfNums (bigL u.c 4) ++ strOfNums (bigL u.d 4) := by
          rw [hT, hu]
          simp only [blkS, blkL, strOfNums_append, List.append_assoc]
        obtain ⟨ua, ub, uc, ud⟩ := u
        obtain ⟨h1, h2, h3, h4⟩ := hf
        simp only at h1 h2 h3 h4 hfin
        have C0 := hide (fun w1 (hb : Below wr.heap.size wr w1) => (hrow.below hb).cell0)
        have C1 := hide (fun w1 (hb : Below wr.heap.size wr w1) => (hrow.below hb).cell1)
        have C2 := hide (fun w1 (hb : Below wr.heap.size wr w1) => (hrow.below hb).cell2)
        have C3 := hide (fun w1 (hb : Below wr.heap.size wr w1) => (hrow.below hb).cell3)
        have B0 := hide (fun w => big_any ua 4 w (by decide) (Nat.le_of_lt (Nat.lt_trans h1 (by decide))))
        have B1 := hide (fun w => big_any ub 4 w (by decide) (Nat.le_of_lt (Nat.lt_trans h2 (by decide))))
        have B2 := hide (fun w => big_any uc 4 w (by decide) (Nat.le_of_lt (Nat.lt_trans h3 (by decide))))
        have B3 := hide (fun w => big_any ud 4 w (by decide) (Nat.le_of_lt (Nat.lt_trans h4 (by decide))))
        have s0 : (strOfNums (bigL ua 4)).size = 4 := by rw [strOfNums_size, bigL_length]
        have s1 : (strOfNums (bigL ub 4)).size = 4 := by rw [strOfNums_size, bigL_length]
        have s2 : (strOfNums (bigL uc 4)).size = 4 := by rw [strOfNums_size, bigL_length]
        have s3 : (strOfNums (bigL ud 4)).size = 4 := by rw [strOfNums_size, bigL_length]
        have HF := hide hfin
        clear hfin hu hT h1 h2 h3 h4 hrow
        generalize strOfNums (bigL ua 4) = t0 at *
        generalize strOfNums (bigL ub 4) = t1 at *
        generalize strOfNums (bigL uc 4) = t2 at *
        generalize strOfNums (bigL ud 4) = t3 at *
        go_wp2_with fail
        refine wp_region_below wr (Below.refl _ _) (by kernel_rfl) (by kernel_rfl) ?_
        repeat (
          refine Quietly.step (fun K hK => ?_)
          go_simp
          first
            | (refine hK _ ?_; clear hK K)
            | (apply Exists.intro
               refine ⟨fun w1 hw1 => ?_, hK _ ?_⟩
               (first | rfl | (rw [unhide C0 w1 hw1]; exact ⟨rfl, rfl⟩) | (rw [unhide C1 w1 hw1]; exact ⟨rfl, rfl⟩) | (rw [unhide C2 w1 hw1]; exact ⟨rfl, rfl⟩) | (rw [unhide C3 w1 hw1]; exact ⟨rfl, rfl⟩) | (go_at_call_of 89 (ua : Int); exact calls_below hw1 (unhide B0 _)) | (go_at_call_of 89 (ub : Int); exact calls_below hw1 (unhide B1 _)) | (go_at_call_of 89 (uc : Int); exact calls_below hw1 (unhide B2 _)) | (go_at_call_of 89 (ud : Int); exact calls_below hw1 (unhide B3 _)))
               clear hK K))
        refine Quietly.nil ?_
        intro w2 hw2
        go_wp2
        go_ret
        exact ⟨by rw [unhide HF]; rfl, hbel.trans (hw2.mono hbel.size)⟩
end Go.Proofs.YtajkbkljonejnaaGreatDoor
