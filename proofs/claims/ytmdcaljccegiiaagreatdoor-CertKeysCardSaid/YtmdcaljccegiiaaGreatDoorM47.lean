/- The reference's Digits. -/
import Derived.Test.YtmdcaljccegiiaaGreatDoorM46
import Derived.Lib.Strings
import Derived.Test.YtmdcaljccegiiaaGreatDoorM09
import Derived.Test.YtmdcaljccegiiaaGreatDoorM38
namespace Go.Proofs.YtmdcaljccegiiaaGreatDoor
open Go.RowKit
set_option linter.unusedVariables false

/-- a number within two others -/
def inB (n lo hi : Int) : Bool := decide (lo ≤ n ∧ n ≤ hi)
theorem inB_true {n lo hi : Int} : inB n lo hi = true ↔ lo ≤ n ∧ n ≤ hi := decide_eq_true_iff
theorem inB_false {n lo hi : Int} : inB n lo hi = false ↔ ¬ (lo ≤ n ∧ n ≤ hi) := decide_eq_false_iff_not
def digC (c : UInt8) : Bool := decide (48 ≤ c.toNat ∧ c.toNat ≤ 57)
def digB (s : ByteArray) : Bool := s.data.toList.all digC
def digitsB (s : ByteArray) (lo hi : Int) : Bool := digB s && inB s.size lo hi
theorem digB_take (s : ByteArray) (k : Nat) (h : k < s.size) : (s.data.toList.take (k + 1)).all digC = ((s.data.toList.take k).all digC && digC s[k]) := by
  have hk : k < s.data.toList.length := by rw [Array.length_toList]; exact h
  rw [List.take_add_one, List.getElem?_eq_getElem hk, List.all_append]
  simp
  rfl
theorem digB_not (s : ByteArray) (k : Nat) (h : (s.data.toList.take k).all digC = false) : digB s = false := by
  have e := List.take_append_drop k s.data.toList
  rw [digB, ← e, List.all_append, h, Bool.false_and]
theorem digC_false {c : UInt8} (h : digC c = false) : c.toNat < 48 ∨ 57 < c.toNat := by
  have := of_decide_eq_false h
  omega
theorem digC_true {c : UInt8} (h : digC c = true) : 48 ≤ c.toNat ∧ c.toNat ≤ 57 := of_decide_eq_true h
theorem digitsB_no {s : ByteArray} {lo hi : Int} (h : digB s = false) : digitsB s lo hi = false := by rw [digitsB, h, Bool.false_and]
theorem digitsB_yes {s : ByteArray} {lo hi : Int} (h : digB s = true) : digitsB s lo hi = inB s.size lo hi := by rw [digitsB, h, Bool.true_and]
set_option maxHeartbeats 1000000 in
theorem rdigits_any (s : ByteArray) (lo hi : Int) (hs : s.size ≤ maxLen) (w : World) :
    Calls Tryz.prog 13 #[.string s, .int .i64 lo, .int .i64 hi] w fun e w' => e = .returned (.bool (digitsB s lo hi)) ∧ w' = w := by
  have hs' : (s.size : Int) ≤ 9223372036854775807 := by simp only [maxLen] at hs; omega
  clear hs
  go_enter Tryz.func13, Tryz.ntmps13
  go_wp2
  go_loop [7] (fun i => ∃ k : Nat, k ≤ s.size ∧ i = .int .i64 k ∧ Hid ((s.data.toList.take k).all digC = true)) (fun i => s.size - (intOf i).toNat)
  case atStart => exact ⟨0, Nat.zero_le _, rfl, hide (by simp)⟩
  case round =>
    obtain ⟨k, hk, rfl, HA⟩ := hrel
    by_cases hlt : k < s.size
    · have hst := digB_take s k hlt
      rw [unhide HA, Bool.true_and] at hst
      cases hc : digC s[k] with
      | false =>
        have HF := hide (digitsB_no (lo := lo) (hi := hi) (digB_not s (k + 1) (hst.trans hc)))
        rcases digC_false hc with h1 | h1
        · have h2 : ((s[k].toNat : Nat) : Int) < 48 := by omega
          clear hst hc
          go_wp2
          go_ret
          exact ⟨ret_bool (unhide HF).symm, rfl⟩
        · have h2 : (57 : Int) < ((s[k].toNat : Nat) : Int) := by omega
          have h3 : ¬ ((s[k].toNat : Nat) : Int) < 48 := by omega
          clear hst hc
          go_wp2
          go_ret
          exact ⟨ret_bool (unhide HF).symm, rfl⟩
      | true =>
        have HS := hide (hst.trans hc)
        obtain ⟨h1, h1'⟩ := digC_true hc
        have h2 : ¬ (57 : Int) < ((s[k].toNat : Nat) : Int) := by omega
        have h3 : ¬ ((s[k].toNat : Nat) : Int) < 48 := by omega
        clear hst hc
        go_wp2
        go_round
        case rel => exact ⟨k + 1, by omega, by go_num, HS⟩
        case measure => simp [intOf]; omega
    · have HF : Hid (digB s = true) := hide (by have := unhide HA; rw [List.take_of_length_le (by simp; omega)] at this; exact this)
      by_cases hl : lo ≤ (s.size : Int)
      · have HM : Hid (digitsB s lo hi = decide ((s.size : Int) ≤ hi)) := hide (by rw [digitsB_yes (unhide HF)]; exact decide_eq_decide.2 (by omega))
        go_wp2
        go_ret
        exact ⟨ret_bool (unhide HM).symm, rfl⟩
      · have HM : Hid (digitsB s lo hi = false) := hide (by rw [digitsB_yes (unhide HF)]; exact decide_eq_false (by omega))
        go_wp2
        go_ret
        exact ⟨ret_bool (unhide HM).symm, rfl⟩
theorem digB_all (s : ByteArray) : digB s = allDig s := by
  unfold digB allDig
  congr 1
  funext b
  exact Bool.eq_iff_iff.2 (decide_eq_true_iff.trans (isDig_iff b).symm)
end Go.Proofs.YtmdcaljccegiiaaGreatDoor
namespace Go.Proofs.YtmdcaljccegiiaaGreatDoor
open Go.RowKit
set_option linter.unusedVariables false
set_option linter.unusedSimpArgs false
set_option maxRecDepth 100000

/-- may it be somebody's key? -/
def keyB (o m : ByteArray) : Bool := digitsB o 1 19 && isModB m
def keyE (o : ByteArray) (t : Int) (m : ByteArray) : Int := bif keyB o m then numE t 2 else 1
def keyS (o : ByteArray) (t : Int) (m : ByteArray) : ByteArray := if keyE o t m = 0 then strOfNums [(o.size : Int)] ++ o ++ numS t 2 ++ m else ⟨#[]⟩
theorem numE_or (t : Int) : numE t 2 = 0 ∨ numE t 2 = 3 := by
  by_cases h : numOk t 2
  · exact .inl (numE_yes h)
  · exact .inr (numE_no h)
theorem numE_two (t : Int) : numE t 2 = 0 ↔ 0 ≤ t ∧ t ≤ 65535 := by
  unfold numE
  have e : ((256 : Int) ^ (2 : Int).toNat) = 65536 := rfl
  by_cases h : numOk t 2
  · rw [if_pos h]
    obtain ⟨h1, h2, h3, h4⟩ := h
    rw [e] at h4
    exact ⟨fun _ => ⟨h3, by omega⟩, fun _ => rfl⟩
  · rw [if_neg h]
    constructor
    · intro h; cases h
    · intro ⟨h1, h2⟩
      exact absurd ⟨by decide, by decide, h1, by rw [e]; omega⟩ h
theorem numS_two (t : Int) (h : numE t 2 = 0) : (numS t 2).size = 2 := by
  have hk : numOk t 2 := by
    by_cases hk : numOk t 2
    · exact hk
    · rw [numE_no hk] at h; cases h
  rw [numS_yes hk, strOfNums_size, bigL_length]; rfl
theorem isModB_size {m : ByteArray} (h : isModB m = true) : 40 ≤ m.size ∧ m.size ≤ 96 := by
  unfold isModB at h
  simp only [Bool.and_eq_true, decide_eq_true_eq] at h
  exact ⟨h.1.1.1, h.1.1.2⟩
theorem digitsB_size {o : ByteArray} {lo hi : Int} (h : digitsB o lo hi = true) : lo ≤ (o.size : Int) ∧ (o.size : Int) ≤ hi := by
  unfold digitsB at h
  rw [Bool.and_eq_true] at h
  exact inB_true.1 h.2
theorem digitsB_asC (s : ByteArray) (lo hi : Int) : digitsB s lo hi = (inB s.size lo hi && allDig s) := by
  unfold digitsB
  rw [digB_all, Bool.and_comm]
theorem keyB_parts {o m : ByteArray} (h : keyB o m = true) : digitsB o 1 19 = true ∧ isModB m = true := by
  unfold keyB at h
  exact Bool.and_eq_true_iff.1 h
theorem keyE_zero {o : ByteArray} {t : Int} {m : ByteArray} (h : keyE o t m = 0) : keyB o m = true ∧ numE t 2 = 0 := by
  unfold keyE at h
  cases hk : keyB o m with
  | false => rw [hk] at h; cases h
  | true => rw [hk] at h; exact ⟨rfl, h⟩
set_option maxHeartbeats 1000000 in
theorem isOwner_any (s : ByteArray) (hs : s.size ≤ maxLen) (w : World) :
    Calls Tryz.prog 10 #[.string s] w fun e w' => e = .returned (.bool (digitsB s 1 19)) ∧ Below w.heap.size w w' := by
  have N1 := hide (fun w' => trimD_any s w' (by unfold maxLen at hs; omega))
  have HD := hide (digitsB_asC s 1 19)
  generalize digitsB s 1 19 = db at *
  generalize allDig s = ad at *
  unfold digitsT at N1
  by_cases h1 : 1 ≤ s.size
  case neg =>
    have HQ : Hid (db = false) := hide ((unhide HD).trans (by rw [show inB (s.size : Int) 1 19 = false from inB_false.2 (by omega)]; rfl))
    have t1 : ¬ (1 : Int) ≤ (s.size : Int) := by omega
    clear h1 hs
    go_enter Tryz.func10, Tryz.ntmps10
    go_wp2
    go_ret
    exact ⟨ret_bool (unhide HQ).symm, Below.refl _ _⟩
  have t1 : (1 : Int) ≤ (s.size : Int) := by omega
  by_cases h2 : s.size ≤ 19
  case neg =>
    have HQ : Hid (db = false) := hide ((unhide HD).trans (by rw [show inB (s.size : Int) 1 19 = false from inB_false.2 (by omega)]; rfl))
    have t2 : ¬ (s.size : Int) ≤ 19 := by omega
    clear h1 h2 hs
    go_enter Tryz.func10, Tryz.ntmps10
    go_wp2
    go_ret
    exact ⟨ret_bool (unhide HQ).symm, Below.refl _ _⟩
  have t2 : (s.size : Int) ≤ 19 := by omega
  have HQ : Hid (db = ad) := hide ((unhide HD).trans (by rw [show inB (s.size : Int) 1 19 = true from inB_true.2 (by omega)]; rfl))
  clear h1 h2 hs HD
  go_enter Tryz.func10, Tryz.ntmps10
  go_wp2_with fail
  refine (unhide N1 _).mono ?_
  rintro e w1 ⟨hb, t, rfl, ht⟩
  have HB := hide hb
  have HT := hide (ht.trans (unhide HQ).symm)
  clear hb ht
  go_wp2
  go_ret
  exact ⟨ret_bool (unhide HT), unhide HB⟩
theorem conv1K (w : World) (x : Int) :
    (convert 39 9 (.slice (some ⟨w.heap.size, 0, none⟩) 1 1)).run Tryz.prog (w.alloc (.cells #[.int .u8 x] 5)) = .ok (.string (strOfNums [x])) (w.alloc (.cells #[.int .u8 x] 5)) :=
  run_convert_bytes_arg (P := Tryz.prog) _ 39 5 Tryz.underlying39 Tryz.underlying5 w.heap.size 0 1 1 [x] rfl (fun i hi => by
    obtain rfl : i = 0 := by simp at hi; omega
    simp) 9 Tryz.underlying9
set_option maxHeartbeats 4000000 in
theorem ckeyText_any (o : ByteArray) (t : Int) (m : ByteArray) (w : World) (hos : o.size ≤ maxLen) (ht : t ≤ 9223372036854775807) :
    Calls Tryz.prog 4 #[.agg #[.string o, .int .i64 t, .string m]] w fun e w' => e = .returned (.tuple #[.string (keyS o t m), .int .i64 (keyE o t m)]) ∧ Below w.heap.size w w' := by
  obtain ⟨W1, hW1⟩ : ∃ W1, W1 = w.alloc (.cells #[.string o, .int .i64 t, .string m] 23) := ⟨_, rfl⟩
  have hB1 : Below w.heap.size w W1 := by rw [hW1]; exact (Below.refl _ _).alloc (Nat.le_refl _) _
  have hX1 : W1.heap[w.heap.size]? = some (.cells #[.string o, .int .i64 t, .string m] 23 (0, 0)) := by rw [hW1]; exact heap_alloc_new _ _
  have hc : ∀ W, Below W1.heap.size W1 W → W.cell? ⟨w.heap.size, 0, none⟩ = some (.string o) ∧ W.cell? ⟨w.heap.size, 1, none⟩ = some (.int .i64 t) ∧ W.cell? ⟨w.heap.size, 2, none⟩ = some (.string m) := fun W hb => by
    have hx := (hb.block _ (World.block_lt_of_cell? W1 ⟨w.heap.size, 0, none⟩ (cell_of_row _ _ 0 _ _ _ hX1))).trans hX1
    exact ⟨cell_of_row _ _ 0 _ _ _ hx, cell_of_row _ _ 1 _ _ _ hx, cell_of_row _ _ 2 _ _ _ hx⟩
  have N0 := hide (fun W => isOwner_any o hos W)
  have N1 := hide (fun W => isModulus_any m W)
  have N2 := hide (fun W => number_all t 2 W ht)
  have HC := hide hc; have HB1 := hide hB1; have HW1 := hide hW1
  have HNE := hide (numE_or t)
  have HNS := hide (numS_two t)
  have HMS := hide (fun h => isModB_size (m := m) h)
  have HOS := hide (fun h => digitsB_size (o := o) (lo := 1) (hi := 19) h)
  have HE : Hid (keyE o t m = bif digitsB o 1 19 && isModB m then numE t 2 else 1) := hide rfl
  have HS : Hid (keyS o t m = if keyE o t m = 0 then strOfNums [(o.size : Int)] ++ o ++ numS t 2 ++ m else ⟨#[]⟩) := hide rfl
  generalize keyS o t m = ks at *
  generalize keyE o t m = ke at *
  generalize numS t 2 = nt at *
  generalize numE t 2 = ne at *
  generalize digitsB o 1 19 = db at *
  generalize isModB m = mb at *
  clear hc hB1 hX1 hW1 hos ht
  obtain ⟨c0, c1, c2⟩ := unhide HC W1 (Below.refl _ _)
  cases db with
  | false =>
    obtain rfl : ke = 1 := unhide HE
    obtain rfl : ks = ⟨#[]⟩ := unhide HS
    clear HE HS HNE HNS HMS HOS
    go_enter Tryz.func4, Tryz.ntmps4
    go_upto_region 1 with fail
    rw [← unhide HW1]
    go_wp2_with fail
    refine (unhide N0 _).mono ?_
    rintro e y1 ⟨rfl, k1⟩
    have HK := hide k1
    clear c0 c1 c2 k1
    go_wp2
    go_ret2
    exact ⟨rfl, (unhide HB1).trans ((unhide HK).mono (unhide HB1).size)⟩
  | true =>
  cases mb with
  | false =>
    obtain rfl : ke = 1 := unhide HE
    obtain rfl : ks = ⟨#[]⟩ := unhide HS
    clear HE HS HNE HNS HMS HOS
    go_enter Tryz.func4, Tryz.ntmps4
    go_upto_region 1 with fail
    rw [← unhide HW1]
    go_wp2_with fail
    refine (unhide N0 _).mono ?_
    rintro e y1 ⟨rfl, k1⟩
    have HK := hide k1
    clear c0 c1 c2 k1
    obtain ⟨c0, c1, c2⟩ := unhide HC y1 (unhide HK)
    go_wp2_with fail
    refine (unhide N1 _).mono ?_
    rintro e y2 ⟨rfl, hy⟩
    have hy' := hy.symm
    subst hy'
    clear hy
    go_wp2
    go_ret2
    exact ⟨rfl, (unhide HB1).trans ((unhide HK).mono (unhide HB1).size)⟩
  | true =>
  obtain rfl : ke = ne := unhide HE
  have hm96 := unhide HMS rfl
  have ho19 := unhide HOS rfl
  clear HMS HOS HE
  rcases unhide HNE with rfl | rfl
  case inr =>
    obtain rfl : ks = ⟨#[]⟩ := unhide HS
    clear HS HNE HNS hm96 ho19
    go_enter Tryz.func4, Tryz.ntmps4
    go_upto_region 1 with fail
    rw [← unhide HW1]
    go_wp2_with fail
    refine (unhide N0 _).mono ?_
    rintro e y1 ⟨rfl, k1⟩
    have HK := hide k1
    clear c0 c1 c2 k1
    obtain ⟨c0, c1, c2⟩ := unhide HC y1 (unhide HK)
    go_wp2_with fail
    refine (unhide N1 _).mono ?_
    rintro e y2 ⟨rfl, hy⟩
    have hy' := hy.symm
    subst hy'
    clear hy
    go_wp2_with fail
    refine (unhide N2 _).mono ?_
    rintro e y3 ⟨rfl, k3⟩
    have HK3 := hide ((unhide HK).trans (k3.mono (unhide HK).size))
    clear c0 c1 c2 k3
    go_wp2
    go_ret2
    exact ⟨rfl, (unhide HB1).trans ((unhide HK3).mono (unhide HB1).size)⟩
  case inl =>
    have HSf : Hid (ks = strOfNums [(o.size : Int)] ++ o ++ nt ++ m) := hide (unhide HS)
    have hnt := unhide HNS rfl
    clear HS HNE HNS
    have hw8 : IntKind.u8.wrap (o.size : Int) = (o.size : Int) := by rw [IntKind.wrap_u8]; omega
    go_enter Tryz.func4, Tryz.ntmps4
    go_upto_region 1 with fail
    rw [← unhide HW1]
    go_wp2_with fail
    refine (unhide N0 _).mono ?_
    rintro e y1 ⟨rfl, k1⟩
    have HK := hide k1
    clear c0 c1 c2 k1
    obtain ⟨c0, c1, c2⟩ := unhide HC y1 (unhide HK)
    go_wp2_with fail
    refine (unhide N1 _).mono ?_
    rintro e y2 ⟨rfl, hy⟩
    have hy' := hy.symm
    subst hy'
    clear hy
    go_wp2_with fail
    refine (unhide N2 _).mono ?_
    rintro e y3 ⟨rfl, k3⟩
    have HK3 := hide ((unhide HK).trans (k3.mono (unhide HK).size))
    clear c0 c1 c2 k3
    obtain ⟨c0, c1, c2⟩ := unhide HC y3 (unhide HK3)
    have d0 : (y3.alloc (.cells #[.int .u8 (o.size : Int)] 5)).cell? ⟨w.heap.size, 0, none⟩ = some (.string o) := Lib.cell?_alloc_some _ c0
    have d2 : (y3.alloc (.cells #[.int .u8 (o.size : Int)] 5)).cell? ⟨w.heap.size, 2, none⟩ = some (.string m) := Lib.cell?_alloc_some _ c2
    have hcv := conv1K y3 (o.size : Int)
    have hz1 : (strOfNums [(o.size : Int)]).size = 1 := by rw [strOfNums_size]; rfl
    generalize strOfNums [(o.size : Int)] = s1 at *
    have a1 := fun wx => run_string_add_sum (P := Tryz.prog) wx s1 o (by omega)
    have a2 := fun wx => run_string_add_sum (P := Tryz.prog) wx (s1 ++ o) nt (by rw [ByteArray.size_append]; omega)
    have a3 := fun wx => run_string_add_sum (P := Tryz.prog) wx (s1 ++ o ++ nt) m (by rw [ByteArray.size_append, ByteArray.size_append]; omega)
    have HKZ := hide (fun x : Obj => ((unhide HB1).trans ((unhide HK3).mono (unhide HB1).size)).alloc ((unhide HB1).trans ((unhide HK3).mono (unhide HB1).size)).size x)
    clear hm96 ho19
    go_wp2
    go_ret2
    exact ⟨by rw [unhide HSf]; rfl, unhide HKZ _⟩
end Go.Proofs.YtmdcaljccegiiaaGreatDoor
namespace Go.Proofs.YtmdcaljccegiiaaGreatDoor
open Go.RowKit
set_option linter.unusedVariables false
set_option linter.unusedSimpArgs false
set_option maxRecDepth 100000

theorem keep_cellK {w w' : World} {a : Addr} {v : Value} (h : Below w.heap.size w w') (hc : w.cell? a = some v) : w'.cell? a = some v := (h.cell (World.block_lt_of_cell? w a hc)).trans hc
theorem old_cellK {w : World} {o : Obj} {a : Addr} {v : Value} (hc : w.cell? a = some v) : (w.alloc o).cell? a = some v := keep_cellK ((Below.refl w.heap.size w).alloc (Nat.le_refl _) o) hc
theorem drew_cellK {w : World} {a : Addr} {v : Value} (hc : w.cell? a = some v) : w.drew.cell? a = some v := hc
theorem new_cellK {w : World} {g j : Nat} {cs : Array Value} {e : TypeId} {v : Value} (hg : g = w.heap.size) (hc : cs[j]? = some v) : (w.alloc (.cells cs e)).cell? ⟨g, j, none⟩ = some v := by
  subst hg
  rw [cell_of_row _ _ j _ e _ (heap_alloc_new w _)]
  exact hc
theorem ext_drewK {W x : World} (h : Below W.heap.size W x) : Below W.heap.size W x.drew := h.drew
theorem ext_allocK {W x : World} (h : Below W.heap.size W x) (o : Obj) : Below W.heap.size W (x.alloc o) := h.alloc h.size o
theorem bytes1K (x : Int) (h0 : 0 ≤ x ∧ x < 256) (b cap : Nat) (w : World) (c0 : w.cell? ⟨b, 0, none⟩ = some (.int .i64 x)) :
    Calls Tryz.prog 15 #[.slice (some ⟨b, 0, none⟩) 1 cap] w fun e w' => e = .returned (.string (strOfNums [x])) ∧ Below w.heap.size w w' := by
  have h := bytes_one x b 0 cap w (World.block_lt_of_cell? w _ c0) c0
  rw [show lowByte x = x from by unfold lowByte; omega] at h
  exact h
set_option maxHeartbeats 4000000 in
theorem rkeyText_any (o : ByteArray) (t : Int) (m : ByteArray) (w : World) (hos : o.size ≤ maxLen) :
    Calls Tryz.prog 5 #[.agg #[.string o, .int .i64 t, .string m]] w fun e w' => e = .returned (.tuple #[.string (keyS o t m), .int .i64 (keyE o t m)]) ∧ Below w.heap.size w w' := by
  obtain ⟨W1, hW1⟩ : ∃ W1, W1 = w.alloc (.cells #[.string o, .int .i64 t, .string m] 23) := ⟨_, rfl⟩
  have hB1 : Below w.heap.size w W1 := by rw [hW1]; exact (Below.refl _ _).alloc (Nat.le_refl _) _
  have hX1 : W1.heap[w.heap.size]? = some (.cells #[.string o, .int .i64 t, .string m] 23 (0, 0)) := by rw [hW1]; exact heap_alloc_new _ _
  have N0 := hide (fun W => rdigits_any o 1 19 hos W)
  have N1 := hide (fun W => rmodulus_any m W)
  have HB1 := hide hB1; have HW1 := hide hW1
  have HNT := hide (numE_two t)
  have HNS := hide (numS_two t)
  have HMS := hide (fun h => isModB_size (m := m) h)
  have HOS := hide (fun h => digitsB_size (o := o) (lo := 1) (hi := 19) h)
  have HE : Hid (keyE o t m = bif digitsB o 1 19 && isModB m then numE t 2 else 1) := hide rfl
  have HS : Hid (keyS o t m = if keyE o t m = 0 then strOfNums [(o.size : Int)] ++ o ++ numS t 2 ++ m else ⟨#[]⟩) := hide rfl
  have HBig : Hid (0 ≤ t → t ≤ 65535 → strOfNums (bigL t.toNat 2) = numS t 2) := hide (fun h1 h2 => by rw [numS_yes ⟨by decide, by decide, h1, by rw [show ((256 : Int) ^ (2 : Int).toNat) = 65536 from rfl]; omega⟩]; rfl)
  have HN3 : Hid (¬ (0 ≤ t ∧ t ≤ 65535) → numE t 2 = 3) := hide (fun h => by
    rcases numE_or t with h1 | h1
    · exact absurd ((numE_two t).1 h1) h
    · exact h1)
  generalize keyS o t m = ks at *
  generalize keyE o t m = ke at *
  generalize numS t 2 = nt at *
  generalize numE t 2 = ne at *
  generalize digitsB o 1 19 = db at *
  generalize isModB m = mb at *
  have c0 : W1.cell? ⟨w.heap.size, 0, none⟩ = some (.string o) := cell_of_row _ _ 0 _ _ _ hX1
  have c1 : W1.cell? ⟨w.heap.size, 1, none⟩ = some (.int .i64 t) := cell_of_row _ _ 1 _ _ _ hX1
  have c2 : W1.cell? ⟨w.heap.size, 2, none⟩ = some (.string m) := cell_of_row _ _ 2 _ _ _ hX1
  clear hB1 hX1 hW1 hos
  cases db with
  | false =>
    obtain rfl : ke = 1 := unhide HE
    obtain rfl : ks = ⟨#[]⟩ := unhide HS
    clear HE HS HNT HNS HMS HOS HBig HN3
    go_enter Tryz.func5, Tryz.ntmps5
    go_upto_region 1 with fail
    rw [← unhide HW1]
    go_wp2_with fail
    refine (unhide N0 _).mono ?_
    rintro e y1 ⟨rfl, hy⟩
    have hy' := hy.symm
    subst hy'
    clear hy
    go_wp2
    go_ret2
    exact ⟨rfl, unhide HB1⟩
  | true =>
  cases mb with
  | false =>
    obtain rfl : ke = 1 := unhide HE
    obtain rfl : ks = ⟨#[]⟩ := unhide HS
    clear HE HS HNT HNS HMS HOS HBig HN3
    go_enter Tryz.func5, Tryz.ntmps5
    go_upto_region 1 with fail
    rw [← unhide HW1]
    go_wp2_with fail
    refine (unhide N0 _).mono ?_
    rintro e y1 ⟨rfl, hy⟩
    have hy' := hy.symm
    subst hy'
    clear hy
    go_wp2_with fail
    refine (unhide N1 _).mono ?_
    rintro e y2 ⟨rfl, hy⟩
    have hy' := hy.symm
    subst hy'
    clear hy
    go_wp2
    go_ret2
    exact ⟨rfl, unhide HB1⟩
  | true =>
  obtain rfl : ke = ne := unhide HE
  have hm96 := unhide HMS rfl
  have ho19 := unhide HOS rfl
  clear HMS HOS HE
  by_cases hr : 0 ≤ t ∧ t ≤ 65535
  case neg =>
    obtain rfl := unhide HN3 hr
    obtain rfl : ks = ⟨#[]⟩ := unhide HS
    have hcs : Hid (t < 0 ∨ (0 ≤ t ∧ 65535 < t)) := hide (by omega)
    clear HS HNT HNS hm96 ho19 hr HBig HN3
    rcases unhide hcs with hc | ⟨hc, hc2⟩
    all_goals
      clear hcs
      go_enter Tryz.func5, Tryz.ntmps5
      go_upto_region 1 with fail
      rw [← unhide HW1]
      go_wp2_with fail
      refine (unhide N0 _).mono ?_
      rintro e y1 ⟨rfl, hy⟩
      have hy' := hy.symm
      subst hy'
      clear hy
      go_wp2_with fail
      refine (unhide N1 _).mono ?_
      rintro e y2 ⟨rfl, hy⟩
      have hy' := hy.symm
      subst hy'
      clear hy
      go_wp2
      go_ret2
      exact ⟨rfl, unhide HB1⟩
  case pos =>
    obtain ⟨hr0, hr1⟩ := hr
    obtain rfl : ke = 0 := (unhide HNT).2 ⟨hr0, hr1⟩
    have HSf : Hid (ks = strOfNums [(o.size : Int)] ++ o ++ nt ++ m) := hide (unhide HS)
    have hnt := unhide HNS rfl
    obtain ⟨tn, rfl⟩ := Int.eq_ofNat_of_zero_le hr0
    have hbig := unhide HBig hr0 hr1
    have N2 := hide (fun W => (big_any tn 2 W (by decide) (by omega)))
    rw [Int.toNat_natCast] at hbig
    rw [hbig] at N2
    have N3 := hide (fun b cap W c => bytes1K (o.size : Int) (by omega) b cap W c)
    clear HS HNT HNS HBig HN3 hbig
    have hz1 : (strOfNums [(o.size : Int)]).size = 1 := by rw [strOfNums_size]; rfl
    generalize strOfNums [(o.size : Int)] = s1 at *
    have a1 := fun wx => run_string_add_sum (P := Tryz.prog) wx s1 o (by omega)
    have a2 := fun wx => run_string_add_sum (P := Tryz.prog) wx (s1 ++ o) nt (by rw [ByteArray.size_append]; omega)
    have a3 := fun wx => run_string_add_sum (P := Tryz.prog) wx (s1 ++ o ++ nt) m (by rw [ByteArray.size_append, ByteArray.size_append]; omega)
    clear hm96 ho19
    go_enter Tryz.func5, Tryz.ntmps5
    go_upto_region 1 with fail
    rw [← unhide HW1]
    go_wp2_with fail
    refine (unhide N0 _).mono ?_
    rintro e y1 ⟨rfl, hy⟩
    have hy' := hy.symm
    subst hy'
    clear hy
    go_wp2_with fail
    refine (unhide N1 _).mono ?_
    rintro e y2 ⟨rfl, hy⟩
    have hy' := hy.symm
    subst hy'
    clear hy
    go_upto_region 5 with fail
    go_region_held3 (fun w' => w'.cell? ⟨w.heap.size, 0, none⟩ = some (.string o) ∧ w'.cell? ⟨w.heap.size, 1, none⟩ = some (.int .i64 (tn : Int)) ∧ w'.cell? ⟨w.heap.size, 2, none⟩ = some (.string m))
      (first | (go_split_ands; refine ⟨?_, ?_, ?_⟩ <;> ((repeat (first | (with_reducible assumption) | (with_reducible refine drew_cellK ?_) | (with_reducible refine old_cellK ?_) | (with_reducible refine keep_cellK h3 ?_) | (with_reducible refine keep_cellK h2 ?_))); done)) | go_keep)
      ((first
        | (go_at_call 15; refine (unhide N3 _ _ _ ?_).mono ?_; (focus (repeat (first | ((with_reducible refine new_cellK ?_ ?_); (focus (simp; done)); rfl) | (with_reducible refine old_cellK ?_) | (with_reducible refine keep_cellK h2 ?_) | (with_reducible refine drew_cellK ?_)))); rintro e z3 ⟨rfl, h3⟩)
        | (go_at_call 16; refine (unhide N2 _).mono ?_; rintro e z2 ⟨rfl, h2⟩)))
    all_goals
      have hfin : Below W1.heap.size W1 z2 := by
        (repeat (first | (with_reducible exact Below.refl _ _) | (with_reducible refine ext_drewK ?_) | (with_reducible refine ext_callB ?_ h2) | (with_reducible refine ext_callB ?_ h3) | (with_reducible refine ext_allocK ?_ _)))
      have HF := hide ((unhide HB1).trans (hfin.mono (unhide HB1).size))
      clear h2 h3 hfin
      go_wp2
      go_ret2
      exact ⟨by rw [unhide HSf]; rfl, unhide HF⟩
end Go.Proofs.YtmdcaljccegiiaaGreatDoor
namespace Go.Proofs.YtmdcaljccegiiaaGreatDoor
open Go.RowKit
set_option linter.unusedVariables false
set_option linter.unusedSimpArgs false
set_option maxRecDepth 100000

/-- how many digits a key says, its digits, its month, its modulus -/
def kN (s : ByteArray) : Nat := (s.data.toList.headD 0).toNat
def kO (s : ByteArray) (n : Nat) : ByteArray := s.extract 1 (1 + n)
def kRest (s : ByteArray) (n : Nat) : ByteArray := s.extract (1 + n) s.size
def kT (s : ByteArray) (n : Nat) : Nat := valN ((kRest s n).extract 0 2).data.toList
def kM (s : ByteArray) (n : Nat) : ByteArray := (kRest s n).extract 2 (kRest s n).size
def rkB (s : ByteArray) : Bool := decide (1 ≤ s.size ∧ 3 + kN s ≤ s.size) && keyB (kO s (kN s)) (kM s (kN s))
def rkE (s : ByteArray) : Int := bif rkB s then 0 else 1
def rkO (s : ByteArray) : ByteArray := bif rkB s then kO s (kN s) else ⟨#[]⟩
def rkT (s : ByteArray) : Int := bif rkB s then (kT s (kN s) : Int) else 0
def rkM (s : ByteArray) : ByteArray := bif rkB s then kM s (kN s) else ⟨#[]⟩
theorem kN_lt (s : ByteArray) : kN s < 256 := (s.data.toList.headD 0).toNat_lt
theorem kT_lt (s : ByteArray) (n : Nat) : kT s n < 65536 := by
  have h := valN_lt ((kRest s n).extract 0 2).data.toList
  have hz : ((kRest s n).extract 0 2).data.toList.length ≤ 2 := by
    rw [show ((kRest s n).extract 0 2).data.toList.length = ((kRest s n).extract 0 2).size by simp, ByteArray.size_extract]; omega
  have h2 : 256 ^ ((kRest s n).extract 0 2).data.toList.length ≤ 256 ^ 2 := Nat.pow_le_pow_right (by decide) hz
  unfold kT
  omega
theorem keyE_two {o m : ByteArray} {t : Int} (h0 : 0 ≤ t) (h1 : t ≤ 65535) : keyE o t m = bif keyB o m then 0 else 1 := by
  unfold keyE
  rw [(numE_two t).2 ⟨h0, h1⟩]
theorem rk_no {s : ByteArray} (h : rkB s = false) : rkE s = 1 ∧ rkO s = ⟨#[]⟩ ∧ rkT s = 0 ∧ rkM s = ⟨#[]⟩ := by
  unfold rkE rkO rkT rkM
  rw [h]
  exact ⟨rfl, rfl, rfl, rfl⟩
theorem rk_yes {s : ByteArray} (h : rkB s = true) : rkE s = 0 ∧ rkO s = kO s (kN s) ∧ rkT s = (kT s (kN s) : Int) ∧ rkM s = kM s (kN s) := by
  unfold rkE rkO rkT rkM
  rw [h]
  exact ⟨rfl, rfl, rfl, rfl⟩
def keyV (o : ByteArray) (t : Int) (m : ByteArray) : Value := .agg #[.string o, .int .i64 t, .string m]
set_option maxHeartbeats 4000000 in
theorem creadKey_any (s : ByteArray) (w : World) (hs : s.size ≤ maxLen) :
    Calls Tryz.prog 6 #[.string s] w fun e w' => e = .returned (.tuple #[.agg #[.string (rkO s), .int .i64 (rkT s), .string (rkM s)], .int .i64 (rkE s)]) ∧ Below w.heap.size w w' := by
  obtain ⟨W1, hW1⟩ : ∃ W1, W1 = w.alloc (.cells #[.string ⟨#[]⟩, .int .i64 0, .string ⟨#[]⟩] 23) := ⟨_, rfl⟩
  have hB1 : Below w.heap.size w W1 := by rw [hW1]; exact (Below.refl _ _).alloc (Nat.le_refl _) _
  have hX1 : W1.heap[w.heap.size]? = some (.cells #[.string ⟨#[]⟩, .int .i64 0, .string ⟨#[]⟩] 23 (0, 0)) := by rw [hW1]; exact heap_alloc_new _ _
  have hl1 : w.heap.size < W1.heap.size := by rw [hW1]; simp
  -- the result's cells, before and behind a store
  have HW : Hid (∀ (W : World) (o m : ByteArray) (t : Int), Below W1.heap.size W1 W → W.frozen? ⟨w.heap.size, 0, none⟩ = false ∧ W.frozen? ⟨w.heap.size, 1, none⟩ = false ∧ W.frozen? ⟨w.heap.size, 2, none⟩ = false ∧ W.cell? ⟨w.heap.size, 0, none⟩ = some (.string ⟨#[]⟩) ∧ W.cell? ⟨w.heap.size, 1, none⟩ = some (.int .i64 0) ∧ W.cell? ⟨w.heap.size, 2, none⟩ = some (.string ⟨#[]⟩) ∧
      Below w.heap.size w (((W.setCell ⟨w.heap.size, 0, none⟩ (.string o)).setCell ⟨w.heap.size, 1, none⟩ (.int .i64 t)).setCell ⟨w.heap.size, 2, none⟩ (.string m)) ∧
      (((W.setCell ⟨w.heap.size, 0, none⟩ (.string o)).setCell ⟨w.heap.size, 1, none⟩ (.int .i64 t)).setCell ⟨w.heap.size, 2, none⟩ (.string m)).cell? ⟨w.heap.size, 0, none⟩ = some (.string o) ∧
      (((W.setCell ⟨w.heap.size, 0, none⟩ (.string o)).setCell ⟨w.heap.size, 1, none⟩ (.int .i64 t)).setCell ⟨w.heap.size, 2, none⟩ (.string m)).cell? ⟨w.heap.size, 1, none⟩ = some (.int .i64 t) ∧
      (((W.setCell ⟨w.heap.size, 0, none⟩ (.string o)).setCell ⟨w.heap.size, 1, none⟩ (.int .i64 t)).setCell ⟨w.heap.size, 2, none⟩ (.string m)).cell? ⟨w.heap.size, 2, none⟩ = some (.string m)) := hide (fun W o m t hb => by
    have h := (hb.block _ hl1).trans hX1
    have k := hB1.trans (hb.mono hB1.size)
    refine ⟨by simp [World.frozen?, h], by simp [World.frozen?, h], by simp [World.frozen?, h], cell_of_row _ _ 0 _ _ _ h, cell_of_row _ _ 1 _ _ _ h, cell_of_row _ _ 2 _ _ _ h, ((k.setCell (p := ⟨w.heap.size, 0, none⟩) (Nat.le_refl _) _).setCell (p := ⟨w.heap.size, 1, none⟩) (Nat.le_refl _) _).setCell (p := ⟨w.heap.size, 2, none⟩) (Nat.le_refl _) _, ?_, ?_, ?_⟩
    · rw [cell_of_row _ _ 0 _ _ _ (set_rowM (set_rowM (set_rowM h)))]; rfl
    · rw [cell_of_row _ _ 1 _ _ _ (set_rowM (set_rowM (set_rowM h)))]; rfl
    · rw [cell_of_row _ _ 2 _ _ _ (set_rowM (set_rowM (set_rowM h)))]; rfl)
  have HW1 := hide hW1; have HB1 := hide hB1
  clear hW1 hB1 hX1 hl1
  have HNo := hide (fun h => rk_no (s := s) h)
  have HYes := hide (fun h => rk_yes (s := s) h)
  have hkn := kN_lt s
  have hkt := kT_lt s (kN s)
  by_cases h0 : s.size = 0
  · have hse : s.toList.isEmpty = true := by
      rw [Lib.toList_data, List.isEmpty_iff]
      exact List.length_eq_zero_iff.1 (by simpa using h0)
    have hrb : rkB s = false := by unfold rkB; rw [decide_eq_false (by omega)]; rfl
    obtain ⟨e1, e2, e3, e4⟩ := unhide HNo hrb
    rw [e1, e2, e3, e4]
    obtain ⟨f0, f1, f2, g0, g1, g2, hF, r0, r1, r2⟩ := unhide HW W1 ⟨#[]⟩ ⟨#[]⟩ 0 (Below.refl _ _)
    have HF := hide hF
    clear e1 e2 e3 e4 hrb HNo HYes hkn hkt h0 hF hs
    go_enter Tryz.func6, Tryz.ntmps6
    go_upto_region 1 with fail
    rw [← unhide HW1]
    go_wp2
    exact bodyPost_ret (v := .tuple #[.agg #[.string ⟨#[]⟩, .int .i64 0, .string ⟨#[]⟩], .int .i64 1]) (by simp [results, Tryz.results6, go_sem, r0, r1, r2]) rfl ⟨rfl, unhide HF⟩
  have hse : s.toList.isEmpty = false := by
    rw [Lib.toList_data, List.isEmpty_eq_false_iff]
    exact fun e => h0 (by have := congrArg List.length e; simpa using this)
  have hhd := head_byte s (by omega)
  have hkn2 : (s.data.toList.headD 0).toNat = kN s := rfl
  rw [hkn2] at hhd
  generalize hnn : kN s = n at *
  have hw3 : wrap64 (3 + (n : Int)) = 3 + (n : Int) := by unfold wrap64; omega
  have hw1 : wrap64 (1 + (n : Int)) = 1 + (n : Int) := by unfold wrap64; omega
  have hnb : (n : Int) ≤ 255 := by omega
  have hs0 : (0 : Int) < (s.size : Int) := by omega
  have hs00 : 0 < s.size := by omega
  by_cases h3 : 3 + n ≤ s.size
  case neg =>
    have hrb : rkB s = false := by unfold rkB; rw [hnn, decide_eq_false (by omega)]; rfl
    obtain ⟨e1, e2, e3, e4⟩ := unhide HNo hrb
    rw [e1, e2, e3, e4]
    obtain ⟨f0, f1, f2, g0, g1, g2, hF, r0, r1, r2⟩ := unhide HW W1 ⟨#[]⟩ ⟨#[]⟩ 0 (Below.refl _ _)
    have HF := hide hF
    have hlt : (s.size : Int) < 3 + (n : Int) := by omega
    clear e1 e2 e3 e4 hrb HNo HYes hkn hkt h0 hF hs h3 hnn hkn2
    go_enter Tryz.func6, Tryz.ntmps6
    go_upto_region 1 with fail
    rw [← unhide HW1]
    go_wp2
    exact bodyPost_ret (v := .tuple #[.agg #[.string ⟨#[]⟩, .int .i64 0, .string ⟨#[]⟩], .int .i64 1]) (by simp [results, Tryz.results6, go_sem, r0, r1, r2]) rfl ⟨rfl, unhide HF⟩
  case pos =>
  have hrb : rkB s = keyB (kO s n) (kM s n) := by unfold rkB; rw [hnn, decide_eq_true ⟨by omega, h3⟩]; rfl
  have hge : ¬ (s.size : Int) < 3 + (n : Int) := by omega
  have sl1 : ∀ wx, (Instr.slice 9 (.string s) (some (.int .i64 1)) (some (.int .i64 (1 + (n : Int)))) none).run Tryz.prog wx = .ok (.string (kO s n)) wx := fun wx => by
    have := run_slice_string (P := Tryz.prog) wx 9 s .i64 .i64 (1 : Int) (1 + (n : Int)) Tryz.underlying9 (by omega) (by omega) (by omega)
    rw [this]
    rfl
  have sl2 : ∀ wx, (Instr.slice 9 (.string s) (some (.int .i64 (1 + (n : Int)))) none none).run Tryz.prog wx = .ok (.string (kRest s n)) wx := fun wx => by
    have := slice_from s (1 + n) (by omega) wx
    rw [show (((1 + n : Nat)) : Int) = 1 + (n : Int) by omega] at this
    exact this
  have hrz : (kRest s n).size = s.size - (1 + n) := by unfold kRest; rw [ByteArray.size_extract]; omega
  have sl3 := fun wx => slice_to (kRest s n) 2 (by omega) wx
  have sl4 := fun wx => slice_from (kRest s n) 2 (by omega) wx
  have N1 := hide (fun W => readN_any ((kRest s n).extract 0 2) W (by rw [ByteArray.size_extract]; omega))
  have hro : readOf (valN ((kRest s n).extract 0 2).data.toList) = .tuple #[.int .i64 (kT s n : Int), .int .i64 0] := by
    rw [readOf_small (by show ¬ 9223372036854775807 < kT s n; omega)]; rfl
  have N1' := unhide N1
  rw [hro] at N1'
  have N1 := hide N1'
  have hos : (kO s n).size ≤ maxLen := by unfold kO maxLen; rw [ByteArray.size_extract]; unfold maxLen at hs; omega
  have N2 := hide (fun W => ckeyText_any (kO s n) (kT s n : Int) (kM s n) W hos (by omega))
  have hke := keyE_two (o := kO s n) (m := kM s n) (t := (kT s n : Int)) (by omega) (by omega)
  have hkm : (kRest s n).extract 2 (kRest s n).size = kM s n := rfl
  rw [hkm] at sl4
  have HRB := hide hrb
  have hT2 := kT_lt s n
  have hr2 : (2 : Int) ≤ ((kRest s n).size : Int) := by omega
  clear sl3 sl4 hrb
  generalize kT s n = t at *
  have hkm2 : kM s n = (kRest s n).extract 2 (kRest s n).size := rfl
  rw [hkm2] at N2 hke HRB HYes
  generalize kO s n = o at *
  generalize kRest s n = r at *
  clear hro N1' hkm hkm2 hrz hkn hkt hos hkn2 h3 h0 hs00
  have HV : Hid (∀ q : Nat, Below W1.heap.size W1 (W1.drewN q)) := hide (fun q => below_drewN (Below.refl _ _) q)
  cases hk : keyB o (r.extract 2 r.size) with
  | false =>
    rw [hk] at hke HRB
    rw [show (bif false then (0 : Int) else 1) = 1 from rfl] at hke
    obtain ⟨e1, e2, e3, e4⟩ := unhide HNo (unhide HRB)
    rw [e1, e2, e3, e4]
    rw [hke] at N2
    clear e1 e2 e3 e4 HNo HYes hk hke hnn HRB
    go_enter Tryz.func6, Tryz.ntmps6
    go_upto_region 3 with fail
    rw [← unhide HW1]
    go_quiet (fail)
    have hVb := unhide HV nq
    generalize W1.drewN nq = V at *
    obtain ⟨W2, hW2⟩ : ∃ W2, W2 = V.alloc (.cells #[.string o, .int .i64 (t : Int), .string (r.extract 2 r.size)] 23) := ⟨_, rfl⟩
    have hB2 : Below W1.heap.size W1 W2 := by rw [hW2]; exact hVb.alloc hVb.size _
    have hY2 : W2.heap[V.heap.size]? = some (.cells #[.string o, .int .i64 (t : Int), .string (r.extract 2 r.size)] 23 (0, 0)) := by rw [hW2]; exact heap_alloc_new _ _
    have hlt2 : V.heap.size < W2.heap.size := by rw [hW2]; simp
    clear hVb
    have HW2 := hide hW2; have HB2 := hide hB2; have HY2 := hide hY2; have HLT2 := hide hlt2
    clear hW2 hB2 hY2 hlt2
    go_wp2_with fail
    refine (unhide N1 _).mono ?_
    rintro e y ⟨rfl, hy⟩
    have hy' := hy.symm
    subst hy'
    clear hy
    go_wp2_with fail
    rw [← unhide HW2]
    refine (unhide N2 _).mono ?_
    rintro e y2 ⟨rfl, k2⟩
    have kk2 := ext_callB (unhide HB2) k2
    obtain ⟨f0, f1, f2, g0, g1, g2, hF, r0, r1, r2⟩ := unhide HW y2 ⟨#[]⟩ ⟨#[]⟩ 0 kk2
    have HF := hide hF
    clear k2 kk2 hF
    go_wp2
    exact bodyPost_ret (v := .tuple #[.agg #[.string ⟨#[]⟩, .int .i64 0, .string ⟨#[]⟩], .int .i64 1]) (by simp [results, Tryz.results6, go_sem, r0, r1, r2]) rfl ⟨rfl, unhide HF⟩
  | true =>
    rw [hk] at hke HRB
    rw [show (bif true then (0 : Int) else 1) = 0 from rfl] at hke
    obtain ⟨e1, e2, e3, e4⟩ := unhide HYes (unhide HRB)
    rw [e1, e2, e3, e4]
    rw [hke] at N2
    clear e1 e2 e3 e4 HNo HYes hk hke hnn HRB
    go_enter Tryz.func6, Tryz.ntmps6
    go_upto_region 3 with fail
    rw [← unhide HW1]
    go_quiet (fail)
    have hVb := unhide HV nq
    generalize W1.drewN nq = V at *
    obtain ⟨W2, hW2⟩ : ∃ W2, W2 = V.alloc (.cells #[.string o, .int .i64 (t : Int), .string (r.extract 2 r.size)] 23) := ⟨_, rfl⟩
    have hB2 : Below W1.heap.size W1 W2 := by rw [hW2]; exact hVb.alloc hVb.size _
    have hY2 : W2.heap[V.heap.size]? = some (.cells #[.string o, .int .i64 (t : Int), .string (r.extract 2 r.size)] 23 (0, 0)) := by rw [hW2]; exact heap_alloc_new _ _
    have hlt2 : V.heap.size < W2.heap.size := by rw [hW2]; simp
    clear hVb
    have HW2 := hide hW2; have HB2 := hide hB2; have HY2 := hide hY2; have HLT2 := hide hlt2
    clear hW2 hB2 hY2 hlt2
    go_wp2_with fail
    refine (unhide N1 _).mono ?_
    rintro e y ⟨rfl, hy⟩
    have hy' := hy.symm
    subst hy'
    clear hy
    go_wp2_with fail
    rw [← unhide HW2]
    refine (unhide N2 _).mono ?_
    rintro e y2 ⟨rfl, k2⟩
    have kk2 := ext_callB (unhide HB2) k2
    have hx2 := (k2.block _ (unhide HLT2)).trans (unhide HY2)
    have d0 := cell_of_row _ _ 0 _ _ _ hx2
    have d1 := cell_of_row _ _ 1 _ _ _ hx2
    have d2 := cell_of_row _ _ 2 _ _ _ hx2
    simp only [List.getElem?_toArray, List.getElem?_cons_zero, List.getElem?_cons_succ] at d0 d1 d2
    obtain ⟨f0, f1, f2, g0, g1, g2, hF, r0, r1, r2⟩ := unhide HW y2 o (r.extract 2 r.size) (t : Int) kk2
    have HF := hide hF
    clear k2 kk2 hF hx2
    go_wp2
    exact bodyPost_ret (v := .tuple #[.agg #[.string o, .int .i64 (t : Int), .string (r.extract 2 r.size)], .int .i64 0]) (by simp [results, Tryz.results6, go_sem, r0, r1, r2]) rfl ⟨rfl, unhide HF⟩
end Go.Proofs.YtmdcaljccegiiaaGreatDoor
namespace Go.Proofs.YtmdcaljccegiiaaGreatDoor.Prim
/-- a prime -/
def IsPrime (p : Nat) : Prop := 2 ≤ p ∧ ∀ d, d ∣ p → d = 1 ∨ d = p

theorem IsPrime.coprime {p a : Nat} (hp : IsPrime p) (h : ¬ p ∣ a) : Nat.Coprime p a := by
  rcases hp.2 (Nat.gcd p a) (Nat.gcd_dvd_left p a) with h1 | h1
  · exact h1
  · exact absurd (h1 ▸ Nat.gcd_dvd_right p a) h
theorem IsPrime.dvd_mul {p a b : Nat} (hp : IsPrime p) (h : p ∣ a * b) : p ∣ a ∨ p ∣ b := by
  by_cases ha : p ∣ a
  · exact .inl ha
  · exact .inr ((hp.coprime ha).dvd_of_dvd_mul_left h)
theorem IsPrime.dvd_pow {p a n : Nat} (hp : IsPrime p) (h : p ∣ a ^ n) : p ∣ a := by
  induction n with
  | zero =>
    rw [Nat.pow_zero] at h
    have := Nat.le_of_dvd (by decide) h
    have := hp.1
    omega
  | succ n ih =>
    rw [Nat.pow_succ] at h
    rcases hp.dvd_mul h with h | h
    · exact ih h
    · exact h
/-- each number from 2 on has a least divisor, a prime -/
theorem least_prime (n : Nat) (hn : 2 ≤ n) : ∃ r, IsPrime r ∧ r ∣ n ∧ ∀ d, d ∣ n → 2 ≤ d → r ≤ d := by
  have key : ∀ k, ∀ d, d ≤ k → 2 ≤ d → d ∣ n → ∃ r, r ∣ n ∧ 2 ≤ r ∧ ∀ d, d ∣ n → 2 ≤ d → r ≤ d := by
    intro k
    induction k with
    | zero => intro d h1 h2; omega
    | succ k ih =>
      intro d h1 h2 h3
      by_cases h : ∃ e, e ∣ n ∧ 2 ≤ e ∧ e < d
      · obtain ⟨e, he, h4, h5⟩ := h
        exact ih e (by omega) h4 he
      · refine ⟨d, h3, h2, fun e he h4 => ?_⟩
        by_cases h5 : e < d
        · exact absurd ⟨e, he, h4, h5⟩ h
        · omega
  obtain ⟨r, hr, h2, hm⟩ := key n n (Nat.le_refl _) hn (Nat.dvd_refl _)
  refine ⟨r, ⟨h2, fun d hd => ?_⟩, hr, hm⟩
  by_cases h1 : d = 1
  · exact .inl h1
  · have h0 : d ≠ 0 := by
      rintro rfl
      have := Nat.eq_zero_of_zero_dvd hd
      omega
    have := hm d (Nat.dvd_trans hd hr) (by omega)
    have := Nat.le_of_dvd (by omega) hd
    exact .inr (by omega)
/-- who is no prime has a prime that divides it, no greater than its root -/
theorem prime_of (p : Nat) (hp : 2 ≤ p) (h : ∀ r, IsPrime r → r ∣ p → p < r * r) : IsPrime p := by
  obtain ⟨r, hr, hd, hm⟩ := least_prime p hp
  have hlt := h r hr hd
  obtain ⟨k, hk⟩ := hd
  have hk1 : k = 1 := by
    by_cases h1 : k = 1
    · exact h1
    · have hk0 : k ≠ 0 := by
        rintro rfl
        rw [Nat.mul_zero] at hk
        omega
      have hle := hm k ⟨r, by rw [hk, Nat.mul_comm]⟩ (by omega)
      have := Nat.mul_le_mul_left r hle
      omega
  rw [hk1, Nat.mul_one] at hk
  rw [hk]
  exact hr
/-- no more pigeons than holes -/
theorem pigeon (m : Nat) : ∀ (n : Nat) (f : Nat → Nat), (∀ i, i < n → f i < m) → (∀ i j, i < j → j < n → f i ≠ f j) → n ≤ m := by
  induction m with
  | zero =>
    intro n f h1 h2
    cases n with
    | zero => exact Nat.le_refl _
    | succ n => exact absurd (h1 0 (by omega)) (by omega)
  | succ m ih =>
    intro n f h1 h2
    cases n with
    | zero => exact Nat.zero_le _
    | succ n =>
      by_cases h : ∃ i, i < n ∧ f i = m
      · obtain ⟨i, hi, him⟩ := h
        have := ih n (fun k => if k = i then f n else f k) (fun k hk => by
            by_cases hki : k = i
            · simp only [hki, if_true]
              have := h1 n (by omega)
              have := h2 i n hi (by omega)
              omega
            · simp only [if_neg hki]
              have := h1 k (by omega)
              have : f k ≠ m := by
                intro hk'
                rcases Nat.lt_or_gt_of_ne hki with h | h
                · exact h2 k i h (by omega) (by omega)
                · exact h2 i k h (by omega) (by omega)
              omega) (fun a b hab hb => by
            by_cases ha : a = i
            · have hbi : b ≠ i := by omega
              simp only [ha, if_true, if_neg hbi]
              exact fun e => h2 b n hb (by omega) e.symm
            · simp only [if_neg ha]
              by_cases hbi : b = i
              · simp only [hbi, if_true]
                exact h2 a n (by omega) (by omega)
              · simp only [if_neg hbi]
                exact h2 a b hab (by omega))
        omega
      · have := ih n f (fun k hk => by
            have := h1 k (by omega)
            have : f k ≠ m := fun e => h ⟨k, hk, e⟩
            omega) (fun a b hab hb => h2 a b hab (by omega))
        omega
/-- one power's exponent and another's: so their greatest common divisor's -/
theorem pow_one_gcd (b r m n : Nat) : b ^ m % r = 1 % r → b ^ n % r = 1 % r → b ^ Nat.gcd m n % r = 1 % r := by
  induction m, n using Nat.gcd.induction with
  | H0 n => intro _ h; rw [Nat.gcd_zero_left]; exact h
  | H1 m n hm ih =>
    intro h1 h2
    rw [Nat.gcd_rec]
    refine ih ?_ h1
    have e : n = m * (n / m) + n % m := (Nat.div_add_mod n m).symm
    rw [e, Nat.pow_add, Nat.pow_mul, Nat.mul_mod, Nat.pow_mod, h1, ← Nat.pow_mod, Nat.one_pow, ← Nat.mul_mod, Nat.one_mul] at h2
    exact h2
theorem mod_of_dvd {a b p r : Nat} (hr : r ∣ p) (h : a % p = b % p) : a % r = b % r := by
  rw [← Nat.mod_mod_of_dvd a hr, h, Nat.mod_mod_of_dvd b hr]
theorem dvd_sub_of_mod {a b r : Nat} (h : a % r = b % r) : r ∣ b - a := by
  rcases Nat.le_total a b with hl | hl
  · exact (Nat.dvd_iff_mod_eq_zero ..).2 (Nat.sub_mod_eq_zero_of_mod_eq h.symm)
  · rw [Nat.sub_eq_zero_of_le hl]; exact Nat.dvd_zero _
theorem mod_of_dvd_sub {a b r : Nat} (hl : a ≤ b) (h : r ∣ b - a) : a % r = b % r := by
  obtain ⟨k, hk⟩ := h
  have : b = a + r * k := by omega
  rw [this, Nat.add_mul_mod_self_left]
/-- POCKLINGTON, with a power of the base alone -/
theorem pocklington (p F b : Nat) (hp : 2 ≤ p) (hF : p < F * F) (h1 : b ^ F % p = 1 % p)
    (h2 : ∀ q, IsPrime q → q ∣ F → Nat.gcd (b ^ (F / q) % p + (p - 1)) p = 1) : IsPrime p := by
  refine prime_of p hp fun r hr hd => Nat.lt_of_lt_of_le hF ?_
  have hF0 : 0 < F := by
    rcases Nat.eq_zero_or_pos F with h | h
    · rw [h] at hF; omega
    · exact h
  have hFr : b ^ F % r = 1 % r := mod_of_dvd hd h1
  have hb : ¬ r ∣ b := fun h => by
    have := hr.1
    have h3 : r ∣ b ^ F := Nat.dvd_trans h (Nat.dvd_trans (by rw [Nat.pow_one]; exact Nat.dvd_refl _) (Nat.pow_dvd_pow b (show 1 ≤ F by omega)))
    rw [Nat.mod_eq_zero_of_dvd h3, Nat.mod_eq_of_lt (by omega)] at hFr
    omega
  have hle : F ≤ r := by
    refine pigeon r F (fun i => b ^ i % r) (fun i _ => Nat.mod_lt _ (by have := hr.1; omega)) (fun i j hij hj he => ?_)
    have hij' : b ^ j = b ^ i * b ^ (j - i) := by rw [← Nat.pow_add]; congr 1; omega
    have hb1 : 0 < b := Nat.pos_of_ne_zero (fun h => hb (by rw [h]; exact Nat.dvd_zero _))
    have hd1 : b ^ (j - i) % r = 1 % r := by
      have hs := dvd_sub_of_mod he
      rw [hij', show b ^ i * b ^ (j - i) - b ^ i = b ^ i * (b ^ (j - i) - 1) by rw [Nat.mul_sub, Nat.mul_one]] at hs
      rcases hr.dvd_mul hs with h | h
      · exact absurd (hr.dvd_pow h) hb
      · exact (mod_of_dvd_sub (Nat.pow_pos hb1) h).symm
    have hg := pow_one_gcd b r (j - i) F hd1 hFr
    have hgF := Nat.gcd_dvd_right (j - i) F
    have hgle : Nat.gcd (j - i) F ≤ j - i := Nat.le_of_dvd (by omega) (Nat.gcd_dvd_left _ _)
    generalize Nat.gcd (j - i) F = g at *
    obtain ⟨k, hk⟩ := hgF
    have hk2 : 2 ≤ k := by
      rcases Nat.lt_or_ge k 2 with h | h
      · have : k = 0 ∨ k = 1 := by omega
        rcases this with rfl | rfl
        · rw [Nat.mul_zero] at hk; omega
        · rw [Nat.mul_one] at hk; omega
      · exact h
    obtain ⟨q, hq, ⟨l, hl⟩, _⟩ := least_prime k hk2
    have hFq : F / q = g * l := by
      rw [hk, hl, show g * (q * l) = q * (g * l) by rw [← Nat.mul_assoc, Nat.mul_comm g q, Nat.mul_assoc], Nat.mul_div_cancel_left _ (by have := hq.1; omega)]
    have hone : b ^ (F / q) % r = 1 % r := by
      rw [hFq, Nat.pow_mul, Nat.pow_mod, hg, ← Nat.pow_mod, Nat.one_pow]
    have hgcd := h2 q hq ⟨g * l, by rw [hk, hl, ← Nat.mul_assoc, Nat.mul_comm g q, Nat.mul_assoc]⟩
    have hdv : r ∣ b ^ (F / q) % p + (p - 1) := by
      apply Nat.dvd_of_mod_eq_zero
      rw [Nat.add_mod, Nat.mod_mod_of_dvd _ hd, hone, ← Nat.add_mod, show 1 + (p - 1) = p by omega]
      exact Nat.mod_eq_zero_of_dvd hd
    have := Nat.dvd_gcd hdv hd
    rw [hgcd] at this
    have := Nat.le_of_dvd (by decide) this
    have := hr.1
    omega
  exact Nat.mul_le_mul hle hle
end Go.Proofs.YtmdcaljccegiiaaGreatDoor.Prim
namespace Go.Proofs.YtmdcaljccegiiaaGreatDoor.Prim
/-- the product of a list -/
def prodL : List Nat → Nat
  | [] => 1
  | x :: l => x * prodL l
theorem prodL_perm {l m : List Nat} (h : l.Perm m) : prodL l = prodL m := by
  induction h with
  | nil => rfl
  | cons x _ ih => simp only [prodL, ih]
  | swap x y l => simp only [prodL]; rw [← Nat.mul_assoc, ← Nat.mul_assoc, Nat.mul_comm x y]
  | trans _ _ h1 h2 => exact h1.trans h2
theorem perm_of_nodup : ∀ (M L : List Nat), M.Nodup → (∀ x, x ∈ M → x ∈ L) → L.length ≤ M.length → M.Perm L
  | [], L, _, _, hl => by
    have : L = [] := List.eq_nil_of_length_eq_zero (by simpa using hl)
    rw [this]
  | x :: M, L, hn, hs, hl => by
    have hx : x ∈ L := hs x (by simp)
    have hp := List.perm_cons_erase hx
    have hlen := hp.length_eq
    have hxM : x ∉ M := (List.nodup_cons.1 hn).1
    have ih := perm_of_nodup M (L.erase x) (List.nodup_cons.1 hn).2 (fun y hy => by
      have hyx : y ≠ x := fun e => hxM (e ▸ hy)
      exact (List.mem_erase_of_ne hyx).2 (hs y (by simp [hy]))) (by simp at hlen hl; omega)
    exact (List.Perm.cons x ih).trans hp.symm
theorem prodL_map_mul (a p : Nat) : ∀ l : List Nat, prodL (l.map (fun i => a * i % p)) % p = a ^ l.length * prodL l % p
  | [] => by simp [prodL]
  | x :: l => by
    rw [List.map_cons, prodL, prodL, Nat.mul_mod, Nat.mod_mod, prodL_map_mul a p l, ← Nat.mul_mod, List.length_cons, Nat.pow_succ]
    congr 1
    grind
theorem prodL_not_dvd {p : Nat} (hp : IsPrime p) : ∀ l : List Nat, (∀ x, x ∈ l → ¬ p ∣ x) → ¬ p ∣ prodL l
  | [], _ => fun h => by
    have h1 := Nat.le_of_dvd (show 0 < 1 by decide) (show p ∣ 1 from h)
    have := hp.1
    omega
  | x :: l, h => fun hd => by
    rcases hp.dvd_mul hd with h1 | h1
    · exact h x (by simp) h1
    · exact prodL_not_dvd hp l (fun y hy => h y (by simp [hy])) h1
/-- FERMAT -/
theorem fermat (p a : Nat) (hp : IsPrime p) (ha : ¬ p ∣ a) : a ^ (p - 1) % p = 1 % p := by
  have h2 := hp.1
  have hnd : ∀ x, x ∈ List.range' 1 (p - 1) → ¬ p ∣ x := fun x hx hd => by
    rw [List.mem_range'_1] at hx
    have := Nat.le_of_dvd (by omega) hd
    omega
  have hM : ((List.range' 1 (p - 1)).map (fun i => a * i % p)).Nodup := by
    rw [List.nodup_iff_pairwise_ne, List.pairwise_map]
    refine List.Pairwise.imp_of_mem ?_ (List.pairwise_lt_range' (s := 1) (n := p - 1))
    intro i j hi hj hij he
    have hs := dvd_sub_of_mod he
    rw [← Nat.mul_sub] at hs
    rw [List.mem_range'_1] at hi hj
    rcases hp.dvd_mul hs with h | h
    · exact ha h
    · have := Nat.le_of_dvd (by omega) h
      omega
  have hperm := perm_of_nodup _ (List.range' 1 (p - 1)) hM (fun x hx => by
    rw [List.mem_map] at hx
    obtain ⟨i, hi, rfl⟩ := hx
    rw [List.mem_range'_1]
    have hlt := Nat.mod_lt (a * i) (show 0 < p by omega)
    have hne : a * i % p ≠ 0 := fun h => by
      rcases hp.dvd_mul (Nat.dvd_of_mod_eq_zero h) with h | h
      · exact ha h
      · exact hnd i hi h
    omega) (by simp)
  have he := congrArg (· % p) (prodL_perm hperm)
  simp only [prodL_map_mul] at he
  rw [List.length_range'] at he
  have hP := prodL_not_dvd hp _ hnd
  have ha0 : 0 < a := Nat.pos_of_ne_zero (fun h => ha (by rw [h]; exact Nat.dvd_zero _))
  have hs := dvd_sub_of_mod he.symm
  generalize prodL (List.range' 1 (p - 1)) = P at *
  rw [show a ^ (p - 1) * P - P = (a ^ (p - 1) - 1) * P by rw [Nat.sub_mul, Nat.one_mul]] at hs
  rcases hp.dvd_mul hs with h | h
  · exact (mod_of_dvd_sub (Nat.pow_pos ha0) h).symm
  · exact absurd h hP
/-- modulo a prime: so often multiplied it is as it was -/
theorem fermat_more (p x n : Nat) (hp : IsPrime p) (hn : ∃ k, n = k * (p - 1) + 1) : x ^ n % p = x % p := by
  obtain ⟨k, rfl⟩ := hn
  by_cases h : p ∣ x
  · rw [Nat.mod_eq_zero_of_dvd h, Nat.mod_eq_zero_of_dvd (Nat.dvd_trans h (by rw [Nat.pow_succ]; exact Nat.dvd_mul_left _ _))]
  · have hf := fermat p x hp h
    rw [Nat.pow_succ, Nat.mul_comm k, Nat.pow_mul, Nat.mul_mod, Nat.pow_mod, hf, ← Nat.pow_mod, Nat.one_pow, ← Nat.mul_mod, Nat.one_mul]
theorem crt (p q u v : Nat) (hc : Nat.Coprime p q) (h1 : u % p = v % p) (h2 : u % q = v % q) : u % (p * q) = v % (p * q) := by
  rcases Nat.le_total u v with hl | hl
  · exact mod_of_dvd_sub hl (hc.mul_dvd_of_dvd_of_dvd (dvd_sub_of_mod h1) (dvd_sub_of_mod h2))
  · exact (mod_of_dvd_sub hl (hc.mul_dvd_of_dvd_of_dvd (dvd_sub_of_mod h1.symm) (dvd_sub_of_mod h2.symm))).symm
/-- RIVEST, SHAMIR, ADLEMAN -/
theorem rsa (p q e d x : Nat) (hp : IsPrime p) (hq : IsPrime q) (hpq : p ≠ q) (hx : x < p * q) (hd : ∃ k, e * d = k * ((p - 1) * (q - 1)) + 1) :
    (x ^ e % (p * q)) ^ d % (p * q) = x := by
  obtain ⟨k, hk⟩ := hd
  have hc : Nat.Coprime p q := hp.coprime (fun h => by
    rcases hq.2 p h with h1 | h1
    · have := hp.1; omega
    · exact hpq h1)
  rw [← Nat.pow_mod, ← Nat.pow_mul, hk]
  have := crt p q (x ^ (k * ((p - 1) * (q - 1)) + 1)) x hc (fermat_more p x _ hp ⟨k * (q - 1), by grind⟩) (fermat_more q x _ hq ⟨k * (p - 1), by grind⟩)
  rw [this, Nat.mod_eq_of_lt hx]
end Go.Proofs.YtmdcaljccegiiaaGreatDoor.Prim
