/- KeyText of the program and of the document's own. -/
import Derived.Test.YtckkhpegimkefaaGreatDoorM37
import Derived.Test.YtckkhpegimkefaaGreatDoorM07
namespace Go.Proofs.YtckkhpegimkefaaGreatDoor
open Go.RowKit
set_option linter.unusedVariables false
set_option linter.unusedSimpArgs false
set_option maxRecDepth 100000

/-- may it be somebody's key? -/
def keyB (o m : ByteArray) : Bool := digitsB o 1 19 && isModB m
def keyE (o : ByteArray) (t : Int) (m : ByteArray) : Int := bif keyB o m then numE t 2 else 1
def keyS (o : ByteArray) (t : Int) (m : ByteArray) : ByteArray := if keyE o t m = 0 then strOfNums [(o.size : Int)] ++ o ++ numS t 2 ++ m else ⟨#[]⟩
theorem numE_or (t : Int) : numE t 2 = 0 ∨ numE t 2 = 3 := by
  by_cases h : numOk t 2
  · exact .inl (numE_yes h)
  · exact .inr (numE_no h)
theorem numE_two (t : Int) : numE t 2 = 0 ↔ 0 ≤ t ∧ t ≤ 65535 := by
  unfold numE
  have e : ((256 : Int) ^ (2 : Int).toNat) = 65536 := rfl
  by_cases h : numOk t 2
  · rw [if_pos h]
    obtain ⟨h1, h2, h3, h4⟩ := h
    rw [e] at h4
    exact ⟨fun _ => ⟨h3, by omega⟩, fun _ => rfl⟩
  · rw [if_neg h]
    constructor
    · intro h; cases h
    · intro ⟨h1, h2⟩
      exact absurd ⟨by decide, by decide, h1, by rw [e]; omega⟩ h
theorem numS_two (t : Int) (h : numE t 2 = 0) : (numS t 2).size = 2 := by
  have hk : numOk t 2 := by
    by_cases hk : numOk t 2
    · exact hk
    · rw [numE_no hk] at h; cases h
  rw [numS_yes hk, strOfNums_size, bigL_length]; rfl
theorem isModB_size {m : ByteArray} (h : isModB m = true) : 40 ≤ m.size ∧ m.size ≤ 96 := by
  unfold isModB at h
  simp only [Bool.and_eq_true, decide_eq_true_eq] at h
  exact ⟨h.1.1.1, h.1.1.2⟩
theorem digitsB_size {o : ByteArray} {lo hi : Int} (h : digitsB o lo hi = true) : lo ≤ (o.size : Int) ∧ (o.size : Int) ≤ hi := by
  unfold digitsB at h
  rw [Bool.and_eq_true] at h
  exact inB_true.1 h.2
theorem digitsB_asC (s : ByteArray) (lo hi : Int) : digitsB s lo hi = (inB s.size lo hi && allDig s) := by
  unfold digitsB
  rw [digB_all, Bool.and_comm]
theorem keyB_parts {o m : ByteArray} (h : keyB o m = true) : digitsB o 1 19 = true ∧ isModB m = true := by
  unfold keyB at h
  exact Bool.and_eq_true_iff.1 h
theorem keyE_zero {o : ByteArray} {t : Int} {m : ByteArray} (h : keyE o t m = 0) : keyB o m = true ∧ numE t 2 = 0 := by
  unfold keyE at h
  cases hk : keyB o m with
  | false => rw [hk] at h; cases h
  | true => rw [hk] at h; exact ⟨rfl, h⟩
set_option maxHeartbeats 1000000 in
theorem isOwner_any (s : ByteArray) (hs : s.size ≤ maxLen) (w : World) :
    Calls Tryz.prog 59 #[.string s] w fun e w' => e = .returned (.bool (digitsB s 1 19)) ∧ Below w.heap.size w w' := by
  have N1 := hide (fun w' => trimD_any s w' (by unfold maxLen at hs; omega))
  have HD := hide (digitsB_asC s 1 19)
  generalize digitsB s 1 19 = db at *
  generalize allDig s = ad at *
  unfold digitsT at N1
  by_cases h1 : 1 ≤ s.size
  case neg =>
    have HQ : Hid (db = false) := hide ((unhide HD).trans (by rw [show inB (s.size : Int) 1 19 = false from inB_false.2 (by omega)]; rfl))
    have t1 : ¬ (1 : Int) ≤ (s.size : Int) := by omega
    clear h1 hs
    go_enter Tryz.func59, Tryz.ntmps59
    go_wp2
    go_ret
    exact ⟨ret_bool (unhide HQ).symm, Below.refl _ _⟩
  have t1 : (1 : Int) ≤ (s.size : Int) := by omega
  by_cases h2 : s.size ≤ 19
  case neg =>
    have HQ : Hid (db = false) := hide ((unhide HD).trans (by rw [show inB (s.size : Int) 1 19 = false from inB_false.2 (by omega)]; rfl))
    have t2 : ¬ (s.size : Int) ≤ 19 := by omega
    clear h1 h2 hs
    go_enter Tryz.func59, Tryz.ntmps59
    go_wp2
    go_ret
    exact ⟨ret_bool (unhide HQ).symm, Below.refl _ _⟩
  have t2 : (s.size : Int) ≤ 19 := by omega
  have HQ : Hid (db = ad) := hide ((unhide HD).trans (by rw [show inB (s.size : Int) 1 19 = true from inB_true.2 (by omega)]; rfl))
  clear h1 h2 hs HD
  go_enter Tryz.func59, Tryz.ntmps59
  go_wp2_with fail
  refine (unhide N1 _).mono ?_
  rintro e w1 ⟨hb, t, rfl, ht⟩
  have HB := hide hb
  have HT := hide (ht.trans (unhide HQ).symm)
  clear hb ht
  go_wp2
  go_ret
  exact ⟨ret_bool (unhide HT), unhide HB⟩
theorem conv1K (w : World) (x : Int) :
    (convert 43 9 (.slice (some ⟨w.heap.size, 0, none⟩) 1 1)).run Tryz.prog (w.alloc (.cells #[.int .u8 x] 5)) = .ok (.string (strOfNums [x])) (w.alloc (.cells #[.int .u8 x] 5)) :=
  run_convert_bytes_arg (P := Tryz.prog) _ 43 5 Tryz.underlying43 Tryz.underlying5 w.heap.size 0 1 1 [x] rfl (fun i hi => by
    obtain rfl : i = 0 := by simp at hi; omega
    simp) 9 Tryz.underlying9
set_option maxHeartbeats 4000000 in
theorem ckeyText_any (o : ByteArray) (t : Int) (m : ByteArray) (w : World) (hos : o.size ≤ maxLen) (ht : t ≤ 9223372036854775807) :
    Calls Tryz.prog 35 #[.agg #[.string o, .int .i64 t, .string m]] w fun e w' => e = .returned (.tuple #[.string (keyS o t m), .int .i64 (keyE o t m)]) ∧ Below w.heap.size w w' := by
  obtain ⟨W1, hW1⟩ : ∃ W1, W1 = w.alloc (.cells #[.string o, .int .i64 t, .string m] 48) := ⟨_, rfl⟩
  have hB1 : Below w.heap.size w W1 := by rw [hW1]; exact (Below.refl _ _).alloc (Nat.le_refl _) _
  have hX1 : W1.heap[w.heap.size]? = some (.cells #[.string o, .int .i64 t, .string m] 48 (0, 0)) := by rw [hW1]; exact heap_alloc_new _ _
  have hc : ∀ W, Below W1.heap.size W1 W → W.cell? ⟨w.heap.size, 0, none⟩ = some (.string o) ∧ W.cell? ⟨w.heap.size, 1, none⟩ = some (.int .i64 t) ∧ W.cell? ⟨w.heap.size, 2, none⟩ = some (.string m) := fun W hb => by
    have hx := (hb.block _ (World.block_lt_of_cell? W1 ⟨w.heap.size, 0, none⟩ (cell_of_row _ _ 0 _ _ _ hX1))).trans hX1
    exact ⟨cell_of_row _ _ 0 _ _ _ hx, cell_of_row _ _ 1 _ _ _ hx, cell_of_row _ _ 2 _ _ _ hx⟩
  have N0 := hide (fun W => isOwner_any o hos W)
  have N1 := hide (fun W => isModulus_any m W)
  have N2 := hide (fun W => number_all t 2 W ht)
  have HC := hide hc; have HB1 := hide hB1; have HW1 := hide hW1
  have HNE := hide (numE_or t)
  have HNS := hide (numS_two t)
  have HMS := hide (fun h => isModB_size (m := m) h)
  have HOS := hide (fun h => digitsB_size (o := o) (lo := 1) (hi := 19) h)
  have HE : Hid (keyE o t m = bif digitsB o 1 19 && isModB m then numE t 2 else 1) := hide rfl
  have HS : Hid (keyS o t m = if keyE o t m = 0 then strOfNums [(o.size : Int)] ++ o ++ numS t 2 ++ m else ⟨#[]⟩) := hide rfl
  generalize keyS o t m = ks at *
  generalize keyE o t m = ke at *
  generalize numS t 2 = nt at *
  generalize numE t 2 = ne at *
  generalize digitsB o 1 19 = db at *
  generalize isModB m = mb at *
  clear hc hB1 hX1 hW1 hos ht
  obtain ⟨c0, c1, c2⟩ := unhide HC W1 (Below.refl _ _)
  cases db with
  | false =>
    obtain rfl : ke = 1 := unhide HE
    obtain rfl : ks = ⟨#[]⟩ := unhide HS
    clear HE HS HNE HNS HMS HOS
    go_enter Tryz.func35, Tryz.ntmps35
    go_upto_region 1 with fail
    rw [← unhide HW1]
    go_wp2_with fail
    refine (unhide N0 _).mono ?_
    rintro e y1 ⟨rfl, k1⟩
    have HK := hide k1
    clear c0 c1 c2 k1
    go_wp2
    go_ret2
    exact ⟨rfl, (unhide HB1).trans ((unhide HK).mono (unhide HB1).size)⟩
  | true =>
  cases mb with
  | false =>
    obtain rfl : ke = 1 := unhide HE
    obtain rfl : ks = ⟨#[]⟩ := unhide HS
    clear HE HS HNE HNS HMS HOS
    go_enter Tryz.func35, Tryz.ntmps35
    go_upto_region 1 with fail
    rw [← unhide HW1]
    go_wp2_with fail
    refine (unhide N0 _).mono ?_
    rintro e y1 ⟨rfl, k1⟩
    have HK := hide k1
    clear c0 c1 c2 k1
    obtain ⟨c0, c1, c2⟩ := unhide HC y1 (unhide HK)
    go_wp2_with fail
    refine (unhide N1 _).mono ?_
    rintro e y2 ⟨rfl, hy⟩
    have hy' := hy.symm
    subst hy'
    clear hy
    go_wp2
    go_ret2
    exact ⟨rfl, (unhide HB1).trans ((unhide HK).mono (unhide HB1).size)⟩
  | true =>
  obtain rfl : ke = ne := unhide HE
  have hm96 := unhide HMS rfl
  have ho19 := unhide HOS rfl
  clear HMS HOS HE
  rcases unhide HNE with rfl | rfl
  case inr =>
    obtain rfl : ks = ⟨#[]⟩ := unhide HS
    clear HS HNE HNS hm96 ho19
    go_enter Tryz.func35, Tryz.ntmps35
    go_upto_region 1 with fail
    rw [← unhide HW1]
    go_wp2_with fail
    refine (unhide N0 _).mono ?_
    rintro e y1 ⟨rfl, k1⟩
    have HK := hide k1
    clear c0 c1 c2 k1
    obtain ⟨c0, c1, c2⟩ := unhide HC y1 (unhide HK)
    go_wp2_with fail
    refine (unhide N1 _).mono ?_
    rintro e y2 ⟨rfl, hy⟩
    have hy' := hy.symm
    subst hy'
    clear hy
    go_wp2_with fail
    refine (unhide N2 _).mono ?_
    rintro e y3 ⟨rfl, k3⟩
    have HK3 := hide ((unhide HK).trans (k3.mono (unhide HK).size))
    clear c0 c1 c2 k3
    go_wp2
    go_ret2
    exact ⟨rfl, (unhide HB1).trans ((unhide HK3).mono (unhide HB1).size)⟩
  case inl =>
    have HSf : Hid (ks = strOfNums [(o.size : Int)] ++ o ++ nt ++ m) := hide (unhide HS)
    have hnt := unhide HNS rfl
    clear HS HNE HNS
    have hw8 : IntKind.u8.wrap (o.size : Int) = (o.size : Int) := by rw [IntKind.wrap_u8]; omega
    go_enter Tryz.func35, Tryz.ntmps35
    go_upto_region 1 with fail
    rw [← unhide HW1]
    go_wp2_with fail
    refine (unhide N0 _).mono ?_
    rintro e y1 ⟨rfl, k1⟩
    have HK := hide k1
    clear c0 c1 c2 k1
    obtain ⟨c0, c1, c2⟩ := unhide HC y1 (unhide HK)
    go_wp2_with fail
    refine (unhide N1 _).mono ?_
    rintro e y2 ⟨rfl, hy⟩
    have hy' := hy.symm
    subst hy'
    clear hy
    go_wp2_with fail
    refine (unhide N2 _).mono ?_
    rintro e y3 ⟨rfl, k3⟩
    have HK3 := hide ((unhide HK).trans (k3.mono (unhide HK).size))
    clear c0 c1 c2 k3
    obtain ⟨c0, c1, c2⟩ := unhide HC y3 (unhide HK3)
    have d0 : (y3.alloc (.cells #[.int .u8 (o.size : Int)] 5)).cell? ⟨w.heap.size, 0, none⟩ = some (.string o) := Lib.cell?_alloc_some _ c0
    have d2 : (y3.alloc (.cells #[.int .u8 (o.size : Int)] 5)).cell? ⟨w.heap.size, 2, none⟩ = some (.string m) := Lib.cell?_alloc_some _ c2
    have hcv := conv1K y3 (o.size : Int)
    have hz1 : (strOfNums [(o.size : Int)]).size = 1 := by rw [strOfNums_size]; rfl
    generalize strOfNums [(o.size : Int)] = s1 at *
    have a1 := fun wx => run_string_add_sum (P := Tryz.prog) wx s1 o (by omega)
    have a2 := fun wx => run_string_add_sum (P := Tryz.prog) wx (s1 ++ o) nt (by rw [ByteArray.size_append]; omega)
    have a3 := fun wx => run_string_add_sum (P := Tryz.prog) wx (s1 ++ o ++ nt) m (by rw [ByteArray.size_append, ByteArray.size_append]; omega)
    have HKZ := hide (fun x : Obj => ((unhide HB1).trans ((unhide HK3).mono (unhide HB1).size)).alloc ((unhide HB1).trans ((unhide HK3).mono (unhide HB1).size)).size x)
    clear hm96 ho19
    go_wp2
    go_ret2
    exact ⟨by rw [unhide HSf]; rfl, unhide HKZ _⟩
end Go.Proofs.YtckkhpegimkefaaGreatDoor
namespace Go.Proofs.YtckkhpegimkefaaGreatDoor
open Go.RowKit
set_option linter.unusedVariables false
set_option linter.unusedSimpArgs false
set_option maxRecDepth 100000

theorem keep_cellK {w w' : World} {a : Addr} {v : Value} (h : Below w.heap.size w w') (hc : w.cell? a = some v) : w'.cell? a = some v := (h.cell (World.block_lt_of_cell? w a hc)).trans hc
theorem old_cellK {w : World} {o : Obj} {a : Addr} {v : Value} (hc : w.cell? a = some v) : (w.alloc o).cell? a = some v := keep_cellK ((Below.refl w.heap.size w).alloc (Nat.le_refl _) o) hc
theorem drew_cellK {w : World} {a : Addr} {v : Value} (hc : w.cell? a = some v) : w.drew.cell? a = some v := hc
theorem new_cellK {w : World} {g j : Nat} {cs : Array Value} {e : TypeId} {v : Value} (hg : g = w.heap.size) (hc : cs[j]? = some v) : (w.alloc (.cells cs e)).cell? ⟨g, j, none⟩ = some v := by
  subst hg
  rw [cell_of_row _ _ j _ e _ (heap_alloc_new w _)]
  exact hc
theorem ext_drewK {W x : World} (h : Below W.heap.size W x) : Below W.heap.size W x.drew := h.drew
theorem ext_allocK {W x : World} (h : Below W.heap.size W x) (o : Obj) : Below W.heap.size W (x.alloc o) := h.alloc h.size o
theorem bytes1K (x : Int) (h0 : 0 ≤ x ∧ x < 256) (b cap : Nat) (w : World) (c0 : w.cell? ⟨b, 0, none⟩ = some (.int .i64 x)) :
    Calls Tryz.prog 30 #[.slice (some ⟨b, 0, none⟩) 1 cap] w fun e w' => e = .returned (.string (strOfNums [x])) ∧ Below w.heap.size w w' := by
  have h := bytes_one x b 0 cap w (World.block_lt_of_cell? w _ c0) c0
  rw [show lowByte x = x from by unfold lowByte; omega] at h
  exact h
set_option maxHeartbeats 4000000 in
theorem rkeyText_any (o : ByteArray) (t : Int) (m : ByteArray) (w : World) (hos : o.size ≤ maxLen) :
    Calls Tryz.prog 42 #[.agg #[.string o, .int .i64 t, .string m]] w fun e w' => e = .returned (.tuple #[.string (keyS o t m), .int .i64 (keyE o t m)]) ∧ Below w.heap.size w w' := by
  obtain ⟨W1, hW1⟩ : ∃ W1, W1 = w.alloc (.cells #[.string o, .int .i64 t, .string m] 48) := ⟨_, rfl⟩
  have hB1 : Below w.heap.size w W1 := by rw [hW1]; exact (Below.refl _ _).alloc (Nat.le_refl _) _
  have hX1 : W1.heap[w.heap.size]? = some (.cells #[.string o, .int .i64 t, .string m] 48 (0, 0)) := by rw [hW1]; exact heap_alloc_new _ _
  have N0 := hide (fun W => rdigits_any o 1 19 hos W)
  have N1 := hide (fun W => rmodulus_any m W)
  have HB1 := hide hB1; have HW1 := hide hW1
  have HNT := hide (numE_two t)
  have HNS := hide (numS_two t)
  have HMS := hide (fun h => isModB_size (m := m) h)
  have HOS := hide (fun h => digitsB_size (o := o) (lo := 1) (hi := 19) h)
  have HE : Hid (keyE o t m = bif digitsB o 1 19 && isModB m then numE t 2 else 1) := hide rfl
  have HS : Hid (keyS o t m = if keyE o t m = 0 then strOfNums [(o.size : Int)] ++ o ++ numS t 2 ++ m else ⟨#[]⟩) := hide rfl
  have HBig : Hid (0 ≤ t → t ≤ 65535 → strOfNums (bigL t.toNat 2) = numS t 2) := hide (fun h1 h2 => by rw [numS_yes ⟨by decide, by decide, h1, by rw [show ((256 : Int) ^ (2 : Int).toNat) = 65536 from rfl]; omega⟩]; rfl)
  have HN3 : Hid (¬ (0 ≤ t ∧ t ≤ 65535) → numE t 2 = 3) := hide (fun h => by
    rcases numE_or t with h1 | h1
    · exact absurd ((numE_two t).1 h1) h
    · exact h1)
  generalize keyS o t m = ks at *
  generalize keyE o t m = ke at *
  generalize numS t 2 = nt at *
  generalize numE t 2 = ne at *
  generalize digitsB o 1 19 = db at *
  generalize isModB m = mb at *
  have c0 : W1.cell? ⟨w.heap.size, 0, none⟩ = some (.string o) := cell_of_row _ _ 0 _ _ _ hX1
  have c1 : W1.cell? ⟨w.heap.size, 1, none⟩ = some (.int .i64 t) := cell_of_row _ _ 1 _ _ _ hX1
  have c2 : W1.cell? ⟨w.heap.size, 2, none⟩ = some (.string m) := cell_of_row _ _ 2 _ _ _ hX1
  clear hB1 hX1 hW1 hos
  cases db with
  | false =>
    obtain rfl : ke = 1 := unhide HE
    obtain rfl : ks = ⟨#[]⟩ := unhide HS
    clear HE HS HNT HNS HMS HOS HBig HN3
    go_enter Tryz.func42, Tryz.ntmps42
    go_upto_region 1 with fail
    rw [← unhide HW1]
    go_wp2_with fail
    refine (unhide N0 _).mono ?_
    rintro e y1 ⟨rfl, hy⟩
    have hy' := hy.symm
    subst hy'
    clear hy
    go_wp2
    go_ret2
    exact ⟨rfl, unhide HB1⟩
  | true =>
  cases mb with
  | false =>
    obtain rfl : ke = 1 := unhide HE
    obtain rfl : ks = ⟨#[]⟩ := unhide HS
    clear HE HS HNT HNS HMS HOS HBig HN3
    go_enter Tryz.func42, Tryz.ntmps42
    go_upto_region 1 with fail
    rw [← unhide HW1]
    go_wp2_with fail
    refine (unhide N0 _).mono ?_
    rintro e y1 ⟨rfl, hy⟩
    have hy' := hy.symm
    subst hy'
    clear hy
    go_wp2_with fail
    refine (unhide N1 _).mono ?_
    rintro e y2 ⟨rfl, hy⟩
    have hy' := hy.symm
    subst hy'
    clear hy
    go_wp2
    go_ret2
    exact ⟨rfl, unhide HB1⟩
  | true =>
  obtain rfl : ke = ne := unhide HE
  have hm96 := unhide HMS rfl
  have ho19 := unhide HOS rfl
  clear HMS HOS HE
  by_cases hr : 0 ≤ t ∧ t ≤ 65535
  case neg =>
    obtain rfl := unhide HN3 hr
    obtain rfl : ks = ⟨#[]⟩ := unhide HS
    have hcs : Hid (t < 0 ∨ (0 ≤ t ∧ 65535 < t)) := hide (by omega)
    clear HS HNT HNS hm96 ho19 hr HBig HN3
    rcases unhide hcs with hc | ⟨hc, hc2⟩
    all_goals
      clear hcs
      go_enter Tryz.func42, Tryz.ntmps42
      go_upto_region 1 with fail
      rw [← unhide HW1]
      go_wp2_with fail
      refine (unhide N0 _).mono ?_
      rintro e y1 ⟨rfl, hy⟩
      have hy' := hy.symm
      subst hy'
      clear hy
      go_wp2_with fail
      refine (unhide N1 _).mono ?_
      rintro e y2 ⟨rfl, hy⟩
      have hy' := hy.symm
      subst hy'
      clear hy
      go_wp2
      go_ret2
      exact ⟨rfl, unhide HB1⟩
  case pos =>
    obtain ⟨hr0, hr1⟩ := hr
    obtain rfl : ke = 0 := (unhide HNT).2 ⟨hr0, hr1⟩
    have HSf : Hid (ks = strOfNums [(o.size : Int)] ++ o ++ nt ++ m) := hide (unhide HS)
    have hnt := unhide HNS rfl
    obtain ⟨tn, rfl⟩ := Int.eq_ofNat_of_zero_le hr0
    have hbig := unhide HBig hr0 hr1
    have N2 := hide (fun W => (big_any tn 2 W (by decide) (by omega)))
    rw [Int.toNat_natCast] at hbig
    rw [hbig] at N2
    have N3 := hide (fun b cap W c => bytes1K (o.size : Int) (by omega) b cap W c)
    clear HS HNT HNS HBig HN3 hbig
    have hz1 : (strOfNums [(o.size : Int)]).size = 1 := by rw [strOfNums_size]; rfl
    generalize strOfNums [(o.size : Int)] = s1 at *
    have a1 := fun wx => run_string_add_sum (P := Tryz.prog) wx s1 o (by omega)
    have a2 := fun wx => run_string_add_sum (P := Tryz.prog) wx (s1 ++ o) nt (by rw [ByteArray.size_append]; omega)
    have a3 := fun wx => run_string_add_sum (P := Tryz.prog) wx (s1 ++ o ++ nt) m (by rw [ByteArray.size_append, ByteArray.size_append]; omega)
    clear hm96 ho19
    go_enter Tryz.func42, Tryz.ntmps42
    go_upto_region 1 with fail
    rw [← unhide HW1]
    go_wp2_with fail
    refine (unhide N0 _).mono ?_
    rintro e y1 ⟨rfl, hy⟩
    have hy' := hy.symm
    subst hy'
    clear hy
    go_wp2_with fail
    refine (unhide N1 _).mono ?_
    rintro e y2 ⟨rfl, hy⟩
    have hy' := hy.symm
    subst hy'
    clear hy
    go_upto_region 5 with fail
    go_region_held3 (fun w' => w'.cell? ⟨w.heap.size, 0, none⟩ = some (.string o) ∧ w'.cell? ⟨w.heap.size, 1, none⟩ = some (.int .i64 (tn : Int)) ∧ w'.cell? ⟨w.heap.size, 2, none⟩ = some (.string m))
      (first | (go_split_ands; refine ⟨?_, ?_, ?_⟩ <;> ((repeat (first | (with_reducible assumption) | (with_reducible refine drew_cellK ?_) | (with_reducible refine old_cellK ?_) | (with_reducible refine keep_cellK h3 ?_) | (with_reducible refine keep_cellK h2 ?_))); done)) | go_keep)
      ((first
        | (go_at_call 30; refine (unhide N3 _ _ _ ?_).mono ?_; (focus (repeat (first | ((with_reducible refine new_cellK ?_ ?_); (focus (simp; done)); rfl) | (with_reducible refine old_cellK ?_) | (with_reducible refine keep_cellK h2 ?_) | (with_reducible refine drew_cellK ?_)))); rintro e z3 ⟨rfl, h3⟩)
        | (go_at_call 32; refine (unhide N2 _).mono ?_; rintro e z2 ⟨rfl, h2⟩)))
    all_goals
      have hfin : Below W1.heap.size W1 z2 := by
        (repeat (first | (with_reducible exact Below.refl _ _) | (with_reducible refine ext_drewK ?_) | (with_reducible refine ext_callB ?_ h2) | (with_reducible refine ext_callB ?_ h3) | (with_reducible refine ext_allocK ?_ _)))
      have HF := hide ((unhide HB1).trans (hfin.mono (unhide HB1).size))
      clear h2 h3 hfin
      go_wp2
      go_ret2
      exact ⟨by rw [unhide HSf]; rfl, unhide HF⟩
end Go.Proofs.YtckkhpegimkefaaGreatDoor
