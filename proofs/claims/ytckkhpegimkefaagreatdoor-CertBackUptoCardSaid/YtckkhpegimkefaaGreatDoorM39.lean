/- ReadKey of the program. -/
import Derived.Test.YtckkhpegimkefaaGreatDoorM38
import Derived.Test.YtckkhpegimkefaaGreatDoorM31
import Derived.Test.YtckkhpegimkefaaGreatDoorM14
import Derived.Test.YtckkhpegimkefaaGreatDoorM35
namespace Go.Proofs.YtckkhpegimkefaaGreatDoor
open Go.RowKit
set_option linter.unusedVariables false
set_option linter.unusedSimpArgs false
set_option maxRecDepth 100000

/-- how many digits a key says, its digits, its month, its modulus -/
def kN (s : ByteArray) : Nat := (s.data.toList.headD 0).toNat
def kO (s : ByteArray) (n : Nat) : ByteArray := s.extract 1 (1 + n)
def kRest (s : ByteArray) (n : Nat) : ByteArray := s.extract (1 + n) s.size
def kT (s : ByteArray) (n : Nat) : Nat := valN ((kRest s n).extract 0 2).data.toList
def kM (s : ByteArray) (n : Nat) : ByteArray := (kRest s n).extract 2 (kRest s n).size
def rkB (s : ByteArray) : Bool := decide (1 ≤ s.size ∧ 3 + kN s ≤ s.size) && keyB (kO s (kN s)) (kM s (kN s))
def rkE (s : ByteArray) : Int := bif rkB s then 0 else 1
def rkO (s : ByteArray) : ByteArray := bif rkB s then kO s (kN s) else ⟨#[]⟩
def rkT (s : ByteArray) : Int := bif rkB s then (kT s (kN s) : Int) else 0
def rkM (s : ByteArray) : ByteArray := bif rkB s then kM s (kN s) else ⟨#[]⟩
theorem kN_lt (s : ByteArray) : kN s < 256 := (s.data.toList.headD 0).toNat_lt
theorem kT_lt (s : ByteArray) (n : Nat) : kT s n < 65536 := by
  have h := valN_lt ((kRest s n).extract 0 2).data.toList
  have hz : ((kRest s n).extract 0 2).data.toList.length ≤ 2 := by
    rw [show ((kRest s n).extract 0 2).data.toList.length = ((kRest s n).extract 0 2).size by simp, ByteArray.size_extract]; omega
  have h2 : 256 ^ ((kRest s n).extract 0 2).data.toList.length ≤ 256 ^ 2 := Nat.pow_le_pow_right (by decide) hz
  unfold kT
  omega
theorem keyE_two {o m : ByteArray} {t : Int} (h0 : 0 ≤ t) (h1 : t ≤ 65535) : keyE o t m = bif keyB o m then 0 else 1 := by
  unfold keyE
  rw [(numE_two t).2 ⟨h0, h1⟩]
theorem rk_no {s : ByteArray} (h : rkB s = false) : rkE s = 1 ∧ rkO s = ⟨#[]⟩ ∧ rkT s = 0 ∧ rkM s = ⟨#[]⟩ := by
  unfold rkE rkO rkT rkM
  rw [h]
  exact ⟨rfl, rfl, rfl, rfl⟩
theorem rk_yes {s : ByteArray} (h : rkB s = true) : rkE s = 0 ∧ rkO s = kO s (kN s) ∧ rkT s = (kT s (kN s) : Int) ∧ rkM s = kM s (kN s) := by
  unfold rkE rkO rkT rkM
  rw [h]
  exact ⟨rfl, rfl, rfl, rfl⟩
def keyV (o : ByteArray) (t : Int) (m : ByteArray) : Value := .agg #[.string o, .int .i64 t, .string m]
set_option maxHeartbeats 4000000 in
theorem creadKey_any (s : ByteArray) (w : World) (hs : s.size ≤ maxLen) :
    Calls Tryz.prog 36 #[.string s] w fun e w' => e = .returned (.tuple #[.agg #[.string (rkO s), .int .i64 (rkT s), .string (rkM s)], .int .i64 (rkE s)]) ∧ Below w.heap.size w w' := by
  obtain ⟨W1, hW1⟩ : ∃ W1, W1 = w.alloc (.cells #[.string ⟨#[]⟩, .int .i64 0, .string ⟨#[]⟩] 48) := ⟨_, rfl⟩
  have hB1 : Below w.heap.size w W1 := by rw [hW1]; exact (Below.refl _ _).alloc (Nat.le_refl _) _
  have hX1 : W1.heap[w.heap.size]? = some (.cells #[.string ⟨#[]⟩, .int .i64 0, .string ⟨#[]⟩] 48 (0, 0)) := by rw [hW1]; exact heap_alloc_new _ _
  have hl1 : w.heap.size < W1.heap.size := by rw [hW1]; simp
  -- the result's cells, before and behind a store
  have HW : Hid (∀ (W : World) (o m : ByteArray) (t : Int), Below W1.heap.size W1 W → W.frozen? ⟨w.heap.size, 0, none⟩ = false ∧ W.frozen? ⟨w.heap.size, 1, none⟩ = false ∧ W.frozen? ⟨w.heap.size, 2, none⟩ = false ∧ W.cell? ⟨w.heap.size, 0, none⟩ = some (.string ⟨#[]⟩) ∧ W.cell? ⟨w.heap.size, 1, none⟩ = some (.int .i64 0) ∧ W.cell? ⟨w.heap.size, 2, none⟩ = some (.string ⟨#[]⟩) ∧
      Below w.heap.size w (((W.setCell ⟨w.heap.size, 0, none⟩ (.string o)).setCell ⟨w.heap.size, 1, none⟩ (.int .i64 t)).setCell ⟨w.heap.size, 2, none⟩ (.string m)) ∧
      (((W.setCell ⟨w.heap.size, 0, none⟩ (.string o)).setCell ⟨w.heap.size, 1, none⟩ (.int .i64 t)).setCell ⟨w.heap.size, 2, none⟩ (.string m)).cell? ⟨w.heap.size, 0, none⟩ = some (.string o) ∧
      (((W.setCell ⟨w.heap.size, 0, none⟩ (.string o)).setCell ⟨w.heap.size, 1, none⟩ (.int .i64 t)).setCell ⟨w.heap.size, 2, none⟩ (.string m)).cell? ⟨w.heap.size, 1, none⟩ = some (.int .i64 t) ∧
      (((W.setCell ⟨w.heap.size, 0, none⟩ (.string o)).setCell ⟨w.heap.size, 1, none⟩ (.int .i64 t)).setCell ⟨w.heap.size, 2, none⟩ (.string m)).cell? ⟨w.heap.size, 2, none⟩ = some (.string m)) := hide (fun W o m t hb => by
    have h := (hb.block _ hl1).trans hX1
    have k := hB1.trans (hb.mono hB1.size)
    refine ⟨by simp [World.frozen?, h], by simp [World.frozen?, h], by simp [World.frozen?, h], cell_of_row _ _ 0 _ _ _ h, cell_of_row _ _ 1 _ _ _ h, cell_of_row _ _ 2 _ _ _ h, ((k.setCell (p := ⟨w.heap.size, 0, none⟩) (Nat.le_refl _) _).setCell (p := ⟨w.heap.size, 1, none⟩) (Nat.le_refl _) _).setCell (p := ⟨w.heap.size, 2, none⟩) (Nat.le_refl _) _, ?_, ?_, ?_⟩
    · rw [cell_of_row _ _ 0 _ _ _ (set_rowM (set_rowM (set_rowM h)))]; rfl
    · rw [cell_of_row _ _ 1 _ _ _ (set_rowM (set_rowM (set_rowM h)))]; rfl
    · rw [cell_of_row _ _ 2 _ _ _ (set_rowM (set_rowM (set_rowM h)))]; rfl)
  have HW1 := hide hW1; have HB1 := hide hB1
  clear hW1 hB1 hX1 hl1
  have HNo := hide (fun h => rk_no (s := s) h)
  have HYes := hide (fun h => rk_yes (s := s) h)
  have hkn := kN_lt s
  have hkt := kT_lt s (kN s)
  by_cases h0 : s.size = 0
  · have hse : s.toList.isEmpty = true := by
      rw [Lib.toList_data, List.isEmpty_iff]
      exact List.length_eq_zero_iff.1 (by simpa using h0)
    have hrb : rkB s = false := by unfold rkB; rw [decide_eq_false (by omega)]; rfl
    obtain ⟨e1, e2, e3, e4⟩ := unhide HNo hrb
    rw [e1, e2, e3, e4]
    obtain ⟨f0, f1, f2, g0, g1, g2, hF, r0, r1, r2⟩ := unhide HW W1 ⟨#[]⟩ ⟨#[]⟩ 0 (Below.refl _ _)
    have HF := hide hF
    clear e1 e2 e3 e4 hrb HNo HYes hkn hkt h0 hF hs
    go_enter Tryz.func36, Tryz.ntmps36
    go_upto_region 1 with fail
    rw [← unhide HW1]
    go_wp2
    exact bodyPost_ret (v := .tuple #[.agg #[.string ⟨#[]⟩, .int .i64 0, .string ⟨#[]⟩], .int .i64 1]) (by simp [results, Tryz.results36, go_sem, r0, r1, r2]) rfl ⟨rfl, unhide HF⟩
  have hse : s.toList.isEmpty = false := by
    rw [Lib.toList_data, List.isEmpty_eq_false_iff]
    exact fun e => h0 (by have := congrArg List.length e; simpa using this)
  have hhd := head_byte s (by omega)
  have hkn2 : (s.data.toList.headD 0).toNat = kN s := rfl
  rw [hkn2] at hhd
  generalize hnn : kN s = n at *
  have hw3 : wrap64 (3 + (n : Int)) = 3 + (n : Int) := by unfold wrap64; omega
  have hw1 : wrap64 (1 + (n : Int)) = 1 + (n : Int) := by unfold wrap64; omega
  have hnb : (n : Int) ≤ 255 := by omega
  have hs0 : (0 : Int) < (s.size : Int) := by omega
  have hs00 : 0 < s.size := by omega
  by_cases h3 : 3 + n ≤ s.size
  case neg =>
    have hrb : rkB s = false := by unfold rkB; rw [hnn, decide_eq_false (by omega)]; rfl
    obtain ⟨e1, e2, e3, e4⟩ := unhide HNo hrb
    rw [e1, e2, e3, e4]
    obtain ⟨f0, f1, f2, g0, g1, g2, hF, r0, r1, r2⟩ := unhide HW W1 ⟨#[]⟩ ⟨#[]⟩ 0 (Below.refl _ _)
    have HF := hide hF
    have hlt : (s.size : Int) < 3 + (n : Int) := by omega
    clear e1 e2 e3 e4 hrb HNo HYes hkn hkt h0 hF hs h3 hnn hkn2
    go_enter Tryz.func36, Tryz.ntmps36
    go_upto_region 1 with fail
    rw [← unhide HW1]
    go_wp2
    exact bodyPost_ret (v := .tuple #[.agg #[.string ⟨#[]⟩, .int .i64 0, .string ⟨#[]⟩], .int .i64 1]) (by simp [results, Tryz.results36, go_sem, r0, r1, r2]) rfl ⟨rfl, unhide HF⟩
  case pos =>
  have hrb : rkB s = keyB (kO s n) (kM s n) := by unfold rkB; rw [hnn, decide_eq_true ⟨by omega, h3⟩]; rfl
  have hge : ¬ (s.size : Int) < 3 + (n : Int) := by omega
  have sl1 : ∀ wx, (Instr.slice 9 (.string s) (some (.int .i64 1)) (some (.int .i64 (1 + (n : Int)))) none).run Tryz.prog wx = .ok (.string (kO s n)) wx := fun wx => by
    have := run_slice_string (P := Tryz.prog) wx 9 s .i64 .i64 (1 : Int) (1 + (n : Int)) Tryz.underlying9 (by omega) (by omega) (by omega)
    rw [this]
    rfl
  have sl2 : ∀ wx, (Instr.slice 9 (.string s) (some (.int .i64 (1 + (n : Int)))) none none).run Tryz.prog wx = .ok (.string (kRest s n)) wx := fun wx => by
    have := slice_from s (1 + n) (by omega) wx
    rw [show (((1 + n : Nat)) : Int) = 1 + (n : Int) by omega] at this
    exact this
  have hrz : (kRest s n).size = s.size - (1 + n) := by unfold kRest; rw [ByteArray.size_extract]; omega
  have sl3 := fun wx => slice_to (kRest s n) 2 (by omega) wx
  have sl4 := fun wx => slice_from (kRest s n) 2 (by omega) wx
  have N1 := hide (fun W => readN_any ((kRest s n).extract 0 2) W (by rw [ByteArray.size_extract]; omega))
  have hro : readOf (valN ((kRest s n).extract 0 2).data.toList) = .tuple #[.int .i64 (kT s n : Int), .int .i64 0] := by
    rw [readOf_small (by show ¬ 9223372036854775807 < kT s n; omega)]; rfl
  have N1' := unhide N1
  rw [hro] at N1'
  have N1 := hide N1'
  have hos : (kO s n).size ≤ maxLen := by unfold kO maxLen; rw [ByteArray.size_extract]; unfold maxLen at hs; omega
  have N2 := hide (fun W => ckeyText_any (kO s n) (kT s n : Int) (kM s n) W hos (by omega))
  have hke := keyE_two (o := kO s n) (m := kM s n) (t := (kT s n : Int)) (by omega) (by omega)
  have hkm : (kRest s n).extract 2 (kRest s n).size = kM s n := rfl
  rw [hkm] at sl4
  have HRB := hide hrb
  have hT2 := kT_lt s n
  have hr2 : (2 : Int) ≤ ((kRest s n).size : Int) := by omega
  clear sl3 sl4 hrb
  generalize kT s n = t at *
  have hkm2 : kM s n = (kRest s n).extract 2 (kRest s n).size := rfl
  rw [hkm2] at N2 hke HRB HYes
  generalize kO s n = o at *
  generalize kRest s n = r at *
  clear hro N1' hkm hkm2 hrz hkn hkt hos hkn2 h3 h0 hs00
  have HV : Hid (∀ q : Nat, Below W1.heap.size W1 (W1.drewN q)) := hide (fun q => below_drewN (Below.refl _ _) q)
  cases hk : keyB o (r.extract 2 r.size) with
  | false =>
    rw [hk] at hke HRB
    rw [show (bif false then (0 : Int) else 1) = 1 from rfl] at hke
    obtain ⟨e1, e2, e3, e4⟩ := unhide HNo (unhide HRB)
    rw [e1, e2, e3, e4]
    rw [hke] at N2
    clear e1 e2 e3 e4 HNo HYes hk hke hnn HRB
    go_enter Tryz.func36, Tryz.ntmps36
    go_upto_region 3 with fail
    rw [← unhide HW1]
    go_quiet (fail)
    have hVb := unhide HV nq
    generalize W1.drewN nq = V at *
    obtain ⟨W2, hW2⟩ : ∃ W2, W2 = V.alloc (.cells #[.string o, .int .i64 (t : Int), .string (r.extract 2 r.size)] 48) := ⟨_, rfl⟩
    have hB2 : Below W1.heap.size W1 W2 := by rw [hW2]; exact hVb.alloc hVb.size _
    have hY2 : W2.heap[V.heap.size]? = some (.cells #[.string o, .int .i64 (t : Int), .string (r.extract 2 r.size)] 48 (0, 0)) := by rw [hW2]; exact heap_alloc_new _ _
    have hlt2 : V.heap.size < W2.heap.size := by rw [hW2]; simp
    clear hVb
    have HW2 := hide hW2; have HB2 := hide hB2; have HY2 := hide hY2; have HLT2 := hide hlt2
    clear hW2 hB2 hY2 hlt2
    go_wp2_with fail
    refine (unhide N1 _).mono ?_
    rintro e y ⟨rfl, hy⟩
    have hy' := hy.symm
    subst hy'
    clear hy
    go_wp2_with fail
    rw [← unhide HW2]
    refine (unhide N2 _).mono ?_
    rintro e y2 ⟨rfl, k2⟩
    have kk2 := ext_callB (unhide HB2) k2
    obtain ⟨f0, f1, f2, g0, g1, g2, hF, r0, r1, r2⟩ := unhide HW y2 ⟨#[]⟩ ⟨#[]⟩ 0 kk2
    have HF := hide hF
    clear k2 kk2 hF
    go_wp2
    exact bodyPost_ret (v := .tuple #[.agg #[.string ⟨#[]⟩, .int .i64 0, .string ⟨#[]⟩], .int .i64 1]) (by simp [results, Tryz.results36, go_sem, r0, r1, r2]) rfl ⟨rfl, unhide HF⟩
  | true =>
    rw [hk] at hke HRB
    rw [show (bif true then (0 : Int) else 1) = 0 from rfl] at hke
    obtain ⟨e1, e2, e3, e4⟩ := unhide HYes (unhide HRB)
    rw [e1, e2, e3, e4]
    rw [hke] at N2
    clear e1 e2 e3 e4 HNo HYes hk hke hnn HRB
    go_enter Tryz.func36, Tryz.ntmps36
    go_upto_region 3 with fail
    rw [← unhide HW1]
    go_quiet (fail)
    have hVb := unhide HV nq
    generalize W1.drewN nq = V at *
    obtain ⟨W2, hW2⟩ : ∃ W2, W2 = V.alloc (.cells #[.string o, .int .i64 (t : Int), .string (r.extract 2 r.size)] 48) := ⟨_, rfl⟩
    have hB2 : Below W1.heap.size W1 W2 := by rw [hW2]; exact hVb.alloc hVb.size _
    have hY2 : W2.heap[V.heap.size]? = some (.cells #[.string o, .int .i64 (t : Int), .string (r.extract 2 r.size)] 48 (0, 0)) := by rw [hW2]; exact heap_alloc_new _ _
    have hlt2 : V.heap.size < W2.heap.size := by rw [hW2]; simp
    clear hVb
    have HW2 := hide hW2; have HB2 := hide hB2; have HY2 := hide hY2; have HLT2 := hide hlt2
    clear hW2 hB2 hY2 hlt2
    go_wp2_with fail
    refine (unhide N1 _).mono ?_
    rintro e y ⟨rfl, hy⟩
    have hy' := hy.symm
    subst hy'
    clear hy
    go_wp2_with fail
    rw [← unhide HW2]
    refine (unhide N2 _).mono ?_
    rintro e y2 ⟨rfl, k2⟩
    have kk2 := ext_callB (unhide HB2) k2
    have hx2 := (k2.block _ (unhide HLT2)).trans (unhide HY2)
    have d0 := cell_of_row _ _ 0 _ _ _ hx2
    have d1 := cell_of_row _ _ 1 _ _ _ hx2
    have d2 := cell_of_row _ _ 2 _ _ _ hx2
    simp only [List.getElem?_toArray, List.getElem?_cons_zero, List.getElem?_cons_succ] at d0 d1 d2
    obtain ⟨f0, f1, f2, g0, g1, g2, hF, r0, r1, r2⟩ := unhide HW y2 o (r.extract 2 r.size) (t : Int) kk2
    have HF := hide hF
    clear k2 kk2 hF hx2
    go_wp2
    exact bodyPost_ret (v := .tuple #[.agg #[.string o, .int .i64 (t : Int), .string (r.extract 2 r.size)], .int .i64 0]) (by simp [results, Tryz.results36, go_sem, r0, r1, r2]) rfl ⟨rfl, unhide HF⟩
end Go.Proofs.YtckkhpegimkefaaGreatDoor
namespace Go.Proofs.YtckkhpegimkefaaGreatDoor.Prim
/-- a prime -/
def IsPrime (p : Nat) : Prop := 2 ≤ p ∧ ∀ d, d ∣ p → d = 1 ∨ d = p

theorem IsPrime.coprime {p a : Nat} (hp : IsPrime p) (h : ¬ p ∣ a) : Nat.Coprime p a := by
  rcases hp.2 (Nat.gcd p a) (Nat.gcd_dvd_left p a) with h1 | h1
  · exact h1
  · exact absurd (h1 ▸ Nat.gcd_dvd_right p a) h
theorem IsPrime.dvd_mul {p a b : Nat} (hp : IsPrime p) (h : p ∣ a * b) : p ∣ a ∨ p ∣ b := by
  by_cases ha : p ∣ a
  · exact .inl ha
  · exact .inr ((hp.coprime ha).dvd_of_dvd_mul_left h)
theorem IsPrime.dvd_pow {p a n : Nat} (hp : IsPrime p) (h : p ∣ a ^ n) : p ∣ a := by
  induction n with
  | zero =>
    rw [Nat.pow_zero] at h
    have := Nat.le_of_dvd (by decide) h
    have := hp.1
    omega
  | succ n ih =>
    rw [Nat.pow_succ] at h
    rcases hp.dvd_mul h with h | h
    · exact ih h
    · exact h
/-- each number from 2 on has a least divisor, a prime -/
theorem least_prime (n : Nat) (hn : 2 ≤ n) : ∃ r, IsPrime r ∧ r ∣ n ∧ ∀ d, d ∣ n → 2 ≤ d → r ≤ d := by
  have key : ∀ k, ∀ d, d ≤ k → 2 ≤ d → d ∣ n → ∃ r, r ∣ n ∧ 2 ≤ r ∧ ∀ d, d ∣ n → 2 ≤ d → r ≤ d := by
    intro k
    induction k with
    | zero => intro d h1 h2; omega
    | succ k ih =>
      intro d h1 h2 h3
      by_cases h : ∃ e, e ∣ n ∧ 2 ≤ e ∧ e < d
      · obtain ⟨e, he, h4, h5⟩ := h
        exact ih e (by omega) h4 he
      · refine ⟨d, h3, h2, fun e he h4 => ?_⟩
        by_cases h5 : e < d
        · exact absurd ⟨e, he, h4, h5⟩ h
        · omega
  obtain ⟨r, hr, h2, hm⟩ := key n n (Nat.le_refl _) hn (Nat.dvd_refl _)
  refine ⟨r, ⟨h2, fun d hd => ?_⟩, hr, hm⟩
  by_cases h1 : d = 1
  · exact .inl h1
  · have h0 : d ≠ 0 := by
      rintro rfl
      have := Nat.eq_zero_of_zero_dvd hd
      omega
    have := hm d (Nat.dvd_trans hd hr) (by omega)
    have := Nat.le_of_dvd (by omega) hd
    exact .inr (by omega)
/-- who is no prime has a prime that divides it, no greater than its root -/
theorem prime_of (p : Nat) (hp : 2 ≤ p) (h : ∀ r, IsPrime r → r ∣ p → p < r * r) : IsPrime p := by
  obtain ⟨r, hr, hd, hm⟩ := least_prime p hp
  have hlt := h r hr hd
  obtain ⟨k, hk⟩ := hd
  have hk1 : k = 1 := by
    by_cases h1 : k = 1
    · exact h1
    · have hk0 : k ≠ 0 := by
        rintro rfl
        rw [Nat.mul_zero] at hk
        omega
      have hle := hm k ⟨r, by rw [hk, Nat.mul_comm]⟩ (by omega)
      have := Nat.mul_le_mul_left r hle
      omega
  rw [hk1, Nat.mul_one] at hk
  rw [hk]
  exact hr
/-- no more pigeons than holes -/
theorem pigeon (m : Nat) : ∀ (n : Nat) (f : Nat → Nat), (∀ i, i < n → f i < m) → (∀ i j, i < j → j < n → f i ≠ f j) → n ≤ m := by
  induction m with
  | zero =>
    intro n f h1 h2
    cases n with
    | zero => exact Nat.le_refl _
    | succ n => exact absurd (h1 0 (by omega)) (by omega)
  | succ m ih =>
    intro n f h1 h2
    cases n with
    | zero => exact Nat.zero_le _
    | succ n =>
      by_cases h : ∃ i, i < n ∧ f i = m
      · obtain ⟨i, hi, him⟩ := h
        have := ih n (fun k => if k = i then f n else f k) (fun k hk => by
            by_cases hki : k = i
            · simp only [hki, if_true]
              have := h1 n (by omega)
              have := h2 i n hi (by omega)
              omega
            · simp only [if_neg hki]
              have := h1 k (by omega)
              have : f k ≠ m := by
                intro hk'
                rcases Nat.lt_or_gt_of_ne hki with h | h
                · exact h2 k i h (by omega) (by omega)
                · exact h2 i k h (by omega) (by omega)
              omega) (fun a b hab hb => by
            by_cases ha : a = i
            · have hbi : b ≠ i := by omega
              simp only [ha, if_true, if_neg hbi]
              exact fun e => h2 b n hb (by omega) e.symm
            · simp only [if_neg ha]
              by_cases hbi : b = i
              · simp only [hbi, if_true]
                exact h2 a n (by omega) (by omega)
              · simp only [if_neg hbi]
                exact h2 a b hab (by omega))
        omega
      · have := ih n f (fun k hk => by
            have := h1 k (by omega)
            have : f k ≠ m := fun e => h ⟨k, hk, e⟩
            omega) (fun a b hab hb => h2 a b hab (by omega))
        omega
/-- one power's exponent and another's: so their greatest common divisor's -/
theorem pow_one_gcd (b r m n : Nat) : b ^ m % r = 1 % r → b ^ n % r = 1 % r → b ^ Nat.gcd m n % r = 1 % r := by
  induction m, n using Nat.gcd.induction with
  | H0 n => intro _ h; rw [Nat.gcd_zero_left]; exact h
  | H1 m n hm ih =>
    intro h1 h2
    rw [Nat.gcd_rec]
    refine ih ?_ h1
    have e : n = m * (n / m) + n % m := (Nat.div_add_mod n m).symm
    rw [e, Nat.pow_add, Nat.pow_mul, Nat.mul_mod, Nat.pow_mod, h1, ← Nat.pow_mod, Nat.one_pow, ← Nat.mul_mod, Nat.one_mul] at h2
    exact h2
theorem mod_of_dvd {a b p r : Nat} (hr : r ∣ p) (h : a % p = b % p) : a % r = b % r := by
  rw [← Nat.mod_mod_of_dvd a hr, h, Nat.mod_mod_of_dvd b hr]
theorem dvd_sub_of_mod {a b r : Nat} (h : a % r = b % r) : r ∣ b - a := by
  rcases Nat.le_total a b with hl | hl
  · exact (Nat.dvd_iff_mod_eq_zero ..).2 (Nat.sub_mod_eq_zero_of_mod_eq h.symm)
  · rw [Nat.sub_eq_zero_of_le hl]; exact Nat.dvd_zero _
theorem mod_of_dvd_sub {a b r : Nat} (hl : a ≤ b) (h : r ∣ b - a) : a % r = b % r := by
  obtain ⟨k, hk⟩ := h
  have : b = a + r * k := by omega
  rw [this, Nat.add_mul_mod_self_left]
/-- POCKLINGTON, with a power of the base alone -/
theorem pocklington (p F b : Nat) (hp : 2 ≤ p) (hF : p < F * F) (h1 : b ^ F % p = 1 % p)
    (h2 : ∀ q, IsPrime q → q ∣ F → Nat.gcd (b ^ (F / q) % p + (p - 1)) p = 1) : IsPrime p := by
  refine prime_of p hp fun r hr hd => Nat.lt_of_lt_of_le hF ?_
  have hF0 : 0 < F := by
    rcases Nat.eq_zero_or_pos F with h | h
    · rw [h] at hF; omega
    · exact h
  have hFr : b ^ F % r = 1 % r := mod_of_dvd hd h1
  have hb : ¬ r ∣ b := fun h => by
    have := hr.1
    have h3 : r ∣ b ^ F := Nat.dvd_trans h (Nat.dvd_trans (by rw [Nat.pow_one]; exact Nat.dvd_refl _) (Nat.pow_dvd_pow b (show 1 ≤ F by omega)))
    rw [Nat.mod_eq_zero_of_dvd h3, Nat.mod_eq_of_lt (by omega)] at hFr
    omega
  have hle : F ≤ r := by
    refine pigeon r F (fun i => b ^ i % r) (fun i _ => Nat.mod_lt _ (by have := hr.1; omega)) (fun i j hij hj he => ?_)
    have hij' : b ^ j = b ^ i * b ^ (j - i) := by rw [← Nat.pow_add]; congr 1; omega
    have hb1 : 0 < b := Nat.pos_of_ne_zero (fun h => hb (by rw [h]; exact Nat.dvd_zero _))
    have hd1 : b ^ (j - i) % r = 1 % r := by
      have hs := dvd_sub_of_mod he
      rw [hij', show b ^ i * b ^ (j - i) - b ^ i = b ^ i * (b ^ (j - i) - 1) by rw [Nat.mul_sub, Nat.mul_one]] at hs
      rcases hr.dvd_mul hs with h | h
      · exact absurd (hr.dvd_pow h) hb
      · exact (mod_of_dvd_sub (Nat.pow_pos hb1) h).symm
    have hg := pow_one_gcd b r (j - i) F hd1 hFr
    have hgF := Nat.gcd_dvd_right (j - i) F
    have hgle : Nat.gcd (j - i) F ≤ j - i := Nat.le_of_dvd (by omega) (Nat.gcd_dvd_left _ _)
    generalize Nat.gcd (j - i) F = g at *
    obtain ⟨k, hk⟩ := hgF
    have hk2 : 2 ≤ k := by
      rcases Nat.lt_or_ge k 2 with h | h
      · have : k = 0 ∨ k = 1 := by omega
        rcases this with rfl | rfl
        · rw [Nat.mul_zero] at hk; omega
        · rw [Nat.mul_one] at hk; omega
      · exact h
    obtain ⟨q, hq, ⟨l, hl⟩, _⟩ := least_prime k hk2
    have hFq : F / q = g * l := by
      rw [hk, hl, show g * (q * l) = q * (g * l) by rw [← Nat.mul_assoc, Nat.mul_comm g q, Nat.mul_assoc], Nat.mul_div_cancel_left _ (by have := hq.1; omega)]
    have hone : b ^ (F / q) % r = 1 % r := by
      rw [hFq, Nat.pow_mul, Nat.pow_mod, hg, ← Nat.pow_mod, Nat.one_pow]
    have hgcd := h2 q hq ⟨g * l, by rw [hk, hl, ← Nat.mul_assoc, Nat.mul_comm g q, Nat.mul_assoc]⟩
    have hdv : r ∣ b ^ (F / q) % p + (p - 1) := by
      apply Nat.dvd_of_mod_eq_zero
      rw [Nat.add_mod, Nat.mod_mod_of_dvd _ hd, hone, ← Nat.add_mod, show 1 + (p - 1) = p by omega]
      exact Nat.mod_eq_zero_of_dvd hd
    have := Nat.dvd_gcd hdv hd
    rw [hgcd] at this
    have := Nat.le_of_dvd (by decide) this
    have := hr.1
    omega
  exact Nat.mul_le_mul hle hle
end Go.Proofs.YtckkhpegimkefaaGreatDoor.Prim
namespace Go.Proofs.YtckkhpegimkefaaGreatDoor.Prim
/-- the product of a list -/
def prodL : List Nat → Nat
  | [] => 1
  | x :: l => x * prodL l
theorem prodL_perm {l m : List Nat} (h : l.Perm m) : prodL l = prodL m := by
  induction h with
  | nil => rfl
  | cons x _ ih => simp only [prodL, ih]
  | swap x y l => simp only [prodL]; rw [← Nat.mul_assoc, ← Nat.mul_assoc, Nat.mul_comm x y]
  | trans _ _ h1 h2 => exact h1.trans h2
theorem perm_of_nodup : ∀ (M L : List Nat), M.Nodup → (∀ x, x ∈ M → x ∈ L) → L.length ≤ M.length → M.Perm L
  | [], L, _, _, hl => by
    have : L = [] := List.eq_nil_of_length_eq_zero (by simpa using hl)
    rw [this]
  | x :: M, L, hn, hs, hl => by
    have hx : x ∈ L := hs x (by simp)
    have hp := List.perm_cons_erase hx
    have hlen := hp.length_eq
    have hxM : x ∉ M := (List.nodup_cons.1 hn).1
    have ih := perm_of_nodup M (L.erase x) (List.nodup_cons.1 hn).2 (fun y hy => by
      have hyx : y ≠ x := fun e => hxM (e ▸ hy)
      exact (List.mem_erase_of_ne hyx).2 (hs y (by simp [hy]))) (by simp at hlen hl; omega)
    exact (List.Perm.cons x ih).trans hp.symm
theorem prodL_map_mul (a p : Nat) : ∀ l : List Nat, prodL (l.map (fun i => a * i % p)) % p = a ^ l.length * prodL l % p
  | [] => by simp [prodL]
  | x :: l => by
    rw [List.map_cons, prodL, prodL, Nat.mul_mod, Nat.mod_mod, prodL_map_mul a p l, ← Nat.mul_mod, List.length_cons, Nat.pow_succ]
    congr 1
    grind
theorem prodL_not_dvd {p : Nat} (hp : IsPrime p) : ∀ l : List Nat, (∀ x, x ∈ l → ¬ p ∣ x) → ¬ p ∣ prodL l
  | [], _ => fun h => by
    have h1 := Nat.le_of_dvd (show 0 < 1 by decide) (show p ∣ 1 from h)
    have := hp.1
    omega
  | x :: l, h => fun hd => by
    rcases hp.dvd_mul hd with h1 | h1
    · exact h x (by simp) h1
    · exact prodL_not_dvd hp l (fun y hy => h y (by simp [hy])) h1
/-- FERMAT -/
theorem fermat (p a : Nat) (hp : IsPrime p) (ha : ¬ p ∣ a) : a ^ (p - 1) % p = 1 % p := by
  have h2 := hp.1
  have hnd : ∀ x, x ∈ List.range' 1 (p - 1) → ¬ p ∣ x := fun x hx hd => by
    rw [List.mem_range'_1] at hx
    have := Nat.le_of_dvd (by omega) hd
    omega
  have hM : ((List.range' 1 (p - 1)).map (fun i => a * i % p)).Nodup := by
    rw [List.nodup_iff_pairwise_ne, List.pairwise_map]
    refine List.Pairwise.imp_of_mem ?_ (List.pairwise_lt_range' (s := 1) (n := p - 1))
    intro i j hi hj hij he
    have hs := dvd_sub_of_mod he
    rw [← Nat.mul_sub] at hs
    rw [List.mem_range'_1] at hi hj
    rcases hp.dvd_mul hs with h | h
    · exact ha h
    · have := Nat.le_of_dvd (by omega) h
      omega
  have hperm := perm_of_nodup _ (List.range' 1 (p - 1)) hM (fun x hx => by
    rw [List.mem_map] at hx
    obtain ⟨i, hi, rfl⟩ := hx
    rw [List.mem_range'_1]
    have hlt := Nat.mod_lt (a * i) (show 0 < p by omega)
    have hne : a * i % p ≠ 0 := fun h => by
      rcases hp.dvd_mul (Nat.dvd_of_mod_eq_zero h) with h | h
      · exact ha h
      · exact hnd i hi h
    omega) (by simp)
  have he := congrArg (· % p) (prodL_perm hperm)
  simp only [prodL_map_mul] at he
  rw [List.length_range'] at he
  have hP := prodL_not_dvd hp _ hnd
  have ha0 : 0 < a := Nat.pos_of_ne_zero (fun h => ha (by rw [h]; exact Nat.dvd_zero _))
  have hs := dvd_sub_of_mod he.symm
  generalize prodL (List.range' 1 (p - 1)) = P at *
  rw [show a ^ (p - 1) * P - P = (a ^ (p - 1) - 1) * P by rw [Nat.sub_mul, Nat.one_mul]] at hs
  rcases hp.dvd_mul hs with h | h
  · exact (mod_of_dvd_sub (Nat.pow_pos ha0) h).symm
  · exact absurd h hP
/-- modulo a prime: so often multiplied it is as it was -/
theorem fermat_more (p x n : Nat) (hp : IsPrime p) (hn : ∃ k, n = k * (p - 1) + 1) : x ^ n % p = x % p := by
  obtain ⟨k, rfl⟩ := hn
  by_cases h : p ∣ x
  · rw [Nat.mod_eq_zero_of_dvd h, Nat.mod_eq_zero_of_dvd (Nat.dvd_trans h (by rw [Nat.pow_succ]; exact Nat.dvd_mul_left _ _))]
  · have hf := fermat p x hp h
    rw [Nat.pow_succ, Nat.mul_comm k, Nat.pow_mul, Nat.mul_mod, Nat.pow_mod, hf, ← Nat.pow_mod, Nat.one_pow, ← Nat.mul_mod, Nat.one_mul]
theorem crt (p q u v : Nat) (hc : Nat.Coprime p q) (h1 : u % p = v % p) (h2 : u % q = v % q) : u % (p * q) = v % (p * q) := by
  rcases Nat.le_total u v with hl | hl
  · exact mod_of_dvd_sub hl (hc.mul_dvd_of_dvd_of_dvd (dvd_sub_of_mod h1) (dvd_sub_of_mod h2))
  · exact (mod_of_dvd_sub hl (hc.mul_dvd_of_dvd_of_dvd (dvd_sub_of_mod h1.symm) (dvd_sub_of_mod h2.symm))).symm
/-- RIVEST, SHAMIR, ADLEMAN -/
theorem rsa (p q e d x : Nat) (hp : IsPrime p) (hq : IsPrime q) (hpq : p ≠ q) (hx : x < p * q) (hd : ∃ k, e * d = k * ((p - 1) * (q - 1)) + 1) :
    (x ^ e % (p * q)) ^ d % (p * q) = x := by
  obtain ⟨k, hk⟩ := hd
  have hc : Nat.Coprime p q := hp.coprime (fun h => by
    rcases hq.2 p h with h1 | h1
    · have := hp.1; omega
    · exact hpq h1)
  rw [← Nat.pow_mod, ← Nat.pow_mul, hk]
  have := crt p q (x ^ (k * ((p - 1) * (q - 1)) + 1)) x hc (fermat_more p x _ hp ⟨k * (q - 1), by grind⟩) (fermat_more q x _ hq ⟨k * (p - 1), by grind⟩)
  rw [this, Nat.mod_eq_of_lt hx]
end Go.Proofs.YtckkhpegimkefaaGreatDoor.Prim
namespace Go.Proofs.YtckkhpegimkefaaGreatDoor
open Go.RowKit
set_option linter.unusedVariables false
set_option linter.unusedSimpArgs false
set_option maxRecDepth 100000

theorem valN_bigR (n : Nat) : ∀ k, valN ((bigL n k).map fun z => UInt8.ofNat z.toNat) = n % 256 ^ k
  | 0 => by simp [bigL, valN, Nat.mod_one]
  | k + 1 => by
    rw [bigL, List.map_cons, valN_consN, valN_bigR n k, List.length_map, bigL_length, Nat.pow_succ, Nat.mod_mul]
    have e : ((((n / 256 ^ k % 256 : Nat)) : Int)).toNat = n / 256 ^ k % 256 := rfl
    rw [e, show (UInt8.ofNat (n / 256 ^ k % 256)).toNat = n / 256 ^ k % 256 by simp, Nat.mul_comm, Nat.add_comm]
theorem valN_strR (n k : Nat) : valN (strOfNums (bigL n k)).data.toList = n % 256 ^ k := by
  rw [show (strOfNums (bigL n k)).data.toList = (bigL n k).map (fun z => UInt8.ofNat z.toNat) by simp [strOfNums], valN_bigR]
theorem bigL_more (a n k : Nat) : ∀ j, j ≤ k → bigL (a * 256 ^ k + n) j = bigL n j
  | 0, _ => rfl
  | j + 1, h => by
    rw [bigL, bigL, bigL_more a n k j (by omega)]
    have e : a * 256 ^ k = 256 ^ j * (256 * (a * 256 ^ (k - j - 1))) := by
      have : 256 ^ k = 256 ^ j * (256 * 256 ^ (k - j - 1)) := by
        rw [← Nat.pow_succ', ← Nat.pow_add]; congr 1; omega
      rw [this, Nat.mul_left_comm, Nat.mul_left_comm a 256]
    rw [e, Nat.mul_add_div (Nat.pow_pos (by decide)), Nat.mul_add_mod]
theorem list_of_num : ∀ l : List UInt8, (bigL (valN l) l.length).map (fun z => UInt8.ofNat z.toNat) = l
  | [] => rfl
  | b :: l => by
    have hv := valN_ltK l
    rw [List.length_cons, bigL, valN_consN, bigL_more _ _ _ _ (Nat.le_refl _), List.map_cons, list_of_num l]
    have e : (b.toNat * 256 ^ l.length + valN l) / 256 ^ l.length % 256 = b.toNat := by
      rw [Nat.mul_comm, Nat.mul_add_div (Nat.pow_pos (by decide)), Nat.div_eq_of_lt hv, Nat.add_zero]
      exact Nat.mod_eq_of_lt b.toNat_lt
    rw [e]
    congr 1
    simp
theorem text_of_num (x : ByteArray) : strOfNums (bigL (valN x.data.toList) x.size) = x := by
  apply ByteArray.ext
  apply Array.toList_inj.1
  have := list_of_num x.data.toList
  rw [show x.data.toList.length = x.size by simp] at this
  rw [← this]
  simp [strOfNums, this]
/-- powers as texts: of a modulus, and a number below it -/
theorem powT_again {m x : ByteArray} (h : powE m x = 0) (d : Nat) : powE m (powT m x d) = 0 ∧ valN (powT m x d).data.toList = valN x.data.toList ^ d % valN m.data.toList := by
  have hT : powT m x d = strOfNums (bigL (valN x.data.toList ^ d % valN m.data.toList) m.size) := by unfold powT; rw [if_pos h]
  have hm : isModB m = true ∧ x.size = m.size ∧ valN x.data.toList < valN m.data.toList := by
    unfold powE at h
    cases hmb : isModB m with
    | false => rw [hmb] at h; simp at h
    | true =>
      rw [hmb] at h
      by_cases hs : x.size = m.size
      · rw [decide_eq_false (by simpa using hs)] at h
        simp only [Bool.not_true, Bool.or_self, Bool.false_eq_true, if_false] at h
        by_cases hv : valN m.data.toList ≤ valN x.data.toList
        · rw [if_pos hv] at h; cases h
        · exact ⟨rfl, hs, by omega⟩
      · rw [decide_eq_true (by simpa using hs)] at h; simp at h
  obtain ⟨hmb, hs, hv⟩ := hm
  have hM0 : 0 < valN m.data.toList := by omega
  have hMl := valN_ltK m.data.toList
  rw [show m.data.toList.length = m.size by simp] at hMl
  have hlt := Nat.mod_lt (valN x.data.toList ^ d) hM0
  have hV : valN (powT m x d).data.toList = valN x.data.toList ^ d % valN m.data.toList := by
    rw [hT, valN_strR, Nat.mod_eq_of_lt (by omega)]
  have hZ : (powT m x d).size = m.size := by rw [hT, strOfNums_size, bigL_length]
  refine ⟨?_, hV⟩
  unfold powE
  rw [hmb, hV, decide_eq_false (by simpa using hZ)]
  simp only [Bool.not_true, Bool.or_self, Bool.false_eq_true, if_false]
  rw [if_neg (by omega)]
theorem rsa_text {m x : ByteArray} (h : powE m x = 0) (p q d e : Nat) (hp : Prim.IsPrime p) (hq : Prim.IsPrime q) (hpq : p ≠ q) (hm : valN m.data.toList = p * q) (hde : ∃ k, d * e = k * ((p - 1) * (q - 1)) + 1) :
    powT m (powT m x d) e = x := by
  obtain ⟨h1, h2⟩ := powT_again h d
  have hx : valN x.data.toList < p * q ∧ x.size = m.size := by
    unfold powE at h
    cases hmb : isModB m with
    | false => rw [hmb] at h; simp at h
    | true =>
      rw [hmb] at h
      by_cases hs : x.size = m.size
      · rw [decide_eq_false (by simpa using hs)] at h
        simp only [Bool.not_true, Bool.or_self, Bool.false_eq_true, if_false] at h
        by_cases hv : valN m.data.toList ≤ valN x.data.toList
        · rw [if_pos hv] at h; cases h
        · exact ⟨by omega, hs⟩
      · rw [decide_eq_true (by simpa using hs)] at h; simp at h
  unfold powT
  rw [if_pos (by exact h1)]
  have h2' := h2
  unfold powT at h2'
  rw [h2', hm, Prim.rsa p q d e _ hp hq hpq hx.1 hde, ← hx.2]
  exact text_of_num x
/-- a secret's D, three times, and 1 over -/
theorem secD_three {p q : ByteArray} (h : secE p q = 0) : 3 * secD p q = (3 - (valN p.data.toList - 1) * (valN q.data.toList - 1) % 3) * ((valN p.data.toList - 1) * (valN q.data.toList - 1)) + 1 := by
  have h3 : ¬ (valN p.data.toList - 1) * (valN q.data.toList - 1) % 3 = 0 := by
    intro h0
    unfold secE at h
    cases hf : (isFacB p && isFacB q) with
    | false => rw [hf] at h; simp at h
    | true =>
      cases hm : isModB (secT (valN p.data.toList) (valN q.data.toList)) with
      | false => rw [hf, hm] at h; simp at h
      | true => rw [hf, hm, if_pos h0] at h; simp at h
  unfold secD
  generalize (valN p.data.toList - 1) * (valN q.data.toList - 1) = N at *
  have hc : N % 3 = 1 ∨ N % 3 = 2 := by omega
  rcases hc with hc | hc
  · rw [hc, Nat.mul_comm N]
    omega
  · rw [hc, Nat.mul_comm N]
    omega
end Go.Proofs.YtckkhpegimkefaaGreatDoor
