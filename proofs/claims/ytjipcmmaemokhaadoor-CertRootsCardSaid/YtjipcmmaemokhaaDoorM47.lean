/- The law's walk: CertRoots. -/
import Derived.Test.YtjipcmmaemokhaaDoorM36
import Derived.Test.YtjipcmmaemokhaaDoorM46
import Derived.Test.YtjipcmmaemokhaaDoorM44
import Derived.Test.YtjipcmmaemokhaaDoorRows
namespace Go.Proofs.YtjipcmmaemokhaaDoor
open Go.RowKit
set_option linter.unusedVariables false
set_option linter.unusedSimpArgs false
set_option maxRecDepth 100000

/-- what is wrong with a text, by its length and by how it stands to the modulus -/
theorem powE_parts {m x : ByteArray} (hm : isModB m = true) :
    (powE m x = 1 ∧ ¬ x.size = m.size) ∨ (powE m x = 3 ∧ x.size = m.size ∧ Op.bytesLess x.toList m.toList = false) ∨ (powE m x = 0) := by
  unfold powE
  rw [hm]
  by_cases hs : x.size = m.size
  · rw [decide_eq_false (by simpa using hs)]
    simp only [Bool.not_true, Bool.or_self, Bool.false_eq_true, if_false]
    by_cases hv : valN m.data.toList ≤ valN x.data.toList
    · rw [if_pos hv]
      exact .inr (.inl ⟨rfl, hs, by rw [less_text x m hs]; exact decide_eq_false (by omega)⟩)
    · rw [if_neg hv]; exact .inr (.inr rfl)
  · rw [decide_eq_true (by simpa using hs)]
    exact .inl ⟨by simp, hs⟩
theorem isMod_of_sec {p q : ByteArray} (h : secE p q = 0) : isModB (secM p q) = true := by
  unfold secM
  rw [if_pos h]
  unfold secE at h
  cases hf : (isFacB p && isFacB q) with
  | false => rw [hf] at h; simp at h
  | true =>
    cases hm : isModB (secT (valN p.data.toList) (valN q.data.toList)) with
    | false => rw [hf, hm] at h; simp at h
    | true => rfl
set_option maxHeartbeats 4000000 in
theorem walkRoots (n : Int) (x : ByteArray) (w : World) (hn : -9223372036854775808 ≤ n ∧ n ≤ 9223372036854775807) (ht : PairTab w) :
    Calls Tryd.prog 3 #[.int .i64 n, .string x] w fun e w' => e = .returned (.bool true) ∧ Below w.heap.size w w' := by
  have N0 := hide (fun W (h : PairTab W) => pair_any n W hn h)
  have HT := hide ht
  clear ht hn
  go_enter Tryd.func3, Tryd.ntmps3
  go_wp2_with fail
  refine (unhide N0 _ (unhide HT)).mono ?_
  rintro e y0 ⟨⟨i, hi, rfl⟩, k0⟩
  obtain ⟨p, hp⟩ : ∃ p, p = prB (2 * i) := ⟨_, rfl⟩
  obtain ⟨q, hq⟩ : ∃ q, q = prB (2 * i + 1) := ⟨_, rfl⟩
  have hs := pair_secret i hi
  have hb := fun h => pair_back i hi (x := x) h
  rw [← hp, ← hq] at hs hb
  rw [← hp, ← hq]
  clear hp hq hi
  have hM := isMod_of_sec hs
  have hR0 : rootE p q x = powE (secM p q) x := by unfold rootE; rw [if_pos hs]
  have hR1 : rootT p q x = powT (secM p q) x (secD p q) := by unfold rootT; rw [if_pos hs]
  have hZ0 : rootE p q (powT (secM p q) x 3) = powE (secM p q) (powT (secM p q) x 3) := by unfold rootE; rw [if_pos hs]
  have hZ1 : rootT p q (powT (secM p q) x 3) = powT (secM p q) (powT (secM p q) x 3) (secD p q) := by unfold rootT; rw [if_pos hs]
  have n1 := fun W => modulus_any p q W
  have n2 := fun W => root_any p q x W
  have n3 := fun W => raise_any (secM p q) x W
  have n4 := fun W => raise_any (secM p q) (powT (secM p q) x (secD p q)) W
  have n5 := fun W => root_any p q (powT (secM p q) x 3) W
  rw [hs] at n1
  rw [hR0, hR1] at n2
  rw [hZ0, hZ1] at n5
  have hparts := powE_parts (x := x) hM
  have hA3 := fun h => (powT_again (m := secM p q) (x := x) h 3).1
  have hAd := fun h => (powT_again (m := secM p q) (x := x) h (secD p q)).1
  generalize secD p q = d at *
  generalize secM p q = m at *
  obtain ⟨y1, hy1⟩ : ∃ y', y' = y0.alloc (.cells #[.string p, .string q] 23) := ⟨_, rfl⟩
  have kk1 : Below w.heap.size w y1 := by rw [hy1]; exact k0.alloc k0.size _
  have hz1 : y1.heap[y0.heap.size]? = some (.cells #[.string p, .string q] 23 (0, 0)) := by rw [hy1]; exact heap_alloc_new _ _
  have hl1 : y0.heap.size < y1.heap.size := by rw [hy1]; simp
  have HC : Hid (∀ W, Below y1.heap.size y1 W → W.cell? ⟨y0.heap.size, 0, none⟩ = some (.string p) ∧ W.cell? ⟨y0.heap.size, 1, none⟩ = some (.string q)) := hide (fun W hb => by
    have hx := (hb.block _ hl1).trans hz1
    exact ⟨cell_of_row _ _ 0 _ _ _ hx, cell_of_row _ _ 1 _ _ _ hx⟩)
  obtain ⟨c0, c1⟩ := unhide HC y1 (Below.refl _ _)
  have HY1 := hide hy1; have HK1 := hide kk1
  have N1 := hide n1; have N2 := hide n2; have N3 := hide n3; have N4 := hide n4; have N5 := hide n5
  have HP := hide hparts; have HB := hide hb; have HA3 := hide hA3; have HAd := hide hAd
  rw [hy1] at c0 c1
  clear hy1 kk1 hz1 hl1 n1 n2 n3 n4 n5 hparts hb hA3 hAd hs hM hR0 hR1 hZ0 hZ1 k0
  go_wp2_with fail
  rw [← unhide HY1]
  clear c0 c1
  refine (unhide N1 _).mono ?_
  rintro e y2 ⟨rfl, k2⟩
  obtain ⟨c0, c1⟩ := unhide HC _ k2
  have K2 := hide k2
  clear k2
  go_wp2_with fail
  refine (unhide N2 _).mono ?_
  rintro e y3 ⟨rfl, k3⟩
  have kk3 := ext_callB (unhide K2) k3
  clear c0 c1
  obtain ⟨c0, c1⟩ := unhide HC _ kk3
  have K3 := hide kk3
  clear k3 kk3 K2
  go_wp2_with fail
  refine (unhide N3 _).mono ?_
  rintro e y4 ⟨rfl, k4⟩
  have kk4 := ext_callB (unhide K3) k4
  clear c0 c1
  obtain ⟨c0, c1⟩ := unhide HC _ kk4
  have K4 := hide kk4
  clear k4 kk4 K3
  rcases unhide HP with ⟨h1, hsz⟩ | ⟨h1, hsz, hls⟩ | h1
  · have hsi : ¬ (x.size : Int) = (m.size : Int) := by omega
    have hKF := hide ((unhide HK1).trans ((unhide K4).mono (unhide HK1).size))
    rw [h1]
    clear h1 hsz HP HB HA3 HAd
    go_wp2
    exact bodyPost_ret (v := .bool true) (by simp [results, Tryd.results3, go_sem]) rfl ⟨rfl, unhide hKF⟩
  · have hKF := hide ((unhide HK1).trans ((unhide K4).mono (unhide HK1).size))
    have q2 := binOp_string_geqK 9 x m
    rw [hls] at q2
    rw [h1]
    clear h1 hsz HP HB HA3 HAd
    go_wp2
    exact bodyPost_ret (v := .bool true) (by simp [results, Tryd.results3, go_sem]) rfl ⟨rfl, unhide hKF⟩
  · have ha3 := unhide HA3 h1
    have had := unhide HAd h1
    obtain ⟨hb1, hb2⟩ := unhide HB h1
    have n4 := unhide N4; have n5 := unhide N5
    rw [hb1, had] at n4
    rw [hb2, ha3] at n5
    have N4 := hide n4; have N5 := hide n5
    have t1 : (x.toList == x.toList) = true := by simp
    rw [h1]
    clear h1 HP HB HA3 HAd ha3 had hb1 hb2 n4 n5
    go_wp2_with fail
    refine (unhide N4 _).mono ?_
    rintro e y5 ⟨rfl, k5⟩
    have kk5 := ext_callB (unhide K4) k5
    clear c0 c1
    obtain ⟨c0, c1⟩ := unhide HC _ kk5
    have K5 := hide kk5
    clear k5 kk5 K4
    go_wp2_with fail
    refine (unhide N5 _).mono ?_
    rintro e y6 ⟨rfl, k6⟩
    have kk6 := ext_callB (unhide K5) k6
    have hKF := hide ((unhide HK1).trans (kk6.mono (unhide HK1).size))
    clear k6 kk6 c0 c1 K5
    go_wp2
    exact bodyPost_ret (v := .bool true) (by simp [results, Tryd.results3, go_sem]) rfl ⟨rfl, unhide hKF⟩
end Go.Proofs.YtjipcmmaemokhaaDoor
