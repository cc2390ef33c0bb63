/- A link, and the chain, of the program. -/
import Derived.Test.YtckkhpegimkefaaGreatDoorM44
import Derived.Test.YtckkhpegimkefaaGreatDoorM03
import Derived.Shelf.Strings.Prefix
import Derived.Test.YtckkhpegimkefaaGreatDoorM38
import Derived.Test.YtckkhpegimkefaaGreatDoorM37
import Derived.Test.YtckkhpegimkefaaGreatDoorM43
import Derived.BigQuiet
namespace Go.Proofs.YtckkhpegimkefaaGreatDoor
open Go.RowKit
set_option linter.unusedVariables false
set_option linter.unusedSimpArgs false
set_option maxRecDepth 100000

theorem eq_bytes {a b : ByteArray} : (a.toList == b.toList) = decide (a = b) := by
  have h := @ne_bytes a b
  rw [bne] at h
  cases hx : (a.toList == b.toList) <;> cases hy : decide (a = b) <;> simp_all
theorem mayP_any (id o : ByteArray) (g : Nat) (w : World) (hc : w.cell? ⟨g, 0, none⟩ = some (.string id)) :
    Calls Tryz.prog 18 #[.string o, .pointer (some ⟨g, 0, none⟩)] w fun e w' => e = .returned (.bool (mayP id o)) ∧ w' = w := by
  have N1 := hide (fun W => Any.strings_HasPrefix { Tryz.lays105 with } id o W)
  go_enter Tryz.func18, Tryz.ntmps18
  go_wp2_with fail
  refine (unhide N1 _).mono ?_
  rintro e y ⟨rfl, hy⟩
  have hy' := hy.symm
  subst hy'
  go_wp2
  go_ret
  exact ⟨rfl, rfl⟩
theorem mayS_any (id o : ByteArray) (g : Nat) (w : World) (hc : w.cell? ⟨g, 0, none⟩ = some (.string id)) :
    Calls Tryz.prog 20 #[.string o, .pointer (some ⟨g, 0, none⟩)] w fun e w' => e = .returned (.bool (mayS id o)) ∧ w' = w := by
  have t1 : (o.toList == id.toList) = mayS id o := eq_bytes
  go_enter Tryz.func20, Tryz.ntmps20
  go_wp2
  go_ret
  exact ⟨ret_bool (by first | rfl | assumption | simp [t1]), rfl⟩

set_option maxHeartbeats 4000000 in
theorem link_any (m sig rest : ByteArray) (k : Int) (beside : ByteArray) (month : Int) (f : FuncId) (hf : f = 18 ∨ f = 20) (g : Nat) (may : ByteArray → Bool) (w : World) (hr : rest.size ≤ 2097152) (hb : beside.size ≤ 2097152)
    (hm : ∀ (o : ByteArray) (W : World), Below w.heap.size w W → Calls Tryz.prog f #[.string o, .pointer (some ⟨g, 0, none⟩)] W fun e w' => e = .returned (.bool (may o)) ∧ w' = W) :
    Calls Tryz.prog 17 #[.string m, .int .i64 k, .agg #[.string sig, .string rest], .string beside, .int .i64 month, .func (.func f) #[] #[.pointer (some ⟨g, 0, none⟩)]] w fun e w' => e = .returned (.tuple #[.string (lkM m sig rest k beside may month), .int .i64 (lkE m sig rest k beside may month)]) ∧ Below w.heap.size w w' := by
  obtain ⟨W1, hW1⟩ : ∃ W1, W1 = w.alloc (.cells #[.string sig, .string rest] 26) := ⟨_, rfl⟩
  have hB1 : Below w.heap.size w W1 := by rw [hW1]; exact (Below.refl _ _).alloc (Nat.le_refl _) _
  have hX1 : W1.heap[w.heap.size]? = some (.cells #[.string sig, .string rest] 26 (0, 0)) := by rw [hW1]; exact heap_alloc_new _ _
  have c0 := cell_of_row _ _ 0 _ _ _ hX1
  have c1 := cell_of_row _ _ 1 _ _ _ hX1
  have HW1 := hide hW1; have HB1 := hide hB1
  clear hW1 hB1 hX1
  have N1 := hide (fun W => recover_any m sig rest k beside W hr hb)
  have N2 := hide (fun W => creadKey_any (rcT m sig rest k beside) W (Nat.le_trans rcT_size (by decide)))
  have HM := hide (hm (rkO (rcT m sig rest k beside)))
  have L1 := hide (fun h => lk_rc (m := m) (sig := sig) (rest := rest) (k := k) (beside := beside) (may := may) (month := month) h)
  have L2 := hide (fun h h1 => lk_rk (m := m) (sig := sig) (rest := rest) (k := k) (beside := beside) (may := may) (month := month) h h1)
  have L3 := hide (fun h h1 h2 => lk_may (m := m) (sig := sig) (rest := rest) (k := k) (beside := beside) (may := may) (month := month) h h1 h2)
  have L4 := hide (fun h h1 h2 h3 => lk_date (m := m) (sig := sig) (rest := rest) (k := k) (beside := beside) (may := may) (month := month) h h1 h2 h3)
  have L5 := hide (fun h h1 h2 h3 => lk_ok (m := m) (sig := sig) (rest := rest) (k := k) (beside := beside) (may := may) (month := month) h h1 h2 h3)
  clear hm hr hb
  generalize lkE m sig rest k beside may month = le at *
  generalize lkM m sig rest k beside may month = lm at *
  generalize rcE m sig rest k beside = re at *
  generalize rcT m sig rest k beside = rt at *
  generalize rkE rt = ke at *
  generalize rkO rt = ko at *
  generalize rkT rt = kt at *
  generalize rkM rt = km at *
  generalize may ko = mb at *
  rcases hf with rfl | rfl
  all_goals
    go_enter Tryz.func17, Tryz.ntmps17
    go_upto_region 1 with fail
    rw [← unhide HW1]
    go_wp2_with fail
    refine (unhide N1 _).mono ?_
    rintro e y1 ⟨rfl, k1⟩
    have HK1 := hide ((unhide HB1).trans (k1.mono (unhide HB1).size))
    clear k1 c0 c1
    by_cases h0 : re = 0
    case neg =>
      obtain ⟨rfl, rfl⟩ := unhide L1 h0
      have t1 : (le != 0) = true := by simpa using h0
      clear L1 L2 L3 L4 L5 h0
      go_wp2
      go_ret2
      exact ⟨rfl, unhide HK1⟩
    case pos =>
      subst h0
      clear L1
      go_wp2_with fail
      refine (unhide N2 _).mono ?_
      rintro e y2 ⟨rfl, k2⟩
      have hk2 := ext_callB (unhide HK1) k2
      obtain ⟨y3, hy3⟩ : ∃ y', y' = y2.alloc (.cells #[.string ko, .int .i64 kt, .string km] 48) := ⟨_, rfl⟩
      have hz3 : y3.heap[y2.heap.size]? = some (.cells #[.string ko, .int .i64 kt, .string km] 48 (0, 0)) := by rw [hy3]; exact heap_alloc_new _ _
      have hk3 : Below w.heap.size w y3 := by rw [hy3]; exact hk2.alloc hk2.size _
      have d0 := cell_of_row _ _ 0 _ _ _ hz3
      have d1 := cell_of_row _ _ 1 _ _ _ hz3
      have d2 := cell_of_row _ _ 2 _ _ _ hz3
      have HK3 := hide hk3; have HY3 := hide hy3
      simp only [List.getElem?_toArray, List.getElem?_cons_zero, List.getElem?_cons_succ] at d0 d1 d2
      rw [hy3] at d0 d1 d2
      clear k2 hk2 hy3 hz3 hk3 HK1 HW1 HB1 N1
      by_cases h1 : ke = 0
      case neg =>
        obtain ⟨rfl, rfl⟩ := unhide L2 (by first | rfl | trivial) h1
        have t1 : (le != 0) = true := by simpa using h1
        clear L2 L3 L4 L5 h1
        go_wp2
        go_ret2
        exact ⟨rfl, by rw [← unhide HY3]; exact unhide HK3⟩
      case pos =>
        subst h1
        clear L2
        go_wp2_with fail
        rw [← unhide HY3] at d0 d1 d2 ⊢
        refine (unhide HM _ (unhide HK3)).mono ?_
        rintro e y4 ⟨rfl, hy4⟩
        have hy4' := hy4.symm
        subst hy4'
        clear hy4
        cases mb with
        | false =>
          obtain ⟨rfl, rfl⟩ := unhide L3 (by first | rfl | trivial) (by first | rfl | trivial) (by first | rfl | trivial)
          clear L3 L4 L5
          go_wp2
          go_ret2
          exact ⟨rfl, unhide HK3⟩
        | true =>
          by_cases h2 : kt < month
          · obtain ⟨rfl, rfl⟩ := unhide L4 (by first | rfl | trivial) (by first | rfl | trivial) (by first | rfl | trivial) h2
            clear L3 L4 L5
            go_wp2
            go_ret2
            exact ⟨rfl, unhide HK3⟩
          · obtain ⟨rfl, rfl⟩ := unhide L5 (by first | rfl | trivial) (by first | rfl | trivial) (by first | rfl | trivial) (by first | exact h2 | omega)
            clear L3 L4 L5
            go_wp2
            go_ret2
            exact ⟨rfl, unhide HK3⟩

set_option maxHeartbeats 4000000 in
theorem chain_any (m s1 r1 s2 r2 id data : ByteArray) (month : Int) (w : World) (hr1 : r1.size ≤ 2097152) (hr2 : r2.size ≤ 2097152) (hd : data.size ≤ 2097152) :
    Calls Tryz.prog 6 #[.string m, .agg #[.string s1, .string r1], .agg #[.string s2, .string r2], .string id, .string data, .int .i64 month] w fun e w' => e = .returned (.tuple #[.string (chM m s1 r1 s2 r2 id data month), .int .i64 (chE m s1 r1 s2 r2 id data month)]) ∧ Below w.heap.size w w' := by
  obtain ⟨Wa, hWa⟩ : ∃ W1, W1 = w.alloc (.cells #[.string s1, .string r1] 26) := ⟨_, rfl⟩
  obtain ⟨Wb, hWb⟩ : ∃ W1, W1 = Wa.alloc (.cells #[.string s2, .string r2] 26) := ⟨_, rfl⟩
  obtain ⟨Wc, hWc⟩ : ∃ W1, W1 = Wb.alloc (.cells #[.string id] 9) := ⟨_, rfl⟩
  have ba : Below w.heap.size w Wa := by rw [hWa]; exact (Below.refl _ _).alloc (Nat.le_refl _) _
  have bb : Below Wa.heap.size Wa Wb := by rw [hWb]; exact (Below.refl _ _).alloc (Nat.le_refl _) _
  have bc : Below Wb.heap.size Wb Wc := by rw [hWc]; exact (Below.refl _ _).alloc (Nat.le_refl _) _
  have la : Wa.heap.size = w.heap.size + 1 := by rw [hWa]; simp
  have lb : Wb.heap.size = w.heap.size + 2 := by rw [hWb]; simp [la]
  have lc : Wc.heap.size = w.heap.size + 3 := by rw [hWc]; simp [lb]
  have xa : At Wa w.heap.size #[.string s1, .string r1] 26 := by rw [hWa]; exact At.new _ _ _
  have xb : At Wb (w.heap.size + 1) #[.string s2, .string r2] 26 := by have h := At.new Wa #[.string s2, .string r2] 26; rw [← hWb, la] at h; exact h
  have xc : At Wc (w.heap.size + 2) #[.string id] 9 := by have h := At.new Wb #[.string id] 9; rw [← hWc, lb] at h; exact h
  have xa' := (xa.below bb).below bc
  have xb' := xb.below bc
  have hB : Below w.heap.size w Wc := (ba.trans (bb.mono ba.size)).trans (bc.mono (by omega))
  have HC : Hid (∀ W, Below Wc.heap.size Wc W → W.cell? ⟨w.heap.size, 0, none⟩ = some (.string s1) ∧ W.cell? ⟨w.heap.size, 1, none⟩ = some (.string r1) ∧ W.cell? ⟨w.heap.size + 1, 0, none⟩ = some (.string s2) ∧ W.cell? ⟨w.heap.size + 1, 1, none⟩ = some (.string r2) ∧ W.cell? ⟨w.heap.size + 2, 0, none⟩ = some (.string id)) := hide (fun W h =>
    ⟨(xa'.below h).cell rfl, (xa'.below h).cell rfl, (xb'.below h).cell rfl, (xb'.below h).cell rfl, (xc.below h).cell rfl⟩)
  have N1 : Hid (∀ W, Below Wc.heap.size Wc W → Calls Tryz.prog 17 #[.string m, .int .i64 1, .agg #[.string s1, .string r1], .string ⟨#[]⟩, .int .i64 month, .func (.func 18) #[] #[.pointer (some ⟨w.heap.size + 2, 0, none⟩)]] W fun e w' => e = .returned (.tuple #[.string (lkM m s1 r1 1 ⟨#[]⟩ (mayP id) month), .int .i64 (lkE m s1 r1 1 ⟨#[]⟩ (mayP id) month)]) ∧ Below W.heap.size W w') :=
    hide (fun W h => link_any m s1 r1 1 ⟨#[]⟩ month 18 (Or.inl rfl) (w.heap.size + 2) (mayP id) W hr1 (by decide) (fun o W2 h2 => mayP_any id o _ W2 (unhide HC W2 (ext_callB h h2)).2.2.2.2))
  have N2 : Hid (∀ (mm : ByteArray) W, Below Wc.heap.size Wc W → Calls Tryz.prog 17 #[.string mm, .int .i64 2, .agg #[.string s2, .string r2], .string data, .int .i64 month, .func (.func 20) #[] #[.pointer (some ⟨w.heap.size + 2, 0, none⟩)]] W fun e w' => e = .returned (.tuple #[.string (lkM mm s2 r2 2 data (mayS id) month), .int .i64 (lkE mm s2 r2 2 data (mayS id) month)]) ∧ Below W.heap.size W w') :=
    hide (fun mm W h => link_any mm s2 r2 2 data month 20 (Or.inr rfl) (w.heap.size + 2) (mayS id) W hr2 hd (fun o W2 h2 => mayS_any id o _ W2 (unhide HC W2 (ext_callB h h2)).2.2.2.2))
  have HB := hide hB
  have HWc : Hid (Wc = ((w.alloc (.cells #[.string s1, .string r1] 26)).alloc (.cells #[.string s2, .string r2] 26)).alloc (.cells #[.string id] 9)) := hide (by rw [hWc, hWb, hWa])
  obtain ⟨c0, c1, c2, c3, c4⟩ := unhide HC Wc (Below.refl _ _)
  have C1 := hide (fun h => ch_one (m := m) (s1 := s1) (r1 := r1) (s2 := s2) (r2 := r2) (id := id) (data := data) (month := month) h)
  have C2 := hide (fun h => ch_two (m := m) (s1 := s1) (r1 := r1) (s2 := s2) (r2 := r2) (id := id) (data := data) (month := month) h)
  have N2 := hide (unhide N2 (lkM m s1 r1 1 ⟨#[]⟩ (mayP id) month))
  clear xa xb xc xa' xb' ba bb bc hWa hWb hWc hB hr1 hr2 hd
  generalize lkE (lkM m s1 r1 1 ⟨#[]⟩ (mayP id) month) s2 r2 2 data (mayS id) month = e2 at *
  generalize lkM (lkM m s1 r1 1 ⟨#[]⟩ (mayP id) month) s2 r2 2 data (mayS id) month = m2 at *
  generalize lkE m s1 r1 1 ⟨#[]⟩ (mayP id) month = e1 at *
  generalize lkM m s1 r1 1 ⟨#[]⟩ (mayP id) month = m1 at *
  generalize chE m s1 r1 s2 r2 id data month = ce at *
  generalize chM m s1 r1 s2 r2 id data month = cm at *
  clear la lb lc
  go_enter Tryz.func6, Tryz.ntmps6
  go_upto_region 1 with fail
  rw [← unhide HWc]
  go_wp2_with fail
  refine (unhide N1 _ (Below.refl _ _)).mono ?_
  rintro e y1 ⟨rfl, k1⟩
  clear c0 c1 c2 c3 c4
  obtain ⟨c0, c1, c2, c3, c4⟩ := unhide HC y1 k1
  have K1 := hide k1
  have HF := hide ((unhide HB).trans (k1.mono (unhide HB).size))
  clear k1
  by_cases h0 : e1 = 0
  case neg =>
    obtain ⟨rfl, rfl⟩ := unhide C1 h0
    have t1 : (ce != 0) = true := by simpa using h0
    clear C1 C2 h0
    go_wp2
    go_ret2
    exact ⟨rfl, unhide HF⟩
  case pos =>
    subst h0
    obtain ⟨rfl, rfl⟩ := unhide C2 (by first | rfl | trivial)
    clear C1 C2
    go_wp2_with fail
    refine (unhide N2 _ (unhide K1)).mono ?_
    rintro e y2 ⟨rfl, k2⟩
    have HF2 := hide ((unhide HB).trans ((ext_callB (unhide K1) k2).mono (unhide HB).size))
    clear k2 c0 c1 c2 c3 c4
    go_wp2
    go_ret2
    exact ⟨rfl, unhide HF2⟩
end Go.Proofs.YtckkhpegimkefaaGreatDoor
namespace Go.Proofs.YtckkhpegimkefaaGreatDoor
open Go.RowKit
set_option linter.unusedVariables false
set_option linter.unusedSimpArgs false
set_option maxRecDepth 100000

theorem hc_or (n s : Nat) (h : ¬ (n ≤ 1000 ∧ n + 2 ≤ s)) : (1000 : Int) < (n : Int) ∨ ((n : Int) ≤ 1000 ∧ (s : Int) < (n : Int) + 2) := by omega
theorem hc_yes (n s : Nat) (h : n ≤ 1000 ∧ n + 2 ≤ s) : (n : Int) ≤ 1000 ∧ (n : Int) + 2 ≤ (s : Int) := by omega
theorem slice_S (al : ByteArray) (n : Nat) (h : n + 2 ≤ al.size) (wx : World) : (Instr.slice 9 (.string al) (some (.int .i64 2)) (some (.int .i64 ((n : Int) + 2))) none).run Tryz.prog wx = .ok (.string (al.extract 2 (2 + n))) wx := by
  rw [run_slice_string (P := Tryz.prog) wx 9 al .i64 .i64 (2 : Int) ((n : Int) + 2) Tryz.underlying9 (by omega) (by omega) (by omega)]
  rw [show ((n : Int) + 2).toNat = 2 + n by omega]
  rfl
set_option maxHeartbeats 4000000 in
theorem rrecover_any (m sig rest : ByteArray) (k : Int) (beside : ByteArray) (w : World) (hr : rest.size ≤ 1048576) (hb : beside.size ≤ 1048576) :
    Calls Tryz.prog 21 #[.string m, .int .i64 k, .agg #[.string sig, .string rest], .string beside] w fun e w' => e = .returned (.tuple #[.string (rcT m sig rest k beside), .int .i64 (rcE m sig rest k beside)]) ∧ Below w.heap.size w w' := by
  obtain ⟨W1, hW1⟩ : ∃ W1, W1 = w.alloc (.cells #[.string sig, .string rest] 26) := ⟨_, rfl⟩
  have hB1 : Below w.heap.size w W1 := by rw [hW1]; exact (Below.refl _ _).alloc (Nat.le_refl _) _
  have hX1 : W1.heap[w.heap.size]? = some (.cells #[.string sig, .string rest] 26 (0, 0)) := by rw [hW1]; exact heap_alloc_new _ _
  have HW1 := hide hW1; have HB1 := hide hB1
  by_cases hk : 1 ≤ k ∧ k ≤ 4
  case neg =>
    obtain ⟨e1, e2⟩ := rc_kind (m := m) (sig := sig) (rest := rest) (beside := beside) hk
    rw [e1, e2]
    have hkc : Hid (k < 1 ∨ (1 ≤ k ∧ 4 < k)) := hide (by omega)
    clear hk e1 e2 hW1 hB1 hX1
    rcases unhide hkc with hc | ⟨hc, hc2⟩
    all_goals
      clear hkc
      go_enter Tryz.func21, Tryz.ntmps21
      go_upto_region 1 with fail
      rw [← unhide HW1]
      go_wp2
      go_ret2
      exact ⟨rfl, unhide HB1⟩
  have hk1 := hk.1
  have hk2 := hk.2
  have c0 : W1.cell? ⟨w.heap.size, 0, none⟩ = some (.string sig) := cell_of_row _ _ 0 _ _ _ hX1
  have c1 : W1.cell? ⟨w.heap.size, 1, none⟩ = some (.string rest) := cell_of_row _ _ 1 _ _ _ hX1
  have HX1 := hide hX1
  have N1 := hide (fun W => newInt_any 3 W (by decide))
  have N2 := hide (fun (W : World) (pd : Nat) (h : IntAt W pd 3) => rpower_any m sig pd 3 W h (small_lt 3 (by decide) 200 (by decide)))
  obtain ⟨RE, hRE⟩ : ∃ x, x = rcE m sig rest k beside := ⟨_, rfl⟩
  obtain ⟨RT, hRT⟩ : ∃ x, x = rcT m sig rest k beside := ⟨_, rfl⟩
  rw [← hRE, ← hRT]
  have HP : Hid (powE m sig ≠ 0 → RE = powE m sig ∧ RT = ⟨#[]⟩) := hide (fun h => by rw [hRE, hRT]; exact rc_pow hk h)
  have HNo : Hid (powE m sig = 0 → rcB (powT m sig 3) rest k beside = false → RE = 9 ∧ RT = ⟨#[]⟩) := hide (fun h hb => by rw [hRE, hRT]; exact rc_false hk h hb)
  have HYes : Hid (powE m sig = 0 → rcB (powT m sig 3) rest k beside = true → RE = 0 ∧ RT = rcBody (powT m sig 3) rest) := hide (fun h hb => by rw [hRE, hRT]; exact rc_true hk h hb)
  have HLen := hide (fun h => powT_len (m := m) (x := sig) (d := 3) h)
  clear hRE hRT hW1 hB1 hX1 hk
  generalize powE m sig = pe at *
  generalize powT m sig 3 = x at *
  go_enter Tryz.func21, Tryz.ntmps21
  go_upto_region 1 with fail
  rw [← unhide HW1]
  go_upto_region 3 with fail
  go_region_held3 (fun W => W.cell? ⟨w.heap.size, 0, none⟩ = some (.string sig) ∧ W.cell? ⟨w.heap.size, 1, none⟩ = some (.string rest))
    (first | (go_split_ands; refine ⟨?_, ?_⟩ <;> ((repeat (first | (with_reducible assumption) | (with_reducible refine drew_cellS2 ?_) | (with_reducible refine keep_cellS2 h2 ?_) | (with_reducible refine keep_cellS2 h1 ?_))); done)) | go_keep)
    ((first
      | (go_at_call 39; refine (unhide N1 _).mono ?_; rintro e z1 ⟨rfl, g1, h1, _⟩)
      | (have hq := g1; go_at_call 38; refine (unhide N2 _ _ ?_).mono ?_; (focus (first | exact g1 | exact g1.drew)); rintro e z2 ⟨rfl, h2⟩)))
  all_goals
    have hK : Below W1.heap.size W1 z2 := by
      (repeat (first | (with_reducible exact Below.refl _ _) | (with_reducible refine ext_drewS2 ?_) | (with_reducible refine ext_callB ?_ h2) | (with_reducible refine ext_callB ?_ h1)))
    have hX2 := (hK.block _ (World.block_lt_of_cell? W1 _ c0)).trans (unhide HX1)
    have d0 : z2.cell? ⟨w.heap.size, 0, none⟩ = some (.string sig) := cell_of_row _ _ 0 _ _ _ hX2
    have d1 : z2.cell? ⟨w.heap.size, 1, none⟩ = some (.string rest) := cell_of_row _ _ 1 _ _ _ hX2
    have HK := hide hK
    have HX2 := hide hX2
    have hlt2 : w.heap.size < z2.heap.size := World.block_lt_of_cell? z2 _ d0
    have HLT2 := hide hlt2
    clear h1 h2 g1 c0 c1 hK N1 N2 HX1 hX2 hlt2
    by_cases h0 : pe = 0
    case neg =>
      obtain ⟨rfl, rfl⟩ := unhide HP h0
      have t1 : (RE != 0) = true := by simpa using h0
      have HF := hide ((unhide HB1).trans ((unhide HK).mono (unhide HB1).size))
      clear HP HNo HYes HLen h0
      go_wp2
      go_ret2
      exact ⟨rfl, unhide HF⟩
    case pos =>
    subst h0
    obtain ⟨hxm, hm40, hm96⟩ := unhide HLen rfl
    rw [← hxm] at hm40 hm96
    clear hxm HLen HP
    have hz := inT_size x hm40
    have hN := rcN_lt x
    have M1 := hide (fun W => value_any ((inT x).extract 0 2) W (by rw [ByteArray.size_extract]; omega) (by show rcN x ≤ _; omega))
    have M1' := unhide M1
    rw [show valN ((inT x).extract 0 2).data.toList = rcN x from rfl] at M1'
    have M1 := hide M1'
    have HWa : Hid (wrap64 ((x.size : Int) - 20) = (x.size : Int) - 20) := hide (by unfold wrap64; omega)
    have sl1 : ∀ wx, (Instr.slice 9 (.string x) (some (.int .i64 2)) (some (.int .i64 ((x.size : Int) - 20))) none).run Tryz.prog wx = .ok (.string (inT x)) wx := fun wx => by
      rw [run_slice_string (P := Tryz.prog) wx 9 x .i64 .i64 (2 : Int) ((x.size : Int) - 20) Tryz.underlying9 (by omega) (by omega) (by omega)]
      rw [show ((x.size : Int) - 20).toNat = x.size - 20 by omega]
      rfl
    have ha := fun w' => run_string_add_sum (P := Tryz.prog) w' (inT x) rest (by omega)
    have hz2 : (2 : Int) ≤ ((inT x).size : Int) := by omega
    have hsum : (inT x ++ rest).size = (inT x).size + rest.size := ByteArray.size_append
    have hshort := fun h => rc_short (x := x) (rest := rest) (k := k) (beside := beside) h
    have hsame := fun h => rc_same (x := x) (rest := rest) (k := k) (beside := beside) h
    have hbsz := fun h => rcBody_size (x := x) (rest := rest) h
    have hbody : rcBody x rest = (inT x ++ rest).extract 2 (2 + rcN x) := rfl
    have HBODY := hide hbody
    have L1 := hide (fun W (h1 : rcN x ≤ 1000) (h2 : rcN x + 2 ≤ (inT x ++ rest).size) => rlaid_any x.size k (rcBody x rest) beside W (by omega) (by omega) (by rw [rcBody_size h2]; exact h1) (by omega))
    have hall : (inT x ++ rest).size ≤ 1048700 := by omega
    clear M1' hbody hm40 hm96 hz
    generalize inT x = i at *
    generalize rcN x = n at *
    generalize rcBody x rest = body at *
    generalize hal : i ++ rest = al at *
    have HWb : Hid (wrap64 ((n : Int) + 2) = (n : Int) + 2) := hide (by unfold wrap64; omega)
    by_cases hc : n ≤ 1000 ∧ n + 2 ≤ al.size
    case neg =>
      obtain ⟨rfl, rfl⟩ := unhide HNo (by first | rfl | trivial) (hshort hc)
      have hcs : Hid ((1000 : Int) < (n : Int) ∨ ((n : Int) ≤ 1000 ∧ (al.size : Int) < (n : Int) + 2)) := hide (hc_or n al.size hc)
      have HF := hide ((unhide HB1).trans ((unhide HK).mono (unhide HB1).size))
      clear HNo HYes hshort hsame hbsz hc L1 HBODY hsum hall hal hN hr hb
      rcases unhide hcs with hc | ⟨hc, hc2⟩
      all_goals
        clear hcs
        have hw1 := unhide HWa
        have hw2 := unhide HWb
        go_wp2_with fail
        refine (unhide M1 _).mono ?_
        rintro e y ⟨rfl, hy⟩
        have hy' := hy.symm
        subst hy'
        clear hy
        go_wp2
        go_ret2
        exact ⟨rfl, unhide HF⟩
    case pos =>
      have hrb := hsame hc
      have L2 := hide (fun W => unhide L1 W hc.1 hc.2)
      obtain ⟨hn1, hn2⟩ := hc_yes n al.size hc
      have sl2 := fun wx => slice_S al n hc.2 wx
      rw [← unhide HBODY] at sl2
      clear hshort hsame hbsz L1 hc HBODY hsum hall hal hN hr hb
      generalize laidW x.size k (bodyT body) beside = lw at *
      generalize laidR x.size (bodyT body) = lr at *
      have HRB := hide hrb
      have SL2 := hide sl2
      clear hrb sl2
      have hw1 := unhide HWa
      have hw2 := unhide HWb
      go_wp2_with fail
      refine (unhide M1 _).mono ?_
      rintro e y ⟨rfl, hy⟩
      have hy' := hy.symm
      subst hy'
      clear hy
      have t8 : decide ((1000 : Int) < (n : Int)) = false := decide_eq_false (by omega)
      have t9 : decide ((al.size : Int) < (n : Int) + 2) = false := decide_eq_false (by omega)
      clear hn1 hn2 sl1 hz2
      go_upto_region 11 with fail
      have sl2 := unhide SL2
      go_wp2_with fail
      refine (unhide L2 _).mono ?_
      rintro e y3 ⟨rfl, k3⟩
      have hX3 := (k3.block _ (unhide HLT2)).trans (unhide HX2)
      clear d0 d1
      have d1 : y3.cell? ⟨w.heap.size, 1, none⟩ = some (.string rest) := cell_of_row _ _ 1 _ _ _ hX3
      have HF := hide ((unhide HB1).trans ((ext_callB (unhide HK) k3).mono (unhide HB1).size))
      clear k3 hX3 HK HX2
      by_cases hw : lw = x
      case neg =>
        have t1 : (lw.toList != x.toList) = true := by rw [ne_bytes, decide_eq_false hw]; rfl
        obtain ⟨rfl, rfl⟩ := unhide HNo (by first | rfl | trivial) (by rw [unhide HRB, decide_eq_false hw]; rfl)
        clear HNo HYes HRB hw
        go_wp2
        all_goals first | (exfalso; simp_all; done) | (go_ret2; exact ⟨rfl, unhide HF⟩)
      case pos =>
        have t1 : (lw.toList != x.toList) = false := by rw [ne_bytes, decide_eq_true hw]; rfl
        by_cases hlr : lr = rest
        case neg =>
          have t2 : (lr.toList != rest.toList) = true := by rw [ne_bytes, decide_eq_false hlr]; rfl
          obtain ⟨rfl, rfl⟩ := unhide HNo (by first | rfl | trivial) (by rw [unhide HRB, decide_eq_false hlr, Bool.and_false])
          clear HNo HYes HRB hw hlr
          go_wp2
          all_goals first | (exfalso; simp_all; done) | (go_ret2; exact ⟨rfl, unhide HF⟩)
        case pos =>
          have t2 : (lr.toList != rest.toList) = false := by rw [ne_bytes, decide_eq_true hlr]; rfl
          obtain ⟨rfl, rfl⟩ := unhide HYes (by first | rfl | trivial) (by rw [unhide HRB, decide_eq_true hlr, decide_eq_true hw]; rfl)
          clear HNo HYes HRB hw hlr
          go_wp2
          all_goals first | (exfalso; simp_all; done) | (go_ret2; exact ⟨rfl, unhide HF⟩)
end Go.Proofs.YtckkhpegimkefaaGreatDoor
namespace Go.Proofs.YtckkhpegimkefaaGreatDoor
open Go.RowKit
set_option linter.unusedVariables false
set_option linter.unusedSimpArgs false
set_option maxRecDepth 100000

theorem mayP_long {id o : ByteArray} (h : id.size < o.size) : mayP id o = false := by
  unfold mayP
  rw [← Lib.hasPrefix_of_take, show id.data.toList.length = id.size by simp, show o.data.toList.length = o.size by simp, decide_eq_false (by omega)]
  rfl
theorem mayP_eq {id o : ByteArray} (h : o.size ≤ id.size) : mayP id o = decide (id.extract 0 o.size = o) := by
  unfold mayP
  rw [← Lib.hasPrefix_of_take, show id.data.toList.length = id.size by simp, show o.data.toList.length = o.size by simp, decide_eq_true h, Bool.true_and]
  have he : (id.extract 0 o.size).toList = id.data.toList.take o.size := by rw [Lib.extract_toList]; simp
  rw [← he, ← Lib.toList_data o, eq_bytes]
/-- what holds at the head of the loop -/
def ChI (m s1 r1 id : ByteArray) (month : Int) (CE : Int) (CM : ByteArray) (x : ByteArray) (i : Int) : Prop :=
  (i = 1 ∧ x = m) ∨ (i = 2 ∧ lkE m s1 r1 1 ⟨#[]⟩ (mayP id) month = 0 ∧ x = lkM m s1 r1 1 ⟨#[]⟩ (mayP id) month) ∨ (i = 3 ∧ CE = 0 ∧ x = CM)
/-- what the rest of a round comes to -/
structure Rnd (re ke kt : Int) (ko km : ByteArray) (mb : Bool) (month CE : Int) (CM : ByteArray) (nx : ByteArray → Prop) : Prop where
  f1 : re ≠ 0 → CE = re ∧ CM = ⟨#[]⟩
  f2 : re = 0 → ke ≠ 0 → CE = ke ∧ CM = ⟨#[]⟩
  f3 : re = 0 → ke = 0 → mb = false → CE = 10 ∧ CM = ⟨#[]⟩
  f4 : re = 0 → ke = 0 → mb = true → kt < month → CE = 11 ∧ CM = ⟨#[]⟩
  f5 : re = 0 → ke = 0 → mb = true → ¬ kt < month → nx km
theorem rnd_one {m s1 r1 s2 r2 id data : ByteArray} {month CE : Int} {CM : ByteArray} (hE : CE = chE m s1 r1 s2 r2 id data month) (hM : CM = chM m s1 r1 s2 r2 id data month) :
    Rnd (rcE m s1 r1 1 ⟨#[]⟩) (rkE (rcT m s1 r1 1 ⟨#[]⟩)) (rkT (rcT m s1 r1 1 ⟨#[]⟩)) (rkO (rcT m s1 r1 1 ⟨#[]⟩)) (rkM (rcT m s1 r1 1 ⟨#[]⟩)) (mayP id (rkO (rcT m s1 r1 1 ⟨#[]⟩))) month CE CM (fun x => ChI m s1 r1 id month CE CM x 2) where
  f1 h := by
    have hl := (lk_rc (may := mayP id) (month := month) h).1
    obtain ⟨h1, h2⟩ := ch_one (s2 := s2) (r2 := r2) (data := data) (by rw [hl]; exact h)
    rw [hE, hM, h1, h2, hl]; exact ⟨rfl, rfl⟩
  f2 h0 h := by
    have hl := (lk_rk (may := mayP id) (month := month) h0 h).1
    obtain ⟨h1, h2⟩ := ch_one (s2 := s2) (r2 := r2) (data := data) (by rw [hl]; exact h)
    rw [hE, hM, h1, h2, hl]; exact ⟨rfl, rfl⟩
  f3 h0 h h3 := by
    have hl := (lk_may (may := mayP id) (month := month) h0 h h3).1
    obtain ⟨h1, h2⟩ := ch_one (s2 := s2) (r2 := r2) (data := data) (by rw [hl]; decide)
    rw [hE, hM, h1, h2, hl]; exact ⟨rfl, rfl⟩
  f4 h0 h h3 h4 := by
    have hl := (lk_date (may := mayP id) (month := month) h0 h h3 h4).1
    obtain ⟨h1, h2⟩ := ch_one (s2 := s2) (r2 := r2) (data := data) (by rw [hl]; decide)
    rw [hE, hM, h1, h2, hl]; exact ⟨rfl, rfl⟩
  f5 h0 h h3 h4 := by
    obtain ⟨l1, l2⟩ := lk_ok (may := mayP id) (month := month) h0 h h3 h4
    exact Or.inr (Or.inl ⟨rfl, l1, l2.symm⟩)
theorem rnd_two {m s1 r1 s2 r2 id data : ByteArray} {month CE : Int} {CM x : ByteArray} (hE : CE = chE m s1 r1 s2 r2 id data month) (hM : CM = chM m s1 r1 s2 r2 id data month)
    (h1 : lkE m s1 r1 1 ⟨#[]⟩ (mayP id) month = 0) (hx : x = lkM m s1 r1 1 ⟨#[]⟩ (mayP id) month) :
    Rnd (rcE x s2 r2 2 data) (rkE (rcT x s2 r2 2 data)) (rkT (rcT x s2 r2 2 data)) (rkO (rcT x s2 r2 2 data)) (rkM (rcT x s2 r2 2 data)) (mayS id (rkO (rcT x s2 r2 2 data))) month CE CM (fun z => ChI m s1 r1 id month CE CM z 3) := by
  obtain ⟨e1, e2⟩ := ch_two (s2 := s2) (r2 := r2) (data := data) h1
  rw [e1, ← hx] at hE
  rw [e2, ← hx] at hM
  refine ⟨fun h => ?_, fun h0 h => ?_, fun h0 h h3 => ?_, fun h0 h h3 h4 => ?_, fun h0 h h3 h4 => ?_⟩
  · obtain ⟨l1, l2⟩ := lk_rc (may := mayS id) (month := month) h
    rw [hE, hM, l1, l2]; exact ⟨rfl, rfl⟩
  · obtain ⟨l1, l2⟩ := lk_rk (may := mayS id) (month := month) h0 h
    rw [hE, hM, l1, l2]; exact ⟨rfl, rfl⟩
  · obtain ⟨l1, l2⟩ := lk_may (may := mayS id) (month := month) h0 h h3
    rw [hE, hM, l1, l2]; exact ⟨rfl, rfl⟩
  · obtain ⟨l1, l2⟩ := lk_date (may := mayS id) (month := month) h0 h h3 h4
    rw [hE, hM, l1, l2]; exact ⟨rfl, rfl⟩
  · obtain ⟨l1, l2⟩ := lk_ok (may := mayS id) (month := month) h0 h h3 h4
    exact Or.inr (Or.inr ⟨rfl, hE.trans l1, (hM.trans l2).symm⟩)
set_option maxHeartbeats 8000000 in
theorem rchain_any (m s1 r1 s2 r2 id data : ByteArray) (month : Int) (w : World) (hr1 : r1.size ≤ 1048576) (hr2 : r2.size ≤ 1048576) (hd : data.size ≤ 1048576) :
    Calls Tryz.prog 7 #[.string m, .agg #[.string s1, .string r1], .agg #[.string s2, .string r2], .string id, .string data, .int .i64 month] w fun e w' => e = .returned (.tuple #[.string (chM m s1 r1 s2 r2 id data month), .int .i64 (chE m s1 r1 s2 r2 id data month)]) ∧ Below w.heap.size w w' := by
  obtain ⟨Wa, hWa⟩ : ∃ W1, W1 = w.alloc (.cells #[.string s1, .string r1] 26) := ⟨_, rfl⟩
  obtain ⟨Wb, hWb⟩ : ∃ W1, W1 = Wa.alloc (.cells #[.string s2, .string r2] 26) := ⟨_, rfl⟩
  have ba : Below w.heap.size w Wa := by rw [hWa]; exact (Below.refl _ _).alloc (Nat.le_refl _) _
  have bb : Below Wa.heap.size Wa Wb := by rw [hWb]; exact (Below.refl _ _).alloc (Nat.le_refl _) _
  have la : Wa.heap.size = w.heap.size + 1 := by rw [hWa]; simp
  have xa : At Wa w.heap.size #[.string s1, .string r1] 26 := by rw [hWa]; exact At.new _ _ _
  have xb : At Wb (w.heap.size + 1) #[.string s2, .string r2] 26 := by have h := At.new Wa #[.string s2, .string r2] 26; rw [← hWb, la] at h; exact h
  have xa' := xa.below bb
  have hB : Below w.heap.size w Wb := ba.trans (bb.mono ba.size)
  have HC : Hid (∀ W, Below Wb.heap.size Wb W → W.cell? ⟨w.heap.size, 0, none⟩ = some (.string s1) ∧ W.cell? ⟨w.heap.size, 1, none⟩ = some (.string r1) ∧ W.cell? ⟨w.heap.size + 1, 0, none⟩ = some (.string s2) ∧ W.cell? ⟨w.heap.size + 1, 1, none⟩ = some (.string r2)) := hide (fun W h =>
    ⟨(xa'.below h).cell rfl, (xa'.below h).cell rfl, (xb.below h).cell rfl, (xb.below h).cell rfl⟩)
  have HB := hide hB
  have HWb : Hid (Wb = (w.alloc (.cells #[.string s1, .string r1] 26)).alloc (.cells #[.string s2, .string r2] 26)) := hide (by rw [hWb, hWa])
  have R1 := hide (fun W => rrecover_any m s1 r1 1 ⟨#[]⟩ W hr1 (by decide))
  have R2 := hide (fun mm W => rrecover_any mm s2 r2 2 data W hr2 hd)
  obtain ⟨CE, hCE⟩ : ∃ x, x = chE m s1 r1 s2 r2 id data month := ⟨_, rfl⟩
  obtain ⟨CM, hCM⟩ : ∃ x, x = chM m s1 r1 s2 r2 id data month := ⟨_, rfl⟩
  rw [← hCE, ← hCM]
  have F1 := hide (rnd_one hCE hCM)
  have F2 := hide (fun (x : ByteArray) h1 hx => rnd_two (x := x) hCE hCM h1 hx)
  have G1 := hide (fun W => rreadKey_any (rcT m s1 r1 1 ⟨#[]⟩) W (Nat.le_trans rcT_size (by decide)))
  have G2 := hide (fun x W => rreadKey_any (rcT x s2 r2 2 data) W (Nat.le_trans rcT_size (by decide)))
  clear hCE hCM
  clear hWa hWb ba bb la xa xb xa' hB hr1 hr2 hd
  go_enter Tryz.func7, Tryz.ntmps7
  go_upto_region 1 with fail
  rw [← unhide HWb]
  go_wp2
  go_loopw [14, 15] (fun mv iv wr => ∃ (x : ByteArray) (i : Int), mv = .string x ∧ iv = .int .i64 i ∧ Below Wb.heap.size Wb wr ∧ Hid (ChI m s1 r1 id month CE CM x i)) (fun _ iv _ => 3 - (intOf iv).toNat)
  case atStart => exact ⟨m, 1, rfl, rfl, Below.refl _ _, hide (Or.inl ⟨rfl, rfl⟩)⟩
  case round =>
    obtain ⟨x, i, rfl, rfl, hbw, HI⟩ := hrel
    have HBW := hide hbw
    obtain ⟨c0, c1, c2, c3⟩ := unhide HC wr hbw
    clear hbw
    rcases unhide HI with ⟨rfl, rfl⟩ | ⟨rfl, h1, hx⟩ | ⟨rfl, h1, rfl⟩
    · clear HI c2 c3
      have F1 := F1; have G1 := G1
      clear F2 G2 R2
      generalize rcE x s1 r1 1 ⟨#[]⟩ = re at *
      generalize rcT x s1 r1 1 ⟨#[]⟩ = rt at *
      generalize rkE rt = ke at *
      generalize hko : rkO rt = ko at *
      generalize rkT rt = kt at *
      generalize rkM rt = km at *
      clear hko
      obtain ⟨W2, hW2⟩ : ∃ W2, W2 = wr.alloc (.cells #[.string s1, .string r1] 26) := ⟨_, rfl⟩
      have hb2 : Below Wb.heap.size Wb W2 := by rw [hW2]; exact (unhide HBW).alloc (unhide HBW).size _
      have hx2 : At W2 wr.heap.size #[.string s1, .string r1] 26 := by rw [hW2]; exact At.new _ _ _
      have e0 := hx2.cell (j := 0) rfl
      have e1 := hx2.cell (j := 1) rfl
      have HW2 := hide hb2
      have HE2 := hide hW2
      clear hb2 hx2 hW2
      go_upto_region 8 with fail
      rw [← unhide HE2]
      clear c0 c1
      go_wp2_with fail
      refine (unhide R1 _).mono ?_
      rintro e y1 ⟨rfl, k1⟩
      have HK1 := hide (ext_callB (unhide HW2) k1)
      clear k1 e0 e1 HW2 HE2
      by_cases h0 : re = 0
      case neg =>
        obtain ⟨rfl, rfl⟩ := (unhide F1).f1 h0
        have HF := hide ((unhide HB).trans ((unhide HK1).mono (unhide HB).size))
        have t1 : (CE != 0) = true := by simpa using h0
        clear F1 G1 R1 h0 HK1
        go_wp2
        go_ret2
        exact ⟨rfl, unhide HF⟩
      case pos =>
      subst h0
      go_wp2_with fail
      refine (unhide G1 _).mono ?_
      rintro e y2 ⟨rfl, k2⟩
      have hk2 := ext_callB (unhide HK1) k2
      obtain ⟨y3, hy3⟩ : ∃ y', y' = y2.alloc (.cells #[.string ko, .int .i64 kt, .string km] 48) := ⟨_, rfl⟩
      have hz3 : y3.heap[y2.heap.size]? = some (.cells #[.string ko, .int .i64 kt, .string km] 48 (0, 0)) := by rw [hy3]; exact heap_alloc_new _ _
      have hk3 : Below Wb.heap.size Wb y3 := by rw [hy3]; exact hk2.alloc hk2.size _
      have d0 := cell_of_row _ _ 0 _ _ _ hz3
      have d1 := cell_of_row _ _ 1 _ _ _ hz3
      have d2 := cell_of_row _ _ 2 _ _ _ hz3
      simp only [List.getElem?_toArray, List.getElem?_cons_zero, List.getElem?_cons_succ] at d0 d1 d2
      have HK3 := hide hk3; have HY3 := hide hy3
      have HF := hide ((unhide HB).trans (hk3.mono (unhide HB).size))
      clear k2 hk2 hz3 hk3 hy3 HK1 R1 G1
      by_cases h1 : ke = 0
      case neg =>
        obtain ⟨rfl, rfl⟩ := (unhide F1).f2 (by first | rfl | trivial) h1
        have t1 : (CE != 0) = true := by simpa using h1
        clear F1 h1 d0 d1 d2
        go_wp2
        go_ret2
        exact ⟨rfl, by rw [← unhide HY3]; exact unhide HF⟩
      case pos =>
      subst h1
      go_upto_region 14 with fail
      rw [← unhide HY3]
      by_cases hl : ko.size ≤ id.size
      case neg =>
        have hm := mayP_long (id := id) (o := ko) (by omega)
        rw [hm] at F1
        have t1 : decide ((id.size : Int) < (ko.size : Int)) = true := decide_eq_true (by omega)
        have t1' : decide (id.size < ko.size) = true := decide_eq_true (by omega)
        have t3 : (id.size : Int) < (ko.size : Int) := by omega
        clear hm hl
        obtain ⟨rfl, rfl⟩ := (unhide F1).f3 (by first | rfl | trivial) (by first | rfl | trivial) (by first | rfl | trivial)
        clear F1
        go_quiet (fail)
        all_goals
          go_wp2
          go_ret2
          exact ⟨rfl, below_drewN (unhide HF) _⟩
      case pos =>
        have t1 : decide ((id.size : Int) < (ko.size : Int)) = false := decide_eq_false (by omega)
        have t1' : decide (id.size < ko.size) = false := decide_eq_false (by omega)
        have sl := fun wx => slice_toQ id ko.size hl wx
        have hm := mayP_eq (id := id) (o := ko) hl
        clear hl
        generalize id.extract 0 ko.size = z at *
        by_cases hz : z = ko
        · rw [hm, decide_eq_true hz] at F1
          have t2 : (z.toList == ko.toList) = true := by rw [eq_bytes, decide_eq_true hz]
          clear hm hz
          by_cases h2 : kt < month
          · obtain ⟨rfl, rfl⟩ := (unhide F1).f4 (by first | rfl | trivial) (by first | rfl | trivial) (by first | rfl | trivial) h2
            clear F1
            go_quiet (fail)
            all_goals
              go_wp2
              go_ret2
              exact ⟨rfl, below_drewN (unhide HF) _⟩
          · have HN := hide ((unhide F1).f5 (by first | rfl | trivial) (by first | rfl | trivial) (by first | rfl | trivial) h2)
            clear F1
            go_quiet (fail)
            all_goals
              go_wp2
              go_roundw
              case rel => exact ⟨km, 2, rfl, rfl, below_drewN (unhide HK3) _, HN⟩
              case measure => simp [intOf]
        · rw [hm, decide_eq_false hz] at F1
          have t2 : (z.toList == ko.toList) = false := by rw [eq_bytes, decide_eq_false hz]
          clear hm hz
          obtain ⟨rfl, rfl⟩ := (unhide F1).f3 (by first | rfl | trivial) (by first | rfl | trivial) (by first | rfl | trivial)
          clear F1
          go_quiet (fail)
          all_goals
            go_wp2
            go_ret2
            exact ⟨rfl, below_drewN (unhide HF) _⟩
    · clear F1 G1 R1
      have F2 := hide (unhide F2 x h1 hx)
      have G2 := hide (unhide G2 x)
      have R2 := hide (unhide R2 x)
      clear h1 HI hx
      generalize rcE x s2 r2 2 data = re at *
      generalize rcT x s2 r2 2 data = rt at *
      generalize rkE rt = ke at *
      generalize rkO rt = ko at *
      generalize rkT rt = kt at *
      generalize rkM rt = km at *
      obtain ⟨W2, hW2⟩ : ∃ W2, W2 = wr.alloc (.cells #[.string s1, .string r1] 26) := ⟨_, rfl⟩
      have hb2 : Below Wb.heap.size Wb W2 := by rw [hW2]; exact (unhide HBW).alloc (unhide HBW).size _
      have hx2 : At W2 wr.heap.size #[.string s1, .string r1] 26 := by rw [hW2]; exact At.new _ _ _
      have e0 := hx2.cell (j := 0) rfl
      have e1 := hx2.cell (j := 1) rfl
      have f0 := hx2.soft (j := 0)
      have f1 := hx2.soft (j := 1)
      obtain ⟨W3, hW3⟩ : ∃ W3, W3 = (W2.setCell ⟨wr.heap.size, 0, none⟩ (.string s2)).setCell ⟨wr.heap.size, 1, none⟩ (.string r2) := ⟨_, rfl⟩
      have hb3 : Below Wb.heap.size Wb W3 := by rw [hW3]; exact (hb2.setCell (p := ⟨wr.heap.size, 0, none⟩) (unhide HBW).size _).setCell (p := ⟨wr.heap.size, 1, none⟩) (unhide HBW).size _
      have hx3 : At W3 wr.heap.size #[.string s2, .string r2] 26 := by rw [hW3]; exact (hx2.set (j := 0) (v := .string s2)).set (j := 1) (v := .string r2)
      have HE2 := hide hW2; have HE3 := hide hW3; have HW2 := hide hb3; have HX3 := hide hx3
      obtain ⟨_, _, c2, c3⟩ := unhide HC W2 hb2
      clear hb2 hx2 hW2 hW3 hb3 hx3
      go_upto_region 6 with fail
      rw [← unhide HE2]
      clear c0 c1
      go_upto_region 8 with fail
      rw [← unhide HE3]
      clear e0 e1 f0 f1 c2 c3
      have e0 := (unhide HX3).cell (j := 0) rfl
      have e1 := (unhide HX3).cell (j := 1) rfl
      go_wp2_with fail
      refine (unhide R2 _).mono ?_
      rintro e y1 ⟨rfl, k1⟩
      have HK1 := hide (ext_callB (unhide HW2) k1)
      clear k1 e0 e1 HW2 HE2 HE3 HX3
      by_cases h0 : re = 0
      case neg =>
        obtain ⟨rfl, rfl⟩ := (unhide F2).f1 h0
        have HF := hide ((unhide HB).trans ((unhide HK1).mono (unhide HB).size))
        have t1 : (CE != 0) = true := by simpa using h0
        clear F2 G2 R2 h0 HK1
        go_wp2
        go_ret2
        exact ⟨rfl, unhide HF⟩
      case pos =>
      subst h0
      go_wp2_with fail
      refine (unhide G2 _).mono ?_
      rintro e y2 ⟨rfl, k2⟩
      have hk2 := ext_callB (unhide HK1) k2
      obtain ⟨y3, hy3⟩ : ∃ y', y' = y2.alloc (.cells #[.string ko, .int .i64 kt, .string km] 48) := ⟨_, rfl⟩
      have hz3 : y3.heap[y2.heap.size]? = some (.cells #[.string ko, .int .i64 kt, .string km] 48 (0, 0)) := by rw [hy3]; exact heap_alloc_new _ _
      have hk3 : Below Wb.heap.size Wb y3 := by rw [hy3]; exact hk2.alloc hk2.size _
      have d0 := cell_of_row _ _ 0 _ _ _ hz3
      have d1 := cell_of_row _ _ 1 _ _ _ hz3
      have d2 := cell_of_row _ _ 2 _ _ _ hz3
      simp only [List.getElem?_toArray, List.getElem?_cons_zero, List.getElem?_cons_succ] at d0 d1 d2
      have HK3 := hide hk3; have HY3 := hide hy3
      have HF := hide ((unhide HB).trans (hk3.mono (unhide HB).size))
      clear k2 hk2 hz3 hk3 hy3 HK1 R2 G2
      by_cases h1 : ke = 0
      case neg =>
        obtain ⟨rfl, rfl⟩ := (unhide F2).f2 (by first | rfl | trivial) h1
        have t1 : (CE != 0) = true := by simpa using h1
        clear F2 h1 d0 d1 d2
        go_wp2
        go_ret2
        exact ⟨rfl, by rw [← unhide HY3]; exact unhide HF⟩
      case pos =>
      subst h1
      go_upto_region 14 with fail
      rw [← unhide HY3]
      by_cases hz : ko = id
      · rw [show mayS id ko = true from decide_eq_true hz] at F2
        have t2 : (ko.toList == id.toList) = true := by rw [eq_bytes, decide_eq_true hz]
        clear hz
        by_cases h2 : kt < month
        · obtain ⟨rfl, rfl⟩ := (unhide F2).f4 (by first | rfl | trivial) (by first | rfl | trivial) (by first | rfl | trivial) h2
          clear F2
          go_quiet (fail)
          all_goals
            go_wp2
            go_ret2
            exact ⟨rfl, below_drewN (unhide HF) _⟩
        · have HN := hide ((unhide F2).f5 (by first | rfl | trivial) (by first | rfl | trivial) (by first | rfl | trivial) h2)
          clear F2
          go_quiet (fail)
          all_goals
            go_wp2
            go_roundw
            case rel => exact ⟨km, 3, rfl, rfl, below_drewN (unhide HK3) _, HN⟩
            case measure => simp [intOf]
      · rw [show mayS id ko = false from decide_eq_false hz] at F2
        have t2 : (ko.toList == id.toList) = false := by rw [eq_bytes, decide_eq_false hz]
        clear hz
        obtain ⟨rfl, rfl⟩ := (unhide F2).f3 (by first | rfl | trivial) (by first | rfl | trivial) (by first | rfl | trivial)
        clear F2
        go_quiet (fail)
        all_goals
          go_wp2
          go_ret2
          exact ⟨rfl, below_drewN (unhide HF) _⟩
    · have HF := hide ((unhide HB).trans ((unhide HBW).mono (unhide HB).size))
      clear HI R1 R2 F1 F2 G1 G2 c0 c1 c2 c3
      subst h1
      go_wp2
      go_ret2
      exact ⟨rfl, unhide HF⟩
end Go.Proofs.YtckkhpegimkefaaGreatDoor
