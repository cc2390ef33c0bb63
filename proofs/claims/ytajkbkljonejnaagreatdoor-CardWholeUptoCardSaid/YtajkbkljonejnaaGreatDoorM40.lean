/- What orders a card does: the walk of (*Card).Do. (Made by drafts/genCdC5b.py.) -/
import Derived.Test.YtajkbkljonejnaaGreatDoorM22
namespace Go.Proofs.YtajkbkljonejnaaGreatDoor
open Go.RowKit
set_option linter.unusedVariables false
set_option linter.unusedSimpArgs false
set_option maxRecDepth 100000
theorem intOf_intD (k : IntKind) (x : Int) : intOf (.int k x) = x := rfl
theorem meas_stepD {n j : Nat} (h : j < n) : n - (((j + 1 : Nat) : Int)).toNat < n - ((j : Int)).toNat := by omega
theorem openO_size (k : Ks) (s : ByteArray) : (openO k s).size = s.size - 8 - 2 := by
  unfold openO
  rw [hideS_size, ByteArray.size_extract]; omega
theorem do_off {c : Cd} {s : ByteArray} (h : c.M.off = true) : doC c s = (12, c) := by unfold doC; rw [if_pos h]
theorem do_err {c : Cd} {s : ByteArray} {e : Int} {k : Ks} (h : c.M.off = false) (hd : didK c.tries c.K s = (e, k)) (he : e ≠ 0) : doC c s = (e, c) := by
  unfold doC
  rw [if_neg (by rw [h]; decide), hd, if_pos he]
theorem did_form {tr : Int} {k : Ks} {s : ByteArray} (h : s.size < 10 ∨ 4096 < s.size) : didK tr k s = (1, k) := by unfold didK; rw [if_pos h]
theorem did_twice {tr : Int} {k : Ks} {s : ByteArray} (h : ¬ (s.size < 10 ∨ 4096 < s.size)) (h1 : numO s ≤ k.orders) : didK tr k s = (6, k) := by unfold didK; rw [if_neg h, if_pos h1]
theorem did_proof {tr : Int} {k : Ks} {s : ByteArray} (h : ¬ (s.size < 10 ∨ 4096 < s.size)) (h1 : ¬ numO s ≤ k.orders) (h2 : rightO k s = false) : didK tr k s = (9, k) := by unfold didK; rw [if_neg h, if_neg h1, if_pos h2]
theorem did_read {tr : Int} {k : Ks} {s : ByteArray} (h : ¬ (s.size < 10 ∨ 4096 < s.size)) (h1 : ¬ numO s ≤ k.orders) (h2 : rightO k s = true) (h3 : readO ((openO k s).size + 1) (openO k s) = none) : didK tr k s = (1, k) := by
  have h4 : readO (s.size + 1) (openO k s) = none := by rw [← h3]; exact readO_more _ _ _ (by rw [openO_size]; omega) (by omega)
  unfold didK; rw [if_neg h, if_neg h1, if_neg (by rw [h2]; decide), h4]
theorem did_wrong {tr : Int} {k : Ks} {s : ByteArray} {l : List XOrder} (h : ¬ (s.size < 10 ∨ 4096 < s.size)) (h1 : ¬ numO s ≤ k.orders) (h2 : rightO k s = true) (h3 : readO ((openO k s).size + 1) (openO k s) = some l) (h5 : ordersE k.key (numO s) l ≠ 0) : didK tr k s = (1, k) := by
  have h4 : readO (s.size + 1) (openO k s) = some l := by rw [← h3]; exact readO_more _ _ _ (by rw [openO_size]; omega) (by omega)
  unfold didK; rw [if_neg h, if_neg h1, if_neg (by rw [h2]; decide), h4]; exact if_pos h5
theorem did_done {tr : Int} {k : Ks} {s : ByteArray} {l : List XOrder} (h : ¬ (s.size < 10 ∨ 4096 < s.size)) (h1 : ¬ numO s ≤ k.orders) (h2 : rightO k s = true) (h3 : readO ((openO k s).size + 1) (openO k s) = some l) (h5 : ordersE k.key (numO s) l = 0) : didK tr k s = (0, l.foldl (orderedK tr) { k with orders := numO s }) := by
  have h4 : readO (s.size + 1) (openO k s) = some l := by rw [← h3]; exact readO_more _ _ _ (by rw [openO_size]; omega) (by omega)
  unfold didK; rw [if_neg h, if_neg h1, if_neg (by rw [h2]; decide), h4]; exact if_neg (fun q => q h5)
theorem do_done {c : Cd} {s : ByteArray} {N : Ks} (h : c.M.off = false) (hd : didK c.tries c.K s = (0, N)) : doC c s = (keepE c N, keepC c N) := by
  unfold doC
  rw [if_neg (by rw [h]; decide), hd, if_neg (fun q => q rfl)]
section
variable {w w' : World} {B cb bb mb : Nat} {v : Value} {c : Cd} {K0 : Ks}
set_option maxHeartbeats 16000000 in
theorem do_any (h : CdAt w B cb bb mb v c) (hk : CdOk K0 c) (s : ByteArray) (hsm : s.size ≤ maxLen) :
    Calls Tryz.prog 10 #[.pointer (some ⟨cb, 0, none⟩), .string s] w fun e w' => e = .returned (.int .i64 (doC c s).1) ∧ CdAt w' B cb bb mb v (doC c s).2 ∧ Chg (cdF cb bb mb v) w w' := by
  have hC : ∀ W, Below w.heap.size w W → CdAt W B cb bb mb v c ∧ Chg (cdF cb bb mb v) w W := fun W hb => ⟨h.below hb, Chg.of_below _ hb⟩
  have N0 := hide (off_any h); obtain ⟨D, hD⟩ : ∃ D, D = doC c s := ⟨_, rfl⟩; rw [← hD]
  cases ho : c.M.off with
  | true =>
    rw [ho] at N0; rw [do_off ho] at hD; subst hD; have HC := hide (hC w (Below.refl _ _)); clear hC h hk ho
    go_enter Tryz.func10, Tryz.ntmps10
    go_wp2_with fail
    refine (unhide N0).mono ?_; rintro r y1 ⟨rfl, hy⟩; have hy' := hy.symm; subst hy'
    go_wp2
    go_ret
    exact ⟨rfl, unhide HC⟩
  | false =>
  rw [ho] at N0
  have hsm2 : (s.size : Int) ≤ 9223372036854775807 := by unfold maxLen at hsm; omega
  by_cases hsz : s.size < 10 ∨ 4096 < s.size
  · rw [do_err ho (did_form hsz) (by decide)] at hD; subst hD; have HC := hide (hC w (Below.refl _ _))
    rcases Nat.lt_or_ge s.size 10 with hlt | hge
    · have i1 : (s.size : Int) < 10 := by omega
      clear hC h hk ho hsz hlt hsm
      go_enter Tryz.func10, Tryz.ntmps10
      go_wp2_with fail
      refine (unhide N0).mono ?_; rintro r y1 ⟨rfl, hy⟩; have hy' := hy.symm; subst hy'
      go_wp2
      go_ret
      exact ⟨rfl, unhide HC⟩
    · have i1 : ¬ (s.size : Int) < 10 := by omega
      have i2 : (4096 : Int) < (s.size : Int) := by omega
      clear hC h hk ho hsz hge hsm
      go_enter Tryz.func10, Tryz.ntmps10
      go_wp2_with fail
      refine (unhide N0).mono ?_; rintro r y1 ⟨rfl, hy⟩; have hy' := hy.symm; subst hy'
      go_wp2
      go_ret
      exact ⟨rfl, unhide HC⟩
  have i1 : ¬ (s.size : Int) < 10 := by omega
  have i2 : ¬ (4096 : Int) < (s.size : Int) := by omega
  have i3 : (2 : Int) ≤ (s.size : Int) := by omega
  have i4 : 2 ≤ s.size := by omega
  have hen : s.size = (s.size - 8) + 8 := by omega
  have j1 : (2 : Int) ≤ (s.size : Int) - 8 := by omega
  have j2 : 2 ≤ s.size - 8 := by omega
  have j4 : s.size - 8 ≤ s.size := by omega
  have j6 : ((s.size : Int) - 8).toNat = s.size - 8 := by omega
  have j7 : (0 : Int) ≤ (s.size : Int) - 8 := by omega
  have j9 : ¬ (s.size : Int) < 8 := by omega
  have j8 : (s.size : Int) - 8 ≤ (s.size : Int) := by omega
  have N1 := hide (fun W => read_all (s.extract 0 2) W (by rw [ByteArray.size_extract]; unfold maxLen; omega))
  have c5 : ∀ W, Below w.heap.size w W → W.cell? ⟨cb, 5, none⟩ = some (.int .i64 c.K.orders) ∧ W.cell? ⟨cb, 12, none⟩ = some (.string c.K.key) ∧ W.cell? ⟨cb, 15, none⟩ = some (.int .i64 c.tries) := fun W hb => by
    obtain ⟨_, q2, q3, q4⟩ := (h.below hb).at; exact ⟨q4, q3, q2⟩
  have hk16 := hk.k.key; obtain ⟨ok, hok⟩ : ∃ ok, ok = okeyS c.K.key (numO s) := ⟨_, rfl⟩
  have hok16 : ok.size = 16 := by rw [hok]; exact okeyS_size _ _
  obtain ⟨op, hop⟩ : ∃ op, op = openO c.K s := ⟨_, rfl⟩
  have hop2 : op = hideS ok zeros8 (s.extract 2 (s.size - 8)) := by rw [hop, hok]; rfl
  have hops : op.size ≤ 4096 := by rw [hop2, hideS_size, ByteArray.size_extract]; omega
  have N2 := hide (fun W => orderKey_any c.K.key (numO s) hk16 W); rw [← hok] at N2
  have N3 : Hid (∀ W, Calls Tryz.prog 26 #[.string ok, .string ⟨#[0, 0, 0, 0, 0, 0, 0, 0]⟩, .string (s.extract 2 (s.size - 8))] W fun e w' => e = .returned (.tuple #[.string op, .int .i64 0]) ∧ Below W.heap.size W w') := hide (fun W => by
    have := hide_yes ok zeros8 (s.extract 2 (s.size - 8)) hok16 (by decide) (by rw [ByteArray.size_extract]; omega) W; rw [← hop2] at this
    exact this)
  obtain ⟨b, hb⟩ : ∃ b, b = rightO c.K s := ⟨_, rfl⟩
  have hb2 : decide (s.extract (s.size - 8) s.size = sealS ok (twoS (numO s) ++ op)) = b := by rw [hb, hok, hop]; rfl
  have N4 := hide (fun W => two_any (numO s) W)
  have N5 : Hid (∀ W, Calls Tryz.prog 31 #[.string ok, .string (twoS (numO s) ++ op), .string (s.extract (s.size - 8) s.size)] W fun e w' => e = .returned (.bool b) ∧ Below W.heap.size W w') := hide (fun W => by
    have := sealed_yes ok (twoS (numO s) ++ op) (s.extract (s.size - 8) s.size) hok16 (by rw [ByteArray.size_append, twoS_size]; omega) W; rw [hb2] at this
    exact this)
  have ha := fun W => run_string_add_sum (P := Tryz.prog) W (twoS (numO s)) op (by rw [twoS_size]; omega)
  have N6 := hide (fun W => readOrders_any op (by omega) W); have N7 : Hid (∀ l ao cap W W', RowOrder W ao l → Below W.heap.size W W' → Calls Tryz.prog 23 #[.string c.K.key, .int .i64 (numO s), .slice ao l.length cap] W' fun e w' => e = .returned (.int .i64 (ordersE c.K.key (numO s) l)) ∧ Below W'.heap.size W' w') := hide (fun l ao cap W W' hr hb => checkOrders_any c.K.key (numO s) l ao cap W' (hr.below hb))
  have N8 : Hid (∀ l, c.K.orders < numO s → ordersE c.K.key (numO s) l = 0 → ∀ W, Below w.heap.size w W → Calls Tryz.prog 34 #[.pointer (some ⟨cb, 0, none⟩), valK (l.foldl (orderedK c.tries) { c.K with orders := numO s })] W fun e w' => e = .returned (.int .i64 (keepE c (l.foldl (orderedK c.tries) { c.K with orders := numO s }))) ∧ CdAt w' B cb bb mb v (keepC c (l.foldl (orderedK c.tries) { c.K with orders := numO s })) ∧ Chg (cdF cb bb mb v) w w') := hide (fun l hn he W hb => by
    refine (keep_any (h.below hb) hk _ (did_ok hk.tr hk.k s l hn he)).mono ?_; rintro r w' ⟨q1, q2, q3⟩
    exact ⟨q1 ho, q2, (Chg.of_below (cdF cb bb mb v) hb).trans q3 (fun x hx => .inl hx)⟩)
  have HBX : Hid (∀ W, Below w.heap.size w W → W.heap[cb]? = some (.cells (cdL c bb) 70)) := hide (fun W hb => (h.below hb).box); have HC := hide hC; have H5 := hide c5; have HLT := hide h.lt; obtain ⟨nm, hnm⟩ : ∃ nm, nm = numO s := ⟨_, rfl⟩; rw [← hnm] at N2 N4 N5 N7 N8 ha; have hnm1 : readV (s.extract 0 2) = nm := hnm.symm; rw [hnm1] at N1; have HD1 : Hid (nm ≤ c.K.orders → D = (6, c)) := hide (fun q => by rw [hD]; exact do_err ho (did_twice hsz (by rw [← hnm]; exact q)) (by decide)); have HD2 : Hid (¬ nm ≤ c.K.orders → b = false → D = (9, c)) := hide (fun q q2 => by rw [hD]; exact do_err ho (did_proof hsz (by rw [← hnm]; exact q) (by rw [← hb]; exact q2)) (by decide)); have HD3 : Hid (¬ nm ≤ c.K.orders → b = true → readO (op.size + 1) op = none → D = (1, c)) := hide (fun q q2 q3 => by rw [hD]; exact do_err ho (did_read hsz (by rw [← hnm]; exact q) (by rw [← hb]; exact q2) (by rw [← hop]; exact q3)) (by decide)); have HD4 : Hid (∀ l, ¬ nm ≤ c.K.orders → b = true → readO (op.size + 1) op = some l → ordersE c.K.key nm l ≠ 0 → D = (1, c)) := hide (fun l q q2 q3 q4 => by rw [hD]; exact do_err ho (did_wrong hsz (by rw [← hnm]; exact q) (by rw [← hb]; exact q2) (by rw [← hop]; exact q3) (by rw [← hnm]; exact q4)) (by decide)); have HD5 : Hid (∀ l, ¬ nm ≤ c.K.orders → b = true → readO (op.size + 1) op = some l → ordersE c.K.key nm l = 0 → D = (keepE c (l.foldl (orderedK c.tries) { c.K with orders := nm }), keepC c (l.foldl (orderedK c.tries) { c.K with orders := nm }))) := hide (fun l q q2 q3 q4 => by rw [hD, hnm]; exact do_done ho (did_done hsz (by rw [← hnm]; exact q) (by rw [← hb]; exact q2) (by rw [← hop]; exact q3) (by rw [← hnm]; exact q4))); have d5 := (c5 w (Below.refl _ _)).1; have d12 := (c5 w (Below.refl _ _)).2.1; generalize readE (s.extract 0 2) = re at *; generalize twoS nm = tn at *; have HSZ := hide (And.intro hsz (And.intro hen hops)); clear hD hC h hk ho hsz hsm c5 hb2 hb hop hop2 hok hok16 hen hk16 hops hnm hnm1
  by_cases hle : nm ≤ c.K.orders
  · have hD := unhide HD1 hle; subst hD; clear HD1 HD2 HD3 HD4 HD5
    go_enter Tryz.func10, Tryz.ntmps10
    go_wp2_with fail
    refine (unhide N0).mono ?_; rintro r y1 ⟨rfl, hy⟩; have hy' := hy.symm; subst hy'
    go_wp2_with fail
    refine (unhide N1 _).mono ?_; rintro r y2 ⟨rfl, hy⟩; have hy' := hy.symm; subst hy'
    go_wp2
    go_ret
    exact ⟨rfl, unhide HC _ (Below.refl _ _)⟩
  have HLE := hide hle; clear HD1
  go_enter Tryz.func10, Tryz.ntmps10
  go_wp2_with fail
  refine (unhide N0).mono ?_; rintro r y1 ⟨rfl, hy⟩; have hy' := hy.symm; subst hy'; clear N0
  go_wp2_with fail
  refine (unhide N1 _).mono ?_; rintro r y2 ⟨rfl, hy⟩; have hy' := hy.symm; subst hy'; clear N1
  go_wp2_with fail
  refine (unhide N2 _).mono ?_; rintro r y3 ⟨rfl, hb3⟩; have HB3 := hide hb3; clear hb3 N2
  go_wp2_with fail
  refine (unhide N3 _).mono ?_; rintro r y4 ⟨rfl, hb4⟩; have HB4 := hide ((unhide HB3).trans (hb4.mono (unhide HB3).size)); clear hb4 N3 HB3 d5 d12
  go_upto_region 11 with fail
  refine wp_drawnB (by kernel_rfl) 112 (by rfl) (by kernel_rfl) (by kernel_rfl) 10 (vals [.string ok, .int .i64 nm, .string tn, .string op, .string (tn ++ op), .string s, .int .i64 ((s.size : Int) - 8), .string (s.extract (s.size - 8) s.size), .bool b, .bool (!b)]) (fun x => x) (Below.refl y4.heap.size y4) ?_ ?_
  · refine ⟨?_, ?_, ?_, ?_, ?_, ?_, ?_, ?_, ?_, ?_, trivial⟩
    · intro S ac wx hJ hS hw hoff; obtain ⟨_, hb⟩ := hJ.same (i := 0) (by decide) hS; have eT7 : ac.eval (.tmp 7) = .string ok := (hoff 7 (by kernel_rfl)).trans rfl; have gT7 := evT eT7; refine Does.value (.string ok) _ ?_ (hJ.val (i := 0) (by decide) hS hw _ rfl _ hb); clear hJ hw hoff; go_simp
    · intro S ac wx hJ hS hw hoff; obtain ⟨_, hb⟩ := hJ.same (i := 1) (by decide) hS; have eT5 : ac.eval (.tmp 5) = .int .i64 nm := (hoff 5 (by kernel_rfl)).trans rfl; have gT5 := evT eT5; refine Does.value (.int .i64 nm) _ ?_ (hJ.val (i := 1) (by decide) hS hw _ rfl _ hb); clear hJ hw hoff; go_simp
    · intro S ac wx hJ hS hw hoff; obtain ⟨_, hb⟩ := hJ.same (i := 2) (by decide) hS; have eT61 : ac.eval (.tmp 61) = .int .i64 nm := hJ.v 1 (by decide) (hw 1 (by kernel_rfl)); refine does_call1 28 (.tmp 61) _ rfl _ eT61 ent_twoD (unhide N4 wx) ?_; rintro e wy ⟨rfl, hy⟩; exact ⟨_, rfl, hJ.val (i := 2) (by decide) hS hw _ rfl _ (hb.trans (hy.mono hb.size))⟩
    · intro S ac wx hJ hS hw hoff; obtain ⟨_, hb⟩ := hJ.same (i := 3) (by decide) hS; have eT9 : ac.eval (.tmp 9) = .string op := (hoff 9 (by kernel_rfl)).trans rfl; have gT9 := evT eT9; refine Does.value (.string op) _ ?_ (hJ.val (i := 3) (by decide) hS hw _ rfl _ hb); clear hJ hw hoff; go_simp
    · intro S ac wx hJ hS hw hoff; obtain ⟨_, hb⟩ := hJ.same (i := 4) (by decide) hS; have eT62 : ac.eval (.tmp 62) = .string tn := hJ.v 2 (by decide) (hw 2 (by kernel_rfl)); have eT63 : ac.eval (.tmp 63) = .string op := hJ.v 3 (by decide) (hw 3 (by kernel_rfl)); have gT62 := evT eT62; have gT63 := evT eT63; refine Does.value (.string (tn ++ op)) _ ?_ (hJ.val (i := 4) (by decide) hS hw _ rfl _ hb); clear hJ hw hoff; go_simp
    · intro S ac wx hJ hS hw hoff; obtain ⟨_, hb⟩ := hJ.same (i := 5) (by decide) hS; have eT1 : ac.eval (.tmp 1) = .string s := (hoff 1 (by kernel_rfl)).trans rfl; have gT1 := evT eT1; refine Does.value (.string s) _ ?_ (hJ.val (i := 5) (by decide) hS hw _ rfl _ hb); clear hJ hw hoff; go_simp
    · intro S ac wx hJ hS hw hoff; obtain ⟨_, hb⟩ := hJ.same (i := 6) (by decide) hS; have eT8 : ac.eval (.tmp 8) = .int .i64 ((s.size : Int) - 8) := (hoff 8 (by kernel_rfl)).trans rfl; have gT8 := evT eT8; refine Does.value (.int .i64 ((s.size : Int) - 8)) _ ?_ (hJ.val (i := 6) (by decide) hS hw _ rfl _ hb); clear hJ hw hoff; go_simp
    · intro S ac wx hJ hS hw hoff; obtain ⟨_, hb⟩ := hJ.same (i := 7) (by decide) hS; have eT65 : ac.eval (.tmp 65) = .string s := hJ.v 5 (by decide) (hw 5 (by kernel_rfl)); have eT66 : ac.eval (.tmp 66) = .int .i64 ((s.size : Int) - 8) := hJ.v 6 (by decide) (hw 6 (by kernel_rfl)); have gT65 := evT eT65; have gT66 := evT eT66; refine Does.value (.string (s.extract (s.size - 8) s.size)) _ ?_ (hJ.val (i := 7) (by decide) hS hw _ rfl _ hb); clear hJ hw hoff; go_simp
    · intro S ac wx hJ hS hw hoff; obtain ⟨_, hb⟩ := hJ.same (i := 8) (by decide) hS; have eT60 : ac.eval (.tmp 60) = .string ok := hJ.v 0 (by decide) (hw 0 (by kernel_rfl)); have eT64 : ac.eval (.tmp 64) = .string (tn ++ op) := hJ.v 4 (by decide) (hw 4 (by kernel_rfl)); have eT67 : ac.eval (.tmp 67) = .string (s.extract (s.size - 8) s.size) := hJ.v 7 (by decide) (hw 7 (by kernel_rfl)); refine does_call3 31 (.tmp 60) (.tmp 64) (.tmp 67) _ rfl _ _ _ eT60 eT64 eT67 ent_sealedD (unhide N5 wx) ?_; rintro e wy ⟨rfl, hy⟩; exact ⟨_, rfl, hJ.val (i := 8) (by decide) hS hw _ rfl _ (hb.trans (hy.mono hb.size))⟩
    · intro S ac wx hJ hS hw hoff; obtain ⟨_, hb⟩ := hJ.same (i := 9) (by decide) hS; have eT68 : ac.eval (.tmp 68) = .bool b := hJ.v 8 (by decide) (hw 8 (by kernel_rfl)); have gT68 := evT eT68; refine Does.value (.bool (!b)) _ ?_ (hJ.val (i := 9) (by decide) hS hw _ rfl _ hb); clear hJ hw hoff; go_simp
  · intro ac wx S hdf hsz hoff hall hJ; have hb := hJ.all; have hh60 : ac.tmps.getD 60 undef = .string ok := hJ.v 0 (by decide) (hall 0 (by decide)); have hh61 : ac.tmps.getD 61 undef = .int .i64 nm := hJ.v 1 (by decide) (hall 1 (by decide)); have hh62 : ac.tmps.getD 62 undef = .string tn := hJ.v 2 (by decide) (hall 2 (by decide)); have hh63 : ac.tmps.getD 63 undef = .string op := hJ.v 3 (by decide) (hall 3 (by decide)); have hh64 : ac.tmps.getD 64 undef = .string (tn ++ op) := hJ.v 4 (by decide) (hall 4 (by decide)); have hh65 : ac.tmps.getD 65 undef = .string s := hJ.v 5 (by decide) (hall 5 (by decide)); have hh66 : ac.tmps.getD 66 undef = .int .i64 ((s.size : Int) - 8) := hJ.v 6 (by decide) (hall 6 (by decide)); have hh67 : ac.tmps.getD 67 undef = .string (s.extract (s.size - 8) s.size) := hJ.v 7 (by decide) (hall 7 (by decide)); have hh68 : ac.tmps.getD 68 undef = .bool b := hJ.v 8 (by decide) (hall 8 (by decide)); have hh69 : ac.tmps.getD 69 undef = .bool (!b) := hJ.v 9 (by decide) (hall 9 (by decide)); have hmix := mix_eq [false, false, false, false, false, false, false, false, false, false, false, false, false, false, false, false, false, false, false, false, false, false, false, false, false, false, false, false, false, false, false, false, false, false, false, false, false, false, false, false, false, false, false, false, false, false, false, false, false, false, false, false, false, false, false, false, false, false, false, false, true, true, true, true, true, true, true, true, true, true, false, false, false, false, false, false, false, false, false, false, false, false, false, false, false, false, false, false, false, false, false, false, false, false, false, false, false, false, false, false, false, false, false, false, false, false, false, false, false, false, false, false] rfl rfl hsz hdf (by kernel_rfl) hoff; clear hoff hall hsz hdf hJ
    simp only [mixL, Nat.reduceAdd, hh60, hh61, hh62, hh63, hh64, hh65, hh66, hh67, hh68, hh69] at hmix
    rw [hmix]; clear hmix hh60 hh61 hh62 hh63 hh64 hh65 hh66 hh67 hh68 hh69; have HB5 := hide ((unhide HB4).trans (hb.mono (unhide HB4).size)); clear hb HB4 N4 N5 ha i1 i2 i3 i4 j1 j2 j4 j6 j7 j8 j9
    cases b with
    | false =>
      have hD := unhide HD2 (unhide HLE) rfl; subst hD; clear HD2 HD3 HD4 HD5
      go_wp2
      go_ret
      exact ⟨rfl, unhide HC _ (unhide HB5)⟩
    | true =>
    clear HD2
    go_wp2_with fail
    refine (unhide N6 _).mono ?_; rintro r y6 ⟨hres, hb6⟩; have HB6 := hide ((unhide HB5).trans (hb6.mono (unhide HB5).size)); clear hb6 HB5 N6
    rcases hres with ⟨hr, rfl⟩ | ⟨l, ao, cap, hr, rfl, hrow⟩
    · have hD := unhide HD3 (unhide HLE) (by simp) hr; subst hD; clear hr HD3 HD4 HD5
      go_wp2
      go_ret
      exact ⟨rfl, unhide HC _ (unhide HB6)⟩
    have HR := hide hr; clear hr HD3; have d12 := (unhide H5 _ (unhide HB6)).2.1
    go_wp2_with fail
    refine (unhide N7 l ao cap _ _ hrow (Below.refl _ _)).mono ?_; rintro r y7 ⟨rfl, hb7⟩; have HB7 := hide ((unhide HB6).trans (hb7.mono (unhide HB6).size)); have hrow7 := hrow.below hb7; clear hb7 HB6 N7 d12 hrow; obtain ⟨oe, hoe⟩ : ∃ oe, oe = ordersE c.K.key nm l := ⟨_, rfl⟩; rw [← hoe]
    by_cases he : oe = 0
    case neg =>
      have heb : (oe == 0) = false := by simpa using he
      have hD := unhide HD4 l (unhide HLE) (by simp) (unhide HR) (by rw [← hoe]; exact he); subst hD; clear hrow7 hoe HD4 HD5
      go_wp2
      go_ret
      exact ⟨rfl, unhide HC _ (unhide HB7)⟩
    have hD := unhide HD5 l (unhide HLE) (by simp) (unhide HR) (by rw [← hoe]; exact he); subst hD; clear HD4 HD5; have HN8 := hide (unhide N8 l (by have := unhide HLE; omega) (by rw [← hoe, he])); clear hoe N8; subst he; have hbx := unhide HBX _ (unhide HB7)
    unfold cdL at hbx
    have a0 : y7.cell? ⟨cb, 0, none⟩ = some (.int .i64 c.K.count) := by simp [World.cell?, hbx]
    have a1 : y7.cell? ⟨cb, 1, none⟩ = some (.int .i64 c.K.last) := by simp [World.cell?, hbx]
    have a2 : y7.cell? ⟨cb, 2, none⟩ = some (.int .i64 c.K.spent) := by simp [World.cell?, hbx]
    have a3 : y7.cell? ⟨cb, 3, none⟩ = some (.int .i64 c.K.run) := by simp [World.cell?, hbx]
    have a4 : y7.cell? ⟨cb, 4, none⟩ = some (.int .i64 c.K.left) := by simp [World.cell?, hbx]
    have a5 : y7.cell? ⟨cb, 5, none⟩ = some (.int .i64 c.K.orders) := by simp [World.cell?, hbx]
    have a6 : y7.cell? ⟨cb, 6, none⟩ = some (.bool c.K.blocked) := by simp [World.cell?, hbx]
    have a7 : y7.cell? ⟨cb, 7, none⟩ = some (.bool c.K.owing) := by simp [World.cell?, hbx]
    have a8 : y7.cell? ⟨cb, 8, none⟩ = some (.int .i64 c.K.purse) := by simp [World.cell?, hbx]
    have a9 : y7.cell? ⟨cb, 9, none⟩ = some (.int .i64 c.K.one) := by simp [World.cell?, hbx]
    have a10 : y7.cell? ⟨cb, 10, none⟩ = some (.int .i64 c.K.runs) := by simp [World.cell?, hbx]
    have a11 : y7.cell? ⟨cb, 11, none⟩ = some (.int .i64 c.K.version) := by simp [World.cell?, hbx]
    have a12 : y7.cell? ⟨cb, 12, none⟩ = some (.string c.K.key) := by simp [World.cell?, hbx]
    have a13 : y7.cell? ⟨cb, 13, none⟩ = some (.string c.K.pin) := by simp [World.cell?, hbx]
    have hW : ∀ W, W = (y7.alloc (.cells #[.int .i64 c.K.count, .int .i64 c.K.last, .int .i64 c.K.spent, .int .i64 c.K.run, .int .i64 c.K.left, .int .i64 nm, .bool c.K.blocked, .bool c.K.owing, .int .i64 c.K.purse, .int .i64 c.K.one, .int .i64 c.K.runs, .int .i64 c.K.version, .string c.K.key, .string c.K.pin] 60)) → W.heap[y7.heap.size]? = some (.cells #[.int .i64 c.K.count, .int .i64 c.K.last, .int .i64 c.K.spent, .int .i64 c.K.run, .int .i64 c.K.left, .int .i64 nm, .bool c.K.blocked, .bool c.K.owing, .int .i64 c.K.purse, .int .i64 c.K.one, .int .i64 c.K.runs, .int .i64 c.K.version, .string c.K.key, .string c.K.pin] 60) ∧ Below w.heap.size w W ∧ Below y7.heap.size y7 W := by
      rintro W rfl; exact ⟨heap_alloc_new _ _, (unhide HB7).alloc (unhide HB7).size _, (Below.refl _ _).alloc (Nat.le_refl _) _⟩
    have HW := hide hW; obtain ⟨hro, hokk, hml⟩ := hrow7; have HRO := hide hro; have HML : Hid (l.length ≤ maxLen) := hide hml; clear hW hbx hro hokk hml
    go_upto_region 17 with fail
    go_wp2
    go_loopw [15, 97] (fun _ s97 wr => ∃ j : Nat, j ≤ l.length ∧ s97 = .int .i64 (j : Int) ∧ wr.heap[y7.heap.size]? = some (.cells (kvL ((l.take j).foldl (orderedK c.tries) { c.K with orders := nm })) 60) ∧ Below w.heap.size w wr ∧ Below y7.heap.size y7 wr) (fun _ s97 _ => l.length - (intOf s97).toNat)
    case atStart =>
      obtain ⟨q1, q2, q3⟩ := unhide HW _ rfl; exact ⟨0, Nat.zero_le _, rfl, q1, q2, q3⟩
    case round =>
      clear a0 a1 a2 a3 a4 a5 a6 a7 a8 a9 a10 a11 a12 a13 HW; obtain ⟨j, hj, rfl, hX, hbw, hby⟩ := hrel; obtain ⟨kj, hkj⟩ : ∃ kj, kj = (l.take j).foldl (orderedK c.tries) { c.K with orders := nm } := ⟨_, rfl⟩; have hgw : w.heap.size ≤ y7.heap.size := (unhide HB7).size; have hgl : y7.heap.size < wr.heap.size := block_ltR hX; rw [← hkj] at hX
      unfold kvL at hX
      have a0 : wr.cell? ⟨y7.heap.size, 0, none⟩ = some (.int .i64 kj.count) := by simp [World.cell?, hX]
      have a1 : wr.cell? ⟨y7.heap.size, 1, none⟩ = some (.int .i64 kj.last) := by simp [World.cell?, hX]
      have a2 : wr.cell? ⟨y7.heap.size, 2, none⟩ = some (.int .i64 kj.spent) := by simp [World.cell?, hX]
      have a3 : wr.cell? ⟨y7.heap.size, 3, none⟩ = some (.int .i64 kj.run) := by simp [World.cell?, hX]
      have a4 : wr.cell? ⟨y7.heap.size, 4, none⟩ = some (.int .i64 kj.left) := by simp [World.cell?, hX]
      have a5 : wr.cell? ⟨y7.heap.size, 5, none⟩ = some (.int .i64 kj.orders) := by simp [World.cell?, hX]
      have a6 : wr.cell? ⟨y7.heap.size, 6, none⟩ = some (.bool kj.blocked) := by simp [World.cell?, hX]
      have a7 : wr.cell? ⟨y7.heap.size, 7, none⟩ = some (.bool kj.owing) := by simp [World.cell?, hX]
      have a8 : wr.cell? ⟨y7.heap.size, 8, none⟩ = some (.int .i64 kj.purse) := by simp [World.cell?, hX]
      have a9 : wr.cell? ⟨y7.heap.size, 9, none⟩ = some (.int .i64 kj.one) := by simp [World.cell?, hX]
      have a10 : wr.cell? ⟨y7.heap.size, 10, none⟩ = some (.int .i64 kj.runs) := by simp [World.cell?, hX]
      have a11 : wr.cell? ⟨y7.heap.size, 11, none⟩ = some (.int .i64 kj.version) := by simp [World.cell?, hX]
      have a12 : wr.cell? ⟨y7.heap.size, 12, none⟩ = some (.string kj.key) := by simp [World.cell?, hX]
      have a13 : wr.cell? ⟨y7.heap.size, 13, none⟩ = some (.string kj.pin) := by simp [World.cell?, hX]
      by_cases hjl : j < l.length
      · obtain ⟨x, hx⟩ : ∃ x, l[j]? = some x := ⟨_, List.getElem?_eq_getElem hjl⟩
        rcases unhide HRO with hnil | ⟨rb, off, hao, hrb, hrc⟩
        · rw [hnil] at hjl; simp at hjl
        subst hao; obtain ⟨r0, r1, r2⟩ := hrc j x hx; have t0 : wr.cell? ⟨rb, off + j * 3, none⟩ = some (.int .i64 x.what) := (hby.cell (p := ⟨rb, off + j * 3, none⟩) hrb).trans r0; have t1 : wr.cell? ⟨rb, off + j * 3 + 1, none⟩ = some (.int .i64 x.n) := (hby.cell (p := ⟨rb, off + j * 3 + 1, none⟩) hrb).trans r1; have t2 : wr.cell? ⟨rb, off + j * 3 + 2, none⟩ = some (.string x.text) := (hby.cell (p := ⟨rb, off + j * 3 + 2, none⟩) hrb).trans r2; obtain ⟨nk, hnk⟩ : ∃ nk, nk = orderedK c.tries kj x := ⟨_, rfl⟩
        have hstep : (l.take (j + 1)).foldl (orderedK c.tries) { c.K with orders := nm } = nk := by
          rw [hnk, hkj, List.take_add_one, hx, List.foldl_append]; rfl
        have hjl2 : (j : Int) < (l.length : Int) := by omega
        have hwj : wrap64 ((j : Int) + 1) = ((j + 1 : Nat) : Int) := by have := unhide HML; unfold maxLen at this; unfold wrap64; omega
        obtain ⟨Y, hY⟩ : ∃ Y, Y = wr.alloc (.cells #[.int .i64 x.what, .int .i64 x.n, .string x.text] 94) := ⟨_, rfl⟩; obtain ⟨go, hgo⟩ : ∃ go, go = wr.heap.size := ⟨_, rfl⟩
        have hYo : Y.heap[go]? = some (.cells #[.int .i64 x.what, .int .i64 x.n, .string x.text] 94) := by rw [hY, hgo]; exact heap_alloc_new _ _
        have hYn : Y.heap[y7.heap.size]? = some (.cells #[.int .i64 kj.count, .int .i64 kj.last, .int .i64 kj.spent, .int .i64 kj.run, .int .i64 kj.left, .int .i64 kj.orders, .bool kj.blocked, .bool kj.owing, .int .i64 kj.purse, .int .i64 kj.one, .int .i64 kj.runs, .int .i64 kj.version, .string kj.key, .string kj.pin] 60) := by rw [hY, heap_alloc_oldK _ _ hgl]; exact hX
        have hYb : Below wr.heap.size wr Y := by rw [hY]; exact (Below.refl _ _).alloc (Nat.le_refl _) _
        have hlo := block_ltR hYo; have hln := block_ltR hYn
        have hF : ∀ W : World, Below Y.heap.size Y W → (W.cell? ⟨y7.heap.size, 0, none⟩ = some (.int .i64 kj.count) ∧ W.cell? ⟨y7.heap.size, 1, none⟩ = some (.int .i64 kj.last) ∧ W.cell? ⟨y7.heap.size, 2, none⟩ = some (.int .i64 kj.spent) ∧ W.cell? ⟨y7.heap.size, 3, none⟩ = some (.int .i64 kj.run) ∧ W.cell? ⟨y7.heap.size, 4, none⟩ = some (.int .i64 kj.left) ∧ W.cell? ⟨y7.heap.size, 5, none⟩ = some (.int .i64 kj.orders) ∧ W.cell? ⟨y7.heap.size, 6, none⟩ = some (.bool kj.blocked) ∧ W.cell? ⟨y7.heap.size, 7, none⟩ = some (.bool kj.owing) ∧ W.cell? ⟨y7.heap.size, 8, none⟩ = some (.int .i64 kj.purse) ∧ W.cell? ⟨y7.heap.size, 9, none⟩ = some (.int .i64 kj.one) ∧ W.cell? ⟨y7.heap.size, 10, none⟩ = some (.int .i64 kj.runs) ∧ W.cell? ⟨y7.heap.size, 11, none⟩ = some (.int .i64 kj.version) ∧ W.cell? ⟨y7.heap.size, 12, none⟩ = some (.string kj.key) ∧ W.cell? ⟨y7.heap.size, 13, none⟩ = some (.string kj.pin)) ∧ (W.cell? ⟨go, 0, none⟩ = some (.int .i64 x.what) ∧ W.cell? ⟨go, 1, none⟩ = some (.int .i64 x.n) ∧ W.cell? ⟨go, 2, none⟩ = some (.string x.text)) ∧ W.cell? ⟨cb, 15, none⟩ = some (.int .i64 c.tries) ∧ (∀ i, W.frozen? ⟨y7.heap.size, i, none⟩ = false) ∧ Below w.heap.size w W ∧ Below y7.heap.size y7 W := fun W hb => by
          have z1 := (hb.block _ hln).trans hYn; have z2 := (hb.block _ hlo).trans hYo; have z3 := hbw.trans ((hYb.trans (hb.mono hYb.size)).mono hbw.size)
          refine ⟨⟨?_, ?_, ?_, ?_, ?_, ?_, ?_, ?_, ?_, ?_, ?_, ?_, ?_, ?_⟩, ⟨?_, ?_, ?_⟩, (unhide H5 W z3).2.2, fun i => ?_, z3, hby.trans ((hYb.trans (hb.mono hYb.size)).mono hby.size)⟩ <;> simp [World.cell?, World.frozen?, z1, z2]
        have HF := hide hF; have HN := hide (fun W => ordered_any c.tries kj x W); rw [← hnk] at HN
        unfold valK kvL at HN
        have HY := hide hY; have HGO := hide hgo; have HST := hide hstep; have HJ := hide hjl; have HYN : Hid (∀ W : World, Below Y.heap.size Y W → W.heap[y7.heap.size]? = some (.cells #[.int .i64 kj.count, .int .i64 kj.last, .int .i64 kj.spent, .int .i64 kj.run, .int .i64 kj.left, .int .i64 kj.orders, .bool kj.blocked, .bool kj.owing, .int .i64 kj.purse, .int .i64 kj.one, .int .i64 kj.runs, .int .i64 kj.version, .string kj.key, .string kj.pin] 60)) := hide (fun W hb => (hb.block _ hln).trans hYn); have HGW : Hid (w.heap.size ≤ y7.heap.size ∧ y7.heap.size ≤ y7.heap.size) := hide ⟨hgw, Nat.le_refl _⟩; clear hY hgo hYo hYn hYb hlo hln hF hnk hstep hx hrc r0 r1 r2 hX hbw hby hgw hgl hkj hj
        go_upto_region 21 with fail
        rw [← unhide HY, ← unhide HGO]; clear t0 t1 t2 a0 a1 a2 a3 a4 a5 a6 a7 a8 a9 a10 a11 a12 a13 HY; refine wp_drawnB (by kernel_rfl) 112 (by rfl) (by kernel_rfl) (by kernel_rfl) 7 (vals [.agg #[.int .i64 kj.count, .int .i64 kj.last, .int .i64 kj.spent, .int .i64 kj.run, .int .i64 kj.left, .int .i64 kj.orders, .bool kj.blocked, .bool kj.owing, .int .i64 kj.purse, .int .i64 kj.one, .int .i64 kj.runs, .int .i64 kj.version, .string kj.key, .string kj.pin], .agg #[.int .i64 x.what, .int .i64 x.n, .string x.text], .pointer (some ⟨cb, 0, none⟩), .pointer (some ⟨cb, 0, none⟩), .pointer (some ⟨cb, 15, none⟩), .int .i64 c.tries, .agg #[.int .i64 nk.count, .int .i64 nk.last, .int .i64 nk.spent, .int .i64 nk.run, .int .i64 nk.left, .int .i64 nk.orders, .bool nk.blocked, .bool nk.owing, .int .i64 nk.purse, .int .i64 nk.one, .int .i64 nk.runs, .int .i64 nk.version, .string nk.key, .string nk.pin]]) (fun x => ((((((((((((((x.setCell ⟨y7.heap.size, 0, none⟩ (.int .i64 nk.count)).setCell ⟨y7.heap.size, 1, none⟩ (.int .i64 nk.last)).setCell ⟨y7.heap.size, 2, none⟩ (.int .i64 nk.spent)).setCell ⟨y7.heap.size, 3, none⟩ (.int .i64 nk.run)).setCell ⟨y7.heap.size, 4, none⟩ (.int .i64 nk.left)).setCell ⟨y7.heap.size, 5, none⟩ (.int .i64 nk.orders)).setCell ⟨y7.heap.size, 6, none⟩ (.bool nk.blocked)).setCell ⟨y7.heap.size, 7, none⟩ (.bool nk.owing)).setCell ⟨y7.heap.size, 8, none⟩ (.int .i64 nk.purse)).setCell ⟨y7.heap.size, 9, none⟩ (.int .i64 nk.one)).setCell ⟨y7.heap.size, 10, none⟩ (.int .i64 nk.runs)).setCell ⟨y7.heap.size, 11, none⟩ (.int .i64 nk.version)).setCell ⟨y7.heap.size, 12, none⟩ (.string nk.key)).setCell ⟨y7.heap.size, 13, none⟩ (.string nk.pin))) (Below.refl Y.heap.size Y) ?_ ?_
        · refine ⟨?_, ?_, ?_, ?_, ?_, ?_, ?_, ?_, trivial⟩
          · intro S ac wx hJ hS hw hoff; obtain ⟨_, hb⟩ := hJ.same (i := 0) (by decide) hS; have eT13 : ac.eval (.tmp 13) = .pointer (some ⟨y7.heap.size, 0, none⟩) := (hoff 13 (by kernel_rfl)).trans rfl; obtain ⟨⟨a0, a1, a2, a3, a4, a5, a6, a7, a8, a9, a10, a11, a12, a13⟩, _, _, _, _, _⟩ := unhide HF _ hb; have gT13 := evT eT13; refine Does.value (.agg #[.int .i64 kj.count, .int .i64 kj.last, .int .i64 kj.spent, .int .i64 kj.run, .int .i64 kj.left, .int .i64 kj.orders, .bool kj.blocked, .bool kj.owing, .int .i64 kj.purse, .int .i64 kj.one, .int .i64 kj.runs, .int .i64 kj.version, .string kj.key, .string kj.pin]) _ ?_ (hJ.val (i := 0) (by decide) hS hw _ rfl _ hb); clear hJ hw hoff; go_simp
          · intro S ac wx hJ hS hw hoff; obtain ⟨_, hb⟩ := hJ.same (i := 1) (by decide) hS; have eT15 : ac.eval (.tmp 15) = .pointer (some ⟨go, 0, none⟩) := (hoff 15 (by kernel_rfl)).trans rfl; obtain ⟨_, ⟨o0, o1, o2⟩, _, _, _, _⟩ := unhide HF _ hb; have gT15 := evT eT15; refine Does.value (.agg #[.int .i64 x.what, .int .i64 x.n, .string x.text]) _ ?_ (hJ.val (i := 1) (by decide) hS hw _ rfl _ hb); clear hJ hw hoff; go_simp
          · intro S ac wx hJ hS hw hoff; obtain ⟨_, hb⟩ := hJ.same (i := 2) (by decide) hS; have eT0 : ac.eval (.tmp 0) = .pointer (some ⟨cb, 0, none⟩) := (hoff 0 (by kernel_rfl)).trans rfl; have gT0 := evT eT0; refine Does.value (.pointer (some ⟨cb, 0, none⟩)) _ ?_ (hJ.val (i := 2) (by decide) hS hw _ rfl _ hb); clear hJ hw hoff; go_simp
          · intro S ac wx hJ hS hw hoff; obtain ⟨_, hb⟩ := hJ.same (i := 3) (by decide) hS; have eT103 : ac.eval (.tmp 103) = .pointer (some ⟨cb, 0, none⟩) := hJ.v 2 (by decide) (hw 2 (by kernel_rfl)); have gT103 := evT eT103; refine Does.value (.pointer (some ⟨cb, 0, none⟩)) _ ?_ (hJ.val (i := 3) (by decide) hS hw _ rfl _ hb); clear hJ hw hoff; go_simp
          · intro S ac wx hJ hS hw hoff; obtain ⟨_, hb⟩ := hJ.same (i := 4) (by decide) hS; have eT104 : ac.eval (.tmp 104) = .pointer (some ⟨cb, 0, none⟩) := hJ.v 3 (by decide) (hw 3 (by kernel_rfl)); have gT104 := evT eT104; refine Does.value (.pointer (some ⟨cb, 15, none⟩)) _ ?_ (hJ.val (i := 4) (by decide) hS hw _ rfl _ hb); clear hJ hw hoff; go_simp
          · intro S ac wx hJ hS hw hoff; obtain ⟨_, hb⟩ := hJ.same (i := 5) (by decide) hS; have eT105 : ac.eval (.tmp 105) = .pointer (some ⟨cb, 15, none⟩) := hJ.v 4 (by decide) (hw 4 (by kernel_rfl)); obtain ⟨_, _, o3, _, _, _⟩ := unhide HF _ hb; have gT105 := evT eT105; refine Does.value (.int .i64 c.tries) _ ?_ (hJ.val (i := 5) (by decide) hS hw _ rfl _ hb); clear hJ hw hoff; go_simp
          · intro S ac wx hJ hS hw hoff; obtain ⟨_, hb⟩ := hJ.same (i := 6) (by decide) hS; have eT101 : ac.eval (.tmp 101) = .agg #[.int .i64 kj.count, .int .i64 kj.last, .int .i64 kj.spent, .int .i64 kj.run, .int .i64 kj.left, .int .i64 kj.orders, .bool kj.blocked, .bool kj.owing, .int .i64 kj.purse, .int .i64 kj.one, .int .i64 kj.runs, .int .i64 kj.version, .string kj.key, .string kj.pin] := hJ.v 0 (by decide) (hw 0 (by kernel_rfl)); have eT102 : ac.eval (.tmp 102) = .agg #[.int .i64 x.what, .int .i64 x.n, .string x.text] := hJ.v 1 (by decide) (hw 1 (by kernel_rfl)); have eT106 : ac.eval (.tmp 106) = .int .i64 c.tries := hJ.v 5 (by decide) (hw 5 (by kernel_rfl)); refine does_call3 33 (.tmp 101) (.tmp 102) (.tmp 106) _ rfl _ _ _ eT101 eT102 eT106 ent_orderedD (unhide HN wx) ?_; rintro e wy ⟨rfl, hy⟩; exact ⟨_, rfl, hJ.val (i := 6) (by decide) hS hw _ rfl _ (hb.trans (hy.mono hb.size))⟩
          · intro S ac wx hJ hS hw hoff; have hb := hJ.o hS; have eT13 : ac.eval (.tmp 13) = .pointer (some ⟨y7.heap.size, 0, none⟩) := (hoff 13 (by kernel_rfl)).trans rfl; have eT107 : ac.eval (.tmp 107) = .agg #[.int .i64 nk.count, .int .i64 nk.last, .int .i64 nk.spent, .int .i64 nk.run, .int .i64 nk.left, .int .i64 nk.orders, .bool nk.blocked, .bool nk.owing, .int .i64 nk.purse, .int .i64 nk.one, .int .i64 nk.runs, .int .i64 nk.version, .string nk.key, .string nk.pin] := hJ.v 6 (by decide) (hw 6 (by kernel_rfl)); have gT13 := evT eT13; have gT107 := evT eT107; obtain ⟨⟨a0, a1, a2, a3, a4, a5, a6, a7, a8, a9, a10, a11, a12, a13⟩, _, _, ff, _, _⟩ := unhide HF _ hb; have ff0 := ff 0; have ff1 := ff 1; have ff2 := ff 2; have ff3 := ff 3; have ff4 := ff 4; have ff5 := ff 5; have ff6 := ff 6; have ff7 := ff 7; have ff8 := ff 8; have ff9 := ff 9; have ff10 := ff 10; have ff11 := ff 11; have ff12 := ff 12; have ff13 := ff 13; clear ff
            have hall : ∀ k, k < 7 → S k = true := by
              intro k hk
              have hd : k = 0 ∨ k = 1 ∨ k = 2 ∨ k = 3 ∨ k = 4 ∨ k = 5 ∨ k = 6 := by omega
              rcases hd with rfl | rfl | rfl | rfl | rfl | rfl | rfl
              · exact hw 0 (by kernel_rfl)
              · exact hw 1 (by kernel_rfl)
              · exact hw 2 (by kernel_rfl)
              · exact hw 3 (by kernel_rfl)
              · exact hw 4 (by kernel_rfl)
              · exact hw 5 (by kernel_rfl)
              · exact hw 6 (by kernel_rfl)
            refine Does.skip _ ?_ (hJ.last hS hw hall _); clear hJ hw hoff hall; go_simp
        · intro ac wx S hdf hsz hoff hall hJ; obtain ⟨⟨wz, hb, hwx⟩, _⟩ := hJ.t (hall 7 (by decide)); subst hwx; have hh101 : ac.tmps.getD 101 undef = .agg #[.int .i64 kj.count, .int .i64 kj.last, .int .i64 kj.spent, .int .i64 kj.run, .int .i64 kj.left, .int .i64 kj.orders, .bool kj.blocked, .bool kj.owing, .int .i64 kj.purse, .int .i64 kj.one, .int .i64 kj.runs, .int .i64 kj.version, .string kj.key, .string kj.pin] := hJ.v 0 (by decide) (hall 0 (by decide)); have hh102 : ac.tmps.getD 102 undef = .agg #[.int .i64 x.what, .int .i64 x.n, .string x.text] := hJ.v 1 (by decide) (hall 1 (by decide)); have hh103 : ac.tmps.getD 103 undef = .pointer (some ⟨cb, 0, none⟩) := hJ.v 2 (by decide) (hall 2 (by decide)); have hh104 : ac.tmps.getD 104 undef = .pointer (some ⟨cb, 0, none⟩) := hJ.v 3 (by decide) (hall 3 (by decide)); have hh105 : ac.tmps.getD 105 undef = .pointer (some ⟨cb, 15, none⟩) := hJ.v 4 (by decide) (hall 4 (by decide)); have hh106 : ac.tmps.getD 106 undef = .int .i64 c.tries := hJ.v 5 (by decide) (hall 5 (by decide)); have hh107 : ac.tmps.getD 107 undef = .agg #[.int .i64 nk.count, .int .i64 nk.last, .int .i64 nk.spent, .int .i64 nk.run, .int .i64 nk.left, .int .i64 nk.orders, .bool nk.blocked, .bool nk.owing, .int .i64 nk.purse, .int .i64 nk.one, .int .i64 nk.runs, .int .i64 nk.version, .string nk.key, .string nk.pin] := hJ.v 6 (by decide) (hall 6 (by decide)); have hmix := mix_eq [false, false, false, false, false, false, false, false, false, false, false, false, false, false, false, false, false, false, false, false, false, false, false, false, false, false, false, false, false, false, false, false, false, false, false, false, false, false, false, false, false, false, false, false, false, false, false, false, false, false, false, false, false, false, false, false, false, false, false, false, false, false, false, false, false, false, false, false, false, false, false, false, false, false, false, false, false, false, false, false, false, false, false, false, false, false, false, false, false, false, false, false, false, false, false, false, false, false, false, false, false, true, true, true, true, true, true, true, false, false, false, false] rfl rfl hsz hdf (by kernel_rfl) hoff; clear hoff hall hsz hdf hJ
          simp only [mixL, Nat.reduceAdd, hh101, hh102, hh103, hh104, hh105, hh106, hh107] at hmix
          rw [hmix]; clear hmix hh101 hh102 hh103 hh104 hh105 hh106 hh107; obtain ⟨_, _, _, ff, hbw2, hby2⟩ := unhide HF _ hb; have hz := unhide HYN _ hb
          have HX2 : Hid (∀ W, W = ((((((((((((((wz.setCell ⟨y7.heap.size, 0, none⟩ (.int .i64 nk.count)).setCell ⟨y7.heap.size, 1, none⟩ (.int .i64 nk.last)).setCell ⟨y7.heap.size, 2, none⟩ (.int .i64 nk.spent)).setCell ⟨y7.heap.size, 3, none⟩ (.int .i64 nk.run)).setCell ⟨y7.heap.size, 4, none⟩ (.int .i64 nk.left)).setCell ⟨y7.heap.size, 5, none⟩ (.int .i64 nk.orders)).setCell ⟨y7.heap.size, 6, none⟩ (.bool nk.blocked)).setCell ⟨y7.heap.size, 7, none⟩ (.bool nk.owing)).setCell ⟨y7.heap.size, 8, none⟩ (.int .i64 nk.purse)).setCell ⟨y7.heap.size, 9, none⟩ (.int .i64 nk.one)).setCell ⟨y7.heap.size, 10, none⟩ (.int .i64 nk.runs)).setCell ⟨y7.heap.size, 11, none⟩ (.int .i64 nk.version)).setCell ⟨y7.heap.size, 12, none⟩ (.string nk.key)).setCell ⟨y7.heap.size, 13, none⟩ (.string nk.pin)) → W.heap[y7.heap.size]? = some (.cells (kvL nk) 60) ∧ Below w.heap.size w W ∧ Below y7.heap.size y7 W) := hide (by
            rintro W rfl
            exact ⟨by unfold kvL; simp [World.setCell, Array.getElem?_modify, hz], ((((((((((((((hbw2.setCell (p := ⟨y7.heap.size, 0, none⟩) (unhide HGW).1 _).setCell (p := ⟨y7.heap.size, 1, none⟩) (unhide HGW).1 _).setCell (p := ⟨y7.heap.size, 2, none⟩) (unhide HGW).1 _).setCell (p := ⟨y7.heap.size, 3, none⟩) (unhide HGW).1 _).setCell (p := ⟨y7.heap.size, 4, none⟩) (unhide HGW).1 _).setCell (p := ⟨y7.heap.size, 5, none⟩) (unhide HGW).1 _).setCell (p := ⟨y7.heap.size, 6, none⟩) (unhide HGW).1 _).setCell (p := ⟨y7.heap.size, 7, none⟩) (unhide HGW).1 _).setCell (p := ⟨y7.heap.size, 8, none⟩) (unhide HGW).1 _).setCell (p := ⟨y7.heap.size, 9, none⟩) (unhide HGW).1 _).setCell (p := ⟨y7.heap.size, 10, none⟩) (unhide HGW).1 _).setCell (p := ⟨y7.heap.size, 11, none⟩) (unhide HGW).1 _).setCell (p := ⟨y7.heap.size, 12, none⟩) (unhide HGW).1 _).setCell (p := ⟨y7.heap.size, 13, none⟩) (unhide HGW).1 _), ((((((((((((((hby2.setCell (p := ⟨y7.heap.size, 0, none⟩) (unhide HGW).2 _).setCell (p := ⟨y7.heap.size, 1, none⟩) (unhide HGW).2 _).setCell (p := ⟨y7.heap.size, 2, none⟩) (unhide HGW).2 _).setCell (p := ⟨y7.heap.size, 3, none⟩) (unhide HGW).2 _).setCell (p := ⟨y7.heap.size, 4, none⟩) (unhide HGW).2 _).setCell (p := ⟨y7.heap.size, 5, none⟩) (unhide HGW).2 _).setCell (p := ⟨y7.heap.size, 6, none⟩) (unhide HGW).2 _).setCell (p := ⟨y7.heap.size, 7, none⟩) (unhide HGW).2 _).setCell (p := ⟨y7.heap.size, 8, none⟩) (unhide HGW).2 _).setCell (p := ⟨y7.heap.size, 9, none⟩) (unhide HGW).2 _).setCell (p := ⟨y7.heap.size, 10, none⟩) (unhide HGW).2 _).setCell (p := ⟨y7.heap.size, 11, none⟩) (unhide HGW).2 _).setCell (p := ⟨y7.heap.size, 12, none⟩) (unhide HGW).2 _).setCell (p := ⟨y7.heap.size, 13, none⟩) (unhide HGW).2 _)⟩)
          clear hb ff hbw2 hby2 hz
          go_wp2
          go_roundw
          case rel =>
            obtain ⟨q1, q2, q3⟩ := unhide HX2 _ rfl; refine ⟨j + 1, by have := unhide HJ; omega, by rw [hwj], ?_, q2, q3⟩; rw [unhide HST]; exact q1
          case measure =>
            rw [intOf_intD, intOf_intD, hwj]; exact meas_stepD (unhide HJ)
      · have hjl2 : ¬ (j : Int) < (l.length : Int) := by omega
        have hkl : kj = l.foldl (orderedK c.tries) { c.K with orders := nm } := by rw [hkj, List.take_of_length_le (by omega)]
        have NK := unhide HN8 wr hbw; obtain ⟨kf, hkf⟩ : ∃ kf, kf = l.foldl (orderedK c.tries) { c.K with orders := nm } := ⟨_, rfl⟩; rw [← hkf] at NK
        have hka : valK kf = .agg #[.int .i64 kj.count, .int .i64 kj.last, .int .i64 kj.spent, .int .i64 kj.run, .int .i64 kj.left, .int .i64 kj.orders, .bool kj.blocked, .bool kj.owing, .int .i64 kj.purse, .int .i64 kj.one, .int .i64 kj.runs, .int .i64 kj.version, .string kj.key, .string kj.pin] := by rw [hkf, ← hkl]; rfl
        rw [hka] at NK; have HK := hide NK; have HKF := hide hkf; clear NK hX hbw hby hkj hkl hj hjl HN8 hka hkf
        go_wp2_with fail
        refine (unhide HK).mono ?_; rintro r yz ⟨rfl, q2, q3⟩; have HQ := hide (And.intro q2 q3); clear q2 q3
        go_wp2
        go_ret
        rw [← unhide HKF]; exact ⟨rfl, unhide HQ⟩
end
end Go.Proofs.YtajkbkljonejnaaGreatDoor
