/- The reference: Command, ReadCommand; what is written is read. -/
import Derived.Test.YtamamlpicookiahMX
import Derived.Test.YtamamlpicookiahMY
import Derived.Test.YtamamlpicookiahMYa
import Derived.Test.YtamamlpicookiahMYb
import Derived.Test.YtamamlpicookiahMU
namespace Go.Proofs.Ytamamlpicookiah
open Go.RowKit
set_option linter.unusedVariables false

theorem rcommand_any (c : XCommand) (w : World) (hbk : bulkCommand c ≤ 0x100000) (hin : 1 ≤ c.dO ∧ c.dO ≤ 7) :
    Calls Try.prog 5 #[valCommand c] w fun e w' => e = .returned (.tuple #[.string (commandS c), .int .i64 (commandE c)]) ∧ Below w.heap.size w w' := by
  obtain ⟨S, hS⟩ : ∃ S, S = commandS c := ⟨_, rfl⟩
  obtain ⟨E, hE⟩ : ∃ E, E = commandE c := ⟨_, rfl⟩
  rw [← hS, ← hE]
  unfold commandS at hS
  unfold commandE at hE
  rw [inT_true.2 hin, cond_true] at hS hE
  obtain ⟨dO, nm, dg, wn, ⟨sh, tr, am, ca, dy, bt, no⟩, ex, an, od⟩ := c
  unfold bulkCommand bulkDeal at hbk
  simp only at hbk hin
  have hdo : dO = 1 ∨ dO = 2 ∨ dO = 3 ∨ dO = 4 ∨ dO = 5 ∨ dO = 6 ∨ dO = 7 := by omega
  clear hin
  rcases hdo with rfl | rfl | rfl | rfl | rfl | rfl | rfl
  · rw [← rest_1] at hS hE
    cases hbe : decide ((⟨0, nm, dg, wn, ⟨sh, tr, am, ca, dy, bt, no⟩, ex, an, od⟩ : XCommand) = zeroC) with
    | false =>
      rw [hbe] at hS hE
      obtain rfl : S = ⟨#[]⟩ := hS
      obtain rfl : E = 1 := hE
      exact rcmdN1 nm dg wn sh tr am ca dy bt no ex an od w (by omega) hbe
    | true =>
      rw [hbe] at hS hE
      have hz := of_decide_eq_true hbe
      simp only [zeroC, zeroD, XCommand.mk.injEq, XDeal.mk.injEq] at hz
      clear hbe
      obtain ⟨_, rfl, rfl, rfl, ⟨rfl, rfl, rfl, rfl, rfl, rfl, rfl⟩, rfl, rfl, rfl⟩ := hz
      rw [hS, hE]
      exact rcmdY1 w
  · rw [← rest_2] at hS hE
    cases hbe : decide ((⟨0, ⟨#[]⟩, dg, wn, ⟨sh, tr, am, ca, dy, bt, no⟩, ex, an, od⟩ : XCommand) = zeroC) with
    | false =>
      rw [hbe] at hS hE
      obtain rfl : S = ⟨#[]⟩ := hS
      obtain rfl : E = 1 := hE
      exact rcmdN2 nm dg wn sh tr am ca dy bt no ex an od w (by omega) hbe
    | true =>
      rw [hbe] at hS hE
      have hz := of_decide_eq_true hbe
      simp only [zeroC, zeroD, XCommand.mk.injEq, XDeal.mk.injEq] at hz
      clear hbe
      obtain ⟨_, _, rfl, rfl, ⟨rfl, rfl, rfl, rfl, rfl, rfl, rfl⟩, rfl, rfl, rfl⟩ := hz
      rw [hS, hE]
      exact rcmdY2 nm w (by omega)
  · rw [← rest_3] at hS hE
    cases hbe : decide ((⟨0, nm, dg, wn, ⟨sh, tr, am, ca, dy, bt, no⟩, ex, an, od⟩ : XCommand) = zeroC) with
    | false =>
      rw [hbe] at hS hE
      obtain rfl : S = ⟨#[]⟩ := hS
      obtain rfl : E = 1 := hE
      exact rcmdN3 nm dg wn sh tr am ca dy bt no ex an od w (by omega) hbe
    | true =>
      rw [hbe] at hS hE
      have hz := of_decide_eq_true hbe
      simp only [zeroC, zeroD, XCommand.mk.injEq, XDeal.mk.injEq] at hz
      clear hbe
      obtain ⟨_, rfl, rfl, rfl, ⟨rfl, rfl, rfl, rfl, rfl, rfl, rfl⟩, rfl, rfl, rfl⟩ := hz
      rw [hS, hE]
      exact rcmdY3 w
  · rw [← rest_4] at hS hE
    cases hbe : decide ((⟨0, nm, ⟨#[]⟩, wn, ⟨sh, tr, am, ca, dy, bt, no⟩, ex, an, od⟩ : XCommand) = zeroC) with
    | false =>
      rw [hbe] at hS hE
      obtain rfl : S = ⟨#[]⟩ := hS
      obtain rfl : E = 1 := hE
      exact rcmdN4 nm dg wn sh tr am ca dy bt no ex an od w (by omega) hbe
    | true =>
      rw [hbe] at hS hE
      have hz := of_decide_eq_true hbe
      simp only [zeroC, zeroD, XCommand.mk.injEq, XDeal.mk.injEq] at hz
      clear hbe
      obtain ⟨_, rfl, _, rfl, ⟨rfl, rfl, rfl, rfl, rfl, rfl, rfl⟩, rfl, rfl, rfl⟩ := hz
      rw [hS, hE]
      exact rcmdY4 dg w (by omega)
  · rw [← rest_5] at hS hE
    cases hbe : decide ((⟨0, nm, dg, 0, ⟨0, 0, 0, false, 0, 0, ⟨#[]⟩⟩, ⟨#[]⟩, an, od⟩ : XCommand) = zeroC) with
    | false =>
      rw [hbe] at hS hE
      obtain rfl : S = ⟨#[]⟩ := hS
      obtain rfl : E = 1 := hE
      exact rcmdN5 nm dg wn sh tr am ca dy bt no ex an od w (by omega) hbe
    | true =>
      rw [hbe] at hS hE
      have hz := of_decide_eq_true hbe
      simp only [zeroC, zeroD, XCommand.mk.injEq] at hz
      clear hbe
      obtain ⟨_, rfl, rfl, _, _, _, rfl, rfl⟩ := hz
      rw [hS, hE]
      exact rcmdY5 wn sh tr am ca dy bt no ex w (by omega)
  · rw [← rest_6] at hS hE
    cases hbe : decide ((⟨0, nm, dg, 0, ⟨sh, tr, am, ca, dy, bt, no⟩, ex, ⟨#[]⟩, od⟩ : XCommand) = zeroC) with
    | false =>
      rw [hbe] at hS hE
      obtain rfl : S = ⟨#[]⟩ := hS
      obtain rfl : E = 1 := hE
      exact rcmdN6 nm dg wn sh tr am ca dy bt no ex an od w (by omega) hbe
    | true =>
      rw [hbe] at hS hE
      have hz := of_decide_eq_true hbe
      simp only [zeroC, zeroD, XCommand.mk.injEq, XDeal.mk.injEq] at hz
      clear hbe
      obtain ⟨_, rfl, rfl, _, ⟨rfl, rfl, rfl, rfl, rfl, rfl, rfl⟩, rfl, _, rfl⟩ := hz
      rw [hS, hE]
      exact rcmdY6 wn an w (by omega)
  · rw [← rest_7] at hS hE
    cases hbe : decide ((⟨0, nm, dg, wn, ⟨sh, tr, am, ca, dy, bt, no⟩, ex, an, ⟨#[]⟩⟩ : XCommand) = zeroC) with
    | false =>
      rw [hbe] at hS hE
      obtain rfl : S = ⟨#[]⟩ := hS
      obtain rfl : E = 1 := hE
      exact rcmdN7 nm dg wn sh tr am ca dy bt no ex an od w (by omega) hbe
    | true =>
      rw [hbe] at hS hE
      have hz := of_decide_eq_true hbe
      simp only [zeroC, zeroD, XCommand.mk.injEq, XDeal.mk.injEq] at hz
      clear hbe
      obtain ⟨_, rfl, rfl, rfl, ⟨rfl, rfl, rfl, rfl, rfl, rfl, rfl⟩, rfl, rfl, _⟩ := hz
      rw [hS, hE]
      exact rcmdY7 od w (by omega)
set_option maxRecDepth 100000 in
set_option maxHeartbeats 2000000 in
theorem rcommand_no (c : XCommand) (w : World) (hin : ¬ (1 ≤ c.dO ∧ c.dO ≤ 7)) :
    Calls Try.prog 5 #[valCommand c] w fun e w' => e = .returned (.tuple #[.string (commandS c), .int .i64 (commandE c)]) ∧ Below w.heap.size w w' := by
  have hS : commandS c = ⟨#[]⟩ := by unfold commandS; rw [inT_false hin]; rfl
  have hE : commandE c = 4 := by unfold commandE; rw [inT_false hin]; rfl
  rw [hS, hE]
  obtain ⟨dO, nm, dg, wn, ⟨sh, tr, am, ca, dy, bt, no⟩, ex, an, od⟩ := c
  simp only at hin
  have hvc : valCommand ⟨dO, nm, dg, wn, ⟨sh, tr, am, ca, dy, bt, no⟩, ex, an, od⟩ = .agg #[.int .i64 dO, .string nm, .string dg, .int .i64 wn, .int .i64 sh, .int .i64 tr, .int .i64 am, .bool ca, .int .i64 dy, .int .i64 bt, .string no, .string ex, .string an, .string od] := rfl
  rw [hvc]
  have HB0 := hide ((Below.refl w.heap.size w).alloc (Nat.le_refl _) (.cells #[.int .i64 dO, .string nm, .string dg, .int .i64 wn, .int .i64 sh, .int .i64 tr, .int .i64 am, .bool ca, .int .i64 dy, .int .i64 bt, .string no, .string ex, .string an, .string od] 25))
  clear hvc hS hE
  by_cases h1 : dO < 1
  · clear hin
    go_enter Try.func5, Try.ntmps5
    go_wp2
    exact bodyPost_ret (v := .tuple #[.string ⟨#[]⟩, .int .i64 4]) (by simp [results, Try.results5, go_sem]) rfl ⟨rfl, unhide HB0⟩
  · have h2 : 7 < dO := by omega
    clear hin
    go_enter Try.func5, Try.ntmps5
    go_wp2
    exact bodyPost_ret (v := .tuple #[.string ⟨#[]⟩, .int .i64 4]) (by simp [results, Try.results5, go_sem]) rfl ⟨rfl, unhide HB0⟩
theorem rcommand_all (c : XCommand) (w : World) (hbk : bulkCommand c ≤ 0x100000) :
    Calls Try.prog 5 #[valCommand c] w fun e w' => e = .returned (.tuple #[.string (commandS c), .int .i64 (commandE c)]) ∧ Below w.heap.size w w' := by
  by_cases hin : 1 ≤ c.dO ∧ c.dO ≤ 7
  · exact rcommand_any c w hbk hin
  · exact rcommand_no c w hin
theorem getR_size (t : Int) (D : List It) (h : wt 8 D ≤ 65535) : (getR t D).size ≤ 65535 := by
  match D, h with
  | [], _ => exact Nat.zero_le _
  | x :: y :: r, _ => exact Nat.zero_le _
  | [x], h =>
    have h1 := wt_get (d := 7) (l := [x]) (i := 0) (x := x) rfl
    have h2 : wt (7 + 1) [x] ≤ 65535 := h
    show (if x.tag = 161 then (x.list.findSome? (hasI t)).getD ⟨#[]⟩ else ⟨#[]⟩).size ≤ 65535
    split
    · cases hf : x.list.findSome? (hasI t) with
      | none => exact Nat.zero_le _
      | some u =>
        obtain ⟨y, hy, he⟩ := List.exists_of_findSome?_eq_some hf
        obtain ⟨i, hi, rfl⟩ := List.mem_iff_getElem.1 hy
        have h3 := wt_get (d := 6) (List.getElem?_eq_getElem hi)
        have h4 : wt (6 + 1) x.list = wt 7 x.list := rfl
        unfold hasI at he
        split at he
        · obtain rfl := Option.some.inj he
          show (x.list[i]).text.size ≤ 65535
          omega
        · cases he
    · exact Nat.zero_le _
theorem numR_bound (s : ByteArray) : numR s ≤ 9223372036854775807 := by
  unfold numR
  split
  · decide
  · have := valN_lt7 s (by omega); omega
theorem comG_bulk (s : ByteArray) : bulkCommand (comG s) ≤ 0x100000 ∧ (comG s).want ≤ 9223372036854775807 := by
  have hw := parses_wt s
  have g1 := getR_size 129 (parsesL s) hw; have g2 := getR_size 130 (parsesL s) hw; have g3 := getR_size 132 (parsesL s) hw; have g4 := getR_size 133 (parsesL s) hw; have g5 := getR_size 134 (parsesL s) hw; have g6 := getR_size 135 (parsesL s) hw
  have hd : bulkDeal (dealR (getR 132 (parsesL s))) ≤ 65535 := by
    generalize getR 132 (parsesL s) = q at *
    unfold dealR
    split
    · show (q.extract 21 q.size).size ≤ 65535
      rw [ByteArray.size_extract]; omega
    · exact Nat.zero_le _
  refine ⟨?_, numR_bound _⟩
  show (getR 129 (parsesL s)).size + (getR 130 (parsesL s)).size + bulkDeal (dealR (getR 132 (parsesL s))) + (getR 133 (parsesL s)).size + (getR 134 (parsesL s)).size + (getR 135 (parsesL s)).size ≤ 0x100000
  omega
theorem comF_want (s : ByteArray) : (comF s).want ≤ 9223372036854775807 := by
  unfold comF
  split
  · exact (readV_bound _).2
  · decide
set_option maxRecDepth 100000 in
set_option maxHeartbeats 2000000 in
theorem rlit_any (s : ByteArray) (t : Int) (g : Nat) (w : World) (hs : s.size ≤ maxLen) (hc : w.cell? ⟨g, 0, none⟩ = some (.string s)) :
    Calls Try.prog 21 #[.int .i64 t, .pointer (some ⟨g, 0, none⟩)] w fun e w' => e = .returned (.string (getR t (parsesL s))) ∧ Below w.heap.size w w' := by
  have N1 := hide (fun w => rget_any s t w hs)
  generalize getR t (parsesL s) = q at *
  go_enter Try.func21, Try.ntmps21
  go_wp2_with fail
  refine (unhide N1 _).mono ?_
  rintro e w1 ⟨rfl, hb1⟩
  go_wp2
  go_ret
  exact ⟨rfl, hb1⟩
set_option maxRecDepth 100000 in
set_option maxHeartbeats 4000000 in
theorem rreadCommand_any (s : ByteArray) (w : World) (hs : s.size ≤ maxLen) :
    Calls Try.prog 7 #[.string s] w fun e w' => e = .returned (.tuple #[valCommand (readCL comG s), .int .i64 (readCE comG s)]) ∧ Below w.heap.size w w' := by
  have hz : valCommand zeroC = .agg #[.int .i64 0, .string ⟨#[]⟩, .string ⟨#[]⟩, .int .i64 0, .int .i64 0, .int .i64 0, .int .i64 0, .bool false, .int .i64 0, .int .i64 0, .string ⟨#[]⟩, .string ⟨#[]⟩, .string ⟨#[]⟩, .string ⟨#[]⟩] := rfl
  have n1 := fun t g w hc => rlit_any s t g w hs hc
  have hw := parses_wt s
  have g3 := getR_size 132 (parsesL s) hw
  have n2 := fun w => rnum_any (getR 128 (parsesL s)) w
  have n3 := fun w => rnum_any (getR 131 (parsesL s)) w
  have n4 := fun w => rdealOf_any (getR 132 (parsesL s)) w (by unfold maxLen; omega)
  have n5 := fun w => rcommand_all (comG s) w (comG_bulk s).1
  have hvd : valDeal (dealR (getR 132 (parsesL s))) = .agg #[.int .i64 (dealR (getR 132 (parsesL s))).shop, .int .i64 (dealR (getR 132 (parsesL s))).trace, .int .i64 (dealR (getR 132 (parsesL s))).amount, .bool (dealR (getR 132 (parsesL s))).cash, .int .i64 (dealR (getR 132 (parsesL s))).day, .int .i64 (dealR (getR 132 (parsesL s))).bits, .string (dealR (getR 132 (parsesL s))).nonce] := rfl
  rw [hvd] at n4
  have hvc : valCommand (comG s) = .agg #[.int .i64 (numR (getR 128 (parsesL s))), .string (getR 129 (parsesL s)), .string (getR 130 (parsesL s)), .int .i64 (numR (getR 131 (parsesL s))), .int .i64 (dealR (getR 132 (parsesL s))).shop, .int .i64 (dealR (getR 132 (parsesL s))).trace, .int .i64 (dealR (getR 132 (parsesL s))).amount, .bool (dealR (getR 132 (parsesL s))).cash, .int .i64 (dealR (getR 132 (parsesL s))).day, .int .i64 (dealR (getR 132 (parsesL s))).bits, .string (dealR (getR 132 (parsesL s))).nonce, .string (getR 133 (parsesL s)), .string (getR 134 (parsesL s)), .string (getR 135 (parsesL s))] := rfl
  rw [hvc] at n5
  have HRD : Hid (readC comG s = if commandE (comG s) = 0 ∧ commandS (comG s) = s then some (comG s) else none) := hide rfl
  have HRL : Hid (readCL comG s = (readC comG s).getD zeroC) := hide rfl
  have HRE : Hid (readCE comG s = if (readC comG s).isSome then 0 else 1) := hide rfl
  generalize readCL comG s = RL at *
  generalize readCE comG s = RE at *
  generalize readC comG s = RC at *
  generalize commandE (comG s) = ce at *
  generalize commandS (comG s) = cs at *
  have HVC := hide hvc
  clear hvc hvd g3 hw
  generalize comG s = cg at *
  generalize dealR (getR 132 (parsesL s)) = dl at *
  obtain ⟨sh, tr, am, ca, dy, bt, no⟩ := dl
  simp only at n4 n5 HVC
  generalize numR (getR 128 (parsesL s)) = dO at *
  generalize numR (getR 131 (parsesL s)) = wn at *
  have l128 := fun g w hc => n1 128 g w hc
  have l129 := fun g w hc => n1 129 g w hc
  have l130 := fun g w hc => n1 130 g w hc
  have l131 := fun g w hc => n1 131 g w hc
  have l132 := fun g w hc => n1 132 g w hc
  have l133 := fun g w hc => n1 133 g w hc
  have l134 := fun g w hc => n1 134 g w hc
  have l135 := fun g w hc => n1 135 g w hc
  clear n1
  generalize getR 128 (parsesL s) = t128 at *
  generalize getR 129 (parsesL s) = nm at *
  generalize getR 130 (parsesL s) = dg at *
  generalize getR 131 (parsesL s) = t131 at *
  generalize getR 132 (parsesL s) = t132 at *
  generalize getR 133 (parsesL s) = ex at *
  generalize getR 134 (parsesL s) = an at *
  generalize getR 135 (parsesL s) = od at *
  have L128 := hide l128; have L129 := hide l129; have L130 := hide l130; have L131 := hide l131; have L132 := hide l132; have L133 := hide l133; have L134 := hide l134; have L135 := hide l135
  have N2 := hide n2; have N3 := hide n3; have N4 := hide n4; have N5 := hide n5; have HZ := hide hz
  clear l128 l129 l130 l131 l132 l133 l134 l135 n2 n3 n4 n5 hz hs
  obtain ⟨kk1, kk2⟩ := two_newP w (.cells #[.string s] 9) (.cells #[.int .i64 0, .string ⟨#[]⟩, .string ⟨#[]⟩, .int .i64 0, .int .i64 0, .int .i64 0, .int .i64 0, .bool false, .int .i64 0, .int .i64 0, .string ⟨#[]⟩, .string ⟨#[]⟩, .string ⟨#[]⟩, .string ⟨#[]⟩] 25)
  have HS0 := hide kk1; have HK0 := hide kk2
  have HB0 := hide (((Below.refl w.heap.size w).alloc (Nat.le_refl _) (.cells #[.string s] 9)).alloc (by simp) (.cells #[.int .i64 0, .string ⟨#[]⟩, .string ⟨#[]⟩, .int .i64 0, .int .i64 0, .int .i64 0, .int .i64 0, .bool false, .int .i64 0, .int .i64 0, .string ⟨#[]⟩, .string ⟨#[]⟩, .string ⟨#[]⟩, .string ⟨#[]⟩] 25))
  have hc0 := cell_of_row _ _ 0 _ _ _ kk1
  have HC0 : Hid (((w.alloc (.cells #[.string s] 9)).alloc (.cells #[.int .i64 0, .string ⟨#[]⟩, .string ⟨#[]⟩, .int .i64 0, .int .i64 0, .int .i64 0, .int .i64 0, .bool false, .int .i64 0, .int .i64 0, .string ⟨#[]⟩, .string ⟨#[]⟩, .string ⟨#[]⟩, .string ⟨#[]⟩] 25)).cell? ⟨w.heap.size, 0, none⟩ = some (.string s)) := hide hc0
  clear kk1 kk2 hc0
  go_enter Try.func7, Try.ntmps7
  go_wp2_with fail
  refine (unhide L128 _ _ (unhide HC0)).mono ?_
  rintro e w1 ⟨rfl, hb⟩
  have HS1 := hide ((hb.block _ (block_ltQ (unhide HS0))).trans (unhide HS0))
  have HK1 := hide ((hb.block _ (block_ltQ (unhide HK0))).trans (unhide HK0))
  have HB1 := hide (ext_callQ (unhide HB0) hb)
  have HC1 : Hid (w1.cell? ⟨w.heap.size, 0, none⟩ = some (.string s)) := hide (cell_of_row _ _ 0 _ _ _ (unhide HS1))
  clear hb HS0 HK0 HB0 HC0
  go_wp2_with fail
  refine (unhide N2 _).mono ?_
  rintro e wq ⟨rfl, hwq⟩
  rw [hwq]
  clear hwq
  go_wp2_with fail
  refine (unhide L129 _ _ (unhide HC1)).mono ?_
  rintro e w2 ⟨rfl, hb⟩
  have HS2 := hide ((hb.block _ (block_ltQ (unhide HS1))).trans (unhide HS1))
  have HK2 := hide ((hb.block _ (block_ltQ (unhide HK1))).trans (unhide HK1))
  have HB2 := hide (ext_callQ (unhide HB1) hb)
  have HC2 : Hid (w2.cell? ⟨w.heap.size, 0, none⟩ = some (.string s)) := hide (cell_of_row _ _ 0 _ _ _ (unhide HS2))
  clear hb HS1 HK1 HB1 HC1
  go_wp2_with fail
  refine (unhide L130 _ _ (unhide HC2)).mono ?_
  rintro e w3 ⟨rfl, hb⟩
  have HS3 := hide ((hb.block _ (block_ltQ (unhide HS2))).trans (unhide HS2))
  have HK3 := hide ((hb.block _ (block_ltQ (unhide HK2))).trans (unhide HK2))
  have HB3 := hide (ext_callQ (unhide HB2) hb)
  have HC3 : Hid (w3.cell? ⟨w.heap.size, 0, none⟩ = some (.string s)) := hide (cell_of_row _ _ 0 _ _ _ (unhide HS3))
  clear hb HS2 HK2 HB2 HC2
  go_wp2_with fail
  refine (unhide L131 _ _ (unhide HC3)).mono ?_
  rintro e w4 ⟨rfl, hb⟩
  have HS4 := hide ((hb.block _ (block_ltQ (unhide HS3))).trans (unhide HS3))
  have HK4 := hide ((hb.block _ (block_ltQ (unhide HK3))).trans (unhide HK3))
  have HB4 := hide (ext_callQ (unhide HB3) hb)
  have HC4 : Hid (w4.cell? ⟨w.heap.size, 0, none⟩ = some (.string s)) := hide (cell_of_row _ _ 0 _ _ _ (unhide HS4))
  clear hb HS3 HK3 HB3 HC3
  go_wp2_with fail
  refine (unhide N3 _).mono ?_
  rintro e wq ⟨rfl, hwq⟩
  rw [hwq]
  clear hwq
  go_wp2_with fail
  refine (unhide L132 _ _ (unhide HC4)).mono ?_
  rintro e w5 ⟨rfl, hb⟩
  have HS5 := hide ((hb.block _ (block_ltQ (unhide HS4))).trans (unhide HS4))
  have HK5 := hide ((hb.block _ (block_ltQ (unhide HK4))).trans (unhide HK4))
  have HB5 := hide (ext_callQ (unhide HB4) hb)
  have HC5 : Hid (w5.cell? ⟨w.heap.size, 0, none⟩ = some (.string s)) := hide (cell_of_row _ _ 0 _ _ _ (unhide HS5))
  clear hb HS4 HK4 HB4 HC4
  go_wp2_with fail
  refine (unhide N4 _).mono ?_
  rintro e w6 ⟨rfl, hb⟩
  have HS6 := hide ((hb.block _ (block_ltQ (unhide HS5))).trans (unhide HS5))
  have HK6 := hide ((hb.block _ (block_ltQ (unhide HK5))).trans (unhide HK5))
  have HB6 := hide (ext_callQ (unhide HB5) hb)
  have HC6 : Hid (w6.cell? ⟨w.heap.size, 0, none⟩ = some (.string s)) := hide (cell_of_row _ _ 0 _ _ _ (unhide HS6))
  clear hb HS5 HK5 HB5 HC5
  go_wp2_with fail
  refine (unhide L133 _ _ (unhide HC6)).mono ?_
  rintro e w7 ⟨rfl, hb⟩
  have HS7 := hide ((hb.block _ (block_ltQ (unhide HS6))).trans (unhide HS6))
  have HK7 := hide ((hb.block _ (block_ltQ (unhide HK6))).trans (unhide HK6))
  have HB7 := hide (ext_callQ (unhide HB6) hb)
  have HC7 : Hid (w7.cell? ⟨w.heap.size, 0, none⟩ = some (.string s)) := hide (cell_of_row _ _ 0 _ _ _ (unhide HS7))
  clear hb HS6 HK6 HB6 HC6
  go_wp2_with fail
  refine (unhide L134 _ _ (unhide HC7)).mono ?_
  rintro e w8 ⟨rfl, hb⟩
  have HS8 := hide ((hb.block _ (block_ltQ (unhide HS7))).trans (unhide HS7))
  have HK8 := hide ((hb.block _ (block_ltQ (unhide HK7))).trans (unhide HK7))
  have HB8 := hide (ext_callQ (unhide HB7) hb)
  have HC8 : Hid (w8.cell? ⟨w.heap.size, 0, none⟩ = some (.string s)) := hide (cell_of_row _ _ 0 _ _ _ (unhide HS8))
  clear hb HS7 HK7 HB7 HC7
  go_wp2_with fail
  refine (unhide L135 _ _ (unhide HC8)).mono ?_
  rintro e w9 ⟨rfl, hb⟩
  have HS9 := hide ((hb.block _ (block_ltQ (unhide HS8))).trans (unhide HS8))
  have HK9 := hide ((hb.block _ (block_ltQ (unhide HK8))).trans (unhide HK8))
  have HB9 := hide (ext_callQ (unhide HB8) hb)
  have HC9 : Hid (w9.cell? ⟨w.heap.size, 0, none⟩ = some (.string s)) := hide (cell_of_row _ _ 0 _ _ _ (unhide HS9))
  clear hb HS8 HK8 HB8 HC8
  go_wp2_with fail
  refine (unhide N5 _).mono ?_
  rintro e wz ⟨rfl, hb⟩
  have HSz := hide ((hb.block _ (block_ltQ (alloc_keepQT (unhide HS9)))).trans (alloc_keepQT (unhide HS9)))
  have HKz := hide ((hb.block _ (block_ltQ (alloc_keepQT (unhide HK9)))).trans (alloc_keepQT (unhide HK9)))
  have HCz := hide ((hb.block _ (block_ltQ (heap_alloc_new w9 (.cells #[.int .i64 dO, .string nm, .string dg, .int .i64 wn, .int .i64 sh, .int .i64 tr, .int .i64 am, .bool ca, .int .i64 dy, .int .i64 bt, .string no, .string ex, .string an, .string od] 25)))).trans (heap_alloc_new w9 (.cells #[.int .i64 dO, .string nm, .string dg, .int .i64 wn, .int .i64 sh, .int .i64 tr, .int .i64 am, .bool ca, .int .i64 dy, .int .i64 bt, .string no, .string ex, .string an, .string od] 25)))
  have HBz := hide (ext_callQ (ext_allocQ (unhide HB9) _) hb)
  have hcz : wz.cell? ⟨w.heap.size, 0, none⟩ = some (.string s) := cell_of_row _ _ 0 _ _ _ (unhide HSz)
  clear hb HS9 HK9 HB9 HC9
  have y0 : wz.cell? ⟨w.heap.size + 1, 0, none⟩ = some (.int .i64 0) := cell_of_row _ _ 0 _ _ _ (unhide HKz)
  have y1 : wz.cell? ⟨w.heap.size + 1, 1, none⟩ = some (.string ⟨#[]⟩) := cell_of_row _ _ 1 _ _ _ (unhide HKz)
  have y2 : wz.cell? ⟨w.heap.size + 1, 2, none⟩ = some (.string ⟨#[]⟩) := cell_of_row _ _ 2 _ _ _ (unhide HKz)
  have y3 : wz.cell? ⟨w.heap.size + 1, 3, none⟩ = some (.int .i64 0) := cell_of_row _ _ 3 _ _ _ (unhide HKz)
  have y4 : wz.cell? ⟨w.heap.size + 1, 4, none⟩ = some (.int .i64 0) := cell_of_row _ _ 4 _ _ _ (unhide HKz)
  have y5 : wz.cell? ⟨w.heap.size + 1, 5, none⟩ = some (.int .i64 0) := cell_of_row _ _ 5 _ _ _ (unhide HKz)
  have y6 : wz.cell? ⟨w.heap.size + 1, 6, none⟩ = some (.int .i64 0) := cell_of_row _ _ 6 _ _ _ (unhide HKz)
  have y7 : wz.cell? ⟨w.heap.size + 1, 7, none⟩ = some (.bool false) := cell_of_row _ _ 7 _ _ _ (unhide HKz)
  have y8 : wz.cell? ⟨w.heap.size + 1, 8, none⟩ = some (.int .i64 0) := cell_of_row _ _ 8 _ _ _ (unhide HKz)
  have y9 : wz.cell? ⟨w.heap.size + 1, 9, none⟩ = some (.int .i64 0) := cell_of_row _ _ 9 _ _ _ (unhide HKz)
  have y10 : wz.cell? ⟨w.heap.size + 1, 10, none⟩ = some (.string ⟨#[]⟩) := cell_of_row _ _ 10 _ _ _ (unhide HKz)
  have y11 : wz.cell? ⟨w.heap.size + 1, 11, none⟩ = some (.string ⟨#[]⟩) := cell_of_row _ _ 11 _ _ _ (unhide HKz)
  have y12 : wz.cell? ⟨w.heap.size + 1, 12, none⟩ = some (.string ⟨#[]⟩) := cell_of_row _ _ 12 _ _ _ (unhide HKz)
  have y13 : wz.cell? ⟨w.heap.size + 1, 13, none⟩ = some (.string ⟨#[]⟩) := cell_of_row _ _ 13 _ _ _ (unhide HKz)
  have yf : ∀ o, wz.frozen? ⟨w.heap.size + 1, o, none⟩ = false := fun o => frozen_of_row _ _ o _ _ (unhide HKz)
  by_cases hce : ce = 0
  case neg =>
    have t1 : (ce != 0) = true := by simpa using hce
    have h1 : RC = none := by rw [unhide HRD, if_neg (fun h => hce h.1)]
    have h2 : valCommand RL = .agg #[.int .i64 0, .string ⟨#[]⟩, .string ⟨#[]⟩, .int .i64 0, .int .i64 0, .int .i64 0, .int .i64 0, .bool false, .int .i64 0, .int .i64 0, .string ⟨#[]⟩, .string ⟨#[]⟩, .string ⟨#[]⟩, .string ⟨#[]⟩] := by rw [unhide HRL, h1]; exact unhide HZ
    have h3 : RE = 1 := by rw [unhide HRE, h1]; rfl
    have H2 := hide h2; have H3 := hide h3
    clear h1 h2 h3
    go_wp2
    refine bodyPost_ret (v := .tuple #[.agg #[.int .i64 0, .string ⟨#[]⟩, .string ⟨#[]⟩, .int .i64 0, .int .i64 0, .int .i64 0, .int .i64 0, .bool false, .int .i64 0, .int .i64 0, .string ⟨#[]⟩, .string ⟨#[]⟩, .string ⟨#[]⟩, .string ⟨#[]⟩], .int .i64 1]) (by simp [results, Try.results7, go_sem, y0, y1, y2, y3, y4, y5, y6, y7, y8, y9, y10, y11, y12, y13]) rfl ?_
    exact ⟨ret_cmdQ (unhide H2).symm (unhide H3).symm, (((((((((((((((unhide HBz).setCell (Nat.le_succ _) _).setCell (Nat.le_succ _) _).setCell (Nat.le_succ _) _).setCell (Nat.le_succ _) _).setCell (Nat.le_succ _) _).setCell (Nat.le_succ _) _).setCell (Nat.le_succ _) _).setCell (Nat.le_succ _) _).setCell (Nat.le_succ _) _).setCell (Nat.le_succ _) _).setCell (Nat.le_succ _) _).setCell (Nat.le_succ _) _).setCell (Nat.le_succ _) _).setCell (Nat.le_succ _) _)⟩
  subst hce
  by_cases hse : cs = s
  case neg =>
    have t2 : (cs.toList == s.toList) = false := toList_neQ hse
    have h1 : RC = none := by rw [unhide HRD, if_neg (fun h => hse h.2)]
    have h2 : valCommand RL = .agg #[.int .i64 0, .string ⟨#[]⟩, .string ⟨#[]⟩, .int .i64 0, .int .i64 0, .int .i64 0, .int .i64 0, .bool false, .int .i64 0, .int .i64 0, .string ⟨#[]⟩, .string ⟨#[]⟩, .string ⟨#[]⟩, .string ⟨#[]⟩] := by rw [unhide HRL, h1]; exact unhide HZ
    have h3 : RE = 1 := by rw [unhide HRE, h1]; rfl
    have H2 := hide h2; have H3 := hide h3
    clear h1 h2 h3
    go_wp2
    refine bodyPost_ret (v := .tuple #[.agg #[.int .i64 0, .string ⟨#[]⟩, .string ⟨#[]⟩, .int .i64 0, .int .i64 0, .int .i64 0, .int .i64 0, .bool false, .int .i64 0, .int .i64 0, .string ⟨#[]⟩, .string ⟨#[]⟩, .string ⟨#[]⟩, .string ⟨#[]⟩], .int .i64 1]) (by simp [results, Try.results7, go_sem, y0, y1, y2, y3, y4, y5, y6, y7, y8, y9, y10, y11, y12, y13]) rfl ?_
    exact ⟨ret_cmdQ (unhide H2).symm (unhide H3).symm, (((((((((((((((unhide HBz).setCell (Nat.le_succ _) _).setCell (Nat.le_succ _) _).setCell (Nat.le_succ _) _).setCell (Nat.le_succ _) _).setCell (Nat.le_succ _) _).setCell (Nat.le_succ _) _).setCell (Nat.le_succ _) _).setCell (Nat.le_succ _) _).setCell (Nat.le_succ _) _).setCell (Nat.le_succ _) _).setCell (Nat.le_succ _) _).setCell (Nat.le_succ _) _).setCell (Nat.le_succ _) _).setCell (Nat.le_succ _) _)⟩
  subst hse
  have t2 : (cs.toList == cs.toList) = true := by simp
  have h1 : RC = some cg := by rw [unhide HRD, if_pos ⟨rfl, rfl⟩]
  have h2 : valCommand RL = .agg #[.int .i64 dO, .string nm, .string dg, .int .i64 wn, .int .i64 sh, .int .i64 tr, .int .i64 am, .bool ca, .int .i64 dy, .int .i64 bt, .string no, .string ex, .string an, .string od] := by rw [unhide HRL, h1]; exact unhide HVC
  have h3 : RE = 0 := by rw [unhide HRE, h1]; rfl
  have H2 := hide h2; have H3 := hide h3
  clear h1 h2 h3
  have x0 : wz.cell? ⟨w9.heap.size, 0, none⟩ = some (.int .i64 dO) := cell_of_row _ _ 0 _ _ _ (unhide HCz)
  have x1 : wz.cell? ⟨w9.heap.size, 1, none⟩ = some (.string nm) := cell_of_row _ _ 1 _ _ _ (unhide HCz)
  have x2 : wz.cell? ⟨w9.heap.size, 2, none⟩ = some (.string dg) := cell_of_row _ _ 2 _ _ _ (unhide HCz)
  have x3 : wz.cell? ⟨w9.heap.size, 3, none⟩ = some (.int .i64 wn) := cell_of_row _ _ 3 _ _ _ (unhide HCz)
  have x4 : wz.cell? ⟨w9.heap.size, 4, none⟩ = some (.int .i64 sh) := cell_of_row _ _ 4 _ _ _ (unhide HCz)
  have x5 : wz.cell? ⟨w9.heap.size, 5, none⟩ = some (.int .i64 tr) := cell_of_row _ _ 5 _ _ _ (unhide HCz)
  have x6 : wz.cell? ⟨w9.heap.size, 6, none⟩ = some (.int .i64 am) := cell_of_row _ _ 6 _ _ _ (unhide HCz)
  have x7 : wz.cell? ⟨w9.heap.size, 7, none⟩ = some (.bool ca) := cell_of_row _ _ 7 _ _ _ (unhide HCz)
  have x8 : wz.cell? ⟨w9.heap.size, 8, none⟩ = some (.int .i64 dy) := cell_of_row _ _ 8 _ _ _ (unhide HCz)
  have x9 : wz.cell? ⟨w9.heap.size, 9, none⟩ = some (.int .i64 bt) := cell_of_row _ _ 9 _ _ _ (unhide HCz)
  have x10 : wz.cell? ⟨w9.heap.size, 10, none⟩ = some (.string no) := cell_of_row _ _ 10 _ _ _ (unhide HCz)
  have x11 : wz.cell? ⟨w9.heap.size, 11, none⟩ = some (.string ex) := cell_of_row _ _ 11 _ _ _ (unhide HCz)
  have x12 : wz.cell? ⟨w9.heap.size, 12, none⟩ = some (.string an) := cell_of_row _ _ 12 _ _ _ (unhide HCz)
  have x13 : wz.cell? ⟨w9.heap.size, 13, none⟩ = some (.string od) := cell_of_row _ _ 13 _ _ _ (unhide HCz)
  go_wp2
  refine bodyPost_ret (v := .tuple #[.agg #[.int .i64 dO, .string nm, .string dg, .int .i64 wn, .int .i64 sh, .int .i64 tr, .int .i64 am, .bool ca, .int .i64 dy, .int .i64 bt, .string no, .string ex, .string an, .string od], .int .i64 0]) (by simp [results, Try.results7, go_sem, y0, y1, y2, y3, y4, y5, y6, y7, y8, y9, y10, y11, y12, y13]) rfl ?_
  exact ⟨ret_cmdQ (unhide H2).symm (unhide H3).symm, (((((((((((((((unhide HBz).setCell (Nat.le_succ _) _).setCell (Nat.le_succ _) _).setCell (Nat.le_succ _) _).setCell (Nat.le_succ _) _).setCell (Nat.le_succ _) _).setCell (Nat.le_succ _) _).setCell (Nat.le_succ _) _).setCell (Nat.le_succ _) _).setCell (Nat.le_succ _) _).setCell (Nat.le_succ _) _).setCell (Nat.le_succ _) _).setCell (Nat.le_succ _) _).setCell (Nat.le_succ _) _).setCell (Nat.le_succ _) _)⟩
end Go.Proofs.Ytamamlpicookiah
