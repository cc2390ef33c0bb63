/- Commands read, by the reference: DealOf. -/
import Derived.Test.YtamamlpicookiahMR
import Derived.Test.YtamamlpicookiahMS
namespace Go.Proofs.Ytamamlpicookiah
open Go.RowKit
set_option linter.unusedVariables false

/-- the deal of a text, as the reference reads it -/
def dealR (s : ByteArray) : XDeal := if s.size = 29 ∧ byteAt s 8 ≤ 127 then ⟨valN (s.extract 0 4).data.toList, valN (s.extract 4 8).data.toList, valN (s.extract 8 16).data.toList, (byteAt s 16 == 1), valN (s.extract 17 19).data.toList, valN (s.extract 19 21).data.toList, s.extract 21 s.size⟩ else zeroD
theorem byteAt_extract (s : ByteArray) (i j : Nat) (h : i < j) (hj : j ≤ s.size) : byteAt (s.extract i j) 0 = byteAt s i := by
  have h1 := byteAt_strL (s.extract i j) 0 (by rw [ByteArray.size_extract]; omega)
  have h2 := byteAt_strL s i (by omega)
  rw [strL_extract, List.getElem?_take_of_lt (by omega), List.getElem?_drop, Nat.add_zero, h2] at h1
  have := Option.some.inj h1
  omega
theorem valN_size {s : ByteArray} {k : Nat} (h : s.size ≤ k) (hk : k ≤ 7) : valN s.data.toList ≤ 9223372036854775807 := valN_lt7 s (by omega)
theorem eight_ok {s : ByteArray} (h : s.size = 29) (hb : byteAt s 8 ≤ 127) : valN (s.extract 8 16).data.toList ≤ 9223372036854775807 := by
  have h8 : (s.extract 8 16).size = 8 := by rw [ByteArray.size_extract]; omega
  have h1 := valN_eight (s.extract 8 16) h8
  have h2 := get_byte (s.extract 8 16) 0 (by omega)
  rw [byteAt_extract s 8 16 (by decide) (by omega)] at h2
  rcases Nat.lt_or_ge 9223372036854775807 (valN (s.extract 8 16).data.toList) with h3 | h3
  · have := h1.1 h3
    omega
  · exact h3
set_option maxRecDepth 100000 in
set_option maxHeartbeats 4000000 in
theorem rdealOf_any (s : ByteArray) (w : World) (hs : s.size ≤ maxLen) :
    Calls Try.prog 24 #[.string s] w fun e w' => e = .returned (valDeal (dealR s)) ∧ Below w.heap.size w w' := by
  have HB := hide (fun o : Obj => (Below.refl w.heap.size w).alloc (Nat.le_refl _) o)
  have hv0 : valDeal zeroD = .agg #[.int .i64 0, .int .i64 0, .int .i64 0, .bool false, .int .i64 0, .int .i64 0, .string ⟨#[]⟩] := rfl
  by_cases h : s.size = 29
  case neg =>
    have hd : dealR s = zeroD := by unfold dealR; rw [if_neg (fun hh => h hh.1)]
    rw [hd, hv0]
    have t1 : ((s.size : Int) != 29) = true := by simp; omega
    clear hd hv0 h hs
    go_enter Try.func24, Try.ntmps24
    go_wp2
    exact bodyPost_ret (v := .agg #[.int .i64 0, .int .i64 0, .int .i64 0, .bool false, .int .i64 0, .int .i64 0, .string ⟨#[]⟩]) (by simp [results, Try.results24, go_sem]) rfl ⟨rfl, unhide HB _⟩
  have t1 : ((s.size : Int) != 29) = false := by simp; omega
  have hsi : (s.size : Int) = 29 := by omega
  obtain ⟨b8, hb8⟩ : ∃ b8, b8 = byteAt s 8 := ⟨_, rfl⟩
  have hlt8 : 8 < s.size := by omega
  have hlt16 : 16 < s.size := by omega
  have hg8 : ((s[8]'hlt8).toNat : Int) = (b8 : Int) := by rw [hb8]; exact get_byte s 8 hlt8
  by_cases h7 : byteAt s 8 ≤ 127
  case neg =>
    have hd : dealR s = zeroD := by unfold dealR; rw [if_neg (fun hh => h7 hh.2)]
    rw [hd, hv0]
    have t2 : (127 : Int) < (b8 : Int) := by omega
    clear hd hv0 h hs h7 hb8
    go_enter Try.func24, Try.ntmps24
    go_wp2
    exact bodyPost_ret (v := .agg #[.int .i64 0, .int .i64 0, .int .i64 0, .bool false, .int .i64 0, .int .i64 0, .string ⟨#[]⟩]) (by simp [results, Try.results24, go_sem]) rfl ⟨rfl, unhide HB _⟩
  have t2 : ¬ (127 : Int) < (b8 : Int) := by omega
  obtain ⟨b6, hb6⟩ : ∃ b6, b6 = byteAt s 16 := ⟨_, rfl⟩
  have hg6 : ((s[16]'hlt16).toNat : Int) = (b6 : Int) := by rw [hb6]; exact get_byte s 16 hlt16
  have hd : dealR s = ⟨valN (s.extract 0 4).data.toList, valN (s.extract 4 8).data.toList, valN (s.extract 8 16).data.toList, (b6 == 1), valN (s.extract 17 19).data.toList, valN (s.extract 19 21).data.toList, s.extract 21 s.size⟩ := by unfold dealR; rw [if_pos ⟨h, h7⟩, hb6]
  have hv : valDeal (dealR s) = .agg #[.int .i64 (valN (s.extract 0 4).data.toList), .int .i64 (valN (s.extract 4 8).data.toList), .int .i64 (valN (s.extract 8 16).data.toList), .bool (b6 == 1), .int .i64 (valN (s.extract 17 19).data.toList), .int .i64 (valN (s.extract 19 21).data.toList), .string (s.extract 21 s.size)] := by rw [hd]; rfl
  rw [hv]
  have hbe : ((b6 : Int) == 1) = (b6 == 1) := by
    rw [Bool.eq_iff_iff]; simp; omega
  have n0 := fun w => value_any (s.extract 0 4) w (by rw [ByteArray.size_extract]; omega) (valN_size (k := 4) (by rw [ByteArray.size_extract]; omega) (by decide))
  have hsl0 : ∀ wx, (Instr.slice 9 (.string s) none (some (.int .i64 4)) none).run Try.prog wx = .ok (.string (s.extract 0 4)) wx := fun wx => run_slice_string_h (P := Try.prog) wx 9 s Try.underlying9 .i64 4 (by omega) (by omega)
  have n1 := fun w => value_any (s.extract 4 8) w (by rw [ByteArray.size_extract]; omega) (valN_size (k := 4) (by rw [ByteArray.size_extract]; omega) (by decide))
  have hsl1 : ∀ wx, (Instr.slice 9 (.string s) (some (.int .i64 4)) (some (.int .i64 8)) none).run Try.prog wx = .ok (.string (s.extract 4 8)) wx := fun wx => run_slice_string (P := Try.prog) wx 9 s .i64 .i64 4 8 Try.underlying9 (by omega) (by omega) (by omega)
  have n2 := fun w => value_any (s.extract 8 16) w (by rw [ByteArray.size_extract]; omega) (eight_ok h h7)
  have hsl2 : ∀ wx, (Instr.slice 9 (.string s) (some (.int .i64 8)) (some (.int .i64 16)) none).run Try.prog wx = .ok (.string (s.extract 8 16)) wx := fun wx => run_slice_string (P := Try.prog) wx 9 s .i64 .i64 8 16 Try.underlying9 (by omega) (by omega) (by omega)
  have n3 := fun w => value_any (s.extract 17 19) w (by rw [ByteArray.size_extract]; omega) (valN_size (k := 4) (by rw [ByteArray.size_extract]; omega) (by decide))
  have hsl3 : ∀ wx, (Instr.slice 9 (.string s) (some (.int .i64 17)) (some (.int .i64 19)) none).run Try.prog wx = .ok (.string (s.extract 17 19)) wx := fun wx => run_slice_string (P := Try.prog) wx 9 s .i64 .i64 17 19 Try.underlying9 (by omega) (by omega) (by omega)
  have n4 := fun w => value_any (s.extract 19 21) w (by rw [ByteArray.size_extract]; omega) (valN_size (k := 4) (by rw [ByteArray.size_extract]; omega) (by decide))
  have hsl4 : ∀ wx, (Instr.slice 9 (.string s) (some (.int .i64 19)) (some (.int .i64 21)) none).run Try.prog wx = .ok (.string (s.extract 19 21)) wx := fun wx => run_slice_string (P := Try.prog) wx 9 s .i64 .i64 19 21 Try.underlying9 (by omega) (by omega) (by omega)
  have hsl6 : ∀ wx, (Instr.slice 9 (.string s) (some (.int .i64 21)) none none).run Try.prog wx = .ok (.string (s.extract 21 s.size)) wx := fun wx => run_slice_string_l (P := Try.prog) wx 9 s Try.underlying9 .i64 21 (by omega) (by omega)
  generalize valN (s.extract 0 4).data.toList = v0 at *
  generalize valN (s.extract 4 8).data.toList = v1 at *
  generalize valN (s.extract 8 16).data.toList = v2 at *
  generalize valN (s.extract 17 19).data.toList = v3 at *
  generalize valN (s.extract 19 21).data.toList = v4 at *
  generalize s.extract 0 4 = p0 at *
  generalize s.extract 4 8 = p1 at *
  generalize s.extract 8 16 = p2 at *
  generalize s.extract 17 19 = p3 at *
  generalize s.extract 19 21 = p4 at *
  generalize s.extract 21 s.size = p6 at *
  have N0 := hide n0; have N1 := hide n1; have N2 := hide n2; have N3 := hide n3; have N4 := hide n4
  clear n0 n1 n2 n3 n4 hd hv hv0 h hs h7 hb8 hb6
  rw [← hbe]
  clear hbe
  go_enter Try.func24, Try.ntmps24
  go_wp2_with fail
  go_region_held3 (fun _ => True) (exact trivial)
    ((first | (go_at_call_of 41 (Value.string p0); refine (unhide N0 _).mono ?_; rintro e y0 ⟨rfl, hy⟩; subst hy) | (go_at_call_of 41 (Value.string p1); refine (unhide N1 _).mono ?_; rintro e y1 ⟨rfl, hy⟩; subst hy) | (go_at_call_of 41 (Value.string p2); refine (unhide N2 _).mono ?_; rintro e y2 ⟨rfl, hy⟩; subst hy) | (go_at_call_of 41 (Value.string p3); refine (unhide N3 _).mono ?_; rintro e y3 ⟨rfl, hy⟩; subst hy) | (go_at_call_of 41 (Value.string p4); refine (unhide N4 _).mono ?_; rintro e y4 ⟨rfl, hy⟩; subst hy)))
  all_goals
    go_wp2
    exact bodyPost_ret (v := .agg #[.int .i64 v0, .int .i64 v1, .int .i64 v2, .bool ((b6 : Int) == 1), .int .i64 v3, .int .i64 v4, .string p6]) (by simp [results, Try.results24, go_sem]) rfl ⟨rfl, (unhide HB _).drew⟩
end Go.Proofs.Ytamamlpicookiah
namespace Go.Proofs.Ytamamlpicookiah
open Go.RowKit
set_option linter.unusedVariables false

/-- the text of a tag among texts -/
def lookO (n : Int) : List (Int × ByteArray) → Option ByteArray
  | [] => none
  | x :: r => if x.1 = n then some x.2 else lookO n r
theorem find_leaves (n : Int) (d : Nat) : ∀ (L : List (Int × ByteArray)), goodL L → findD n (d + 1) (L.map leafI) = lookO n L
  | [], _ => rfl
  | x :: r, h => by
    have hx := h x (List.mem_cons_self ..)
    have ih := find_leaves n d r (fun y hy => h y (List.mem_cons_of_mem _ hy))
    rw [List.map_cons]
    show findD n (d + 1) (.mk x.1 x.2 [] :: r.map leafI) = _
    rw [find_leaf hx.1, ih]
    rfl
theorem got_node (n : Int) (L : List (Int × ByteArray)) (h : goodL L) : gotT n 8 [nodeI 161 L] = (lookO n L).getD ⟨#[]⟩ := by
  have e : findD n 8 [nodeI 161 L] = findD n 7 (L.map leafI) := by
    show List.findSome? (stepF n (findD n 7)) [nodeI 161 L] = _
    have e1 : stepF n (findD n 7) (nodeI 161 L) = findD n 7 (L.map leafI) := by
      unfold stepF
      rw [show (nodeI 161 L).tag = 161 from rfl, made_161, if_pos rfl]
      rfl
    rw [List.findSome?_cons, e1]
    cases findD n 7 (L.map leafI) <;> rfl
  unfold gotT
  rw [e, find_leaves n 6 L h]
theorem has_leaves (n : Int) : ∀ (L : List (Int × ByteArray)), (L.map leafI).findSome? (hasI n) = lookO n L
  | [] => rfl
  | x :: r => by
    have ih := has_leaves n r
    have e : hasI n (leafI x) = if x.1 = n then some x.2 else none := rfl
    have e2 : lookO n (x :: r) = if x.1 = n then some x.2 else lookO n r := rfl
    rw [List.map_cons, List.findSome?_cons, ih, e, e2]
    by_cases h : x.1 = n
    · rw [if_pos h, if_pos h]
    · rw [if_neg h, if_neg h]
theorem get_node (n : Int) (L : List (Int × ByteArray)) : getR n [nodeI 161 L] = (lookO n L).getD ⟨#[]⟩ := by
  show (if (nodeI 161 L).tag = 161 then ((nodeI 161 L).list.findSome? (hasI n)).getD ⟨#[]⟩ else ⟨#[]⟩) = _
  rw [if_pos (show (nodeI 161 L).tag = 161 from rfl)]
  show ((L.map leafI).findSome? (hasI n)).getD ⟨#[]⟩ = _
  rw [has_leaves]
theorem node_deep (t : Int) (L : List (Int × ByteArray)) : Deep 2 [nodeI t L] := by
  intro x hx
  obtain rfl : x = nodeI t L := by simpa using hx
  intro y hy
  obtain ⟨z, _, rfl⟩ := List.mem_map.1 (show y ∈ L.map leafI from hy)
  rfl
theorem cmd_parts {c : XCommand} (h : commandE c = 0) : (1 ≤ c.dO ∧ c.dO ≤ 7) ∧ c = ownC c ∧ cmdW c = 0 ∧ parsesE (commandS c) = 0 ∧ parsesL (commandS c) = [nodeI 161 (cmdL c)] := by
  unfold commandE at h
  cases h1 : inT c.dO 1 7 with
  | false => rw [h1] at h; cases h
  | true =>
  cases h2 : decide (c = ownC c) with
  | false => rw [h1, h2] at h; cases h
  | true =>
    rw [h1, h2] at h
    have h3 : tellE 161 (cmdL c) (cmdW c) = 0 := h
    have hS : commandS c = tellS 161 (cmdL c) (cmdW c) := by unfold commandS; rw [h1, h2]; rfl
    by_cases h4 : cmdW c = 0
    · unfold tellE at h3
      rw [if_pos h4] at h3
      obtain ⟨a, b⟩ := printed_parses (node_deep 161 (cmdL c)) h3
      have e : tellS 161 (cmdL c) (cmdW c) = printsS 2 [nodeI 161 (cmdL c)] := by unfold tellS; rw [if_pos h4]
      rw [hS, e]
      exact ⟨inT_true.1 h1, of_decide_eq_true h2, h4, a, b⟩
    · unfold tellE at h3
      rw [if_neg h4] at h3
      exact absurd h3 h4
theorem strL_inj {a b : ByteArray} (h : strL a = strL b) : a = b := by rw [← strOf_strL a, ← strOf_strL b, h]
theorem strL_app (a b : ByteArray) : strL (a ++ b) = strL a ++ strL b := by simp [strL]
theorem piece {s B : ByteArray} {a c : List Int} (i j : Nat) (h : strL s = a ++ (strL B ++ c)) (hi : a.length = i) (hj : B.size = j - i) : s.extract i j = B := by
  apply strL_inj
  rw [strL_extract, h, ← hi, List.drop_left, hi, ← hj, ← strL_length B, List.take_left]
theorem num_read {n k : Int} (hn : n ≤ 9223372036854775807) (h : numE n k = 0) : readV (numS n k) = n ∧ (numS n k).size = k.toNat ∧ (valN (numS n k).data.toList : Int) = n := by
  have hk : numOk n k := by
    rcases Classical.em (numOk n k) with h1 | h1
    · exact h1
    · rw [numE_no h1] at h; cases h
  have h1 := read_num n k hn hk
  refine ⟨h1.1, by rw [numS_yes hk, strOfNums_size, bigL_length], ?_⟩
  have h2 := h1.1
  have h3 := h1.2
  unfold readV at h2
  unfold readE at h3
  split at h3
  · cases h3
  · split at h3
    · cases h3
    · rename_i h4 h5
      rw [if_neg h4, if_neg h5] at h2
      exact h2
theorem two_read {n : Int} (h : 0 ≤ n ∧ n ≤ 65535) : readV (twoT n) = n ∧ (valN (twoT n).data.toList : Int) = n := by
  obtain ⟨k, rfl⟩ := Int.eq_ofNat_of_zero_le h.1
  rw [← big2_two]
  have hk : k < 256 ^ 2 := by omega
  have e := big_num k 2 (by decide) (by decide) hk
  rw [e]
  have h2 : numE (k : Int) ((2 : Nat) : Int) = 0 := numE_yes ((numOk_nat k 2 (by decide) (by decide)).2 hk)
  obtain ⟨a, _, b⟩ := num_read (by omega) h2
  exact ⟨a, b⟩
theorem deal_back {d : XDeal} (h : dealE d = 0) : dealP (dealS d) = d ∧ dealR (dealS d) = d := by
  have hS : dealS d = dealT d := by unfold dealS; rw [if_pos h]
  obtain ⟨k1, k2, k3, k4, k5, k6⟩ := deal_in h
  obtain ⟨sh, tr, am, ca, dy, bt, no⟩ := d
  simp only at k1 k2 k3 k4 k5 k6
  have f1 : numE sh 4 = 0 := by
    obtain ⟨k, rfl⟩ := Int.eq_ofNat_of_zero_le k2.1
    exact numE_yes ((numOk_nat k 4 (by decide) (by decide)).2 (by omega))
  have f2 : numE tr 4 = 0 := by
    obtain ⟨k, rfl⟩ := Int.eq_ofNat_of_zero_le k3.1
    exact numE_yes ((numOk_nat k 4 (by decide) (by decide)).2 (by omega))
  have f3 : numE am 8 = 0 := by
    obtain ⟨k, rfl⟩ := Int.eq_ofNat_of_zero_le k1.1
    exact numE_yes ((numOk_nat k 8 (by decide) (by decide)).2 (by omega))
  obtain ⟨a1, z1, b1⟩ := num_read (by omega) f1
  obtain ⟨a2, z2, b2⟩ := num_read (by omega) f2
  obtain ⟨a3, z3, b3⟩ := num_read (by omega) f3
  obtain ⟨a5, b5⟩ := two_read k4
  obtain ⟨a6, b6⟩ := two_read ⟨k5.1, by omega⟩
  have z4 := oneT_size (flagT ca)
  have z5 := twoT_size dy
  have z6 := twoT_size bt
  have z1' : (numS sh 4).size = 4 := z1
  have z2' : (numS tr 4).size = 4 := z2
  have z3' : (numS am 8).size = 8 := z3
  have hT : dealT ⟨sh, tr, am, ca, dy, bt, no⟩ = numS sh 4 ++ numS tr 4 ++ numS am 8 ++ oneT (flagT ca) ++ twoT dy ++ twoT bt ++ no := rfl
  have hL : strL (dealT ⟨sh, tr, am, ca, dy, bt, no⟩) = strL (numS sh 4) ++ (strL (numS tr 4) ++ (strL (numS am 8) ++ (strL (oneT (flagT ca)) ++ (strL (twoT dy) ++ (strL (twoT bt) ++ strL no))))) := by
    rw [hT]; simp only [strL_app, List.append_assoc]
  have hz : (dealT ⟨sh, tr, am, ca, dy, bt, no⟩).size = 29 := by
    rw [hT]; simp only [ByteArray.size_append]; omega
  rw [hS]
  generalize dealT ⟨sh, tr, am, ca, dy, bt, no⟩ = s at *
  have l1 := strL_length (numS sh 4); have l2 := strL_length (numS tr 4); have l3 := strL_length (numS am 8); have l4 := strL_length (oneT (flagT ca)); have l5 := strL_length (twoT dy); have l6 := strL_length (twoT bt)
  have p1 : s.extract 0 4 = numS sh 4 := piece (a := []) 0 4 hL rfl (by omega)
  have p2 : s.extract 4 8 = numS tr 4 := piece (a := strL (numS sh 4)) 4 8 hL (by omega) (by omega)
  have p3 : s.extract 8 16 = numS am 8 := piece (a := strL (numS sh 4) ++ strL (numS tr 4)) 8 16 (by rw [hL]; simp only [List.append_assoc]; rfl) (by rw [List.length_append]; omega) (by omega)
  have p4 : s.extract 16 17 = oneT (flagT ca) := piece (a := strL (numS sh 4) ++ strL (numS tr 4) ++ strL (numS am 8)) 16 17 (by rw [hL]; simp only [List.append_assoc]; rfl) (by simp only [List.length_append]; omega) (by omega)
  have p5 : s.extract 17 19 = twoT dy := piece (a := strL (numS sh 4) ++ strL (numS tr 4) ++ strL (numS am 8) ++ strL (oneT (flagT ca))) 17 19 (by rw [hL]; simp only [List.append_assoc]; rfl) (by simp only [List.length_append]; omega) (by omega)
  have p6 : s.extract 19 21 = twoT bt := piece (a := strL (numS sh 4) ++ strL (numS tr 4) ++ strL (numS am 8) ++ strL (oneT (flagT ca)) ++ strL (twoT dy)) 19 21 (by rw [hL]; simp only [List.append_assoc]; rfl) (by simp only [List.length_append]; omega) (by omega)
  have p7 : s.extract 21 s.size = no := piece (c := []) (a := strL (numS sh 4) ++ strL (numS tr 4) ++ strL (numS am 8) ++ strL (oneT (flagT ca)) ++ strL (twoT dy) ++ strL (twoT bt)) 21 s.size (by rw [hL]; simp only [List.append_assoc, List.append_nil]) (by simp only [List.length_append]; omega) (by omega)
  have hfl : (readV (oneT (flagT ca)) == 1) = ca := by cases ca <;> decide +kernel
  have hby : byteAt s 16 = (flagT ca).toNat := by
    have e := byteAt_extract s 16 17 (by decide) (by omega)
    rw [p4] at e
    rw [← e]
    cases ca <;> decide +kernel
  have hb8 : byteAt s 8 ≤ 127 := by
    have e := byteAt_extract s 8 16 (by decide) (by omega)
    rw [p3] at e
    have h8 := valN_eight (numS am 8) z3'
    have hg := get_byte (numS am 8) 0 (by omega)
    rw [e] at hg
    rcases Nat.lt_or_ge 127 (byteAt s 8) with h1 | h1
    · have := h8.2 (by omega)
      omega
    · exact h1
  constructor
  · unfold dealP
    rw [if_pos hz, p1, p2, p3, p4, p5, p6, p7, a1, a2, a3, a5, a6, hfl]
  · unfold dealR
    rw [if_pos ⟨hz, hb8⟩, p1, p2, p3, p5, p6, p7, b1, b2, b3, b5, b6, hby]
    have : ((flagT ca).toNat == 1) = ca := by cases ca <;> rfl
    rw [this]
/-- the command of a text, as the reference reads it -/
def comG (s : ByteArray) : XCommand := ⟨numR (getR 128 (parsesL s)), getR 129 (parsesL s), getR 130 (parsesL s), numR (getR 131 (parsesL s)), dealR (getR 132 (parsesL s)), getR 133 (parsesL s), getR 134 (parsesL s), getR 135 (parsesL s)⟩
theorem numR_one {n : Int} (h : numE n 1 = 0) (hn : n ≤ 9223372036854775807) : numR (numS n 1) = n ∧ readV (numS n 1) = n := by
  obtain ⟨a, z, b⟩ := num_read hn h
  have z' : (numS n 1).size = 1 := z
  refine ⟨?_, a⟩
  unfold numR
  rw [if_neg (by omega), b]
theorem numR_nil : numR ⟨#[]⟩ = 0 ∧ readV ⟨#[]⟩ = 0 := ⟨by decide +kernel, by decide +kernel⟩
theorem dealP_nil : dealP ⟨#[]⟩ = zeroD ∧ dealR ⟨#[]⟩ = zeroD := ⟨rfl, rfl⟩
theorem com_back {c : XCommand} (h : commandE c = 0) (hw : c.want ≤ 9223372036854775807) : comF (commandS c) = c ∧ comG (commandS c) = c := by
  obtain ⟨hd, ho, hW, hE, hL⟩ := cmd_parts h
  have hg := goodL_cmd c
  have eF : comF (commandS c) = comP [nodeI 161 (cmdL c)] := by unfold comF; rw [if_pos hE, hL]
  have eG : comG (commandS c) = ⟨numR (getR 128 [nodeI 161 (cmdL c)]), getR 129 [nodeI 161 (cmdL c)], getR 130 [nodeI 161 (cmdL c)], numR (getR 131 [nodeI 161 (cmdL c)]), dealR (getR 132 [nodeI 161 (cmdL c)]), getR 133 [nodeI 161 (cmdL c)], getR 134 [nodeI 161 (cmdL c)], getR 135 [nodeI 161 (cmdL c)]⟩ := by unfold comG; rw [hL]
  rw [eF, eG]
  unfold comP
  simp only [got_node _ _ hg, get_node]
  clear eF eG hE hL hg h
  obtain ⟨dO, nm, dg, wn, dl, ex, an, od⟩ := c
  simp only at hd hw
  have hdo : dO = 1 ∨ dO = 2 ∨ dO = 3 ∨ dO = 4 ∨ dO = 5 ∨ dO = 6 ∨ dO = 7 := by omega
  have hn0 : numE dO 1 = 0 := numE_do hd
  obtain ⟨r1, r2⟩ := numR_one hn0 (by omega)
  obtain ⟨q1, q2⟩ := numR_nil
  obtain ⟨d1, d2⟩ := dealP_nil
  clear hd
  rcases hdo with rfl | rfl | rfl | rfl | rfl | rfl | rfl
  · obtain ⟨rfl, rfl, rfl, rfl, rfl, rfl, rfl⟩ : nm = ⟨#[]⟩ ∧ dg = ⟨#[]⟩ ∧ wn = 0 ∧ dl = zeroD ∧ ex = ⟨#[]⟩ ∧ an = ⟨#[]⟩ ∧ od = ⟨#[]⟩ := by simpa [ownC] using ho
    simp [cmdL, lookO, r1, r2, q1, q2, d1, d2]
  · obtain ⟨rfl, rfl, rfl, rfl, rfl, rfl⟩ : dg = ⟨#[]⟩ ∧ wn = 0 ∧ dl = zeroD ∧ ex = ⟨#[]⟩ ∧ an = ⟨#[]⟩ ∧ od = ⟨#[]⟩ := by simpa [ownC] using ho
    simp [cmdL, lookO, r1, r2, q1, q2, d1, d2]
  · obtain ⟨rfl, rfl, rfl, rfl, rfl, rfl, rfl⟩ : nm = ⟨#[]⟩ ∧ dg = ⟨#[]⟩ ∧ wn = 0 ∧ dl = zeroD ∧ ex = ⟨#[]⟩ ∧ an = ⟨#[]⟩ ∧ od = ⟨#[]⟩ := by simpa [ownC] using ho
    simp [cmdL, lookO, r1, r2, q1, q2, d1, d2]
  · obtain ⟨rfl, rfl, rfl, rfl, rfl, rfl⟩ : nm = ⟨#[]⟩ ∧ wn = 0 ∧ dl = zeroD ∧ ex = ⟨#[]⟩ ∧ an = ⟨#[]⟩ ∧ od = ⟨#[]⟩ := by simpa [ownC] using ho
    simp [cmdL, lookO, r1, r2, q1, q2, d1, d2]
  · obtain ⟨rfl, rfl, rfl, rfl⟩ : nm = ⟨#[]⟩ ∧ dg = ⟨#[]⟩ ∧ an = ⟨#[]⟩ ∧ od = ⟨#[]⟩ := by simpa [ownC] using ho
    have hW2 : (if dealE dl = 0 then numE wn 1 else dealE dl) = 0 := hW
    have hd0 : dealE dl = 0 := by
      rcases Classical.em (dealE dl = 0) with h1 | h1
      · exact h1
      · rw [if_neg h1] at hW2; exact hW2
    rw [if_pos hd0] at hW2
    obtain ⟨s1, s2⟩ := numR_one hW2 hw
    obtain ⟨t1, t2⟩ := deal_back hd0
    simp [cmdL, lookO, r1, r2, s1, s2, t1, t2]
  · obtain ⟨rfl, rfl, rfl, rfl, rfl⟩ : nm = ⟨#[]⟩ ∧ dg = ⟨#[]⟩ ∧ dl = zeroD ∧ ex = ⟨#[]⟩ ∧ od = ⟨#[]⟩ := by simpa [ownC] using ho
    have hW2 : numE wn 1 = 0 := hW
    obtain ⟨s1, s2⟩ := numR_one hW2 hw
    simp [cmdL, lookO, r1, r2, s1, s2, d1, d2]
  · obtain ⟨rfl, rfl, rfl, rfl, rfl, rfl⟩ : nm = ⟨#[]⟩ ∧ dg = ⟨#[]⟩ ∧ wn = 0 ∧ dl = zeroD ∧ ex = ⟨#[]⟩ ∧ an = ⟨#[]⟩ := by simpa [ownC] using ho
    simp [cmdL, lookO, r1, r2, q1, q2, d1, d2]
/-- there is one way alone to read -/
theorem readC_same (s : ByteArray) (h1 : (comF s).want ≤ 9223372036854775807) (h2 : (comG s).want ≤ 9223372036854775807) : readC comF s = readC comG s := by
  unfold readC
  by_cases hF : commandE (comF s) = 0 ∧ commandS (comF s) = s
  · obtain ⟨a, b⟩ := hF
    obtain ⟨_, e⟩ := com_back a h1
    rw [b] at e
    rw [if_pos ⟨a, b⟩, e, if_pos ⟨a, b⟩]
  · by_cases hG : commandE (comG s) = 0 ∧ commandS (comG s) = s
    · obtain ⟨a, b⟩ := hG
      obtain ⟨e, _⟩ := com_back a h2
      rw [b] at e
      exfalso
      apply hF
      rw [e]
      exact ⟨a, b⟩
    · rw [if_neg hF, if_neg hG]
end Go.Proofs.Ytamamlpicookiah
