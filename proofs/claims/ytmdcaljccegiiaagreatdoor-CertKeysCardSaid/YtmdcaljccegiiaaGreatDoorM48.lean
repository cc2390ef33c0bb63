/- Rivest, Shamir, Adleman, over texts (plain). -/
import Derived.Test.YtmdcaljccegiiaaGreatDoorM43
import Derived.Test.YtmdcaljccegiiaaGreatDoorM42
import Derived.Test.YtmdcaljccegiiaaGreatDoorM47
import Derived.Deep.RegionLaw
import Derived.Test.YtmdcaljccegiiaaGreatDoorRows
namespace Go.Proofs.YtmdcaljccegiiaaGreatDoor
open Go.RowKit
set_option linter.unusedVariables false
set_option linter.unusedSimpArgs false
set_option maxRecDepth 100000

theorem valN_bigR (n : Nat) : ∀ k, valN ((bigL n k).map fun z => UInt8.ofNat z.toNat) = n % 256 ^ k
  | 0 => by simp [bigL, valN, Nat.mod_one]
  | k + 1 => by
    rw [bigL, List.map_cons, valN_consN, valN_bigR n k, List.length_map, bigL_length, Nat.pow_succ, Nat.mod_mul]
    have e : ((((n / 256 ^ k % 256 : Nat)) : Int)).toNat = n / 256 ^ k % 256 := rfl
    rw [e, show (UInt8.ofNat (n / 256 ^ k % 256)).toNat = n / 256 ^ k % 256 by simp, Nat.mul_comm, Nat.add_comm]
theorem valN_strR (n k : Nat) : valN (strOfNums (bigL n k)).data.toList = n % 256 ^ k := by
  rw [show (strOfNums (bigL n k)).data.toList = (bigL n k).map (fun z => UInt8.ofNat z.toNat) by simp [strOfNums], valN_bigR]
theorem bigL_more (a n k : Nat) : ∀ j, j ≤ k → bigL (a * 256 ^ k + n) j = bigL n j
  | 0, _ => rfl
  | j + 1, h => by
    rw [bigL, bigL, bigL_more a n k j (by omega)]
    have e : a * 256 ^ k = 256 ^ j * (256 * (a * 256 ^ (k - j - 1))) := by
      have : 256 ^ k = 256 ^ j * (256 * 256 ^ (k - j - 1)) := by
        rw [← Nat.pow_succ', ← Nat.pow_add]; congr 1; omega
      rw [this, Nat.mul_left_comm, Nat.mul_left_comm a 256]
    rw [e, Nat.mul_add_div (Nat.pow_pos (by decide)), Nat.mul_add_mod]
theorem list_of_num : ∀ l : List UInt8, (bigL (valN l) l.length).map (fun z => UInt8.ofNat z.toNat) = l
  | [] => rfl
  | b :: l => by
    have hv := valN_ltK l
    rw [List.length_cons, bigL, valN_consN, bigL_more _ _ _ _ (Nat.le_refl _), List.map_cons, list_of_num l]
    have e : (b.toNat * 256 ^ l.length + valN l) / 256 ^ l.length % 256 = b.toNat := by
      rw [Nat.mul_comm, Nat.mul_add_div (Nat.pow_pos (by decide)), Nat.div_eq_of_lt hv, Nat.add_zero]
      exact Nat.mod_eq_of_lt b.toNat_lt
    rw [e]
    congr 1
    simp
theorem text_of_num (x : ByteArray) : strOfNums (bigL (valN x.data.toList) x.size) = x := by
  apply ByteArray.ext
  apply Array.toList_inj.1
  have := list_of_num x.data.toList
  rw [show x.data.toList.length = x.size by simp] at this
  rw [← this]
  simp [strOfNums, this]
/-- powers as texts: of a modulus, and a number below it -/
theorem powT_again {m x : ByteArray} (h : powE m x = 0) (d : Nat) : powE m (powT m x d) = 0 ∧ valN (powT m x d).data.toList = valN x.data.toList ^ d % valN m.data.toList := by
  have hT : powT m x d = strOfNums (bigL (valN x.data.toList ^ d % valN m.data.toList) m.size) := by unfold powT; rw [if_pos h]
  have hm : isModB m = true ∧ x.size = m.size ∧ valN x.data.toList < valN m.data.toList := by
    unfold powE at h
    cases hmb : isModB m with
    | false => rw [hmb] at h; simp at h
    | true =>
      rw [hmb] at h
      by_cases hs : x.size = m.size
      · rw [decide_eq_false (by simpa using hs)] at h
        simp only [Bool.not_true, Bool.or_self, Bool.false_eq_true, if_false] at h
        by_cases hv : valN m.data.toList ≤ valN x.data.toList
        · rw [if_pos hv] at h; cases h
        · exact ⟨rfl, hs, by omega⟩
      · rw [decide_eq_true (by simpa using hs)] at h; simp at h
  obtain ⟨hmb, hs, hv⟩ := hm
  have hM0 : 0 < valN m.data.toList := by omega
  have hMl := valN_ltK m.data.toList
  rw [show m.data.toList.length = m.size by simp] at hMl
  have hlt := Nat.mod_lt (valN x.data.toList ^ d) hM0
  have hV : valN (powT m x d).data.toList = valN x.data.toList ^ d % valN m.data.toList := by
    rw [hT, valN_strR, Nat.mod_eq_of_lt (by omega)]
  have hZ : (powT m x d).size = m.size := by rw [hT, strOfNums_size, bigL_length]
  refine ⟨?_, hV⟩
  unfold powE
  rw [hmb, hV, decide_eq_false (by simpa using hZ)]
  simp only [Bool.not_true, Bool.or_self, Bool.false_eq_true, if_false]
  rw [if_neg (by omega)]
theorem rsa_text {m x : ByteArray} (h : powE m x = 0) (p q d e : Nat) (hp : Prim.IsPrime p) (hq : Prim.IsPrime q) (hpq : p ≠ q) (hm : valN m.data.toList = p * q) (hde : ∃ k, d * e = k * ((p - 1) * (q - 1)) + 1) :
    powT m (powT m x d) e = x := by
  obtain ⟨h1, h2⟩ := powT_again h d
  have hx : valN x.data.toList < p * q ∧ x.size = m.size := by
    unfold powE at h
    cases hmb : isModB m with
    | false => rw [hmb] at h; simp at h
    | true =>
      rw [hmb] at h
      by_cases hs : x.size = m.size
      · rw [decide_eq_false (by simpa using hs)] at h
        simp only [Bool.not_true, Bool.or_self, Bool.false_eq_true, if_false] at h
        by_cases hv : valN m.data.toList ≤ valN x.data.toList
        · rw [if_pos hv] at h; cases h
        · exact ⟨by omega, hs⟩
      · rw [decide_eq_true (by simpa using hs)] at h; simp at h
  unfold powT
  rw [if_pos (by exact h1)]
  have h2' := h2
  unfold powT at h2'
  rw [h2', hm, Prim.rsa p q d e _ hp hq hpq hx.1 hde, ← hx.2]
  exact text_of_num x
/-- a secret's D, three times, and 1 over -/
theorem secD_three {p q : ByteArray} (h : secE p q = 0) : 3 * secD p q = (3 - (valN p.data.toList - 1) * (valN q.data.toList - 1) % 3) * ((valN p.data.toList - 1) * (valN q.data.toList - 1)) + 1 := by
  have h3 : ¬ (valN p.data.toList - 1) * (valN q.data.toList - 1) % 3 = 0 := by
    intro h0
    unfold secE at h
    cases hf : (isFacB p && isFacB q) with
    | false => rw [hf] at h; simp at h
    | true =>
      cases hm : isModB (secT (valN p.data.toList) (valN q.data.toList)) with
      | false => rw [hf, hm] at h; simp at h
      | true => rw [hf, hm, if_pos h0] at h; simp at h
  unfold secD
  generalize (valN p.data.toList - 1) * (valN q.data.toList - 1) = N at *
  have hc : N % 3 = 1 ∨ N % 3 = 2 := by omega
  rcases hc with hc | hc
  · rw [hc, Nat.mul_comm N]
    omega
  · rw [hc, Nat.mul_comm N]
    omega
end Go.Proofs.YtmdcaljccegiiaaGreatDoor
namespace Go.Proofs.YtmdcaljccegiiaaGreatDoor
open Go.RowKit
set_option linter.unusedVariables false
set_option linter.unusedSimpArgs false
set_option maxRecDepth 100000

theorem kRest_cut (s : ByteArray) (n : Nat) (h : n + 3 ≤ s.size) : (kRest s n).extract 0 2 = s.extract (n + 1) (n + 3) ∧ kM s n = s.extract (n + 3) s.size ∧ kO s n = s.extract 1 (n + 1) := by
  refine ⟨?_, ?_, ?_⟩
  · unfold kRest
    rw [ByteArray.extract_extract]
    congr 1 <;> omega
  · unfold kM kRest
    rw [ByteArray.extract_extract, ByteArray.size_extract]
    congr 1 <;> omega
  · unfold kO
    rw [Nat.add_comm]
/-- a key's text is the text that it was read from just if that text says how many digits there are -/
theorem keyS_same (s : ByteArray) (n : Nat) (h1 : 1 ≤ n) (h19 : n ≤ 19) (h : n + 3 ≤ s.size) (he : keyE (kO s n) (kT s n : Int) (kM s n) = 0) : keyS (kO s n) (kT s n : Int) (kM s n) = s ↔ kN s = n := by
  obtain ⟨e1, e2, e3⟩ := kRest_cut s n h
  have ht := kT_lt s n
  have hx : numS (kT s n : Int) 2 = (kRest s n).extract 0 2 := by
    have hk : numOk (kT s n : Int) 2 := ⟨by decide, by decide, by omega, by rw [show ((256 : Int) ^ (2 : Int).toNat) = 65536 from rfl]; omega⟩
    rw [numS_yes hk, Int.toNat_natCast]
    have := text_of_num ((kRest s n).extract 0 2)
    rw [show ((kRest s n).extract 0 2).size = 2 by rw [e1, ByteArray.size_extract]; omega] at this
    exact this
  have hoz : (kO s n).size = n := by rw [e3, ByteArray.size_extract]; omega
  unfold keyS
  rw [if_pos he, hx, hoz, e1, e2, e3]
  have hne : s.data.toList ≠ [] := by
    intro hh
    have hz : s.size = s.data.toList.length := by simp
    rw [hh, List.length_nil] at hz
    omega
  obtain ⟨c, tl, hc⟩ : ∃ c tl, s.data.toList = c :: tl := by
    cases hs : s.data.toList with
    | nil => exact absurd hs hne
    | cons c tl => exact ⟨c, tl, rfl⟩
  have hlen : s.size = tl.length + 1 := by
    have hz : s.size = s.data.toList.length := by simp
    rw [hz, hc, List.length_cons]
  have hL : (strOfNums [(n : Int)] ++ s.extract 1 (n + 1) ++ s.extract (n + 1) (n + 3) ++ s.extract (n + 3) s.size).data.toList = UInt8.ofNat n :: tl := by
    simp only [ByteArray.data_append, Array.toList_append, extract_list]
    rw [hc, hlen]
    have h4 : (strOfNums [(n : Int)]).data.toList = [UInt8.ofNat n] := by simp [strOfNums]
    rw [h4]
    have d1 : (List.drop 1 (c :: tl)).take (n + 1 - 1) = tl.take n := by simp
    have d2 : (List.drop (n + 1) (c :: tl)).take (n + 3 - (n + 1)) = (tl.drop n).take 2 := by rw [List.drop_succ_cons, show n + 3 - (n + 1) = 2 by omega]
    have d3 : (List.drop (n + 3) (c :: tl)).take (tl.length + 1 - (n + 3)) = (tl.drop n).drop 2 := by
      rw [show n + 3 = (n + 2) + 1 by omega, List.drop_succ_cons, List.drop_drop, List.take_of_length_le (by simp)]
    rw [d1, d2, d3, List.append_assoc, List.append_assoc, List.take_append_drop, List.take_append_drop]
    rfl
  have hk : kN s = c.toNat := by unfold kN; rw [hc]; rfl
  rw [hk]
  constructor
  · intro hs
    have this : (strOfNums [(n : Int)] ++ s.extract 1 (n + 1) ++ s.extract (n + 1) (n + 3) ++ s.extract (n + 3) s.size).data.toList = s.data.toList := congrArg (fun b : ByteArray => b.data.toList) hs
    rw [hL, hc] at this
    have hcn := (List.cons.inj this).1
    rw [← hcn]
    show n % 256 = n
    omega
  · intro hcn
    apply ByteArray.ext
    apply Array.toList_inj.1
    rw [hL, hc]
    rw [← hcn, UInt8.ofNat_toNat]
theorem rk_parts {s : ByteArray} (h : rkB s = true) : 1 ≤ kN s ∧ kN s ≤ 19 ∧ kN s + 3 ≤ s.size ∧ keyB (kO s (kN s)) (kM s (kN s)) = true := by
  unfold rkB at h
  rw [Bool.and_eq_true, decide_eq_true_eq] at h
  obtain ⟨⟨h1, h2⟩, h3⟩ := h
  have h4 := digitsB_size (keyB_parts h3).1
  have h5 : (kO s (kN s)).size = kN s := by unfold kO; rw [ByteArray.size_extract]; omega
  rw [h5] at h4
  exact ⟨by omega, by omega, by omega, h3⟩
theorem rk_at {s : ByteArray} (n : Nat) (h : n + 3 ≤ s.size) (hn : kN s = n) : rkB s = keyB (kO s n) (kM s n) := by
  unfold rkB
  rw [hn, decide_eq_true ⟨by omega, by omega⟩]
  rfl
end Go.Proofs.YtmdcaljccegiiaaGreatDoor
namespace Go.Proofs.YtmdcaljccegiiaaGreatDoor
open Go.RowKit
set_option linter.unusedVariables false
set_option linter.unusedSimpArgs false
set_option maxRecDepth 100000

theorem step_call1J {P : Program} {ops : Array Oper} {o : Oper} {a : Act} {w : World} {K : Act → World → Prop} {Q : Exit → Act → World → Prop} {E : Prop} (hgd : o.guard = none) (f : FuncId) (x : Operand) (ts : Array TypeId)
    (ho : o.op = .call { callee := .value (.func f), args := #[x], argTypes := ts }) (v : Value) (hx : a.eval x = v) (hf : ∀ args w, (callFunc f args).run P w = .ok (.enter f args) w)
    {S : Ending → World → Prop} (hc : Calls P f #[v] w S) (hv : ∀ e w', S e w' → ∃ v, e = .returned v ∧ K (a.put o.dst v) w') :
    if Region.wanted o (yielded ops a.tmps) = true then Oper.wp P o a w K Q else E := by
  have hw : Region.wanted o (yielded ops a.tmps) = true := by simp [Region.wanted, hgd]
  rw [if_pos hw]
  obtain ⟨dst, op, ty, pos, after, guard⟩ := o
  cases ho
  have hrun : (execOp a.eval { dst, op := .call { callee := .value (.func f), args := #[x], argTypes := ts }, type := ty, pos, after, guard }).run P w = .ok (.enter f #[v]) w := by
    show (callFunc f (#[] ++ #[x].map a.eval ++ #[])).run P w = _
    have e : (#[] ++ #[x].map a.eval ++ #[]) = #[v] := by simp [hx]
    rw [e]; exact hf _ _
  unfold Oper.wp
  rw [hrun, Oper.upon_enter]
  refine hc.mono fun e w' hh => ?_
  obtain ⟨v, rfl, hk⟩ := hv e w' hh
  exact hk
theorem entVal (args : Array Value) (w : World) : (callFunc 18 args).run Tryz.prog w = .ok (.enter 18 args) w := by kernel_rfl
set_option maxHeartbeats 4000000 in
theorem rreadKey_any (s : ByteArray) (w : World) (hs : s.size ≤ maxLen) :
    Calls Tryz.prog 7 #[.string s] w fun e w' => e = .returned (.tuple #[.agg #[.string (rkO s), .int .i64 (rkT s), .string (rkM s)], .int .i64 (rkE s)]) ∧ Below w.heap.size w w' := by
  obtain ⟨W1, hW1⟩ : ∃ W1, W1 = w.alloc (.cells #[.string ⟨#[]⟩, .int .i64 0, .string ⟨#[]⟩] 23) := ⟨_, rfl⟩
  have hB1 : Below w.heap.size w W1 := by rw [hW1]; exact (Below.refl _ _).alloc (Nat.le_refl _) _
  have hX1 : W1.heap[w.heap.size]? = some (.cells #[.string ⟨#[]⟩, .int .i64 0, .string ⟨#[]⟩] 23 (0, 0)) := by rw [hW1]; exact heap_alloc_new _ _
  have hl1 : w.heap.size < W1.heap.size := by rw [hW1]; simp
  -- the result's cells, before and behind a store
  have HW : Hid (∀ (W : World) (o m : ByteArray) (t : Int), Below W1.heap.size W1 W → W.frozen? ⟨w.heap.size, 0, none⟩ = false ∧ W.frozen? ⟨w.heap.size, 1, none⟩ = false ∧ W.frozen? ⟨w.heap.size, 2, none⟩ = false ∧ W.cell? ⟨w.heap.size, 0, none⟩ = some (.string ⟨#[]⟩) ∧ W.cell? ⟨w.heap.size, 1, none⟩ = some (.int .i64 0) ∧ W.cell? ⟨w.heap.size, 2, none⟩ = some (.string ⟨#[]⟩) ∧
      Below w.heap.size w (((W.setCell ⟨w.heap.size, 0, none⟩ (.string o)).setCell ⟨w.heap.size, 1, none⟩ (.int .i64 t)).setCell ⟨w.heap.size, 2, none⟩ (.string m)) ∧
      (((W.setCell ⟨w.heap.size, 0, none⟩ (.string o)).setCell ⟨w.heap.size, 1, none⟩ (.int .i64 t)).setCell ⟨w.heap.size, 2, none⟩ (.string m)).cell? ⟨w.heap.size, 0, none⟩ = some (.string o) ∧
      (((W.setCell ⟨w.heap.size, 0, none⟩ (.string o)).setCell ⟨w.heap.size, 1, none⟩ (.int .i64 t)).setCell ⟨w.heap.size, 2, none⟩ (.string m)).cell? ⟨w.heap.size, 1, none⟩ = some (.int .i64 t) ∧
      (((W.setCell ⟨w.heap.size, 0, none⟩ (.string o)).setCell ⟨w.heap.size, 1, none⟩ (.int .i64 t)).setCell ⟨w.heap.size, 2, none⟩ (.string m)).cell? ⟨w.heap.size, 2, none⟩ = some (.string m)) := hide (fun W o m t hb => by
    have h := (hb.block _ hl1).trans hX1
    have k := hB1.trans (hb.mono hB1.size)
    refine ⟨by simp [World.frozen?, h], by simp [World.frozen?, h], by simp [World.frozen?, h], cell_of_row _ _ 0 _ _ _ h, cell_of_row _ _ 1 _ _ _ h, cell_of_row _ _ 2 _ _ _ h, ((k.setCell (p := ⟨w.heap.size, 0, none⟩) (Nat.le_refl _) _).setCell (p := ⟨w.heap.size, 1, none⟩) (Nat.le_refl _) _).setCell (p := ⟨w.heap.size, 2, none⟩) (Nat.le_refl _) _, ?_, ?_, ?_⟩
    · rw [cell_of_row _ _ 0 _ _ _ (set_rowM (set_rowM (set_rowM h)))]; rfl
    · rw [cell_of_row _ _ 1 _ _ _ (set_rowM (set_rowM (set_rowM h)))]; rfl
    · rw [cell_of_row _ _ 2 _ _ _ (set_rowM (set_rowM (set_rowM h)))]; rfl)
  have HW1 := hide hW1; have HB1 := hide hB1
  clear hW1 hB1 hX1 hl1
  have HNo := hide (fun h => rk_no (s := s) h)
  have HYes := hide (fun h => rk_yes (s := s) h)
  have HPt := hide (fun h => rk_parts (s := s) h)
  have hsz : (s.size : Int) ≤ 9223372036854775807 := by unfold maxLen at hs; omega
  have HS := hide hs
  clear hs
  generalize hrE : rkE s = rE at *
  generalize hrO : rkO s = rO at *
  generalize hrT : rkT s = rT at *
  generalize hrM : rkM s = rM at *
  clear hrE hrO hrT hrM
  go_enter Tryz.func7, Tryz.ntmps7
  go_upto_region 1 with fail
  rw [← unhide HW1]
  go_wp2
  go_loopw [4] (fun i wr => ∃ n : Nat, 1 ≤ n ∧ n ≤ 20 ∧ i = .int .i64 (n : Int) ∧ Below W1.heap.size W1 wr ∧ Hid (rkB s = true → n ≤ kN s)) (fun i _ => 20 - (intOf i).toNat)
  case atStart => exact ⟨1, by omega, by omega, rfl, Below.refl _ _, hide (fun h => (unhide HPt h).1)⟩
  case round =>
    obtain ⟨n, h1, h20, rfl, hbw, HK⟩ := hrel
    have HBW := hide hbw
    clear hbw
    have hw3 : wrap64 ((n : Int) + 3) = (n : Int) + 3 := by unfold wrap64; omega
    have hw1 : wrap64 ((n : Int) + 1) = (n : Int) + 1 := by unfold wrap64; omega
    have hv1' : IntKind.i64.wrap ((n : Int) + 1) = (n : Int) + 1 := wraps_i64 _ (by omega) (by omega)
    have hv3' : IntKind.i64.wrap ((n : Int) + 3) = (n : Int) + 3 := wraps_i64 _ (by omega) (by omega)
    by_cases hin : n ≤ 19 ∧ n + 3 ≤ s.size
    case neg =>
      have hrb : rkB s = false := by
        cases hb : rkB s with
        | false => rfl
        | true =>
          have h2 := unhide HK hb
          obtain ⟨p1, p2, p3, _⟩ := unhide HPt hb
          exact absurd ⟨by omega, by omega⟩ hin
      obtain ⟨rfl, rfl, rfl, rfl⟩ := unhide HNo hrb
      obtain ⟨f0, f1, f2, g0, g1, g2, hF, r0, r1, r2⟩ := unhide HW wr ⟨#[]⟩ ⟨#[]⟩ 0 (unhide HBW)
      have HF := hide hF
      have hcs : Hid ((19 : Int) < (n : Int) ∨ ((n : Int) ≤ 19 ∧ (s.size : Int) < (n : Int) + 3)) := hide (by omega)
      clear hrb hF HNo HYes HPt HK hin
      rcases unhide hcs with hc | ⟨hc, hc2⟩
      all_goals
        clear hcs
        go_wp2
        exact bodyPost_ret (v := .tuple #[.agg #[.string ⟨#[]⟩, .int .i64 0, .string ⟨#[]⟩], .int .i64 1]) (by simp [results, Tryz.results7, go_sem, r0, r1, r2]) rfl ⟨rfl, unhide HF⟩
    case pos =>
    obtain ⟨h19, h3⟩ := hin
    obtain ⟨e1, e2, e3⟩ := kRest_cut s n h3
    have hsame := keyS_same s n h1 h19 h3
    have hat := rk_at (s := s) n h3
    have ht := kT_lt s n
    have hke := keyE_two (o := kO s n) (m := kM s n) (t := (kT s n : Int)) (by omega) (by omega)
    have HOZ : (kO s n).size ≤ maxLen := by rw [e3, ByteArray.size_extract]; unfold maxLen; omega
    have N2 := hide (fun W => rkeyText_any (kO s n) (kT s n : Int) (kM s n) W HOZ)
    have N1 := hide (fun W => value_any (s.extract (n + 1) (n + 3)) W (by rw [ByteArray.size_extract]; omega) (by rw [← e1]; show kT s n ≤ _; omega))
    have hv1 : valN (s.extract (n + 1) (n + 3)).data.toList = kT s n := by rw [← e1]; rfl
    have N1' := unhide N1
    rw [hv1] at N1'
    have N1 := hide N1'
    have sl1 : ∀ wx, (Instr.slice 9 (.string s) (some (.int .i64 1)) (some (.int .i64 ((n : Int) + 1))) none).run Tryz.prog wx = .ok (.string (kO s n)) wx := fun wx => by
      rw [run_slice_string (P := Tryz.prog) wx 9 s .i64 .i64 (1 : Int) ((n : Int) + 1) Tryz.underlying9 (by omega) (by omega) (by omega), e3]
      rfl
    have sl2 : ∀ wx, (Instr.slice 9 (.string s) (some (.int .i64 ((n : Int) + 1))) (some (.int .i64 ((n : Int) + 3))) none).run Tryz.prog wx = .ok (.string (s.extract (n + 1) (n + 3))) wx := fun wx => by
      rw [run_slice_string (P := Tryz.prog) wx 9 s .i64 .i64 ((n : Int) + 1) ((n : Int) + 3) Tryz.underlying9 (by omega) (by omega) (by omega)]
      rfl
    have sl3 : ∀ wx, (Instr.slice 9 (.string s) (some (.int .i64 ((n : Int) + 3))) none none).run Tryz.prog wx = .ok (.string (kM s n)) wx := fun wx => by
      have := slice_from s (n + 3) (by omega) wx
      rw [show (((n + 3 : Nat)) : Int) = (n : Int) + 3 by omega] at this
      rw [this, e2]
    have hi1 : (n : Int) ≤ 19 := by omega
    have hi2 : (n : Int) + 3 ≤ (s.size : Int) := by omega
    have HYn : Hid (kN s = n → keyB (kO s n) (kM s n) = true → rE = 0 ∧ rO = kO s n ∧ rT = (kT s n : Int) ∧ rM = kM s n) := hide (fun hn hk => by
      have := unhide HYes (by rw [hat hn]; exact hk)
      rwa [hn] at this)
    have HAT := hide hat; have HSAME := hide hsame; have HKE := hide hke
    clear hat hsame hke e1 e2 e3 HOZ N1' hv1
    generalize kT s n = t at *
    generalize kO s n = o at *
    generalize kM s n = m at *
    generalize s.extract (n + 1) (n + 3) = x2 at *
    go_upto_region 4 with fail
    go_region_held3 (fun w' => wr.heap.size ≤ w'.heap.size)
      (first | (simp; done) | (simp; omega) | assumption)
      ((first
        | (go_at_call 18; refine (unhide N1 _).mono ?_; rintro e z1 ⟨rfl, q1⟩; have q1' := q1.symm; subst q1')))
    all_goals
      obtain ⟨W2, hW2⟩ : ∃ W2, W2 = (wr.alloc (.cells #[.string o, .int .i64 (t : Int), .string m] 23)).drew := ⟨_, rfl⟩
      have hB2 : Below W1.heap.size W1 W2 := by rw [hW2]; exact ((unhide HBW).alloc (unhide HBW).size _).drew
      have hY2 : W2.heap[wr.heap.size]? = some (.cells #[.string o, .int .i64 (t : Int), .string m] 23 (0, 0)) := by
        rw [hW2]
        exact heap_alloc_new wr _
      have hlt2 : wr.heap.size < W2.heap.size := by rw [hW2]; simp
      have c0 := cell_of_row _ _ 0 _ _ _ hY2
      have c1 := cell_of_row _ _ 1 _ _ _ hY2
      have c2 := cell_of_row _ _ 2 _ _ _ hY2
      simp only [List.getElem?_toArray, List.getElem?_cons_zero, List.getElem?_cons_succ] at c0 c1 c2
      rw [← hW2]
      have HB2 := hide hB2; have HY2 := hide hY2; have HLT2 := hide hlt2
      clear hW2 hB2 hY2 hlt2
      generalize keyE o (t : Int) m = ke at *
      generalize keyS o (t : Int) m = ks at *
      cases hk : keyB o m with
      | false =>
        have HKn : Hid (rkB s = true → n + 1 ≤ kN s) := hide (fun hb => by
          have h2 := unhide HK hb
          by_cases hkn : kN s = n
          · rw [unhide HAT hkn, hk] at hb; cases hb
          · omega)
        have hke := unhide HKE
        rw [hk, show (bif false then (0 : Int) else 1) = 1 from rfl] at hke
        subst hke
        clear HAT HSAME HKE HYn HYes HNo HPt HK hk
        go_wp2_with fail
        refine (unhide N2 _).mono ?_
        rintro e y2 ⟨rfl, k2⟩
        have HK2 := hide (ext_callB (unhide HB2) k2)
        clear k2 c0 c1 c2
        go_wp2
        go_roundw
        case rel => exact ⟨n + 1, by omega, by omega, by go_num, unhide HK2, HKn⟩
        case measure => simp [intOf]; omega
      | true =>
        have hke := unhide HKE
        rw [hk, show (bif true then (0 : Int) else 1) = 0 from rfl] at hke
        subst hke
        by_cases hkn : kN s = n
        · obtain ⟨rfl, rfl, rfl, rfl⟩ := unhide HYn hkn hk
          obtain rfl : ks = s := (unhide HSAME rfl).2 hkn
          have t1 : (ks.toList == ks.toList) = true := by simp
          clear HAT HSAME HKE HYn HYes HNo HPt HK hk hkn
          go_wp2_with fail
          refine (unhide N2 _).mono ?_
          rintro e y2 ⟨rfl, k2⟩
          have hx2 := (k2.block _ (unhide HLT2)).trans (unhide HY2)
          have d0 := cell_of_row _ _ 0 _ _ _ hx2
          have d1 := cell_of_row _ _ 1 _ _ _ hx2
          have d2 := cell_of_row _ _ 2 _ _ _ hx2
          simp only [List.getElem?_toArray, List.getElem?_cons_zero, List.getElem?_cons_succ] at d0 d1 d2
          have kk2 := ext_callB (unhide HB2) k2
          obtain ⟨f0, f1, f2, g0, g1, g2, hF, r0, r1, r2⟩ := unhide HW y2 rO rM (t : Int) kk2
          have HF := hide hF
          clear k2 kk2 hF c0 c1 c2 hx2
          go_wp2
          exact bodyPost_ret (v := .tuple #[.agg #[.string rO, .int .i64 (t : Int), .string rM], .int .i64 0]) (by simp [results, Tryz.results7, go_sem, r0, r1, r2]) rfl ⟨rfl, unhide HF⟩
        · have HKn : Hid (rkB s = true → n + 1 ≤ kN s) := hide (fun hb => by
            have h2 := unhide HK hb
            omega)
          have t1 : (ks.toList == s.toList) = false := by
            rw [beq_eq_false_iff_ne]
            intro he
            refine hkn ((unhide HSAME rfl).1 ?_)
            rw [Lib.toList_data, Lib.toList_data] at he
            exact ByteArray.ext (Array.toList_inj.1 he)
          clear HAT HSAME HKE HYn HYes HNo HPt HK hk hkn
          go_wp2_with fail
          refine (unhide N2 _).mono ?_
          rintro e y2 ⟨rfl, k2⟩
          have HK2 := hide (ext_callB (unhide HB2) k2)
          clear k2 c0 c1 c2
          go_wp2
          go_roundw
          case rel => exact ⟨n + 1, by omega, by omega, by go_num, unhide HK2, HKn⟩
          case measure => simp [intOf]; omega
end Go.Proofs.YtmdcaljccegiiaaGreatDoor
namespace Go.Proofs.YtmdcaljccegiiaaGreatDoor
open Go.RowKit
set_option linter.unusedVariables false
set_option linter.unusedSimpArgs false
set_option maxRecDepth 100000

/-- what CertifyKey answers -/
def ckE (p q : ByteArray) (k : Int) (o : ByteArray) (t : Int) (m beside : ByteArray) : Int := if keyE o t m = 0 then certE p q k (keyS o t m) beside else keyE o t m
def ckS (p q : ByteArray) (k : Int) (o : ByteArray) (t : Int) (m beside : ByteArray) : ByteArray := if keyE o t m = 0 then certS p q k (keyS o t m) beside else ⟨#[]⟩
def ckR (p q : ByteArray) (k : Int) (o : ByteArray) (t : Int) (m beside : ByteArray) : ByteArray := if keyE o t m = 0 then certR p q k (keyS o t m) beside else ⟨#[]⟩
theorem cell_at {w : World} {g j : Nat} {cs : Array Value} {e : TypeId} {fr : Nat × Nat} {v : Value} (h : w.heap[g]? = some (.cells cs e fr)) (hv : cs[j]? = some v) : w.cell? ⟨g, j, none⟩ = some v := by
  rw [cell_of_row _ _ j _ _ _ h, hv]
set_option maxHeartbeats 4000000 in
theorem certifyKey_any (p q : ByteArray) (k : Int) (o : ByteArray) (t : Int) (m beside : ByteArray) (w : World) (hos : o.size ≤ maxLen) (ht : t ≤ 9223372036854775807) :
    Calls Tryz.prog 8 #[.agg #[.string p, .string q], .int .i64 k, .agg #[.string o, .int .i64 t, .string m], .string beside] w fun e w' => e = .returned (.tuple #[.agg #[.string (ckS p q k o t m beside), .string (ckR p q k o t m beside)], .int .i64 (ckE p q k o t m beside)]) ∧ Below w.heap.size w w' := by
  obtain ⟨Wa, hWa⟩ : ∃ Wa, Wa = w.alloc (.cells #[.string p, .string q] 25) := ⟨_, rfl⟩
  obtain ⟨Wb, hWb⟩ : ∃ Wb, Wb = Wa.alloc (.cells #[.string o, .int .i64 t, .string m] 23) := ⟨_, rfl⟩
  obtain ⟨W1, hW1⟩ : ∃ W1, W1 = Wb.alloc (.cells #[.string ⟨#[]⟩, .string ⟨#[]⟩] 32) := ⟨_, rfl⟩
  have hsa : Wa.heap.size = w.heap.size + 1 := by rw [hWa]; simp
  have hsb : Wb.heap.size = w.heap.size + 2 := by rw [hWb]; simp; omega
  have hs1 : W1.heap.size = w.heap.size + 3 := by rw [hW1]; simp; omega
  have hBa : Below w.heap.size w Wa := by rw [hWa]; exact (Below.refl _ _).alloc (Nat.le_refl _) _
  have hBb : Below Wa.heap.size Wa Wb := by rw [hWb]; exact (Below.refl _ _).alloc (Nat.le_refl _) _
  have hBc : Below Wb.heap.size Wb W1 := by rw [hW1]; exact (Below.refl _ _).alloc (Nat.le_refl _) _
  have hXa : Wa.heap[w.heap.size]? = some (.cells #[.string p, .string q] 25 (0, 0)) := by rw [hWa]; exact heap_alloc_new _ _
  have hXb : Wb.heap[w.heap.size + 1]? = some (.cells #[.string o, .int .i64 t, .string m] 23 (0, 0)) := by rw [hWb, ← hsa]; exact heap_alloc_new _ _
  have hXc : W1.heap[w.heap.size + 2]? = some (.cells #[.string ⟨#[]⟩, .string ⟨#[]⟩] 32 (0, 0)) := by rw [hW1, ← hsb]; exact heap_alloc_new _ _
  have hX1 : W1.heap[w.heap.size]? = some (.cells #[.string p, .string q] 25 (0, 0)) := (hBc.block _ (by omega)).trans ((hBb.block _ (by omega)).trans hXa)
  have hX2 : W1.heap[w.heap.size + 1]? = some (.cells #[.string o, .int .i64 t, .string m] 23 (0, 0)) := (hBc.block _ (by omega)).trans hXb
  have hB1 : Below w.heap.size w W1 := hBa.trans ((hBb.trans (hBc.mono (by omega))).mono (by omega))
  have HC : Hid (∀ W, Below W1.heap.size W1 W → W.cell? ⟨w.heap.size, 0, none⟩ = some (.string p) ∧ W.cell? ⟨w.heap.size, 1, none⟩ = some (.string q) ∧ W.cell? ⟨w.heap.size + 1, 0, none⟩ = some (.string o) ∧ W.cell? ⟨w.heap.size + 1, 1, none⟩ = some (.int .i64 t) ∧ W.cell? ⟨w.heap.size + 1, 2, none⟩ = some (.string m)) := hide (fun W hb => by
    have h1 := (hb.block _ (by omega)).trans hX1
    have h2 := (hb.block _ (by omega)).trans hX2
    exact ⟨cell_at h1 rfl, cell_at h1 rfl, cell_at h2 rfl, cell_at h2 rfl, cell_at h2 rfl⟩)
  have HW : Hid (∀ (W : World) (x y : ByteArray), Below W1.heap.size W1 W → W.frozen? ⟨w.heap.size + 2, 0, none⟩ = false ∧ W.frozen? ⟨w.heap.size + 2, 1, none⟩ = false ∧ W.cell? ⟨w.heap.size + 2, 0, none⟩ = some (.string ⟨#[]⟩) ∧ W.cell? ⟨w.heap.size + 2, 1, none⟩ = some (.string ⟨#[]⟩) ∧
      Below w.heap.size w ((W.setCell ⟨w.heap.size + 2, 0, none⟩ (.string x)).setCell ⟨w.heap.size + 2, 1, none⟩ (.string y)) ∧
      ((W.setCell ⟨w.heap.size + 2, 0, none⟩ (.string x)).setCell ⟨w.heap.size + 2, 1, none⟩ (.string y)).cell? ⟨w.heap.size + 2, 0, none⟩ = some (.string x) ∧
      ((W.setCell ⟨w.heap.size + 2, 0, none⟩ (.string x)).setCell ⟨w.heap.size + 2, 1, none⟩ (.string y)).cell? ⟨w.heap.size + 2, 1, none⟩ = some (.string y)) := hide (fun W x y hb => by
    have h := (hb.block _ (by omega)).trans hXc
    have kk := hB1.trans (hb.mono hB1.size)
    refine ⟨by simp [World.frozen?, h], by simp [World.frozen?, h], cell_at h rfl, cell_at h rfl, (kk.setCell (p := ⟨w.heap.size + 2, 0, none⟩) (Nat.le_add_right _ _) _).setCell (p := ⟨w.heap.size + 2, 1, none⟩) (Nat.le_add_right _ _) _, ?_, ?_⟩
    · rw [cell_of_row _ _ 0 _ _ _ (set_rowM (set_rowM h))]; rfl
    · rw [cell_of_row _ _ 1 _ _ _ (set_rowM (set_rowM h))]; rfl)
  obtain ⟨c0, c1, c2, c3, c4⟩ := unhide HC W1 (Below.refl _ _)
  rw [hWb, hWa] at hW1
  have HW1 := hide hW1
  have N0 := hide (fun W => ckeyText_any o t m W hos ht)
  have N1 := hide (fun W => certify_any p q k (keyS o t m) beside W)
  have HE : Hid (keyE o t m ≠ 0 → ckE p q k o t m beside = keyE o t m ∧ ckS p q k o t m beside = ⟨#[]⟩ ∧ ckR p q k o t m beside = ⟨#[]⟩ ∧ keyS o t m = ⟨#[]⟩) := hide (fun h => by unfold ckE ckS ckR keyS; rw [if_neg h, if_neg h, if_neg h, if_neg h]; exact ⟨rfl, rfl, rfl, rfl⟩)
  have HY : Hid (keyE o t m = 0 → ckE p q k o t m beside = certE p q k (keyS o t m) beside ∧ ckS p q k o t m beside = certS p q k (keyS o t m) beside ∧ ckR p q k o t m beside = certR p q k (keyS o t m) beside) := hide (fun h => by unfold ckE ckS ckR; rw [if_pos h, if_pos h, if_pos h]; exact ⟨rfl, rfl, rfl⟩)
  clear hWa hWb hW1 hsa hsb hs1 hBa hBb hBc hXa hXb hXc hX1 hX2 hB1 hos ht
  generalize ckE p q k o t m beside = ce at *
  generalize ckS p q k o t m beside = cs at *
  generalize ckR p q k o t m beside = cr at *
  generalize certE p q k (keyS o t m) beside = ze at *
  generalize certS p q k (keyS o t m) beside = zs at *
  generalize certR p q k (keyS o t m) beside = zr at *
  generalize keyE o t m = ke at *
  generalize keyS o t m = ks at *
  by_cases h0 : ke = 0
  case neg =>
    obtain ⟨rfl, rfl, rfl, rfl⟩ := unhide HE h0
    have t1 : (ce != 0) = true := by simpa using h0
    clear HE HY h0
    go_enter Tryz.func8, Tryz.ntmps8
    go_upto_region 1 with fail
    rw [← unhide HW1]
    go_wp2_with fail
    refine (unhide N0 _).mono ?_
    rintro e y ⟨rfl, k1⟩
    clear c0 c1 c2 c3 c4
    obtain ⟨f0, f1, g0, g1, hF, r0, r1⟩ := unhide HW y ⟨#[]⟩ ⟨#[]⟩ k1
    have HF := hide hF
    clear k1 hF
    go_wp2
    exact bodyPost_ret (v := .tuple #[.agg #[.string ⟨#[]⟩, .string ⟨#[]⟩], .int .i64 ce]) (by simp [results, Tryz.results8, go_sem, r0, r1]) rfl ⟨rfl, unhide HF⟩
  case pos =>
    subst h0
    obtain ⟨rfl, rfl, rfl⟩ := unhide HY rfl
    clear HE HY
    go_enter Tryz.func8, Tryz.ntmps8
    go_upto_region 1 with fail
    rw [← unhide HW1]
    go_wp2_with fail
    refine (unhide N0 _).mono ?_
    rintro e y ⟨rfl, k1⟩
    clear c0 c1 c2 c3 c4
    obtain ⟨c0, c1, c2, c3, c4⟩ := unhide HC y k1
    have K1 := hide k1
    clear k1
    go_wp2_with fail
    refine (unhide N1 _).mono ?_
    rintro e y2 ⟨rfl, k2⟩
    clear c0 c1 c2 c3 c4
    obtain ⟨f0, f1, g0, g1, hF, r0, r1⟩ := unhide HW y2 cs cr (ext_callB (unhide K1) k2)
    have HF := hide hF
    clear k2 hF
    go_wp2
    exact bodyPost_ret (v := .tuple #[.agg #[.string cs, .string cr], .int .i64 ce]) (by simp [results, Tryz.results8, go_sem, r0, r1]) rfl ⟨rfl, unhide HF⟩
end Go.Proofs.YtmdcaljccegiiaaGreatDoor
namespace Go.Proofs.YtmdcaljccegiiaaGreatDoor
open Go.RowKit
set_option linter.unusedVariables false
set_option linter.unusedSimpArgs false
set_option maxRecDepth 100000

theorem key_back {o m : ByteArray} {t : Int} (h : keyE o t m = 0) : rkE (keyS o t m) = 0 ∧ rkO (keyS o t m) = o ∧ rkT (keyS o t m) = t ∧ rkM (keyS o t m) = m := by
  obtain ⟨hb, hn⟩ := keyE_zero h
  have ht := (numE_two t).1 hn
  have ho := digitsB_size (keyB_parts hb).1
  obtain ⟨tn, rfl⟩ := Int.eq_ofNat_of_zero_le ht.1
  have hnt : numS (tn : Int) 2 = strOfNums (bigL tn 2) := by
    rw [numS_yes ⟨by decide, by decide, by omega, by rw [show ((256 : Int) ^ (2 : Int).toNat) = 65536 from rfl]; omega⟩]
    rfl
  have hS : keyS o (tn : Int) m = strOfNums [(o.size : Int)] ++ o ++ strOfNums (bigL tn 2) ++ m := by unfold keyS; rw [if_pos h, hnt]
  have hxz : (strOfNums (bigL tn 2)).data.toList.length = 2 := by
    rw [show (strOfNums (bigL tn 2)).data.toList.length = (strOfNums (bigL tn 2)).size by simp, strOfNums_size, bigL_length]
  have hol : o.data.toList.length = o.size := by simp
  have hL : (keyS o (tn : Int) m).data.toList = UInt8.ofNat o.size :: (o.data.toList ++ ((strOfNums (bigL tn 2)).data.toList ++ m.data.toList)) := by
    rw [hS]
    simp only [ByteArray.data_append, Array.toList_append]
    rw [show (strOfNums [(o.size : Int)]).data.toList = [UInt8.ofNat o.size] by simp [strOfNums]]
    simp
  have hz : (keyS o (tn : Int) m).size = o.size + m.size + 3 := by
    have h1 := congrArg List.length hL
    rw [List.length_cons, List.length_append, List.length_append, hxz, hol] at h1
    have h2 : (keyS o (tn : Int) m).data.toList.length = (keyS o (tn : Int) m).size := by simp
    have h3 : m.data.toList.length = m.size := by simp
    omega
  have hkN : kN (keyS o (tn : Int) m) = o.size := by
    unfold kN
    rw [hL]
    show o.size % 256 = o.size
    omega
  have hR : (kRest (keyS o (tn : Int) m) o.size).data.toList = (strOfNums (bigL tn 2)).data.toList ++ m.data.toList := by
    unfold kRest
    rw [extract_list, hL, Nat.add_comm, List.drop_succ_cons, ← hol, List.drop_append_length, hol, List.take_of_length_le (by rw [List.length_append, hxz]; simp; omega)]
  have hRz : (kRest (keyS o (tn : Int) m) o.size).size = m.size + 2 := by unfold kRest; rw [ByteArray.size_extract]; omega
  have hO : kO (keyS o (tn : Int) m) o.size = o := by
    apply ByteArray.ext
    apply Array.toList_inj.1
    unfold kO
    rw [extract_list, hL, List.drop_succ_cons, List.drop_zero, show 1 + o.size - 1 = o.data.toList.length by omega, List.take_append_length]
  have hX : ((kRest (keyS o (tn : Int) m) o.size).extract 0 2).data.toList = (strOfNums (bigL tn 2)).data.toList := by
    rw [extract_list, hR, List.drop_zero, show 2 - 0 = (strOfNums (bigL tn 2)).data.toList.length by omega, List.take_append_length]
  have hT : kT (keyS o (tn : Int) m) o.size = tn := by
    unfold kT
    rw [hX, valN_strR, Nat.mod_eq_of_lt (by show tn < 65536; omega)]
  have hM : kM (keyS o (tn : Int) m) o.size = m := by
    apply ByteArray.ext
    apply Array.toList_inj.1
    unfold kM
    rw [extract_list, hR, hRz]
    generalize (strOfNums (bigL tn 2)).data.toList = X at hxz ⊢
    have e : List.drop 2 (X ++ m.data.toList) = m.data.toList := by rw [← hxz, List.drop_append_length]
    rw [e, List.take_of_length_le (by simp)]
  have hrb : rkB (keyS o (tn : Int) m) = true := by
    unfold rkB
    rw [hkN, hO, hM, hb, decide_eq_true ⟨by omega, by omega⟩]
    rfl
  obtain ⟨e1, e2, e3, e4⟩ := rk_yes hrb
  rw [hkN] at e2 e3 e4
  rw [hO] at e2
  rw [hT] at e3
  rw [hM] at e4
  exact ⟨e1, e2, e3, e4⟩
/-- a block that lies -/
def At (w : World) (b : Nat) (cs : Array Value) (e : TypeId) : Prop := w.heap[b]? = some (.cells cs e (0, 0))
theorem At.lt {w : World} {b : Nat} {cs : Array Value} {e : TypeId} (h : At w b cs e) : b < w.heap.size := (Array.getElem?_eq_some_iff.1 h).1
theorem At.below {w w' : World} {b : Nat} {cs : Array Value} {e : TypeId} (h : At w b cs e) (hb : Below w.heap.size w w') : At w' b cs e := (hb.block _ h.lt).trans h
theorem At.cell {w : World} {b j : Nat} {cs : Array Value} {e : TypeId} {v : Value} (h : At w b cs e) (hv : cs[j]? = some v) : w.cell? ⟨b, j, none⟩ = some v := cell_at h hv
theorem At.soft {w : World} {b j : Nat} {cs : Array Value} {e : TypeId} (h : At w b cs e) : w.frozen? ⟨b, j, none⟩ = false := by
  unfold At at h
  simp [World.frozen?, h]
theorem At.new (w : World) (cs : Array Value) (e : TypeId) : At (w.alloc (.cells cs e)) w.heap.size cs e := heap_alloc_new w _
theorem At.set {w : World} {b j : Nat} {cs : Array Value} {e : TypeId} {v : Value} (h : At w b cs e) : At (w.setCell ⟨b, j, none⟩ v) b (cs.setIfInBounds j v) e := set_rowM h
theorem At.other {w : World} {b g j : Nat} {cs : Array Value} {e : TypeId} {v : Value} (h : At w b cs e) (hn : b ≠ g) : At (w.setCell ⟨g, j, none⟩ v) b cs e := (Below.heap_setCell w ⟨g, j, none⟩ v b hn).trans h
end Go.Proofs.YtmdcaljccegiiaaGreatDoor
namespace Go.Proofs.YtmdcaljccegiiaaGreatDoor
open Go.RowKit
set_option linter.unusedVariables false
set_option linter.unusedSimpArgs false
set_option maxRecDepth 100000

set_option maxHeartbeats 8000000 in
theorem walkKeys (o : ByteArray) (t : Int) (m s p q : ByteArray) (k : Int) (beside : ByteArray) (w : World) (hos : o.size ≤ maxLen) (ht : t ≤ 9223372036854775807) (hss : s.size ≤ maxLen) (hms : m.size ≤ maxLen) :
    Calls Tryz.prog 3 #[.agg #[.string o, .int .i64 t, .string m], .string s, .agg #[.string p, .string q], .int .i64 k, .string beside] w fun e w' => e = .returned (.bool true) ∧ Below w.heap.size w w' := by
  obtain ⟨Wa, hWa⟩ : ∃ Wa, Wa = w.alloc (.cells #[.string o, .int .i64 t, .string m] 23) := ⟨_, rfl⟩
  obtain ⟨W1, hW1⟩ : ∃ W1, W1 = Wa.alloc (.cells #[.string p, .string q] 25) := ⟨_, rfl⟩
  have hsa : Wa.heap.size = w.heap.size + 1 := by rw [hWa]; simp
  have hs1 : W1.heap.size = w.heap.size + 2 := by rw [hW1]; simp; omega
  have hBa : Below w.heap.size w Wa := by rw [hWa]; exact (Below.refl _ _).alloc (Nat.le_refl _) _
  have hBb : Below Wa.heap.size Wa W1 := by rw [hW1]; exact (Below.refl _ _).alloc (Nat.le_refl _) _
  have hXa : At Wa w.heap.size #[.string o, .int .i64 t, .string m] 23 := by rw [hWa]; exact At.new _ _ _
  have hX2 : At W1 (w.heap.size + 1) #[.string p, .string q] 25 := by rw [hW1, ← hsa]; exact At.new _ _ _
  have hX1 := hXa.below hBb
  have hB1 : Below w.heap.size w W1 := hBa.trans (hBb.mono hBa.size)
  have HX1 := hide hX1; have HX2 := hide hX2; have HB1 := hide hB1; have HLT1 := hide hX1.lt
  have c0 := hX1.cell (j := 0) rfl
  have c1 := hX1.cell (j := 1) rfl
  have c2 := hX1.cell (j := 2) rfl
  rw [hWa] at hW1
  have HW1 := hide hW1
  have N1 := hide (fun W => ckeyText_any o t m W hos ht)
  have N2 := hide (fun W => rkeyText_any o t m W hos)
  have N3 := hide (fun W => creadKey_any s W hss)
  have N4 := hide (fun W => rreadKey_any s W hss)
  have N5 := hide (fun W => certifyKey_any p q k o t m beside W hos ht)
  have N6 := hide (fun W => rcertify_any p q k (keyS o t m) beside W)
  have hksz : keyE o t m = 0 → (keyS o t m).size ≤ maxLen := fun h => by
    obtain ⟨hb, hn⟩ := keyE_zero h
    have h1 := digitsB_size (keyB_parts hb).1
    have h2 := isModB_size (keyB_parts hb).2
    have h3 := numS_two t hn
    unfold keyS
    rw [if_pos h, ByteArray.size_append, ByteArray.size_append, ByteArray.size_append, h3, strOfNums_size]
    unfold maxLen
    simp only [List.length_cons, List.length_nil]
    omega
  have N7 := hide (fun W (h : keyE o t m = 0) => creadKey_any (keyS o t m) W (hksz h))
  have HKB := hide (fun h => key_back (o := o) (t := t) (m := m) h)
  have HE : Hid (keyE o t m ≠ 0 → ckE p q k o t m beside = keyE o t m ∧ ckS p q k o t m beside = ⟨#[]⟩ ∧ ckR p q k o t m beside = ⟨#[]⟩) := hide (fun h => by unfold ckE ckS ckR; rw [if_neg h, if_neg h, if_neg h]; exact ⟨rfl, rfl, rfl⟩)
  have HY : Hid (keyE o t m = 0 → ckE p q k o t m beside = certE p q k (keyS o t m) beside ∧ ckS p q k o t m beside = certS p q k (keyS o t m) beside ∧ ckR p q k o t m beside = certR p q k (keyS o t m) beside) := hide (fun h => by unfold ckE ckS ckR; rw [if_pos h, if_pos h, if_pos h]; exact ⟨rfl, rfl, rfl⟩)
  have hsz := hB1.size
  clear hWa hW1 hsa hs1 hBa hBb hXa hX1 hX2 hB1 hos ht hss hms hksz
  generalize ckE p q k o t m beside = ce at *
  generalize ckS p q k o t m beside = cs at *
  generalize ckR p q k o t m beside = cr at *
  generalize certE p q k (keyS o t m) beside = ze at *
  generalize certS p q k (keyS o t m) beside = zs at *
  generalize certR p q k (keyS o t m) beside = zr at *
  generalize keyE o t m = ke at *
  generalize keyS o t m = ks at *
  obtain ⟨xE, hxE⟩ : ∃ x, x = rkE s := ⟨_, rfl⟩
  obtain ⟨xO, hxO⟩ : ∃ x, x = rkO s := ⟨_, rfl⟩
  obtain ⟨xT, hxT⟩ : ∃ x, x = rkT s := ⟨_, rfl⟩
  obtain ⟨xM, hxM⟩ : ∃ x, x = rkM s := ⟨_, rfl⟩
  rw [← hxE, ← hxO, ← hxT, ← hxM] at N3 N4
  clear hxE hxO hxT hxM
  have t1 : (ks.toList != ks.toList) = false := by simp
  have t2 : (ke != ke) = false := by simp
  have t3 : (xO.toList == xO.toList) = true := by simp
  have t4 : (xM.toList == xM.toList) = true := by simp
  have t5 : (xT == xT) = true := by simp
  have t6 : (xE != xE) = false := by simp
  go_enter Tryz.func3, Tryz.ntmps3
  go_upto_region 1 with fail
  rw [← unhide HW1]
  go_wp2_with fail
  refine (unhide N1 _).mono ?_
  rintro e y1 ⟨rfl, k1⟩
  clear c0 c1 c2
  have A1 := hide ((unhide HX1).below k1); have A2 := hide ((unhide HX2).below k1); have K1 := hide k1
  clear k1 HX1 HX2
  have c0 := (unhide A1).cell (j := 0) rfl
  have c1 := (unhide A1).cell (j := 1) rfl
  have c2 := (unhide A1).cell (j := 2) rfl
  go_wp2_with fail
  refine (unhide N2 _).mono ?_
  rintro e y2 ⟨rfl, k2⟩
  clear c0 c1 c2
  have B1 := hide ((unhide A1).below k2); have B2 := hide ((unhide A2).below k2); have K2 := hide (ext_callB (unhide K1) k2)
  clear k2 A1 A2 K1
  go_wp2_with fail
  refine (unhide N3 _).mono ?_
  rintro e y3 ⟨rfl, k3⟩
  have A1 := hide ((unhide B1).below k3); have A2 := hide ((unhide B2).below k3); have K3 := hide (ext_callB (unhide K2) k3)
  clear k3 B1 B2 K2
  obtain ⟨z3, hz3⟩ : ∃ z, z = y3.alloc (.cells #[.string xO, .int .i64 xT, .string xM] 23) := ⟨_, rfl⟩
  have hal : Below y3.heap.size y3 z3 := by rw [hz3]; exact (Below.refl _ _).alloc (Nat.le_refl _) _
  have B1 := hide ((unhide A1).below hal); have B2 := hide ((unhide A2).below hal)
  have B3 : Hid (At z3 y3.heap.size #[.string xO, .int .i64 xT, .string xM] 23) := hide (by rw [hz3]; exact At.new _ _ _)
  have K4 := hide (ext_callB (unhide K3) hal)
  have HZ3 := hide hz3
  have hle3 : W1.heap.size ≤ y3.heap.size := (unhide K3).size
  have HL3 := hide hle3
  clear hz3 hal A1 A2 K3 hle3
  go_wp2_with fail
  rw [← unhide HZ3]
  refine (unhide N4 _).mono ?_
  rintro e y4 ⟨rfl, k4⟩
  have A1 := hide ((unhide B1).below k4); have A2 := hide ((unhide B2).below k4); have A3 := hide ((unhide B3).below k4); have K5 := hide (ext_callB (unhide K4) k4)
  clear k4 B1 B2 B3 K4
  obtain ⟨z4, hz4⟩ : ∃ z, z = y4.alloc (.cells #[.string xO, .int .i64 xT, .string xM] 23) := ⟨_, rfl⟩
  have hal : Below y4.heap.size y4 z4 := by rw [hz4]; exact (Below.refl _ _).alloc (Nat.le_refl _) _
  have B1 := hide ((unhide A1).below hal); have B2 := hide ((unhide A2).below hal); have B3 := hide ((unhide A3).below hal)
  have B4 : At z4 y4.heap.size #[.string xO, .int .i64 xT, .string xM] 23 := by rw [hz4]; exact At.new _ _ _
  have K6 := hide (ext_callB (unhide K5) hal)
  have d0 := (unhide B3).cell (j := 0) rfl
  have d1 := (unhide B3).cell (j := 1) rfl
  have d2 := (unhide B3).cell (j := 2) rfl
  have d3 := B4.cell (j := 0) rfl
  have d4 := B4.cell (j := 1) rfl
  have d5 := B4.cell (j := 2) rfl
  have c0 := (unhide B1).cell (j := 0) rfl
  have c1 := (unhide B1).cell (j := 1) rfl
  have c2 := (unhide B1).cell (j := 2) rfl
  have c3 := (unhide B2).cell (j := 0) rfl
  have c4 := (unhide B2).cell (j := 1) rfl
  rw [hz4] at d0 d1 d2 d3 d4 d5 c0 c1 c2 c3 c4
  have HZ4 := hide hz4
  clear hz4 hal A1 A2 A3 K5 B4
  go_wp2_with fail
  rw [← unhide HZ4]
  refine (unhide N5 _).mono ?_
  rintro e y5 ⟨rfl, k5⟩
  clear d0 d1 d2 d3 d4 d5 c0 c1 c2 c3 c4
  have A1 := hide ((unhide B1).below k5); have A2 := hide ((unhide B2).below k5); have A3 := hide ((unhide B3).below k5); have K7 := hide (ext_callB (unhide K6) k5)
  clear k5 B1 B2 B3 K6
  obtain ⟨z5, hz5⟩ : ∃ z, z = y5.alloc (.cells #[.string cs, .string cr] 32) := ⟨_, rfl⟩
  have hal : Below y5.heap.size y5 z5 := by rw [hz5]; exact (Below.refl _ _).alloc (Nat.le_refl _) _
  have B1 := hide ((unhide A1).below hal); have B2 := hide ((unhide A2).below hal); have B3 := hide ((unhide A3).below hal)
  have B5 : Hid (At z5 y5.heap.size #[.string cs, .string cr] 32) := hide (by rw [hz5]; exact At.new _ _ _)
  have K8 := hide (ext_callB (unhide K7) hal)
  have HL5 : Hid (y3.heap.size < y5.heap.size) := hide ((unhide A3).lt)
  have HZ5 := hide hz5
  clear hal A1 A2 A3 K7
  by_cases h0 : ke = 0
  case neg =>
    obtain ⟨rfl, rfl, rfl⟩ := unhide HE h0
    have t7 : (ce != 0) = true := by simpa using h0
    have t8 : (ce == ce) = true := by simp
    have d0 := (unhide B5).cell (j := 0) rfl
    have d1 := (unhide B5).cell (j := 1) rfl
    rw [hz5] at d0 d1
    have HF := hide ((unhide HB1).trans ((unhide K8).mono (unhide HB1).size))
    rw [hz5] at HF
    clear HE HY h0 hz5 N7 HKB
    go_wp2
    exact bodyPost_ret (v := .bool true) (by simp [results, Tryz.results3, go_sem]) rfl ⟨rfl, unhide HF⟩
  case pos =>
    subst h0
    obtain ⟨rfl, rfl, rfl⟩ := unhide HY rfl
    obtain ⟨q1, q2, q3, q4⟩ := unhide HKB rfl
    have n7 := fun W => unhide N7 W rfl
    rw [q1, q2, q3, q4] at n7
    have N8 := hide n7
    have c3 := (unhide B2).cell (j := 0) rfl
    have c4 := (unhide B2).cell (j := 1) rfl
    rw [hz5] at c3 c4
    clear HE HY hz5 HKB q1 q2 q3 q4 n7 N7
    go_wp2_with fail
    rw [← unhide HZ5]
    refine (unhide N6 _).mono ?_
    rintro e y6 ⟨rfl, k6⟩
    clear c3 c4
    have A1 := hide ((unhide B1).below k6); have A3 := hide ((unhide B3).below k6); have A5 := hide ((unhide B5).below k6); have K9 := hide (ext_callB (unhide K8) k6)
    clear k6 B1 B2 B3 B5 K8
    obtain ⟨z6, hz6⟩ : ∃ z, z = y6.alloc (.cells #[.string cs, .string cr] 32) := ⟨_, rfl⟩
    have hal : Below y6.heap.size y6 z6 := by rw [hz6]; exact (Below.refl _ _).alloc (Nat.le_refl _) _
    have B1 := hide ((unhide A1).below hal); have B3 := hide ((unhide A3).below hal); have B5 := hide ((unhide A5).below hal)
    have B6 : Hid (At z6 y6.heap.size #[.string cs, .string cr] 32) := hide (by rw [hz6]; exact At.new _ _ _)
    have K10 := hide (ext_callB (unhide K9) hal)
    have HL6 : Hid (y3.heap.size < y6.heap.size) := hide ((unhide A3).lt)
    have HZ6 := hide hz6
    clear hal A1 A3 A5 K9 hz6
    go_wp2_with fail
    rw [← unhide HZ6]
    refine (unhide N8 _).mono ?_
    rintro e y7 ⟨rfl, k7⟩
    have A1 := (unhide B1).below k7; have A3 := (unhide B3).below k7; have A5 := (unhide B5).below k7; have A6 := (unhide B6).below k7
    have hF := (unhide HB1).trans ((ext_callB (unhide K10) k7).mono (unhide HB1).size)
    have l1 : w.heap.size < y3.heap.size := Nat.lt_of_lt_of_le (unhide HLT1) (unhide HL3)
    have l5 := unhide HL5
    have l6 := unhide HL6
    obtain ⟨Z, hZ⟩ : ∃ Z, Z = ((y7.setCell ⟨y3.heap.size, 0, none⟩ (.string o)).setCell ⟨y3.heap.size, 1, none⟩ (.int .i64 t)).setCell ⟨y3.heap.size, 2, none⟩ (.string m) := ⟨_, rfl⟩
    have Z1 : At Z w.heap.size #[.string o, .int .i64 t, .string m] 23 := by rw [hZ]; exact ((A1.other (by omega)).other (by omega)).other (by omega)
    have Z5 : At Z y5.heap.size #[.string cs, .string cr] 32 := by rw [hZ]; exact ((A5.other (by omega)).other (by omega)).other (by omega)
    have Z6 : At Z y6.heap.size #[.string cs, .string cr] 32 := by rw [hZ]; exact ((A6.other (by omega)).other (by omega)).other (by omega)
    have Z3 : At Z y3.heap.size #[.string o, .int .i64 t, .string m] 23 := by rw [hZ]; exact A3.set.set.set
    have HF : Hid (Below w.heap.size w Z) := hide (by rw [hZ]; exact ((hF.setCell (p := ⟨y3.heap.size, 0, none⟩) (Nat.le_of_lt l1) _).setCell (p := ⟨y3.heap.size, 1, none⟩) (Nat.le_of_lt l1) _).setCell (p := ⟨y3.heap.size, 2, none⟩) (Nat.le_of_lt l1) _)
    have f0 := A3.soft (j := 0)
    have f1 := A3.soft (j := 1)
    have f2 := A3.soft (j := 2)
    have g0 := A3.cell (j := 0) rfl
    have g1 := A3.cell (j := 1) rfl
    have g2 := A3.cell (j := 2) rfl
    have d0 := Z1.cell (j := 0) rfl
    have d1 := Z1.cell (j := 1) rfl
    have d2 := Z1.cell (j := 2) rfl
    have d3 := Z5.cell (j := 0) rfl
    have d4 := Z5.cell (j := 1) rfl
    have d5 := Z6.cell (j := 0) rfl
    have d6 := Z6.cell (j := 1) rfl
    have d7 := Z3.cell (j := 0) rfl
    have d8 := Z3.cell (j := 1) rfl
    have d9 := Z3.cell (j := 2) rfl
    rw [hZ] at d0 d1 d2 d3 d4 d5 d6 d7 d8 d9 HF
    have e1 : (cs.toList == cs.toList) = true := by simp
    have e2 : (cr.toList == cr.toList) = true := by simp
    have e3 : (ce == ce) = true := by simp
    have e4 : (o.toList == o.toList) = true := by simp
    have e5 : (m.toList == m.toList) = true := by simp
    have e6 : (t == t) = true := by simp
    clear k7 B1 B3 B5 B6 K10 A1 A3 A5 A6 hF l1 l5 l6 hZ Z1 Z5 Z6 Z3
    go_wp2
    exact bodyPost_ret (v := .bool true) (by simp [results, Tryz.results3, go_sem]) rfl ⟨rfl, unhide HF⟩
end Go.Proofs.YtmdcaljccegiiaaGreatDoor
