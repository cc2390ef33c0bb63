/- clear: Post. -/
import Derived.Test.YtdameincehiieaaClrL
namespace Go.Proofs.Ytdameincehiieaa
open Go.RowKit Go.WideMaps Go.Maps
set_option linter.unusedVariables false
set_option maxRecDepth 100000

variable {w w' : World} {F : Nat → Prop} {b m1 m2 n k : Nat} {S : Clr} {qs : List Nat}
def boxP (p : Pst) : Obj := .cells #[.int .i64 p.frm, .int .i64 p.to, .int .i64 p.shop, .int .i64 p.trace, .int .i64 p.amt, .int .i64 p.day] 36
def okA (p : Pst) : Bool := inB 1 p.frm 99 && inB 1 p.to 99
def okN (p : Pst) : Bool := inB 0 p.shop 4294967295 && inB 0 p.trace 4294967295
theorem areBanks_any (p : Pst) (w : World) : Calls Try.prog 21 #[pstV p] w fun e w' => e = .returned (.bool (okA p)) ∧ Below w.heap.size w w' := by
  have hbl : Below w.heap.size w (w.alloc (boxP p)) := (Below.refl w.heap.size w).alloc (Nat.le_refl _) _
  obtain ⟨frm, to, shop, trace, amt, day⟩ := p
  unfold boxP okA pstV at *
  dsimp only at *
  have N1 := hide (cwithin_any frm 1 99 (w.alloc (.cells #[.int .i64 frm, .int .i64 to, .int .i64 shop, .int .i64 trace, .int .i64 amt, .int .i64 day] 36)))
  have N2 := hide (cwithin_any to 1 99 (w.alloc (.cells #[.int .i64 frm, .int .i64 to, .int .i64 shop, .int .i64 trace, .int .i64 amt, .int .i64 day] 36)))
  have HB := hide hbl
  clear hbl
  cases h1 : inB 1 frm 99
  · rw [h1] at N1
    rw [Bool.false_and]
    clear h1
    go_enter Try.func21, Try.ntmps21
    go_wp2_with fail
    refine (unhide N1).mono ?_
    rintro e w1 ⟨rfl, hw1⟩
    rw [hw1]
    clear hw1
    go_wp2
    go_ret
    exact ⟨rfl, unhide HB⟩
  · rw [h1] at N1
    rw [Bool.true_and]
    generalize inB 1 to 99 = x at *
    clear h1
    go_enter Try.func21, Try.ntmps21
    go_wp2_with fail
    refine (unhide N1).mono ?_
    rintro e w1 ⟨rfl, hw1⟩
    rw [hw1]
    clear hw1
    go_wp2_with fail
    refine (unhide N2).mono ?_
    rintro e w1 ⟨rfl, hw1⟩
    rw [hw1]
    clear hw1
    go_wp2
    go_ret
    exact ⟨rfl, unhide HB⟩
theorem areNumbers_any (p : Pst) (w : World) : Calls Try.prog 22 #[pstV p] w fun e w' => e = .returned (.bool (okN p)) ∧ Below w.heap.size w w' := by
  have hbl : Below w.heap.size w (w.alloc (boxP p)) := (Below.refl w.heap.size w).alloc (Nat.le_refl _) _
  obtain ⟨frm, to, shop, trace, amt, day⟩ := p
  unfold boxP okN pstV at *
  dsimp only at *
  have N1 := hide (cwithin_any shop 0 4294967295 (w.alloc (.cells #[.int .i64 frm, .int .i64 to, .int .i64 shop, .int .i64 trace, .int .i64 amt, .int .i64 day] 36)))
  have N2 := hide (cwithin_any trace 0 4294967295 (w.alloc (.cells #[.int .i64 frm, .int .i64 to, .int .i64 shop, .int .i64 trace, .int .i64 amt, .int .i64 day] 36)))
  have HB := hide hbl
  clear hbl
  cases h1 : inB 0 shop 4294967295
  · rw [h1] at N1
    rw [Bool.false_and]
    clear h1
    go_enter Try.func22, Try.ntmps22
    go_wp2_with fail
    refine (unhide N1).mono ?_
    rintro e w1 ⟨rfl, hw1⟩
    rw [hw1]
    clear hw1
    go_wp2
    go_ret
    exact ⟨rfl, unhide HB⟩
  · rw [h1] at N1
    rw [Bool.true_and]
    generalize inB 0 trace 4294967295 = x at *
    clear h1
    go_enter Try.func22, Try.ntmps22
    go_wp2_with fail
    refine (unhide N1).mono ?_
    rintro e w1 ⟨rfl, hw1⟩
    rw [hw1]
    clear hw1
    go_wp2_with fail
    refine (unhide N2).mono ?_
    rintro e w1 ⟨rfl, hw1⟩
    rw [hw1]
    clear hw1
    go_wp2
    go_ret
    exact ⟨rfl, unhide HB⟩
theorem pst_ok (p : Pst) : pstBad p = !(okA p && (inB 0 p.amt 999999999999 && okN p)) := by
  unfold pstBad okA okN inB
  rw [← Bool.decide_and, ← Bool.decide_and, ← Bool.decide_and, ← Bool.decide_and, ← decide_not, decide_eq_decide]
  omega
theorem NMap.put {w : World} {m n c : Nat} {g : Int → Int → Option Nat} (h : NMap w m n c g) (hn : n < maxLen) (a b : Int) (p : Nat) (ha : InR a) (hb : InR b) (h0 : g a b = none) :
    ∃ w', (Instr.mapUpdate 64 (.map (some m)) (twoV a b) (.pointer (some ⟨p, 0, none⟩))).run Try.prog w = .ok () w' ∧ NMap w' m (n + 1) (c + 1) (upd2 g a b (some p)) ∧ w.grownBy w' (some m) := by
  obtain ⟨D, ho, hc, hD⟩ := h
  obtain ⟨l, hkey⟩ := keyName a b ha hb
  obtain ⟨w', hrun, q1, q2⟩ := ho.update lawName Try.underlying64 (val := .pointer (some ⟨p, 0, none⟩)) (d := .lit (.int .i64 p)) (ps := []) hn hkey rfl
  refine ⟨w', hrun, ⟨_, q1, ?_, fun a' b' l' z' ha' hb' hl' => ?_⟩, q2⟩
  · rw [size_put (ho.tidy lawName), has_false_of_atKey (fun z => by rw [hD a b l z ha hb hkey, h0]; rfl), hc]; rfl
  unfold upd2
  by_cases e : a' = a ∧ b' = b
  · rw [if_pos e]
    obtain ⟨rfl, rfl⟩ := e
    obtain rfl : l' = l := by rw [hkey] at hl'; injection hl' with e; exact e.symm
    exact atKey_put_same ho.isMap (lawName.key hkey) _ _
  · rw [if_neg e, atKey_put_other (by rintro rfl; exact e (two_inj (lawName.inj hl' hkey)))]
    exact hD a' b' l' z' ha' hb' hl'
theorem idxK_snoc (L : List Kse) (x : Kse) (a c : Int) : idxK (L ++ [x]) a c = (idxK L a c).or (if x.p.shop = a ∧ x.p.trace = c then some L.length else none) := by
  unfold idxK
  rw [List.findIdx?_append]
  congr 1
  by_cases e : x.p.shop = a ∧ x.p.trace = c
  · have hk : keyIs a c x = true := decide_eq_true e
    rw [if_pos e]; simp [List.findIdx?_cons, hk]
  · have hk : keyIs a c x = false := decide_eq_false e
    rw [if_neg e]; simp [List.findIdx?_cons, hk]
theorem gOf_snoc (L : List Kse) (qs : List Nat) (x : Kse) (q : Nat) (hl : qs.length = L.length) (hn : idxK L x.p.shop x.p.trace = none) (a c : Int) : upd2 (gOf L qs) x.p.shop x.p.trace (some q) a c = gOf (L ++ [x]) (qs ++ [q]) a c := by
  unfold upd2 gOf
  rw [idxK_snoc]
  by_cases e : a = x.p.shop ∧ c = x.p.trace
  · obtain ⟨rfl, rfl⟩ := e
    rw [if_pos ⟨rfl, rfl⟩, hn, if_pos ⟨rfl, rfl⟩]
    show some q = (qs ++ [q])[L.length]?
    rw [← hl, List.getElem?_append_right (Nat.le_refl _)]
    simp
  · rw [if_neg e, if_neg (fun hh => e ⟨hh.1.symm, hh.2.symm⟩), Option.or_none]
    cases hi : idxK L a c with
    | none => rfl
    | some i =>
      obtain ⟨k, hk, _, _, hlt⟩ := idxK_some hi
      show qs[i]? = (qs ++ [q])[i]?
      rw [List.getElem?_append_left (by omega)]
/-- a payment more -/
theorem CIn.posted (h : CIn w F b S m1 m2 n k qs) {p : Pst} {q k' : Nat} (hn : idxK S.L p.shop p.trace = none) (hB : ClrB w' b S.D S.last m1 m2) (hN : NMap w' m1 (n + 1) (S.L.length + 1) (upd2 (gOf S.L qs) p.shop p.trace (some q)))
    (hM : PMap w' m2 k' (owU S.ow p p.amt)) (hk : k' ≤ k + 1) (hP : PayB w' q p (startC p)) (hq : w.heap.size ≤ q) (hC : Chg F w w') (hbl : ∀ x ∈ qs, w'.heap[x]? = w.heap[x]?) :
    CIn w' (fun x => F x ∨ x = q) b { S with L := S.L ++ [⟨p, [], startC p⟩], ow := owU S.ow p p.amt } m1 m2 (n + 1) k' (qs ++ [q]) := by
  have hnew : ∀ x, F x → x ≠ q := fun x hx e => by have := h.flt x hx; omega
  refine { blk := hB, nm := ?_, nn := ?_, pm := hM, kk := ?_, qlen := ?_, pays := ?_, qnd := ?_, fb := .inl h.fb, f1 := .inl h.f1, f2 := .inl h.f2, fq := ?_, flt := ?_, n1 := h.n1, n2 := h.n2, n3 := h.n3, nq := ?_ }
  · show NMap w' m1 (n + 1) (S.L ++ [_]).length (gOf (S.L ++ [_]) (qs ++ [q]))
    rw [List.length_append]
    exact hN.congr (fun a c => gOf_snoc S.L qs ⟨p, [], startC p⟩ q h.qlen hn a c)
  · show n + 1 ≤ (S.L ++ [_]).length
    rw [List.length_append]; exact Nat.succ_le_succ h.nn
  · show _ ≤ sumB (S.L ++ [_])
    have := h.kk
    rw [sumB_snoc]
    show _ ≤ sumB S.L + 1000000000000
    omega
  · show (qs ++ [q]).length = (S.L ++ [_]).length
    rw [List.length_append, List.length_append, h.qlen]; rfl
  · intro i r x hr hx
    have hx' : (S.L ++ [(⟨p, [], startC p⟩ : Kse)])[i]? = some x := hx
    by_cases hi : i < S.L.length
    · rw [List.getElem?_append_left hi] at hx'
      rw [List.getElem?_append_left (by rw [h.qlen]; exact hi)] at hr
      exact (h.pays i r x hr hx').of_block (hbl r (List.mem_of_getElem? hr))
    · rw [List.getElem?_append_right (by omega)] at hx'
      rw [List.getElem?_append_right (by rw [h.qlen]; omega)] at hr
      have hi2 : i - S.L.length = 0 := by
        by_cases e : i - S.L.length = 0
        · exact e
        · rw [List.getElem?_eq_none (by simp; omega)] at hx'; cases hx'
      rw [hi2] at hx'
      rw [h.qlen, hi2] at hr
      obtain rfl := Option.some.inj hx'
      obtain rfl := Option.some.inj hr
      exact hP
  · rw [List.nodup_append]
    refine ⟨h.qnd, by simp, fun x hx y hy => ?_⟩
    obtain rfl := List.mem_singleton.1 hy
    exact hnew x (h.fq x hx)
  · intro x hx
    rcases List.mem_append.1 hx with hx | hx
    · exact .inl (h.fq x hx)
    · exact .inr (List.mem_singleton.1 hx)
  · intro x hx
    rcases hx with hx | rfl
    · exact Nat.lt_of_lt_of_le (h.flt x hx) hC.size
    · exact blk_lt hP
  · intro x hx
    rcases List.mem_append.1 hx with hx | hx
    · exact h.nq x hx
    · obtain rfl := List.mem_singleton.1 hx
      exact ⟨Ne.symm (hnew b h.fb), Ne.symm (hnew m1 h.f1), Ne.symm (hnew m2 h.f2)⟩
end Go.Proofs.Ytdameincehiieaa
