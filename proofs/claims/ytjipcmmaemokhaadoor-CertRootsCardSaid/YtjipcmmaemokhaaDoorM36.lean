/- Pair of the law's: one of six secrets. -/
import Derived.Test.YtjipcmmaemokhaaDoorM35
import Derived.Test.YtjipcmmaemokhaaDoorM21
import Derived.Test.YtjipcmmaemokhaaDoorM24
namespace Go.Proofs.YtjipcmmaemokhaaDoor
open Go.RowKit
set_option linter.unusedVariables false
set_option linter.unusedSimpArgs false
set_option maxRecDepth 100000

theorem choose6_any (c : Int) (w : World) (hc : -9223372036854775808 ≤ c ∧ c ≤ 9223372036854775807) :
    Calls Tryd.prog 8 #[.int .i64 c, .int .i64 6] w fun e w' => (∃ v : Nat, e = .returned (.int .i64 (v : Int)) ∧ v < 6) ∧ w' = w := by
  by_cases hneg : c < 0
  · have hm : Int.tmod (-(c + 1)) 6 = (-(c + 1)) % 6 := Int.tmod_eq_emod_of_nonneg (by omega)
    obtain ⟨v, hv⟩ : ∃ v : Nat, (v : Int) = (-(c + 1)) % 6 := ⟨((-(c + 1)) % 6).toNat, by omega⟩
    have hv6 : v < 6 := by omega
    rw [← hv] at hm
    have e3 : IntKind.i64.wrap (v : Int) = (v : Int) := wraps_i64 _ (by omega) (by omega)
    clear hv
    go_enter Tryd.func8, Tryd.ntmps8
    go_wp2
    go_ret
    exact ⟨⟨v, rfl, hv6⟩, rfl⟩
  · have hm : Int.tmod c 6 = c % 6 := Int.tmod_eq_emod_of_nonneg (by omega)
    obtain ⟨v, hv⟩ : ∃ v : Nat, (v : Int) = c % 6 := ⟨(c % 6).toNat, by omega⟩
    have hv6 : v < 6 := by omega
    rw [← hv] at hm
    have e3 : IntKind.i64.wrap (v : Int) = (v : Int) := wraps_i64 _ (by omega) (by omega)
    clear hv
    go_enter Tryd.func8, Tryd.ntmps8
    go_wp2
    go_ret
    exact ⟨⟨v, rfl, hv6⟩, rfl⟩
theorem ext_drewR {W x : World} (h : Below W.heap.size W x) : Below W.heap.size W x.drew := h.drew
theorem step_call1R {P : Program} {ops : Array Oper} {o : Oper} {a : Act} {w : World} {K : Act → World → Prop} {Q : Exit → Act → World → Prop} {E : Prop} (hgd : o.guard = none) (f : FuncId) (x : Operand) (ts : Array TypeId)
    (ho : o.op = .call { callee := .value (.func f), args := #[x], argTypes := ts }) (v : Value) (hx : a.eval x = v) (hf : ∀ args w, (callFunc f args).run P w = .ok (.enter f args) w)
    {S : Ending → World → Prop} (hc : Calls P f #[v] w S) (hv : ∀ e w', S e w' → ∃ v, e = .returned v ∧ K (a.put o.dst v) w') :
    if Region.wanted o (yielded ops a.tmps) = true then Oper.wp P o a w K Q else E := by
  have hw : Region.wanted o (yielded ops a.tmps) = true := by simp [Region.wanted, hgd]
  rw [if_pos hw]
  obtain ⟨dst, op, ty, pos, after, guard⟩ := o
  cases ho
  have hrun : (execOp a.eval { dst, op := .call { callee := .value (.func f), args := #[x], argTypes := ts }, type := ty, pos, after, guard }).run P w = .ok (.enter f #[v]) w := by
    show (callFunc f (#[] ++ #[x].map a.eval ++ #[])).run P w = _
    have e : (#[] ++ #[x].map a.eval ++ #[]) = #[v] := by simp [hx]
    rw [e]; exact hf _ _
  unfold Oper.wp
  rw [hrun, Oper.upon_enter]
  refine hc.mono fun e w' hh => ?_
  obtain ⟨v, rfl, hk⟩ := hv e w' hh
  exact hk
theorem entHex (args : Array Value) (w : World) : (callFunc 9 args).run Tryd.prog w = .ok (.enter 9 args) w := by kernel_rfl
theorem set_rowR {w : World} {g j : Nat} {cs : Array Value} {e : TypeId} {fr : Nat × Nat} {v : Value} (h : w.heap[g]? = some (.cells cs e fr)) : (w.setCell ⟨g, j, none⟩ v).heap[g]? = some (.cells (cs.setIfInBounds j v) e fr) := by
  simp [World.setCell, Array.getElem?_modify, h]

theorem fromHexT (j : Nat) (h : j < 12) (w : World) : Calls Tryd.prog 9 #[.string (hexT j)] w fun e w' => e = .returned (.string (prB j)) ∧ Below w.heap.size w w' := by
  have := fromHex_any (hexT j) (prL j) (hexT_size j) (by have := prL_le j h; omega) (hexT_hex j h) w
  rw [hexT_bytes j h] at this
  exact this
set_option maxHeartbeats 4000000 in
theorem pair_any (n : Int) (w : World) (hn : -9223372036854775808 ≤ n ∧ n ≤ 9223372036854775807) (ht : PairTab w) :
    Calls Tryd.prog 4 #[.int .i64 n] w fun e w' => (∃ i, i < 6 ∧ e = .returned (.agg #[.string (prB (2 * i)), .string (prB (2 * i + 1))])) ∧ Below w.heap.size w w' := by
  have N0 := hide (fun W => choose6_any n W hn)
  have N1 := hide fromHexT
  have HT := hide ht
  have HB := hide (fun o : Obj => (Below.refl w.heap.size w).alloc (Nat.le_refl _) o)
  go_enter Tryd.func4, Tryd.ntmps4
  go_wp2_with fail
  refine (unhide N0 _).mono ?_
  rintro e w1 ⟨⟨v, rfl, hv⟩, hw⟩
  have hw' := hw.symm
  subst hw'
  clear hw
  obtain ⟨W1, hW1⟩ : ∃ W1, W1 = w.alloc (.cells #[.string ⟨#[]⟩, .string ⟨#[]⟩] 23) := ⟨_, rfl⟩
  have hB1 : Below w.heap.size w W1 := by rw [hW1]; exact unhide HB _
  have hX1 : W1.heap[w.heap.size]? = some (.cells #[.string ⟨#[]⟩, .string ⟨#[]⟩] 23 (0, 0)) := by rw [hW1]; exact heap_alloc_new _ _
  have ht1 : PairTab W1 := ht.below hB1 ht.lt
  rw [← hW1]
  obtain ⟨a, ha⟩ : ∃ a, a = hexT (2 * v) := ⟨_, rfl⟩
  obtain ⟨b, hb⟩ : ∃ b, b = hexT (2 * v + 1) := ⟨_, rfl⟩
  obtain ⟨p, hp⟩ : ∃ p, p = prB (2 * v) := ⟨_, rfl⟩
  obtain ⟨q, hq⟩ : ∃ q, q = prB (2 * v + 1) := ⟨_, rfl⟩
  have d0 := ht1 (2 * v) (by omega)
  have d1 := ht1 (2 * v + 1) (by omega)
  have n1 := fun W => unhide N1 (2 * v) (by omega) W
  have n2 := fun W => unhide N1 (2 * v + 1) (by omega) W
  rw [← ha] at d0 n1
  rw [← hb] at d1 n2
  rw [← hp] at n1
  rw [← hq] at n2
  have M1 := hide n1; have M2 := hide n2
  have HQ : Hid (∃ i, i < 6 ∧ (Value.agg #[.string p, .string q]) = .agg #[.string (prB (2 * i)), .string (prB (2 * i + 1))]) := hide ⟨v, hv, by rw [hp, hq]⟩
  have HB1 := hide hB1
  obtain ⟨W2, hW2⟩ : ∃ W2, W2 = W1.alloc (.cells #[.string a, .string b] 31) := ⟨_, rfl⟩
  have hB2 : Below W1.heap.size W1 W2 := by rw [hW2]; exact (Below.refl _ _).alloc (Nat.le_refl _) _
  have hY2 : W2.heap[W1.heap.size]? = some (.cells #[.string a, .string b] 31 (0, 0)) := by rw [hW2]; exact heap_alloc_new _ _
  have hl1 : w.heap.size < W1.heap.size := by rw [hW1]; simp
  have hX2 := (hB2.block _ hl1).trans hX1
  have hl2 : W1.heap.size < W2.heap.size := by rw [hW2]; simp
  have HC : Hid (∀ W, Below W2.heap.size W2 W → W.cell? ⟨W1.heap.size, 0, none⟩ = some (.string a) ∧ W.cell? ⟨W1.heap.size, 1, none⟩ = some (.string b) ∧ W.frozen? ⟨w.heap.size, 0, none⟩ = false ∧ W.frozen? ⟨w.heap.size, 1, none⟩ = false ∧ W.heap[w.heap.size]? = some (.cells #[.string ⟨#[]⟩, .string ⟨#[]⟩] 23 (0, 0))) := hide (fun W hb => by
    have h1 := (hb.block _ hl2).trans hY2
    have h2 := (hb.block _ (Nat.lt_trans hl1 hl2)).trans hX2
    exact ⟨cell_of_row _ _ 0 _ _ _ h1, cell_of_row _ _ 1 _ _ _ h1, by simp [World.frozen?, h2], by simp [World.frozen?, h2], h2⟩)
  have HK : Hid (∀ (x r : ByteArray), (∀ W : World, Calls Tryd.prog 9 #[.string x] W fun e w' => e = .returned (.string r) ∧ Below W.heap.size W w') → ∀ W, Below W2.heap.size W2 W → Calls Tryd.prog 9 #[.string x] W fun e w' => e = .returned (.string r) ∧ Below W2.heap.size W2 w' ∧ w'.cell? ⟨W1.heap.size, 0, none⟩ = some (.string a) ∧ w'.cell? ⟨W1.heap.size, 1, none⟩ = some (.string b) ∧ w'.cell? ⟨w.heap.size, 0, none⟩ = some (.string ⟨#[]⟩) ∧ w'.cell? ⟨w.heap.size, 1, none⟩ = some (.string ⟨#[]⟩) ∧ w'.frozen? ⟨w.heap.size, 0, none⟩ = false ∧ w'.frozen? ⟨w.heap.size, 1, none⟩ = false) := hide (fun x r hc W hb => (hc W).mono (fun e w' ⟨he, h⟩ => by
    have hz := ext_callB hb h
    obtain ⟨q0, q1, q2, q3, q4⟩ := unhide HC w' hz
    exact ⟨he, hz, q0, q1, cell_of_row _ _ 0 _ _ _ q4, cell_of_row _ _ 1 _ _ _ q4, q2, q3⟩))
  have K1 := hide (unhide HK a p (unhide M1))
  have K2 := hide (unhide HK b q (unhide M2))
  clear M1 M2 HK
  have HW2 := hide hW2
  have HB2 := hide (hB1.trans (hB2.mono hB1.size))
  clear n1 n2 hp hq ha hb hB1 hX1 ht1 hW1 HB HT N0 N1 hn ht hW2 hB2 hY2 hX2
  have hvc : v = 0 ∨ v = 1 ∨ v = 2 ∨ v = 3 ∨ v = 4 ∨ v = 5 := by omega
  rcases hvc with rfl | rfl | rfl | rfl | rfl | rfl
  all_goals
    simp only [Nat.mul_zero, Nat.zero_add, Nat.reduceMul, Nat.reduceAdd] at d0 d1
    clear hv
    go_upto_region 2 with fail
    rw [← unhide HW2]
    obtain ⟨c0, c1, f0, f1, _⟩ := unhide HC W2 (Below.refl _ _)
    have hb0 : Below W2.heap.size W2 W2.drew := (Below.refl _ _).drew
    go_region_law (first
      | (refine step_call1R (by rfl) 9 _ _ (by rfl) (.string b) (by rfl) entHex (unhide K2 _ h1) ?_; rintro ev z2 ⟨rfl, h2, _, _, g0, g1, g2, g3⟩; refine ⟨_, rfl, ?_⟩)
      | (refine step_call1R (by rfl) 9 _ _ (by rfl) (.string a) (by rfl) entHex (unhide K1 _ hb0) ?_; rintro ev z1 ⟨rfl, h1, d0, d1, g0, g1, g2, g3⟩; refine ⟨_, rfl, ?_⟩)
      | fail)
    all_goals
      obtain ⟨_, _, _, _, x0⟩ := unhide HC _ h2
      have hB := (unhide HB2).trans (h2.mono (unhide HB2).size)
      have hQ : Below w.heap.size w ((z2.setCell ⟨w.heap.size, 0, none⟩ (.string p)).setCell ⟨w.heap.size, 1, none⟩ (.string q)) := (hB.setCell (p := ⟨w.heap.size, 0, none⟩) (Nat.le_refl _) _).setCell (p := ⟨w.heap.size, 1, none⟩) (Nat.le_refl _) _
      have q2 : ((z2.setCell ⟨w.heap.size, 0, none⟩ (.string p)).setCell ⟨w.heap.size, 1, none⟩ (.string q)).cell? ⟨w.heap.size, 0, none⟩ = some (.string p) := by rw [cell_of_row _ _ 0 _ _ _ (set_rowR (set_rowR x0))]; rfl
      have q3 : ((z2.setCell ⟨w.heap.size, 0, none⟩ (.string p)).setCell ⟨w.heap.size, 1, none⟩ (.string q)).cell? ⟨w.heap.size, 1, none⟩ = some (.string q) := by rw [cell_of_row _ _ 1 _ _ _ (set_rowR (set_rowR x0))]; rfl
      have HF := hide hQ
      obtain ⟨i, hi6, hie⟩ := unhide HQ
      have HI := hide hie
      clear hie hQ hB x0 h1 h2 d0 d1 c0 c1
      go_wp2
      exact bodyPost_ret (v := .agg #[.string p, .string q]) (by simp [results, Tryd.results4, go_sem, q2, q3]) rfl ⟨⟨i, hi6, by rw [unhide HI]⟩, unhide HF⟩
end Go.Proofs.YtjipcmmaemokhaaDoor
namespace Go.Proofs.YtjipcmmaemokhaaDoor
open Go.RowKit
set_option linter.unusedVariables false

theorem or_sumK (c m s : Nat) (hc : c < 2 ^ s) : c ||| 2 ^ s * m = c + 2 ^ s * m := by
  have := Nat.two_pow_add_eq_or_of_lt (i := s) (b := c) hc m
  rw [Nat.or_comm, ← this, Nat.add_comm]
theorem left_stepK {P xs : List Nat} {c k x r c' E : Nat} (hv : natV P + c * B32 ^ k = natV (xs.take k) * E) (hl : P.length = k) (hx : xs[k]? = some x) (hs : r + c' * 4294967296 = c + x * E) :
    natV (P ++ [r]) + c' * B32 ^ (k + 1) = natV (xs.take (k + 1)) * E := by
  rw [natV_append, hl, natV_take_succ xs k x hx, Nat.pow_succ]
  simp only [natV, Nat.mul_zero, Nat.add_zero]
  have hs' : r + c' * B32 = c + x * E := hs
  have h1 : r * B32 ^ k + c' * B32 * B32 ^ k = c * B32 ^ k + x * E * B32 ^ k := by rw [← Nat.add_mul, ← Nat.add_mul, hs']
  grind
theorem two_dvd32 {s : Nat} (h : s < 32) : ∃ t, 4294967296 = 2 ^ s * t ∧ 0 < t := ⟨2 ^ (32 - s), by rw [← Nat.pow_add, show s + (32 - s) = 32 by omega], Nat.two_pow_pos _⟩
/-- the word that is shifted: its low part is a multiple of 2^s, its high part is below 2^s -/
theorem shl_parts {s x v lo hi c : Nat} (h : s < 32) (hx : x < 4294967296) (hv : v = x * 2 ^ s) (hlo : lo = v % 4294967296) (hhi : hi = v / 4294967296) (hc : c < 2 ^ s) : c ||| lo = c + lo ∧ c + lo < 4294967296 ∧ hi < 2 ^ s ∧ c + lo + hi * 4294967296 = c + x * 2 ^ s ∧ v < 18446744073709551616 ∧ hi < 4294967296 := by
  obtain ⟨t, ht, ht0⟩ := two_dvd32 h
  have hp : 2 ^ s < 4294967296 := by
    have := Nat.pow_lt_pow_right (a := 2) (by decide) h
    exact this
  have hp0 : 0 < 2 ^ s := Nat.two_pow_pos _
  have hor : ∀ m, c ||| 2 ^ s * m = c + 2 ^ s * m := fun m => or_sumK c m s hc
  generalize 2 ^ s = E at *
  have e1 : lo = E * (x % t) := by rw [hlo, hv, ht, Nat.mul_comm x E, Nat.mul_mod_mul_left]
  have e2 : hi = x / t := by rw [hhi, hv, ht, Nat.mul_comm x E, Nat.mul_div_mul_left _ _ hp0]
  have e3 : x % t < t := Nat.mod_lt _ ht0
  have hvb : v < 18446744073709551616 := by
    rw [hv]
    exact Nat.mul_lt_mul'' hx hp
  have e4 : E * (x % t) + E ≤ E * t := by rw [← Nat.mul_succ]; exact Nat.mul_le_mul_left _ e3
  have e5 : x / t < E := Nat.div_lt_of_lt_mul (by rw [Nat.mul_comm, ← ht]; exact hx)
  refine ⟨?_, by omega, by omega, by omega, hvb, by omega⟩
  rw [e1]; exact hor _
end Go.Proofs.YtjipcmmaemokhaaDoor
namespace Go.Proofs.YtjipcmmaemokhaaDoor
open Go.RowKit
set_option linter.unusedVariables false

theorem natV_drop (xs : List Nat) (k x : Nat) (h : xs[k]? = some x) : natV (xs.drop k) = x + B32 * natV (xs.drop (k + 1)) := by
  have hk : k < xs.length := (List.getElem?_eq_some_iff.1 h).1
  rw [List.drop_eq_getElem_cons hk]
  have : xs[k] = x := (List.getElem?_eq_some_iff.1 h).2
  rw [this]; rfl
/-- one word of a number that is divided by a power of two -/
theorem right_word {E D x y z D1 : Nat} (hE : ∃ t, 4294967296 = E * t ∧ 0 < t) (hE0 : 0 < E) (hx : x < 4294967296) (hD : D = x + B32 * D1) (h1 : D1 = y + B32 * z) (hy : y < 4294967296) :
    D / E = (x + 4294967296 * y) / E % 4294967296 + B32 * (D1 / E) := by
  obtain ⟨t, ht, ht0⟩ := hE
  unfold B32 at hD h1 ⊢
  have e1 : D / E / 4294967296 = D1 / E := by
    rw [Nat.div_div_eq_div_mul, Nat.mul_comm, ← Nat.div_div_eq_div_mul]
    congr 1
    omega
  have e2 : D / E = (x + 4294967296 * y) / E + 4294967296 * (t * z) := by
    have : D = x + 4294967296 * y + E * (4294967296 * (t * z)) := by
      rw [hD, h1]
      have : 4294967296 * (4294967296 * z) = E * (4294967296 * (t * z)) := by
        have h9 : E * (4294967296 * (t * z)) = (E * t) * (4294967296 * z) := by grind
        rw [h9, ← ht]
      rw [← this, Nat.mul_add]
      omega
    rw [this, Nat.add_mul_div_left _ _ hE0]
  have e3 : D / E % 4294967296 = (x + 4294967296 * y) / E % 4294967296 := by
    rw [e2, Nat.add_mul_mod_self_left]
  have := Nat.div_add_mod (D / E) 4294967296
  rw [e1, e3] at this
  omega
end Go.Proofs.YtjipcmmaemokhaaDoor
