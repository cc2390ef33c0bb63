/- Words of 32 bits in memory; trim, words. -/
import Derived.Test.YtajkbkljonejnaaGreatDoorM22
import Derived.Deep.QuietTactic
import Derived.BigQuiet
import Derived.WalkSmall
import Derived.Test.YtajkbkljonejnaaGreatDoorM00
namespace Go.Proofs.YtajkbkljonejnaaGreatDoor
open Go.RowKit
set_option linter.unusedVariables false
def WRow (w : World) (ao : Option Addr) (ws : List Nat) : Prop := ws = [] ∨ ∃ g off, ao = some ⟨g, off, none⟩ ∧ g < w.heap.size ∧ ∀ i x, ws[i]? = some x → w.cell? ⟨g, off + i, none⟩ = some (.int .u32 (x : Nat))
theorem WRow.below {w w' : World} {ao : Option Addr} {ws : List Nat} (h : WRow w ao ws) (hb : Below w.heap.size w w') : WRow w' ao ws := by
  rcases h with h | ⟨g, off, e, hlt, hc⟩
  · exact .inl h
  · exact .inr ⟨g, off, e, Nat.lt_of_lt_of_le hlt hb.size, fun i x hi => (hb.cell (p := ⟨g, off + i, none⟩) hlt).trans (hc i x hi)⟩
theorem WRow.take {w : World} {ao : Option Addr} {ws : List Nat} (h : WRow w ao ws) (n : Nat) : WRow w ao (ws.take n) := by
  rcases h with rfl | ⟨g, off, e, hlt, hc⟩
  · exact .inl (by simp)
  · refine .inr ⟨g, off, e, hlt, fun i x hi => hc i x ?_⟩
    have hin : i < n := by
      have := (List.getElem?_eq_some_iff.1 hi).1
      rw [List.length_take] at this
      omega
    rwa [List.getElem?_take_of_lt hin] at hi
def VCells (row : List Nat) : Array Value := (row.map fun x : Nat => Value.int .u32 (x : Int)).toArray
def VRow (w : World) (g : Nat) (row : List Nat) : Prop := w.heap[g]? = some (.cells (VCells row) 129 (0, 0))
theorem VRow.cell {w : World} {g : Nat} {row : List Nat} (h : VRow w g row) (i x : Nat) (hi : row[i]? = some x) : w.cell? ⟨g, i, none⟩ = some (.int .u32 (x : Nat)) := by
  rw [cell_of_row _ _ i _ _ _ h]
  simp [VCells, hi]
theorem VRow.frozen {w : World} {g : Nat} {row : List Nat} (h : VRow w g row) (i : Nat) : w.frozen? ⟨g, i, none⟩ = false := frozen_of_row _ _ i _ _ h
theorem VRow.lt {w : World} {g : Nat} {row : List Nat} (h : VRow w g row) : g < w.heap.size := by
  rcases Nat.lt_or_ge g w.heap.size with h' | h'
  · exact h'
  · unfold VRow at h
    rw [Array.getElem?_eq_none h'] at h; cases h
theorem VRow.set {w : World} {g : Nat} {row : List Nat} (h : VRow w g row) (i x : Nat) : VRow (w.setCell ⟨g, i, none⟩ (.int .u32 (x : Nat))) g (row.set i x) := by
  unfold VRow at *
  have : (w.setCell ⟨g, i, none⟩ (.int .u32 (x : Nat))).heap[g]? = some (.cells ((VCells row).setIfInBounds i (.int .u32 (x : Nat))) 129 (0, 0)) := by
    simp [World.setCell, Array.getElem?_modify, h]
  rw [this]
  congr 2
  unfold VCells
  rw [List.setIfInBounds_toArray, List.map_set]
theorem VRow.wrow {w : World} {g : Nat} {row : List Nat} (h : VRow w g row) : WRow w (some ⟨g, 0, none⟩) row :=
  .inr ⟨g, 0, rfl, h.lt, fun i x hi => by rw [Nat.zero_add]; exact h.cell i x hi⟩
theorem VRow.below {w w' : World} {g : Nat} {row : List Nat} (h : VRow w g row) (hb : Below w.heap.size w w') : VRow w' g row := by
  have hg := h.lt
  unfold VRow at *
  rw [hb.block g hg, h]
set_option maxHeartbeats 1000000 in
theorem trim_any (ws : List Nat) (g off cap : Nat) (w : World) (hr : WRow w (some ⟨g, off, none⟩) ws) (hok : okV ws) (hl : (ws.length : Int) ≤ 1000000) (hcap : (ws.length : Int) ≤ (cap : Int)) (hc2 : (cap : Int) ≤ 1000000) :
    Calls Tryz.prog 137 #[.slice (some ⟨g, off, none⟩) ws.length cap] w fun e w' => e = .returned (.slice (some ⟨g, off, none⟩) (dig (natV ws)).length cap) ∧ w' = w := by
  have HR := hide hr; have HOK := hide hok
  clear hr hok
  go_enter Tryz.func137, Tryz.ntmps137
  go_wp2
  go_loopw [3] (fun n wr => ∃ k : Nat, k ≤ ws.length ∧ n = .int .i64 k ∧ Hid (∀ i x, k ≤ i → ws[i]? = some x → x = 0) ∧ wr = w) (fun n _ => (intOf n).toNat)
  case atStart => exact ⟨ws.length, Nat.le_refl _, rfl, hide (fun i x hi hx => by rw [List.getElem?_eq_none hi] at hx; cases hx), rfl⟩
  case round =>
    obtain ⟨k, hk, rfl, HZ, rfl⟩ := hrel
    have fin : (k = 0 ∨ ∃ x, ws[k - 1]? = some x ∧ x ≠ 0) → (dig (natV ws)).length = k := fun h => by
      rw [dig_take (unhide HOK) k hk (unhide HZ) h, List.length_take]
      omega
    have HFIN := hide fin
    clear fin
    have hkc : (k : Int) ≤ (cap : Int) := by omega
    cases k with
    | zero =>
      have HE := hide (unhide HFIN (.inl rfl))
      clear HFIN
      go_wp2
      go_ret
      exact ⟨by rw [unhide HE]; rfl, rfl⟩
    | succ j =>
      obtain ⟨x, hx⟩ : ∃ x, ws[j]? = some x := ⟨_, List.getElem?_eq_getElem (by omega)⟩
      rcases (unhide HR) with hnil | ⟨g', off', he, hb, hc⟩
      · rw [hnil] at hx; simp at hx
      obtain ⟨rfl, rfl⟩ : g = g' ∧ off = off' := by simpa using he
      have c0 := hc j x hx
      have hji : (j : Int) < (ws.length : Int) := by omega
      have hw1 : IntKind.i64.wrap (((j + 1 : Nat) : Int) - 1) = (j : Int) := by rw [IntKind.wrap_i64]; omega
      have hgt : decide (0 < ((j + 1 : Nat) : Int)) = true := decide_eq_true (by omega)
      by_cases hx0 : x = 0
      · subst hx0
        have HZ2 : Hid (∀ i x, j ≤ i → ws[i]? = some x → x = 0) := hide (fun i x hi hxi => by
          rcases Nat.lt_or_ge i (j + 1) with h | h
          · obtain rfl : i = j := by omega
            rw [hx] at hxi
            simpa using hxi.symm
          · exact unhide HZ i x h hxi)
        clear hx hc he
        go_wp2
        go_roundw
        case rel => exact ⟨j, by omega, by go_num, HZ2, by first | rfl | trivial⟩
        case measure => simp [intOf]; try omega
      · have HE := hide (unhide HFIN (.inr ⟨x, hx, hx0⟩))
        have hxI : ((x : Int) == 0) = false := by simp; omega
        clear hx hc he hx0 HFIN
        go_wp2
        go_ret
        exact ⟨by rw [unhide HE]; rfl, rfl⟩
end Go.Proofs.YtajkbkljonejnaaGreatDoor
namespace Go.Proofs.YtajkbkljonejnaaGreatDoor
open Go.RowKit
set_option linter.unusedVariables false
theorem infoU32 : (Tryz.prog.info? 129).map (fun i => (i.zero, i.size, i.bytes)) = some (some (.int .u32 0), 1, 4) := by kernel_rfl
theorem info_partsV {P : Program} {t : TypeId} {z : Value} {s b : Nat} (h : (P.info? t).map (fun i => (i.zero, i.size, i.bytes)) = some (some z, s, b)) : ∃ i, P.info? t = some i ∧ i.zero = some z ∧ i.size = s ∧ i.bytes = b := by
  cases hi : P.info? t with
  | none => rw [hi] at h; cases h
  | some i => rw [hi] at h; simp at h; exact ⟨i, rfl, h.1, h.2.1, h.2.2⟩
theorem own_wholeV {w : World} {base g n : Nat} {e : TypeId} {xs : List Value} (h : w.ownsRow base e 1 (.slice (some ⟨g, 0, none⟩) n n) n xs) : w.heap[g]? = some (.cells xs.toArray e (0, 0)) := by
  rcases h.2 with ⟨h1, h2⟩ | ⟨g', cap, cur, h1, hB, hh, hle, hm, hsz, htk⟩
  · simp at h1
  · simp only [Value.slice.injEq, Option.some.injEq, Addr.mk.injEq, and_true, true_and] at h1
    obtain ⟨rfl, rfl⟩ := h1
    rw [hh]
    congr 2
    have : cur.toList = xs := by
      rw [← htk, List.take_of_length_le (by simp; omega)]
    rw [← this]
theorem made_wordsV (n : Nat) : (madeCells #[Value.int .u32 0] n).toList = (List.replicate n 0).map fun x : Nat => Value.int .u32 (x : Int) := by
  rw [List.map_replicate]
  apply List.ext_getElem
  · simp [madeCells]
  · intro i h1 h2
    simp [madeCells, Nat.mod_one]
theorem made_vrow {w w1 : World} {base n : Nat} (h : w1.ownsRow base 129 1 (.slice (some ⟨w.heap.size, 0, none⟩) n n) n (madeCells #[Value.int .u32 0] n).toList) : VRow w1 w.heap.size (List.replicate n 0) := by
  have := own_wholeV h
  rw [made_wordsV] at this
  exact this
def BigV (w : World) (v : Value) (n : Nat) : Prop := ∃ ao cap, v = .slice ao (dig n).length cap ∧ WRow w ao (dig n)
theorem BigV.below {w w' : World} {v : Value} {n : Nat} (h : BigV w v n) (hb : Below w.heap.size w w') : BigV w' v n := by
  obtain ⟨ao, cap, hv, hr⟩ := h
  exact ⟨ao, cap, hv, hr.below hb⟩
theorem dig_prefix {l : List Nat} (h : okV l) : dig (natV l) = l.take (dig (natV l)).length := by
  suffices hs : ∀ (m : Nat) (l : List Nat), l.length = m → okV l → dig (natV l) = l.take (dig (natV l)).length from hs _ l rfl h
  intro m
  induction m with
  | zero =>
    intro l hl _
    obtain rfl := List.length_eq_zero_iff.1 hl
    simp [natV, dig_zero]
  | succ m ih =>
    intro l hl hok
    cases l with
    | nil => simp at hl
    | cons x r =>
      obtain ⟨hx, hr⟩ := okV_cons hok
      obtain ⟨e1, e2⟩ := natV_cons_div (r := r) hx
      by_cases h0 : natV (x :: r) = 0
      · rw [h0, dig_zero]; simp
      · rw [dig_pos h0]
        simp only [natV] at e1 e2 ⊢
        rw [e1, e2, List.length_cons, List.take_succ_cons, ← ih r (by simpa using hl) hr]
theorem wrow_dig {w : World} {ao : Option Addr} {l : List Nat} (h : WRow w ao l) (hok : okV l) : WRow w ao (dig (natV l)) := by
  rw [dig_prefix hok]
  exact h.take _
set_option maxHeartbeats 1000000 in
theorem words_any (x : Nat) (hx : (x : Int) < 18446744073709551616) (w : World) :
    Calls Tryz.prog 136 #[.int .u64 x] w fun e w' => (∃ v, e = .returned v ∧ BigV w' v x) ∧ Below w.heap.size w w' := by
  obtain ⟨lo, hlo⟩ : ∃ lo, lo = x % 4294967296 := ⟨_, rfl⟩
  obtain ⟨hi, hhi⟩ : ∃ hi, hi = x / 4294967296 := ⟨_, rfl⟩
  have hB : B32 = 4294967296 := rfl
  have hv : natV [lo, hi] = x := by
    show lo + 4294967296 * (hi + 4294967296 * 0) = x
    omega
  have hok : okV [lo, hi] := by
    intro y hy
    simp at hy
    rcases hy with rfl | rfl
    · show y < 4294967296
      omega
    · show y < 4294967296
      omega
  have hV : VRow (w.alloc (.cells #[.int .u32 lo, .int .u32 hi] 129)) w.heap.size [lo, hi] := heap_alloc_new w _
  have n1 := trim_any [lo, hi] w.heap.size 0 2 _ hV.wrow hok (by simp) (by simp) (by simp)
  have hbe := (Below.refl w.heap.size w).alloc (Nat.le_refl _) (.cells #[.int .u32 lo, .int .u32 hi] 129)
  have hwd := wrow_dig hV.wrow hok
  rw [hv] at n1 hwd
  have w1' : (x : Int) % 4294967296 = (lo : Int) := by omega
  have w2' : (x : Int) / 4294967296 = (hi : Int) := by omega
  have w3' : (hi : Int) % 4294967296 = (hi : Int) := by omega
  have N1 := hide n1; have HBE := hide hbe; have HWD := hide hwd
  clear n1 hbe hwd hV hok hv hlo hhi hB
  go_enter Tryz.func136, Tryz.ntmps136
  go_wp2_with fail
  refine (unhide N1).mono ?_
  rintro e w1 ⟨rfl, rfl⟩
  go_wp2
  go_ret
  exact ⟨⟨_, rfl, _, _, rfl, unhide HWD⟩, unhide HBE⟩
theorem okV_snoc {R : List Nat} {r : Nat} (h : okV R) (hr : r < B32) : okV (R ++ [r]) := okV_append h (fun y hy => by
  obtain rfl : y = r := by simpa using hy
  exact hr)
theorem add_step {R xs ys : List Nat} {cn k av bv r c' : Nat} (hRv : natV R + cn * B32 ^ k = natV (xs.take k) + natV (ys.take k)) (hRl : R.length = k) (ha : xs[k]? = some av) (hb : ys[k]? = some bv ∨ (bv = 0 ∧ ys.length ≤ k)) (hs : cn + av + bv = r + c' * B32) :
    natV (R ++ [r]) + c' * B32 ^ (k + 1) = natV (xs.take (k + 1)) + natV (ys.take (k + 1)) := by
  rw [natV_append, hRl, natV_take_succ xs k av ha]
  have hbt : natV (ys.take (k + 1)) = natV (ys.take k) + bv * B32 ^ k := by
    rcases hb with hb | ⟨rfl, hl⟩
    · exact natV_take_succ ys k bv hb
    · rw [List.take_of_length_le (by omega), List.take_of_length_le (by omega)]; simp
  rw [hbt, Nat.pow_succ]
  simp only [natV, Nat.mul_zero, Nat.add_zero]
  grind
set_option maxHeartbeats 8000000 in
set_option maxRecDepth 100000 in
theorem add_rows (xs ys : List Nat) (ao bo : Option Addr) (ca cb : Nat) (w : World) (ha : WRow w ao xs) (hb : WRow w bo ys) (oka : okV xs) (okb : okV ys) (hla : (xs.length : Int) ≤ 10000) (hlb : (ys.length : Int) ≤ 10000) :
    Calls Tryz.prog 134 #[.slice ao xs.length ca, .slice bo ys.length cb] w fun e w' => (∃ v, e = .returned v ∧ BigV w' v (natV xs + natV ys)) ∧ Below w.heap.size w w' := by
  have HA := hide ha; have HB := hide hb
  clear ha hb
  by_cases hle : ys.length ≤ xs.length
  · have hleI : ¬ (xs.length : Int) < (ys.length : Int) := by omega
    obtain ⟨i0, hi, hz0, hz1, hz2⟩ := info_partsV infoU32
    go_enter Tryz.func134, Tryz.ntmps134
    go_wp2_with (at_make; refine wpList_make_full _ rfl _ _ 107 rfl w.heap.size 129 i0 (.int .u32 0) 1 Tryz.underlying107 hi hz0 hz1 .i64 .i64 _ _ (xs.length + 1) rfl rfl (by simp) (by simp) (by rw [hz2]; omega) (by unfold maxLen; omega) (Nat.le_refl _) ?_)
    intro w1 hown hgrow
    have hU := made_vrow hown
    have hb : Below w.heap.size w w1 := (Below.refl _ _).grown hgrow (Nat.le_refl _) (fun q hq => by cases hq)
    clear hown hgrow hi hz0 hz1 hz2
    go_wp2
    go_loopw [6, 7] (fun c i wr => ∃ (k cn : Nat) (R : List Nat), k ≤ xs.length ∧ i = .int .i64 k ∧ c = .int .u64 cn ∧ cn ≤ 1 ∧ VRow wr w.heap.size (R ++ List.replicate (xs.length + 1 - k) 0) ∧ R.length = k ∧ okV R ∧ natV R + cn * B32 ^ k = natV (xs.take k) + natV (ys.take k) ∧ Below w.heap.size w wr) (fun _ i _ => xs.length - (intOf i).toNat)
    case atStart => exact ⟨0, 0, [], Nat.zero_le _, rfl, rfl, by omega, hU, rfl, okV_nil, by simp [natV], hb⟩
    case round =>
      clear hU hb
      obtain ⟨k, cn, R, hk, rfl, rfl, hcn, hU, hRl, hRok, hRv, hbel⟩ := hrel
      by_cases hlt : k < xs.length
      · obtain ⟨av, hav⟩ : ∃ x, xs[k]? = some x := ⟨_, List.getElem?_eq_getElem hlt⟩
        have havb : av < 4294967296 := okV_get oka hav
        rcases (unhide HA) with hnil | ⟨ga, oa, rfl, hga, hca⟩
        · rw [hnil] at hlt; simp at hlt
        have d0 : wr.cell? ⟨ga, oa + k, none⟩ = some (.int .u32 (av : Nat)) := (hbel.cell (p := ⟨ga, oa + k, none⟩) hga).trans (hca k av hav)
        have hrep : List.replicate (xs.length + 1 - k) 0 = 0 :: List.replicate (xs.length + 1 - (k + 1)) 0 := by
          rw [show xs.length + 1 - k = (xs.length + 1 - (k + 1)) + 1 by omega]; rfl
        rw [hrep] at hU
        have hfr := hU.frozen k
        have hcell := hU.cell k 0 (by rw [List.getElem?_append_right (by omega)]; simp [hRl])
        have hset : ∀ x : Nat, (R ++ 0 :: List.replicate (xs.length + 1 - (k + 1)) 0).set k x = (R ++ [x]) ++ List.replicate (xs.length + 1 - (k + 1)) 0 := fun x => by
          rw [List.set_append_right _ _ (by omega)]
          simp [hRl]
        have hkA : (k : Int) < (xs.length : Int) := by omega
        by_cases hltb : k < ys.length
        · obtain ⟨bv, hbv⟩ : ∃ x, ys[k]? = some x := ⟨_, List.getElem?_eq_getElem hltb⟩
          have hbvb : bv < 4294967296 := okV_get okb hbv
          rcases (unhide HB) with hnil | ⟨gb, ob, rfl, hgb, hcb⟩
          · rw [hnil] at hltb; simp at hltb
          have d1 : wr.cell? ⟨gb, ob + k, none⟩ = some (.int .u32 (bv : Nat)) := (hbel.cell (p := ⟨gb, ob + k, none⟩) hgb).trans (hcb k bv hbv)
          have hkB : (k : Int) < (ys.length : Int) := by omega
          obtain ⟨s1, hs1⟩ : ∃ s, s = cn + av := ⟨_, rfl⟩
          obtain ⟨s2, hs2⟩ : ∃ s, s = s1 + bv := ⟨_, rfl⟩
          obtain ⟨r, hr⟩ : ∃ r, r = s2 % 4294967296 := ⟨_, rfl⟩
          obtain ⟨c', hc'⟩ : ∃ r, r = s2 / 4294967296 := ⟨_, rfl⟩
          have hsum := add_step hRv hRl hav (.inl hbv) (show cn + av + bv = r + c' * 4294967296 by omega)
          have wa' : IntKind.u64.wrap (av : Int) = (av : Int) := wraps_u64 _ (by omega) (by omega)
          have w1' : IntKind.u64.wrap ((cn : Int) + (av : Int)) = (s1 : Int) := by rw [wraps_u64 _ (by omega) (by omega)]; omega
          have wb' : IntKind.u64.wrap (bv : Int) = (bv : Int) := wraps_u64 _ (by omega) (by omega)
          have w2' : IntKind.u64.wrap ((s1 : Int) + (bv : Int)) = (s2 : Int) := by rw [wraps_u64 _ (by omega) (by omega)]; omega
          have w3' : (s2 : Int) % 4294967296 = (r : Int) := by omega
          have w4' : (s2 : Int) / 4294967296 = (c' : Int) := by omega
          have hc1 : c' ≤ 1 := by omega
          have hrb : r < B32 := by show r < 4294967296; omega
          have HV := hide (hU.set k r); have HBE := hide (hbel.setCell (p := ⟨w.heap.size, k, none⟩) (Nat.le_refl _) (.int .u32 (r : Nat)))
          have HSET := hide (hset r); have HSUM := hide hsum; have HRO := hide (okV_snoc hRok hrb)
          clear hca hcb hav hbv havb hbvb hs1 hs2 hr hc' hsum hU hbel hset hrep hRv hrb
          go_wp2
          go_roundw
          case rel => exact ⟨k + 1, c', R ++ [r], by omega, by go_num, rfl, hc1, by rw [← unhide HSET]; exact unhide HV, by simp [hRl], unhide HRO, unhide HSUM, unhide HBE⟩
          case measure => simp [intOf]; omega
        · obtain ⟨s1, hs1⟩ : ∃ s, s = cn + av := ⟨_, rfl⟩
          obtain ⟨r, hr⟩ : ∃ r, r = s1 % 4294967296 := ⟨_, rfl⟩
          obtain ⟨c', hc'⟩ : ∃ r, r = s1 / 4294967296 := ⟨_, rfl⟩
          have hsum := add_step hRv hRl hav (.inr ⟨rfl, by omega⟩) (show cn + av + 0 = r + c' * 4294967296 by omega)
          have wa' : IntKind.u64.wrap (av : Int) = (av : Int) := wraps_u64 _ (by omega) (by omega)
          have w1' : IntKind.u64.wrap ((cn : Int) + (av : Int)) = (s1 : Int) := by rw [wraps_u64 _ (by omega) (by omega)]; omega
          have w3' : (s1 : Int) % 4294967296 = (r : Int) := by omega
          have w4' : (s1 : Int) / 4294967296 = (c' : Int) := by omega
          have hkB : ¬ (k : Int) < (ys.length : Int) := by omega
          have hc1 : c' ≤ 1 := by omega
          have hrb : r < B32 := by show r < 4294967296; omega
          have HV := hide (hU.set k r); have HBE := hide (hbel.setCell (p := ⟨w.heap.size, k, none⟩) (Nat.le_refl _) (.int .u32 (r : Nat)))
          have HSET := hide (hset r); have HSUM := hide hsum; have HRO := hide (okV_snoc hRok hrb)
          clear hca hav havb hs1 hr hc' hsum hU hbel hset hrep hRv hrb
          go_wp2
          go_roundw
          case rel => exact ⟨k + 1, c', R ++ [r], by omega, by go_num, rfl, hc1, by rw [← unhide HSET]; exact unhide HV, by simp [hRl], unhide HRO, unhide HSUM, unhide HBE⟩
          case measure => simp [intOf]; omega
      · obtain rfl : k = xs.length := by omega
        rw [List.take_length, List.take_of_length_le (by omega)] at hRv
        rw [show xs.length + 1 - xs.length = 1 by omega] at hU
        have hU2 : VRow wr w.heap.size (R ++ [0]) := hU
        have hfr := hU2.frozen xs.length
        have hcell := hU2.cell xs.length 0 (by rw [List.getElem?_append_right (by omega)]; simp [hRl])
        have hset : (R ++ [0]).set xs.length cn = R ++ [cn] := by
          rw [List.set_append_right _ _ (by omega)]
          simp [hRl]
        have hUs := hU2.set xs.length cn
        rw [hset] at hUs
        have hok2 := okV_snoc hRok (show cn < B32 by show cn < 4294967296; omega)
        have hnv : natV (R ++ [cn]) = natV xs + natV ys := by
          rw [natV_append, hRl, ← hRv]
          simp only [natV, Nat.mul_zero, Nat.add_zero]
          grind
        have hll : (R ++ [cn]).length = xs.length + 1 := by simp [hRl]
        have n1 := trim_any (R ++ [cn]) w.heap.size 0 (xs.length + 1) _ hUs.wrow hok2 (by rw [hll]; omega) (by rw [hll]; omega) (by omega)
        rw [hnv, hll] at n1
        have hwd := wrow_dig hUs.wrow hok2
        rw [hnv] at hwd
        have hbe := hbel.setCell (p := ⟨w.heap.size, xs.length, none⟩) (Nat.le_refl _) (.int .u32 (cn : Nat))
        have wc : (cn : Int) % 4294967296 = (cn : Int) := by omega
        have N1 := hide n1; have HWD := hide hwd; have HBE := hide hbe
        clear n1 hwd hbe hU hU2 hUs hset hok2 hnv hRv hbel hll
        go_wp2_with fail
        refine (unhide N1).mono ?_
        rintro e w2 ⟨rfl, rfl⟩
        go_wp2
        go_ret
        exact ⟨⟨_, rfl, _, _, rfl, unhide HWD⟩, unhide HBE⟩
  · have hleI : (xs.length : Int) < (ys.length : Int) := by omega
    rw [Nat.add_comm (natV xs) (natV ys)]
    obtain ⟨i0, hi, hz0, hz1, hz2⟩ := info_partsV infoU32
    go_enter Tryz.func134, Tryz.ntmps134
    go_wp2_with (at_make; refine wpList_make_full _ rfl _ _ 107 rfl w.heap.size 129 i0 (.int .u32 0) 1 Tryz.underlying107 hi hz0 hz1 .i64 .i64 _ _ (ys.length + 1) rfl rfl (by simp) (by simp) (by rw [hz2]; omega) (by unfold maxLen; omega) (Nat.le_refl _) ?_)
    intro w1 hown hgrow
    have hU := made_vrow hown
    have hb : Below w.heap.size w w1 := (Below.refl _ _).grown hgrow (Nat.le_refl _) (fun q hq => by cases hq)
    clear hown hgrow hi hz0 hz1 hz2
    go_wp2
    go_loopw [6, 7] (fun c i wr => ∃ (k cn : Nat) (R : List Nat), k ≤ ys.length ∧ i = .int .i64 k ∧ c = .int .u64 cn ∧ cn ≤ 1 ∧ VRow wr w.heap.size (R ++ List.replicate (ys.length + 1 - k) 0) ∧ R.length = k ∧ okV R ∧ natV R + cn * B32 ^ k = natV (ys.take k) + natV (xs.take k) ∧ Below w.heap.size w wr) (fun _ i _ => ys.length - (intOf i).toNat)
    case atStart => exact ⟨0, 0, [], Nat.zero_le _, rfl, rfl, by omega, hU, rfl, okV_nil, by simp [natV], hb⟩
    case round =>
      clear hU hb
      obtain ⟨k, cn, R, hk, rfl, rfl, hcn, hU, hRl, hRok, hRv, hbel⟩ := hrel
      by_cases hlt : k < ys.length
      · obtain ⟨av, hav⟩ : ∃ x, ys[k]? = some x := ⟨_, List.getElem?_eq_getElem hlt⟩
        have havb : av < 4294967296 := okV_get okb hav
        rcases (unhide HB) with hnil | ⟨ga, oa, rfl, hga, hca⟩
        · rw [hnil] at hlt; simp at hlt
        have d0 : wr.cell? ⟨ga, oa + k, none⟩ = some (.int .u32 (av : Nat)) := (hbel.cell (p := ⟨ga, oa + k, none⟩) hga).trans (hca k av hav)
        have hrep : List.replicate (ys.length + 1 - k) 0 = 0 :: List.replicate (ys.length + 1 - (k + 1)) 0 := by
          rw [show ys.length + 1 - k = (ys.length + 1 - (k + 1)) + 1 by omega]; rfl
        rw [hrep] at hU
        have hfr := hU.frozen k
        have hcell := hU.cell k 0 (by rw [List.getElem?_append_right (by omega)]; simp [hRl])
        have hset : ∀ x : Nat, (R ++ 0 :: List.replicate (ys.length + 1 - (k + 1)) 0).set k x = (R ++ [x]) ++ List.replicate (ys.length + 1 - (k + 1)) 0 := fun x => by
          rw [List.set_append_right _ _ (by omega)]
          simp [hRl]
        have hkA : (k : Int) < (ys.length : Int) := by omega
        by_cases hltb : k < xs.length
        · obtain ⟨bv, hbv⟩ : ∃ x, xs[k]? = some x := ⟨_, List.getElem?_eq_getElem hltb⟩
          have hbvb : bv < 4294967296 := okV_get oka hbv
          rcases (unhide HA) with hnil | ⟨gb, ob, rfl, hgb, hcb⟩
          · rw [hnil] at hltb; simp at hltb
          have d1 : wr.cell? ⟨gb, ob + k, none⟩ = some (.int .u32 (bv : Nat)) := (hbel.cell (p := ⟨gb, ob + k, none⟩) hgb).trans (hcb k bv hbv)
          have hkB : (k : Int) < (xs.length : Int) := by omega
          obtain ⟨s1, hs1⟩ : ∃ s, s = cn + av := ⟨_, rfl⟩
          obtain ⟨s2, hs2⟩ : ∃ s, s = s1 + bv := ⟨_, rfl⟩
          obtain ⟨r, hr⟩ : ∃ r, r = s2 % 4294967296 := ⟨_, rfl⟩
          obtain ⟨c', hc'⟩ : ∃ r, r = s2 / 4294967296 := ⟨_, rfl⟩
          have hsum := add_step hRv hRl hav (.inl hbv) (show cn + av + bv = r + c' * 4294967296 by omega)
          have wa' : IntKind.u64.wrap (av : Int) = (av : Int) := wraps_u64 _ (by omega) (by omega)
          have w1' : IntKind.u64.wrap ((cn : Int) + (av : Int)) = (s1 : Int) := by rw [wraps_u64 _ (by omega) (by omega)]; omega
          have wb' : IntKind.u64.wrap (bv : Int) = (bv : Int) := wraps_u64 _ (by omega) (by omega)
          have w2' : IntKind.u64.wrap ((s1 : Int) + (bv : Int)) = (s2 : Int) := by rw [wraps_u64 _ (by omega) (by omega)]; omega
          have w3' : (s2 : Int) % 4294967296 = (r : Int) := by omega
          have w4' : (s2 : Int) / 4294967296 = (c' : Int) := by omega
          have hc1 : c' ≤ 1 := by omega
          have hrb : r < B32 := by show r < 4294967296; omega
          have HV := hide (hU.set k r); have HBE := hide (hbel.setCell (p := ⟨w.heap.size, k, none⟩) (Nat.le_refl _) (.int .u32 (r : Nat)))
          have HSET := hide (hset r); have HSUM := hide hsum; have HRO := hide (okV_snoc hRok hrb)
          clear hca hcb hav hbv havb hbvb hs1 hs2 hr hc' hsum hU hbel hset hrep hRv hrb
          go_wp2
          go_roundw
          case rel => exact ⟨k + 1, c', R ++ [r], by omega, by go_num, rfl, hc1, by rw [← unhide HSET]; exact unhide HV, by simp [hRl], unhide HRO, unhide HSUM, unhide HBE⟩
          case measure => simp [intOf]; omega
        · obtain ⟨s1, hs1⟩ : ∃ s, s = cn + av := ⟨_, rfl⟩
          obtain ⟨r, hr⟩ : ∃ r, r = s1 % 4294967296 := ⟨_, rfl⟩
          obtain ⟨c', hc'⟩ : ∃ r, r = s1 / 4294967296 := ⟨_, rfl⟩
          have hsum := add_step hRv hRl hav (.inr ⟨rfl, by omega⟩) (show cn + av + 0 = r + c' * 4294967296 by omega)
          have wa' : IntKind.u64.wrap (av : Int) = (av : Int) := wraps_u64 _ (by omega) (by omega)
          have w1' : IntKind.u64.wrap ((cn : Int) + (av : Int)) = (s1 : Int) := by rw [wraps_u64 _ (by omega) (by omega)]; omega
          have w3' : (s1 : Int) % 4294967296 = (r : Int) := by omega
          have w4' : (s1 : Int) / 4294967296 = (c' : Int) := by omega
          have hkB : ¬ (k : Int) < (xs.length : Int) := by omega
          have hc1 : c' ≤ 1 := by omega
          have hrb : r < B32 := by show r < 4294967296; omega
          have HV := hide (hU.set k r); have HBE := hide (hbel.setCell (p := ⟨w.heap.size, k, none⟩) (Nat.le_refl _) (.int .u32 (r : Nat)))
          have HSET := hide (hset r); have HSUM := hide hsum; have HRO := hide (okV_snoc hRok hrb)
          clear hca hav havb hs1 hr hc' hsum hU hbel hset hrep hRv hrb
          go_wp2
          go_roundw
          case rel => exact ⟨k + 1, c', R ++ [r], by omega, by go_num, rfl, hc1, by rw [← unhide HSET]; exact unhide HV, by simp [hRl], unhide HRO, unhide HSUM, unhide HBE⟩
          case measure => simp [intOf]; omega
      · obtain rfl : k = ys.length := by omega
        rw [List.take_length, List.take_of_length_le (by omega)] at hRv
        rw [show ys.length + 1 - ys.length = 1 by omega] at hU
        have hU2 : VRow wr w.heap.size (R ++ [0]) := hU
        have hfr := hU2.frozen ys.length
        have hcell := hU2.cell ys.length 0 (by rw [List.getElem?_append_right (by omega)]; simp [hRl])
        have hset : (R ++ [0]).set ys.length cn = R ++ [cn] := by
          rw [List.set_append_right _ _ (by omega)]
          simp [hRl]
        have hUs := hU2.set ys.length cn
        rw [hset] at hUs
        have hok2 := okV_snoc hRok (show cn < B32 by show cn < 4294967296; omega)
        have hnv : natV (R ++ [cn]) = natV ys + natV xs := by
          rw [natV_append, hRl, ← hRv]
          simp only [natV, Nat.mul_zero, Nat.add_zero]
          grind
        have hll : (R ++ [cn]).length = ys.length + 1 := by simp [hRl]
        have n1 := trim_any (R ++ [cn]) w.heap.size 0 (ys.length + 1) _ hUs.wrow hok2 (by rw [hll]; omega) (by rw [hll]; omega) (by omega)
        rw [hnv, hll] at n1
        have hwd := wrow_dig hUs.wrow hok2
        rw [hnv] at hwd
        have hbe := hbel.setCell (p := ⟨w.heap.size, ys.length, none⟩) (Nat.le_refl _) (.int .u32 (cn : Nat))
        have wc : (cn : Int) % 4294967296 = (cn : Int) := by omega
        have N1 := hide n1; have HWD := hide hwd; have HBE := hide hbe
        clear n1 hwd hbe hU hU2 hUs hset hok2 hnv hRv hbel hll
        go_wp2_with fail
        refine (unhide N1).mono ?_
        rintro e w2 ⟨rfl, rfl⟩
        go_wp2
        go_ret
        exact ⟨⟨_, rfl, _, _, rfl, unhide HWD⟩, unhide HBE⟩
theorem add_any (a b : Nat) (va vb : Value) (w : World) (ha : BigV w va a) (hb : BigV w vb b) (hla : a < B32 ^ 10000) (hlb : b < B32 ^ 10000) :
    Calls Tryz.prog 134 #[va, vb] w fun e w' => (∃ v, e = .returned v ∧ BigV w' v (a + b)) ∧ Below w.heap.size w w' := by
  obtain ⟨ao, ca, rfl, hra⟩ := ha
  obtain ⟨bo, cb, rfl, hrb⟩ := hb
  have h1 := dig_len 10000 a hla
  have h2 := dig_len 10000 b hlb
  have := add_rows (dig a) (dig b) ao bo ca cb w hra hrb (okV_dig a) (okV_dig b) (by omega) (by omega)
  rw [natV_dig, natV_dig] at this
  exact this
end Go.Proofs.YtajkbkljonejnaaGreatDoor
namespace Go.Proofs.YtajkbkljonejnaaGreatDoor
open Go.RowKit
set_option linter.unusedVariables false
theorem VRow.drewN {w : World} {g : Nat} {row : List Nat} (h : VRow w g row) (q : Nat) : VRow (w.drewN q) g row := h
theorem natV_set (l : List Nat) (i x r : Nat) (h : l[i]? = some r) : natV (l.set i x) + r * B32 ^ i = natV l + x * B32 ^ i := by
  induction l generalizing i with
  | nil => simp at h
  | cons y t ih =>
    cases i with
    | zero =>
      obtain rfl : y = r := by simpa using h
      simp only [List.set_cons_zero, natV, Nat.pow_zero, Nat.mul_one]
      omega
    | succ i =>
      have := ih i (by simpa using h)
      simp only [List.set_cons_succ, natV, Nat.pow_succ]
      grind
theorem mul_inner {row : List Nat} {V p c r t a b q : Nat} (hv : natV row + c * B32 ^ p = V) (hr : row[p]? = some r) (ht : t = c + (a * b + r)) :
    natV (row.set p (t % B32)) + t / B32 * B32 ^ (p + 1) = V + a * b * B32 ^ p := by
  have h1 := natV_set row p (t % B32) r hr
  have h2 := Nat.div_add_mod t B32
  rw [Nat.pow_succ]
  have h3 : t % B32 * B32 ^ p + t / B32 * (B32 ^ p * B32) = t * B32 ^ p := by
    conv => rhs; rw [← h2]
    grind
  have h4 : t * B32 ^ p = c * B32 ^ p + a * b * B32 ^ p + r * B32 ^ p := by rw [ht]; grind
  omega
theorem mul_next {X Y a i : Nat} (T : Nat) (h : T = X * Y + a * Y * B32 ^ i) : T = (X + a * B32 ^ i) * Y := by rw [h]; grind
theorem prod_lt {a b : Nat} (ha : a < 4294967296) (hb : b < 4294967296) : a * b ≤ 18446744065119617025 := by
  have := Nat.mul_le_mul (show a ≤ 4294967295 by omega) (show b ≤ 4294967295 by omega)
  omega
set_option maxHeartbeats 8000000 in
set_option maxRecDepth 100000 in
theorem mul_rows (xs ys : List Nat) (ao bo : Option Addr) (ca cb : Nat) (w : World) (ha : WRow w ao xs) (hb : WRow w bo ys) (oka : okV xs) (okb : okV ys) (hla : (xs.length : Int) ≤ 5000) (hlb : (ys.length : Int) ≤ 5000) (hx0 : xs ≠ []) (hy0 : ys ≠ []) :
    Calls Tryz.prog 100 #[.slice ao xs.length ca, .slice bo ys.length cb] w fun e w' => (∃ v, e = .returned v ∧ BigV w' v (natV xs * natV ys)) ∧ Below w.heap.size w w' := by
  have HA := hide ha; have HB := hide hb
  have hxl : ((xs.length : Int) == 0) = false := by have := List.length_pos_iff.2 hx0; simp; exact hx0
  have hyl : ((ys.length : Int) == 0) = false := by have := List.length_pos_iff.2 hy0; simp; exact hy0
  have hx0' : ¬ xs = [] := hx0
  have hy0' : ¬ ys = [] := hy0
  clear ha hb hx0 hy0
  obtain ⟨i0, hi, hz0, hz1, hz2⟩ := info_partsV infoU32
  go_enter Tryz.func100, Tryz.ntmps100
  go_wp2_with (at_make; refine wpList_make_full _ rfl _ _ 107 rfl w.heap.size 129 i0 (.int .u32 0) 1 Tryz.underlying107 hi hz0 hz1 .i64 .i64 _ _ (xs.length + ys.length) rfl rfl (by simp) (by simp) (by rw [hz2]; omega) (by unfold maxLen; omega) (Nat.le_refl _) ?_)
  intro w1 hown hgrow
  have hU := made_vrow hown
  have hb : Below w.heap.size w w1 := (Below.refl _ _).grown hgrow (Nat.le_refl _) (fun q hq => by cases hq)
  clear hown hgrow hi hz0 hz1 hz2
  obtain ⟨N, hN⟩ : ∃ N, N = xs.length + ys.length := ⟨_, rfl⟩
  rw [← hN] at hU ⊢
  have HN := hide hN
  have hNb : (N : Int) ≤ 10000 := by omega
  clear hN
  go_wp2
  go_loopw [6] (fun i wr => ∃ (k : Nat) (row : List Nat), k ≤ xs.length ∧ i = .int .i64 k ∧ row.length = N ∧ okV row ∧ (∀ p x, k + ys.length ≤ p → row[p]? = some x → x = 0) ∧ natV row = natV (xs.take k) * natV ys ∧ VRow wr w.heap.size row ∧ Below w.heap.size w wr) (fun i _ => xs.length - (intOf i).toNat)
  case atStart => exact ⟨0, _, Nat.zero_le _, rfl, by simp, okV_zeros _, fun p x _ hx => (List.mem_replicate.1 (List.mem_of_getElem? hx)).2, by rw [natV_zeros]; simp [natV], hU, hb⟩
  case round =>
    clear hU hb
    obtain ⟨k, row, hk, rfl, hrl, hrok, hrz, hrv, hU, hbel⟩ := hrel
    by_cases hlt : k < xs.length
    · obtain ⟨av, hav⟩ : ∃ x, xs[k]? = some x := ⟨_, List.getElem?_eq_getElem hlt⟩
      have havb : av < 4294967296 := okV_get oka hav
      rcases (unhide HA) with hnil | ⟨ga, oa, rfl, hga, hca⟩
      · rw [hnil] at hlt; simp at hlt
      have hcav := hca k av hav
      have hkd : decide ((k : Int) < (xs.length : Int)) = true := decide_eq_true (by omega)
      have HRZ := hide hrz; have HRV := hide hrv; have HAV := hide hav; have HCAV := hide hcav
      have HU0 := hide hU; have HB0 := hide hbel; have HRO := hide hrok
      clear hca hav hcav hrz hrv hU hbel hrok
      go_wp2
      go_loopw [7, 8] (fun c j wx => ∃ (m cn : Nat) (rw' : List Nat), m ≤ ys.length ∧ j = .int .i64 m ∧ c = .int .u64 cn ∧ cn < 4294967296 ∧ rw'.length = N ∧ okV rw' ∧ (∀ p, k + m ≤ p → rw'[p]? = row[p]?) ∧ natV rw' + cn * B32 ^ (k + m) = natV row + av * natV (ys.take m) * B32 ^ k ∧ VRow wx w.heap.size rw' ∧ Below w.heap.size w wx) (fun _ j _ => ys.length - (intOf j).toNat)
      case atStart => exact ⟨0, 0, row, Nat.zero_le _, rfl, rfl, by decide, hrl, unhide HRO, fun p _ => rfl, by simp [natV], unhide HU0, unhide HB0⟩
      case round =>
        clear HU0 HB0
        obtain ⟨m, cn, rw', hm, rfl, rfl, hcn, hrl', hrok', hsame, hv', hU, hbel⟩ := hrel
        have c0 : wr.cell? ⟨ga, oa + k, none⟩ = some (.int .u32 (av : Nat)) := (hbel.cell (p := ⟨ga, oa + k, none⟩) hga).trans (unhide HCAV)
        by_cases hml : m < ys.length
        · obtain ⟨bv, hbv⟩ : ∃ x, ys[m]? = some x := ⟨_, List.getElem?_eq_getElem hml⟩
          have hbvb : bv < 4294967296 := okV_get okb hbv
          rcases (unhide HB) with hnil | ⟨gb, ob, rfl, hgb, hcb⟩
          · rw [hnil] at hml; simp at hml
          have c1 : wr.cell? ⟨gb, ob + m, none⟩ = some (.int .u32 (bv : Nat)) := (hbel.cell (p := ⟨gb, ob + m, none⟩) hgb).trans (hcb m bv hbv)
          have hNe := unhide HN
          obtain ⟨r, hr⟩ : ∃ x, rw'[k + m]? = some x := ⟨_, List.getElem?_eq_getElem (by omega)⟩
          have hrb : r < 4294967296 := okV_get hrok' hr
          have c2 := hU.cell (k + m) r hr
          have f2 := hU.frozen (k + m)
          have hab := prod_lt havb hbvb
          obtain ⟨t, ht⟩ : ∃ t, t = cn + (av * bv + r) := ⟨_, rfl⟩
          have hin := mul_inner (q := 0) hv' hr ht
          have hbt := natV_take_succ ys m bv hbv
          have hfin : natV (rw'.set (k + m) (t % B32)) + t / B32 * B32 ^ (k + (m + 1)) = natV row + av * natV (ys.take (m + 1)) * B32 ^ k := by
            rw [show k + (m + 1) = k + m + 1 by omega, hin, hbt, Nat.pow_add]
            grind
          obtain ⟨ab, hab'⟩ : ∃ ab, ab = av * bv := ⟨_, rfl⟩
          rw [← hab'] at ht hab
          have w1' : IntKind.u64.wrap ((av : Int) * (bv : Int)) = (ab : Int) := by
            rw [show (av : Int) * (bv : Int) = (ab : Int) by rw [hab']; exact (Int.natCast_mul _ _).symm]
            exact wraps_u64 _ (by omega) (by omega)
          obtain ⟨t1, ht1⟩ : ∃ t1, t1 = ab + r := ⟨_, rfl⟩
          have wa' : IntKind.u64.wrap (av : Int) = (av : Int) := wraps_u64 _ (by omega) (by omega)
          have wb' : IntKind.u64.wrap (bv : Int) = (bv : Int) := wraps_u64 _ (by omega) (by omega)
          have wr' : IntKind.u64.wrap (r : Int) = (r : Int) := wraps_u64 _ (by omega) (by omega)
          have w2' : IntKind.u64.wrap ((ab : Int) + (r : Int)) = (t1 : Int) := by rw [wraps_u64 _ (by omega) (by omega)]; omega
          have w3' : IntKind.u64.wrap ((cn : Int) + (t1 : Int)) = (t : Int) := by rw [wraps_u64 _ (by omega) (by omega)]; omega
          obtain ⟨rr, hrr⟩ : ∃ x, x = t % B32 := ⟨_, rfl⟩
          obtain ⟨cc, hcc⟩ : ∃ x, x = t / B32 := ⟨_, rfl⟩
          have hrr' : rr = t % 4294967296 := hrr
          have hcc' : cc = t / 4294967296 := hcc
          rw [← hrr, ← hcc] at hfin
          have w4' : (t : Int) % 4294967296 = (rr : Int) := by omega
          have w5' : (t : Int) / 4294967296 = (cc : Int) := by omega
          have w6' : IntKind.i64.wrap ((k : Int) + (m : Int)) = ((k + m : Nat) : Int) := by rw [IntKind.wrap_i64]; omega
          have hkm : ((k + m : Nat) : Int) < (N : Int) := by omega
          have hccb : cc < 4294967296 := by omega
          have hrrb : rr < B32 := by show rr < 4294967296; omega
          obtain ⟨p0, hp0⟩ : ∃ p, p = k + m := ⟨_, rfl⟩
          rw [← hp0] at hr c2 f2 hfin w6' hkm
          have HV := hide (fun q => (hU.drewN q).set p0 rr); have HBE := hide (fun q => (below_drewN hbel q).setCell (p := ⟨w.heap.size, p0, none⟩) (Nat.le_refl _) (.int .u32 (rr : Nat)))
          have HFI := hide hfin; have HOK := hide (okV_set hrok' p0 rr hrrb); have HLE := hide (show (rw'.set p0 rr).length = N by rw [List.length_set]; exact hrl')
          have HSA : Hid (∀ p, k + (m + 1) ≤ p → (rw'.set p0 rr)[p]? = row[p]?) := hide (fun p hp => by rw [List.getElem?_set_ne (by omega)]; exact hsame p (by omega))
          have hkd2 : (m : Int) < (ys.length : Int) := by omega
          clear hcb hbv hr hv' hsame hU hbel hrok' ht hin hbt hfin hab hab' ht1 hrr hcc hrr' hcc' hrrb hNe hrl' hp0
          go_wp2_with fail
          go_quiet (fail)
          go_wp2
          go_roundw
          case rel => exact ⟨m + 1, cc, rw'.set p0 rr, by omega, by go_num, rfl, hccb, unhide HLE, unhide HOK, unhide HSA, unhide HFI, unhide HV _, unhide HBE _⟩
          case measure => simp [intOf]; omega
        · have hmy : m = ys.length := by omega
          have hNe := unhide HN
          rw [hmy, List.take_length] at hv'
          rw [hmy] at hsame
          obtain ⟨z, hz⟩ : ∃ x, rw'[k + ys.length]? = some x := ⟨_, List.getElem?_eq_getElem (by omega)⟩
          have hz0 : z = 0 := unhide HRZ (k + ys.length) z (Nat.le_refl _) (by rw [← hsame _ (Nat.le_refl _)]; exact hz)
          subst hz0
          have c2 := hU.cell (k + ys.length) 0 hz
          have f2 := hU.frozen (k + ys.length)
          have hst := natV_set rw' (k + ys.length) cn 0 hz
          have hnew : natV (rw'.set (k + ys.length) cn) = natV (xs.take (k + 1)) * natV ys := by
            rw [natV_take_succ xs k av (unhide HAV)]
            refine mul_next _ ?_
            have := unhide HRV
            rw [← this]
            omega
          have hcnb : cn < B32 := hcn
          have w6' : IntKind.i64.wrap ((k : Int) + (ys.length : Int)) = ((k + ys.length : Nat) : Int) := by rw [IntKind.wrap_i64]; omega
          have hkm : ((k + ys.length : Nat) : Int) < (N : Int) := by omega
          have w4' : (cn : Int) % 4294967296 = (cn : Int) := by omega
          obtain ⟨p0, hp0⟩ : ∃ p, p = k + ys.length := ⟨_, rfl⟩
          rw [← hp0] at c2 f2 w6' hkm hnew
          have HV := hide (hU.set p0 cn); have HBE := hide (hbel.setCell (p := ⟨w.heap.size, p0, none⟩) (Nat.le_refl _) (.int .u32 (cn : Nat)))
          have HNW := hide hnew; have HOK := hide (okV_set hrok' p0 cn hcnb); have HLE := hide (show (rw'.set p0 cn).length = N by rw [List.length_set]; exact hrl')
          have HZZ : Hid (∀ p x, k + 1 + ys.length ≤ p → (rw'.set p0 cn)[p]? = some x → x = 0) := hide (fun p x hp hx => by
            rw [List.getElem?_set_ne (by omega), hsame p (by omega)] at hx
            exact unhide HRZ p x (by omega) hx)
          have hmd : ¬ (m : Int) < (ys.length : Int) := by omega
          clear hv' hsame hU hbel hrok' hst hnew hcnb hNe hrl' hp0 hz hmy
          go_wp2
          go_roundw
          case rel => exact ⟨k + 1, rw'.set p0 cn, by omega, by go_num, unhide HLE, unhide HOK, unhide HZZ, unhide HNW, unhide HV, unhide HBE⟩
          case measure => simp [intOf]; omega
    · have hkx : k = xs.length := by omega
      rw [hkx, List.take_length] at hrv
      have hNe := unhide HN
      have n1 := trim_any row w.heap.size 0 N _ hU.wrow hrok (by omega) (by omega) (by omega)
      rw [hrv, hrl] at n1
      have hwd := wrow_dig hU.wrow hrok
      rw [hrv] at hwd
      have N1 := hide n1; have HWD := hide hwd; have HBE := hide hbel
      have hkd : ¬ (k : Int) < (xs.length : Int) := by omega
      clear n1 hwd hbel hU hrz hrv hrok hNe hrl hkx
      go_wp2_with fail
      refine (unhide N1).mono ?_
      rintro e w2 ⟨rfl, rfl⟩
      go_wp2
      go_ret
      exact ⟨⟨_, rfl, _, _, rfl, unhide HWD⟩, unhide HBE⟩
end Go.Proofs.YtajkbkljonejnaaGreatDoor
namespace Go.Proofs.YtajkbkljonejnaaGreatDoor
open Go.RowKit
set_option linter.unusedVariables false
theorem wrap_u64_mod (n : Int) : IntKind.u64.wrap n = n % 18446744073709551616 := by simp [IntKind.wrap, IntKind.bits, IntKind.signed]
theorem u64_nat (n : Int) : ∃ s : Nat, (s : Int) = n % 18446744073709551616 ∧ IntKind.u64.wrap n = (s : Int) := by
  refine ⟨(n % 18446744073709551616).toNat, Int.toNat_of_nonneg (Int.emod_nonneg _ (by decide)), ?_⟩
  rw [wrap_u64_mod, Int.toNat_of_nonneg (Int.emod_nonneg _ (by decide))]
theorem sub_step {R xs ys : List Nat} {cn k av bv r c' : Nat} (hRv : natV R + natV (ys.take k) = natV (xs.take k) + cn * B32 ^ k) (hRl : R.length = k) (ha : xs[k]? = some av) (hb : ys[k]? = some bv ∨ (bv = 0 ∧ ys.length ≤ k)) (hs : r + bv + cn = av + c' * 4294967296) :
    natV (R ++ [r]) + natV (ys.take (k + 1)) = natV (xs.take (k + 1)) + c' * B32 ^ (k + 1) := by
  rw [natV_append, hRl, natV_take_succ xs k av ha]
  have hbt : natV (ys.take (k + 1)) = natV (ys.take k) + bv * B32 ^ k := by
    rcases hb with hb | ⟨rfl, hl⟩
    · exact natV_take_succ ys k bv hb
    · rw [List.take_of_length_le (by omega), List.take_of_length_le (by omega)]; simp
  rw [hbt, Nat.pow_succ]
  simp only [natV, Nat.mul_zero, Nat.add_zero]
  have hs' : r + bv + cn = av + c' * B32 := hs
  have h1 : r * B32 ^ k + bv * B32 ^ k + cn * B32 ^ k = av * B32 ^ k + c' * B32 * B32 ^ k := by
    rw [← Nat.add_mul, ← Nat.add_mul, ← Nat.add_mul, hs']
  have h2 : c' * B32 * B32 ^ k = c' * (B32 ^ k * B32) := by grind
  have h3 : B32 ^ k * r = r * B32 ^ k := Nat.mul_comm _ _
  omega
theorem sub_end {R xs ys : List Nat} {cn : Nat} (hRv : natV R + natV ys = natV xs + cn * B32 ^ xs.length) (hRl : R.length = xs.length) (hok : okV R) (hle : natV ys ≤ natV xs) : natV R = natV xs - natV ys := by
  have h1 := natV_lt hok
  rw [hRl] at h1
  rcases Nat.eq_zero_or_pos cn with h0 | h0
  · rw [h0, Nat.zero_mul] at hRv; omega
  · have := Nat.le_mul_of_pos_left (B32 ^ xs.length) h0
    omega
set_option maxHeartbeats 8000000 in
set_option maxRecDepth 100000 in
theorem sub_rows (xs ys : List Nat) (ao bo : Option Addr) (ca cb : Nat) (w : World) (ha : WRow w ao xs) (hb : WRow w bo ys) (oka : okV xs) (okb : okV ys) (hla : (xs.length : Int) ≤ 10000) (hle : ys.length ≤ xs.length) (hge : natV ys ≤ natV xs) (hx0 : xs ≠ []) :
    Calls Tryz.prog 138 #[.slice ao xs.length ca, .slice bo ys.length cb] w fun e w' => (∃ v, e = .returned v ∧ BigV w' v (natV xs - natV ys)) ∧ Below w.heap.size w w' := by
  have HA := hide ha; have HB := hide hb
  clear ha hb
  obtain ⟨i0, hi, hz0, hz1, hz2⟩ := info_partsV infoU32
  go_enter Tryz.func138, Tryz.ntmps138
  go_wp2_with (at_make; refine wpList_make_full _ rfl _ _ 107 rfl w.heap.size 129 i0 (.int .u32 0) 1 Tryz.underlying107 hi hz0 hz1 .i64 .i64 _ _ xs.length rfl rfl (by simp) (by simp) (by rw [hz2]; omega) (by unfold maxLen; omega) (Nat.le_refl _) ?_)
  intro w1 hown hgrow
  have hU := made_vrow hown
  have hb : Below w.heap.size w w1 := (Below.refl _ _).grown hgrow (Nat.le_refl _) (fun q hq => by cases hq)
  clear hown hgrow hi hz0 hz1 hz2
  go_wp2
  go_loopw [6, 7] (fun c i wr => ∃ (k cn : Nat) (R : List Nat), k ≤ xs.length ∧ i = .int .i64 k ∧ c = .int .u64 cn ∧ cn ≤ 1 ∧ VRow wr w.heap.size (R ++ List.replicate (xs.length - k) 0) ∧ R.length = k ∧ okV R ∧ natV R + natV (ys.take k) = natV (xs.take k) + cn * B32 ^ k ∧ Below w.heap.size w wr) (fun _ i _ => xs.length - (intOf i).toNat)
  case atStart => exact ⟨0, 0, [], Nat.zero_le _, rfl, rfl, by omega, hU, rfl, okV_nil, by simp [natV], hb⟩
  case round =>
    clear hU hb
    obtain ⟨k, cn, R, hk, rfl, rfl, hcn, hU, hRl, hRok, hRv, hbel⟩ := hrel
    by_cases hlt : k < xs.length
    · obtain ⟨av, hav⟩ : ∃ x, xs[k]? = some x := ⟨_, List.getElem?_eq_getElem hlt⟩
      have havb : av < 4294967296 := okV_get oka hav
      rcases (unhide HA) with hnil | ⟨ga, oa, rfl, hga, hca⟩
      · rw [hnil] at hlt; simp at hlt
      have d0 : wr.cell? ⟨ga, oa + k, none⟩ = some (.int .u32 (av : Nat)) := (hbel.cell (p := ⟨ga, oa + k, none⟩) hga).trans (hca k av hav)
      have hrep : List.replicate (xs.length - k) 0 = 0 :: List.replicate (xs.length - (k + 1)) 0 := by
        rw [show xs.length - k = (xs.length - (k + 1)) + 1 by omega]; rfl
      rw [hrep] at hU
      have hfr := hU.frozen k
      have hcell := hU.cell k 0 (by rw [List.getElem?_append_right (by omega)]; simp [hRl])
      have hset : ∀ x : Nat, (R ++ 0 :: List.replicate (xs.length - (k + 1)) 0).set k x = (R ++ [x]) ++ List.replicate (xs.length - (k + 1)) 0 := fun x => by
        rw [List.set_append_right _ _ (by omega)]
        simp [hRl]
      have hkA : (k : Int) < (xs.length : Int) := by omega
      have wa' : IntKind.u64.wrap (av : Int) = (av : Int) := wraps_u64 _ (by omega) (by omega)
      obtain ⟨s1, hs1, w1'⟩ := u64_nat ((av : Int) - (cn : Int))
      by_cases hltb : k < ys.length
      · obtain ⟨bv, hbv⟩ : ∃ x, ys[k]? = some x := ⟨_, List.getElem?_eq_getElem hltb⟩
        have hbvb : bv < 4294967296 := okV_get okb hbv
        rcases (unhide HB) with hnil | ⟨gb, ob, rfl, hgb, hcb⟩
        · rw [hnil] at hltb; simp at hltb
        have d1 : wr.cell? ⟨gb, ob + k, none⟩ = some (.int .u32 (bv : Nat)) := (hbel.cell (p := ⟨gb, ob + k, none⟩) hgb).trans (hcb k bv hbv)
        have hkB : (k : Int) < (ys.length : Int) := by omega
        have wb' : IntKind.u64.wrap (bv : Int) = (bv : Int) := wraps_u64 _ (by omega) (by omega)
        obtain ⟨s2, hs2, w2'⟩ := u64_nat ((s1 : Int) - (bv : Int))
        obtain ⟨r, hr⟩ : ∃ r, r = s2 % 4294967296 := ⟨_, rfl⟩
        obtain ⟨c', hc'⟩ : ∃ r, r = s2 / 9223372036854775808 := ⟨_, rfl⟩
        have hsum := sub_step hRv hRl hav (.inl hbv) (show r + bv + cn = av + c' * 4294967296 by omega)
        have w3' : (s2 : Int) % 4294967296 = (r : Int) := by omega
        have w4' : (s2 : Int) / 9223372036854775808 = (c' : Int) := by omega
        have hc1 : c' ≤ 1 := by omega
        have hrb : r < B32 := by show r < 4294967296; omega
        have HV := hide (hU.set k r); have HBE := hide (hbel.setCell (p := ⟨w.heap.size, k, none⟩) (Nat.le_refl _) (.int .u32 (r : Nat)))
        have HSET := hide (hset r); have HSUM := hide hsum; have HRO := hide (okV_snoc hRok hrb)
        clear hca hcb hav hbv havb hbvb hs1 hs2 hr hc' hsum hU hbel hset hrep hRv hrb
        go_wp2
        go_roundw
        case rel => exact ⟨k + 1, c', R ++ [r], by omega, by go_num, rfl, hc1, by rw [← unhide HSET]; exact unhide HV, by simp [hRl], unhide HRO, unhide HSUM, unhide HBE⟩
        case measure => simp [intOf]; omega
      · obtain ⟨r, hr⟩ : ∃ r, r = s1 % 4294967296 := ⟨_, rfl⟩
        obtain ⟨c', hc'⟩ : ∃ r, r = s1 / 9223372036854775808 := ⟨_, rfl⟩
        have hsum := sub_step (bv := 0) hRv hRl hav (.inr ⟨rfl, by omega⟩) (show r + 0 + cn = av + c' * 4294967296 by omega)
        have w3' : (s1 : Int) % 4294967296 = (r : Int) := by omega
        have w4' : (s1 : Int) / 9223372036854775808 = (c' : Int) := by omega
        have hkB : ¬ (k : Int) < (ys.length : Int) := by omega
        have hc1 : c' ≤ 1 := by omega
        have hrb : r < B32 := by show r < 4294967296; omega
        have HV := hide (hU.set k r); have HBE := hide (hbel.setCell (p := ⟨w.heap.size, k, none⟩) (Nat.le_refl _) (.int .u32 (r : Nat)))
        have HSET := hide (hset r); have HSUM := hide hsum; have HRO := hide (okV_snoc hRok hrb)
        clear hca hav havb hs1 hr hc' hsum hU hbel hset hrep hRv hrb
        go_wp2
        go_roundw
        case rel => exact ⟨k + 1, c', R ++ [r], by omega, by go_num, rfl, hc1, by rw [← unhide HSET]; exact unhide HV, by simp [hRl], unhide HRO, unhide HSUM, unhide HBE⟩
        case measure => simp [intOf]; omega
    · have hkx : k = xs.length := by omega
      rw [hkx, List.take_length, List.take_of_length_le hle] at hRv
      rw [hkx, Nat.sub_self, List.replicate_zero, List.append_nil] at hU
      have hnv := sub_end hRv (by omega) hRok hge
      have n1 := trim_any R w.heap.size 0 xs.length _ hU.wrow hRok (by omega) (by omega) (by omega)
      have hwd := wrow_dig hU.wrow hRok
      rw [hnv] at n1 hwd
      rw [show R.length = xs.length by omega] at n1
      have hkd : ¬ (k : Int) < (xs.length : Int) := by omega
      have N1 := hide n1; have HWD := hide hwd; have HBE := hide hbel
      clear n1 hwd hU hnv hRv hbel hkx
      go_wp2_with fail
      refine (unhide N1).mono ?_
      rintro e w2 ⟨rfl, rfl⟩
      go_wp2
      go_ret
      exact ⟨⟨_, rfl, _, _, rfl, unhide HWD⟩, unhide HBE⟩
end Go.Proofs.YtajkbkljonejnaaGreatDoor
