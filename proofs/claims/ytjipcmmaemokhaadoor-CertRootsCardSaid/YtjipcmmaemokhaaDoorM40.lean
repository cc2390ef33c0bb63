/- Division word by word: the guess. (Made by wip/drafts/genKn.py.) -/
import Derived.Test.YtjipcmmaemokhaaDoorM39
import Derived.Laws.CopyOwn
namespace Go.Proofs.YtjipcmmaemokhaaDoor
open Go.RowKit
set_option linter.unusedVariables false
set_option linter.unusedSimpArgs false
set_option maxRecDepth 1000000

theorem u64_or {a b : Nat} (ha : a < 4294967296) (hb : b < 4294967296) : ∃ hs h : Nat, h = a * B32 + b ∧ IntKind.u64.wrap (a : Int) = (a : Int) ∧ IntKind.u64.wrap (b : Int) = (b : Int) ∧ IntKind.u64.wrap ((a : Int) * 4294967296) = (hs : Int) ∧ bits .or .u64 (hs : Int) (b : Int) = (h : Int) ∧ h < 18446744073709551616 := by
  refine ⟨a * 4294967296, a * 4294967296 + b, rfl, wraps_u64 _ (by omega) (by omega), wraps_u64 _ (by omega) (by omega), ?_, ?_, by omega⟩
  · rw [wraps_u64 _ (by omega) (by omega)]; omega
  · rw [or_nat .u64 64 (by decide) (fun n h0 h1 => wraps_u64 n h0 h1) (a * 4294967296) b (by omega) (by omega), or_words a b hb]
theorem p_nums {j n lu z p p1 p2 : Nat} (hp : p = j + n) (h1 : p1 = p - 1) (h2 : p2 = p - 2) (hn : 2 ≤ n) (hl : ((j + n : Nat) : Int) ≤ 100000) (hlu : lu = j + n + 1 + z) : IntKind.i64.wrap ((j : Int) + (n : Int)) = (p : Int) ∧ wrap64 ((j : Int) + (n : Int)) = (p : Int) ∧ (p : Int) < (lu : Int) ∧ IntKind.i64.wrap ((p : Int) - 1) = (p1 : Int) ∧ (p1 : Int) < (lu : Int) ∧ wrap64 ((p : Int) - 2) = (p2 : Int) ∧ IntKind.i64.wrap ((p : Int) - 2) = (p2 : Int) ∧ (p2 : Int) < (lu : Int) := by
  have e1 : IntKind.i64.wrap ((j : Int) + (n : Int)) = (p : Int) := by rw [IntKind.wrap_i64]; omega
  have e2 : IntKind.i64.wrap ((p : Int) - 1) = (p1 : Int) := by rw [IntKind.wrap_i64]; omega
  have e3 : IntKind.i64.wrap ((p : Int) - 2) = (p2 : Int) := by rw [IntKind.wrap_i64]; omega
  exact ⟨e1, by rw [← e1, IntKind.wrap_i64]; unfold wrap64; omega, by omega, e2, by omega, by rw [← e3, IntKind.wrap_i64]; unfold wrap64; omega, e3, by omega⟩
theorem quo_nums {h top : Nat} (hh : h < 18446744073709551616) (ht : 0 < top) : ((top : Int) == 0) = false ∧ ¬ (top : Int) = 0 ∧ IntKind.u64.wrap ((h : Int).tdiv (top : Int)) = ((h / top : Nat) : Int) ∧ IntKind.u64.wrap ((h : Int).tmod (top : Int)) = ((h % top : Nat) : Int) ∧ (h : Int).tdiv (top : Int) = ((h / top : Nat) : Int) ∧ (h : Int).tmod (top : Int) = ((h % top : Nat) : Int) ∧ ¬ top = 0 ∧ IntKind.u64.wrap ((h / top : Nat) : Int) = ((h / top : Nat) : Int) ∧ IntKind.u64.wrap ((h % top : Nat) : Int) = ((h % top : Nat) : Int) := by
  have e1 : (h : Int).tdiv (top : Int) = ((h / top : Nat) : Int) := by simp [Int.tdiv_eq_ediv_of_nonneg]
  have e2 : (h : Int).tmod (top : Int) = ((h % top : Nat) : Int) := by simp [Int.tmod_eq_emod_of_nonneg]
  have l1 : h / top ≤ h := Nat.div_le_self _ _
  have l2 : h % top ≤ h := Nat.mod_le _ _
  refine ⟨by rw [beq_eq_false_iff_ne]; omega, by omega, ?_, ?_, e1, e2, by omega, wraps_u64 _ (Int.natCast_nonneg _) (by omega), wraps_u64 _ (Int.natCast_nonneg _) (by omega)⟩
  · rw [e1]; exact wraps_u64 _ (Int.natCast_nonneg _) (by omega)
  · rw [e2]; exact wraps_u64 _ (Int.natCast_nonneg _) (by omega)
theorem guess_mul {g next : Nat} (hg : g ≤ 4294967295) (hn : next < 4294967296) : ∃ gx : Nat, gx = g * next ∧ IntKind.u64.wrap ((g : Int) * (next : Int)) = (gx : Int) := by
  have : g * next ≤ 4294967295 * 4294967295 := Nat.mul_le_mul hg (by omega)
  refine ⟨g * next, rfl, ?_⟩
  rw [show (g : Int) * (next : Int) = ((g * next : Nat) : Int) from (Int.natCast_mul _ _).symm]
  exact wraps_u64 _ (by omega) (by omega)
theorem guess_sub {g r top : Nat} (hg : 1 ≤ g) (hgb : g ≤ 4294967297) (hr : r < 4294967296) (ht : top < 4294967296) : IntKind.u64.wrap ((g : Int) - 1) = ((g - 1 : Nat) : Int) ∧ IntKind.u64.wrap ((r : Int) + (top : Int)) = ((r + top : Nat) : Int) := by
  refine ⟨?_, ?_⟩
  · rw [wraps_u64 _ (by omega) (by omega)]; omega
  · rw [wraps_u64 _ (by omega) (by omega)]; omega
theorem row_get2 (lo wl : List Nat) (un : Nat) (zs : List Nat) (i x p : Nat) (hx : wl[i]? = some x) (hp : p = lo.length + i) : (lo ++ wl ++ un :: zs)[p]? = some x := by
  have hi : i < wl.length := (List.getElem?_eq_some_iff.1 hx).1
  rw [hp, List.append_assoc, List.getElem?_append_right (by omega), Nat.add_sub_cancel_left, List.getElem?_append_left hi, hx]
theorem natV_two (wl : List Nat) (n a b : Nat) (hl : wl.length = n + 2) (h1 : wl[n + 1]? = some a) (h2 : wl[n]? = some b) : natV wl = natV (wl.take n) + (a * B32 + b) * B32 ^ n := by
  have e1 := natV_take_succ wl (n + 1) a h1
  have e2 := natV_take_succ wl n b h2
  rw [List.take_of_length_le (by omega)] at e1
  rw [e1, e2, Nat.pow_succ]
  grind
theorem three_ring {P B un u1 u2 T : Nat} : T + (u1 * B + u2) * P + un * (P * B * B) = ((un * B + u1) * B + u2) * P + T := by grind
/-- what a round begins with -/
theorem round_of {wl vs : List Nat} {n un u1 u2 top next : Nat} (hw : wl.length = n + 2) (hv : vs.length = n + 2) (okw : okV wl) (okv : okV vs) (h1 : wl[n + 1]? = some u1) (h2 : wl[n]? = some u2) (t1 : vs[n + 1]? = some top) (t2 : vs[n]? = some next) (hun : un < B32) (hlt : natV wl + un * B32 ^ (n + 2) < natV vs * B32) (hbig : 2147483648 ≤ top) :
    RoundK (natV wl + un * B32 ^ (n + 2)) (natV vs) (un * B32 + u1) u2 top next (B32 ^ n) := by
  have ew := natV_two wl n u1 u2 hw h1 h2
  have ev := natV_two vs n top next hv t1 t2
  have lw := natV_lt (okV_take okw n)
  have lv := natV_lt (okV_take okv n)
  rw [List.length_take, Nat.min_eq_left (by omega)] at lw lv
  have b1 : u1 < B32 := okV_get okw h1
  have b2 : u2 < B32 := okV_get okw h2
  have b3 : top < B32 := okV_get okv t1
  have b4 : next < B32 := okV_get okv t2
  have hP : 0 < B32 ^ n := Nat.pow_pos B32_pos
  refine ⟨⟨natV (wl.take n), ?_, lw⟩, ⟨natV (vs.take n), by rw [ev, Nat.add_comm], lv⟩, hlt, hbig, b3, b4, b2, ?_, hP⟩
  · rw [ew, Nat.pow_succ, Nat.pow_succ]; exact three_ring
  · -- un <= top
    have hle : un ≤ top := by
      rcases Nat.lt_or_ge top un with h' | h'
      · exfalso
        have e1 : (top + 1) * B32 ^ (n + 2) ≤ un * B32 ^ (n + 2) := Nat.mul_le_mul_right _ h'
        have e2 : natV vs < (top + 1) * B32 ^ (n + 1) := by
          have e3 : natV vs = natV (vs.take (n + 1)) + top * B32 ^ (n + 1) := by
            have := natV_take_succ vs (n + 1) top t1
            rwa [List.take_of_length_le (by omega)] at this
          have e4 := natV_lt (okV_take okv (n + 1))
          rw [List.length_take, Nat.min_eq_left (by omega)] at e4
          rw [e3, Nat.add_mul, Nat.one_mul]
          omega
        have e5 : natV vs * B32 ≤ (top + 1) * B32 ^ (n + 1) * B32 := Nat.mul_le_mul_right _ (Nat.le_of_lt e2)
        have e6 : (top + 1) * B32 ^ (n + 1) * B32 = (top + 1) * B32 ^ (n + 2) := by rw [Nat.mul_assoc, ← Nat.pow_succ]
        omega
      · exact h'
    have : un * B32 ≤ top * B32 := Nat.mul_le_mul_right _ hle
    omega
theorem big_lt {g : Nat} (h : 4294967295 < g) : (4294967295 : Int) < (g : Int) := by omega
theorem big_nlt {g : Nat} (h : ¬ 4294967295 < g) : ¬ (4294967295 : Int) < (g : Int) := by omega
theorem sub1_lt {g : Nat} (h : 1 ≤ g) : g - 1 < g := by omega
theorem nlt_lt {r : Nat} (h : ¬ 4294967295 < r) : r < 4294967296 := by omega
theorem nlt_cast {a b : Nat} (h : ¬ a < b) : ¬ (a : Int) < (b : Int) := by omega
theorem nlt_B {g : Nat} (h : ¬ 4294967295 < g) : g ≤ B32 - 1 := by show g ≤ 4294967296 - 1; omega
theorem pos_big {t : Nat} (h : 2147483648 ≤ t) : 0 < t := by omega
theorem pos1 {j n p p1 : Nat} (hp : p = j + n) (h1 : p1 = p - 1) (hn : 2 ≤ n) : p1 = j + (n - 1) := by omega
theorem pos2 {j n p p2 : Nat} (hp : p = j + n) (h2 : p2 = p - 2) (hn : 2 ≤ n) : p2 = j + (n - 2) := by omega
end Go.Proofs.YtjipcmmaemokhaaDoor
namespace Go.Proofs.YtjipcmmaemokhaaDoor
open Go.RowKit
set_option linter.unusedVariables false
set_option linter.unusedSimpArgs false
set_option maxRecDepth 1000000

theorem lt_upK {x j : Nat} (h : x < B32 ^ j) (K : Nat) (hj : j ≤ K) : x < B32 ^ K := Nat.lt_of_lt_of_le h (Nat.pow_le_pow_right B32_pos hj)
theorem B32_as (n : Nat) : B32 ^ n = 2 ^ (32 * n) := by rw [Nat.pow_mul]; rfl
theorem dig_lowK {b n : Nat} (h : (dig b).length = n + 1) : B32 ^ n ≤ b := by
  rcases Nat.lt_or_ge b (B32 ^ n) with h' | h'
  · have := dig_len n b h'; omega
  · exact h'
theorem dig_of_len {v n : Nat} (h1 : v < B32 ^ (n + 1)) (h2 : B32 ^ n ≤ v) : (dig v).length = n + 1 := by
  have a := dig_len (n + 1) v h1
  have b := lt_dig v
  rcases Nat.lt_or_ge (dig v).length (n + 1) with h' | h'
  · have : B32 ^ (dig v).length ≤ B32 ^ n := Nat.pow_le_pow_right B32_pos (by omega)
    omega
  · omega
/-- the shift that brings the greatest bit to the front -/
theorem shift_of {b n L : Nat} (hn : (dig b).length = n + 1) (hL : IsLen b L) : ∃ L1 r s : Nat, L = L1 + 1 ∧ r = L1 % 32 ∧ s = 31 - r ∧ s < 32 ∧ r < 32 ∧ b * 2 ^ s < B32 ^ (n + 1) ∧ B32 ^ (n + 1) ≤ 2 * (b * 2 ^ s) := by
  obtain ⟨h1, _, h3⟩ := hL
  have hlo := dig_lowK hn
  have hhi := lt_dig b
  rw [hn] at hhi
  have hb0 : b ≠ 0 := by have : 0 < B32 ^ n := Nat.pow_pos B32_pos; omega
  obtain ⟨h4, h5⟩ := h3 hb0
  rw [B32_as] at hlo hhi
  have e1 : 32 * n < L := (Nat.pow_lt_pow_iff_right (by decide : 1 < 2)).1 (Nat.lt_of_le_of_lt hlo h1)
  have e2 : L - 1 < 32 * (n + 1) := (Nat.pow_lt_pow_iff_right (by decide : 1 < 2)).1 (Nat.lt_of_le_of_lt h5 hhi)
  refine ⟨L - 1, (L - 1) % 32, 31 - (L - 1) % 32, by omega, rfl, rfl, by omega, by omega, ?_, ?_⟩
  · rw [B32_as]
    have h6 : b * 2 ^ (31 - (L - 1) % 32) < 2 ^ L * 2 ^ (31 - (L - 1) % 32) := Nat.mul_lt_mul_of_pos_right h1 (Nat.two_pow_pos _)
    rw [← Nat.pow_add, show L + (31 - (L - 1) % 32) = 32 * (n + 1) by omega] at h6
    exact h6
  · rw [B32_as]
    have h6 : 2 ^ (L - 1) * 2 ^ (31 - (L - 1) % 32) ≤ b * 2 ^ (31 - (L - 1) % 32) := Nat.mul_le_mul_right _ h5
    rw [← Nat.pow_add] at h6
    have e3 : 32 * (n + 1) = L - 1 + (31 - (L - 1) % 32) + 1 := by omega
    rw [e3, Nat.pow_succ]
    omega
theorem shift_nums {L L1 r s : Nat} (hL : L = L1 + 1) (hr : r = L1 % 32) (hs : s = 31 - r) (hl : L ≤ 400000) : wrap64 ((L : Int) - 1) = (L1 : Int) ∧ (L1 : Int).tmod 32 = (r : Int) ∧ (L1 : Int) % 32 = (r : Int) ∧ wrap64 (32 - (r : Int)) = ((s + 1 : Nat) : Int) ∧ wrap64 (((s + 1 : Nat) : Int) - 1) = (s : Int) ∧ IntKind.u64.wrap (s : Int) = (s : Int) ∧ wrap64 (r : Int) = (r : Int) := by
  have e : (L1 : Int).tmod 32 = (L1 : Int) % 32 := Int.tmod_eq_emod_of_nonneg (by omega)
  refine ⟨by unfold wrap64; omega, by rw [e]; omega, by omega, by unfold wrap64; omega, by unfold wrap64; omega, wraps_u64 _ (by omega) (by omega), by unfold wrap64; omega⟩
theorem isLen_leK {b L K M : Nat} (hL : IsLen b L) (h0 : b ≠ 0) (h : b < B32 ^ K) (hM : 32 * K ≤ M) : L ≤ M := by
  obtain ⟨_, _, h3⟩ := hL
  obtain ⟨h4, h5⟩ := h3 h0
  have h6 := Nat.lt_of_le_of_lt h5 h
  rw [B32_as] at h6
  have := (Nat.pow_lt_pow_iff_right (by decide : 1 < 2)).1 h6
  omega
theorem make_le {x n : Nat} (h : x = 4) (hn : (n : Int) ≤ 10000) : x * n ≤ 281474976710656 := by subst h; omega
theorem len_max {n : Nat} (hn : (n : Int) ≤ 10000) : n ≤ maxLen := by unfold maxLen; omega
theorem two_more {la la2 : Nat} (h : la ≤ 5000) (h2 : la2 = la + 2) : wrap64 ((la : Int) + 2) = (la2 : Int) ∧ (la2 : Int) ≤ 10000 := by
  refine ⟨?_, by omega⟩
  unfold wrap64; omega
theorem top_big {vs : List Nat} {n top V : Nat} (hl : vs.length = n + 1) (okv : okV vs) (hv : natV vs = V) (ht : vs[n]? = some top) (hV : B32 ^ (n + 1) ≤ 2 * V) : 2147483648 ≤ top := by
  have e := natV_take_succ vs n top ht
  rw [List.take_of_length_le (by omega), hv] at e
  have l := natV_lt (okV_take okv n)
  rw [List.length_take, Nat.min_eq_left (by omega)] at l
  rcases Nat.lt_or_ge top 2147483648 with h' | h'
  · exfalso
    have h2 : (top + 1) * B32 ^ n ≤ 2147483648 * B32 ^ n := Nat.mul_le_mul_right _ h'
    rw [Nat.add_mul, Nat.one_mul] at h2
    rw [Nat.pow_succ] at hV
    have h3 : B32 ^ n * B32 = 2 * (2147483648 * B32 ^ n) := by show B32 ^ n * 4294967296 = _; omega
    omega
  · exact h'
theorem first_low {A V la n m : Nat} (hA : A < B32 ^ (la + 1)) (hV : B32 ^ (n + 1) ≤ 2 * V) (hm : m + (n + 1) = la + 1) : A < V * B32 ^ (m + 1) := by
  have h1 : B32 ^ (n + 1) * B32 ^ (m + 1) ≤ 2 * V * B32 ^ (m + 1) := Nat.mul_le_mul_right _ hV
  rw [← Nat.pow_add, show n + 1 + (m + 1) = la + 1 + 1 by omega, Nat.pow_succ] at h1
  have h2 : B32 ^ (la + 1) * 2 ≤ B32 ^ (la + 1) * B32 := Nat.mul_le_mul_left _ (by decide)
  have h3 : 2 * V * B32 ^ (m + 1) = 2 * (V * B32 ^ (m + 1)) := Nat.mul_assoc _ _ _
  omega
theorem natV_split (l : List Nat) (k : Nat) : natV l = natV (l.take k) + B32 ^ (min k l.length) * natV (l.drop k) := by
  conv => lhs; rw [← List.take_append_drop k l]
  rw [natV_append, List.length_take]
theorem drop_lt {au : List Nat} {k A V : Nat} (hk : k ≤ au.length) (hA : natV au = A) (h : A < V * B32 ^ k) : natV (au.drop k) < V := by
  have e := natV_split au k
  rw [Nat.min_eq_left hk, hA] at e
  rcases Nat.lt_or_ge (natV (au.drop k)) V with h' | h'
  · exact h'
  · exfalso
    have := Nat.mul_le_mul_left (B32 ^ k) h'
    rw [Nat.mul_comm (B32 ^ k) V] at this
    omega
/-- the window: one word more below -/
theorem window (x : Nat) (Y : List Nat) (n : Nat) (hY : Y.length = n + 1) : ∃ wl un, x :: Y = wl ++ [un] ∧ wl.length = n + 1 ∧ (okV (x :: Y) → okV wl ∧ un < B32) ∧ natV wl + un * B32 ^ (n + 1) = x + B32 * natV Y := by
  have hne : x :: Y ≠ [] := List.cons_ne_nil _ _
  have hl : ((x :: Y).dropLast).length = n + 1 := by simp [hY]
  refine ⟨(x :: Y).dropLast, (x :: Y).getLast hne, (List.dropLast_concat_getLast hne).symm, hl, fun hok => ⟨fun y hy => hok y (List.dropLast_subset _ hy), hok _ (List.getLast_mem hne)⟩, ?_⟩
  have e : natV (x :: Y) = natV ((x :: Y).dropLast ++ [(x :: Y).getLast hne]) := by rw [List.dropLast_concat_getLast hne]
  rw [natV_append, hl] at e
  simp only [natV, Nat.mul_zero, Nat.add_zero] at e
  rw [e, Nat.mul_comm (B32 ^ (n + 1))]
theorem row_window {au Y : List Nat} {j x z n : Nat} (hx : au[j]? = some x) : ∀ wl un, x :: Y = wl ++ [un] → au.take (j + 1) ++ Y ++ List.replicate z 0 = au.take j ++ wl ++ un :: List.replicate z 0 := by
  intro wl un h
  rw [List.take_add_one, hx]
  have : au.take j ++ [x] ++ Y ++ List.replicate z 0 = au.take j ++ (x :: Y) ++ List.replicate z 0 := by simp
  show au.take j ++ (Option.toList (some x)) ++ Y ++ List.replicate z 0 = _
  rw [show Option.toList (some x) = [x] from rfl, this, h]
  simp
theorem row_next (lo A : List Nat) (z : Nat) : lo ++ A ++ 0 :: List.replicate z 0 = lo ++ A ++ List.replicate (z + 1) 0 := rfl
theorem quo_next (j q : Nat) (Qs : List Nat) : (List.replicate (j + 1) 0 ++ Qs).set j q = List.replicate j 0 ++ q :: Qs := by
  rw [List.replicate_succ', List.append_assoc, List.set_append_right _ _ (by simp)]
  simp
end Go.Proofs.YtjipcmmaemokhaaDoor
