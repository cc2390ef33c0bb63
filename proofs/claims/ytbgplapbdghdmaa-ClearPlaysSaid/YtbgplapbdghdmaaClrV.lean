/- clear, the document's own: amount, DaysOf, day, kase. -/
import Derived.Test.YtbgplapbdghdmaaClrU
namespace Go.Proofs.Ytbgplapbdghdmaa
open Go.RowKit
set_option linter.unusedVariables false
set_option maxRecDepth 100000

theorem ramt_any (n : Int) (w : World) : Calls Try.prog 33 #[.int .i64 n] w fun e w' => e = .returned (.bool (inB 0 n 999999999999)) ∧ w' = w := by
  by_cases h1 : 0 ≤ n
  · by_cases h2 : n ≤ 999999999999
    · have HM : Hid (inB 0 n 999999999999 = true) := hide (decide_eq_true ⟨h1, h2⟩)
      go_enter Try.func33, Try.ntmps33
      go_wp2
      go_ret
      exact ⟨ret_bool (unhide HM).symm, rfl⟩
    · have HM : Hid (inB 0 n 999999999999 = false) := hide (decide_eq_false (by omega))
      go_enter Try.func33, Try.ntmps33
      go_wp2
      go_ret
      exact ⟨ret_bool (unhide HM).symm, rfl⟩
  · have HM : Hid (inB 0 n 999999999999 = false) := hide (decide_eq_false (by omega))
    go_enter Try.func33, Try.ntmps33
    go_wp2
    go_ret
    exact ⟨ret_bool (unhide HM).symm, rfl⟩
theorem rday_any (r : Nat) (D : Dys) (t d : Int) (vL vO : Value) (w : World) (h : RB w r D vL t vO) :
    Calls Try.prog 34 #[.pointer (some ⟨r, 0, none⟩), .int .i64 d] w fun e w' => e = .returned (.int .i64 (dayE t d)) ∧ w' = w := by
  obtain ⟨_, _, _, _, _, c5, _⟩ := h.cells
  clear h
  by_cases h0 : d < 0
  · have HM : Hid (dayE t d = 3) := hide (by unfold dayE; rw [if_pos (.inl h0)])
    go_enter Try.func34, Try.ntmps34
    go_wp2
    go_ret
    exact ⟨ret_int (unhide HM).symm, rfl⟩
  by_cases h1 : 65535 < d
  · have HM : Hid (dayE t d = 3) := hide (by unfold dayE; rw [if_pos (.inr h1)])
    go_enter Try.func34, Try.ntmps34
    go_wp2
    go_ret
    exact ⟨ret_int (unhide HM).symm, rfl⟩
  by_cases h2 : d < t
  · have HM : Hid (dayE t d = 11) := hide (by unfold dayE; rw [if_neg (by omega), if_pos h2])
    go_enter Try.func34, Try.ntmps34
    go_wp2
    go_ret
    exact ⟨ret_int (unhide HM).symm, rfl⟩
  · have HM : Hid (dayE t d = 0) := hide (by unfold dayE; rw [if_neg (by omega), if_neg h2])
    go_enter Try.func34, Try.ntmps34
    go_wp2
    go_ret
    exact ⟨ret_int (unhide HM).symm, rfl⟩
set_option maxHeartbeats 2000000 in
theorem daysOf_any (D : Dys) (w : World) : Calls Try.prog 13 #[dysV D] w fun e w' => e = .returned (.int .i64 (daysE D)) ∧ Below w.heap.size w w' := by
  have HBAD : Hid (daysBad D = !(inB 1 D.di 1000 && (inB 1 D.an 1000 && (inB 1 D.ins 1000 && inB 0 D.fee 999999999999)))) := hide (by
    unfold daysBad inB
    rw [← Bool.decide_and, ← Bool.decide_and, ← Bool.decide_and, ← decide_not, decide_eq_decide]
    omega)
  have HE : Hid (daysBad D = true → daysE D = 3) := hide (fun h => by unfold daysE; rw [h]; rfl)
  have HE0 : Hid (daysBad D = false → daysE D = 0) := hide (fun h => by unfold daysE; rw [h]; rfl)
  obtain ⟨di, an, ins, fee⟩ := D
  unfold dysV
  dsimp only at *
  obtain ⟨er, her⟩ : ∃ er, er = daysE ⟨di, an, ins, fee⟩ := ⟨_, rfl⟩
  rw [← her] at HE HE0 ⊢
  clear her
  have hbW : Below w.heap.size w ((w.alloc (.cells #[.int .i64 di, .int .i64 an, .int .i64 ins, .int .i64 fee] 23)).alloc (.cells #[.int .i64 di, .int .i64 an, .int .i64 ins] 3)) := (((Below.refl w.heap.size w).alloc (Nat.le_refl _) _).alloc (by simp) _)
  have hx0 : ((w.alloc (.cells #[.int .i64 di, .int .i64 an, .int .i64 ins, .int .i64 fee] 23)).alloc (.cells #[.int .i64 di, .int .i64 an, .int .i64 ins] 3)).heap[w.heap.size]? = some (.cells #[.int .i64 di, .int .i64 an, .int .i64 ins, .int .i64 fee] 23) := (Below.heap_alloc _ _ _ (by simp)).trans (alloc_at w _)
  have hx1 : ((w.alloc (.cells #[.int .i64 di, .int .i64 an, .int .i64 ins, .int .i64 fee] 23)).alloc (.cells #[.int .i64 di, .int .i64 an, .int .i64 ins] 3)).heap[w.heap.size + 1]? = some (.cells #[.int .i64 di, .int .i64 an, .int .i64 ins] 3) := by
    have := alloc_at (w.alloc (.cells #[.int .i64 di, .int .i64 an, .int .i64 ins, .int .i64 fee] 23)) (.cells #[.int .i64 di, .int .i64 an, .int .i64 ins] 3)
    rwa [show (w.alloc (.cells #[.int .i64 di, .int .i64 an, .int .i64 ins, .int .i64 fee] 23)).heap.size = w.heap.size + 1 by simp] at this
  have HF := hide (And.intro hbW (And.intro hx0 hx1))
  clear hbW hx0 hx1
  go_enter Try.func13, Try.ntmps13
  go_wp2
  generalize ((w.alloc (.cells #[.int .i64 di, .int .i64 an, .int .i64 ins, .int .i64 fee] 23)).alloc (.cells #[.int .i64 di, .int .i64 an, .int .i64 ins] 3)) = W at *
  obtain ⟨hbW, hx0, hx1⟩ := unhide HF
  have HBW := hide hbW
  have HN := hide (fun n => ramt_any n W)
  have a3 : W.cell? ⟨w.heap.size, 3, none⟩ = some (.int .i64 fee) := by simp [World.cell?, hx0]
  have r0 : W.cell? ⟨w.heap.size + 1, 0, none⟩ = some (.int .i64 di) := by simp [World.cell?, hx1]
  have r1 : W.cell? ⟨w.heap.size + 1, 1, none⟩ = some (.int .i64 an) := by simp [World.cell?, hx1]
  have r2 : W.cell? ⟨w.heap.size + 1, 2, none⟩ = some (.int .i64 ins) := by simp [World.cell?, hx1]
  clear hbW hx0 hx1 HF
  go_loopw [13] (fun i wr => ∃ k : Nat, k ≤ 3 ∧ i = .int .i64 k ∧ wr = W ∧ newRel di an ins k) (fun i _ => 3 - (intOf i).toNat)
  case atStart => exact ⟨0, by omega, rfl, rfl, ⟨fun h => by omega, fun h => by omega, fun h => by omega⟩⟩
  case round =>
    obtain ⟨k, hk, rfl, hwr, HK⟩ := hrel
    rw [hwr]
    have hk4 : k = 0 ∨ k = 1 ∨ k = 2 ∨ k = 3 := by omega
    clear hwr
    rcases hk4 with rfl | rfl | rfl | rfl
    · by_cases hlo : di < 1
      · go_wp2
        go_ret
        exact ⟨ret_int (unhide HE (by rw [unhide HBAD, show inB 1 di 1000 = false from decide_eq_false (by omega)]; rfl)).symm, unhide HBW⟩
      · by_cases hhi : 1000 < di
        · go_wp2
          go_ret
          exact ⟨ret_int (unhide HE (by rw [unhide HBAD, show inB 1 di 1000 = false from decide_eq_false (by omega)]; rfl)).symm, unhide HBW⟩
        · have HIN : Hid (inB 1 di 1000 = true) := hide (decide_eq_true (by omega))
          go_wp2
          go_roundw
          case rel => exact ⟨1, by omega, rfl, by trivial, ⟨fun h => unhide HIN, fun h => by omega, fun h => by omega⟩⟩
          case measure => simp [intOf]
    · by_cases hlo : an < 1
      · go_wp2
        go_ret
        exact ⟨ret_int (unhide HE (by rw [unhide HBAD, HK.1 (by omega), show inB 1 an 1000 = false from decide_eq_false (by omega)]; rfl)).symm, unhide HBW⟩
      · by_cases hhi : 1000 < an
        · go_wp2
          go_ret
          exact ⟨ret_int (unhide HE (by rw [unhide HBAD, HK.1 (by omega), show inB 1 an 1000 = false from decide_eq_false (by omega)]; rfl)).symm, unhide HBW⟩
        · have HIN : Hid (inB 1 an 1000 = true) := hide (decide_eq_true (by omega))
          go_wp2
          go_roundw
          case rel => exact ⟨2, by omega, rfl, by trivial, ⟨fun h => HK.1 (by omega), fun h => unhide HIN, fun h => by omega⟩⟩
          case measure => simp [intOf]
    · by_cases hlo : ins < 1
      · go_wp2
        go_ret
        exact ⟨ret_int (unhide HE (by rw [unhide HBAD, HK.1 (by omega), HK.2.1 (by omega), show inB 1 ins 1000 = false from decide_eq_false (by omega)]; rfl)).symm, unhide HBW⟩
      · by_cases hhi : 1000 < ins
        · go_wp2
          go_ret
          exact ⟨ret_int (unhide HE (by rw [unhide HBAD, HK.1 (by omega), HK.2.1 (by omega), show inB 1 ins 1000 = false from decide_eq_false (by omega)]; rfl)).symm, unhide HBW⟩
        · have HIN : Hid (inB 1 ins 1000 = true) := hide (decide_eq_true (by omega))
          go_wp2
          go_roundw
          case rel => exact ⟨3, by omega, rfl, by trivial, ⟨fun h => HK.1 (by omega), fun h => HK.2.1 (by omega), fun h => unhide HIN⟩⟩
          case measure => simp [intOf]
    · cases hin : inB 0 fee 999999999999
      · have N1 := unhide HN fee
        rw [hin] at N1
        have HN1 := hide N1; have HIN := hide hin
        clear N1 hin
        go_wp2_with fail
        refine (unhide HN1).mono ?_
        rintro e w1 ⟨rfl, hw1⟩
        rw [hw1]
        clear hw1
        go_wp2
        go_ret
        exact ⟨ret_int (unhide HE (by rw [unhide HBAD, unhide HIN, HK.1 (by omega), HK.2.1 (by omega), HK.2.2 (by omega)]; rfl)).symm, unhide HBW⟩
      · have N1 := unhide HN fee
        rw [hin] at N1
        have HN1 := hide N1; have HIN := hide hin
        clear N1 hin
        go_wp2_with fail
        refine (unhide HN1).mono ?_
        rintro e w1 ⟨rfl, hw1⟩
        rw [hw1]
        clear hw1
        go_wp2
        go_ret
        exact ⟨ret_int (unhide HE0 (by rw [unhide HBAD, unhide HIN, HK.1 (by omega), HK.2.1 (by omega), HK.2.2 (by omega)]; rfl)).symm, unhide HBW⟩
variable {w w' : World} {G : Nat → Prop} {r : Nat} {S : Clr} {vL vO : Value} {ks : List (Kse × Value)} {os : List Ow}
theorem cellsK_len (x : Kse × Value) : (cellsK x).length = 7 := rfl
theorem cellsDd_len (x : Ded) : (cellsDd x).length = 3 := rfl
/-- where a case lies -/
def kPtr (vL : Value) : Option Nat → Value
  | none => .pointer none
  | some i => .pointer (some ⟨(vL.ownBlock).getD 0, i * 7, none⟩)
/-- no case among the first k -/
def noneTo (L : List Kse) (shop trace : Int) (k : Nat) : Prop := ∀ j x, j < k → L[j]? = some x → ¬ (x.p.shop = shop ∧ x.p.trace = trace)
theorem idx_found {L : List Kse} {shop trace : Int} {k : Nat} {x : Kse} (h : noneTo L shop trace k) (hx : L[k]? = some x) (hs : x.p.shop = shop ∧ x.p.trace = trace) : idxK L shop trace = some k := by
  unfold idxK
  rw [List.findIdx?_eq_some_iff_getElem]
  obtain ⟨hk, hxe⟩ := List.getElem?_eq_some_iff.1 hx
  refine ⟨hk, by rw [hxe]; exact decide_eq_true hs, fun j hj => ?_⟩
  have := h j _ hj (List.getElem?_eq_getElem (by omega))
  rw [Bool.not_eq_true]
  exact decide_eq_false this
theorem idx_nowhere {L : List Kse} {shop trace : Int} (h : noneTo L shop trace L.length) : idxK L shop trace = none := by
  unfold idxK
  rw [List.findIdx?_eq_none_iff]
  intro x hx
  obtain ⟨j, hj⟩ := List.getElem?_of_mem hx
  exact decide_eq_false (h j x (List.getElem?_eq_some_iff.1 hj).1 hj)
set_option maxHeartbeats 2000000 in
theorem kase_any (h : RIn w G r S vL vO ks os) (hok : okS S) (shop trace : Int) :
    Calls Try.prog 35 #[.pointer (some ⟨r, 0, none⟩), .int .i64 shop, .int .i64 trace] w fun e w' => e = .returned (kPtr vL (idxK S.L shop trace)) ∧ w' = w := by
  obtain ⟨_, _, _, _, c4, _, _⟩ := h.blk.cells
  have hlen : ks.length = S.L.length := by rw [← h.lst, List.length_map]
  have hkl : (ks.length : Int) ≤ 100000 := by have := hok.len; omega
  obtain ⟨⟨ao, cap, hv⟩, hform⟩ := h.row.form
  subst hv
  have hrow := h.row
  have hlst := h.lst
  have HROW := hide hrow; have HLST := hide hlst; have HLEN := hide hlen; have HFORM := hide hform
  clear h hok hrow hlst hlen hform
  obtain ⟨res, hres⟩ : ∃ res, res = kPtr (.slice ao ks.length cap) (idxK S.L shop trace) := ⟨_, rfl⟩
  rw [← hres]
  have HRES := hide hres
  clear hres
  go_enter Try.func35, Try.ntmps35
  go_wp2
  go_loopw [13] (fun i wr => ∃ k : Nat, k ≤ ks.length ∧ i = .int .i64 k ∧ wr = w ∧ noneTo S.L shop trace k) (fun i _ => ks.length - (intOf i).toNat)
  case atStart => exact ⟨0, Nat.zero_le _, rfl, rfl, fun j x hj => by omega⟩
  case round =>
    obtain ⟨k, hk, rfl, hwr, HK⟩ := hrel
    rw [hwr]
    clear hwr
    by_cases hlt : k < ks.length
    · obtain ⟨x, hx⟩ : ∃ x, ks[k]? = some x := ⟨_, List.getElem?_eq_getElem hlt⟩
      have hxL : S.L[k]? = some x.1 := by rw [← unhide HLST, List.getElem?_map, hx]; rfl
      rcases unhide HFORM with hn | ⟨g, cap', hv, _, hgl⟩
      · rw [hn] at hlt; simp at hlt
      · injection hv with hv1 _ hv3
        subst hv1 hv3
        have d2 : w.cell? ⟨g, k * 7 + 2, none⟩ = some (.int .i64 x.1.p.shop) := by rw [OwnR.cell cellsK_len (unhide HROW) k x hx 2 (by omega)]; rfl
        have d3 : w.cell? ⟨g, k * 7 + 3, none⟩ = some (.int .i64 x.1.p.trace) := by rw [OwnR.cell cellsK_len (unhide HROW) k x hx 3 (by omega)]; rfl
        have hki : (k : Int) < (ks.length : Int) := by omega
        have HXL := hide hxL
        clear hx hxL
        by_cases hs : x.1.p.shop = shop
        · have hsb : (x.1.p.shop == shop) = true := by simpa using hs
          by_cases ht : x.1.p.trace = trace
          · have htb : (x.1.p.trace == trace) = true := by simpa using ht
            have HF := hide (idx_found HK (unhide HXL) ⟨hs, ht⟩)
            clear hs ht HK
            go_wp2
            go_ret
            exact ⟨by rw [unhide HRES, unhide HF]; rfl, rfl⟩
          · have htb : (x.1.p.trace == trace) = false := by simpa using ht
            have HT := hide ht
            clear hs ht
            go_wp2
            go_roundw
            case rel => exact ⟨k + 1, by omega, by go_num, by trivial, fun j y hj hy => by
                          by_cases e : j = k
                          · subst e; rw [unhide HXL] at hy; obtain rfl := Option.some.inj hy; exact fun hh => unhide HT hh.2
                          · exact HK j y (by omega) hy⟩
            case measure => simp [intOf]; omega
        · have hsb : (x.1.p.shop == shop) = false := by simpa using hs
          have HT := hide hs
          clear hs
          go_wp2
          go_roundw
          case rel => exact ⟨k + 1, by omega, by go_num, by trivial, fun j y hj hy => by
                          by_cases e : j = k
                          · subst e; rw [unhide HXL] at hy; obtain rfl := Option.some.inj hy; exact fun hh => unhide HT hh.1
                          · exact HK j y (by omega) hy⟩
          case measure => simp [intOf]; omega
    · have hke : k = ks.length := by omega
      have HF : Hid (idxK S.L shop trace = none) := hide (idx_nowhere (by rw [← unhide HLEN, ← hke]; exact HK))
      clear hke
      go_wp2
      go_ret
      exact ⟨by rw [unhide HRES, unhide HF]; rfl, rfl⟩
end Go.Proofs.Ytbgplapbdghdmaa
