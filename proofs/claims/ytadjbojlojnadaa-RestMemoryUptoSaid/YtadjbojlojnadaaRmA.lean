/- Copies of lists, and whether two are the same. -/
import Derived.Test.YtadjbojlojnadaaRow0
import Derived.Test.YtadjbojlojnadaaShR
import Derived.Deep.AppendLies
import Derived.WalkKit
import Derived.ProofKit
import Derived.BigQuiet
import Derived.Deep.QuietTactic
namespace Go.Proofs.Ytadjbojlojnadaa
open Go.RowKit
set_option linter.unusedVariables false
set_option maxRecDepth 100000

/-- a list that can be read -/
def RdR {α : Type} (w : World) (m : Nat) (c : α → List Value) (v : Value) (l : List α) : Prop :=
  ∃ (ao : Option Addr) (cap : Nat), v = .slice ao l.length cap ∧ (l = [] ∨ ∃ b off, ao = some ⟨b, off, none⟩ ∧ b < w.heap.size ∧ ∀ i x, l[i]? = some x → ∀ r, r < m → w.cell? ⟨b, off + i * m + r, none⟩ = (c x)[r]?)
section
variable {α : Type} {w w' : World} {base : Nat} {e : TypeId} {m : Nat} {c : α → List Value} {v : Value} {l : List α}
theorem RdR.of_own (hc : ∀ x, (c x).length = m) (h : OwnR w base e m c v l) : RdR w m c v l := by
  obtain ⟨⟨ao, cap, hv⟩, hf⟩ := h.form
  refine ⟨ao, cap, hv, ?_⟩
  rcases hf with hn | ⟨g, cap', hv', _, hgl⟩
  · exact .inl hn
  · right
    rw [hv] at hv'
    injection hv' with h1 _ h3
    subst h1 h3
    refine ⟨g, 0, rfl, hgl, fun i x hx r hr => ?_⟩
    rw [Nat.zero_add]
    rw [hv] at h
    exact OwnR.cell hc h i x hx r hr
theorem RdR.below (h : RdR w m c v l) (hb : Below w.heap.size w w') : RdR w' m c v l := by
  obtain ⟨ao, cap, hv, hf⟩ := h
  refine ⟨ao, cap, hv, ?_⟩
  rcases hf with hn | ⟨b, off, h1, h2, h3⟩
  · exact .inl hn
  · exact .inr ⟨b, off, h1, Nat.lt_of_lt_of_le h2 hb.size, fun i x hx r hr => (hb.cell (p := ⟨b, off + i * m + r, none⟩) h2).trans (h3 i x hx r hr)⟩
theorem rd_news {b off : Nat} (hc : ∀ x, (c x).length = m) (h : ∀ i x, l[i]? = some x → ∀ r, r < m → w.cell? ⟨b, off + i * m + r, none⟩ = (c x)[r]?) : ∀ j u, (rowC c l)[j]? = some u → w.cell? ((⟨b, off, none⟩ : Addr).add j) = some u := by
  intro j u hj
  have hlt : j < l.length * m := by
    have := (List.getElem?_eq_some_iff.1 hj).1
    rwa [rowC_length hc] at this
  have m0 : 0 < m := by rcases Nat.eq_zero_or_pos m with e | e; · subst e; simp at hlt
                        · exact e
  have hi : j / m < l.length := (Nat.div_lt_iff_lt_mul m0).2 hlt
  have hx : l[j / m]? = some l[j / m] := List.getElem?_eq_getElem hi
  have h1 := h (j / m) _ hx (j % m) (Nat.mod_lt _ m0)
  have h2 := rowC_at hc l (j / m) (j % m) _ hx (Nat.mod_lt _ m0)
  rw [Nat.div_add_mod'] at h2
  rw [show ((⟨b, off, none⟩ : Addr).add j) = ⟨b, off + j, none⟩ from by unfold Addr.add; split <;> simp_all]
  rw [show off + j = off + j / m * m + j % m by rw [Nat.add_assoc, Nat.div_add_mod'], h1, ← h2, hj]
theorem ownNone (w : World) (e : TypeId) (m : Nat) : (w.alloc (.cells #[] e)).ownsRow w.heap.size e m (.slice (some ⟨w.heap.size, 0, none⟩) 0 0) 0 [] :=
  ⟨by simp, .inr ⟨w.heap.size, 0, #[], rfl, Nat.le_refl _, heap_alloc_new w _, Nat.le_refl _, Nat.zero_le _, by simp, by simp⟩⟩
end
def cI (x : Int) : List Value := [.int .i64 x]
def cS (x : ByteArray) : List Value := [.string x]
def cW (x : XWay) : List Value := [.int .i64 x.code, .int .i64 x.when, .bool x.next]
theorem cI_len (x : Int) : (cI x).length = 1 := rfl
theorem cS_len (x : ByteArray) : (cS x).length = 1 := rfl
theorem cW_len (x : XWay) : (cW x).length = 3 := rfl
theorem rd_int {w : World} {ao : Option Addr} {cap : Nat} {l : List Int} (h : Rowint w ao l) : RdR w 1 cI (.slice ao l.length cap) l := by
  refine ⟨ao, cap, rfl, ?_⟩
  rcases h.1 with hn | ⟨b, off, h1, h2, h3⟩
  · exact .inl hn
  · refine .inr ⟨b, off, h1, h2, fun i x hx r hr => ?_⟩
    obtain rfl : r = 0 := by omega
    rw [Nat.mul_one, Nat.add_zero]
    exact h3 i x hx
theorem rd_str {w : World} {ao : Option Addr} {cap : Nat} {l : List ByteArray} (h : Rowstring w ao l) : RdR w 1 cS (.slice ao l.length cap) l := by
  refine ⟨ao, cap, rfl, ?_⟩
  rcases h.1 with hn | ⟨b, off, h1, h2, h3⟩
  · exact .inl hn
  · refine .inr ⟨b, off, h1, h2, fun i x hx r hr => ?_⟩
    obtain rfl : r = 0 := by omega
    rw [Nat.mul_one, Nat.add_zero]
    exact h3 i x hx
theorem rd_way {w : World} {ao : Option Addr} {cap : Nat} {l : List XWay} (h : RowWay w ao l) : RdR w 3 cW (.slice ao l.length cap) l := by
  refine ⟨ao, cap, rfl, ?_⟩
  rcases h.1 with hn | ⟨b, off, h1, h2, h3⟩
  · exact .inl hn
  · refine .inr ⟨b, off, h1, h2, fun i x hx r hr => ?_⟩
    obtain ⟨e0, e1, e2⟩ := h3 i x hx
    match r, hr with
    | 0, _ => exact e0
    | 1, _ => exact e1
    | 2, _ => exact e2
theorem infInt : (Try.prog.info? 3).map (fun i => (i.zero, i.size, i.bytes)) = some (some (.int .i64 0), 1, 8) := by kernel_rfl
theorem infStr : (Try.prog.info? 9).map (fun i => (i.zero, i.size, i.bytes)) = some (some (.string ⟨#[]⟩), 1, 16) := by kernel_rfl
theorem infWay : (Try.prog.info? 34).map (fun i => (i.zero, i.size, i.bytes)) = some (some (.agg #[.int .i64 0, .int .i64 0, .bool false]), 3, 24) := by kernel_rfl
set_option maxHeartbeats 1000000 in
theorem cloneI_any (l : List Int) (v : Value) (w : World) (h : RdR w 1 cI v l) (hl : l.length ≤ 1048576) :
    Calls Try.prog 5 #[v] w fun e w' => (∃ v', e = .returned v' ∧ OwnR w' w.heap.size 3 1 cI v' l) ∧ Below w.heap.size w w' := by
  obtain ⟨ao, cap, rfl, hf⟩ := h
  obtain ⟨i0, hi, hz0, hz1, hz2⟩ := info_parts infInt
  rcases hf with hn | ⟨b, off, rfl, hbl, hcell⟩
  · subst hn
    have HO := hide (ownNone w 3 1)
    have HB := hide ((Below.refl w.heap.size w).alloc (Nat.le_refl _) (.cells #[] 3))
    clear hi hz0 hz1 hz2
    cases ao with
    | none =>
      go_enter Try.func5, Try.ntmps5
      go_wp2
      go_ret
      exact ⟨⟨_, rfl, unhide HO⟩, unhide HB⟩
    | some a =>
      go_enter Try.func5, Try.ntmps5
      go_wp2
      go_ret
      exact ⟨⟨_, rfl, unhide HO⟩, unhide HB⟩
  · by_cases hn : l = []
    · subst hn
      have HO := hide (ownNone w 3 1)
      have HB := hide ((Below.refl w.heap.size w).alloc (Nat.le_refl _) (.cells #[] 3))
      clear hi hz0 hz1 hz2 hcell
      go_enter Try.func5, Try.ntmps5
      go_wp2
      go_ret
      exact ⟨⟨_, rfl, unhide HO⟩, unhide HB⟩
    · have HPOS := hide (List.length_pos_iff.2 hn)
      have HNW := hide (rd_news (c := cI) (m := 1) (w := w.alloc (.cells #[] 3)) cI_len (fun i x hx r hr => (((Below.refl w.heap.size w).alloc (Nat.le_refl _) (.cells #[] 3)).cell (p := ⟨b, off + i * 1 + r, none⟩) hbl).trans (hcell i x hx r hr)))
      have HRL := hide (rowC_length (c := cI) cI_len l)
      have HI := hide hi; have Z0 := hide hz0; have Z1 := hide hz1; have Z2 := hide hz2; have HL := hide hl
      have HONE : Hid (∀ u ∈ rowC cI l, u.oneCell' = true) := hide (rowC_cells (fun x u hu => by simp [cI] at hu; subst hu; rfl) l)
      clear hi hz0 hz1 hz2 hcell hl hn
      go_enter Try.func5, Try.ntmps5
      go_wp2_with (at_builtin; refine wpList_append_own _ rfl _ _ 25 rfl w.heap.size 3 i0 (.int .i64 0) 1 8 Try.underlying25 (unhide HI) (unhide Z0) (unhide Z1) (unhide Z2) rfl (by decide) _ _ _ rfl (ownNone w 3 1) ⟨b, off, none⟩ l.length cap (rowC cI l) rfl (unhide HRL) (unhide HNW) (unhide HONE) ?c3 ?c4 ?c5 ?_)
      case c3 => have := unhide HL; unfold maxLen; omega
      case c4 => have := unhide HL; omega
      case c5 => simp
      intro v5 w5 hown5 hgrow5 _
      (try go_frame)
      have HO5 : Hid (OwnR w5 w.heap.size 3 1 cI v5 l) := hide hown5
      have HB5 := hide (((Below.refl w.heap.size w).alloc (Nat.le_refl _) (.cells #[] 3)).grown hgrow5 (by simp) (fun k hk => by have hk' : w.heap.size = k := Option.some.inj hk; omega))
      clear hown5 hgrow5
      go_wp2
      go_ret
      exact ⟨⟨_, rfl, unhide HO5⟩, unhide HB5⟩
set_option maxHeartbeats 1000000 in
theorem cloneS_any (l : List ByteArray) (v : Value) (w : World) (h : RdR w 1 cS v l) (hl : l.length ≤ 1048576) :
    Calls Try.prog 6 #[v] w fun e w' => (∃ v', e = .returned v' ∧ OwnR w' w.heap.size 9 1 cS v' l) ∧ Below w.heap.size w w' := by
  obtain ⟨ao, cap, rfl, hf⟩ := h
  obtain ⟨i0, hi, hz0, hz1, hz2⟩ := info_parts infStr
  rcases hf with hn | ⟨b, off, rfl, hbl, hcell⟩
  · subst hn
    have HO := hide (ownNone w 9 1)
    have HB := hide ((Below.refl w.heap.size w).alloc (Nat.le_refl _) (.cells #[] 9))
    clear hi hz0 hz1 hz2
    cases ao with
    | none =>
      go_enter Try.func6, Try.ntmps6
      go_wp2
      go_ret
      exact ⟨⟨_, rfl, unhide HO⟩, unhide HB⟩
    | some a =>
      go_enter Try.func6, Try.ntmps6
      go_wp2
      go_ret
      exact ⟨⟨_, rfl, unhide HO⟩, unhide HB⟩
  · by_cases hn : l = []
    · subst hn
      have HO := hide (ownNone w 9 1)
      have HB := hide ((Below.refl w.heap.size w).alloc (Nat.le_refl _) (.cells #[] 9))
      clear hi hz0 hz1 hz2 hcell
      go_enter Try.func6, Try.ntmps6
      go_wp2
      go_ret
      exact ⟨⟨_, rfl, unhide HO⟩, unhide HB⟩
    · have HPOS := hide (List.length_pos_iff.2 hn)
      have HNW := hide (rd_news (c := cS) (m := 1) (w := w.alloc (.cells #[] 9)) cS_len (fun i x hx r hr => (((Below.refl w.heap.size w).alloc (Nat.le_refl _) (.cells #[] 9)).cell (p := ⟨b, off + i * 1 + r, none⟩) hbl).trans (hcell i x hx r hr)))
      have HRL := hide (rowC_length (c := cS) cS_len l)
      have HI := hide hi; have Z0 := hide hz0; have Z1 := hide hz1; have Z2 := hide hz2; have HL := hide hl
      have HONE : Hid (∀ u ∈ rowC cS l, u.oneCell' = true) := hide (rowC_cells (fun x u hu => by simp [cS] at hu; subst hu; rfl) l)
      clear hi hz0 hz1 hz2 hcell hl hn
      go_enter Try.func6, Try.ntmps6
      go_wp2_with (at_builtin; refine wpList_append_own _ rfl _ _ 28 rfl w.heap.size 9 i0 (.string ⟨#[]⟩) 1 16 Try.underlying28 (unhide HI) (unhide Z0) (unhide Z1) (unhide Z2) rfl (by decide) _ _ _ rfl (ownNone w 9 1) ⟨b, off, none⟩ l.length cap (rowC cS l) rfl (unhide HRL) (unhide HNW) (unhide HONE) ?c3 ?c4 ?c5 ?_)
      case c3 => have := unhide HL; unfold maxLen; omega
      case c4 => have := unhide HL; omega
      case c5 => simp
      intro v5 w5 hown5 hgrow5 _
      (try go_frame)
      have HO5 : Hid (OwnR w5 w.heap.size 9 1 cS v5 l) := hide hown5
      have HB5 := hide (((Below.refl w.heap.size w).alloc (Nat.le_refl _) (.cells #[] 9)).grown hgrow5 (by simp) (fun k hk => by have hk' : w.heap.size = k := Option.some.inj hk; omega))
      clear hown5 hgrow5
      go_wp2
      go_ret
      exact ⟨⟨_, rfl, unhide HO5⟩, unhide HB5⟩
set_option maxHeartbeats 1000000 in
theorem cloneW_any (l : List XWay) (v : Value) (w : World) (h : RdR w 3 cW v l) (hl : l.length ≤ 1048576) :
    Calls Try.prog 4 #[v] w fun e w' => (∃ v', e = .returned v' ∧ OwnR w' w.heap.size 34 3 cW v' l) ∧ Below w.heap.size w w' := by
  obtain ⟨ao, cap, rfl, hf⟩ := h
  obtain ⟨i0, hi, hz0, hz1, hz2⟩ := info_parts infWay
  rcases hf with hn | ⟨b, off, rfl, hbl, hcell⟩
  · subst hn
    have HO := hide (ownNone w 34 3)
    have HB := hide ((Below.refl w.heap.size w).alloc (Nat.le_refl _) (.cells #[] 34))
    clear hi hz0 hz1 hz2
    cases ao with
    | none =>
      go_enter Try.func4, Try.ntmps4
      go_wp2
      go_ret
      exact ⟨⟨_, rfl, unhide HO⟩, unhide HB⟩
    | some a =>
      go_enter Try.func4, Try.ntmps4
      go_wp2
      go_ret
      exact ⟨⟨_, rfl, unhide HO⟩, unhide HB⟩
  · by_cases hn : l = []
    · subst hn
      have HO := hide (ownNone w 34 3)
      have HB := hide ((Below.refl w.heap.size w).alloc (Nat.le_refl _) (.cells #[] 34))
      clear hi hz0 hz1 hz2 hcell
      go_enter Try.func4, Try.ntmps4
      go_wp2
      go_ret
      exact ⟨⟨_, rfl, unhide HO⟩, unhide HB⟩
    · have HPOS := hide (List.length_pos_iff.2 hn)
      have HNW := hide (rd_news (c := cW) (m := 3) (w := w.alloc (.cells #[] 34)) cW_len (fun i x hx r hr => (((Below.refl w.heap.size w).alloc (Nat.le_refl _) (.cells #[] 34)).cell (p := ⟨b, off + i * 3 + r, none⟩) hbl).trans (hcell i x hx r hr)))
      have HRL := hide (rowC_length (c := cW) cW_len l)
      have HI := hide hi; have Z0 := hide hz0; have Z1 := hide hz1; have Z2 := hide hz2; have HL := hide hl
      have HONE : Hid (∀ u ∈ rowC cW l, u.oneCell' = true) := hide (rowC_cells (fun x u hu => by simp [cW] at hu; rcases hu with rfl | rfl | rfl <;> rfl) l)
      clear hi hz0 hz1 hz2 hcell hl hn
      go_enter Try.func4, Try.ntmps4
      go_wp2_with (at_builtin; refine wpList_append_own _ rfl _ _ 22 rfl w.heap.size 34 i0 (.agg #[.int .i64 0, .int .i64 0, .bool false]) 3 24 Try.underlying22 (unhide HI) (unhide Z0) (unhide Z1) (unhide Z2) rfl (by decide) _ _ _ rfl (ownNone w 34 3) ⟨b, off, none⟩ l.length cap (rowC cW l) rfl (unhide HRL) (unhide HNW) (unhide HONE) ?c3 ?c4 ?c5 ?_)
      case c3 => have := unhide HL; unfold maxLen; omega
      case c4 => have := unhide HL; omega
      case c5 => simp
      intro v5 w5 hown5 hgrow5 _
      (try go_frame)
      have HO5 : Hid (OwnR w5 w.heap.size 34 3 cW v5 l) := hide hown5
      have HB5 := hide (((Below.refl w.heap.size w).alloc (Nat.le_refl _) (.cells #[] 34)).grown hgrow5 (by simp) (fun k hk => by have hk' : w.heap.size = k := Option.some.inj hk; omega))
      clear hown5 hgrow5
      go_wp2
      go_ret
      exact ⟨⟨_, rfl, unhide HO5⟩, unhide HB5⟩
set_option maxHeartbeats 2000000 in
theorem sameI_any (L : List Int) (u v : Value) (w : World) (hg : RdR w 1 cI u L) (hh : RdR w 1 cI v L) (hl : (L.length : Int) ≤ 9000000000000) :
    Calls Try.prog 11 #[u, v] w fun e w' => e = .returned (.bool true) ∧ Below w.heap.size w w' := by
  obtain ⟨ua, uc, rfl, fu⟩ := hg
  obtain ⟨va, vc, rfl, fv⟩ := hh
  have FU := hide fu; have FV := hide fv
  clear fu fv
  go_enter Try.func11, Try.ntmps11
  go_wp2
  go_loopw [13] (fun i wr => ∃ k : Nat, k ≤ L.length ∧ i = .int .i64 k ∧ ∃ q, wr = w.drewN q) (fun i _ => L.length - (intOf i).toNat)
  case atStart => exact ⟨0, Nat.zero_le _, rfl, 0, rfl⟩
  case round =>
    obtain ⟨k, hk, rfl, q, rfl⟩ := hrel
    by_cases hlt : k < L.length
    · obtain ⟨x, hx⟩ : ∃ s, L[k]? = some s := ⟨_, List.getElem?_eq_getElem hlt⟩
      rcases unhide FU with hn | ⟨b1, o1, rfl, _, hc1⟩
      · rw [hn] at hlt; simp at hlt
      rcases unhide FV with hn | ⟨b2, o2, rfl, _, hc2⟩
      · rw [hn] at hlt; simp at hlt
      have c0 : w.cell? ⟨b1, o1 + k, none⟩ = some (.int .i64 x) := (by have := hc1 k x hx 0 (by omega); rw [Nat.mul_one, Nat.add_zero] at this; exact this)
      have d0 : w.cell? ⟨b2, o2 + k, none⟩ = some (.int .i64 x) := (by have := hc2 k x hx 0 (by omega); rw [Nat.mul_one, Nat.add_zero] at this; exact this)
      have hki : (k : Int) < (L.length : Int) := by omega
      clear hx hc1 hc2
      go_wp2_with fail
      go_quiet (fail)
      go_wp2
      go_roundw
      case rel => exact ⟨k + 1, by omega, by go_num, _, rfl⟩
      case measure => simp [intOf]; omega
    · go_wp2
      go_ret
      exact ⟨rfl, below_drewN (Below.refl _ _) _⟩
set_option maxHeartbeats 2000000 in
theorem sameS_any (L : List ByteArray) (u v : Value) (w : World) (hg : RdR w 1 cS u L) (hh : RdR w 1 cS v L) (hl : (L.length : Int) ≤ 9000000000000) :
    Calls Try.prog 12 #[u, v] w fun e w' => e = .returned (.bool true) ∧ Below w.heap.size w w' := by
  obtain ⟨ua, uc, rfl, fu⟩ := hg
  obtain ⟨va, vc, rfl, fv⟩ := hh
  have FU := hide fu; have FV := hide fv
  clear fu fv
  go_enter Try.func12, Try.ntmps12
  go_wp2
  go_loopw [13] (fun i wr => ∃ k : Nat, k ≤ L.length ∧ i = .int .i64 k ∧ ∃ q, wr = w.drewN q) (fun i _ => L.length - (intOf i).toNat)
  case atStart => exact ⟨0, Nat.zero_le _, rfl, 0, rfl⟩
  case round =>
    obtain ⟨k, hk, rfl, q, rfl⟩ := hrel
    by_cases hlt : k < L.length
    · obtain ⟨x, hx⟩ : ∃ s, L[k]? = some s := ⟨_, List.getElem?_eq_getElem hlt⟩
      rcases unhide FU with hn | ⟨b1, o1, rfl, _, hc1⟩
      · rw [hn] at hlt; simp at hlt
      rcases unhide FV with hn | ⟨b2, o2, rfl, _, hc2⟩
      · rw [hn] at hlt; simp at hlt
      have c0 : w.cell? ⟨b1, o1 + k, none⟩ = some (.string x) := (by have := hc1 k x hx 0 (by omega); rw [Nat.mul_one, Nat.add_zero] at this; exact this)
      have d0 : w.cell? ⟨b2, o2 + k, none⟩ = some (.string x) := (by have := hc2 k x hx 0 (by omega); rw [Nat.mul_one, Nat.add_zero] at this; exact this)
      have hki : (k : Int) < (L.length : Int) := by omega
      clear hx hc1 hc2
      go_wp2_with fail
      go_quiet (fail)
      go_wp2
      go_roundw
      case rel => exact ⟨k + 1, by omega, by go_num, _, rfl⟩
      case measure => simp [intOf]; omega
    · go_wp2
      go_ret
      exact ⟨rfl, below_drewN (Below.refl _ _) _⟩
set_option maxHeartbeats 2000000 in
theorem sameW_any (L : List XWay) (u v : Value) (w : World) (hg : RdR w 3 cW u L) (hh : RdR w 3 cW v L) (hl : (L.length : Int) ≤ 9000000000000) :
    Calls Try.prog 10 #[u, v] w fun e w' => e = .returned (.bool true) ∧ Below w.heap.size w w' := by
  obtain ⟨ua, uc, rfl, fu⟩ := hg
  obtain ⟨va, vc, rfl, fv⟩ := hh
  have FU := hide fu; have FV := hide fv
  clear fu fv
  go_enter Try.func10, Try.ntmps10
  go_wp2
  go_loopw [13] (fun i wr => ∃ k : Nat, k ≤ L.length ∧ i = .int .i64 k ∧ ∃ q, wr = w.drewN q) (fun i _ => L.length - (intOf i).toNat)
  case atStart => exact ⟨0, Nat.zero_le _, rfl, 0, rfl⟩
  case round =>
    obtain ⟨k, hk, rfl, q, rfl⟩ := hrel
    by_cases hlt : k < L.length
    · obtain ⟨x, hx⟩ : ∃ s, L[k]? = some s := ⟨_, List.getElem?_eq_getElem hlt⟩
      rcases unhide FU with hn | ⟨b1, o1, rfl, _, hc1⟩
      · rw [hn] at hlt; simp at hlt
      rcases unhide FV with hn | ⟨b2, o2, rfl, _, hc2⟩
      · rw [hn] at hlt; simp at hlt
      have c0 : w.cell? ⟨b1, o1 + k * 3, none⟩ = some (.int .i64 x.code) := hc1 k x hx 0 (by omega)
      have d0 : w.cell? ⟨b2, o2 + k * 3, none⟩ = some (.int .i64 x.code) := hc2 k x hx 0 (by omega)
      have c1 : w.cell? ⟨b1, o1 + k * 3 + 1, none⟩ = some (.int .i64 x.when) := hc1 k x hx 1 (by omega)
      have d1 : w.cell? ⟨b2, o2 + k * 3 + 1, none⟩ = some (.int .i64 x.when) := hc2 k x hx 1 (by omega)
      have c2 : w.cell? ⟨b1, o1 + k * 3 + 2, none⟩ = some (.bool x.next) := hc1 k x hx 2 (by omega)
      have d2 : w.cell? ⟨b2, o2 + k * 3 + 2, none⟩ = some (.bool x.next) := hc2 k x hx 2 (by omega)
      have hki : (k : Int) < (L.length : Int) := by omega
      clear hx hc1 hc2
      go_wp2_with fail
      go_quiet (fail)
      go_wp2
      go_roundw
      case rel => exact ⟨k + 1, by omega, by go_num, _, rfl⟩
      case measure => simp [intOf]; omega
    · go_wp2
      go_ret
      exact ⟨rfl, below_drewN (Below.refl _ _) _⟩
end Go.Proofs.Ytadjbojlojnadaa
