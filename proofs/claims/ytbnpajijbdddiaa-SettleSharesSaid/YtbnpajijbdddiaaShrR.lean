/- Share of the document: the walk. -/
import Derived.Test.YtbnpajijbdddiaaShrC
import Derived.Test.YtbnpajijbdddiaaMapB
import Derived.Deep.AppendLies
namespace Go.Proofs.Ytbnpajijbdddiaa
open Go.RowKit
set_option linter.unusedVariables false

/-- the best of the first i that had none yet: -1 if there is none -/
def BestOf (K : Nat → Int) (D : Nat → Nat) (t i : Nat) (z : Int) : Prop :=
  (z = -1 ∧ ∀ j, j < i → chB D t j = true) ∨ ∃ m : Nat, z = m ∧ m < i ∧ chB D t m = false ∧ ∀ j, j < i → chB D t j = false → j ≠ m → ltK K m j
theorem BestOf.given {K : Nat → Int} {D : Nat → Nat} {t i : Nat} {z : Int} (h : BestOf K D t i z) (hc : chB D t i = true) : BestOf K D t (i + 1) z := by
  rcases h with ⟨h1, h2⟩ | ⟨m, h1, h2, h3, h4⟩
  · exact .inl ⟨h1, fun j hj => by
      by_cases e : j = i
      · rw [e]; exact hc
      · exact h2 j (by omega)⟩
  · refine .inr ⟨m, h1, by omega, h3, fun j hj hcj hjm => ?_⟩
    by_cases e : j = i
    · rw [e, hc] at hcj; cases hcj
    · exact h4 j (by omega) hcj hjm
theorem BestOf.first {K : Nat → Int} {D : Nat → Nat} {t i : Nat} (h : BestOf K D t i (-1)) (hc : chB D t i = false) : BestOf K D t (i + 1) i := by
  rcases h with ⟨h1, h2⟩ | ⟨m, h1, h2, h3, h4⟩
  · refine .inr ⟨i, rfl, by omega, hc, fun j hj hcj hjm => ?_⟩
    rw [h2 j (by omega)] at hcj; cases hcj
  · omega
theorem BestOf.more {K : Nat → Int} {D : Nat → Nat} {t i m : Nat} (h : BestOf K D t i m) (hc : chB D t i = false) (hk : K m < K i) : BestOf K D t (i + 1) i := by
  rcases h with ⟨h1, h2⟩ | ⟨m', h1, h2, h3, h4⟩
  · omega
  · obtain rfl : m = m' := by omega
    refine .inr ⟨i, rfl, by omega, hc, fun j hj hcj hjm => ?_⟩
    by_cases e : j = m
    · rw [e]; exact .inl hk
    · exact ltK.trans (.inl hk) (h4 j (by omega) hcj e)
theorem BestOf.stays {K : Nat → Int} {D : Nat → Nat} {t i m : Nat} (h : BestOf K D t i m) (hc : chB D t i = false) (hk : ¬ K m < K i) : BestOf K D t (i + 1) m := by
  rcases h with ⟨h1, h2⟩ | ⟨m', h1, h2, h3, h4⟩
  · omega
  · obtain rfl : m = m' := by omega
    refine .inr ⟨m, rfl, by omega, h3, fun j hj hcj hjm => ?_⟩
    by_cases e : j = i
    · rw [e]; unfold ltK; omega
    · exact h4 j (by omega) hcj hjm
/-- the best of all is the next in the order -/
theorem BestOf.all {K : Nat → Int} {D : Nat → Nat} {t n : Nat} {z : Int} (hk : Bk K D 0 n) (ht : t < n) (h : BestOf K D t n z) : z = (D t : Nat) := by
  have hDt := (hk.own t (Nat.zero_le _) ht).2
  have hnc : chB D t (D t) = false := by
    cases hc : chB D t (D t) with
    | false => rfl
    | true =>
      obtain ⟨j, hj, e⟩ := (chB_iff _ _ _).1 hc
      have := hk.inj (show j < n by omega) ht e
      omega
  rcases h with ⟨h1, h2⟩ | ⟨m, h1, h2, h3, h4⟩
  · rw [h2 _ hDt] at hnc; cases hnc
  · by_cases e : m = D t
    · rw [h1, e]
    · exfalso
      have h5 := h4 (D t) hDt hnc (fun x => e x.symm)
      obtain ⟨j, hj, hje⟩ := hk.onto m h2
      have hjt : t < j := by
        rcases Nat.lt_trichotomy j t with x | x | x
        · have : chB D t m = true := (chB_iff _ _ _).2 ⟨j, x, hje⟩
          rw [this] at h3; cases h3
        · rw [x] at hje; exact absurd hje.symm e
        · exact x
      have h6 := hk.srt t j (Nat.zero_le _) hjt hj
      rw [hje] at h6
      exact (h5.trans h6).irrefl
/-- who had a cent already, as the map says it -/
def givF (D : Nat → Nat) (t : Nat) (k : Int) : Bool := decide (0 ≤ k) && chB D t k.toNat
theorem givF_nat (D : Nat → Nat) (t i : Nat) : givF D t (i : Int) = chB D t i := by unfold givF; simp
theorem givF_zero (D : Nat → Nat) (k : Int) : false = givF D 0 k := by unfold givF chB; simp
theorem givF_next (D : Nat → Nat) (t : Nat) (k : Int) : updB (givF D t) (D t : Nat) true k = givF D (t + 1) k := by
  unfold updB givF
  by_cases e : k = (D t : Nat)
  · rw [if_pos e, chB_next, e]; simp
  · rw [if_neg e, chB_next]
    by_cases h : 0 ≤ k
    · have : (D t == k.toNat) = false := by rw [beq_eq_false_iff_ne]; omega
      rw [this, Bool.or_false]
    · rw [decide_eq_false h]; rfl
theorem loL_snoc (A S : Int) (ps : List Int) (k : Nat) : (List.range (k + 1)).map (loS A S ps) = (List.range k).map (loS A S ps) ++ [loS A S ps k] := by rw [List.range_succ, List.map_append]; rfl
set_option maxRecDepth 100000 in
set_option maxHeartbeats 8000000 in
theorem rshare_no (A : Int) (ps : List Int) (ao : Option Addr) (cap : Nat) (w : World) (hr : Rowint w ao ps) (hAb : -9223372036854775808 ≤ A ∧ A ≤ 9223372036854775807) (he : partE A ps ≠ 0) :
    Calls Try.prog 10 #[.int .i64 A, .slice ao ps.length cap] w fun e w' => e = .returned (.tuple #[.slice none 0 0, .int .i64 (partE A ps)]) ∧ Below w.heap.size w w' := by
  have n0 := fun w' => ramount_any A w'
  have hml : ps.length ≤ 9223372036854775807 := by have := hr.2.2; unfold maxLen at this; omega
  obtain ⟨hr, _, _⟩ := hr
  have hE3 : (amtB A = false ∨ ps.any wrongI = true) → partE A ps = 3 := fun h => by
    unfold partE
    rcases h with h | h
    · rw [h]; rfl
    · rw [h]; cases amtB A <;> rfl
  have hE2 : amtB A = true → ps.any wrongI = false → partE A ps = if 1000 < ps.length then 2 else if allS ps = 0 then 1 else 0 := fun h1 h2 => by unfold partE; rw [h1, h2]; rfl
  generalize hpe : partE A ps = pe at *
  have HR := hide hr; have N0 := hide n0; have HE3 := hide hE3; have HE2 := hide hE2; have HNE := hide he
  clear hr n0 hE3 hE2 hpe he
  go_enter Try.func10, Try.ntmps10
  go_wp2
  go_loopw [6, 19] (fun a i wr => ∃ (k : Nat) (z : Int), k ≤ ps.length ∧ i = .int .i64 k ∧ a = .int .i64 z ∧ Hid ((ps.take k).any wrongI = false ∧ (k ≤ 1000 → z = sumTo (pt ps) k)) ∧ wr = w) (fun _ i _ => ps.length - (intOf i).toNat)
  case atStart => exact ⟨0, 0, Nat.zero_le _, rfl, rfl, hide ⟨by simp, fun _ => rfl⟩, rfl⟩
  case round =>
    obtain ⟨k, z, hk, rfl, rfl, HA, rfl⟩ := hrel
    by_cases hlt : k < ps.length
    · obtain ⟨y, hy⟩ : ∃ y, ps[k]? = some y := ⟨_, List.getElem?_eq_getElem hlt⟩
      rcases (unhide HR) with hnil | ⟨b, off, rfl, hb, hc⟩
      · rw [hnil] at hlt; simp at hlt
      have c0 := hc k y hy
      have hst := anyQ_take_succ ps wrongI k y hy
      rw [(unhide HA).1, Bool.false_or] at hst
      have hki : (k : Int) < (ps.length : Int) := by omega
      by_cases hw : y < 0 ∨ 1000000 < y
      · have hall := anyQ_of_take ps wrongI (k + 1) (hst.trans (decide_eq_true hw))
        have hp := unhide HE3 (.inr hall)
        subst hp
        clear hst hall hc hy
        by_cases w1 : y < 0
        · clear hw
          go_wp2
          go_ret2
          exact ⟨rfl, Below.refl _ _⟩
        · have w2 : 1000000 < y := by omega
          clear hw
          go_wp2
          go_ret2
          exact ⟨rfl, Below.refl _ _⟩
      · have w1 : ¬ y < 0 := by omega
        have w2 : ¬ 1000000 < y := by omega
        have HX : Hid ((ps.take (k + 1)).any wrongI = false ∧ (k + 1 ≤ 1000 → wrap64 (z + y) = sumTo (pt ps) (k + 1))) := hide ⟨hst.trans (decide_eq_false hw), fun h => by
          have e1 := (unhide HA).2 (by omega)
          have e2 : sumTo (pt ps) (k + 1) = sumTo (pt ps) k + y := by rw [sumTo, pt_at hy]
          rw [e2, ← e1]
          have hb1 : ∀ m, m ≤ k → 0 ≤ sumTo (pt ps) m ∧ sumTo (pt ps) m ≤ 1000000 * m := by
            intro m hm
            induction m with
            | zero => simp [sumTo]
            | succ m ih =>
              have := ih (by omega)
              obtain ⟨u, hu⟩ : ∃ u, ps[m]? = some u := ⟨_, List.getElem?_eq_getElem (by omega)⟩
              have hmem : u ∈ ps.take k := by
                refine List.mem_of_getElem? (i := m) ?_
                rw [List.getElem?_take_of_lt (by omega)]; exact hu
              have hwu : wrongI u = false := anyQ_false (unhide HA).1 u hmem
              have := of_decide_eq_false hwu
              simp only [sumTo, pt_at hu]
              omega
          have := hb1 k (Nat.le_refl _)
          rw [← e1] at this
          unfold wrap64; omega⟩
        clear hst hw hc hy HA
        go_wp2
        go_roundw
        case rel => exact ⟨k + 1, _, by omega, by go_num, rfl, HX, by first | trivial | rfl⟩
        case measure => simp [intOf]; omega
    · have hall : ps.any wrongI = false := by have := (unhide HA).1; rw [List.take_of_length_le (by omega)] at this; exact this
      cases hA : amtB A with
      | false =>
        have hp := unhide HE3 (.inl hA)
        subst hp
        rw [hA] at N0
        clear hall hA HA
        go_wp2_with fail
        refine (unhide N0 _).mono ?_
        rintro e w1 ⟨rfl, rfl⟩
        go_wp2
        go_ret2
        exact ⟨rfl, Below.refl _ _⟩
      | true =>
        have hp := unhide HE2 hA hall
        rw [hA] at N0
        by_cases hl : 1000 < ps.length
        · rw [if_pos hl] at hp
          subst hp
          have hl' : (1000 : Int) < (ps.length : Int) := by omega
          clear hall hA HA hl
          go_wp2_with fail
          refine (unhide N0 _).mono ?_
          rintro e w1 ⟨rfl, rfl⟩
          go_wp2
          go_ret2
          exact ⟨rfl, Below.refl _ _⟩
        · rw [if_neg hl] at hp
          have hl' : ¬ (1000 : Int) < (ps.length : Int) := by omega
          have hz := (unhide HA).2 (by omega)
          have hkl : k = ps.length := by omega
          have hS : allS ps = 0 := by
            by_cases h : allS ps = 0
            · exact h
            · rw [if_neg h] at hp; exact absurd hp (unhide HNE)
          rw [if_pos hS] at hp
          have hz0 : z = 0 := by rw [hz, hkl]; exact hS
          subst hp
          subst hz0
          clear hall hA HA hl hz hkl hS
          go_wp2_with fail
          refine (unhide N0 _).mono ?_
          rintro e w1 ⟨rfl, rfl⟩
          go_wp2
          go_ret2
          exact ⟨rfl, Below.refl _ _⟩
set_option maxRecDepth 100000 in
set_option maxHeartbeats 16000000 in
theorem rshare_yes (A : Int) (ps : List Int) (ao : Option Addr) (cap : Nat) (w : World) (hr : Rowint w ao ps) (he : partE A ps = 0) (D : Nat → Nat) (hD : Bk (reS A (allS ps) ps) D 0 ps.length) :
    Calls Try.prog 10 #[.int .i64 A, .slice ao ps.length cap] w fun e w' => (∃ g c : Nat, e = .returned (.tuple #[.slice (some ⟨g, 0, none⟩) ps.length c, .int .i64 0]) ∧ PRow w' g 3 ps.length (fun i => .int .i64 (shS A (allS ps) ps D (leftS A (allS ps) ps ps.length).toNat i)) ∧ w.heap.size ≤ g) ∧ Below w.heap.size w w' := by
  obtain ⟨i0, hi, hz0, hz1, hz2⟩ := info_parts infoInt
  obtain ⟨hA, hw, hn, hS0⟩ := partE_zero he
  have n0 := fun w' => ramount_any A w'
  rw [show amtB A = true from decide_eq_true hA] at n0
  have hsn := sum_in hw ps.length hn
  have hSS : sumTo (pt ps) ps.length = allS ps := rfl
  have h0 : 0 < ps.length := by
    rcases Nat.eq_zero_or_pos ps.length with h | h
    · exfalso; apply hS0; unfold allS; rw [h]; rfl
    · exact h
  have hrow : ∃ b off, ao = some ⟨b, off, none⟩ ∧ b < w.heap.size ∧ ∀ i x, ps[i]? = some x → w.cell? ⟨b, off + i, none⟩ = some (.int .i64 x) := by
    rcases hr.1 with h | h
    · rw [h] at h0; simp at h0
    · exact h
  obtain ⟨b, off, rfl, hb, hc⟩ := hrow
  rw [hSS] at hsn
  generalize hSv : allS ps = S at *
  have hS : 0 < S ∧ S ≤ 1000000000 := by omega
  have hni : (ps.length : Int) ≤ 1000 := by omega
  obtain ⟨lf0, lf1⟩ := left_in A S ps ps.length hSS hS.1 h0
  obtain ⟨T, hT⟩ : ∃ T, T = (leftS A S ps ps.length).toNat := ⟨_, rfl⟩
  have hTL : leftS A S ps ps.length = (T : Int) := by omega
  have hTn : T < ps.length := by omega
  rw [← hT]
  have N0 := hide n0; have HC := hide hc; have HW := hide hw; have HSS := hide hSS; have HA := hide hA; have HS := hide hS; have HD := hide hD; have HI := hide hi; have Z0 := hide hz0; have Z1 := hide hz1; have Z2 := hide hz2
  have HHN := hide hn; have HH0 := hide h0; have HTL := hide hTL
  have hmm := @run_makeMap Try.prog
  clear n0 hc hw hSS hr he hS0 hSv hsn hA hS hD hi hz0 hz1 hz2 lf0 lf1 hT hTL
  go_enter Try.func10, Try.ntmps10
  go_wp2
  go_loopw [6, 19] (fun a i wr => ∃ (k : Nat), k ≤ ps.length ∧ i = .int .i64 k ∧ a = .int .i64 (sumTo (pt ps) k) ∧ wr = w) (fun _ i _ => ps.length - (intOf i).toNat)
  case atStart => exact ⟨0, Nat.zero_le _, rfl, rfl, rfl⟩
  case round =>
    obtain ⟨k, hk, rfl, rfl, hwr⟩ := hrel
    have hwr' := hwr.symm
    subst hwr'
    clear hwr
    have hsb := sum_in (unhide HW) k (by have := unhide HHN; omega)
    obtain ⟨s1, s2⟩ := hsb
    by_cases hlt : k < ps.length
    · obtain ⟨x, hx⟩ : ∃ x, ps[k]? = some x := ⟨_, List.getElem?_eq_getElem hlt⟩
      have c0 := unhide HC k x hx
      have hp := pt_in (unhide HW) k
      rw [pt_at hx] at hp
      obtain ⟨p1, p2⟩ := hp
      have hsb2 := sum_in (unhide HW) (k + 1) (by have := unhide HHN; omega)
      have e1 : sumTo (pt ps) (k + 1) = sumTo (pt ps) k + x := by rw [sumTo, pt_at hx]
      rw [e1] at hsb2
      obtain ⟨s3, s4⟩ := hsb2
      have E1 := hide e1
      have hki : (k : Int) < (ps.length : Int) := by omega
      have p3 : ¬ x < 0 := by omega
      have p4 : ¬ 1000000 < x := by omega
      generalize sumTo (pt ps) k = X at *
      clear hx e1
      go_wp2
      go_roundw
      case rel => exact ⟨k + 1, by omega, by go_num, by rw [unhide E1], by first | trivial | rfl⟩
      case measure => simp [intOf]; omega
    · have hkl : k = ps.length := by omega
      have e1 : sumTo (pt ps) k = S := by rw [hkl]; exact unhide HSS
      rw [e1]
      have hSp := (unhide HS).1
      have hSz : (S == 0) = false := by rw [beq_eq_false_iff_ne]; omega
      have hl' : ¬ (1000 : Int) < (ps.length : Int) := by omega
      clear s1 s2 e1 hkl
      go_wp2_with fail
      refine (unhide N0 _).mono ?_
      rintro e w1 ⟨rfl, hw1⟩
      have hw1' := hw1.symm
      subst hw1'
      clear hw1
      go_wp2
      go_loopw [9, 10, 44] (fun v l i wr => ∃ k : Nat, k ≤ ps.length ∧ i = .int .i64 k ∧ l = .int .i64 (leftS A S ps k) ∧ OwnR wr w.heap.size 3 1 (fun x => [Value.int .i64 x]) v ((List.range k).map (loS A S ps)) ∧ Below w.heap.size w wr) (fun _ _ i _ => ps.length - (intOf i).toNat)
      case atStart => exact ⟨0, Nat.zero_le _, rfl, by simp [leftS, sumTo], OwnR.nil _ _ _ _ _, Below.refl _ _⟩
      case round =>
        clear N0
        obtain ⟨k, hk, rfl, rfl, hown, hbw⟩ := hrel
        by_cases hlt : k < ps.length
        · obtain ⟨x, hx⟩ : ∃ x, ps[k]? = some x := ⟨_, List.getElem?_eq_getElem hlt⟩
          have c0 : wr.cell? ⟨b, off + k, none⟩ = some (.int .i64 x) := (hbw.cell (p := ⟨b, off + k, none⟩) hb).trans (unhide HC k x hx)
          have hli := lo_in A S ps (unhide HA) (unhide HS).1 (unhide HW) k
          obtain ⟨l1, l2, l3, l4⟩ := hli
          have hlp := left_part A S ps ps.length (unhide HA) (unhide HS).1 (unhide HW) (unhide HSS) k (by omega)
          have hlp2 := left_part A S ps ps.length (unhide HA) (unhide HS).1 (unhide HW) (unhide HSS) (k + 1) (by omega)
          have hnx : leftS A S ps (k + 1) = leftS A S ps k - loS A S ps k := by simp only [leftS, sumTo]; omega
          rw [hnx] at hlp2
          rw [pt_at hx] at l1 l2
          have hq : wrap64 ((wrap64 (A * x)).tdiv S) = loS A S ps k := by
            have e : A * x / S = loS A S ps k := by unfold loS; rw [pt_at hx]
            rw [show wrap64 (A * x) = A * x by unfold wrap64; omega, Int.tdiv_eq_ediv_of_nonneg l1, e]
            unfold wrap64; omega
          have hki : (k : Int) < (ps.length : Int) := by omega
          have hsnoc := loL_snoc A S ps k
          have hll : ((List.range k).map (loS A S ps)).length = k := by simp
          have hvb : ∀ bb, u9.ownBlock = some bb → w.heap.size ≤ bb := fun bb hbb => (hown.lt bb hbb).1
          have HVB := hide hvb; have HSN := hide hsnoc; have HLL := hide hll
          have HNX := hide hnx; have HOW := hide hown; have HBW := hide hbw
          obtain ⟨p1, p2⟩ := hlp
          obtain ⟨p3, p4⟩ := hlp2
          obtain ⟨a1, a2⟩ := unhide HA
          generalize loS A S ps k = lk at *
          generalize leftS A S ps k = L at *
          generalize (List.range k).map (loS A S ps) = LL at *
          have hwb := hbw.size
          clear hown hbw hx l1 l2 hnx hvb hsnoc hll
          go_wp2_with (at_builtin; refine wpList_append_own _ rfl _ _ 31 rfl w.heap.size 3 i0 (.int .i64 0) 1 8 Try.underlying31 (unhide HI) (unhide Z0) (unhide Z1) (unhide Z2) rfl (by decide) _ _ _ rfl ((unhide HOW).alloc _) ⟨wr.heap.size, 0, none⟩ 1 1 [.int .i64 lk] rfl rfl (World.news_of_block (heap_alloc_new wr _)) ?c2 ?c3 ?c4 ?c5 ?_)
          case c2 => simp [Value.oneCell']
          case c3 => rw [unhide HLL]; unfold maxLen; omega
          case c4 => rw [unhide HLL]; omega
          case c5 => first | omega | (simp; omega)
          intro v5 w5 hown5 hgrow5 _
          have ho5 : OwnR w5 w.heap.size 3 1 (fun x => [Value.int .i64 x]) v5 (LL ++ [lk]) := OwnR.snoc lk hown5
          have hb5 : Below w.heap.size w w5 := ((unhide HBW).alloc hwb _).grown hgrow5 (by simp; omega) (fun bb hbb => unhide HVB bb hbb)
          have HO5 := hide ho5; have HB5 := hide hb5
          clear hown5 hgrow5 ho5 hb5
          go_wp2
          go_roundw
          case rel => exact ⟨k + 1, by omega, by go_num, by rw [unhide HNX], by rw [unhide HSN]; exact unhide HO5, unhide HB5⟩
          case measure => simp [intOf]; omega
        · have hkl : k = ps.length := by omega
          rw [hkl] at hown
          have hTLk : leftS A S ps k = (T : Int) := by rw [hkl]; exact unhide HTL
          rw [hTLk]
          rcases hown.form.2 with hnil | ⟨g, gc, rfl, hg, hgl⟩
          · exfalso
            have h1 := congrArg List.length hnil
            rw [List.length_map, List.length_range, List.length_nil] at h1
            have := unhide HH0
            omega
          have hpr := PRow.of_own hown
          rw [List.length_map, List.length_range] at hpr
          have hpr2 : PRow wr g 3 ps.length (fun i => .int .i64 (shS A S ps D 0 i)) := hpr.congr (fun i hi => by
            simp [shS, chI_zero, hi])
          have HPR := hide hpr2; have HBW := hide hbw
          clear hown hpr hpr2 hkl hTLk hbw
          simp only [List.length_map, List.length_range]
          go_wp2
          obtain ⟨mb, hmb⟩ : ∃ mb, mb = wr.heap.size := ⟨_, rfl⟩
          rw [← hmb]
          have hm0 := BMap.made wr
          rw [← hmb] at hm0
          have hpr0 : PRow (wr.alloc (.map #[] 0)) g 3 ps.length (fun i => .int .i64 (shS A S ps D 0 i)) := (unhide HPR).of_block (heap_alloc_old wr _ (unhide HPR).lt)
          have hbw0 := (unhide HBW).alloc (unhide HBW).size (.map #[] 0)
          have hgmb : g ≠ mb := by have := (unhide HPR).lt; omega
          have hmbw : w.heap.size ≤ mb := by have := (unhide HBW).size; omega
          have HM0 := hide hm0; have HP0 := hide hpr0; have HB0 := hide hbw0
          clear HPR HBW hm0 hpr0 hbw0 hmb hmm
          generalize wr.alloc (.map #[] 0) = wq at *
          go_loopw [10] (fun l wr => ∃ t : Nat, t ≤ T ∧ l = .int .i64 ((T - t : Nat) : Int) ∧ PRow wr g 3 ps.length (fun i => .int .i64 (shS A S ps D t i)) ∧ BMap wr mb t (givF D t) ∧ Below w.heap.size w wr) (fun l _ => (intOf l).toNat)
          case atStart => exact ⟨0, Nat.zero_le _, rfl, unhide HP0, (unhide HM0).congr (givF_zero D), unhide HB0⟩
          case round =>
            clear HM0 HP0 HB0
            obtain ⟨t, ht, rfl, hpr, hmap, hbw⟩ := hrel
            obtain ⟨r, hr⟩ : ∃ r, r = T - t := ⟨_, rfl⟩
            rw [← hr]
            by_cases hlt : t < T
            · have hrd : (0 : Int) < (r : Int) := by omega
              have hrdn : decide (0 < r) = true := decide_eq_true (by omega)
              have HR := hide hr; have HPR := hide hpr; have HMP := hide hmap; have HBW := hide hbw
              clear hr hpr hmap hbw
              go_wp2
              generalize wr = wz at *
              go_loopw [14, 71] (fun bz i wr => ∃ (i' : Nat) (z : Int), i' ≤ ps.length ∧ i = .int .i64 i' ∧ bz = .int .i64 z ∧ Hid (BestOf (reS A S ps) D t i' z) ∧ ∃ q, wr = wz.drewN q) (fun _ i _ => ps.length - (intOf i).toNat)
              case atStart => exact ⟨0, -1, Nat.zero_le _, rfl, rfl, hide (.inl ⟨rfl, fun j hj => by omega⟩), 0, rfl⟩
              case round =>
                obtain ⟨i, z, hi, rfl, rfl, HZ, q, rfl⟩ := hrel
                by_cases hil : i < ps.length
                · obtain ⟨x, hx⟩ : ∃ x, ps[i]? = some x := ⟨_, List.getElem?_eq_getElem hil⟩
                  have hcw := fun j y (hj : ps[j]? = some y) => ((unhide HBW).cell (p := ⟨b, off + j, none⟩) hb).trans (unhide HC j y hj)
                  have c0 : wz.cell? ⟨b, off + i, none⟩ = some (.int .i64 x) := hcw i x hx
                  have hlk : ∀ q, (Instr.lookup 54 (.map (some mb)) (.int .i64 (i : Int)) false).run Try.prog (wz.drewN q) = .ok (.bool (chB D t i)) (wz.drewN q) := fun q => by
                    have := ((unhide HMP).drewN q).look (i : Int) (by omega) (by omega)
                    rw [givF_nat] at this
                    exact this
                  have hli := lo_in A S ps (unhide HA) (unhide HS).1 (unhide HW) i
                  obtain ⟨l1, l2, l3, l4⟩ := hli
                  rw [pt_at hx] at l1 l2
                  have hrm : (wrap64 (A * x)).tmod S = reS A S ps i := by
                    rw [show wrap64 (A * x) = A * x by unfold wrap64; omega, Int.tmod_eq_emod_of_nonneg l1]
                    unfold reS; rw [pt_at hx]
                  have hii : (i : Int) < (ps.length : Int) := by omega
                  clear l1 l2 l3 l4
                  cases hch : chB D t i with
                  | true =>
                    rw [hch] at hlk
                    have HX := hide ((unhide HZ).given hch)
                    clear hch hx hcw
                    go_wp2_with fail
                    go_quiet (fail)
                    go_wp2
                    go_roundw
                    case rel => exact ⟨i + 1, z, by omega, by go_num, rfl, HX, _, rfl⟩
                    case measure => simp [intOf]; omega
                  | false =>
                    rw [hch] at hlk
                    rcases id (unhide HZ) with ⟨hz1, hz2⟩ | ⟨m, hz1, hz2, hz3, hz4⟩
                    · subst hz1
                      have HX := hide ((unhide HZ).first hch)
                      clear hch hx hcw hz2
                      go_wp2_with fail
                      go_quiet (fail)
                      go_wp2
                      go_roundw
                      case rel => exact ⟨i + 1, i, by omega, by go_num, rfl, HX, _, rfl⟩
                      case measure => simp [intOf]; omega
                    · subst hz1
                      obtain ⟨y, hy⟩ : ∃ y, ps[m]? = some y := ⟨_, List.getElem?_eq_getElem (by omega)⟩
                      have c1 : wz.cell? ⟨b, off + m, none⟩ = some (.int .i64 y) := hcw m y hy
                      have hlm := lo_in A S ps (unhide HA) (unhide HS).1 (unhide HW) m
                      obtain ⟨l1, l2, l3, l4⟩ := hlm
                      rw [pt_at hy] at l1 l2
                      have hrm2 : (wrap64 (A * y)).tmod S = reS A S ps m := by
                        rw [show wrap64 (A * y) = A * y by unfold wrap64; omega, Int.tmod_eq_emod_of_nonneg l1]
                        unfold reS; rw [pt_at hy]
                      have hmi : (m : Int) < (ps.length : Int) := by omega
                      have hm0 : decide ((m : Int) < 0) = false := decide_eq_false (by omega)
                      have hm0' : ¬ (m : Int) < 0 := by omega
                      have hmo := (unhide HZ).more hch
                      have hsy := (unhide HZ).stays hch
                      have HMO := hide hmo; have HSY := hide hsy
                      generalize reS A S ps i = ri at *
                      generalize reS A S ps m = rm at *
                      clear hch hx hcw hy l1 l2 l3 l4 hz2 hz3 hz4 hmo hsy HZ
                      by_cases hk : rm < ri
                      · have HX := hide (unhide HMO hk)
                        go_wp2_with fail
                        go_quiet (fail)
                        go_wp2
                        go_roundw
                        case rel => exact ⟨i + 1, i, by omega, by go_num, rfl, HX, _, rfl⟩
                        case measure => simp [intOf]; omega
                      · have HX := hide (unhide HSY hk)
                        go_wp2_with fail
                        go_quiet (fail)
                        go_wp2
                        go_roundw
                        case rel => exact ⟨i + 1, m, by omega, by go_num, rfl, HX, _, rfl⟩
                        case measure => simp [intOf]; omega
                · have hin : i = ps.length := by omega
                  have hbest := unhide HZ
                  rw [hin] at hbest
                  have hz := hbest.all (unhide HD) (show t < ps.length by omega)
                  subst hz
                  have hDt := ((unhide HD).own t (Nat.zero_le _) (by omega)).2
                  have hnx := fun j => chI_next (unhide HD) (show t < ps.length by omega) j
                  have hdi : ((D t : Nat) : Int) < (ps.length : Int) := by omega
                  have hli := lo_in A S ps (unhide HA) (unhide HS).1 (unhide HW) (D t)
                  have hci := chI_in D t (D t)
                  have hsb : 0 ≤ shS A S ps D t (D t) ∧ shS A S ps D t (D t) ≤ 999999999999000001 := by unfold shS; omega
                  obtain ⟨s1, s2⟩ := hsb
                  have HNX := hide hnx
                  clear hin hbest HZ hli hci hnx
                  go_wp2_with (at_mapUpdate; refine wpList_bmap_put _ rfl _ _ _ rfl mb t (givF D t) rfl ((unhide HMP).drewN q) (by unfold maxLen; omega) ((D t : Nat) : Int) true rfl rfl (by omega) (by omega) ?_)
                  intro w6 hm6 hg6
                  have hp6 : PRow w6 g 3 ps.length (fun i => .int .i64 (shS A S ps D t i)) := ((unhide HPR).drewN q).of_block (hg6.block g (unhide HPR).lt (by intro e; injection e with e; exact hgmb e))
                  have hb6 : Below w.heap.size w w6 := (below_drewN (unhide HBW) q).grown hg6 (unhide HBW).size (fun bb hbb => by injection hbb; omega)
                  have c2 := hp6.cell hDt
                  have f2 := hp6.frozen (D t)
                  have hp7 := hp6.set (D t) hDt (.int .i64 (shS A S ps D t (D t) + 1))
                  have hp8 : PRow (w6.setCell ⟨g, D t, none⟩ (.int .i64 (shS A S ps D t (D t) + 1))) g 3 ps.length (fun i => .int .i64 (shS A S ps D (t + 1) i)) := hp7.congr (fun i hi => by
                    have hn := unhide HNX i
                    by_cases e : i = D t
                    · rw [if_pos e] at hn ⊢
                      unfold shS
                      rw [hn, e]; congr 1; omega
                    · rw [if_neg e] at hn ⊢
                      unfold shS
                      rw [hn])
                  have hm8 := (hm6.congr (givF_next D t)).setCell (a := ⟨g, D t, none⟩) (fun e => hgmb e.symm) (.int .i64 (shS A S ps D t (D t) + 1))
                  have hb8 := hb6.setCell (p := ⟨g, D t, none⟩) (by exact hg) (.int .i64 (shS A S ps D t (D t) + 1))
                  have HP8 := hide hp8; have HM8 := hide hm8; have HB8 := hide hb8
                  generalize shS A S ps D t (D t) = v at *
                  generalize D t = dk at *
                  have hrr : IntKind.i64.wrap ((r : Int) - 1) = ((T - (t + 1) : Nat) : Int) := by have := unhide HR; rw [IntKind.wrap_i64]; omega
                  clear hm6 hg6 hp6 hb6 hp7 hp8 hm8 hb8 hDt
                  go_wp2
                  go_roundw
                  case rel => exact ⟨t + 1, by omega, by have := unhide HR; go_num, unhide HP8, unhide HM8, unhide HB8⟩
                  case measure => simp [intOf]; have := unhide HR; omega
            · have hr0 : r = 0 := by omega
              have htT : t = T := by omega
              subst hr0
              subst htT
              have HPR := hide hpr
              clear hr hmap hpr
              go_wp2
              go_ret2
              exact ⟨⟨g, gc, rfl, unhide HPR, hg⟩, hbw⟩
end Go.Proofs.Ytbnpajijbdddiaa
